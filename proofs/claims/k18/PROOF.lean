import PyProof.Rows.All
import Wide.All
import OpenK.AllK
import Wide.FinOn
import Lean
import PyProof.EqAt
import PyProof.EqKinds
import PyProof.TupleCall
import PyProof.StationsW
import PyProof.RulesAs
import PyProof.ExcClass2
import PyProof.Rows.Exc
import OpenK.KMake
import PyProof.InstStoreFacts
import OpenK.KCls
import PyProof.ExcArgsOwn
import PyProof.ExcAttrAll.ValueError
import PyProof.FitsInt
import PyProof.FString
import PyProof.FString4
import PyProof.StrLawsRepr
import PyProof.NsDelKeeps
import PyProof.NoPylong
import PyProof.FitsBits
import PyProof.Rows.RuleM_int
import PyProof.P3In
import PyProof.NeData
import PyProof.Draws
import PyProof.ZipIter
import PyProof.EnumMake
import PySem.SetOps
import PyProof.SetScanFacts
import PyProof.WalksMore
import PyProof.SetNew
import PyProof.SetKind
import PyProof.Rows.SetFrom
import PyProof.TupleKey
import PyProof.IsRules
import PyProof.SetRoads
import PyProof.ListMulRoad
import PyProof.Rows.ListMulArg
import PySem.Challenge.RW_mostrows_k18_houses_let_by_and_refused
set_option Elab.async false
set_option linter.all false
set_option maxRecDepth 100000
set_option maxHeartbeats 4000000
set_option compiler.extract_closed false
def a3n:=@PySem.wpAny_bind
def a3o:=@PySem.wpAny_pure
def a3p:=@if_pos
def a3q:=@if_neg
def a3r:=@decide_eq_false
def a3s:=@PySem.wpAny_holding
def a3t:=@PySem.wpAny_newObj_type
def a3u:=@decide_eq_true_eq
def a3v:=@decide_eq_true
def a3w:=@beq_iff_eq
def a3x:=@PySem.wpAny_field
def a3y:=@if_false
def a3z:=@PySem.wpAny_Call_Name_kw
def a3A:=@PySem.wpAny_call_entry
def a3B:=@PySem.wpAny_mono
def a3C:=@PySem.codeAny_builtin
def a3D:=@if_true
def a3E:=@PySem.wpAny_truthy_bool
def a3F:=@PySem.wpAny_loadPart'
def a3G:=@PySem.wpAny_setField
def a3H:=@congrArg
def a3I:=@PySem.codeAny_call_builtin
def a3J:=@PySem.plainId_quiet
def a3K:=@PySem.call_meets
def a3L:=@PySem.wpAny_typeOf
def a3M:=@PySem.wpAny_passesOwn
def a3N:=@bne_self_eq_false
def a3O:=@PySem.sizeLine_eq
def a3P:=@PySem.wpAny_getItem_str_slice
def a3Q:=@PySem.wpAny_standAt
def a3R:=@PySem.wpAny_attempt
def a3S:=@PySem.wpAny_call
def a3T:=@PySem.wpAny_loadPart_at
def a3U:=@PySem.codeAny_mono
def a3V:=@PySem.wpAny_seqItems
def a3W:=@PySem.builtinLookup_eq_fast
def a3X:=@PySem.wpAny_askSetting
def a3Y:=@PySem.wpAny_specialOf
def a3Z:=@PySem.wpAny_updateSeq
def a4l:=@PySem.wpAny_pyIter_tuple
def a4m:=@PySem.isSubtype_type
def a4n:=@PySem.wpAny_load
def a4o:=@PySem.wpAny_ite_split
def a4p:=@PySem.wpAny_setEntries_of
def a4q:=@PySem.putSet_of
def a4r:=@PySem.wpAny_rule
def a0a:=@List.getElem?_eq_getElem
def a1a:=@List.length_map
def a2a:=@PySem.Heap.get?_push_of_some
def a3a:=@List.getElem?_eq_some_iff
def a4a:=@List.mem_cons_self
def a5a:=@Option.some.inj
def a6a:=@Nat.le_refl
def a7a:=@List.getElem?_set_ne
def a8a:=@List.mem_cons_of_mem
def a9a:=@List.size_toArray
def a0b:=@PySem.Heap.lt_size
def a1b:=@Bool.false_ne_true
def a2b:=@PySem.Heap.get?_push_size
def a3b:=@List.mem_singleton
def a4b:=@List.getElem?_map
def a5b:=@Nat.lt_of_lt_of_le
def a6b:=@List.length_append
def a7b:=@List.mem_cons
def a8b:=@Nat.le_trans
def a9b:=@List.mem_of_getElem?
def a0c:=@List.mem_append
def a1c:=@List.getElem?_set_self
def a2c:=@List.mem_append_right
def a3c:=@Array.getElem?_eq_getElem
def a4c:=@PySem.Heap.get?_update_other
def a5c:=@Option.map_eq_some_iff
def a6c:=@Array.getElem?_toList
def a7c:=@List.getElem?_eq_none_iff
def a8c:=@List.getD_eq_getElem?_getD
def a9c:=@Nat.ne_of_lt
def a0d:=@PySem.Heap.get?_update_self
def a1d:=@List.map_append
def a2d:=@Nat.zero_le
def a3d:=@Ne.symm
def a4d:=@PySem.F.plainAttrs_list
def a5d:=@Bool.and_eq_true
def a6d:=@Array.getElem?_eq_some_iff
def a7d:=@List.length_take
def a8d:=@List.getElem?_cons_succ
def a9d:=@List.getElem?_toArray
def a0e:=@Nat.lt_irrefl
def a1e:=@Array.length_toList
def a2e:=@List.mem_range
def a3e:=@List.mem_of_mem_take
def a4e:=@PyProof.Rows.callWith_type1
def a5e:=@PyProof.Rows.slot_tuple_getitem
def a6e:=@Nat.not_lt_zero
def a7e:=@List.map_cons
def a8e:=@PySem.W.kia_one
def a9e:=@List.eq_nil_of_length_eq_zero
def a0f:=@Classical.byContradiction
def a1f:=@PySem.Around.under_plainId
def a2f:=@PySem.F.slot_list_append
def a3f:=@PySem.F.type_list_append
def a4f:=@List.append_nil
def a5f:=@List.length_set
def a6f:=@PySem.PassesOwn.never
def a7f:=@List.getElem?_append_right
def a8f:=@Bool.eq_iff_iff
def a9f:=@List.getElem?_append_left
def a0g:=@Nat.le_of_lt_succ
def a1g:=@Int.emod_lt_of_pos
def a2g:=@List.mem_append_left
def a3g:=@Nat.zero_add
def a4g:=@List.take_of_length_le
def a5g:=@List.getElem_of_mem
def a6g:=@PySem.F.plain_extend_loop
def a7g:=@Nat.le_of_lt
def a8g:=@List.getElem?_eq_none
def a9g:=@Nat.lt_of_le_of_lt
def a0h:=@List.length_drop
def a1h:=@List.length_cons
def a2h:=@PySem.Heap.size_push
def a3h:=@List.mem_map
def a4h:=@Nat.pow_succ
def a5h:=@PyProof.Rows.F.plain_set_update_loop
def a6h:=@List.filterMap_cons
def a7h:=@PySem.Heap.SameBut.update
def a8h:=@Int.emod_nonneg
def a9h:=@Array.getD_eq_getD_getElem?
def a0i:=@PySem.F.slot_tuple_iterator_next
def a1i:=@List.all_eq_true
def a2i:=@List.pairwise_cons
def a3i:=@List.ext_getElem?
def a4i:=@Nat.lt_trans
def a5i:=@Nat.mul_comm
def a6i:=@PySem.mem_of_lookup
def a7i:=@List.lookup_cons
def a8i:=@Array.getElem?_eq_none
def a9i:=@PySem.F.slot_tuple_mul
def a0j:=@Array.append_assoc
def a1j:=@PySem.Obj.data_mapFields
def a2j:=@Nat.lt_or_eq_of_le
def a3j:=@Nat.ne_of_gt
def a4j:=@List.nodup_cons
def a5j:=@List.length_nil
def a6j:=@PySem.F.slot_int_rmul
def a7j:=@List.take_add_one
def a8j:=@Nat.le_of_not_lt
def a9j:=@Nat.lt_of_not_le
def a0k:=@Option.bind_some
def a1k:=@Nat.lt_succ_self
def a2k:=@List.map_take
def a3k:=@Nat.not_lt
def a4k:=@Bool.and_false
def a5k:=@Nat.mul_assoc
namespace Hd
open PySem PySem.W
noncomputable def sQ(s:Stmt)(i:Nat):Stmt:=match s with
 | .ClassDef _ _ _ b _ _ _ _ _ _ _=>b.getD i (.Pass ⟨0,0,0,0⟩)
 | _=>.Pass ⟨0,0,0,0⟩
noncomputable def top(i:Nat):Stmt:=PySem.Challenge.pw_mostrows_k18_houses_let_by_and_refused.main.body.getD i (.Pass ⟨0,0,0,0⟩)
noncomputable def kG(x q:Str)(s:Stmt)(m:Value)(c:Addr):FuncData:=match s with
 | .FunctionDef _ a b _ _ _ e _ _ _=>fnOf x q a b e .none .none .none m none (.ref c) .none
 | _=>default
noncomputable def dG2:DefRec:=match top 32 with
 | .FunctionDef n a b _ _ _ e _ _ p=>⟨n,a,b,e,p⟩
 | _=>⟨"",default,[],default,default⟩
noncomputable def kE(P:Params)(x:Str)(t:Tok)(v:Value):DictEntry:=⟨PyData.keyHash P x,.str x t,v⟩
noncomputable def kT(l:List Value):Obj:=⟨.type "tuple",none,.seq l.toArray 0,#[]⟩
noncomputable def kF(f:FuncData):Obj:=⟨.type "function",none,.func f,#[]⟩
noncomputable def kL:Value:=.str "law_mostrows_k18_houses_let_by_and_refused" 344
noncomputable def kH(x:Str)(i:Nat)(c:Addr):=kG x x (top i) kL c
noncomputable def dG3:=kG "__init__" "BadTable.__init__" (sQ (top 2) 0) (.str "mostrows.errors" 187) 40
noncomputable def dG4:=kG "__init__" "BadQuestion.__init__" (sQ (top 3) 0) (.str "mostrows.errors" 187) 59
noncomputable def cM7:=kG "__init__" "BadHouse.__init__" (sQ (top 4) 0) (.str "mostrows.errors" 187) 78
noncomputable def dG5:=kG "__init__" "NoRow.__init__" (sQ (top 5) 0) (.str "mostrows.errors" 187) 97
noncomputable def bO5:=kG "is_value" "is_value" (top 8) (.str "mostrows.tables" 305) 109
noncomputable def bO6:=kG "is_row" "is_row" (top 9) (.str "mostrows.tables" 305) 114
noncomputable def bO7:=kG "first_wrong_row" "first_wrong_row" (top 10) (.str "mostrows.tables" 305) 121
noncomputable def bO8:=kG "look_house" "look_house" (top 12) (.str "mostrows.houses" 332) 128
noncomputable def bO9:=kH "_law_box" 14 135
noncomputable def bP0:=kH "_law_take" 15 142
noncomputable def bP1:=kH "_law_order" 16 149
noncomputable def bP2:=kH "_law_names" 17 154
noncomputable def bP3:=kH "_law_some_columns" 18 161
noncomputable def bP4:=kH "_law_any_tables" 19 168
noncomputable def bP5:=kH "_law_ear_tables" 20 175
noncomputable def bP6:=kH "_law_ring_tables" 21 180
noncomputable def bP7:=kH "_law_question" 22 187
noncomputable def bP8:=kH "_law_columns" 23 192
noncomputable def bP9:=kH "_law_value" 24 199
noncomputable def bQ0:=kH "_law_house" 25 204
noncomputable def bQ1:=kH "_law_bad_rows" 27 216
noncomputable def bQ2:=kH "_law_changed" 28 223
noncomputable def bQ3:=kH "_law_rows_right" 29 228
noncomputable def bQ4:=kH "_law_due" 30 235
noncomputable def bQ5:=kH "_law_right" 31 242
noncomputable def aC3:=kH "law" 32 247
noncomputable def kC(x:Str)(a:Tok)(q:Str)(b c:Tok)(d e f:Int)(g:Addr)(h:Int)(i j k l:Addr)(m n:Int)(o:Tok):Obj:=⟨.type "code",none,.fields #[.str x a,.str q b,.str "/claim/cut.py" c,.int d 0,.int e 0,.int 0 0,.int 0 0,.int f 0,.ref g,.bool true,.int h 0,.ref i,.none,.ref j,.ref k,.ref l,.int m 0,.int n 0,.str "/claim/cut.py" o],#[]⟩
noncomputable def KF(P:Params):W.Frag:=[
(2,⟨.none,none,(.dict #[] 0),#[]⟩),
(3,⟨(.type "dict"),none,(.dict #[kE P "__name__" 165 kL,kE P "__doc__" 166 .none,kE P "__package__" 167 .none,kE P "__loader__" 168 (.builtin "__main__.__loader__#opaque"),kE P "__spec__" 169 .none,kE P "__annotations__" 170 (.ref 6),kE P "__builtins__" 171 (.ref 4),kE P "__file__" 173 (.str "/claim/cut.py" 172),kE P "__cached__" 174 .none,kE P "RowsError" 206 (.ref 24),kE P "BadTable" 231 (.ref 44),kE P "BadQuestion" 256 (.ref 63),kE P "BadHouse" 281 (.ref 82),kE P "NoRow" 304 (.ref 101),kE P "GREATEST" 308 (.int 999 307),kE P "is_value" 315 (.ref 110),kE P "is_row" 321 (.ref 115),kE P "first_wrong_row" 331 (.ref 122),kE P "look_house" 343 (.ref 129),kE P "_law_box" 355 (.ref 136),kE P "_law_take" 365 (.ref 143),kE P "_law_order" 375 (.ref 150),kE P "_law_names" 381 (.ref 155),kE P "_law_some_columns" 390 (.ref 162),kE P "_law_any_tables" 401 (.ref 169),kE P "_law_ear_tables" 415 (.ref 176),kE P "_law_ring_tables" 421 (.ref 181),kE P "_law_question" 433 (.ref 188),kE P "_law_columns" 439 (.ref 193),kE P "_law_value" 448 (.ref 200),kE P "_law_house" 454 (.ref 205),kE P "_law_whole" 461 (.ref 212),kE P "_law_bad_rows" 467 (.ref 217),kE P "_law_changed" 479 (.ref 224),kE P "_law_rows_right" 485 (.ref 229),kE P "_law_due" 496 (.ref 236),kE P "_law_right" 509 (.ref 243),kE P "law" 515 (.ref 248)] 38),#[]⟩),
(15,kT [(.type "ValueError")]),
(22,kT []),
(23,⟨(.type "dict"),none,(.dict #[kE P "__module__" 196 (.str "mostrows.errors" 187),kE P "__firstlineno__" 200 (.int 2 199),kE P "__static_attributes__" 201 (.ref 22),kE P "__weakref__" 203 (.ref 25),kE P "__doc__" 204 .none] 3),#[]⟩),
(24,⟨(.type "type"),none,(.cls ⟨"RowsError",[(.type "ValueError")],[(.ref 24),(.type "ValueError"),(.type "Exception"),(.type "BaseException"),(.type "object")],23,"RowsError",true,[],[(.ref 44),(.ref 63),(.ref 82),(.ref 101)],false,none,false⟩),#[(some (.ref 15)),none,(some (.str "RowsError" 189)),(some (.str "RowsError" 197)),(some (.builtin "ValueError.__new__")),(some (.bool true))]⟩),
(25,⟨(.type "getset_descriptor"),none,(.fields #[(.str "__weakref__" 202),(.ref 24),(.builtin "ExceptionGroup.__weakref__"),.none]),#[]⟩),
(28,kT [(.ref 24)]),
(35,kT []),
(37,kT [(.str "self" 222),(.str "at" 223)]),
(38,kT []),
(40,kC "__init__" 219 "BadTable.__init__" 220 221 6 2 3 35 181 36 37 38 39 224 6 225),
(41,kF dG3),
(42,kT [(.str "at" 227)]),
(43,⟨(.type "dict"),none,(.dict #[kE P "__module__" 214 (.str "mostrows.errors" 187),kE P "__firstlineno__" 218 (.int 4 217),kE P "__init__" 226 (.ref 41),kE P "__static_attributes__" 228 (.ref 42),kE P "__doc__" 229 .none] 2),#[]⟩),
(44,⟨(.type "type"),none,(.cls ⟨"BadTable",[(.ref 24)],[(.ref 44),(.ref 24),(.type "ValueError"),(.type "Exception"),(.type "BaseException"),(.type "object")],43,"BadTable",true,[],[],false,none,false⟩),#[(some (.ref 28)),none,(some (.str "BadTable" 207)),(some (.str "BadTable" 215)),(some (.builtin "ValueError.__new__")),(some (.bool true))]⟩),
(47,kT [(.ref 24)]),
(54,kT []),
(56,kT [(.str "self" 247),(.str "at" 248)]),
(57,kT []),
(59,kC "__init__" 244 "BadQuestion.__init__" 245 246 11 2 3 54 181 55 56 57 58 249 11 250),
(60,kF dG4),
(61,kT [(.str "at" 252)]),
(62,⟨(.type "dict"),none,(.dict #[kE P "__module__" 239 (.str "mostrows.errors" 187),kE P "__firstlineno__" 243 (.int 9 242),kE P "__init__" 251 (.ref 60),kE P "__static_attributes__" 253 (.ref 61),kE P "__doc__" 254 .none] 2),#[]⟩),
(63,⟨(.type "type"),none,(.cls ⟨"BadQuestion",[(.ref 24)],[(.ref 63),(.ref 24),(.type "ValueError"),(.type "Exception"),(.type "BaseException"),(.type "object")],62,"BadQuestion",true,[],[],false,none,false⟩),#[(some (.ref 47)),none,(some (.str "BadQuestion" 232)),(some (.str "BadQuestion" 240)),(some (.builtin "ValueError.__new__")),(some (.bool true))]⟩),
(66,kT [(.ref 24)]),
(73,kT []),
(75,kT [(.str "self" 272),(.str "table" 273)]),
(76,kT []),
(78,kC "__init__" 269 "BadHouse.__init__" 270 271 16 2 3 73 181 74 75 76 77 274 16 275),
(79,kF cM7),
(80,kT [(.str "table" 277)]),
(81,⟨(.type "dict"),none,(.dict #[kE P "__module__" 264 (.str "mostrows.errors" 187),kE P "__firstlineno__" 268 (.int 14 267),kE P "__init__" 276 (.ref 79),kE P "__static_attributes__" 278 (.ref 80),kE P "__doc__" 279 .none] 2),#[]⟩),
(82,⟨(.type "type"),none,(.cls ⟨"BadHouse",[(.ref 24)],[(.ref 82),(.ref 24),(.type "ValueError"),(.type "Exception"),(.type "BaseException"),(.type "object")],81,"BadHouse",true,[],[],false,none,false⟩),#[(some (.ref 66)),none,(some (.str "BadHouse" 257)),(some (.str "BadHouse" 265)),(some (.builtin "ValueError.__new__")),(some (.bool true))]⟩),
(85,kT [(.ref 24)]),
(92,kT []),
(94,kT [(.str "self" 297)]),
(95,kT []),
(97,kC "__init__" 294 "NoRow.__init__" 295 296 21 1 3 92 181 93 94 95 96 298 21 299),
(98,kF dG5),
(99,kT []),
(100,⟨(.type "dict"),none,(.dict #[kE P "__module__" 289 (.str "mostrows.errors" 187),kE P "__firstlineno__" 293 (.int 19 292),kE P "__init__" 300 (.ref 98),kE P "__static_attributes__" 301 (.ref 99),kE P "__doc__" 302 .none] 2),#[]⟩),
(101,⟨(.type "type"),none,(.cls ⟨"NoRow",[(.ref 24)],[(.ref 101),(.ref 24),(.type "ValueError"),(.type "Exception"),(.type "BaseException"),(.type "object")],100,"NoRow",true,[],[],false,none,false⟩),#[(some (.ref 85)),none,(some (.str "NoRow" 282)),(some (.str "NoRow" 290)),(some (.builtin "ValueError.__new__")),(some (.bool true))]⟩),
(104,kT []),
(106,kT [(.str "number" 312)]),
(107,kT []),
(109,kC "is_value" 309 "is_value" 310 311 25 1 3 104 181 105 106 107 108 313 25 314),
(110,kF bO5),
(111,kT []),
(114,⟨(.type "code"),none,(.fields #[(.str "is_row" 316),(.str "is_row" 317),(.str "/claim/cut.py" 318),(.int 27 0),(.int 2 0),(.int 0 0),(.int 0 0),(.int 3 0),(.ref 111),(.bool true),(.int 181 0),(.ref 112),.none,.none,.none,(.ref 113),(.int 319 0),(.int 27 0),(.str "/claim/cut.py" 320)]),#[]⟩),
(115,kF bO6),
(116,kT []),
(118,kT [(.str "width" 325),(.str "rows" 326),(.str "at" 327),(.str "row" 328)]),
(119,kT []),
(121,kC "first_wrong_row" 322 "first_wrong_row" 323 324 29 2 3 116 181 117 118 119 120 329 29 330),
(122,kF bO7),
(123,kT []),
(125,kT [(.str "question" 337),(.str "house" 338),(.str "at" 339),(.str "pair" 340)]),
(126,kT []),
(128,kC "look_house" 334 "look_house" 335 336 37 2 3 123 181 124 125 126 127 341 37 342),
(129,kF bO8),
(130,kT []),
(132,kT [(.str "_law_script" 349),(.str "_law_k" 350),(.str "_law_cell" 351),(.str "_law_seed" 352)]),
(133,kT []),
(135,kC "_law_box" 346 "_law_box" 347 348 45 2 3 130 181 131 132 133 134 353 45 354),
(136,kF bO9),
(137,kT []),
(139,kT [(.str "_law_box_here" 359),(.str "_law_many" 360),(.str "_law_digit" 361),(.str "_law_one" 362)]),
(140,kT []),
(142,kC "_law_take" 356 "_law_take" 357 358 53 2 3 137 181 138 139 140 141 363 53 364),
(143,kF bP0),
(144,kT []),
(146,kT [(.str "_law_box_here" 369),(.str "_law_things" 370),(.str "_law_left" 371),(.str "_law_found" 372)]),
(147,kT []),
(149,kC "_law_order" 366 "_law_order" 367 368 61 2 3 144 181 145 146 147 148 373 61 374),
(150,kF bP1),
(151,kT []),
(154,⟨(.type "code"),none,(.fields #[(.str "_law_names" 376),(.str "_law_names" 377),(.str "/claim/cut.py" 378),(.int 67 0),(.int 2 0),(.int 0 0),(.int 0 0),(.int 3 0),(.ref 151),(.bool true),(.int 181 0),(.ref 152),.none,.none,.none,(.ref 153),(.int 379 0),(.int 67 0),(.str "/claim/cut.py" 380)]),#[]⟩),
(155,kF bP2),
(156,kT []),
(158,kT [(.str "_law_box_here" 385),(.str "_law_names_here" 386),(.str "_law_many" 387)]),
(159,kT []),
(161,kC "_law_some_columns" 382 "_law_some_columns" 383 384 87 3 3 156 181 157 158 159 160 388 87 389),
(162,kF bP3),
(163,kT []),
(165,kT [(.str "_law_box_here" 394),(.str "_law_names_here" 395),(.str "_law_pool" 396),(.str "_law_found" 397),(.str "_law_k" 398)]),
(166,kT []),
(168,kC "_law_any_tables" 391 "_law_any_tables" 392 393 89 2 3 163 181 164 165 166 167 399 89 400),
(169,kF bP4),
(170,kT []),
(172,kT [(.str "_law_box_here" 405),(.str "_law_names_here" 406),(.str "_law_left" 407),(.str "_law_found" 408),(.str "_law_k" 409),(.str "_law_own" 410),(.str "_law_one" 411),(.str "_law_j" 412)]),
(173,kT []),
(175,kC "_law_ear_tables" 402 "_law_ear_tables" 403 404 95 2 3 170 181 171 172 173 174 413 95 414),
(176,kF bP5),
(177,kT []),
(180,⟨(.type "code"),none,(.fields #[(.str "_law_ring_tables" 416),(.str "_law_ring_tables" 417),(.str "/claim/cut.py" 418),(.int 112 0),(.int 2 0),(.int 0 0),(.int 0 0),(.int 3 0),(.ref 177),(.bool true),(.int 181 0),(.ref 178),.none,.none,.none,(.ref 179),(.int 419 0),(.int 112 0),(.str "/claim/cut.py" 420)]),#[]⟩),
(181,kF bP6),
(182,kT []),
(184,kT [(.str "_law_box_here" 425),(.str "_law_kind" 426),(.str "_law_columns_here" 427),(.str "_law_tables" 428),(.str "_law_way" 429),(.str "_law_sets" 430)]),
(185,kT []),
(187,kC "_law_question" 422 "_law_question" 423 424 125 2 3 182 181 183 184 185 186 431 125 432),
(188,kF bP7),
(189,kT []),
(192,⟨(.type "code"),none,(.fields #[(.str "_law_columns" 434),(.str "_law_columns" 435),(.str "/claim/cut.py" 436),(.int 139 0),(.int 1 0),(.int 0 0),(.int 0 0),(.int 3 0),(.ref 189),(.bool true),(.int 181 0),(.ref 190),.none,.none,.none,(.ref 191),(.int 437 0),(.int 139 0),(.str "/claim/cut.py" 438)]),#[]⟩),
(193,kF bP8),
(194,kT []),
(196,kT [(.str "_law_box_here" 443),(.str "_law_span" 444),(.str "_law_value_here" 445)]),
(197,kT []),
(199,kC "_law_value" 440 "_law_value" 441 442 144 2 3 194 181 195 196 197 198 446 144 447),
(200,kF bP9),
(201,kT []),
(204,⟨(.type "code"),none,(.fields #[(.str "_law_house" 449),(.str "_law_house" 450),(.str "/claim/cut.py" 451),(.int 149 0),(.int 3 0),(.int 0 0),(.int 0 0),(.int 3 0),(.ref 201),(.bool true),(.int 181 0),(.ref 202),.none,.none,.none,(.ref 203),(.int 452 0),(.int 149 0),(.str "/claim/cut.py" 453)]),#[]⟩),
(205,kF bQ0),
(213,kT []),
(216,⟨(.type "code"),none,(.fields #[(.str "_law_bad_rows" 462),(.str "_law_bad_rows" 463),(.str "/claim/cut.py" 464),(.int 174 0),(.int 3 0),(.int 0 0),(.int 0 0),(.int 3 0),(.ref 213),(.bool true),(.int 181 0),(.ref 214),.none,.none,.none,(.ref 215),(.int 465 0),(.int 174 0),(.str "/claim/cut.py" 466)]),#[]⟩),
(217,kF bQ1),
(218,kT []),
(220,kT [(.str "_law_box_here" 471),(.str "_law_question_here" 472),(.str "_law_house_here" 473),(.str "_law_form" 474),(.str "_law_at" 475),(.str "_law_rows" 476)]),
(221,kT []),
(223,kC "_law_changed" 468 "_law_changed" 469 470 192 3 3 218 181 219 220 221 222 477 192 478),
(224,kF bQ2),
(225,kT []),
(228,⟨(.type "code"),none,(.fields #[(.str "_law_rows_right" 480),(.str "_law_rows_right" 481),(.str "/claim/cut.py" 482),(.int 203 0),(.int 2 0),(.int 0 0),(.int 0 0),(.int 3 0),(.ref 225),(.bool true),(.int 181 0),(.ref 226),.none,.none,.none,(.ref 227),(.int 483 0),(.int 203 0),(.str "/claim/cut.py" 484)]),#[]⟩),
(229,kF bQ3),
(230,kT []),
(232,kT [(.str "_law_question_here" 489),(.str "_law_house_here" 490),(.str "_law_at" 491),(.str "_law_kt" 492),(.str "_law_own" 493)]),
(233,kT []),
(235,kC "_law_due" 486 "_law_due" 487 488 210 2 3 230 181 231 232 233 234 494 210 495),
(236,kF bQ4),
(237,kT []),
(239,kT [(.str "_law_question_here" 500),(.str "_law_house_here" 501),(.str "_law_refused" 502),(.str "_law_found" 503),(.str "e" 504),(.str "_law_own" 505),(.str "_law_due_here" 506)]),
(240,kT []),
(242,kC "_law_right" 497 "_law_right" 498 499 215 2 3 237 181 238 239 240 241 507 215 508),
(243,kF bQ5),
(244,kT []),
(247,⟨(.type "code"),none,(.fields #[(.str "law" 510),(.str "law" 511),(.str "/claim/cut.py" 512),(.int 227 0),(.int 1 0),(.int 0 0),(.int 0 0),(.int 3 0),(.ref 244),(.bool true),(.int 181 0),(.ref 245),.none,.none,.none,(.ref 246),(.int 513 0),(.int 227 0),(.str "/claim/cut.py" 514)]),#[]⟩),
(248,kF aC3)]
noncomputable def Vw:Program:=view PySem.Challenge.pw_mostrows_k18_houses_let_by_and_refused [1,2,3,4,5,7,8,9,10,12,14,15,16,17,18,19,20,21,22,23,24,25,26,27,28,29,30,31,32]
def dO1:PySem.Challenge.rw_mostrows_k18_houses_let_by_and_refused.wellSaid=true:=by kernel_rfl
def yQ:LeftO PySem.Challenge.rw_mostrows_k18_houses_let_by_and_refused.row.prog Vw [] (λs=>xlAt Vw [] s&&recOk (RowW.records PySem.Challenge.rw_mostrows_k18_houses_let_by_and_refused.row.toRowW) s) (λs=>[2,3,15,22,23,24,25,28,35,37,38,40,41,42,43,44,47,54,56,57,59,60,61,62,63,66,73,75,76,78,79,80,81,82,85,92,94,95,97,98,99,100,101,104,106,107,109,110,111,114,115,116,118,119,121,122,123,125,126,128,129,130,132,133,135,136,137,139,140,142,143,144,146,147,149,150,151,154,155,156,158,159,161,162,163,165,166,168,169,170,172,173,175,176,177,180,181,182,184,185,187,188,189,192,193,194,196,197,199,200,201,204,205,213,216,217,218,220,221,223,224,225,228,229,230,232,233,235,236,237,239,240,242,243,244,247,248].map s.heap.get?) (λw=>(KF w.params).map λp=>some p.2) 3930:=λw=>by kernel_rfl
def dO2(h:WalkO Vw [] (XL Vw []) (InK KF) PySem.Challenge.rw_mostrows_k18_houses_let_by_and_refused.row.toRowW dG2 [] (λf vs=>PySem.call f vs)):PySem.Challenge.rw_mostrows_k18_houses_let_by_and_refused.Holds:=
 holds_law dO1 λe=>holds_open (d:=dG2) (kwd:=[]) yQ (InK.of λ_=>by kernel_rfl) InK.keeps (λs e=>xl_of s (Bool.and_eq_true_iff.mp e).1) XL.keeps (by kernel_rfl) (by kernel_rfl) (by kernel_rfl) (λs e=>recFacts_of (Bool.and_eq_true_iff.mp e).2) (by kernel_rfl) e (by kernel_rfl) ⟨rfl,rfl,rfl,rfl,rfl,by decide +kernel⟩ (by w_witness2) h
end Hd
namespace L2
open PySem PySem.Spec PyProof.Rows
abbrev Key:=Sum Int Str
noncomputable def cM8:Key->Value->Bool
 | .inl k,v=>Value.isInt k v
 | .inr x,v=>Value.isStrOf x v
noncomputable def dO3(w:World):Key->Int
 | .inl k=>hashInt k
 | .inr x=>hashStr w x
def bW:∀ {k:Key} {v:Value},cM8 k v=true->(∃ i t,k=Sum.inl i/\v=Value.int i t)\/(∃ x t,k=Sum.inr x/\v=Value.str x t)
 | .inl i,v,h=>by
   obtain⟨t,e⟩:=Value.isInt_shape (k:=i) (v:=v) h;exact .inl ⟨i,t,rfl,e⟩
 | .inr x,v,h=>by
   obtain⟨t,e⟩:=Value.isStrOf_shape (x:=x) (v:=v) h;exact .inr ⟨x,t,rfl,e⟩
def cM9(a b:Int):decide ((Sum.inl a:Key)=Sum.inl b)=(a==b):=by
 by_cases e:a=b;subst e;simp;have h:¬ (Sum.inl a:Key)=Sum.inl b:=λq=>e (Sum.inl.inj q);rw[a3r h];exact(beq_eq_false_iff_ne.mpr e).symm
def cN0(a b:Str):decide ((Sum.inr a:Key)=Sum.inr b)=decide (a=b):=by
 by_cases e:a=b;subst e;simp;have h:¬ (Sum.inr a:Key)=Sum.inr b:=λq=>e (Sum.inr.inj q);rw[a3r h,a3r e]
def cN1(a:Int)(b:Str):decide ((Sum.inl a:Key)=Sum.inr b)=false:=a3r (λq=>nomatch q)
def cN2(a:Str)(b:Int):decide ((Sum.inr a:Key)=Sum.inl b)=false:=a3r (λq=>nomatch q)
noncomputable def yS(prog:Program)(w:World):PySem.KeyKind prog w Key where
 is:=cM8
 hash:=dO3 w
 inj:=λv a b ha f=>by
  rcases bW ha with⟨i,t,rfl,rfl⟩ | ⟨x,t,rfl,rfl⟩
  ·rcases bW f with⟨j,u,rfl,e⟩ | ⟨y,u,rfl,e⟩
   ·injection e with c _;rw[c]
   ·exact nomatch e
  ·rcases bW f with⟨j,u,rfl,e⟩ | ⟨y,u,rfl,e⟩;exact nomatch e;injection e with c _;rw[c]
 byValue:=λk v h=>by
  rcases bW h with⟨i,t,rfl,rfl⟩ | ⟨x,t,rfl,rfl⟩<;>rfl
 pyHash:=λd h=>by
  rcases bW d with⟨i,t,rfl,rfl⟩ | ⟨x,t,rfl,rfl⟩;exact wpAny_pyHash_int h;exact wpAny_pyHash_str h
 eqBool:=λg d h=>by
  rcases bW g with⟨i,t,rfl,rfl⟩ | ⟨x,t,rfl,rfl⟩;rcases bW d with⟨j,u,rfl,rfl⟩ | ⟨y,u,rfl,rfl⟩;rw[cM9]at h;exact wpAny_eqBool_int h;rw[cN1]at h;exact SeqAt.EqAt.int_str i t y u _ _ _ _ h;rcases bW d with⟨j,u,rfl,rfl⟩ | ⟨y,u,rfl,rfl⟩;rw[cN2]at h;exact SeqAt.EqAt.str_int x t j u _ _ _ _ h;rw[cN0]at h;exact wpAny_eqBool_str h
 «strs»:=λk x t v h=>by
  rcases bW h with⟨i,u,rfl,e⟩ | ⟨y,u,rfl,e⟩;exact nomatch e;injection e with c _
  subst c;cases v<;>rfl
inductive V where
 | non | bl (b:Bool) | int (i:Int) | str (x:Str) | byt (b:Array UInt8) | flt (b:UInt64) | ref (a:Addr) | ty (n:String)
 deriving DecidableEq
def cY:V->Value->Prop
 | .non,u=>u=Value.none
 | .bl b,u=>u=Value.bool b
 | .int i,u=>∃ t,u=Value.int i t
 | .str x,u=>∃ t,u=Value.str x t
 | .byt b,u=>∃ t,u=Value.bytes b t
 | .flt b,u=>∃ t,u=Value.float b t
 | .ref a,u=>u=Value.ref a
 | .ty n,u=>u=Value.type n
abbrev bG:List V->List Value->Prop:=Paired cY
theorem bG.length{xs:List V}{us:List Value}(r:bG xs us):xs.length=us.length:=Paired.length r
theorem bG.get:∀ {xs:List V} {us:List Value} {i:Nat} {x:V},bG xs us->xs[i]? = some x->∃ u,us[i]? = some u/\cY x u
 | _,_,_,_,.nil,e=>by simp at e
 | _,_,0,_,.cons r _,e=>by simp at e;subst e;exact⟨_,rfl,r⟩
 | _,_,i+1,x,.cons _ t,e=>by
   obtain⟨u,a,b⟩:=bG.get (i:=i) (x:=x) t (by simpa using e);exact⟨u,by simpa using a,b⟩
theorem bG.set{x:V}{u:Value}(r:cY x u):∀ {xs:List V} {us:List Value} (i:Nat),bG xs us->bG (xs.set i x) (us.set i u)
 | _,_,_,.nil=>.nil
 | _,_,0,.cons _ t=>.cons r t
 | _,_,i+1,.cons q t=>.cons q (bG.set r i t)
theorem bG.append:∀ {xs ys:List V} {us ws:List Value},bG xs us->bG ys ws->bG (xs++ys) (us++ws)
 | _,_,_,_,.nil,s=>s
 | _,_,_,_,.cons r t,s=>.cons r (bG.append t s)
theorem bG.take:∀ {xs:List V} {us:List Value} (n:Nat),bG xs us->bG (xs.take n) (us.take n)
 | _,_,0,_=>.nil
 | _,_,_+1,.nil=>.nil
 | _,_,n+1,.cons r t=>.cons r (bG.take n t)
theorem bG.drop:∀ {xs:List V} {us:List Value} (n:Nat),bG xs us->bG (xs.drop n) (us.drop n)
 | _,_,0,r=>r
 | _,_,_+1,.nil=>.nil
 | _,_,n+1,.cons _ t=>bG.drop n t
def dG6:Option V->Option Value->Prop
 | some v,some u=>cY v u
 | none,none=>True
 | _,_=>False
def KV{κ:Type}:List (κ×V)->List (κ×Value)->Prop:=Paired λ(p:κ×V) (q:κ×Value)=>p.1=q.1/\cY p.2 q.2
noncomputable def kV:Key->V
 | .inl i=>.int i
 | .inr x=>.str x
inductive HO where
 | lst (xs:List V)
 | tup (xs:List V)
 | dK (kvs:List (Key×V)) | dT (kvs:List (List Key×V))
 | set (S:Int->Bool) (n:Nat)
 | ins (C dx:Addr) (fs:List (Str×V))
 | own (x:Addr)
 | xd (fs:List (Str×V))
 | met (f x:Addr)
 | rng (lo hi:Int)
 | frz (o:Obj) (u:HO)
 | tbl (ps:Array Value)
 | ext (φ:Heap->Prop)
abbrev Hp:=Addr->Option HO
noncomputable def upd(H:Hp)(a:Addr)(o:HO):Hp:=λb=>if b=a then some o else H b
def aE{H:Hp}{a:Addr}{o:HO}:upd H a o a=some o:=by unfold upd;rw[a3p rfl]
def aD{H:Hp}{a b:Addr}{o:HO}(h:b≠a):upd H a o b=H b:=by unfold upd;rw[a3q h]
def bX9{H:Hp}{a:Addr}{o u:HO}:upd (upd H a o) a u=upd H a u:=by
 funext b;unfold upd;split<;>rfl
def aC{H:Hp}{a b:Addr}{o:HO}(h:H a=some o)(h':H b=none):a≠b:=by
 intro e;subst e;rw[h]at h';cases h'
def dL7(h:Heap)(a:Addr):Prop:=∃ o,h.get? a=some o/\o.dict=none
section
variable(P:Program)(w:World)
def cN(H:Hp)(h:Heap)(a:Addr):HO->Prop
 | .lst xs=>xs.length<=sizeLine/\∃ (its:List Value) (n:Nat),bG xs its/\h.get? a=some {cls:=.type "list",data:=.seq its.toArray n}
 | .tup xs=>xs.length<=sizeLine/\∃ its:List Value,bG xs its/\IsTup h a its.toArray/\dL7 h a
 | .dK kvs=>kvs.length<=sizeLine/\(a==sysModules)=false/\∃ vs,KV kvs vs/\h.DictOf (yS P w) a vs
 | .dT kvs=>kvs.length<=sizeLine/\(a==sysModules)=false/\∃ xs:List (List Key×Addr×Value),
   Paired (λ(p:List Key×V) (q:List Key×Addr×Value)=>p.1=q.1/\H q.2.1=some (.tup (p.1.map kV))/\cY p.2 q.2.2) kvs xs /\
   ∃ o es ep,h.get? a=some o/\o.ExactDict/\o.data=.dict es ep/\es.toList=xs.map (entryOfKey (tupleKind (yS P w)))/\(xs.map (·.1)).Nodup
 | .set S n=>h.SetOf (intKind P w) a S n
 | .ins C dx fs=>H dx=some (.own a)/\fs.length<=1000/\dx≠a/\h.get? a=some (W.instObj C dx) /\
   ∃ mA,h.Ns1 dx mA/\(∀ f,dG6 (fs.lookup f) (mA f))/\Within mA (fs.map (·.1))
 | .own _=>∃ o,h.get? a=some o
 | .xd fs=>∃ mA,h.Ns1 a mA/\∀ f,dG6 (fs.lookup f) (mA f)
 | .rng lo hi=>∃ t u v,h.get? a=some {cls:=.type "range",data:=.fields #[.int lo t,.int hi u,.int 1 v]}
 | .frz o u=>h.get? a=some o/\cN H h a u
 | .tbl ps=>h.get? a=some {cls:=.none,data:=.fields ps}
 | .met f x=>h.get? a=some (W.methodObj (.ref f) (.ref x))
 | .ext φ=>φ h/\(∃ o,h.get? a=some o)/\∀ b c:Heap,φ b->(∀ o,b.get? a=some o->c.get? a=some o)->φ c
def HOk(H:Hp)(h:Heap):Prop:=∀ a o,H a=some o->cN P w H h a o
end
section
variable{P:Program}{w:World}{H H':Hp}{h h':Heap}{a:Addr}{o:HO}
theorem cN.lt(x:cN P w H h a o):a < h.objs.size:=by
 cases o with
 | lst xs=>obtain⟨_,_,_,_,e⟩:=x;exact a0b e
 | tup xs=>obtain⟨_,_,_,p,_⟩:=x;exact p.lt
 | dK kvs=>obtain⟨_,_,_,_,o,_,_,e,_⟩:=x;exact a0b e
 | dT kvs=>obtain⟨_,_,_,_,o,_,_,e,_⟩:=x;exact a0b e
 | set S n=>obtain⟨o,_,_,_,e,_⟩:=x;exact a0b e
 | ins C dx fs=>obtain⟨_,_,_,e,_⟩:=x;exact a0b e
 | own y=>obtain⟨_,e⟩:=x;exact a0b e
 | xd fs=>obtain⟨_,⟨_,_,_,e,_⟩,_⟩:=x;exact a0b e
 | rng lo hi=>obtain⟨_,_,_,e⟩:=x;exact a0b e
 | frz ob u=>obtain⟨e,_⟩:=x;exact a0b e
 | tbl ps=>exact a0b (show h.get? a=some _ from x)
 | met f y=>exact a0b (show h.get? a=some _ from x)
 | ext φ=>obtain⟨_,⟨_,e⟩,_⟩:=x;exact a0b e
theorem Paired.mapP{c d:Type}{F G:c->d->Prop}:∀ {l₁:List c} {l₂:List d},Paired F l₁ l₂->(∀ a b,F a b->G a b)->Paired G l₁ l₂
 | _,_,.nil,_=>.nil
 | _,_,.cons r t,f=>.cons (f _ _ r) (Paired.mapP t f)
def cN.stay(x:cN P w H h a o)(k:∀ b u,(b=a\/H b=some (.own a))->h.get? b=some u->h'.get? b=some u)
  (j:∀ b,H b=some (.own a)->H' b=some (.own a)) (l:∀ b xs,H b=some (.tup xs)->H' b=some (.tup xs)):cN P w H' h' a o:=by
 induction o with
 | lst xs=>obtain⟨z,its,n,r,e⟩:=x;exact⟨z,its,n,r,k _ _ (.inl rfl) e⟩
 | tup xs=>obtain⟨z,its,r,⟨ob,e,c⟩,⟨g,i,m⟩⟩:=x;exact⟨z,its,r,⟨ob,k _ _ (.inl rfl) e,c⟩,⟨g,k _ _ (.inl rfl) i,m⟩⟩
 | dK kvs=>obtain⟨z,y,vs,r,ob,es,ep,e,c⟩:=x;exact⟨z,y,vs,r,ob,es,ep,k _ _ (.inl rfl) e,c⟩
 | dT kvs=>
   obtain⟨z,y,xs,r,ob,es,ep,e,c⟩:=x;exact⟨z,y,xs,Paired.mapP r λp q z=>⟨z.1,l _ _ z.2.1,z.2.2⟩,ob,es,ep,k _ _ (.inl rfl) e,c⟩
 | set S n=>obtain⟨ob,es,ep,t,e,c⟩:=x;exact⟨ob,es,ep,t,k _ _ (.inl rfl) e,c⟩
 | ins C dx fs=>
   obtain⟨d,z,ne,e,mA,⟨od,es,ep,i,c⟩,r⟩:=x;exact⟨j _ d,z,ne,k _ _ (.inl rfl) e,mA,⟨od,es,ep,k _ _ (.inr d) i,c⟩,r⟩
 | own y=>obtain⟨ob,e⟩:=x;exact⟨ob,k _ _ (.inl rfl) e⟩
 | xd fs=>obtain⟨mA,⟨od,es,ep,e,c⟩,r⟩:=x;exact⟨mA,⟨od,es,ep,k _ _ (.inl rfl) e,c⟩,r⟩
 | rng lo hi=>obtain⟨t,u,v,e⟩:=x;exact⟨t,u,v,k _ _ (.inl rfl) e⟩
 | frz ob u s=>obtain⟨e,q⟩:=x;exact⟨k _ _ (.inl rfl) e,s q⟩
 | tbl ps=>
   have e:h.get? a=some {cls:=.none,data:=.fields ps}:=x;show h'.get? a=some {cls:=.none,data:=.fields ps};exact k a _ (.inl rfl) e
 | met f y=>
   have e:h.get? a=some (W.methodObj (.ref f) (.ref y)):=x;show h'.get? a=some (W.methodObj (.ref f) (.ref y));exact k a _ (.inl rfl) e
 | ext φ=>obtain⟨p,⟨o,e⟩,st⟩:=x;exact⟨st _ _ p λo q=>k _ _ (.inl rfl) q,⟨o,k _ _ (.inl rfl) e⟩,st⟩
theorem HOk.lt(x:HOk P w H h)(e:H a=some o):a < h.objs.size:=(x a o e).lt
theorem HOk.fresh(x:HOk P w H h)(e:h.objs.size<=a):H a=none:=by
 cases q:H a with
 | none=>rfl
 | some u=>exact absurd (a5b (x.lt q) e) (a0e _)
def HOk.kept(x:HOk P w H h)(k:∀ b u,h.get? b=some u->h'.get? b=some u):HOk P w H h':=λa o e=>
 (x a o e).stay (λb u _ q=>k b u q) (λ_ q=>q) λ_ _ q=>q
def HOk.laid(x:HOk P w H h)(k:∀ b u,h.get? b=some u->h'.get? b=some u)(f:h.objs.size<=a)(new:cN P w (upd H a o) h' a o):HOk P w (upd H a o) h':=λb u e=>by
 have hn:=x.fresh f;by_cases d:b=a;subst d;rw[aE]at e;cases e;exact new;rw[aD d]at e;exact(x b u e).stay (λc v _ q=>k c v q) (λc q=>by rw[aD (aC q hn)];exact q) λc xs q=>by rw[aD (aC q hn)];exact q
end
def Rd(H:Hp)(a:Addr)(u:HO):Prop:=H a=some u\/∃ o,H a=some (.frz o u)
theorem Rd.ok{P:Program}{w:World}{H:Hp}{h:Heap}{a:Addr}{u:HO}(r:Rd H a u)(x:HOk P w H h):cN P w H h a u:=by
 rcases r with r | ⟨o,r⟩;exact x a u r;obtain⟨_,q⟩:=x a _ r;exact q
def Mut:Option HO->Prop
 | some (.lst _)=>True
 | some (.dK _)=>True
 | some (.dT _)=>True
 | some (.set _ _)=>True
 | some (.ins _ _ _)=>True
 | some (.ext _)=>True
 | _=>False
section
variable{P:Program}{w:World}{H:Hp}{h h':Heap}{x e:Addr}{o':HO}
def HOk.write(ok:HOk P w H h)(mu:Mut (H x))(l:e=x\/H e=some (.own x))(k:∀ b u,b≠e->h.get? b=some u->h'.get? b=some u)(j:∃ u,h'.get? e=some u)
  (new:cN P w (upd H x o') h' x o'):HOk P w (upd H x o') h':=λb u q=>by
 have d:∀ c y,H c=some (.own y)->c≠x:=λc y r z=>by subst z;rw[r]at mu;exact mu
 have f:∀ c xs,H c=some (.tup xs)->c≠x:=λc xs r z=>by subst z;rw[r]at mu;exact mu
 by_cases g:b=x;subst g;rw[aE]at q;cases q;exact new;rw[aD g]at q;by_cases a:b=e
 ·have m:H b=some (.own x):=by
   rcases l with z | z;exact absurd (a.trans z) g;rw[a];exact z
  rw[q]at m;cases m;obtain⟨v,n⟩:=j;exact⟨v,by rw[a];exact n⟩
 ·refine(ok b u q).stay (λc v i r=>k c v ?_ r) (λc r=>by rw[aD (d c b r)];exact r) λc xs r=>by rw[aD (f c xs r)];exact r
  rcases i with rfl | i;exact a;rintro rfl;rcases l with z | z;exact d c b i z;rw[i]at z;cases z;exact g rfl
end
structure Un(fs ex:List Addr)(H H':Hp)(h h':Heap):Prop where
 keep:∀ b o,h.get? b=some o->H b=none->b∉fs->b∉ex->h'.get? b=some o
 slot:∀ b o,h.get? b=some o->H b=none->b∈fs->b∉ex->∃ sl,h'.get? b=some {o with slots:=sl}
 free:∀ b o,h.get? b=some o->H b=none->b∉ex->H' b=none
 there:∀ b o,h.get? b=some o->b∉ex->∃ o',h'.get? b=some o'
 tups:∀ b xs,H b=some (.tup xs)->H' b=some (.tup xs)
 frzs:∀ b o u,H b=some (.frz o u)->H' b=some (.frz o u)
 tbls:∀ b ps,H b=some (.tbl ps)->∃ more,H' b=some (.tbl (ps++more))
section
variable{fs fs' ex ex':List Addr}{H H1 H2:Hp}{h h1 h2 h':Heap}{a x e:Addr}{o:HO}
def Un.any(u:Un fs ex H H1 h h1){b:Addr}{ob:Obj}(q:h.get? b=some ob)(n:H b=none)(a:b∉ex):∃ sl,h1.get? b=some {ob with slots:=sl}:=by
 by_cases c:b∈fs;exact u.slot b ob q n c a;exact⟨ob.slots,u.keep b ob q n c a⟩
def Un.kept(k:∀ b u,h.get? b=some u->h'.get? b=some u):Un fs ex H H h h':=
 ⟨λb ob q _ _ _=>k b ob q,λb ob q _ _ _=>⟨ob.slots,k b ob q⟩,λ_ _ _ n _=>n,λb ob q _=>⟨ob,k b ob q⟩,λ_ _ q=>q,λ_ _ _ q=>q,λ_ ps q=>⟨#[],by rw[q];simp⟩⟩
def Un.refl:Un fs ex H H h h:=Un.kept λ_ _ q=>q
def Un.laid(k:∀ b u,h.get? b=some u->h'.get? b=some u)(c:h.objs.size<=a)(hn:H a=none):Un fs ex H (upd H a o) h h' where
 keep:=λb u q _ _ _=>k b u q
 slot:=λb u q _ _ _=>⟨u.slots,k b u q⟩
 free:=λb u q n _=>by rw[aD (a9c (a5b (a0b q) c))];exact n
 there:=λb u q _=>⟨u,k b u q⟩
 tups:=λb xs q=>by rw[aD (aC q hn)];exact q
 frzs:=λb u xs q=>by rw[aD (aC q hn)];exact q
 tbls:=λb ps q=>⟨#[],by rw[aD (aC q hn),q];simp⟩
def Un.write(mu:Mut (H x))(g:e=x\/H e=some (.own x))(k:∀ b u,b≠e->h.get? b=some u->h'.get? b=some u)(c:∃ u,h'.get? e=some u):Un fs ex H (upd H x o) h h':=by
 have d:∀ b,H b=none->b≠x:=λb n z=>by subst z;rw[n]at mu;exact mu
 have f:∀ b,H b=none->b≠e:=λb n z=>by
  subst z;rcases g with r | r;exact d b n r;rw[n]at r;cases r
 have hm:∀ b u,H b=some u->¬ Mut (some u)->b≠x:=λb u q i z=>by subst z;rw[q]at mu;exact i mu
 refine⟨λb u q n _ _=>k b u (f b n) q,λb u q n _ _=>⟨u.slots,k b u (f b n) q⟩,λb u q n _=>by rw[aD (d b n)];exact n,λb u q _=>?_,
  λb xs q=>by rw[aD (hm b _ q λz=>z)];exact q,λb u xs q=>by rw[aD (hm b _ q λz=>z)];exact q,λb ps q=>⟨#[],by rw[aD (hm b _ q λz=>z),q];simp⟩⟩
 by_cases a:b=e;subst a;exact c;exact⟨u,k b u a q⟩
end
noncomputable def trk(h:Heap)(H:Hp):List Addr:=(List.range h.objs.size).filter λa=>(H a).isSome
noncomputable def bE0(h:Heap)(H:Hp):Heap:=W.hideAll h (trk h H)
def aN7(h:Heap)(H:Hp):(bE0 h H).objs.size=h.objs.size:=W.hideAll_size _ _
def bE1{h:Heap}{H:Hp}{b:Addr}{o:Obj}(e:h.get? b=some o)(n:H b=none):(bE0 h H).get? b=some o:=
 W.hideAll_get _ e λhm=>by
  have q:(H b).isSome=true:=(List.mem_filter.mp hm).2;rw[n]at q;simp at q
def bY0{h:Heap}{H:Hp}{b:Addr}{o:Obj}(e:(bE0 h H).get? b=some o):h.get? b=some o/\H b=none:=by
 have a:h.get? b=some o:=W.of_hideAll (trk h H) e;refine⟨a,?_⟩;cases q:H b with
 | none=>rfl
 | some x=>
   have hm:b∈trk h H:=List.mem_filter.mpr ⟨a2e.mpr (a0b a),by simp[q]⟩;have z:(bE0 h H).get? b=none:=W.hideAll_none (trk h H) hm;rw[z]at e;cases e
noncomputable def bY1(g h:Heap)(L:Addr):List (Addr×Obj):=(List.range h.objs.size).filterMap λa=>if a=L\/(g.get? a).isSome=true then none else(h.get? a).map λo=>(a,o)
noncomputable def bK(g h:Heap)(L d:Addr):List (Addr×Obj):=(bY1 g h L).filter λp=>decide (p.1≠d)
structure Mod(K:W.Frag)(mg:Str->Option Value)(base:Heap):Prop where
 kin:K.In base
 glob:base.Ns mainGlobals mg
 blt:∃ mb,base.Ns builtinsNs mb/\∀ x:Str,x≠"__name__"->mb x=bootBuiltins x
 nolimit:base.NoLimit
structure Cx where
 prog:Program
 w:World
 K:W.Frag
 mg:Str->Option Value
 base:Heap
 A:Around
 N:List Str
 s₀:Shared
 H₀:Hp
 env:Env
 outer:List Env
 stack:List Env
 ex:List Addr
 fn:Str->Bool
 calm:Bool
 pn:List (Addr×Obj)
 xe:Value->Shared->Prop
noncomputable def frs(l:List Env):List Addr:=l.filterMap (·.frame)
noncomputable abbrev Cx.fs(X:Cx):List Addr:=frs X.outer
def Vis(sc:Scope)(x:Str):Prop:=sc.names.lookup x=some .local\/sc.names.lookup x=some .cell\/sc.names.lookup x=some .free
def Loc(sc:Scope)(x:Str):Prop:=sc.names.lookup x=some .local\/sc.names.lookup x=some .cell
def dO4(env:Env)(h:Heap)(m:Str->Option Value)(x:Str)(u:Value):Prop:=
 (env.kindOf x=some .local/\m x=some u)\/((env.kindOf x=some .cell\/env.kindOf x=some .free)/\∃ c,env.cells.lookup x=some c/\h.IsCell c (some u))
structure Cx.Ok(X:Cx):Prop where
 mod:Mod X.K X.mg X.base
 kind:X.env.scope.kind=.function
 glob:X.env.globals=mainGlobals
 blt:X.env.builtins=builtinsNs
 above:X.s₀.heap.objs.size<=X.env.locals
 inj:∀ x y c,X.env.cells.lookup x=some c->X.env.cells.lookup y=some c->x=y
 has:∀ x,(X.env.kindOf x=some .cell\/X.env.kindOf x=some .free)->∃ c,X.env.cells.lookup x=some c
 cab:∀ x c,X.fn x=true->X.env.cells.lookup x=some c->X.s₀.heap.objs.size<=c
 hd:X.calm=true->X.A.handled=none
 frames:X.A.frames=some X.stack
 stk:X.stack=X.outer\/(X.stack=X.env::X.outer/\X.env.frame=some X.env.locals)
 exf:∀ b∈X.ex,b≠X.env.locals/\∀ x c,X.env.cells.lookup x=some c->c≠b
 bs:∀ b o,X.base.get? b=some o->X.s₀.heap.get? b=some o/\X.H₀ b=none
 bsz:X.base.objs.size<=X.s₀.heap.objs.size
 noex:∀ b o,X.base.get? b=some o->b∉X.ex
 exfs:∀ b∈X.ex,b∉X.fs
 funs:X.s₀.heap.FunFrames X.base X.outer
 frf:∀ b∈X.fs,X.H₀ b=none
structure Inv(X:Cx)(pins:List (Addr×Obj))(σ:List (Option V))(H:Hp)(s:Shared):Prop where
 ok:X.Ok
 os:s.os=X.s₀.os
 bare:AllBare s.gens
 base:Un X.fs X.ex X.H₀ H X.s₀.heap s.heap
 loc:∃ m,s.heap.Ns X.env.locals m/\∀ (i:Nat) (x:Str) (v:V),X.N[i]? = some x->σ[i]? = some (some v)->Vis X.env.scope x->∃ u,cY v u/\dO4 X.env s.heap m x u
 cell:∀ x c,X.env.cells.lookup x=some c->∃ v,s.heap.IsCell c v
 free:H X.env.locals=none
 freeC:∀ x c,X.env.cells.lookup x=some c->H c=none
 pin:∀ p∈X.pn++pins,s.heap.get? p.1=some p.2/\H p.1=none/\p.1≠X.env.locals/\p.1∉X.fs/\∀ v,p.2.data≠.cell v
 hok:HOk X.prog X.w H s.heap
 len:σ.length=X.N.length
section
variable{X:Cx}{pins:List (Addr×Obj)}{σ:List (Option V)}{H H':Hp}{s:Shared}{h':Heap}
def Cx.Ok.nofr(ok:X.Ok){b:Addr}{o:Obj}(e:X.base.get? b=some o):b∉X.fs:=λa=>by
 have:=(ok.funs.mem a).1;rw[e]at this;cases this
theorem Inv.bs(I:Inv X pins σ H s):∀ b o,X.base.get? b=some o->s.heap.get? b=some o/\H b=none:=λb o e=>
 ⟨I.base.keep b o (I.ok.bs b o e).1 (I.ok.bs b o e).2 (I.ok.nofr e) (I.ok.noex b o e),I.base.free b o (I.ok.bs b o e).1 (I.ok.bs b o e).2 (I.ok.noex b o e)⟩
def Inv.bk(I:Inv X pins σ H s):∀ b o,X.base.get? b=some o->s.heap.get? b=some o:=λb o e=>(I.bs b o e).1
theorem Inv.mod(I:Inv X pins σ H s):Mod X.K X.mg X.base:=I.ok.mod
def Inv.kIn(I:Inv X pins σ H s):X.K.In s.heap:=I.ok.mod.kin.keeps I.bk
theorem Inv.lt(I:Inv X pins σ H s):X.env.locals < s.heap.objs.size:=let ⟨_,hn,_⟩:=I.loc;hn.lt
def Inv.sz(I:Inv X pins σ H s):X.s₀.heap.objs.size<=s.heap.objs.size:=a8b I.ok.above (a7g I.lt)
def Inv.nofs(I:Inv X pins σ H s){a:Addr}(h:s.heap.objs.size<=a):a∉X.fs:=λb=>by
 obtain⟨_,o,c,_⟩:=I.ok.funs.mem b;exact absurd (a5b (a0b c) (a8b I.sz h)) (a0e _)
def Inv.cne(I:Inv X pins σ H s):∀ x c,X.env.cells.lookup x=some c->c≠X.env.locals:=λx c e z=>by
 obtain⟨v,o,d,hd⟩:=I.cell x c e;obtain⟨m,⟨o',es,ep,a,b,_⟩,_⟩:=I.loc;rw[z,a]at d;cases d;rw[b]at hd;cases hd
theorem Inv.funs(I:Inv X pins σ H s):s.heap.FunFrames X.base X.outer:=by
 have all:∀ (l:List Env),(∀ b∈frs l,b∈X.fs)->X.s₀.heap.FunFrames X.base l->s.heap.FunFrames X.base l:=by
  intro l
  induction l with
  | nil=>intro _ _;trivial
  | cons env r f=>
    intro hs g;obtain⟨h,⟨L,o,a,hn,i,hd⟩,j⟩:=g;have c:L∈X.fs:=hs L (by unfold frs;rw[a6h,a];exact a4a);obtain⟨sl,e⟩:=I.base.slot L o i (I.ok.frf L c) c λz=>I.ok.exfs L z c;exact⟨h,⟨L,_,a,hn,e,hd⟩,f (λb d=>hs b (by unfold frs;rw[a6h,a];exact a8a _ d)) j⟩
 exact all X.outer (λ_ d=>d) I.ok.funs
theorem Inv.stack(I:Inv X pins σ H s):s.heap.FunFrames X.base X.stack:=by
 rcases I.ok.stk with e | ⟨e,a⟩;rw[e];exact I.funs;rw[e];obtain⟨m,hn,_⟩:=I.loc;refine .cons (by rw[I.ok.kind];decide) a hn ?_ I.funs;exact Heap.get?_none_of_le (a8b I.ok.bsz I.ok.above)
def Inv.stkSub(I:Inv X pins σ H s):∀ b∈frs X.stack,b∈X.env.locals::X.fs:=λb a=>by
 rcases I.ok.stk with e | ⟨e,c⟩;rw[e]at a;exact a8a _ a;rw[e]at a;unfold frs at a;rw[a6h,c]at a;exact a
def Inv.stkFree(I:Inv X pins σ H s):∀ b∈frs X.stack,H b=none:=λb a=>by
 rcases a7b.mp (I.stkSub b a)with e | a;rw[e];exact I.free;obtain⟨_,o,c,_⟩:=I.ok.funs.mem a;exact I.base.free b o c (I.ok.frf b a) λz=>I.ok.exfs b z a
def Inv.step{g':Array GenState}{t':Nat}{d':Drawn}{ch:List Addr}(I:Inv X pins σ H s)
  (f:∀ b∈ch,(b∈X.ex\/X.s₀.heap.objs.size<=b)/\b≠X.env.locals/\(∀ x c,X.env.cells.lookup x=some c->c≠b)/\∀ p∈X.pn++pins,p.1≠b)
  (keep:∀ b o,b≠X.env.locals->b∉X.fs->b∉ch->s.heap.get? b=some o->H b=none->h'.get? b=some o)
  (slot:∀ b o,b≠X.env.locals->b∈X.fs->b∉ch->s.heap.get? b=some o->H b=none->∃ sl,h'.get? b=some {o with slots:=sl}) (free:∀ b o,b∉ch->s.heap.get? b=some o->H b=none->H' b=none)
  (there:∀ b o,b∉ch->s.heap.get? b=some o->∃ o',h'.get? b=some o')
  (tups:∀ b xs,H b=some (.tup xs)->H' b=some (.tup xs)) (frzs:∀ b o u,H b=some (.frz o u)->H' b=some (.frz o u)) (tbls:∀ b ps,H b=some (.tbl ps)->∃ more,H' b=some (.tbl (ps++more)))
  (ns:∀ m,s.heap.Ns X.env.locals m->h'.Ns X.env.locals m) (hok:HOk X.prog X.w H' h') (J:AllBare g') :
  Inv X pins σ H' {s with heap:=h',gens:=g',drawn:=d',toks:=t'}:=by
 have B:∀ b o,X.s₀.heap.get? b=some o->b≠X.env.locals:=λb o e=>a9c (a5b (a0b e) I.ok.above);have j:∀ b o,X.s₀.heap.get? b=some o->b∉X.ex->b∉ch:=λb o e a y=>by
  rcases(f b y).1 with z | z;exact a z;exact absurd (a5b (a0b e) z) (a0e _)
 have g:∀ x c,X.env.cells.lookup x=some c->∀ v,s.heap.IsCell c v->h'.IsCell c v:=λx c e v ⟨o,A,hd⟩=>by
  have h:c∉ch:=λz=>(f c z).2.2.1 x c e rfl;by_cases E:c∈X.fs;obtain⟨sl,q⟩:=slot c o (I.cne x c e) E h A (I.freeC x c e);exact⟨_,q,hd⟩;exact⟨o,keep c o (I.cne x c e) E h A (I.freeC x c e),hd⟩
 refine⟨I.ok,I.os,J,⟨λb o e n y a=>?_,λb o e n y a=>?_,λb o e n a=>?_,λb o e a=>?_,λb xs e=>tups b xs (I.base.tups b xs e),λb o xs e=>frzs b o xs (I.base.frzs b o xs e),λb ps e=>?_⟩,?_,λx c e=>?_,?_,λx c e=>?_,λp F=>?_,hok,I.len⟩;exact keep b o (B b o e) y (j b o e a) (I.base.keep b o e n y a) (I.base.free b o e n a);obtain⟨sl,t⟩:=I.base.slot b o e n y a;obtain⟨D,C⟩:=slot b _ (B b o e) y (j b o e a) t (I.base.free b o e n a);exact⟨D,C⟩;obtain⟨o',t⟩:=I.base.there b o e a;exact free b o' (j b o e a) t (I.base.free b o e n a);obtain⟨o',t⟩:=I.base.there b o e a;exact there b o' (j b o e a) t;obtain⟨K,t⟩:=I.base.tbls b ps e;obtain⟨L,C⟩:=tbls b _ t;exact⟨K++L,by rw[C,a0j]⟩;obtain⟨m,hn,M⟩:=I.loc;refine⟨m,ns m hn,λi x v t C N=>?_⟩;obtain⟨u,r,l⟩:=M i x v t C N;refine⟨u,r,?_⟩;rcases l with l | ⟨k,c,e,z⟩;exact .inl l;exact .inr ⟨k,c,e,g x c e _ z⟩;obtain⟨v,z⟩:=I.cell x c e;exact⟨v,g x c e v z⟩;obtain⟨m,⟨o,_,_,A,_⟩,_⟩:=I.loc;exact free _ o (λz=>(f _ z).2.1 rfl) A I.free;obtain⟨v,o,A,hd⟩:=I.cell x c e;exact free c o (λz=>(f c z).2.2.1 x c e rfl) A (I.freeC x c e);obtain⟨e,n,ne,G,d⟩:=I.pin p F;have h:p.1∉ch:=λz=>(f p.1 z).2.2.2 p F rfl;exact⟨keep p.1 p.2 ne G h e n,free p.1 p.2 h e n,ne,G,d⟩
def Inv.un{t':Nat}(I:Inv X pins σ H s)(u:Un X.fs [] H H' s.heap h')(hok:HOk X.prog X.w H' h'):Inv X pins σ H' {s with heap:=h',toks:=t'}:=by
 obtain⟨m,⟨o,es,ep,g,r⟩,_⟩:=id I.loc;obtain⟨sl,h⟩:=u.any g I.free (by simp);exact I.step (g':=s.gens) (d':=s.drawn) (ch:=[]) (λ_ z=>nomatch z) (λb o _ c _ e n=>u.keep b o e n c (by simp)) (λb o _ c _ e n=>u.slot b o e n c (by simp)) (λb o _ e n=>u.free b o e n (by simp)) (λb o _ e=>u.there b o e (by simp)) u.tups u.frzs u.tbls (λm' hm=>by
  obtain⟨o',d,f,a,i⟩:=hm;rw[g]at a;cases a;exact⟨_,d,f,h,i⟩) hok I.bare
def Inv.call{g':Array GenState}{t':Nat}{d':Drawn}{ch:List Addr}(I:Inv X pins σ H s)(u:Un (frs X.stack) ch H H' s.heap h')(hok:HOk X.prog X.w H' h')(k:AllBare g')
  (d:∀ b∈ch,(b∈X.ex\/X.s₀.heap.objs.size<=b)/\b≠X.env.locals/\(∀ x c,X.env.cells.lookup x=some c->c≠b)/\∀ p∈X.pn++pins,p.1≠b) :
  Inv X pins σ H' {s with heap:=h',gens:=g',drawn:=d',toks:=t'}:=by
 obtain⟨m,⟨o,es,ep,j,r⟩,_⟩:=id I.loc;obtain⟨sl,g⟩:=u.any j I.free λz=>(d _ z).2.1 rfl;exact I.step (ch:=ch) d (λb o g l a e n=>u.keep b o e n (λz=>(a7b.mp (I.stkSub b z)).elim g l) a) (λb o _ _ a e n=>u.any e n a) (λb o a e n=>u.free b o e n a) (λb o a e=>u.there b o e a) u.tups u.frzs u.tbls (λm' hm=>by
  obtain⟨o',h,i,f,q⟩:=hm;rw[j]at f;cases f;exact⟨_,h,i,g,q⟩) hok k
def Inv.turned{t':Nat}{it:Addr}(I:Inv X pins σ H s)(k:∀ b o,b≠it->s.heap.get? b=some o->h'.get? b=some o)(hn:H it=none)(f:it≠X.env.locals)
  (g:it∈X.ex\/X.s₀.heap.objs.size<=it) (h:∀ x c,X.env.cells.lookup x=some c->c≠it) (i:∀ p∈X.pn++pins,p.1≠it):Inv X pins σ H {s with heap:=h',toks:=t'}:=by
 have d:∀ b u,H b=some u->b≠it:=λb u e z=>by rw[z,hn]at e;cases e
 refine I.step (g':=s.gens) (d':=s.drawn) (ch:=[it]) (λb j=>?_) (λb o _ _ a e _=>k b o (λz=>a (by simp[z])) e) (λb o _ _ a e _=>⟨o.slots,k b o (λz=>a (by simp[z])) e⟩) (λ_ _ _ _ n=>n)
  (λb o a e=>⟨o,k b o (λz=>a (by simp[z])) e⟩) (λ_ _ e=>e) (λ_ _ _ e=>e) (λb ps e=>⟨#[],by rw[e];simp⟩) (λm hm=>?_) (λb u e=>?_) I.bare
 ·have e:b=it:=by simpa using j
  subst e;exact⟨g,f,h,i⟩
 ·obtain⟨o,es,ep,l,r⟩:=hm;exact⟨o,es,ep,k _ o (a3d f) l,r⟩
 ·refine(I.hok b u e).stay (λc v a q=>k c v ?_ q) (λ_ q=>q) λ_ _ q=>q;rcases a with z | z;rw[z];exact d b u e;exact d c _ z
def Inv.tok(I:Inv X pins σ H s)(t:Nat):Inv X pins σ H {s with toks:=t}:=I.un (h':=s.heap) (t':=t) Un.refl I.hok
theorem Inv.kept{t':Nat}(I:Inv X pins σ H s)(k:∀ b u,s.heap.get? b=some u->h'.get? b=some u):Inv X pins σ H {s with heap:=h',toks:=t'}:=I.un (Un.kept k) (I.hok.kept k)
theorem Inv.laid{a:Addr}{o:HO}{t':Nat}(I:Inv X pins σ H s)(k:∀ b u,s.heap.get? b=some u->h'.get? b=some u)(c:s.heap.objs.size<=a)(new:cN X.prog X.w (upd H a o) h' a o) :
  Inv X pins σ (upd H a o) {s with heap:=h',toks:=t'}:=I.un (Un.laid k c (I.hok.fresh c)) (I.hok.laid k c new)
theorem Inv.write{x e:Addr}{o:HO}{t':Nat}(I:Inv X pins σ H s)(mu:Mut (H x))(c:e=x\/H e=some (.own x))(k:∀ b u,b≠e->s.heap.get? b=some u->h'.get? b=some u)(a:∃ u,h'.get? e=some u)
  (new:cN X.prog X.w (upd H x o) h' x o):Inv X pins σ (upd H x o) {s with heap:=h',toks:=t'}:=I.un (Un.write mu c k a) (I.hok.write mu c k a new)
def Inv.weak{σ':List (Option V)}(I:Inv X pins σ H s)(b:σ'.length=σ.length)(w:∀ (i:Nat) v,σ'[i]? = some (some v)->σ[i]? = some (some v)):Inv X pins σ' H s:=
 ⟨I.ok,I.os,I.bare,I.base,let ⟨m,hn,a⟩:=I.loc;⟨m,hn,λi x v c d e=>a i x v c (w i v d) e⟩,I.cell,I.free,I.freeC,I.pin,I.hok,b.trans I.len⟩
def Inv.pins_of{a:List (Addr×Obj)}(I:Inv X pins σ H s)(h:∀ p∈a,s.heap.get? p.1=some p.2/\H p.1=none/\p.1≠X.env.locals/\p.1∉X.fs/\∀ v,p.2.data≠.cell v):Inv X a σ H s:=
 ⟨I.ok,I.os,I.bare,I.base,I.loc,I.cell,I.free,I.freeC,λp b=>(a0c.mp b).elim (λz=>I.pin p (a2g _ z)) (h p),I.hok,I.len⟩
def tW{N:List Str}(c:N.Nodup){i j:Nat}{x:Str}(a:N[i]? = some x)(b:N[j]? = some x):i=j:=by
 obtain⟨f,d⟩:=a3a.mp a;obtain⟨g,e⟩:=a3a.mp b;exact(List.getElem_inj c).mp (d.trans e.symm)
def vU{M:Model}{A:Around}{E:Value->Shared->Prop}{i:Nat}{x:Str}{v:V}{u:Value}{Q:Unit->Shared->Prop}(I:Inv X pins σ H s)(hN:X.N.Nodup)(hi:X.N[i]? = some x)(t:Loc X.env.scope x)(r:cY v u)
  (h:∀ s',Inv X pins (σ.set i (some v)) H s'->(∃ a,Heap.SameBut a s.heap s'.heap/\(a=X.env.locals\/X.env.cells.lookup x=some a))->Q () s') (hf:X.fn x=true\/X.env.scope.names.lookup x=some .local:=by first | exact .inl rfl | exact .inr rfl | assumption):wpAny M A (storeName X.env x u) Q E s:=by
 obtain⟨m,hn,hl⟩:=id I.loc;have L:(X.env.scope.kind==.class||(X.env.scope.kind==.module&&X.env.locals != X.env.globals))=false:=by rw[I.ok.kind];rfl
 have D:i < σ.length:=by rw[I.len];exact(a3a.mp hi).1
 have cne:=I.cne;have f:∀ {a:Addr} {h':Heap},(∃ o,s.heap.get? a=some o/\H a=none)->Heap.SameBut a s.heap h'->HOk X.prog X.w H h':=λ{a h'} ha hs b ob e=>by
  obtain⟨_,_,B⟩:=ha;refine(I.hok b ob e).stay (λc T l q=>(hs.2 c ?_).trans q) (λ_ q=>q) λ_ _ q=>q;rintro rfl;rcases l with rfl | l;rw[B]at e;cases e;rw[B]at l;cases l
 rcases t with F | F
 ·refine wpAny_storeName_local F hn (λh' W hs=>?_) L;obtain⟨oL,_,_,Y,_⟩:=id hn;refine h _ ⟨I.ok,I.os,I.bare,⟨λb o e n G t=>?_,λb o e n G t=>?_,I.base.free,λb o e t=>?_,I.base.tups,I.base.frzs,I.base.tbls⟩,⟨_,W,λj y Z g C e3=>?_⟩,λy c e=>?_,I.free,I.freeC,λp hp=>?_,f ⟨oL,Y,I.free⟩ hs,by simpa using I.len⟩ ⟨_,hs,.inl rfl⟩;exact(hs.2 b (a9c (a5b (a0b e) I.ok.above))).trans (I.base.keep b o e n G t);obtain⟨sl,g⟩:=I.base.slot b o e n G t;exact⟨sl,(hs.2 b (a9c (a5b (a0b e) I.ok.above))).trans g⟩;obtain⟨o',g⟩:=I.base.there b o e t;exact⟨o',(hs.2 b (a9c (a5b (a0b e) I.ok.above))).trans g⟩;by_cases J:j=i;subst J;rw[hi]at g;cases g;rw[a1c D]at C;cases C;exact⟨u,r,.inl ⟨F,by simp⟩⟩;rw[a7a (a3d J)]at C;obtain⟨u',r',q⟩:=hl j y Z g C e3;refine⟨u',r',?_⟩;rcases q with⟨k,e⟩ | ⟨k,c,e,z⟩;refine .inl ⟨k,?_⟩;have:y≠x:=λe=>J (tW hN g (e ▸ hi));simp[this,e];exact .inr ⟨k,c,e,z.sameBut hs (cne y c e)⟩;obtain⟨T,z⟩:=I.cell y c e;exact⟨T,z.sameBut hs (cne y c e)⟩;obtain⟨e,n,ne,nf,d⟩:=I.pin p hp;exact⟨(hs.2 p.1 ne).trans e,n,ne,nf,d⟩
 ·have K:X.fn x=true:=by
   rcases hf with z | z;exact z;rw[z]at F;cases F
  obtain⟨c,l⟩:=I.ok.has x (.inl F);obtain⟨T,z⟩:=I.cell x c l;refine wpAny_storeName_cell I.ok.kind F l z (λh' O hs=>?_);obtain⟨oc,P,R⟩:=id z;refine h {s with heap:=h'} ⟨I.ok,I.os,I.bare,⟨λb o e n G t=>?_,λb o e n G t=>?_,I.base.free,λb o e t=>?_,I.base.tups,I.base.frzs,I.base.tbls⟩,⟨m,hn.sameBut hs (a3d (cne x c l)),λj y Z g C e3=>?_⟩,λy U e=>?_,I.free,I.freeC,λp hp=>?_,f ⟨oc,P,I.freeC x c l⟩ hs,by simpa using I.len⟩ ⟨c,hs,.inr l⟩;exact(hs.2 b (a9c (a5b (a0b e) (I.ok.cab x c K l)))).trans (I.base.keep b o e n G t);obtain⟨sl,g⟩:=I.base.slot b o e n G t;exact⟨sl,(hs.2 b (a9c (a5b (a0b e) (I.ok.cab x c K l)))).trans g⟩;obtain⟨o',g⟩:=I.base.there b o e t;exact⟨o',(hs.2 b (a9c (a5b (a0b e) (I.ok.cab x c K l)))).trans g⟩;by_cases J:j=i;subst J;rw[hi]at g;cases g;rw[a1c D]at C;cases C;exact⟨u,r,.inr ⟨.inl F,c,l,O⟩⟩;rw[a7a (a3d J)]at C;obtain⟨u',r',q⟩:=hl j y Z g C e3;refine⟨u',r',?_⟩;rcases q with q | ⟨k,U,e,z'⟩;exact .inl q;refine .inr ⟨k,U,e,z'.sameBut hs ?_⟩;rintro rfl;exact J (tW hN g (I.ok.inj _ _ _ e l ▸ hi));by_cases S:U=c;subst S;exact⟨_,O⟩;obtain⟨w2,z2⟩:=I.cell y U e;exact⟨w2,z2.sameBut hs S⟩;obtain⟨e,n,ne,nf,d⟩:=I.pin p hp;refine⟨(hs.2 p.1 ?_).trans e,n,ne,nf,d⟩;intro q;rw[q,P]at e;have q':oc=p.2:=a5a e;exact d T (by rw[← q'];exact R)
def kX{M:Model}{A:Around}{E:Value->Shared->Prop}{i:Nat}{x:Str}{v:V}{u:Value}{Q:Unit->Shared->Prop}(I:Inv X pins σ H s)(a:X.N.Nodup)(hi:X.N[i]? = some x)(b:Loc X.env.scope x)(r:cY v u)
  (h:∀ s',Inv X pins (σ.set i (some v)) H s'->Q () s') (c:X.fn x=true\/X.env.scope.names.lookup x=some .local:=by first | exact .inl rfl | exact .inr rfl | assumption):wpAny M A (storeName X.env x u) Q E s:=
 vU I a hi b r (λs' d _=>h s' d) c
def Inv.call'{s':Shared}{ch:List Addr}(I:Inv X pins σ H s)(d:s'.os=s.os)(u:Un (frs X.stack) ch H H' s.heap s'.heap)(hok:HOk X.prog X.w H' s'.heap)(f:AllBare s'.gens)
  (a:∀ b∈ch,(b∈X.ex\/X.s₀.heap.objs.size<=b)/\b≠X.env.locals/\(∀ x c,X.env.cells.lookup x=some c->c≠b)/\∀ p∈X.pn++pins,p.1≠b):Inv X pins σ H' s':=by
 obtain⟨h',g',d',t',o'⟩:=s';have e:o'=s.os:=d;subst e;exact I.call (g':=g') (t':=t') (d':=d') u hok f a
end
abbrev XK:=Value->Option Addr->Hp->Prop
abbrev St:=List (Option V)
abbrev VK:=V->Hp->Prop
abbrev TE:=St->Hp->VK->Prop
abbrev TT:=St->Hp->(Bool->Hp->Prop)->Prop
abbrev TA:=St->Hp->(List V->Hp->Prop)->Prop
structure Ends where
 nx:St->Hp->Prop
 rt:VK
 bk:St->Hp->Prop:=λ_ _=>False
 ct:St->Hp->Prop:=λ_ _=>False
abbrev TS:=Ends->St->Hp->Prop
def EP(X:Cx)(pins:List (Addr×Obj))(σ:St)(Q:VK)(u:Value)(s':Shared):Prop:=∃ v H',Inv X pins σ H' s'/\cY v u/\Q v H'
def TP(X:Cx)(pins:List (Addr×Obj))(σ:St)(Q:Bool->Hp->Prop)(b:Bool)(s':Shared):Prop:=∃ H',Inv X pins σ H' s'/\Q b H'
def AP(X:Cx)(pins:List (Addr×Obj))(σ:St)(Q:List V->Hp->Prop)(us:List Value)(s':Shared):Prop:=∃ vs H',Inv X pins σ H' s'/\bG vs us/\Q vs H'
def SP(X:Cx)(pins:List (Addr×Obj))(D:Ends)(f:Flow)(s':Shared):Prop:=
 match f with
 | .next=>∃ σ' H',Inv X pins σ' H' s'/\D.nx σ' H'
 | .brk=>∃ σ' H',Inv X pins σ' H' s'/\D.bk σ' H'
 | .cont=>∃ σ' H',Inv X pins σ' H' s'/\D.ct σ' H'
 | .ret u=>∃ v σ' H',Inv X pins σ' H' s'/\cY v u/\D.rt v H'
def PE(X:Cx)(e:Expr)(t:TE):Prop:=
 ∀ (pins:List (Addr×Obj)) (s:Shared) (σ:St) (H:Hp) (Q:VK),Inv X pins σ H s->t σ H Q->wpAny (model X.prog X.w) X.A (eval e X.env) (EP X pins σ Q) X.xe s
def PT(X:Cx)(e:Expr)(t:TT):Prop:=
 ∀ (pins:List (Addr×Obj)) (s:Shared) (σ:St) (H:Hp) (Q:Bool->Hp->Prop),Inv X pins σ H s->t σ H Q->wpAny (model X.prog X.w) X.A (isTrue e X.env (eval e X.env)) (TP X pins σ Q) X.xe s
def PW(X:Cx)(e:Expr)(t:TT):Prop:=
 ∀ (a:Sem Value) (pins:List (Addr×Obj)) (s:Shared) (σ:St) (H:Hp) (Q:Bool->Hp->Prop),Inv X pins σ H s->t σ H Q->wpAny (model X.prog X.w) X.A (isTrue e X.env a) (TP X pins σ Q) X.xe s
def PW.pt{X:Cx}{e:Expr}{t:TT}(h:PW X e t):PT X e t:=h _
def PA(X:Cx)(es:List Expr)(t:TA):Prop:=
 ∀ (a:Pos) (pins:List (Addr×Obj)) (s:Shared) (σ:St) (H:Hp) (Q:List V->Hp->Prop),Inv X pins σ H s->t σ H Q->wpAny (model X.prog X.w) X.A (spliced (backTo a (starEach es X.env))) (AP X pins σ Q) X.xe s
def PS(X:Cx)(st:Stmt)(t:TS):Prop:=
 ∀ (pins:List (Addr×Obj)) (s:Shared) (σ:St) (H:Hp) (D:Ends),Inv X pins σ H s->t D σ H->wpAny (model X.prog X.w) X.A (exec st X.env) (SP X pins D) X.xe s
def PSs(X:Cx)(st:List Stmt)(t:TS):Prop:=
 ∀ (pins:List (Addr×Obj)) (s:Shared) (σ:St) (H:Hp) (D:Ends),Inv X pins σ H s->t D σ H->wpAny (model X.prog X.w) X.A (execs st X.env) (SP X pins D) X.xe s
def thn{b:Type}{t:Sem b}{Q c:b->Shared->Prop}{M:Model}{A:Around}{E:Value->Shared->Prop}{s:Shared}(h:wpAny M A t Q E s)(d:∀ a s,Q a s->c a s):wpAny M A t c E s:=a3B h d λ_ _ x=>x
section
variable{X:Cx}
def aC4(i:Nat):TE:=λσ H Q=>∃ v,σ[i]? = some (some v)/\Q v H
def tC(v:V):TE:=λ_ H Q=>Q v H
def cN3{i:Nat}{x:Str}{pos:Pos}(g:X.N[i]? = some x)(j:Vis X.env.scope x)(hd:(x==("__debug__":Str))=false:=by decide)(d:(x==("__classdict__":Str))=false:=by decide):PE X (.Name x pos) (aC4 i):=by
 intro pins s σ H Q I h;obtain⟨v,e,h⟩:=h;obtain⟨m,hn,k⟩:=I.loc;obtain⟨u,r,l⟩:=k i x v g e j;have fin:EP X pins σ Q u s:=⟨v,H,I,r,h⟩;rcases l with⟨b,hm⟩ | ⟨b,c,f,a⟩;exact wpAny_Name (wpAny_loadName_local I.ok.kind b hn hm fin) hd;rcases b with b | b;exact wpAny_Name (wpAny_loadName_cell I.ok.kind b f a fin) hd;exact wpAny_Name (wpAny_loadName_free I.ok.kind b f a fin d) hd
def aL{i j pos}:PE X (.Constant (.int i) j pos) (tC (.int i)):=λ_ _ _ H _ I h=>wpAny_Constant_int ⟨.int i,H,I.tok _,⟨_,rfl⟩,h⟩
def dG7{b j pos}:PE X (.Constant (.bool b) j pos) (tC (.bl b)):=λ_ _ _ H _ I h=>Constant_bool ⟨.bl b,H,I,rfl,h⟩
def cN4{j pos}:PE X (.Constant .none j pos) (tC .non):=λ_ _ _ H _ I h=>Constant_none ⟨.non,H,I,rfl,h⟩
def bQ6{x j pos}:PE X (.Constant (.str x) j pos) (tC (.str x)):=λ_ _ _ H _ I h=>Calls.Constant_str ⟨.str x,H,I.tok _,⟨_,rfl⟩,h⟩
def Gl(X:Cx)(x:Str):Prop:=X.env.kindOf x=some .globalImplicit
def pS{E:Value->Shared->Prop}{pins:List (Addr×Obj)}{s:Shared}{σ:St}{H:Hp}{x:Str}{u:Value}{pos:Pos}{Q:Value->Shared->Prop}(I:Inv X pins σ H s)(a:Gl X x)(hm:X.mg x=some u)(h:Q u s)
  (hd:(x==("__debug__":Str))=false:=by decide):wpAny (model X.prog X.w) X.A (eval (.Name x pos) X.env) Q E s:=
 Calls.Name_function_global I.ok.kind a (Calls.loadGlobal_global (by rw[I.ok.glob];exact I.mod.glob.keeps I.bk) hm h) hd
def jR{E:Value->Shared->Prop}{pins:List (Addr×Obj)}{s:Shared}{σ:St}{H:Hp}{x:Str}{u:Value}{pos:Pos}{Q:Value->Shared->Prop}(I:Inv X pins σ H s)(a:Gl X x)(hm:X.mg x=none)(b:bootBuiltins x=some u)(h:Q u s)
  (hn:x≠"__name__":=by decide) (hd:(x==("__debug__":Str))=false:=by decide):wpAny (model X.prog X.w) X.A (eval (.Name x pos) X.env) Q E s:=by
 obtain⟨mb,c,d⟩:=I.mod.blt;exact Calls.Name_function_global I.ok.kind a (Calls.loadGlobal_builtin (by rw[I.ok.glob];exact I.mod.glob.keeps I.bk) hm (by rw[I.ok.blt];exact c.keeps I.bk) ((d x hn).trans b) h) hd
def mT{x:Str}{v:V}{u:Value}{pos:Pos}(a:Gl X x)(hm:X.mg x=some u)(r:cY v u)(hd:(x==("__debug__":Str))=false:=by decide):PE X (.Name x pos) (tC v):=
 λ_ _ _ H _ I h=>pS I a hm ⟨v,H,I,r,h⟩ hd
def yT{x:Str}{v:V}{u:Value}{pos:Pos}(a:Gl X x)(hm:X.mg x=none)(b:bootBuiltins x=some u)(r:cY v u)(hn:x≠"__name__":=by decide)(hd:(x==("__debug__":Str))=false:=by decide):PE X (.Name x pos) (tC v):=
 λ_ _ _ H _ I h=>jR I a hm b ⟨v,H,I,r,h⟩ hn hd
variable{a b:Expr}{ta tb:TE}{pos:Pos}
def tB(t:TE):TT:=λσ H Q=>t σ H λx a=>∃ c,x=.bl c/\Q c a
def cN5{e:Expr}{t:TE}(h:PE X e t)(b:∀ a,isTrue e X.env a=(do let v ← a;standAt e.pos;holding [v] (truthy v)):=by intro _;rfl):PT X e (tB t):=by
 intro pins s σ H Q I c;refine isTrue_plain (thn (h pins s σ H _ I c) λv s1 Z0=>?_) (b _);obtain⟨x,f,g,i,j⟩:=Z0;obtain⟨d,rfl,q⟩:=j;cases i;exact a3E ⟨f,g,q⟩
variable{tA tB':TT}{bK:List Expr}
def dL8(t u:TT):TT:=λσ H Q=>t σ H λc a=>if c=true then u σ a Q else Q false a
def tOr(t u:TT):TT:=λσ H Q=>t σ H λc a=>if c=true then Q true a else u σ a Q
def dO5(t:TT):TT:=λσ H Q=>t σ H λc a=>Q (!c) a
def pT(ha:PT X a tA):PW X (.BoolOp .And [a] pos) tA:=by
 intro b pins s σ H Q I h;refine isTrue_and (thn (ha pins s σ H Q I h) λc s1 e=>?_);cases c with
 | true=>exact isTrue_and_nil e
 | false=>exact e
def cN6(ha:PT X a tA):PW X (.BoolOp .Or [a] pos) tA:=by
 intro b pins s σ H Q I h;refine isTrue_or (thn (ha pins s σ H Q I h) λc s1 e=>?_);cases c with
 | false=>exact isTrue_or_nil e
 | true=>exact e
def sR(ha:PT X a tA)(g:PW X (.BoolOp .And (b::bK) pos) tB'):PW X (.BoolOp .And (a::b::bK) pos) (dL8 tA tB'):=by
 intro i pins s σ H Q I h;refine isTrue_and (thn (ha pins s σ H _ I h) λc s1 Z0=>?_);obtain⟨d,e,f⟩:=Z0;cases c with
 | true=>exact g i pins s1 σ d Q e f
 | false=>exact⟨d,e,f⟩
def dG8(ha:PT X a tA)(g:PW X (.BoolOp .Or (b::bK) pos) tB'):PW X (.BoolOp .Or (a::b::bK) pos) (tOr tA tB'):=by
 intro i pins s σ H Q I h;refine isTrue_or (thn (ha pins s σ H _ I h) λc s1 Z0=>?_);obtain⟨d,e,f⟩:=Z0;cases c with
 | true=>exact⟨d,e,f⟩
 | false=>exact g i pins s1 σ d Q e f
def cN7(ha:PT X a tA):PT X (.UnaryOp .Not a pos) (dO5 tA):=by
 intro pins s σ H Q I h;exact isTrue_not (ha pins s σ H (λc b=>Q (!c) b) I h)
def bY2(ta tb:TE):TE:=λσ H Q=>ta σ H λx a=>∃ c,x=.bl c/\if c=true then tb σ a Q else Q (.bl false) a
def dO6(ta tb:TE):TE:=λσ H Q=>ta σ H λx a=>∃ c,x=.bl c/\if c=true then Q (.bl true) a else tb σ a Q
def cN8(ta:TE):TE:=λσ H Q=>ta σ H λx a=>∃ c,x=.bl c/\Q (.bl (!c)) a
def aN8{op}{t:TE}(h:PE X a t):PE X (.BoolOp op [a] pos) t:=λpins s σ H Q I b=>BoolOp_one (h pins s σ H Q I b)
def aN9(ha:PE X a ta)(g:PE X (.BoolOp .And (b::bK) pos) tb):PE X (.BoolOp .And (a::b::bK) pos) (bY2 ta tb):=by
 intro pins s σ H Q I h;refine BoolOp_and (thn (ha pins s σ H _ I h) λv s1 Z0=>?_);obtain⟨x,e,f,i,d⟩:=Z0;obtain⟨c,rfl,d⟩:=d;cases i;refine a3E ?_;cases c with
 | true=>exact g pins s1 σ e Q f d
 | false=>exact⟨.bl false,e,f,rfl,d⟩
def dG9(ha:PE X a ta)(g:PE X (.BoolOp .Or (b::bK) pos) tb):PE X (.BoolOp .Or (a::b::bK) pos) (dO6 ta tb):=by
 intro pins s σ H Q I h;refine BoolOp_or (thn (ha pins s σ H _ I h) λv s1 Z0=>?_);obtain⟨x,e,f,i,d⟩:=Z0;obtain⟨c,rfl,d⟩:=d;cases i;refine a3E ?_;cases c with
 | false=>exact g pins s1 σ e Q f d
 | true=>exact⟨.bl true,e,f,rfl,d⟩
def bQ7(ha:PE X a ta):PE X (.UnaryOp .Not a pos) (cN8 ta):=by
 intro pins s σ H Q I h;refine UnaryOp_ (thn (ha pins s σ H _ I h) λv s1 Z0=>?_);obtain⟨x,d,e,f,b⟩:=Z0;obtain⟨c,rfl,b⟩:=b;cases f;exact not_of (a3E ⟨.bl (!c),d,e,rfl,b⟩)
def tIf(t:TT)(ta tb:TE):TE:=λσ H Q=>t σ H λc a=>if c=true then ta σ a Q else tb σ a Q
def bE2{c:Expr}(i:PT X c tA)(ha:PE X a ta)(j:PE X b tb):PE X (.IfExp c a b pos) (tIf tA ta tb):=by
 intro pins s σ H Q I h;refine wpAny_IfExp (thn (i pins s σ H _ I h) λd s1 Z0=>?_);obtain⟨e,f,g⟩:=Z0;cases d with
 | true=>exact ha pins s1 σ e Q f g
 | false=>exact j pins s1 σ e Q f g
end
def SqL(K:W.Frag)(H:Hp)(a:Addr)(xs:List V):Prop:=
 Rd H a (.lst xs) \/
  ∃ (o:Obj) (its:Array Value) (n:Nat),K.lookup a=some o/\o.cls=.type "list"/\o.dict=none/\o.data=.seq its n/\its.size<=sizeLine/\bG xs its.toList
def SqT(K:W.Frag)(H:Hp)(a:Addr)(xs:List V):Prop:=
 Rd H a (.tup xs) \/
  ∃ (o:Obj) (its:Array Value) (n:Nat),K.lookup a=some o/\o.cls=.type "tuple"/\o.data=.seq its n/\its.size<=sizeLine/\bG xs its.toList
noncomputable def dO7:Value->Option V
 | .none=>some .non
 | .bool b=>some (.bl b)
 | .int i _=>some (.int i)
 | .str x _=>some (.str x)
 | .bytes b _=>some (.byt b)
 | .float b _=>some (.flt b)
 | .ref a=>some (.ref a)
 | .type n=>some (.ty n)
 | _=>none
def cY.abs{x:V}{u:Value}(r:cY x u):dO7 u=some x:=by
 cases x with
 | non=>cases r;rfl
 | bl _=>cases r;rfl
 | int _=>obtain⟨t,rfl⟩:=r;rfl
 | str _=>obtain⟨t,rfl⟩:=r;rfl
 | byt _=>obtain⟨t,rfl⟩:=r;rfl
 | flt _=>obtain⟨t,rfl⟩:=r;rfl
 | ref _=>cases r;rfl
 | ty _=>cases r;rfl
def cY.inj{x y:V}{u:Value}(r:cY x u)(q:cY y u):x=y:=a5a (r.abs.symm.trans q.abs)
theorem bG.inj:∀ {xs ys:List V} {us:List Value},bG xs us->bG ys us->xs=ys
 | _,_,_,.nil,.nil=>rfl
 | _,_,_,.cons r t,.cons a b=>by rw[r.inj a,bG.inj t b]
section
variable{X:Cx}{pins:List (Addr×Obj)}{σ:St}{H:Hp}{s:Shared}{a:Addr}{xs ys:List V}
def SqL.of{K:W.Frag}(h:H a=some (.lst xs)):SqL K H a xs:=.inl (.inl h)
def SqT.of{K:W.Frag}(h:H a=some (.tup xs)):SqT K H a xs:=.inl (.inl h)
def Inv.list(I:Inv X pins σ H s)(h:SqL X.K H a xs):∃ its:List Value,bG xs its/\PlainL s.heap a its.toArray/\xs.length<=sizeLine:=by
 rcases h with h | ⟨o,its,n,b,c,hd,hs,d,r⟩;obtain⟨z,its,n,r,e⟩:=h.ok I.hok;exact⟨its,r,⟨_,n,e,rfl,rfl,rfl⟩,z⟩;refine⟨its.toList,r,⟨o,n,I.kIn a o b,c,hd,by simpa using hs⟩,?_⟩;have e:=r.length;simp only[Array.length_toList]at e;lia
def Inv.tuple(I:Inv X pins σ H s)(h:SqT X.K H a xs):∃ its:List Value,bG xs its/\IsTup s.heap a its.toArray/\xs.length<=sizeLine:=by
 rcases h with h | ⟨o,its,n,b,c,hs,d,r⟩;obtain⟨z,its,r,p,_⟩:=h.ok I.hok;exact⟨its,r,p,z⟩;refine⟨its.toList,r,⟨o,I.kIn a o b,c,n,by simpa using hs⟩,?_⟩;have e:=r.length;simp only[Array.length_toList]at e;lia
def Inv.list_inj(I:Inv X pins σ H s)(h:SqL X.K H a xs)(h':SqL X.K H a ys):xs=ys:=by
 obtain⟨its,r,⟨o,n,e,_,_,d⟩,_⟩:=I.list h;obtain⟨b,f,⟨o',i,c,_,_,d'⟩,_⟩:=I.list h';rw[e]at c;cases c;rw[d]at d';injection d' with g _
 have:its=b:=by simpa using a3H Array.toList g
 subst this;exact r.inj f
def Inv.tuple_inj(I:Inv X pins σ H s)(h:SqT X.K H a xs)(h':SqT X.K H a ys):xs=ys:=by
 obtain⟨its,r,⟨o,e,_,n,d⟩,_⟩:=I.tuple h;obtain⟨b,f,⟨o',c,_,i,d'⟩,_⟩:=I.tuple h';rw[e]at c;cases c;rw[d]at d';injection d' with g _
 have:its=b:=by simpa using a3H Array.toList g
 subst this;exact r.inj f
end
noncomputable abbrev Cx.wish(X:Cx)(E:Value->Shared->Prop):Cx:={X with xe:=E}
noncomputable abbrev Cx.nox(X:Cx):Cx:=X.wish λ_ _=>False
theorem Cx.Ok.wish{X:Cx}(ok:X.Ok)(E:Value->Shared->Prop):(X.wish E).Ok:=
 ⟨ok.mod,ok.kind,ok.glob,ok.blt,ok.above,ok.inj,ok.has,ok.cab,ok.hd,ok.frames,ok.stk,ok.exf,ok.bs,ok.bsz,ok.noex,ok.exfs,ok.funs,ok.frf⟩
def Cx.Ok.unwish{X:Cx}{E:Value->Shared->Prop}(ok:(X.wish E).Ok):X.Ok:=
 ⟨ok.mod,ok.kind,ok.glob,ok.blt,ok.above,ok.inj,ok.has,ok.cab,ok.hd,ok.frames,ok.stk,ok.exf,ok.bs,ok.bsz,ok.noex,ok.exfs,ok.funs,ok.frf⟩
section
variable{X:Cx}{pins:List (Addr×Obj)}{σ:St}{H:Hp}{s:Shared}{E:Value->Shared->Prop}
theorem Inv.wish(I:Inv X pins σ H s)(E:Value->Shared->Prop):Inv (X.wish E) pins σ H s:=⟨I.ok.wish E,I.os,I.bare,I.base,I.loc,I.cell,I.free,I.freeC,I.pin,I.hok,I.len⟩
theorem Inv.unwish(I:Inv (X.wish E) pins σ H s):Inv X pins σ H s:=⟨I.ok.unwish,I.os,I.bare,I.base,I.loc,I.cell,I.free,I.freeC,I.pin,I.hok,I.len⟩
theorem SP.unwish{D:Ends}{f:Flow}{s':Shared}(h:SP (X.wish E) pins D f s'):SP X pins D f s':=by
 cases f with
 | next=>obtain⟨σ',H',I,q⟩:=h;exact⟨σ',H',I.unwish,q⟩
 | brk=>obtain⟨σ',H',I,q⟩:=h;exact⟨σ',H',I.unwish,q⟩
 | cont=>obtain⟨σ',H',I,q⟩:=h;exact⟨σ',H',I.unwish,q⟩
 | ret u=>obtain⟨v,σ',H',I,r,q⟩:=h;exact⟨v,σ',H',I.unwish,r,q⟩
theorem PSs.nox{st:List Stmt}{t:TS}(h:PSs X.nox st t):PSs X st t:=λpins s σ H D I a=>
 a3B (h pins s σ H D (I.wish _) a) (λ_ _ q=>q.unwish) λ_ _ z=>False.elim z
end
section
variable{X:Cx}{st:Stmt}{bK:List Stmt}{t u:TS}{e:Expr}{te:TE}{pos:Pos}
def cN9:TS:=λD σ H=>D.nx σ H
def cO0(t u:TS):TS:=λD σ H=>t {D with nx:=u D} σ H
def eX:PSs X [] cN9:=λ_ _ σ H _ I h=>wpAny_execs_nil ⟨σ,H,I,h⟩
def aM(a:PS X st t)(b:PSs X bK u):PSs X (st::bK) (cO0 t u):=by
 intro pins s σ H D I h;refine wpAny_execs_cons (thn (a pins s σ H {D with nx:=u D} I h) λf s1 q=>?_);cases f with
 | next=>
   obtain⟨σ',H',c,q⟩:=q;exact b pins s1 σ' H' D c q
 | ret v=>exact q
 | brk=>exact q
 | cont=>exact q
def aV(a:PS X st t):PSs X [st] t:=by
 intro pins s σ H D I h;refine wpAny_execs_cons (thn (a pins s σ H D I h) λf s1 q=>?_);cases f with
 | next=>exact wpAny_execs_nil q
 | ret v=>exact q
 | brk=>exact q
 | cont=>exact q
def Inv.quiet{pins:List (Addr×Obj)}{σ:St}{H:Hp}{s:Shared}(I:Inv X pins σ H s):interactive X.env=false:=by simp[interactive,I.ok.kind]
def cO1(te:TE):TS:=λD σ H=>te σ H λ_ a=>D.nx σ a
def gL(a:PE X e te)(hs:swapsWith e none pos.line X.env=pure false:=by rfl):PS X (.Expr e pos) (cO1 te):=by
 intro pins s σ H D I h;exact wpAny_Expr_any (thn (a pins s σ H _ I h) λv s1 ⟨x,b,c,f,d⟩=>⟨σ,b,c,d⟩) I.quiet hs
def dL9(te:TE):TS:=λD σ H=>te σ H D.rt
def kY(a:PE X e te):PS X (.Return (some e) pos) (dL9 te):=by
 intro pins s σ H D I h;exact wpAny_Return_some (thn (a pins s σ H _ I h) λv s1 ⟨x,b,c,d,f⟩=>⟨x,σ,b,c,d,f⟩)
def dM0(c:TT)(t u:TS):TS:=λD σ H=>c σ H λb a=>if b=true then t D σ a else u D σ a
def mU{c:Expr}{a b:List Stmt}{e:TT}(j:PT X c e)(ha:PSs X a t)(k:PSs X b u):PS X (.If c a b pos) (dM0 e t u):=by
 intro pins s σ H D I h;refine wpAny_If (thn (j pins s σ H _ I h) λd s1 Z0=>?_);obtain⟨f,g,i⟩:=Z0;cases d with
 | true=>exact ha pins s1 σ f D g i
 | false=>exact k pins s1 σ f D g i
end
abbrev TG:=V->St->Hp->(St->Hp->Prop)->Prop
abbrev TGs:=List V->St->Hp->(St->Hp->Prop)->Prop
def PG(X:Cx)(a:Expr)(t:TG):Prop:=
 ∀ (pins:List (Addr×Obj)) (s:Shared) (σ:St) (H:Hp) (v:V) (u:Value) (Q:St->Hp->Prop),Inv X pins σ H s->cY v u->t v σ H Q ->
   wpAny (model X.prog X.w) X.A (assign a X.env u) (λ_ s'=>∃ σ' H',Inv X pins σ' H' s'/\Q σ' H') X.xe s
def PGs(X:Cx)(ts:List Expr)(t:TGs):Prop:=
 ∀ (pins:List (Addr×Obj)) (s:Shared) (σ:St) (H:Hp) (vs:List V) (us:List Value) (Q:St->Hp->Prop),Inv X pins σ H s->bG vs us->t vs σ H Q ->
   wpAny (model X.prog X.w) X.A (assignInOrder ((assignEach ts X.env).map (·.2)) us) (λ_ s'=>∃ σ' H',Inv X pins σ' H' s'/\Q σ' H') X.xe s
abbrev mV:=V->V->V->Hp->(Hp->Prop)->Prop
def dM1(X:Cx)(t:mV):Prop:=
 ∀ (pins:List (Addr×Obj)) (s:Shared) (σ:St) (H:Hp) (o i v:V) (ov a u:Value) (Q:Hp->Prop),Inv X pins σ H s->cY o ov->cY i a->cY v u->t o i v H Q ->
   wpAny (model X.prog X.w) X.A (setItem ov a u) (λ_ s'=>∃ H',Inv X pins σ H' s'/\Q H') X.xe s
section
variable{X:Cx}{pos:Pos}
def rZ(i:Nat):TG:=λv σ H Q=>Q (σ.set i (some v)) H
def aY{i:Nat}{x:Str}(a:X.N.Nodup)(hi:X.N[i]? = some x)(b:Loc X.env.scope x)(c:X.fn x=true\/X.env.scope.names.lookup x=some .local:=by first | exact .inl rfl | exact .inr rfl | assumption):PG X (.Name x pos) (rZ i):=by
 intro pins s σ H v u Q I r h;exact wpAny_assign_Name (kX I a hi b r (λs' d=>⟨_,H,d,h⟩) c)
def dM2:TGs:=λvs σ H Q=>vs=[]/\Q σ H
def cO2(t:TG)(u:TGs):TGs:=λvs σ H Q=>∃ v r,vs=v::r/\t v σ H λσ' H'=>u r σ' H' Q
def mW:PGs X [] dM2:=by
 intro pins s σ H vs us Q I r h;obtain⟨e,h⟩:=h;subst e;cases r;exact assignInOrder_nil ⟨σ,H,I,h⟩
def cJ{e:Expr}{es:List Expr}{t:TG}{u:TGs}(b:PG X e t)(c:PGs X es u)
  (hs:(assignEach (e::es) X.env).map (·.2)=assign e X.env::(assignEach es X.env).map (·.2):=by rfl):PGs X (e::es) (cO2 t u):=by
 intro pins s σ H vs us Q I r h;obtain⟨v,k,d,h⟩:=h;subst d;cases r with
 | cons r f=>
   rw[hs];refine assignInOrder_cons (thn (b pins s σ H _ _ _ I r h) λ_ s1 Z0=>?_);obtain⟨a,g,i,j⟩:=Z0;exact c pins s1 a g _ _ Q i f j
def dO8(K:W.Frag)(n:Nat)(t:TGs):TG:=λv σ H Q=>∃ a xs,v=.ref a/\SqT K H a xs/\xs.length=n/\t xs σ H Q
def cO3{es:List Expr}{k:Nat}{t:TGs}{n:Nat}(g:X.calm=true)(h:PGs X es t)
  (hn:(assignEach es X.env).length=n:=by rfl) (c:(assignEach es X.env).findIdx? (·.1)=none:=by rfl):PG X (.Tuple es k pos) (dO8 X.K n t):=by
 intro pins s σ H v u Q I r d;obtain⟨a,xs,i,j,l,d⟩:=d;subst i;cases r;obtain⟨its,f,m,w⟩:=I.tuple j;refine assign_Tuple_tuple (I.ok.hd g) m (by simp[hn,← l,f.length]) c λh' p=>?_;have q:Inv X pins σ H {s with heap:=h'}:=I.kept (t':=s.toks) λb o e=>p b o (a9c (a0b e)) e;exact h pins _ σ H xs _ Q q (by simpa using f) d
def dH0(to ti:TE)(t:mV):TG:=λv σ H Q=>to σ H λo a=>ti σ a λi b=>t o i v b λc=>Q σ c
def aO0{o i:Expr}{to ti:TE}{t:mV}(b:PE X o to)(hi:PE X i ti)(hs:dM1 X t)
  (ha:∀ v,assign (.Subscript o i pos) X.env v=(do
   let ov ← holding [v] (eval o X.env)
   let a ← holding [v,ov] (eval i X.env)
   standAt pos
   holding [v,ov,a] (setItem ov a v)
   release [v,ov,a] []):=by intro _;rfl):PG X (.Subscript o i pos) (dH0 to ti t):=by
 intro pins s σ H v u Q I r h;rw[ha];refine a3n (a3s (thn (b pins s σ H _ I h) λov s1 Z0=>?_));obtain⟨x,c,d,e,f⟩:=Z0;refine a3n (a3s (thn (hi pins s1 σ c _ d f) λa s2 ⟨y,g,j,k,l⟩=>?_));refine a3n (a3Q (a3n (a3s (thn (hs pins s2 σ g x y v ov a u _ j e k r l) λ_ q ⟨m,n,p⟩=>?_))));exact wpAny_release ⟨σ,m,n,p⟩
def bD4(a:TE)(g:TG):TS:=λD σ H=>a σ H λx b=>g x σ b D.nx
def aC5{tg e:Expr}{a:TE}{g:TG}(b:PE X e a)(c:PG X tg g)(hs:swapsWithSole [tg] e pos.line X.env=pure false:=by rfl)(d:swappedStores [tg] e X.env=pure none:=by rfl)
  (f:(assignEach [tg] X.env).map (·.2)=[assign tg X.env]:=by rfl):PS X (.Assign [tg] e pos) (bD4 a g):=by
 intro pins s σ H D I h;refine wpAny_Assign_stores (thn (b pins s σ H _ I h) λv s1 Z0=>?_) hs d;obtain⟨x,i,j,k,l⟩:=Z0;rw[f];exact thn (c pins s1 σ i x v _ j k l) λ_ s2 q=>q
def bU{i:Nat}{x:Str}{e:Expr}{b:TE}{a:Pos}(c:X.N.Nodup)(hi:X.N[i]? = some x)(d:Loc X.env.scope x)(f:PE X e b)(hs:swapsWith e (some (.Name x a)) pos.line X.env=pure false:=by rfl)(g:X.fn x=true\/X.env.scope.names.lookup x=some .local:=by first | exact .inl rfl | exact .inr rfl | assumption) :
  PS X (.Assign [.Name x a] e pos) (bD4 b (rZ i)):=by
 intro pins s σ H D I h;refine wpAny_Assign_Name (thn (f pins s σ H _ I h) λv s1 Z0=>?_) hs;obtain⟨y,j,k,l,m⟩:=Z0;exact kX k c hi d l (λs2 n=>⟨_,j,n,m⟩) g
def dM3(i j:Nat)(a:TA):TS:=λD σ H=>a σ H λvs b=>∃ v w,vs=[v,w]/\D.nx ((σ.set i (some v)).set j (some w)) b
def cO4{i j:Nat}{x y:Str}{a b:Expr}{u:TA}{g k pt:Pos}{kt l c}(G:X.calm=true)(z:X.N.Nodup)(hi:X.N[i]? = some x)(J:X.N[j]? = some y)(m:i≠j)
  (B:X.env.scope.names.lookup x=some .local) (C:X.env.scope.names.lookup y=some .local) (ha:PA X [a,b] u)
  (K:swappedStores [.Tuple [.Name x g,.Name y k] kt pt] (.Tuple [a,b] l c) X.env=pure (some [x,y]))
  (hs:swapsWithSole [.Tuple [.Name x g,.Name y k] kt pt] (.Tuple [a,b] l c) pos.line X.env=pure false:=by rfl) :
  PS X (.Assign [.Tuple [.Name x g,.Name y k] kt pt] (.Tuple [a,b] l c) pos) (dM3 i j u):=by
 intro pins s σ H D I h;rw[exec_Assign_arm];refine a3n (a3Q ?_);rw[hs];refine a3n (a3o ?_);rw[a3q (by decide)];refine a3n (Tuple_ (thn (ha _ pins s σ H _ I h) λus s1 Z0=>?_));obtain⟨vs,E,L,M,n⟩:=Z0;obtain⟨v,w,O,n⟩:=n;subst O;obtain⟨d,f,rfl,P,r⟩:∃ d f,us=[d,f]/\cY v d/\cY w f:=by
  cases M with
  | cons p q=>
    cases q with
    | cons Q R=>
      cases R;exact⟨_,_,rfl,p,Q⟩
 refine a3t ?_ (by show 2<=sizeLine;decide);have S:Inv X pins σ E {s1 with heap:=s1.heap.push {cls:=.type "tuple",data:=.seq [d,f].toArray}}:=L.kept (t':=s1.toks) λb o e=>a2a _ e;rw[K];refine a3n (a3o ?_);show wpAny (model X.prog X.w) X.A (do rule "assign.swapped-stores";let items ← unpackItems (.ref s1.heap.objs.size) 2 none;assignInOrder [λv=>bindName X.env y v,λv=>bindName X.env x v] items.reverse;pure Flow.next) _ _ _;refine a3n (a4r (a3n (unpackItems_tuple (items:=#[d,f]) (I.ok.hd G) (IsTup.new s1.heap _) λh' t=>?_)));have T:=S.kept (h':=h') (t':=s1.toks) λb o e=>t b o (a9c (a0b e)) e;show wpAny _ _ (assignInOrder [λv=>bindName X.env y v,λv=>bindName X.env x v] [f,d] >>= λ_=>pure Flow.next) _ _ _;refine a3n (assignInOrder_cons (wpAny_bindName (kX T z J (.inl C) r (λs2 U=>?_) (.inr C))));refine assignInOrder_cons (wpAny_bindName (kX U z hi (.inl B) P (λV F=>assignInOrder_nil (a3o ?_)) (.inr B)));rw[List.set_comm _ _ (a3d m)]at F;exact⟨_,E,F,n⟩
end
section
variable{X:Cx}{pos:Pos}
def bQ8(c:TT)(tb:TS):TS:=λD σ H=>∃ W:Nat->St->Hp->Prop,(∃ m,W m σ H)/\∀ m σ H,W m σ H ->
 c σ H λb a=>if b=true then ∃ N:St->Hp->Prop,(∀ σ' H',N σ' H'->∃ m',m' < m/\W m' σ' H')/\tb {D with nx:=N,ct:=N,bk:=D.nx} σ a else D.nx σ a
def bE3{c:Expr}{e:List Stmt}{m:TT}{tb:TS}(o:PassesOwn (model X.prog X.w) X.A X.env X.xe)(u:PT X c m)(x:PSs X e tb):PS X (.While c e [] pos) (bQ8 m tb):=by
 intro pins s σ H D I h;obtain⟨W,⟨y,z⟩,turn⟩:=h;refine wpAny_While (codeAny_whileLoop (λn s'=>∃ σ' H',Inv X pins σ' H' s'/\W n σ' H') ?_ y ⟨σ,H,I,z⟩);rintro n s1 ⟨d,p,B,C⟩;refine a3M o (thn (u pins s1 d p _ B (turn n d p C)) λb s2 Z0=>?_);obtain⟨q,r,i⟩:=Z0;cases b with
 | true=>
   obtain⟨N,t,i⟩:=i;rw[a3p rfl];refine a3M o (thn (x pins s2 d q _ r i) λf E j=>?_);cases f with
   | next=>
     obtain⟨a,g,k,n3⟩:=j;obtain⟨m',hm,l⟩:=t a g n3;exact⟨m',hm,a,g,k,l⟩
   | cont=>
     obtain⟨a,g,k,n3⟩:=j;obtain⟨m',hm,l⟩:=t a g n3;exact⟨m',hm,a,g,k,l⟩
   | brk=>exact j
   | ret v=>exact j
 | false=>
   rw[a3q a1b];exact wpAny_execs_nil ⟨d,q,r,i⟩
end
structure It where
 go:Nat->Hp->Prop
 yld:Nat->Hp->V->Hp->Prop
 stop:Nat->Hp->Prop
def aO1(X:Cx)(pins:List (Addr×Obj))(H:Hp)(b:Addr):Prop:=
 H b=none/\b≠X.env.locals/\b∉X.fs/\(b∈X.ex\/X.s₀.heap.objs.size<=b)/\(∀ x c,X.env.cells.lookup x=some c->c≠b)/\∀ p∈X.pn++pins,p.1≠b
def Inv.fpOk{X:Cx}{pins:List (Addr×Obj)}{σ:St}{H H':Hp}{s:Shared}{b:Addr}(I:Inv X pins σ H s)(a:s.heap.objs.size<=b)(hn:H' b=none):aO1 X pins H' b:=by
 refine⟨hn,a3j (a5b I.lt a),I.nofs a,.inr (a8b I.sz a),λx c e z=>?_,λp d z=>?_⟩;obtain⟨v,q⟩:=I.cell x c e;exact absurd (a5b q.lt (by rw[z];exact a)) (a0e _);exact absurd (a5b (a0b (I.pin p d).1) (by rw[z];exact a)) (a0e _)
structure Turn(P:Program)(w:World)(K:W.Frag)(tg:Expr)(J:It)(fp:List Addr)(it:Addr)(tn:Nat->Heap->Prop):Prop where
 mem:it∈fp
 obj:∀ i h,tn i h->∀ b∈fp,∃ o,h.get? b=some o/\∀ v,o.data≠.cell v
 keep:∀ i h h',tn i h->(∀ b∈fp,∀ o,h.get? b=some o->h'.get? b=some o)->tn i h'
 item:∀ (X:Cx),X.prog=P->X.w=w->X.K=K->X.calm=true->∀ (i:Nat) (pins:List (Addr×Obj)) (s:Shared) (σ:St) (H:Hp) (E:Value->Shared->Prop),Inv X pins σ H s->(∀ b∈fp,aO1 X pins H b)->tn i s.heap->J.go i H ->
  wpAny (model P w) X.A (pyNext (.ref it)) (λr s1=>∃ u,r=some u /\
   wpAny (model P w) X.A (letOwnedTupleGo tg (.ref it) u) (λ_ s2=>∃ x H',Inv X pins σ H' s2/\cY x u/\J.yld i H x H'/\tn (i+1) s2.heap/\∀ b∈fp,H' b=none) E s1) E s
 done:∀ (X:Cx),X.prog=P->X.w=w->X.K=K->X.calm=true->∀ (i:Nat) (pins:List (Addr×Obj)) (s:Shared) (σ:St) (H:Hp) (E:Value->Shared->Prop),Inv X pins σ H s->(∀ b∈fp,aO1 X pins H b)->tn i s.heap->J.stop i H ->
  wpAny (model P w) X.A (pyNext (.ref it)) (λr s1=>r=none/\Inv X pins σ H s1) E s
 self:∀ (A:Around) (i:Nat) (s:Shared) (Q:Value->Shared->Prop) (E:Value->Shared->Prop),tn i s.heap->Q (.ref it) s->wpAny (model P w) A (pyIter (.ref it)) Q E s
abbrev TI:=St->Hp->(It->Hp->Prop)->Prop
def PIE(X:Cx)(pins:List (Addr×Obj))(σ:St)(tg:Expr)(R:It->Hp->Prop)(a:Value)(s2:Shared):Prop:=
 ∃ (it:Addr) (fp:List Addr) (tn:Nat->Heap->Prop) (J:It) (H':Hp),a=.ref it/\Inv X pins σ H' s2/\Turn X.prog X.w X.K tg J fp it tn/\tn 0 s2.heap/\(∀ b∈fp,aO1 X pins H' b)/\R J H'
def PI(X:Cx)(tg iter:Expr)(a:TI):Prop:=
 ∀ (pins:List (Addr×Obj)) (s:Shared) (σ:St) (H:Hp) (R:It->Hp->Prop),Inv X pins σ H s->a σ H R ->
   wpAny (model X.prog X.w) X.A (eval iter X.env) (λv s1=>wpAny (model X.prog X.w) X.A (pyIter v) (PIE X pins σ tg R) X.xe s1) X.xe s
def aO2{M:Model}{A:Around}{E:Value->Shared->Prop}{s:Shared}{tg:Expr}{it:Addr}{u:Value}{o:Obj}{n:String}{vs:Array Value}{Q:Unit->Shared->Prop}(b:s.heap.get? it=some o)(c:o.cls=.type n)(hd:o.data=.fields vs)
  (hn:["enumerate","zip","dict_itemiterator","dict_reverseitemiterator","odict_iterator","itertools.zip_longest","itertools.pairwise"].contains n=false) (a:Q () s):wpAny M A (letOwnedTupleGo tg (.ref it) u) Q E s:=by
 unfold letOwnedTupleGo;cases tg<;>first
  | exact a3o a
  | (cases u<;>first
    | exact a3o a
    | (refine a3n (a4n b ?_)
       rw[c,hd];show wpAny M A (if(["enumerate","zip","dict_itemiterator","dict_reverseitemiterator","odict_iterator","itertools.zip_longest","itertools.pairwise"].contains n&&vs[0]? == some (rawInt _))=true then _ else _) Q E s;rw[a3q (by intro h;rw[hn,Bool.false_and]at h;cases h)];exact a3o a))
noncomputable def Itl(K:W.Frag)(a:Addr):It:=
 ⟨λi H=>∃ xs x,SqL K H a xs/\xs[i]? = some x,λi H x H'=>H'=H/\∀ xs,SqL K H a xs->xs[i]? = some x,λi H=>∃ xs,SqL K H a xs/\xs.length<=i⟩
noncomputable def Itt(K:W.Frag)(a:Addr):It:=
 ⟨λi H=>∃ xs x,SqT K H a xs/\xs[i]? = some x,λi H x H'=>H'=H/\∀ xs,SqT K H a xs->xs[i]? = some x,λi H=>∃ xs,SqT K H a xs/\xs.length<=i⟩
noncomputable def Itr(lo:Int)(n:Nat):It:=⟨λi _=>i < n,λi H x H'=>H'=H/\x=.int (lo+i),λi _=>n<=i⟩
def aO3{P:Program}{w:World}{K:W.Frag}{tg:Expr}(a it:Addr):Turn P w K tg (Itl K a) [it] it (λi h=>h.IsListIter it a i) where
 mem:=by simp
 obj:=λi h st b f=>by
  have e:b=it:=by simpa using f
  subst e;obtain⟨o,e,c,d⟩:=st;exact⟨o,e,λv z=>by rw[d]at z;cases z⟩
 keep:=λi h h' st k=>st.at λo e=>k it (by simp) o e
 item:=by
  intro X m n q G i pins s σ H E I j st r;subst m n q;obtain⟨xs,x,l,t⟩:=r;obtain⟨its,y,p,J⟩:=I.list l;obtain⟨u,L,M⟩:=y.get t;obtain⟨A,B,N,C,D,F⟩:=j it (by simp);refine wpAny_pyNext_list_item st p.isList (x:=u) (by simpa using L) λh' g O=>?_;have Q:Inv X pins σ H {s with heap:=h'}:=I.turned (t':=s.toks) (λb o f e=>(O.2 b f).trans e) A B C D F;obtain⟨o,e,c,d⟩:=id g;exact⟨u,rfl,aO2 (s:={s with heap:=h'}) e c d (by decide) ⟨x,H,Q,M,⟨rfl,λys R=>by rw[I.list_inj R l];exact t⟩,g,λb f=>(j b f).1⟩⟩
 done:=by
  intro X m n q G i pins s σ H E I j st r;subst m n q;obtain⟨xs,l,t⟩:=r;obtain⟨its,y,p,J⟩:=I.list l;obtain⟨A,B,N,C,D,F⟩:=j it (by simp);have T:=y.length;exact wpAny_pyNext_list_end (I.ok.hd G) st p.isList (by simp;lia) λh' S=>⟨rfl,I.turned (t':=s.toks) (λb o f e=>S b o f e) A B C D F⟩
 self:=λ_ _ _ _ _ st h=>wpAny_pyIter_listiter st h
def aI4{P:Program}{w:World}{K:W.Frag}{tg:Expr}(a it:Addr):Turn P w K tg (Itt K a) [it] it (λi h=>h.IsTupleIter it a i) where
 mem:=by simp
 obj:=λi h st b f=>by
  have e:b=it:=by simpa using f
  subst e;obtain⟨o,e,c,d⟩:=st;exact⟨o,e,λv z=>by rw[d]at z;cases z⟩
 keep:=λi h h' st k=>st.at λo e=>k it (by simp) o e
 item:=by
  intro X m n q G i pins s σ H E I j st r;subst m n q;obtain⟨xs,x,l,t⟩:=r;obtain⟨its,y,p,J⟩:=I.tuple l;obtain⟨u,L,M⟩:=y.get t;obtain⟨A,B,N,C,D,F⟩:=j it (by simp);refine wpAny_pyNext_tuple_item st (show s.heap.IsTuple a its.toArray from p) (x:=u) (by simpa using L) λh' g O=>?_;have Q:Inv X pins σ H {s with heap:=h'}:=I.turned (t':=s.toks) (λb o f e=>(O.2 b f).trans e) A B C D F;obtain⟨o,e,c,d⟩:=id g;exact⟨u,rfl,aO2 (s:={s with heap:=h'}) e c d (by decide) ⟨x,H,Q,M,⟨rfl,λys R=>by rw[I.tuple_inj R l];exact t⟩,g,λb f=>(j b f).1⟩⟩
 done:=by
  intro X m n q G i pins s σ H E I j st r;subst m n q;obtain⟨xs,l,t⟩:=r;obtain⟨its,y,p,J⟩:=I.tuple l;obtain⟨A,B,N,C,D,F⟩:=j it (by simp);have T:=y.length;exact wpAny_pyNext_tuple_end (I.ok.hd G) st (show s.heap.IsTuple a its.toArray from p) (by simp;lia) λh' S=>⟨rfl,I.turned (t':=s.toks) (λb o f e=>S b o f e) A B C D F⟩
 self:=λ_ _ _ _ _ st h=>wpAny_pyIter_tupleiter st h
def aI5{P:Program}{w:World}{K:W.Frag}{tg:Expr}(it:Addr)(lo:Int)(n:Nat):Turn P w K tg (Itr lo n) [it] it (λi h=>IsRangeIter h it (lo+(i:Nat)*1) ((n:Int)-(i:Nat)) 1) where
 mem:=by simp
 obj:=λi h st b a=>by
  have e:b=it:=by simpa using a
  subst e;exact⟨_,st,λv z=>by
   have y:Data.fields _=Data.cell v:=z;cases y⟩
 keep:=λi h h' st k=>k it (by simp) _ st
 item:=by
  intro X f g j l i pins s σ H E I d st m;subst f g j;obtain⟨p,q,A,r,u,x⟩:=d it (by simp);have W:=Walks.range (prog:=X.prog) (w:=X.w) (I.ok.hd l) it lo 1 n;refine W.item i s _ _ m st λv h' tk B c C=>?_;obtain⟨t,rfl⟩:=B;have D:Inv X pins σ H {s with heap:=h',toks:=tk}:=I.turned (λb o a e=>C b o (by simpa using a) e) p q r u x;refine⟨_,rfl,aO2 (s:={s with heap:=h',toks:=tk}) (n:="range_iterator") c rfl rfl (by decide) ⟨.int (lo+i),H,D,⟨t,?_⟩,⟨rfl,rfl⟩,c,λb a=>(d b a).1⟩⟩;rw[Int.mul_one]
 done:=by
  intro X f g j l i pins s σ H E I d st m;subst f g j;obtain⟨p,q,A,r,u,x⟩:=d it (by simp);exact wpAny_pyNext_range_end (I.ok.hd l) st (by have:n<=i:=m;lia) λh' F=>⟨rfl,I.turned (t':=s.toks) (λb o a e=>F b o a e) p q r u x⟩
 self:=λ_ _ _ _ _ st h=>wpAny_pyIter_rangeiter st h
section
variable{X:Cx}{tg:Expr}
def aC6{pins:List (Addr×Obj)}{σ:St}{H:Hp}{s:Shared}{R:It->Hp->Prop}{E:Value->Shared->Prop}{lo hi:Int}{t u v:Tok}{tk:Nat}(I:Inv X pins σ H s)(c:-(2 ^ 62)<=lo)(d:lo < 2 ^ 62)(f:-(2 ^ 62)<=hi)(g:hi < 2 ^ 62)
  (q:R (Itr lo (hi-lo).toNat) H):wpAny (model X.prog X.w) X.A (pyIter (.ref s.heap.objs.size)) (PIE X pins σ tg R) E {s with heap:=s.heap.push {cls:=.type "range",data:=.fields #[.int lo t,.int hi u,.int 1 v]},toks:=tk}:=by
 refine wpAny_pyIter_range (IsRange.new ..) (small_one c d f g) ?_;have a:Inv X pins σ H {s with heap:=s.heap.push {cls:=.type "range",data:=.fields #[.int lo t,.int hi u,.int 1 v]},toks:=tk}:=I.kept λb o e=>a2a _ e;refine⟨(s.heap.push {cls:=.type "range",data:=.fields #[.int lo t,.int hi u,.int 1 v]}).objs.size,[(s.heap.push {cls:=.type "range",data:=.fields #[.int lo t,.int hi u,.int 1 v]}).objs.size],_,_,H,rfl,
  a.kept (t':=tk) λb o e=>a2a _ e,aI5 _ lo (hi-lo).toNat,?_,λb h=>?_,q⟩
 ·have i:lo+((0:Nat):Int)*1=lo:=by simp
  have j:(((hi-lo).toNat:Nat):Int)-((0:Nat):Int)=Builtin.Range.rangeSize lo hi 1:=by rw[rangeSize_one];split<;>lia
  show IsRangeIter _ _ (lo+((0:Nat):Int)*1) ((((hi-lo).toNat:Nat):Int)-((0:Nat):Int)) 1;rw[i,j];exact a2b _ rfl
 ·have e:b=(s.heap.push {cls:=.type "range",data:=.fields #[.int lo t,.int hi u,.int 1 v]}).objs.size:=by simpa using h
  subst e;exact a.fpOk (a6a _) (a.hok.fresh (a6a _))
def bY3(a:TA):TI:=λσ H R=>a σ H λvs b=>∃ j:Int,vs=[.int j] /\ -(2 ^ 62)<=j/\j < 2 ^ 62/\R (Itr 0 j.toNat) b
def cO5(a:TA):TI:=λσ H R=>a σ H λvs b=>∃ i j:Int,vs=[.int i,.int j]/\(-(2 ^ 62)<=i/\i < 2 ^ 62 /\ -(2 ^ 62)<=j/\j < 2 ^ 62)/\R (Itr i (j-i).toNat) b
def iG{a:Expr}{c:TA}{p pos:Pos}(d:Gl X "range")(hm:X.mg "range"=none)(ha:PA X [a] c)(hs:starEach [a] X.env=[(false,eval a X.env)]:=by rfl):PI X tg (.Call (.Name "range" p) [a] [] pos) (bY3 c):=by
 intro pins s σ H R I h;refine Call_ (jR I d hm boot_range (a4e (thn (ha pos pins s σ H _ I h) λus s1 Z0=>?_) hs rfl));obtain⟨vs,l,f,g,b⟩:=Z0;obtain⟨j,e,b,i,q⟩:=b;subst e;cases g with
 | cons r k=>
   cases k;obtain⟨t,rfl⟩:=r;exact call_range_1 (aC6 f (by lia) (by lia) b i (by simpa using q))
def aO4{a b:Expr}{g:TA}{p pos:Pos}(k:Gl X "range")(hm:X.mg "range"=none)(ha:PA X [a,b] g)(hs:starEach [a,b] X.env=[(false,eval a X.env),(false,eval b X.env)]:=by rfl)(c:starEach [b] X.env=[(false,eval b X.env)]:=by rfl) :
  PI X tg (.Call (.Name "range" p) [a,b] [] pos) (cO5 g):=by
 intro pins s σ H R I h;refine Call_ (jR I k hm boot_range (a4e (thn (ha pos pins s σ H _ I h) λus s1 Z0=>?_) (by rw[hs,c]) (by rw[c];rfl)));obtain⟨vs,w,l,m,d⟩:=Z0;obtain⟨i,j,e,⟨d,n,o,u⟩,q⟩:=d;subst e;cases m with
 | cons r f=>
   cases f with
   | cons v f=>
     cases f;obtain⟨t,rfl⟩:=r;obtain⟨x,rfl⟩:=v;exact call_range_2 (aC6 l d n o u q)
def dF0(b:TI)(g:TG)(tb:TS):TS:=λD σ H=>b σ H λJ c=>∃ W:Nat->Nat->St->Hp->Prop,(∃ m,W 0 m σ c)/\∀ i m σ H,W i m σ H ->
 (J.stop i H/\D.nx σ H)\/(J.go i H/\∃ N:St->Hp->Prop,(∀ σ' H',N σ' H'->∃ m',m' < m/\W (i+1) m' σ' H')/\∀ x H',J.yld i H x H'->g x σ H' λa d=>tb {D with nx:=N,ct:=N,bk:=D.nx} a d)
noncomputable def pU(fp:List Addr)(h:Heap):List (Addr×Obj):=fp.filterMap λb=>(h.get? b).map λo=>(b,o)
def jG{fp:List Addr}{h:Heap}{b:Addr}{o:Obj}(a:b∈fp)(e:h.get? b=some o):(b,o)∈pU fp h:=List.mem_filterMap.mpr ⟨b,a,by rw[e];rfl⟩
def aO5{fp:List Addr}{h:Heap}{p:Addr×Obj}(a:p∈pU fp h):p.1∈fp/\h.get? p.1=some p.2:=by
 obtain⟨b,c,e⟩:=List.mem_filterMap.mp a;cases q:h.get? b with
 | none=>rw[q]at e;cases e
 | some o=>
   rw[q]at e;have d:(b,o)=p:=a5a e;subst d;exact⟨c,q⟩
def Inv.pinned{pins:List (Addr×Obj)}{σ:St}{H:Hp}{s:Shared}{fp:List Addr}(I:Inv X pins σ H s)(f:∀ b∈fp,aO1 X pins H b)(g:∀ b∈fp,∃ o,s.heap.get? b=some o/\∀ v,o.data≠.cell v):Inv X (pins++pU fp s.heap) σ H s:=
 I.pins_of λp h=>(a0c.mp h).elim (λz=>I.pin p (a2c _ z)) λz=>by
  obtain⟨a,e⟩:=aO5 z;obtain⟨i,j,k,_⟩:=f p.1 a;obtain⟨o,c,d⟩:=g p.1 a;rw[e]at c;cases c;exact⟨e,i,j,k,d⟩
def Inv.unpinned{pins pl:List (Addr×Obj)}{σ:St}{H:Hp}{s:Shared}(I:Inv X (pins++pl) σ H s):Inv X pins σ H s:=I.pins_of λp a=>I.pin p (a2c _ (a2g _ a))
def gY{iter:Expr}{q:List Stmt}{S:TI}{g:TG}{tb:TS}{pos:Pos}(B:PassesOwn (model X.prog X.w) X.A X.env X.xe)(U:X.calm=true)(hi:PI X tg iter S)(hg:PG X tg g)(c:PSs X q tb)
  (hs:∀ x,foldedSetIterable iter X.env x=pure x:=by intro _;rfl):PS X (.For tg iter q [] pos) (dF0 S g tb):=by
 intro pins s σ H D I h;refine wpAny_For (thn (hi pins s σ H _ I h) λv s1 h1=>thn h1 λitv s2 h2=>?_) hs;obtain⟨it,fp,tn,J,H2,e,I2,T,K,V,W,⟨m0,w0⟩,turn⟩:=h2;subst e
 -- Y stays true of L t objects through L loop
 have j:∀ {H':Hp},(∀ b∈fp,H' b=none)->∀ b∈fp,aO1 X pins H' b:=λhn b c=>⟨hn b c,(V b c).2⟩;refine codeAny_forLoop_any (λn s'=>∃ i σ' H',Inv X pins σ' H' s'/\tn i s'.heap/\(∀ b∈fp,H' b=none)/\W i n σ' H') ?_ m0 ⟨0,σ,H2,I2,K,λb c=>(V b c).1,w0⟩;rintro n Z ⟨i,k,G,I3,C,E,w3⟩;rcases turn i n k G w3 with⟨stop,qn⟩ | ⟨go,N,hN,step⟩
 ·refine a3M B (thn (T.done X rfl rfl rfl U i pins Z k G X.xe I3 (j E) C stop) λr s4 Z0=>?_);obtain⟨M,I4⟩:=Z0;subst M;exact wpAny_execs_nil ⟨k,G,I4,qn⟩
 ·refine a3M B (thn (T.item X rfl rfl rfl U i pins Z k G X.xe I3 (j E) C go) λr s4 Z0=>?_);obtain⟨u,M,h4⟩:=Z0;subst M;refine a3M B (thn h4 λ_ s5 ⟨x,H5,I5,r5,y5,z,O⟩=>?_);have P:=I5.pinned (j O) (T.obj _ _ z);refine a3M B (thn (hg _ s5 k H5 x u _ P r5 (step x H5 y5)) λ_ s6 ⟨Q,H6,I6,q6⟩=>?_);refine a3M B (thn (c _ s6 Q H6 _ I6 q6) λf R y=>?_);have again:∀ {a:St} {l:Hp},Inv X (pins++pU fp s5.heap) a l R->N a l->∃ m,m < n/\∃ i σ' H',Inv X pins σ' H' R/\tn i R.heap/\(∀ b∈fp,H' b=none)/\W i m σ' H':=λ{a l} p F=>by
   obtain⟨m',hm,w7⟩:=hN a l F;refine⟨m',hm,i+1,a,l,p.unpinned,T.keep _ _ _ z λb c o e=>(p.pin (b,o) (a2c _ (a2c _ (jG c e)))).1,λb c=>?_,w7⟩;obtain⟨o,e,d⟩:=T.obj _ _ z b c;exact(p.pin (b,o) (a2c _ (a2c _ (jG c e)))).2.1
  cases f with
  | next=>obtain⟨a,l,p,F⟩:=y;exact again p F
  | cont=>obtain⟨a,l,p,F⟩:=y;exact again p F
  | brk=>obtain⟨a,l,p,y⟩:=y;exact⟨a,l,p.unpinned,y⟩
  | ret v=>obtain⟨x7,a,l,p,r7,y⟩:=y;exact⟨x7,a,l,p.unpinned,r7,y⟩
end
abbrev R2:=V->V->Hp->VK->Prop
def OpR(X:Cx)(f:Value->Value->Sem Value)(r:R2):Prop:=
 ∀ (pins:List (Addr×Obj)) (s:Shared) (σ:St) (H:Hp) (x y:V) (v u:Value) (Q:VK),Inv X pins σ H s->cY x v->cY y u->r x y H Q ->
   wpAny (model X.prog X.w) X.A (f v u) (EP X pins σ Q) X.xe s
def UnR(X:Cx)(f:Value->Sem Value)(r:V->Hp->VK->Prop):Prop:=
 ∀ (pins:List (Addr×Obj)) (s:Shared) (σ:St) (H:Hp) (x:V) (v:Value) (Q:VK),Inv X pins σ H s->cY x v->r x H Q ->
   wpAny (model X.prog X.w) X.A (f v) (EP X pins σ Q) X.xe s
def iH(X:Cx)(f:Value)(r:List V->Hp->VK->Prop):Prop:=
 ∀ (pins:List (Addr×Obj)) (s:Shared) (σ:St) (H:Hp) (xs:List V) (us:List Value) (Q:VK),Inv X pins σ H s->bG xs us->r xs H Q ->
   wpAny (model X.prog X.w) X.A (call f us) (EP X pins σ Q) X.xe s
def dO9(X:Cx)(r:V->Hp->(Bool->Hp->Prop)->Prop):Prop:=
 ∀ (pins:List (Addr×Obj)) (s:Shared) (σ:St) (H:Hp) (x:V) (v:Value) (Q:Bool->Hp->Prop),Inv X pins σ H s->cY x v->r x H Q ->
   wpAny (model X.prog X.w) X.A (truthy v) (TP X pins σ Q) X.xe s
def tOp(r:R2)(a tb:TE):TE:=λσ H Q=>a σ H λx b=>tb σ b λy c=>r x y c Q
def tUn(r:V->Hp->VK->Prop)(a:TE):TE:=λσ H Q=>a σ H λx b=>r x b Q
def rI(C:Int->Int->Prop)(g:Int->Int->V):R2:=λx y H Q=>∃ i j,x=.int i/\y=.int j/\C i j/\Q (g i j) H
def rI0(g:Int->Int->V):R2:=λx y H Q=>∃ i j,x=.int i/\y=.int j/\Q (g i j) H
def rU(g:Int->V):V->Hp->VK->Prop:=λx H Q=>∃ i,x=.int i/\Q (g i) H
section
variable{X:Cx}{a b c:Expr}{ta tb tc:TE}{pos:Pos}
def dH1(ha:PE X a ta)(i:PE X b tb){pins:List (Addr×Obj)}{s:Shared}{σ:St}{H:Hp}{R:V->V->Hp->Prop}(I:Inv X pins σ H s)
  (h:ta σ H λx g=>tb σ g λy c=>R x y c) {Q:Value->Shared->Prop} {f:Value->Value->Sem Value}
  (j:∀ v u s2 x y c,Inv X pins σ c s2->cY x v->cY y u->R x y c->wpAny (model X.prog X.w) X.A (f v u) Q X.xe s2) :
  wpAny (model X.prog X.w) X.A (eval a X.env) (λv d=>wpAny (model X.prog X.w) X.A (eval b X.env) (λu e=>wpAny (model X.prog X.w) X.A (f v u) Q X.xe e) X.xe d) X.xe s:=by
 refine thn (ha pins s σ H _ I h) λv s1 Z0=>?_;obtain⟨x,g,k,l,m⟩:=Z0;refine thn (i pins s1 σ g _ k m) λu s2 ⟨y,c,n,o,p⟩=>?_;exact j v u s2 x y c n l o p
def eO{op:Operator}{r:R2}(c:OpR X (binaryOp op) r)(ha:PE X a ta)(d:PE X b tb):PE X (.BinOp a op b pos) (tOp r ta tb):=by
 intro pins s σ H Q I h;exact wpAny_BinOp (dH1 ha d I h λv u s2 x y e f rx g q=>c pins s2 σ e x y v u Q f rx g q)
def dH2{op:UnaryOp}{r:V->Hp->VK->Prop}(b:UnR X (unaryOp op) r)(ha:PE X a ta):PE X (.UnaryOp op a pos) (tUn r ta):=by
 intro pins s σ H Q I h;exact UnaryOp_ (thn (ha pins s σ H _ I h) λv s1 ⟨x,c,d,e,f⟩=>b pins s1 σ c x v Q d e f)
def opI{f:Value->Value->Sem Value}{C:Int->Int->Prop}{g:Int->Int->Int}
  (rule:∀ (i j:Int) (t u:Tok) (s:Shared) (Q:Value->Shared->Prop) (E:Value->Shared->Prop),C i j->Q (.int (g i j) s.toks) {s with toks:=s.toks+1}->wpAny (model X.prog X.w) X.A (f (.int i t) (.int j u)) Q E s) :
  OpR X f (rI C λi j=>.int (g i j)):=by
 intro pins s σ H x y v u Q I rx a h;obtain⟨i,j,rfl,rfl,b,q⟩:=h;obtain⟨t,rfl⟩:=rx;obtain⟨c,rfl⟩:=a;exact rule i j t c s _ _ b ⟨.int (g i j),H,I.tok _,⟨_,rfl⟩,q⟩
def dM4{f:Value->Value->Sem Value}{g:Int->Int->Int}
  (rule:∀ (i j:Int) (t u:Tok) (s:Shared) (Q:Value->Shared->Prop) (E:Value->Shared->Prop),Q (.int (g i j) s.toks) {s with toks:=s.toks+1}->wpAny (model X.prog X.w) X.A (f (.int i t) (.int j u)) Q E s) :
  OpR X f (rI0 λi j=>.int (g i j)):=by
 intro pins s σ H x y v u Q I rx a h;obtain⟨i,j,rfl,rfl,q⟩:=h;obtain⟨t,rfl⟩:=rx;obtain⟨b,rfl⟩:=a;exact rule i j t b s _ _ ⟨.int (g i j),H,I.tok _,⟨_,rfl⟩,q⟩
def dF1{f:Value->Value->Sem Value}{g:Int->Int->Bool}
  (rule:∀ (i j:Int) (t u:Tok) (s:Shared) (Q:Value->Shared->Prop) (E:Value->Shared->Prop),Q (.bool (g i j)) s->wpAny (model X.prog X.w) X.A (f (.int i t) (.int j u)) Q E s) :
  OpR X f (rI0 λi j=>.bl (g i j)):=by
 intro pins s σ H x y v u Q I rx a h;obtain⟨i,j,rfl,rfl,q⟩:=h;obtain⟨t,rfl⟩:=rx;obtain⟨b,rfl⟩:=a;exact rule i j t b s _ _ ⟨.bl (g i j),H,I,rfl,q⟩
def cO6(i j:Int):Prop:=0 < j/\j < 1073741824
def cL8(i j:Int):Prop:=0<=j/\j<=1000000/\i.natAbs < 2 ^ 64
def bE4(i j:Int):Prop:=(-(2 ^ 64) < i/\i < 2 ^ 64)\/(-(2 ^ 64) < j/\j < 2 ^ 64)
theorem bE4.ok{i j:Int}(h:bE4 i j):IntMulOk i j:=by
 rcases h with⟨a,b⟩ | ⟨a,b⟩;exact .of_left (intBits_le_64 a b);exact .of_right (intBits_le_64 a b)
def cO7:OpR X (binaryOp .Add) (rI0 λi j=>.int (i+j)):=dM4 λ_ _ _ _ _ _ _ q=>add_int q
def bQ9:OpR X (binaryOp .Sub) (rI0 λi j=>.int (i-j)):=dM4 λ_ _ _ _ _ _ _ q=>sub_int q
def cO8:OpR X (binaryOp .Mult) (rI bE4 λi j=>.int (i*j)):=opI λ_ _ _ _ _ _ _ a q=>mul_int q a.ok
def aO6:OpR X (binaryOp .FloorDiv) (rI cO6 λi j=>.int (i / j)):=opI λi j _ _ _ _ _ a q=>by
 have b:(0:Int) < j:=a.1;have c:j < 1073741824:=a.2;exact floordiv_int (by lia) (by rw[Int.fdiv_eq_ediv_of_nonneg i (by lia)];exact q) (.inl (PyProof.noPylong_small (by lia)))
def sT:OpR X (binaryOp .Mod) (rI (λ_ j=>0 < j) λi j=>.int (i % j)):=opI λi j _ _ _ _ _ a q=>by
 have b:(0:Int) < j:=a;exact mod_int' (by lia) (by rw[Int.fmod_eq_emod_of_nonneg i (by lia)];exact q)
def cO9:OpR X (binaryOp .Pow) (rI cL8 λi j=>.int (i ^ j.toNat)):=opI λ_ _ _ _ _ _ _ a q=>pow_int_small a.1 a.2.1 a.2.2 q
def unI{f:Value->Sem Value}{g:Int->Int}
  (rule:∀ (i:Int) (t:Tok) (s:Shared) (Q:Value->Shared->Prop) (E:Value->Shared->Prop),Q (.int (g i) s.toks) {s with toks:=s.toks+1}->wpAny (model X.prog X.w) X.A (f (.int i t)) Q E s) :
  UnR X f (rU λi=>.int (g i)):=by
 intro pins s σ H x v Q I rx h;obtain⟨i,rfl,q⟩:=h;obtain⟨t,rfl⟩:=rx;exact rule i t s _ _ ⟨.int (g i),H,I.tok _,⟨_,rfl⟩,q⟩
def cP0:UnR X (unaryOp .USub) (rU λi=>.int (-i)):=unI λ_ _ _ _ _ q=>neg_int q
end
noncomputable def bY4:V->V->Bool
 | .non,.non=>true | .non,.int _=>true | .int _,.non=>true | .non,.bl _=>true | .bl _,.non=>true | .non,.str _=>true | .str _,.non=>true
 | .int _,.int _=>true | .bl _,.bl _=>true | .str _,.str _=>true | .byt _,.byt _=>true
 | .int _,.str _=>true | .str _,.int _=>true | .bl _,.str _=>true | .str _,.bl _=>true
 | _,_=>false
def rEq:R2:=λx y H Q=>bY4 x y=true/\Q (.bl (decide (x=y))) H
def rNe:R2:=λx y H Q=>bY4 x y=true/\Q (.bl (!decide (x=y))) H
def aO7{i j:Int}:decide (V.int i=V.int j)=(i==j):=by
 rw[a8f];simp
def bR0{i j:Bool}:decide (V.bl i=V.bl j)=(i==j):=by
 rw[a8f];simp
def aO8{i j:Str}:decide (V.str i=V.str j)=(i==j):=by
 rw[a8f];simp
def aO9{i j:Array UInt8}:decide (V.byt i=V.byt j)=(i.toList==j.toList):=by
 rw[a8f];cases i;cases j;simp
section
variable{X:Cx}{a b c:Expr}{ta tb tc:TE}{pos:Pos}
def aU{pins:List (Addr×Obj)}{σ:St}{H:Hp}{s:Shared}{Q:VK}{k a:Bool}(I:Inv X pins σ H s)(q:Q (.bl k) H)(e:k=a):EP X pins σ Q (.bool a) s:=by
 subst e;exact⟨.bl k,H,I,rfl,q⟩
def dH3:OpR X (compareOp .Eq) rEq:=by
 intro pins s σ H x y v u Q I rx a h;obtain⟨hs,q⟩:=h;cases x with
 | non=>
   cases rx;cases y with
   | non=>cases a;exact PySem.EqNone.eq_none_none (aU I q (by simp))
   | bl j=>cases a;exact PySem.EqNone.eq_none_bool (aU I q (by simp))
   | int j=>obtain⟨b,rfl⟩:=a;exact PySem.EqNone.eq_none_int (aU I q (by simp))
   | str j=>obtain⟨b,rfl⟩:=a;exact PySem.EqNone.eq_none_str (aU I q (by simp))
   | _=>exact absurd (show false=true from hs) a1b
 | bl i=>
   cases rx;cases y with
   | non=>cases a;exact PySem.EqNone.eq_bool_none (aU I q (by simp))
   | bl j=>cases a;exact eq_bool (aU I q bR0)
   | str j=>obtain⟨b,rfl⟩:=a;exact PySem.EqMixed.eq_bool_str (aU I q (by simp))
   | _=>exact absurd (show false=true from hs) a1b
 | int i=>
   obtain⟨t,rfl⟩:=rx;cases y with
   | non=>cases a;exact PySem.EqNone.eq_int_none (aU I q (by simp))
   | int j=>obtain⟨b,rfl⟩:=a;exact eq_int (aU I q aO7)
   | str j=>obtain⟨b,rfl⟩:=a;exact PySem.EqMixed.eq_int_str (aU I q (by simp))
   | _=>exact absurd (show false=true from hs) a1b
 | str i=>
   obtain⟨t,rfl⟩:=rx;cases y with
   | non=>cases a;exact PySem.EqNone.eq_str_none (aU I q (by simp))
   | bl j=>cases a;exact PySem.EqMixed.eq_str_bool (aU I q (by simp))
   | int j=>obtain⟨b,rfl⟩:=a;exact PySem.EqMixed.eq_str_int (aU I q (by simp))
   | str j=>obtain⟨b,rfl⟩:=a;exact eq_str (aU I q aO8)
   | _=>exact absurd (show false=true from hs) a1b
 | byt i=>
   obtain⟨t,rfl⟩:=rx;cases y with
   | byt j=>obtain⟨b,rfl⟩:=a;exact W.eq_bytes (aU I q aO9)
   | _=>exact absurd (show false=true from hs) a1b
 | _=>cases y<;>exact absurd (show false=true from hs) a1b
def dH4:OpR X (compareOp .NotEq) rNe:=by
 intro pins s σ H x y v u Q I rx a h;obtain⟨hs,q⟩:=h;cases x with
 | non=>
   cases rx;cases y with
   | non=>cases a;exact PySem.EqNone.ne_none_none (aU I q (by simp))
   | bl j=>cases a;exact PySem.EqNone.ne_none_bool (aU I q (by simp))
   | int j=>obtain⟨b,rfl⟩:=a;exact PySem.EqNone.ne_none_int (aU I q (by simp))
   | str j=>obtain⟨b,rfl⟩:=a;exact PySem.EqNone.ne_none_str (aU I q (by simp))
   | _=>exact absurd (show false=true from hs) a1b
 | bl i=>
   cases rx;cases y with
   | non=>cases a;exact PySem.EqNone.ne_bool_none (aU I q (by simp))
   | bl j=>cases a;exact ne_bool (aU I q (a3H not bR0))
   | str j=>obtain⟨b,rfl⟩:=a;exact PySem.EqMixed.ne_bool_str (aU I q (by simp))
   | _=>exact absurd (show false=true from hs) a1b
 | int i=>
   obtain⟨t,rfl⟩:=rx;cases y with
   | non=>cases a;exact PySem.EqNone.ne_int_none (aU I q (by simp))
   | int j=>obtain⟨b,rfl⟩:=a;exact ne_int (aU I q (a3H not aO7))
   | str j=>obtain⟨b,rfl⟩:=a;exact PySem.EqMixed.ne_int_str (aU I q (by simp))
   | _=>exact absurd (show false=true from hs) a1b
 | str i=>
   obtain⟨t,rfl⟩:=rx;cases y with
   | non=>cases a;exact PySem.EqNone.ne_str_none (aU I q (by simp))
   | bl j=>cases a;exact PySem.EqMixed.ne_str_bool (aU I q (by simp))
   | int j=>obtain⟨b,rfl⟩:=a;exact PySem.EqMixed.ne_str_int (aU I q (by simp))
   | str j=>obtain⟨b,rfl⟩:=a;exact ne_str (aU I q (a3H not aO8))
   | _=>exact absurd (show false=true from hs) a1b
 | byt i=>
   obtain⟨t,rfl⟩:=rx;cases y with
   | byt j=>obtain⟨b,rfl⟩:=a;exact W.ne_bytes (aU I q (a3H not aO9))
   | _=>exact absurd (show false=true from hs) a1b
 | _=>cases y<;>exact absurd (show false=true from hs) a1b
def aP0:OpR X (compareOp .Lt) (rI0 λi j=>.bl (decide (i < j))):=dF1 λ_ _ _ _ _ _ _ q=>lt_int q
def cP1:OpR X (compareOp .LtE) (rI0 λi j=>.bl (decide (i<=j))):=dF1 λ_ _ _ _ _ _ _ q=>le_int q
def aI6:OpR X (compareOp .Gt) (rI0 λi j=>.bl (decide (j < i))):=dF1 λ_ _ _ _ _ _ _ q=>gt_int q
def cP2:OpR X (compareOp .GtE) (rI0 λi j=>.bl (decide (j<=i))):=dF1 λ_ _ _ _ _ _ _ q=>ge_int q
def vV:OpR X (compareOp .In) (λx y H Q=>∃ i j,x=.str i/\y=.str j/\Q (.bl (!(Builtin.Str.occurrences j i 0 j.length 1).isEmpty)) H):=by
 intro pins s σ H x y v u Q I rx a h;obtain⟨i,j,rfl,rfl,q⟩:=h;obtain⟨t,rfl⟩:=rx;obtain⟨b,rfl⟩:=a;exact in_str (aU I q rfl)
def cP3:OpR X (compareOp .Is) (λx y H Q=>y=.non/\Q (.bl (decide (x=.non))) H):=by
 intro pins s σ H x y v u Q I rx a h;obtain⟨rfl,q⟩:=h;cases a;refine is_none_gen (aU I q ?_);cases x<;>first
  | (cases rx;rfl)
  | (obtain⟨t,rfl⟩:=rx;rfl)
def bY5:OpR X (compareOp .IsNot) (λx y H Q=>y=.non/\Q (.bl (!decide (x=.non))) H):=by
 intro pins s σ H x y v u Q I rx a h;obtain⟨rfl,q⟩:=h;cases a;refine isnot_none_gen (aU I q ?_);cases x<;>first
  | (cases rx;rfl)
  | (obtain⟨t,rfl⟩:=rx;rfl)
def vW:OpR X (compareOp .NotIn) (λx y H Q=>∃ i j,x=.str i/\y=.str j/\Q (.bl (!(!(Builtin.Str.occurrences j i 0 j.length 1).isEmpty))) H):=by
 intro pins s σ H x y v u Q I rx a h;obtain⟨i,j,rfl,rfl,q⟩:=h;obtain⟨t,rfl⟩:=rx;obtain⟨b,rfl⟩:=a;exact notIn_str (aU I q rfl)
def OpR.or{f:Value->Value->Sem Value}{r a:R2}(h:OpR X f r)(h':OpR X f a):OpR X f (λx y H Q=>r x y H Q\/a x y H Q):=by
 intro pins s σ H x y v u Q I rx b q;rcases q with q | q;exact h pins s σ H x y v u Q I rx b q;exact h' pins s σ H x y v u Q I rx b q
def bL(b:Expr){op:CmpOp}(h:op≠.In:=by decide)(a:op≠.NotIn:=by decide):behindInMarks op b=false:=by
 have c:(op==CmpOp.In)=false:=by cases op<;>first | rfl | exact absurd rfl h
 have d:(op==CmpOp.NotIn)=false:=by cases op<;>first | rfl | exact absurd rfl a
 cases b<;>simp[behindInMarks,c,d]
def bY6{op:CmpOp}{r:R2}(c:OpR X (compareOp op) r)(ha:PE X a ta)(d:PE X b tb)(hm:behindInMarks op b=false):PE X (.Compare a [op] [b] pos) (tOp r ta tb):=by
 intro pins s σ H Q I h;exact wpAny_Compare1 (dH1 ha d I h λv u s2 x y e f rx g q=>c pins s2 σ e x y v u Q f rx g q) hm
def cP4(t:TE):TT:=λσ H Q=>t σ H λx H'=>∃ k,x=.bl k/\Q k H'
def bP{op:CmpOp}{r:R2}(d:OpR X (compareOp op) r)(ha:PE X a ta)(f:PE X b tb)(hm:behindInMarks op b=false):PT X (.Compare a [op] [b] pos) (cP4 (tOp r ta tb)):=by
 intro pins s σ H Q I h;refine wpAny_isTrue_Compare1 (thn (ha pins s σ H _ I h) λv s1 ⟨x,g,i,j,l⟩=>thn (f pins s1 σ g _ i l) λu s2 ⟨y,m,n,o,p⟩=>
  thn (d pins s2 σ m x y v u _ n j o p) λc B ⟨z,q,t,w,k,e,A⟩=>?_) hm
 subst e;cases w;exact a3E ⟨q,t,A⟩
def bR1(r b:R2)(ta tb tc:TE):TE:=λσ H Q=>ta σ H λx c=>tb σ c λy d=>r x y d λz a=>∃ k,z=.bl k /\
 (if k=true then tc σ a λe f=>b y e f Q else Q (.bl false) a)
def bE5{op f:CmpOp}{r i:R2}(o:OpR X (compareOp op) r)(g:OpR X (compareOp f) i)(ha:PE X a ta)(p:PE X b tb)(q:PE X c tc)
  (hm:lastMarks [op,f] [b,c]=false:=by with_unfolding_all rfl):PE X (.Compare a [op,f] [b,c] pos) (bR1 r i ta tb tc):=by
 intro pins s σ H Q I h;refine Compare_chain (thn (ha pins s σ H _ I h) λv s1 ⟨x,t,w,A,B⟩=>chain_link (thn (p pins s1 σ t _ w B) λu s2 ⟨y,C,D,j,E⟩=>
  thn (o pins s2 σ C x y v u _ D A j E) λd F ⟨z,l,m,G,k,e,n⟩=>?_)) hm
 subst e;cases G;refine a3E ?_;cases k with
 | false=>exact ite_ff ⟨.bl false,l,m,rfl,n⟩
 | true=>exact ite_tt (chain_last (thn (q pins F σ l _ m n) λJ K ⟨L,M,N,O,P⟩=>g pins K σ M y L u J Q N j O P))
def dM5(K:W.Frag)(x:V)(H:Hp)(k:Bool):Prop:=
 match x with
 | .non=>k=false
 | .bl b=>k=b
 | .int i=>k=(i != 0)
 | .str y=>y.length<=sizeLine/\k=((y.length:Int) != 0)
 | .byt y=>y.size<=sizeLine/\k=((y.size:Int) != 0)
 | .ref p=>(∃ xs,SqL K H p xs/\k = !xs.isEmpty)\/(∃ xs,SqT K H p xs/\k = !xs.isEmpty)\/∃ kvs,H p=some (.dK kvs)/\k = !kvs.isEmpty
 | _=>False
def aI7{κ:Type}{kvs:List (κ×V)}{vs:List (κ×Value)}(r:KV kvs vs):(!vs.isEmpty) = !kvs.isEmpty:=by
 cases r<;>rfl
def sU{xs:List V}{its:List Value}(r:bG xs its):(!its.toArray.isEmpty) = !xs.isEmpty:=by
 cases r<;>simp
def nW:(sizeLine:Nat) < 2 ^ 63:=by rw[a3O];decide
def cP5:dO9 X (λx H Q=>∃ k,dM5 X.K x H k/\Q k H):=by
 intro pins s σ H x v Q I rx h;obtain⟨k,e,q⟩:=h;have l:=nW;have hs:sizeLine=16777216:=a3O;cases x with
 | non=>
   cases rx;have a:k=false:=e;subst a;exact truthy_none ⟨H,I,q⟩
 | bl b=>
   cases rx;have a:k=b:=e;subst a;exact a3E ⟨H,I,q⟩
 | int i=>
   obtain⟨t,rfl⟩:=rx;have a:k=(i != 0):=e;subst a;exact PySem.P.truthy_int ⟨H,I,q⟩
 | str y=>
   obtain⟨t,rfl⟩:=rx;obtain⟨g,a⟩:y.length<=sizeLine/\k=((y.length:Int) != 0):=e;subst a;exact PySem.P.truthy_str (by lia) ⟨H,I.tok _,q⟩
 | byt y=>
   obtain⟨t,rfl⟩:=rx;obtain⟨g,a⟩:y.size<=sizeLine/\k=((y.size:Int) != 0):=e;subst a;exact W.truthy_bytes (by lia) ⟨H,I.tok _,q⟩
 | ref p=>
   cases rx;have a:(∃ xs,SqL X.K H p xs/\k = !xs.isEmpty)\/(∃ xs,SqT X.K H p xs/\k = !xs.isEmpty)\/∃ kvs,H p=some (.dK kvs)/\k = !kvs.isEmpty:=e;rcases a with⟨xs,d,a⟩ | ⟨xs,d,a⟩ | ⟨kvs,d,a⟩;subst a;obtain⟨its,r,pl,f⟩:=I.list d;have c:=r.length;exact wpAny_truthy_list pl.isList (by simp only[List.size_toArray];lia) ⟨H,I.tok _,by rw[sU r];exact q⟩;subst a;obtain⟨its,r,pl,f⟩:=I.tuple d;have c:=r.length;exact truthy_tuple pl (by simp only[List.size_toArray];lia) ⟨H,I.tok _,by rw[sU r];exact q⟩;subst a;obtain⟨f,j,vs,r,m⟩:kvs.length<=sizeLine/\(p==sysModules)=false/\∃ vs,KV kvs vs/\s.heap.DictOf (yS X.prog X.w) p vs:=I.hok p _ d;have c:kvs.length=vs.length:=Paired.length r;exact wpAny_truthy_dict j m (by lia) ⟨H,I.tok _,by rw[aI7 r];exact q⟩
 | _=>exact(show False from e).elim
def bE6(ha:PE X a ta)(c:∀ b,isTrue a X.env b=(do let v ← b;standAt a.pos;holding [v] (truthy v))) :
  PT X a (λσ H Q=>ta σ H λx H'=>∃ k,dM5 X.K x H' k/\Q k H'):=by
 intro pins s σ H Q I h;exact isTrue_plain (thn (ha pins s σ H _ I h) λv s1 ⟨x,d,e,f,g⟩=>cP5 pins s1 σ d x v Q e f g) (c _)
def aI8:OpR X (binaryOp .Add) (λx y H Q=>∃ i j,x=.str i/\y=.str j/\i.length+j.length<=sizeLine/\Q (.str (i++j)) H):=by
 intro pins s σ H x y v u Q I rx a h;obtain⟨i,j,rfl,rfl,b,q⟩:=h;obtain⟨t,rfl⟩:=rx;obtain⟨c,rfl⟩:=a;exact add_str (λc tk=>⟨.str (i++j),H,I.tok _,⟨_,rfl⟩,q⟩) b
def yU{x:V}{us:List Value}(r:bG [x] us):∃ u,us=[u]/\cY x u:=by
 cases r with
 | cons a b=>cases b;exact⟨_,rfl,a⟩
def aP1{x y:V}{us:List Value}(r:bG [x,y] us):∃ u a,us=[u,a]/\cY x u/\cY y a:=by
 cases r with
 | cons b c=>
   cases c with
   | cons d e=>cases e;exact⟨_,_,rfl,b,d⟩
def aP2(b:X.calm=true):iH X (.builtin "max") (λxs H Q=>∃ i j,xs=[.int i,.int j]/\Q (.int (if j > i then j else i)) H):=by
 intro pins s σ H xs us Q I r h;obtain⟨i,j,rfl,q⟩:=h;obtain⟨u,c,rfl,⟨t,rfl⟩,⟨d,rfl⟩⟩:=aP1 r;refine max_two_ints (I.ok.hd b) λh' tk k=>⟨_,H,I.kept k,?_,q⟩;by_cases a:j > i;rw[a3p a,a3p a];exact⟨_,rfl⟩;rw[a3q a,a3q a];exact⟨_,rfl⟩
def pV(b:X.calm=true):iH X (.builtin "min") (λxs H Q=>∃ i j,xs=[.int i,.int j]/\Q (.int (if j < i then j else i)) H):=by
 intro pins s σ H xs us Q I r h;obtain⟨i,j,rfl,q⟩:=h;obtain⟨u,c,rfl,⟨t,rfl⟩,⟨d,rfl⟩⟩:=aP1 r;refine min_two_ints (I.ok.hd b) λh' tk k=>⟨_,H,I.kept k,?_,q⟩;by_cases a:j < i;rw[a3p a,a3p a];exact⟨_,rfl⟩;rw[a3q a,a3q a];exact⟨_,rfl⟩
def aP3:iH X (.type "int") (λxs H Q=>(∃ i,xs=[.int i]/\Q (.int i) H)\/∃ k,xs=[.bl k]/\Q (.int (if k then 1 else 0)) H):=by
 intro pins s σ H xs us Q I r h;rcases h with⟨i,rfl,q⟩ | ⟨k,rfl,q⟩;obtain⟨u,rfl,t,rfl⟩:=yU r;exact call_int_int ⟨.int i,H,I,⟨_,rfl⟩,q⟩;obtain⟨u,rfl,a⟩:=yU r;cases a;exact call_int_bool ⟨.int (if k then 1 else 0),H,I.tok _,⟨_,rfl⟩,q⟩
end
structure ObjM(h:Heap)(x dx C:Addr)(mA:Str->Option Value):Prop where
 obj:h.get? x=some (W.instObj C dx)
 ns:h.Ns1 dx mA
 ne:dx≠x
def aP4{h:Heap}{dx:Addr}{mA:Str->Option Value}(n:h.Ns1 dx mA):∃ od,h.get? dx=some od/\∀ name,W.lookIn name od=some (mA name):=by
 obtain⟨o,es,ep,c,hd,d,_,hm⟩:=n;refine⟨o,c,λname=>?_⟩;have e:=hm name;unfold nsFind findBy at e;rw[← Array.find?_toList]at e;unfold W.lookIn;rw[hd];dsimp only;split;rename_i y q;rw[q]at e;exact a3H some e;rename_i q;rw[q]at e;have a:es.toList.any (·.refKey)=false:=by
  rw[List.any_eq_false];intro y f;obtain⟨z,t,b⟩:=d y (Array.mem_toList_iff.mp f);simp[DictEntry.refKey,b]
 have g:¬ es.toList.any (·.refKey)=true:=by rw[a];exact a1b
 rw[a3q g];exact a3H some e
def ObjM.look{h:Heap}{x dx C:Addr}{mA:Str->Option Value}(I:ObjM h x dx C mA):∃ od,W.InstAt h x (W.instObj C dx) C (some od)/\∀ name,W.lookIn name od=some (mA name):=
 let ⟨od,a,hl⟩:=aP4 I.ns
 ⟨od,⟨I.obj,rfl,rfl,a⟩,hl⟩
section
variable{prog:Program}{w:World}{A:Around}{E:Value->Shared->Prop}{s:Shared}{K:W.Frag}{x dx C f:Addr}{mA:Str->Option Value}{name:Str}{v:Value}
end
section
variable{P:Program}{w:World}{H H':Hp}{h h':Heap}{a C dx:Addr}{fs fs':List (Str×V)}
def fP(hok:HOk P w H h)(e:H a=some (.ins C dx fs)):∃ mA,ObjM h a dx C mA/\(∀ f,dG6 (fs.lookup f) (mA f))/\Within mA (fs.map (·.1))/\fs.length<=1000/\H dx=some (.own a):=by
 obtain⟨d,z,ne,ob,mA,n,r,q⟩:=(show cN P w H h a (.ins C dx fs)from hok a _ e);exact⟨mA,⟨ob,n,ne⟩,r,q,z,d⟩
end
structure Cls(K:W.Frag)(C:Addr):Prop where
 pg:W.plainGet K C Str.empty=true
 hd:W.hasDictIn K C=true
 po:W.plainOver K C=true
 sa:W.findIn K (.ref C) "__setattr__"=some (some (.builtin "object.__setattr__"))
def Cls.get{K:W.Frag}{C:Addr}(c:Cls K C)(f:Str):W.plainGet K C f=true:=c.pg
section
variable{X:Cx}{pins:List (Addr×Obj)}{σ:St}{H:Hp}{s:Shared}{a C dx:Addr}{fs:List (Str×V)}{f:Str}{v:V}{A:Around}{E:Value->Shared->Prop}
def bY7{prog:Program}{w:World}{env:Env}{e:Expr}{f:Str}{pos:Pos}{s:Shared}{Q:Value->Shared->Prop}(b:attributeBase e f env (eval e env)=eval e env)
  (h:wpAny (model prog w) A (eval e env) (λo a=>wpAny (model prog w) A (getAttr o f true) Q E a) E s):wpAny (model prog w) A (eval (.Attribute e f pos) env) Q E s:=
 Attribute_any_ h (by rw[arm_eval_Attribute,b])
end
section
variable{X:Cx}{o e value:Expr}{f:Str}{pos pos' tpos:Pos}{ta tv:TE}
end
section
variable{X:Cx}{pins:List (Addr×Obj)}{σ:St}{H:Hp}{s:Shared}{A:Around}{E:Value->Shared->Prop}{Q:Value->Shared->Prop}{c:Value}{b:Bool}
inductive TyOf(K:W.Frag)(H:Hp):V->Value->Prop where
 | non:TyOf K H .non (.type "NoneType")
 | bl (x:Bool):TyOf K H (.bl x) (.type "bool")
 | int (i:Int):TyOf K H (.int i) (.type "int")
 | str (x:Str):TyOf K H (.str x) (.type "str")
 | flt (x:UInt64):TyOf K H (.flt x) (.type "float")
 | lst {a:Addr} {xs:List V} (e:H a=some (.lst xs)):TyOf K H (.ref a) (.type "list")
 | frz {a:Addr} {o:Obj} {xs:List V} (e:H a=some (.frz o (.lst xs))):TyOf K H (.ref a) (.type "list")
 | tup {a:Addr} {xs:List V} (e:H a=some (.tup xs)):TyOf K H (.ref a) (.type "tuple")
 | dK {a:Addr} {kvs:List (Key×V)} (e:H a=some (.dK kvs)):TyOf K H (.ref a) (.type "dict")
 | dT {a:Addr} {kvs:List (List Key×V)} (e:H a=some (.dT kvs)):TyOf K H (.ref a) (.type "dict")
 | ins {a C dx:Addr} {fs:List (Str×V)} (e:H a=some (.ins C dx fs)) (cl:Cls K C) (ha:W.findIn K (.ref C) "__class__"=some (some (.builtin "object.__class__")))
   (hn:W.specialIn K (.builtin "object.__class__") "__get__"=some (some (.builtin "getset_descriptor.__get__"))) (htk:W.takesIn K (.builtin "object.__class__")=some true)
   (hm:W.mroIn K C (.type "object")=some true):TyOf K H (.ref a) (.ref C)
def aP5{x:V}{u t:Value}(I:Inv X pins σ H s)(rx:cY x u)(ty:TyOf X.K H x t)(e:W.kitOne X.K t c=some b)(h:∀ tk,Q (.bool b) {s with toks:=tk}) :
  wpAny (model X.prog X.w) A (call (.builtin "isinstance") [u,c]) Q E s:=by
 cases ty with
 | non=>cases (show u=Value.none from rx);exact a8e W.kitx_none I.kIn True.intro e (λz=>nomatch z) h
 | bl y=>cases (show u=Value.bool y from rx);exact a8e W.kitx_bool I.kIn True.intro e (λz=>nomatch z) h
 | int i=>obtain⟨t,q⟩:=(show ∃ t,u=Value.int i t from rx);cases q;exact a8e W.kitx_int I.kIn True.intro e (λz=>nomatch z) h
 | str y=>obtain⟨t,q⟩:=(show ∃ t,u=Value.str y t from rx);cases q;exact a8e W.kitx_str I.kIn True.intro e (λz=>nomatch z) h
 | flt y=>obtain⟨t,q⟩:=(show ∃ t,u=Value.float y t from rx);cases q;exact a8e W.kitx_float I.kIn True.intro e (λz=>nomatch z) h
 | @lst a xs d=>
   cases (show u=Value.ref a from rx);obtain⟨_,_,n,_,f⟩:=(show cN X.prog X.w H s.heap a (.lst xs)from I.hok a _ d);exact a8e W.kitx_list I.kIn ⟨_,f,rfl⟩ e (λz=>nomatch z) h
 | @frz a ob xs d=>
   cases (show u=Value.ref a from rx);obtain⟨_,_,_,n,_,f⟩:=(show cN X.prog X.w H s.heap a (.frz ob (.lst xs))from I.hok a _ d);exact a8e W.kitx_list I.kIn ⟨_,f,rfl⟩ e (λz=>nomatch z) h
 | @tup a xs d=>
   cases (show u=Value.ref a from rx);obtain⟨_,_,_,p,_⟩:=(show cN X.prog X.w H s.heap a (.tup xs)from I.hok a _ d);obtain⟨o,f,g,_⟩:=p;exact a8e W.kitx_tuple I.kIn ⟨o,f,g⟩ e (λz=>nomatch z) h
 | @dK a kvs d=>
   cases (show u=Value.ref a from rx);obtain⟨_,_,vs,_,p⟩:=(show cN X.prog X.w H s.heap a (.dK kvs)from I.hok a _ d);obtain⟨o,es,ep,f,g,_⟩:=p;exact a8e W.kitx_dict I.kIn ⟨o,f,g.1⟩ e (λz=>nomatch z) h
 | @dT a kvs d=>
   cases (show u=Value.ref a from rx);obtain⟨_,_,xs,_,o,es,ep,f,g,_⟩:=(show cN X.prog X.w H s.heap a (.dT kvs)from I.hok a _ d);exact a8e W.kitx_dict I.kIn ⟨o,f,g.1⟩ e (λz=>nomatch z) h
 | @ins a C dx fs d cl ha hn htk hm=>
   cases (show u=Value.ref a from rx);obtain⟨mA,O,_⟩:=fP I.hok d;obtain⟨od,J,_⟩:=O.look;exact a8e (W.kitx_own (cl.get _) cl.hd ha hn htk hm) I.kIn J e (λz=>nomatch z) h
end
structure Room(k:Nat)(A:Around):Prop where
 hd:A.handled=none
 dp:A.depth+3*k+5 < recursionLimit
 un:A.units+16*k+200 < cLine
def Room.mono{j k:Nat}{A:Around}(r:Room k A)(h:j<=k):Room j A:=⟨r.hd,by have:=r.dp;lia,by have:=r.un;lia⟩
theorem Room.deeper{k:Nat}{A:Around}(r:Room (k+1) A)(env:Env):Room k (A.deeper env):=
 ⟨r.hd,by have:=r.dp;show A.depth+1+3*k+5 < _;lia,by have:=r.un;show A.units+3+16*k+200 < _;lia⟩
def aI9{A:Around}{C:Addr}{us:List Value}{a:List (Str×Value)}:(A.under (.builtin "type.__call__" ⟨.ref C::us,a⟩)).depth=A.depth+1:=by
 first | rfl | simp[Around.under,Code.weight,Code.isCreation,Code.isGuard,Code.isCaller,Code.frames,Code.isFrame,guardIds]
def aJ0{A:Around}{C:Addr}{us:List Value}{a:List (Str×Value)}:(A.under (.builtin "type.__call__" ⟨.ref C::us,a⟩)).units=A.units+1:=by
 first | rfl | simp[Around.under,Code.cUnits,Code.frames,Code.isFrame]
def Room.make{k:Nat}{A:Around}(r:Room (k+1) A)(C:Addr)(us:List Value)(a:List (Str×Value)):Room k (A.under (.builtin "type.__call__" ⟨.ref C::us,a⟩)):=
 ⟨r.hd,by have:=r.dp;rw[aI9];lia,by have:=r.un;rw[aJ0];lia⟩
theorem Room.depth{k:Nat}{A:Around}(r:Room k A):A.depth < recursionLimit:=by have:=r.dp;lia
theorem Room.units{k:Nat}{A:Around}(r:Room k A):A.units+64 < cLine:=by have:=r.un;lia
def Room.units0{k:Nat}{A:Around}(r:Room k A):A.units < cLine:=by have:=r.un;lia
def bR2:TA:=λ_ H Q=>Q [] H
def kI(a:TE)(tr:TA):TA:=λσ H Q=>a σ H λx b=>tr σ b λxs c=>Q (x::xs) c
section
variable{X:Cx}{e:Expr}{es:List Expr}{te:TE}{t:TA}{pos:Pos}
def aI:PA X [] bR2:=λ_ _ _ _ H Q I h=>Calls.spliced_nil ⟨[],H,I,.nil,h⟩
def aA(ha:PE X e te)(a:PA X es t)(hs:starEach (e::es) X.env=(false,eval e X.env)::starEach es X.env:=by rfl):PA X (e::es) (kI te t):=by
 intro pos pins s σ H Q I h;rw[hs];show wpAny _ _ (spliced ((false,eval e X.env)::backTo pos (starEach es X.env))) _ _ s;refine Calls.spliced_cons (thn (ha pins s σ H _ I h) λu s1 Z0=>?_);obtain⟨x,b,c,d,f⟩:=Z0;exact thn (a pos pins s1 σ b _ c f) λus s2 ⟨xs,g,i,j,k⟩=>⟨x::xs,g,i,.cons d j,k⟩
def dH5(t:TA):TE:=λσ H Q=>t σ H λxs a=>xs.length<=sizeLine/\∀ p,a p=none->Q (.ref p) (upd a p (.tup xs))
def dM6(t:TA):TE:=λσ H Q=>t σ H λxs a=>xs.length<=sizeLine/\∀ p,a p=none->Q (.ref p) (upd a p (.lst xs))
def aP6{d}(h:PA X es t):PE X (.Tuple es d pos) (dH5 t):=by
 intro pins s σ H Q I f;refine wpAny_Tuple_spliced (thn (h pos pins s σ H _ I f) λus s1 ⟨xs,a,c,r,z,q⟩=>⟨by rw[← r.length];exact z,?_⟩);have g:a s1.heap.objs.size=none:=c.hok.fresh (a6a _);refine⟨.ref s1.heap.objs.size,upd a s1.heap.objs.size (.tup xs),c.laid (t':=s1.toks) (λb u e=>a2a _ e) (a6a _) ?_,rfl,q _ g⟩;exact⟨z,us,r,⟨_,a2b _ rfl,rfl,_,rfl⟩,⟨_,a2b _ rfl,rfl⟩⟩
def nX(h:PA X es t):PE X (.List es pos) (dM6 t):=by
 intro pins s σ H Q I d;refine wpAny_List_spliced (thn (h pos pins s σ H _ I d) λus s1 ⟨xs,a,c,r,z,q⟩=>⟨by rw[← r.length];exact z,?_⟩);have f:a s1.heap.objs.size=none:=c.hok.fresh (a6a _);refine⟨.ref s1.heap.objs.size,upd a s1.heap.objs.size (.lst xs),c.laid (t':=s1.toks) (λb u e=>a2a _ e) (a6a _) ?_,rfl,q _ f⟩;exact⟨z,us,0,r,a2b _ rfl⟩
end
abbrev Sp:=List V->Hp->VK->XK->Prop
abbrev CXT:=List Env->Hp->Shared->XK->Value->Shared->Prop
structure Env0(P:Program)(w:World)(K:W.Frag)(mg:Str->Option Value)(base:Heap)(A:Around)(outer:List Env)(s:Shared)(H:Hp):Prop where
 frames:A.frames=some outer
 mod:Mod K mg base
 bs:∀ b o,base.get? b=some o->s.heap.get? b=some o/\H b=none
 bsz:base.objs.size<=s.heap.objs.size
 funs:s.heap.FunFrames base outer
 frf:∀ b∈frs outer,H b=none
 hok:HOk P w H s.heap
 bare:AllBare s.gens
def CE(outer:List Env)(P:Program)(w:World)(H:Hp)(s:Shared)(Q:VK)(u:Value)(s':Shared):Prop:=
 ∃ v H',s'.os=s.os/\AllBare s'.gens/\Un (frs outer) [] H H' s.heap s'.heap/\HOk P w H' s'.heap/\cY v u/\Q v H'
def CR(CX:CXT)(outer:List Env)(P:Program)(w:World)(H:Hp)(s:Shared)(Q:VK)(E:XK)(r:Result)(s':Shared):Prop:=
 match r with
 | .ok (.ret u)=>CE outer P w H s Q u s'
 | .ok _=>False
 | .error e=>CX outer H s E e s'
structure FnOk(P:Program)(w:World)(K:W.Frag)(mg:Str->Option Value)(base:Heap)(CX:CXT)(k:Nat)(f:Addr)(fd:FuncData)(ps:List Str)(sp:Sp):Prop where
 len:∀ vs H Q E,sp vs H Q E->vs.length=ps.length
 run:∀ (A:Around) (outer:List Env) (s:Shared) (H:Hp) (args:Args) (us:List Value) (vs:List V) (Q:VK) (E:XK),Room k A->Env0 P w K mg base A outer s H->BindsTo s fd args (ps.zip us)->bG vs us->sp vs H Q E ->
  codeAny (model P w) A (.call (.ref f) args) (CR CX outer P w H s Q E) s
def FnOk.imp{P:Program}{w:World}{K:W.Frag}{mg:Str->Option Value}{base:Heap}{CX:CXT}{k:Nat}{f:Addr}{fd:FuncData}{ps:List Str}{sp a:Sp}(F:FnOk P w K mg base CX k f fd ps sp)
  (h:∀ vs H Q E,a vs H Q E->sp vs H Q E):FnOk P w K mg base CX k f fd ps a:=
 ⟨λvs H Q E q=>F.len vs H Q E (h _ _ _ _ q),λA outer s H args us vs Q E b c d e hs=>F.run A outer s H args us vs Q E b c d e (h _ _ _ _ hs)⟩
def Env0.make{P:Program}{w:World}{K:W.Frag}{mg:Str->Option Value}{base:Heap}{A:Around}{outer:List Env}{s:Shared}{H:Hp}(e:Env0 P w K mg base A outer s H)(C:Addr)(us:List Value)(a:List (Str×Value)) :
  Env0 P w K mg base (A.under (.builtin "type.__call__" ⟨.ref C::us,a⟩)) outer s H:=⟨by first | exact e.frames | (simpa[Around.under,Code.envs,Code.isFrame,pushEnvs]using e.frames),e.mod,e.bs,e.bsz,e.funs,e.frf,e.hok,e.bare⟩
section
variable{X:Cx}{pins:List (Addr×Obj)}{σ:St}{H:Hp}{s s':Shared}
def Inv.env0(I:Inv X pins σ H s):Env0 X.prog X.w X.K X.mg X.base X.A X.stack s H:=
 ⟨I.ok.frames,I.ok.mod,I.bs,a8b I.ok.bsz I.sz,I.stack,I.stkFree,I.hok,I.bare⟩
def Inv.after{Q:VK}{u:Value}(I:Inv X pins σ H s)(h:CE X.stack X.prog X.w H s Q u s'):EP X pins σ Q u s':=by
 obtain⟨v,H',os,bare,un,hok,r,q⟩:=h;obtain⟨c,g,d,t,a⟩:=s';obtain rfl:a=s.os:=os;exact⟨v,H',I.call (h':=c) (g':=g) (d':=d) (t':=t) (ch:=[]) un hok bare (λb z=>absurd z (by simp)),r,q⟩
end
def aJ1(sp:Sp)(a:List V)(E:XK)(t:TA):TE:=λσ H Q=>t σ H λvs b=>sp (vs++a) b Q E
def cZ(K:W.Frag)(fd:FuncData)(ps:List Str)(ds:List Value):Prop:=
 ∀ (s:Shared) (us:List Value),K.In s.heap->(us++ds).length=ps.length->BindsTo s fd ⟨us,[]⟩ (ps.zip (us++ds))
def cZ.all{K:W.Frag}{fd:FuncData}{ps:List Str}(h:∀ us:List Value,us.length=ps.length->bindArgs fd ⟨us,[]⟩=pure (ps.zip us)):cZ K fd ps []:=λs us _ a=>by
 rw[a4f]at a ⊢;exact .of_eq (h us a)
def vX(CX:CXT)(X:Cx)(E:XK):Prop:=∀ (pins:List (Addr×Obj)) (σ:St) (H:Hp) (s:Shared) (e:Value) (s':Shared),Inv X pins σ H s->CX X.stack H s E e s'->X.xe e s'
section
variable{X:Cx}{CX:CXT}{k:Nat}{f C:Addr}{fd:FuncData}{ps:List Str}{sp:Sp}{dvs:List V}{ds:List Value}{E:XK}{x m:Str}{p pos apos:Pos}{e o:Expr}{es:List Expr}{ta:TE}{t:TA}
def cP6{pins:List (Addr×Obj)}{σ:St}{H:Hp}{s:Shared}{Q:VK}{us:List Value}{vs:List V}(F:FnOk X.prog X.w X.K X.mg X.base CX k f fd ps sp)(c:Room k X.A)(d:cZ X.K fd ps ds)(hd:bG dvs ds)(g:vX CX X E)
  (I:Inv X pins σ H s) (r:bG vs us) (h:sp (vs++dvs) H Q E):wpAny (model X.prog X.w) X.A (call (.ref f) us) (EP X pins σ Q) X.xe s:=by
 have b:bG (vs++dvs) (us++ds):=r.append hd;have i:(us++ds).length=ps.length:=by rw[← b.length];exact F.len _ _ _ _ h
 refine a3S (a3U (F.run X.A X.stack s H ⟨us,[]⟩ (us++ds) (vs++dvs) Q E c I.env0 (d s us I.kIn i) b h) λr s' a=>?_);cases r with
 | error e=>exact g pins σ H s e s' I a
 | ok j=>
   cases j with
   | ret u=>exact I.after a
   | next=>exact False.elim a
   | brk=>exact False.elim a
   | cont=>exact False.elim a
def aN(F:FnOk X.prog X.w X.K X.mg X.base CX k f fd ps sp)(d:Room k X.A)(g:Gl X x)(hm:X.mg x=some (.ref f))(i:W.keepIn X.K (.ref f)=true)(j:cZ X.K fd ps ds)(hd:bG dvs ds)(l:vX CX X E)
  (ha:PA X (e::es) t) (a:(x==("__debug__":Str))=false:=by decide) (m:starEach (e::es) X.env=(false,eval e X.env)::starEach es X.env:=by rfl) (b:(backTo pos (starEach es X.env)).any (·.1)=false:=by rfl) :
  PE X (.Call (.Name x p) (e::es) [] pos) (aJ1 sp dvs E t):=by
 intro pins s σ H Q I h;refine a3z (pS I g hm ?_ a);refine W.callWith_K (h₀:=X.base) I.ok.mod.kin i (thn (ha pos pins s σ H _ I h) λus s1 ⟨vs,n,c,r,q⟩=>⟨c.kIn,?_⟩) m b;exact cP6 F d j hd l c r q
end
def PK(X:Cx)(a:List Keyword)(t:TA):Prop:=
 ∀ (b:Pos) (pins:List (Addr×Obj)) (s:Shared) (σ:St) (H:Hp) (Q:List V->Hp->Prop),Inv X pins σ H s->t σ H Q->wpAny (model X.prog X.w) X.A (evalAll ((backToKw b (keywordEach a X.env)).map (·.2))) (AP X pins σ Q) X.xe s
section
variable{X:Cx}{CX:CXT}{k:Nat}{f C:Addr}{fd:FuncData}{ps ks:List Str}{sp:Sp}{E:XK}{x m:Str}{p pos apos kpos:Pos}{e o:Expr}{es:List Expr}{kws:List Keyword}{te ta:TE}{t tk:TA}{nm:Option Str}
variable{g:List Value->List Value->List Value}{gV:List V->List V->List V}
end
structure FnScope(N P:List Str)(sc:Scope):Prop where
 kind:sc.kind=.function
 co:sc.isCoroutine=false
 gen:sc.isGenerator=false
 nd:N.Nodup
 pre:N.take P.length=P
 par:∀ x∈P,sc.names.lookup x=some .local\/sc.names.lookup x=some .cell
 nofree:∀ y∈sc.names,y.2≠.free
theorem vY{kindOf:Str->Option NameKind}{x:Str}:∀ {binds:List (Str×Value)} {m:Str->Option Value},(∀ v,(x,v)∉binds)->bindL kindOf binds m x=m x
 | [],_,_=>rfl
 | (n,v)::r,m,h=>by
   unfold bindL;rw[vY λw a=>h w (a8a _ a)];split
   ·have:x≠n:=by rintro rfl;exact h v a4a
    simp[this]
   ·rfl
theorem vZ{kindOf:Str->Option NameKind}{x:Str}:∀ {binds:List (Str×Value)} {m:Str->Option Value},(∀ v,(x,v)∉binds)->bindC kindOf binds m x=m x
 | [],_,_=>rfl
 | (n,v)::r,m,h=>by
   unfold bindC;rw[vZ λw a=>h w (a8a _ a)];split;rfl
   ·have:x≠n:=by rintro rfl;exact h v a4a
    simp[this]
theorem wA{kindOf:Str->Option NameKind}{x:Str}{v:Value}:∀ {P:List Str} {vs:List Value} {i:Nat} {m:Str->Option Value},P.Nodup->P[i]? = some x->vs[i]? = some v->kindOf x=some .local ->
  bindL kindOf (P.zip vs) m x=some v
 | [],_,_,_,_,h,_,_=>by simp at h
 | _::_,[],_,_,_,_,h,_=>by simp at h
 | p::P,w::vs,0,m,nd,a,b,c=>by
   simp at a b;subst a;subst b;show bindL kindOf ((p,w)::P.zip vs) m p=_;unfold bindL;rw[vY λv d=>(a4j.mp nd).1 (List.of_mem_zip d).1,a3p c];simp
 | p::P,w::vs,i+1,m,nd,a,b,c=>by
   show bindL kindOf ((p,w)::P.zip vs) m x=_;unfold bindL;exact wA (i:=i) (a4j.mp nd).2 (by simpa using a) (by simpa using b) c
theorem wB{kindOf:Str->Option NameKind}{x:Str}{v:Value}:∀ {P:List Str} {vs:List Value} {i:Nat} {m:Str->Option Value},P.Nodup->P[i]? = some x->vs[i]? = some v->kindOf x≠some .local ->
  bindC kindOf (P.zip vs) m x=some v
 | [],_,_,_,_,h,_,_=>by simp at h
 | _::_,[],_,_,_,_,h,_=>by simp at h
 | p::P,w::vs,0,m,nd,a,b,c=>by
   simp at a b;subst a;subst b;show bindC kindOf ((p,w)::P.zip vs) m p=_;unfold bindC;rw[vZ λv d=>(a4j.mp nd).1 (List.of_mem_zip d).1,a3q c];simp
 | p::P,w::vs,i+1,m,nd,a,b,c=>by
   show bindC kindOf ((p,w)::P.zip vs) m x=_;unfold bindC;exact wB (i:=i) (a4j.mp nd).2 (by simpa using a) (by simpa using b) c
noncomputable def cT(N:List Str)(vs:List V):St:=vs.map some++List.replicate (N.length-vs.length) none
noncomputable def yR(CX:CXT)(P:Program)(w:World)(K:W.Frag)(mg:Str->Option Value)(base:Heap)(N:List Str)(qual:Str)(scope:Scope)(f:Addr)(cd:Value)(A:Around)(outer:List Env)(s:Shared)(H:Hp)(E:XK):Cx where
 prog:=P
 w:=w
 K:=K
 mg:=mg
 base:=base
 A:=A.deeper (envOfC qual scope s.heap.objs.size f cd)
 N:=N
 s₀:=s
 H₀:=H
 env:=envOfC qual scope s.heap.objs.size f cd
 outer:=outer
 stack:=envOfC qual scope s.heap.objs.size f cd::outer
 ex:=[]
 calm:=true
 fn:=λ_=>true
 pn:=[]
 xe:=λe s'=>wpAny (model P w) (A.deeper (envOfC qual scope s.heap.objs.size f cd)) (leaving (envOfC qual scope s.heap.objs.size f cd) e) (λ_ a=>CX outer H s E e a) (λb a=>CX outer H s E b a) s'
def aC7{sc:Scope}{n:Nat}{x:Str}(h:sc.names.lookup x=some .cell):∃ c,(cellsFrom n sc.names []).lookup x=some c:=by
 have q:=W.cellsFrom_some sc.names n [] (.inl h);exact Option.isSome_iff_exists.mp q
def aP7{CX:CXT}{P:Program}{w:World}{K:W.Frag}{mg:Str->Option Value}{base:Heap}{N ps:List Str}{qual:Str}{scope:Scope}{f:Addr}{cd:Value}{A:Around}{outer:List Env}{s s1:Shared}{H:Hp}{E:XK}{us:List Value}{vs:List V}
  (S:FnScope N ps scope) (hd:A.handled=none) (g:Env0 P w K mg base A outer s H) (G:vs.length=ps.length) (r:bG vs us)
  (x:InCallC s s.heap.objs.size (bindL (envOfC qual scope s.heap.objs.size f cd).kindOf (ps.zip us) λ_=>none) (cellsFrom (s.heap.objs.size+1) scope.names []) (bindC (envOfC qual scope s.heap.objs.size f cd).kindOf (ps.zip us) λ_=>none) s1) :
  Inv (yR CX P w K mg base N qual scope f cd A outer s H E) [] (cT N vs) H s1:=by
 have D:ps.length<=N.length:=by have:=a3H List.length S.pre;rw[a7d]at this;lia
 obtain⟨t,tk,rfl,B⟩:=x.done;have j:∀ b:Addr,b∉(yR CX P w K mg base N qual scope f cd A outer s H E).ex:=λb z=>absurd (show b∈([]:List Addr)from z) (by simp);refine⟨⟨g.mod,S.kind,rfl,rfl,a6a _,λy z c t d=>?_,λy l=>?_,λy c _ h=>?_,λ_=>hd,Around.frames_deeper g.frames,.inr ⟨rfl,rfl⟩,λb z=>absurd z (j b),g.bs,g.bsz,λb _ _=>j b,λb z=>absurd z (j b),g.funs,g.frf⟩,
  rfl,g.bare,Un.kept B,⟨_,x.toInCall.ns,λi y v t d I=>?_⟩,λy c h=>⟨_,x.cell y c h⟩,g.hok.fresh (a6a _),λy c h=>?_,λp m=>absurd (show p∈([]:List (Addr×Obj))from m) (by simp),g.hok.kept B,?_⟩
 ·exact name_of_addr x.apart (a6i t) (a6i d)
 ·have l:scope.names.lookup y=some .cell\/scope.names.lookup y=some .free:=l;rcases l with l | l;exact aC7 l;exact absurd rfl (S.nofree _ (a6i l))
 ·exact a7g (x.above y c (a6i h))
 ·have hi:i < vs.length:=by
   unfold cT at d;by_cases hi:i < vs.length;exact hi;rw[a7f (by simpa using hi)]at d;rw[List.getElem?_replicate]at d;split at d<;>cases d
  have ha:vs[i]? = some v:=by
   unfold cT at d;rw[a9f (by simpa using hi),a4b]at d;cases e:vs[i]? with
   | none=>rw[e]at d;cases d
   | some a=>rw[e]at d;cases d;rfl
  obtain⟨u,C,F⟩:=r.get ha;have m:ps[i]? = some y:=by
   rw[← S.pre,List.getElem?_take_of_lt (by lia)];exact t
  have o:ps.Nodup:=by rw[← S.pre];exact S.nd.sublist (List.take_sublist _ _)
  refine⟨u,F,?_⟩;rcases S.par y (a9b m)with k | k;exact .inl ⟨k,wA o m C k⟩;obtain⟨c,e⟩:=aC7 (n:=s.heap.objs.size+1) k;refine .inr ⟨.inl k,c,e,?_⟩;have q:=x.cell y c e;rw[wB o m C (by show scope.names.lookup y≠_;rw[k];decide)]at q;exact q
 ·exact g.hok.fresh (a7g (x.above y c (a6i h)))
 ·unfold cT;show _=N.length;rw[a6b,a1a,List.length_replicate];lia
def cP7{CX:CXT}{P:Program}{w:World}{K:W.Frag}{mg:Str->Option Value}{base:Heap}{k:Nat}{f:Addr}{name qual:Str}{a:Arguments}{c:List Stmt}{scope:Scope}{z kV doc pm cdv ct oc:Value}{an od:Option Addr}
  {osl:Array (Option Value)} {N ps:List Str} {sp:Sp} (lk:K.lookup f=some ⟨oc,od,.func (W.fnOf name qual a c scope z kV doc pm an cdv ct),osl⟩) (j:W.codeIn K cdv qual=true) (S:FnScope N ps scope)
  (len:∀ vs H Q E,sp vs H Q E->vs.length=ps.length)
  (d:∀ (A:Around) (outer:List Env) (s:Shared) (H:Hp) (vs:List V) (Q:VK) (E:XK),Room k (A.deeper (envOfC qual scope s.heap.objs.size f cdv))->sp vs H Q E ->
   ∃ t,PSs (yR CX P w K mg base N qual scope f cdv A outer s H E) c t/\t {nx:=λ_ H'=>Q .non H',rt:=Q} (cT N vs) H) :
  FnOk P w K mg base CX (k+1) f (W.fnOf name qual a c scope z kV doc pm an cdv ct) ps sp:=by
 refine⟨len,λA outer s H args us vs Q E l h C r i=>?_⟩;have D:=len _ _ _ _ i;have B:K.In s.heap:=h.mod.kin.keeps λb o e=>(h.bs b o e).1;have m:s.heap.NoLimit:=h.mod.nolimit.keeps λb o e=>(h.bs b o e).1;have g:∀ y∈ps.zip us,scope.names.lookup y.1=some .local\/(scope.names.lookup y.1=some .cell/\((cellsFrom (s.heap.objs.size+1) scope.names []).lookup y.1).isSome=true):=λ⟨n,v⟩ F=>by
  rcases S.par n (List.of_mem_zip F).1 with q | q;exact .inl q;exact .inr ⟨q,W.cellsFrom_some _ _ _ (.inl q)⟩
 refine codeAny_call_function l.depth (B _ _ lk) rfl S.co S.gen rfl (W.codeRec_of B j) (C _ _ _ _ ?_);refine wpAny_newFunctionEnv_cells S.kind g λenv G s1 x=>?_;subst G;refine⟨m.keeps x.toInCall.keep,codeAny_func ?_⟩;obtain⟨t,L,M⟩:=d A outer s H vs Q E (l.deeper _) i;have I:Inv (yR CX P w K mg base N qual scope f cdv A outer s H E) [] (cT N vs) H s1:=aP7 S l.hd h D r x;refine a3B (L [] s1 (cT N vs) H _ I M) (λO s' hs=>?_) λe s' hs=>hs;have fin:∀ {σ':St} {H':Hp} {v:V} {u:Value},Inv (yR CX P w K mg base N qual scope f cdv A outer s H E) [] σ' H' s'->cY v u->Q v H'->CE outer P w H s Q u s':=
  λ{σ' H' v u} J p q=>⟨v,H',J.os,J.bare,J.base,J.hok,p,q⟩
 cases O with
 | ret u=>
   obtain⟨v,σ',H',J,p,q⟩:=hs;exact fin J p q
 | next=>
   obtain⟨σ',H',J,q⟩:=hs;exact fin (v:=V.non) (u:=Value.none) J rfl q
 | brk=>
   obtain⟨_,_,_,q⟩:=hs;exact False.elim q
 | cont=>
   obtain⟨_,_,_,q⟩:=hs;exact False.elim q
section
variable{X:Cx}{x:Str}{p pos:Pos}{e:Expr}{es:List Expr}{t:TA}{id T:String}{r:List V->Hp->VK->Prop}
def tCB(r:List V->Hp->VK->Prop)(t:TA):TE:=λσ H Q=>t σ H λvs a=>r vs a Q
def bE(c:iH X (.builtin id) r)(d:Gl X x)(hm:X.mg x=none)(f:bootBuiltins x=some (.builtin id))(ha:PA X (e::es) t)(hn:x≠"__name__":=by decide)(a:(x==("__debug__":Str))=false:=by decide)
  (g:starEach (e::es) X.env=(false,eval e X.env)::starEach es X.env:=by rfl) (b:(backTo pos (starEach es X.env)).any (·.1)=false:=by rfl):PE X (.Call (.Name x p) (e::es) [] pos) (tCB r t):=by
 intro pins s σ H Q I h;refine a3z (jR I d hm f ?_ hn a);exact PyProof.Rows.callWith_builtin1 (thn (ha pos pins s σ H _ I h) λus s1 ⟨vs,i,j,k,l⟩=>c pins s1 σ i vs us Q j k l) g b
def dB(c:iH X (.type T) r)(d:Gl X x)(hm:X.mg x=none)(f:bootBuiltins x=some (.type T))(ha:PA X (e::es) t)(hn:x≠"__name__":=by decide)(a:(x==("__debug__":Str))=false:=by decide)
  (g:starEach (e::es) X.env=(false,eval e X.env)::starEach es X.env:=by rfl) (b:(backTo pos (starEach es X.env)).any (·.1)=false:=by rfl):PE X (.Call (.Name x p) (e::es) [] pos) (tCB r t):=by
 intro pins s σ H Q I h;refine a3z (jR I d hm f ?_ hn a);exact a4e (thn (ha pos pins s σ H _ I h) λus s1 ⟨vs,i,j,k,l⟩=>c pins s1 σ i vs us Q j k l) g b
end
end L2
namespace HT
open PySem PyProof.Rows
noncomputable def lexLt:List Int->List Int->Bool
 | [],[]=>false
 | [],_::_=>true
 | _::_,[]=>false
 | x::xs,y::ys=>if x=y then lexLt xs ys else decide (x < y)
def lexLt_cons(x y:Int)(xs ys:List Int):lexLt (x::xs) (y::ys)=if x=y then lexLt xs ys else decide (x < y):=rfl
def tX:lexLt [] []=false:=rfl
def sA(y:Int)(ys:List Int):lexLt [] (y::ys)=true:=rfl
def sC(x:Int)(xs:List Int):lexLt (x::xs) []=false:=rfl
def bE7(A:Around)(s:Shared)(a:Int)(t:Tok)(c:Int)(u:Tok):∃ e,SeqAt.EqAt A s (.int a t) (.int c u) e/\(e=true↔a=c):=
 ⟨(a==c),SeqAt.EqAt.int_int a t c u,by simp⟩
def bE8(A:Around)(s:Shared)(a:Int)(t:Tok)(c:Int)(u:Tok)(prog:Program)(w:World)(E:Value->Shared->Prop)(Q:Value->Shared->Prop)(h:Q (.bool (decide (a < c))) s) :
  wpAny (model prog w) A (richCompare .Lt (.int a t) (.int c u)) Q E s:=
 (PyProof.Rows.lt_int h:wpAny (model prog w) A (compareOp .Lt (.int a t) (.int c u)) Q E s)
section
open PySem.SeqAt
open PySem.AutoSeq1 (wpAny_loadPart')
open PySem.MeetsSeq PySem.MeetsSeq2 PySem.MeetsSeq3
def tY(l b:Addr)(items f:Array Value)(n n2:Nat)(J E:Option Addr)(sl sl2:Array (Option Value))(ns C:List Int)(hi:IntsAre items.toList ns)(H:IntsAre f.toList C) :
  Meets (Builtin.«tuple.__lt__» ⟨[.ref l,.ref b],[]⟩)
   (λ_ R s=>s.heap.get? l=some {cls:=.type "tuple",dict:=J,data:=.seq items n,slots:=sl}/\s.heap.get? b=some {cls:=.type "tuple",dict:=E,data:=.seq f n2,slots:=sl2} /\
    R (.ok (.ret (.bool (lexLt ns C)))) s):=
 .of_wp λprog w A R s h=>by
  obtain⟨D,g,d,tk,os⟩:=s;obtain⟨K,L,h⟩:=h;have P:=AutoSeq1.sub_tuple_tuple;have Q:items.size=ns.length:=by rw[← hi.length];simp
  have S:f.size=C.length:=by rw[← H.length];simp
  wp_walk using a3F K,a3F L,wpAny_forIn_list _ (λbK b s'=>b.1=none/\s'=⟨D,g,d,tk,os⟩/\∃ (vs ws:List Value) (ns' i:List Int),bK=vs.zip ws /\
   IntsAre vs ns'/\IntsAre ws i/\ns'.length+f.size=i.length+items.size/\R (.ok (.ret (.bool (lexLt ns' i)))) ⟨D,g,d,tk,os⟩) _
  case turn=>
   rintro⟨y,x⟩ bK b s' ⟨p,rfl,vs,ws,ns',i,j,r,k,hlen,m⟩;cases r with
   | nil=>rw[List.zip_nil_left]at j;cases j
   | cons a t z=>
     cases k with
     | nil=>rw[List.zip_nil_right]at j;cases j
     | cons c u B=>
       rw[List.zip_cons_cons]at j;injection j with F v
       injection F with M N
       subst M N;rw[lexLt_cons]at m;simp only[List.length_cons]at hlen;obtain⟨e,O,o⟩:=bE7 A.in1 ⟨D,g,d,tk,os⟩ a t c u;refine a3n (O prog w _ _ ?_);cases e with
       | true=>
         rw[a3p (o.mp rfl)]at m
         wp_walk
         exact⟨rfl,rfl,_,_,_,_,v,z,B,by lia,m⟩
       | false=>
         rw[a3q (λq=>absurd (o.mpr q) a1b)]at m;have G:=bE8 A.in1 ⟨D,g,d,tk,os⟩ a t c u prog w
         wp_walk using G
         exact⟨_,rfl,by simpa using m⟩
  case fin=>
   rintro⟨T,U⟩ s' ⟨p,rfl,vs,ws,ns',i,j,r,k,hlen,m⟩;simp only at p;subst p;have I:lexLt ns' i=decide (items.size < f.size):=by
    cases r with
    | nil=>
      cases k with
      | nil=>
        simp only[List.length_nil]at hlen;rw[tX];exact(a3r (by lia)).symm
      | cons c u hw=>
        simp only[List.length_nil,List.length_cons]at hlen;rw[sA];exact(a3v (by lia)).symm
    | cons a t I=>
      cases k with
      | nil=>
        simp only[List.length_nil,List.length_cons]at hlen;rw[sC];exact(a3r (by lia)).symm
      | cons c u hw=>
        rw[List.zip_cons_cons]at j;cases j
   rw[I]at m
   wp_walk
   exact⟨_,rfl,by simpa[Builtin.Tuple.tupleCompareSizes]using m⟩
  case h=>
   exact⟨rfl,rfl,items.toList,f.toList,ns,C,rfl,hi,H,by lia,h⟩
end
section
variable{prog:Program}{w:World}{A:Around}{E:Value->Shared->Prop}{s:Shared}
def lt_tupInts{l b:Addr}{items a:Array Value}{ns c:List Int}{Q:Value->Shared->Prop}(k:IsTup s.heap l items)(m:IsTup s.heap b a)(hi:IntsAre items.toList ns)(o:IntsAre a.toList c)
  (p:A.units < cLine) (h:Q (.bool (lexLt ns c)) s):wpAny (model prog w) A (compareOp .Lt (.ref l) (.ref b)) Q E s:=by
 obtain⟨⟨cls,q,data,sl⟩,g,i,n,hd⟩:=id k;obtain⟨⟨j,f,data2,sl2⟩,d,e,n2,hd2⟩:=id m;simp only at i hd e hd2;subst i hd e hd2;exact richCompare_meets_room (op:=.Lt) ⟨_,g,rfl⟩ ⟨_,d,rfl⟩ F.slot_tuple_lt F.entry_tuple_lt (F.args_tuple_lt_2 _ _) (tY l b items a n n2 q f sl sl2 ns c hi o)
  ⟨g,d,show Value.bool (lexLt ns c)≠Value.notImplemented/\Q (.bool (lexLt ns c)) s from⟨(λx=>nomatch x),h⟩⟩ p
def cat_tup{t b:Addr}{vs ws:List Value}{Q:Value->Shared->Prop}(l:IsTup s.heap t vs.toArray)(m:IsTup s.heap b ws.toArray)(h:vs≠[])
  (o:ws=[]->Q (.ref t) s) (p:ws≠[]->Q (.ref s.heap.objs.size) {s with heap:=s.heap.push {cls:=.type "tuple",data:=.seq (vs++ws).toArray}})
  (hsz:vs.length+ws.length<=sizeLine):wpAny (model prog w) A (binaryOp .Add (.ref t) (.ref b)) Q E s:=by
 obtain⟨⟨cls,i,data,sl⟩,f,j,n,hd⟩:=id l;obtain⟨⟨k,c,data2,sl2⟩,a,d,n2,hd2⟩:=id m;simp only at j hd d hd2;subst j hd d hd2;have e:vs.toArray++ws.toArray=(vs++ws).toArray:=by simp
 by_cases g:ws=[]
 ·exact concat_meets ⟨_,f,rfl⟩ ⟨_,a,rfl⟩ noFill_tuple_add seq_tuple_add F.slot_tuple_add F.entry_tuple_add (F.args_tuple_add_2 _ _)
   (tuple_addW1 t b vs.toArray ws.toArray n n2 i c sl sl2 (by simpa using h) (by simp[g])) ⟨f,a,o g⟩
 ·refine concat_meets ⟨_,f,rfl⟩ ⟨_,a,rfl⟩ noFill_tuple_add seq_tuple_add F.slot_tuple_add F.entry_tuple_add (F.args_tuple_add_2 _ _)
   (tuple_addW2 t b vs.toArray ws.toArray n n2 i c sl sl2 (by simpa using h) (by simpa using g) (by rw[List.size_toArray,List.size_toArray];exact hsz)) ⟨f,a,?_⟩
  rw[e];exact p g
noncomputable def sIx(n d:Nat):Option Int->Nat
 | none=>d
 | some v=>if v < 0 then(v+(n:Int)).toNat else min v.toNat n
def sIx_none(n d:Nat):sIx n d none=d:=rfl
def sIx_nat(n d k:Nat):sIx n d (some (k:Int))=min k n:=by
 show(if(k:Int) < 0 then((k:Int)+(n:Int)).toNat else min (k:Int).toNat n)=min k n;rw[a3q (by lia),Int.toNat_natCast]
def cP8(n d:Nat)(hd:d<=n)(o:Option Int):sIx n d o<=n:=by
 cases o with
 | none=>exact hd
 | some v=>
   show(if v < 0 then(v+(n:Int)).toNat else min v.toNat n)<=n;by_cases a:v < 0;rw[a3p a];lia;rw[a3q a];exact Nat.min_le_right _ _
def aP8(v:Int)(n d:Nat):(if v < 0 then max (v+(n:Int)) 0 else min v (n:Int))=((sIx n d (some v):Nat):Int):=by
 show(if v < 0 then max (v+(n:Int)) 0 else min v (n:Int))=(((if v < 0 then(v+(n:Int)).toNat else min v.toNat n):Nat):Int);by_cases a:v < 0;simp only[if_pos a];lia;simp only[if_neg a];lia
def aJ2(lo hi:Option Int)(n:Nat):Builtin.Slice.sliceAdjust lo hi 1 (n:Int)=(((sIx n 0 lo:Nat):Int),((sIx n n hi:Nat):Int)):=by
 have a:¬ ((1:Int) < 0):=by lia
 unfold Builtin.Slice.sliceAdjust;simp only[a,if_false];refine Prod.ext ?_ ?_
 ·cases lo with
  | none=>rfl
  | some v=>exact aP8 v n 0
 ·cases hi with
  | none=>rfl
  | some v=>exact aP8 v n n
def aJ3(i j:Nat):Builtin.Slice.slicePlaces (i:Int) (j:Int) 1=j-i:=by
 unfold Builtin.Slice.slicePlaces;have a:(1:Int) > 0:=by lia
 simp only[a,if_true,Int.ediv_one];split<;>lia
def sV{v:Value}{o:Option Int}{Q:Option Int->Shared->Prop}(p:IsPart v o)(h:Q o s):wpAny (model prog w) A (Builtin.Slice.slicePartIndex v) Q E s:=by
 cases p with
 | none=>exact slicePart_none h
 | int i t=>exact slicePart_int h
def gZ{sl:Addr}{c d:Value}{lo hi:Option Int}{n:Nat}{Q:Int×Int×Nat->Shared->Prop}(hs:s.heap.IsSliceOf sl c d .none)(pl:IsPart c lo)(e:IsPart d hi)
  (h:Q (((sIx n 0 lo:Nat):Int),1,sIx n n hi-sIx n 0 lo) s):wpAny (model prog w) A (Builtin.Slice.sliceApplied (.ref sl) (pure (n:Int))) Q E s:=by
 obtain⟨os,a,f,b⟩:=id hs;unfold Builtin.Slice.sliceApplied Builtin.Slice.sliceFields;refine a3n (a3n (a3x a b (x:=c) rfl (a3n (a3x a b (x:=d) rfl (a3n (a3x a b (x:=.none) rfl (a3o ?_)))))));refine a3n (slicePart_none ?_);show wpAny _ _ (if((1:Int)==0)=true then _ else _) _ _ s;rw[a3q (by decide)];refine a3n (sV pl (a3n (sV e (a3n (a3o ?_)))));show wpAny _ _ (match Builtin.Slice.sliceAdjust lo hi 1 (n:Int)with | (lo,hi)=>pure (lo,(1:Int),Builtin.Slice.slicePlaces lo hi 1)) _ _ s;rw[aJ2 lo hi n];show wpAny _ _ (pure (((sIx n 0 lo:Nat):Int),(1:Int),Builtin.Slice.slicePlaces ((sIx n 0 lo:Nat):Int) ((sIx n n hi:Nat):Int) 1)) _ _ s;rw[aJ3];exact a3o h
def bE9(xs:Array Value)(i k:Nat):((List.range k).filterMap λ(m:Nat)=>xs[((i:Int)+(m:Int)*1).toNat]?).toArray=((xs.toList.drop i).take k).toArray:=by
 have e:(λ(m:Nat)=>xs[((i:Int)+(m:Int)*1).toNat]?)=λm=>xs[i+m]?:=by
  funext m;have:((i:Int)+(m:Int)*1).toNat=i+m:=by lia
  rw[this]
 rw[e];have:=pick_run xs i k;rw[List.filterMap_map]at this;have a:((λx=>xs[x]?) ∘ λx=>i+x)=λm=>xs[i+m]?:=rfl;rw[a]at this;rw[this]
def getItem_tuple_cut{t sl:Addr}{items:Array Value}{g i:Value}{lo hi:Option Int}{Q:Value->Shared->Prop}(b:IsTup s.heap t items)(hs:s.heap.IsSliceOf sl g i .none)(pl:IsPart g lo)(j:IsPart i hi)
  (k:¬ (sIx items.size 0 lo=0/\sIx items.size items.size hi=items.size))
  (h:Q (.ref s.heap.objs.size) {s with heap:=s.heap.push {cls:=.type "tuple",data:=.seq ((items.toList.drop (sIx items.size 0 lo)).take (sIx items.size items.size hi-sIx items.size 0 lo)).toArray}})
  (hsz:items.size<=sizeLine):wpAny (model prog w) A (getItem (.ref t) (.ref sl)) Q E s:=by
 have a:sizeOk (.seq ((items.toList.drop (sIx items.size 0 lo)).take (sIx items.size items.size hi-sIx items.size 0 lo)).toArray):=by
  show((items.toList.drop (sIx items.size 0 lo)).take (sIx items.size items.size hi-sIx items.size 0 lo)).toArray.size<=sizeLine;rw[a9a,a7d,a0h,a1e];lia
 have n:sIx items.size items.size hi<=items.size:=cP8 _ _ (a6a _) hi;obtain⟨os,c,d,l⟩:=id hs;have e:s.TypeIs (.ref sl) "slice":=⟨os,c,d⟩;unfold getItem
 try with_reducible refine a3s ?_
 first | refine a3n (a3o ?_) | skip
 refine a3n (wpAny_sequenceKey b.typeIs (by decide) ?_);refine a3n (wpAny_callSpecial?_slot (name:=Str.ofString "__getitem__") b.typeIs a5e
  (a3A a5e b.typeIs entry_tuple_getitem ?_ (args_tuple_getitem _ _)))
 show wpAny _ _ (Builtin.Tuple.tupleItemsOf (.ref t) >>= _) _ _ s;refine a3n (tupleItemsOf_ b ?_);refine a3n (a3L e ?_);rw[a3p (by decide)];refine a3n (gZ hs pl j ?_);have f:¬ ((((sIx items.size 0 lo:Nat):Int)==0&&(1:Int)==1&&(sIx items.size items.size hi-sIx items.size 0 lo)==items.size)=true):=by
  intro q;rw[a5d,a5d]at q;have o:((sIx items.size 0 lo:Nat):Int)=0:=eq_of_beq q.1.1;have p:sIx items.size items.size hi-sIx items.size 0 lo=items.size:=eq_of_beq q.2;exact k ⟨by lia,by lia⟩
 show wpAny _ _ (if(((sIx items.size 0 lo:Nat):Int)==0&&(1:Int)==1&&(sIx items.size items.size hi-sIx items.size 0 lo)==items.size)=true then _ else _) _ _ s;rw[a3q f,bE9]
 first
  | exact a3n (m:=Builtin.Tuple.tupleExact _) (a3t (a3o ⟨_,rfl,a3o h⟩) a)
  | exact a3n (m:=Builtin.Tuple.tupleExact _) (a3t (a3n (a3o (a3o ⟨_,rfl,a3o h⟩))) a)
  | exact a3n (a3n (m:=Builtin.Tuple.tupleExact _) (a3t (a3o (a3o ⟨_,rfl,a3o h⟩)) a))
  | exact a3n (a3n (m:=Builtin.Tuple.tupleExact _) (a3t (a3o ⟨_,rfl,a3o h⟩) a))
end
end HT
namespace L2
open PySem PySem.Spec PyProof.Rows
abbrev TO:=St->Hp->(Option Int->Hp->Prop)->Prop
def PO(X:Cx)(e:Option Expr)(t:TO):Prop:=
 ∀ (pins:List (Addr×Obj)) (s:Shared) (σ:St) (H:Hp) (Q:Option Int->Hp->Prop),Inv X pins σ H s->t σ H Q ->
   wpAny (model X.prog X.w) X.A (evalPart e X.env) (λu s'=>∃ o H',Inv X pins σ H' s'/\IsPart u o/\Q o H') X.xe s
def aP9:TO:=λ_ H Q=>Q none H
def cP9(t:TE):TO:=λσ H Q=>t σ H λx a=>∃ i,x=.int i/\Q (some i) a
def sW{ns:List Int}:∀ {us:List Value},bG (ns.map V.int) us->IntsAre us ns:=by
 induction ns with
 | nil=>intro us r;rw[List.map_nil]at r;cases r;exact .nil
 | cons n ns a=>
   intro us r;rw[a7e]at r;cases r with
   | cons b c=>
     obtain⟨t,e⟩:=b;subst e;exact .cons n t (a c)
section
variable{X:Cx}{e:Expr}{te:TE}{lo hi:Option Expr}{tl th:TO}{pos p2:Pos}
def mX:PO X none aP9:=by
 intro pins s σ H Q I h;rw[evalPart_none];exact a3o ⟨none,H,I,.none,h⟩
def mY(h:PE X e te):PO X (some e) (cP9 te):=by
 intro pins s σ H Q I a;rw[evalPart_some];refine thn (h pins s σ H _ I a) λu s1 Z0=>?_;obtain⟨x,b,c,d,f⟩:=Z0;obtain⟨i,rfl,q⟩:=f;obtain⟨t,rfl⟩:=d;exact⟨some i,b,c,.int i t,q⟩
def SlR(X:Cx)(r:V->Option Int->Option Int->Hp->VK->Prop):Prop:=
 ∀ (pins:List (Addr×Obj)) (s:Shared) (σ:St) (H:Hp) (x:V) (v a b:Value) (lo hi:Option Int) (sl:Addr) (Q:VK),Inv X pins σ H s->cY x v->s.heap.IsSliceOf sl a b .none->IsPart a lo->IsPart b hi->r x lo hi H Q ->
   ∃ T id,typeLookup (.type T) "__getitem__"=pure (some (.builtin id))/\s.TypeIs v T/\wpAny (model X.prog X.w) X.A (getItem v (.ref sl)) (EP X pins σ Q) X.xe s
def tSl(r:V->Option Int->Option Int->Hp->VK->Prop)(te:TE)(tl th:TO):TE:=λσ H Q=>te σ H λx a=>tl σ a λl b=>th σ b λu c=>r x l u c Q
def jH{r:V->Option Int->Option Int->Hp->VK->Prop}(g:SlR X r)(i:PE X e te)(j:PO X lo tl)(k:PO X hi th):PE X (.Subscript e (.Slice lo hi none p2) pos) (tSl r te tl th):=by
 intro pins s σ H Q I h;refine Subscript_ (thn (i pins s σ H _ I h) λv s1 Z0=>?_);obtain⟨x,m,n,o,p⟩:=Z0;refine wpAny_Slice (thn (j pins s1 σ m _ n p) λc s2 ⟨l,t,y,pl,z⟩=>thn (k pins s2 σ t _ y z) λd a ⟨u,f,B,C,D⟩=>?_);rw[evalPart_none];refine a3o ?_;have E:Inv X pins σ f {a with heap:=a.heap.push {cls:=.type "slice",data:=.fields #[c,d,.none]}}:=B.kept (t':=a.toks) λb ob q=>a2a _ q;obtain⟨T,id,hT,F,G⟩:=g pins {a with heap:=a.heap.push {cls:=.type "slice",data:=.fields #[c,d,.none]}} σ f x v c d l u a.heap.objs.size Q E o (Heap.IsSliceOf.new ..) pl C D;show wpAny (model X.prog X.w) X.A (subscriptTail e (.Slice lo hi none p2) v (.ref a.heap.objs.size)) (EP X pins σ Q) X.xe {a with heap:=a.heap.push {cls:=.type "slice",data:=.fields #[c,d,.none]}};exact tail_any (ops:=[.ref a.heap.objs.size,v]) F hT G (by with_unfolding_all rfl)
noncomputable def pG(xs:List V)(lo hi:Option Int):List V:=(xs.drop (HT.sIx xs.length 0 lo)).take (HT.sIx xs.length xs.length hi-HT.sIx xs.length 0 lo)
def pW(xs:List V)(lo hi:Option Int):(pG xs lo hi).length<=xs.length:=by
 unfold pG;rw[a7d,a0h];lia
def dP0(K:W.Frag):V->Option Int->Option Int->Hp->VK->Prop:=λx lo hi H Q=>∃ a xs,x=.ref a/\SqT K H a xs /\
 ¬ (HT.sIx xs.length 0 lo=0/\HT.sIx xs.length xs.length hi=xs.length)/\∀ p,H p=none->Q (.ref p) (upd H p (.tup (pG xs lo hi)))
def cQ0:SlR X (dP0 X.K):=by
 intro pins s σ H x v j k lo hi sl Q I rx hs pl f h;obtain⟨a,xs,rfl,g,i,q⟩:=h;cases rx;obtain⟨its,r,d,e⟩:=I.tuple g;have c:its.toArray.size=xs.length:=by rw[a9a];exact r.length.symm
 refine⟨"tuple",_,a5e.lookup,d.typeIs,?_⟩;refine HT.getItem_tuple_cut d hs pl f (by rw[c];exact i) ?_ (by rw[c];exact e);rw[c];refine⟨.ref s.heap.objs.size,_,I.laid (t':=s.toks) (o:=.tup (pG xs lo hi)) (λb ob q=>a2a _ q) (a6a _) ?_,rfl,q _ (I.hok.fresh (a6a _))⟩;exact⟨a8b (pW xs lo hi) e,_,(r.drop (HT.sIx xs.length 0 lo)).take (HT.sIx xs.length xs.length hi-HT.sIx xs.length 0 lo),IsTup.new _ _,⟨_,a2b _ rfl,rfl⟩⟩
def dP1(K:W.Frag):R2:=λx y H Q=>∃ a b ns c,x=.ref a/\y=.ref b/\SqT K H a (ns.map V.int)/\SqT K H b (c.map V.int)/\Q (.bl (HT.lexLt ns c)) H
def cQ2(d:X.A.units < cLine):OpR X (compareOp .Lt) (dP1 X.K):=by
 intro pins s σ H x y v u Q I rx e h;obtain⟨a,b,ns,ms,rfl,rfl,ha,f,q⟩:=h;cases rx;cases e;obtain⟨its,g,i,_⟩:=I.tuple ha;obtain⟨c,j,p2,_⟩:=I.tuple f;have i1:IntsAre its.toArray.toList ns:=sW g;have i2:IntsAre c.toArray.toList ms:=sW j;exact HT.lt_tupInts i p2 i1 i2 d ⟨.bl (HT.lexLt ns ms),H,I,rfl,q⟩
def dH6(K:W.Frag):R2:=λx y H Q=>∃ a b xs ys,x=.ref a/\y=.ref b/\SqT K H a xs/\SqT K H b ys/\xs≠[]/\xs.length+ys.length<=sizeLine /\
 (ys=[]->Q (.ref a) H)/\(ys≠[]->∀ p,H p=none->Q (.ref p) (upd H p (.tup (xs++ys))))
def bG.nil_iff{xs:List V}{us:List Value}(r:bG xs us):us=[]↔xs=[]:=by
 cases r with
 | nil=>simp
 | cons _ _=>simp
def bY8:OpR X (binaryOp .Add) (dH6 X.K):=by
 intro pins s σ H x y v u Q I rx g h;obtain⟨a,b,xs,ys,rfl,rfl,ha,i,j,e,k,l⟩:=h;cases rx;cases g;obtain⟨its,d,m,_⟩:=I.tuple ha;obtain⟨f,c,p2,_⟩:=I.tuple i;refine HT.cat_tup m p2 (λz=>j (d.nil_iff.mp z)) (λz=>⟨.ref a,H,I,rfl,k (c.nil_iff.mp z)⟩) (λz=>?_) (by rw[← d.length,← c.length];exact e);refine⟨.ref s.heap.objs.size,_,I.laid (t':=s.toks) (o:=.tup (xs++ys)) (λb ob q=>a2a _ q) (a6a _) ?_,rfl,l (λw=>z (c.nil_iff.mpr w)) _ (I.hok.fresh (a6a _))⟩;exact⟨by rw[a6b];exact e,_,d.append c,IsTup.new _ _,⟨_,a2b _ rfl,rfl⟩⟩
end
noncomputable def ixN(n:Nat)(i:Int):Option Nat:=if 0<=i then(if i < n then some i.toNat else none)else if -(n:Int)<=i then some (i+n).toNat else none
noncomputable def atI{α:Type}(xs:List α)(i:Int):Option α:=(ixN xs.length i).bind λj=>xs[j]?
def yV{n:Nat}{i:Int}{j:Nat}(h:ixN n i=some j):seqIndex? i n=some j/\j < n /\ -(n:Int)<=i/\i < n:=by
 unfold ixN at h;by_cases h0:0<=i;rw[a3p h0]at h;by_cases a:i < n;rw[a3p a]at h;have e:i.toNat=j:=a5a h;exact⟨by rw[seqIndex_of h0 a,e],by lia,by lia,a⟩;rw[a3q a]at h;cases h;rw[a3q h0]at h;by_cases a:-(n:Int)<=i;rw[a3p a]at h;have e:(i+n).toNat=j:=a5a h;exact⟨by rw[seqIndex_neg (by lia) a,e],by lia,a,by lia⟩;rw[a3q a]at h;cases h
def tZ{a:Type}{xs:List a}{i:Int}{v:a}(h:atI xs i=some v):∃ j,seqIndex? i xs.length=some j/\xs[j]? = some v/\j < xs.length /\ -(xs.length:Int)<=i/\i < xs.length:=by
 unfold atI at h;cases e:ixN xs.length i with
 | none=>rw[e]at h;cases h
 | some j=>
   rw[e]at h;obtain⟨b,c,d,f⟩:=yV e;exact⟨j,b,h,c,d,f⟩
def mZ{a:Type}{xs:List a}{j:Nat}{v:a}(h:xs[j]? = some v):atI xs (j:Int)=some v:=by
 have b:j < xs.length:=(a3a.mp h).1;have e:ixN xs.length (j:Int)=some j:=by
  unfold ixN;rw[a3p (by lia),a3p (by lia)];simp
 unfold atI;rw[e];exact h
def aQ0(b:Expr):Prop:=∀ o i,subscripted b false o i=operate [o,i] (getItem o i)
def IxR(X:Cx)(r:R2):Prop:=
 ∀ (b a:Expr) (pins:List (Addr×Obj)) (s:Shared) (σ:St) (H:Hp) (x y:V) (v u:Value) (Q:VK),Inv X pins σ H s->cY x v->cY y u->r x y H Q ->
   subscripted a false v u=operate [v,u] (getItem v u)->wpAny (model X.prog X.w) X.A (subscriptTail b a v u) (EP X pins σ Q) X.xe s
def MtR(X:Cx)(id:String)(r:V->List V->Hp->VK->Prop):Prop:=
 ∀ (pins:List (Addr×Obj)) (s:Shared) (σ:St) (H:Hp) (x:V) (xs:List V) (v:Value) (us:List Value) (Q:VK),Inv X pins σ H s->cY x v->bG xs us->r x xs H Q ->
   wpAny (model X.prog X.w) X.A (call (.builtin id) (v::us)) (EP X pins σ Q) X.xe s
section
variable{X:Cx}{a b:Expr}{ta tb:TE}{pos:Pos}
def iC{r:R2}(c:IxR X r)(ha:PE X a ta)(d:PE X b tb)(hs:aQ0 b):PE X (.Subscript a b pos) (tOp r ta tb):=by
 intro pins s σ H Q I h;exact Subscript_ (dH1 ha d I h λv u s2 x y e f rx g q=>c a b pins s2 σ e x y v u Q f rx g q (hs _ _))
def dP2(K:W.Frag):R2:=λx y H Q=>∃ p xs i v,x=.ref p/\y=.int i/\SqL K H p xs/\atI xs i=some v/\Q v H
def dP3(K:W.Frag):R2:=λx y H Q=>∃ p xs i v,x=.ref p/\y=.int i/\SqT K H p xs/\atI xs i=some v/\Q v H
def dP4:R2:=λx y H Q=>∃ z i c,x=.str z/\y=.int i/\z.length<=sizeLine/\atI z.cps.toList i=some c/\Q (.str ⟨#[c]⟩) H
def bY9:IxR X (dP2 X.K):=by
 intro b c pins s σ H x y v u Q I rx g h hs;obtain⟨p,xs,i,z,rfl,rfl,k,l,q⟩:=h;cases rx;obtain⟨t,rfl⟩:=g;obtain⟨its,r,pl,B⟩:=I.list k;obtain⟨j,a,m,C,n,o⟩:=tZ l;obtain⟨w,f,d⟩:=r.get m;have A:=r.length;have hn:=nW;have fin:EP X pins σ Q w s:=⟨z,H,I,d,q⟩;by_cases h0:0<=i
 ·have e:i.toNat=j:=by
   rw[seqIndex_of h0 o]at a;exact a5a a
  exact item_listR pl.isList h0 (by lia) (by rw[e];simpa using f) fin hs
 ·have e:(i+(its.toArray.size:Int)).toNat=j:=by
   rw[seqIndex_neg (by lia) n]at a;rw[a9a,← A];exact a5a a
  exact subscriptTail_builtinR (x:=w) pl.isList.typeIs slot_list_getitem.lookup
   (wpAny_getItem_list_neg (Q:=λr s'=>r=w/\EP X pins σ Q r s') pl.isList (by lia) (by rw[a9a]<;>lia) (by lia) (by rw[e];simpa using f) ⟨rfl,fin⟩) hs
def cQ3:IxR X (dP3 X.K):=by
 intro a b pins s σ H x y v u Q I rx d h hs;obtain⟨p,xs,i,z,rfl,rfl,e,f,q⟩:=h;cases rx;obtain⟨t,rfl⟩:=d;obtain⟨its,r,pl,n⟩:=I.tuple e;obtain⟨j,g,k,o,A,B⟩:=tZ f;obtain⟨w,l,c⟩:=r.get k;have m:=r.length;have hn:=nW;have fin:EP X pins σ Q w s:=⟨z,H,I,c,q⟩;exact subscriptTail_builtinR (x:=w) pl.typeIs slot_tuple_getitem.lookup
  (getItem_tuple (j:=j) (Q:=λr s'=>r=w/\EP X pins σ Q r s') pl (by lia) (by lia) (by rw[a9a,← m];exact g) (by simpa using l) ⟨rfl,fin⟩) hs
def cQ4:IxR X dP4:=by
 intro a b pins s σ H x y v u Q I rx e h hs;obtain⟨z,i,c,rfl,rfl,p,f,q⟩:=h;obtain⟨t,rfl⟩:=rx;obtain⟨r,rfl⟩:=e;obtain⟨j,d,g,w,k,l⟩:=tZ f;have m:z.cps.toList.length=z.length:=by simp[Str.length]
 rw[m]at d k l;have hn:=nW;exact tail_any (typeIs_str s z t) slot_str_getitem.lookup (getItem_str (c:=c) (by
  have n:decide (i < -(2 ^ 63:Int))=false:=a3r (by lia);have o:decide (i ≥ 2 ^ 63)=false:=a3r (by lia);rw[n,o,Bool.or_false]) (by rw[d];simpa using g) ⟨.str ⟨#[c]⟩,H,I.tok _,⟨_,rfl⟩,q⟩) hs
def aJ4(its:List Value)(n j:Nat)(u:Value):Obj.mapSeq (·.setIfInBounds j u) {cls:=.type "list",data:=.seq its.toArray n}={cls:=.type "list",data:=.seq (its.set j u).toArray n}:=by
 simp[Obj.mapSeq]
theorem Inv.lst{pins:List (Addr×Obj)}{σ:St}{H:Hp}{s:Shared}{p:Addr}{xs:List V}(I:Inv X pins σ H s)(h:H p=some (.lst xs)) :
  ∃ (its:List Value) (n:Nat),bG xs its/\s.heap.get? p=some {cls:=.type "list",data:=.seq its.toArray n}/\xs.length<=sizeLine:=by
 obtain⟨z,its,n,r,e⟩:=I.hok p _ h;exact⟨its,n,r,e,z⟩
def Inv.lstUpd{pins:List (Addr×Obj)}{σ:St}{H:Hp}{s:Shared}{p:Addr}{xs ys:List V}{its its':List Value}{n a:Nat}{f:Obj->Obj}(I:Inv X pins σ H s)(h:H p=some (.lst xs))
  (d:s.heap.get? p=some {cls:=.type "list",data:=.seq its.toArray n}) (c:f {cls:=.type "list",data:=.seq its.toArray n}={cls:=.type "list",data:=.seq its'.toArray a}) (r:bG ys its') (hz:ys.length<=sizeLine) (t:Nat) :
  Inv X pins σ (upd H p (.lst ys)) {s with heap:=s.heap.update p f,toks:=t}:=by
 have e:(s.heap.update p f).get? p=some {cls:=.type "list",data:=.seq its'.toArray a}:=by
  rw[a0d f d (by rw[c]<;>rfl),c]
 refine I.write (x:=p) (e:=p) (by rw[h];trivial) (.inl rfl) (λb u g q=>(a4c _ _ (a3d g)).trans q) ⟨_,e⟩ ?_;exact⟨hz,its',a,r,e⟩
def bZ0:V->V->V->Hp->(Hp->Prop)->Prop:=λo i v H Q=>∃ p xs k j,o=.ref p/\i=.int k/\H p=some (.lst xs)/\ixN xs.length k=some j/\Q (upd H p (.lst (xs.set j v)))
def uA:dM1 X bZ0:=by
 intro pins s σ H o i v ov z u Q I m ri w h;obtain⟨p,xs,k,j,rfl,rfl,e,x,q⟩:=h;cases m;obtain⟨t,rfl⟩:=ri;obtain⟨its,n,r,b,y⟩:=I.lst e;obtain⟨a,A,f,g⟩:=yV x;have c:=r.length;have hn:=nW;have l:Inv X pins σ (upd H p (.lst (xs.set j v))) {s with heap:=s.heap.update p (Obj.mapSeq (·.setIfInBounds j u))}:=
  I.lstUpd e b (aJ4 its n j u) (r.set w j) (by rw[a5f];exact y) s.toks
 by_cases h0:0<=k
 ·have d:k.toNat=j:=by
   rw[seqIndex_of h0 g]at a;exact a5a a
  exact W.ki_setAt b h0 (by lia) (by rw[a9a,← c];exact g) (by rw[d];exact⟨_,l,q⟩)
 ·have d:(k+(its.toArray.size:Int)).toNat=j:=by
   rw[seqIndex_neg (by lia) f]at a;rw[a9a,← c];exact a5a a
  exact W.ki_setBack b (by lia) (by rw[a9a,← c];exact f) (by lia) (by rw[d];exact⟨_,l,q⟩)
def wC(lo hi:Option Int)(n:Nat):(sliceBounds lo hi none n).1=((HT.sIx n 0 lo:Nat):Int)/\(sliceBounds lo hi none n).2.1=((HT.sIx n n hi:Nat):Int)/\(sliceBounds lo hi none n).2.2=1:=by
 refine⟨?_,?_,rfl⟩
 ·cases lo with
  | none=>simp[sliceBounds,HT.sIx]
  | some i=>
    simp only[sliceBounds,HT.sIx,Option.getD_none,show(1:Int) > 0 by decide,if_true];by_cases h:i < 0;simp only[h,if_true]<;>lia;simp only[h,if_false]<;>lia
 ·cases hi with
  | none=>simp[sliceBounds,HT.sIx]
  | some i=>
    simp only[sliceBounds,HT.sIx,Option.getD_none,show(1:Int) > 0 by decide,if_true];by_cases h:i < 0;simp only[h,if_true]<;>lia;simp only[h,if_false]<;>lia
def uB(its:List Value)(lo hi:Option Int):slicePick its.toArray lo hi none=((its.drop (HT.sIx its.length 0 lo)).take (HT.sIx its.length its.length hi-HT.sIx its.length 0 lo)).toArray:=by
 obtain⟨a,b,c⟩:=wC lo hi its.toArray.size;unfold slicePick;rw[a,b,c];simp only[sliceRange_one,pick_run,List.size_toArray]<;>rfl
def dP5(K:W.Frag):V->Option Int->Option Int->Hp->VK->Prop:=λx lo hi H Q=>∃ a xs,x=.ref a/\SqL K H a xs/\∀ p,H p=none->Q (.ref p) (upd H p (.lst (pG xs lo hi)))
def bZ1:SlR X (dP5 X.K):=by
 intro pins s σ H x v i j lo hi sl Q I rx hs pl e h;obtain⟨a,xs,rfl,f,q⟩:=h;cases rx;obtain⟨its,r,d,g⟩:=I.list f;have c:=r.length;refine⟨"list",_,slot_list_getitem.lookup,d.isList.typeIs,?_⟩;refine wpAny_getItem_list_slice d.isList hs pl e .none (by simp) ?_ (by rw[List.size_toArray]<;>lia);rw[uB,← c];refine⟨.ref s.heap.objs.size,_,I.laid (t':=s.toks) (o:=.lst (pG xs lo hi)) (λb ob q=>a2a _ q) (a6a _) ?_,rfl,q _ (I.hok.fresh (a6a _))⟩;exact⟨a8b (pW xs lo hi) g,_,0,(r.drop (HT.sIx xs.length 0 lo)).take (HT.sIx xs.length xs.length hi-HT.sIx xs.length 0 lo),a2b _ rfl⟩
noncomputable def pX:V->Bool
 | .non=>true
 | .bl _=>true
 | .int _=>true
 | .str _=>true
 | _=>false
noncomputable def eqV:V->V->Bool
 | .non,.non=>true
 | .bl a,.bl b=>a==b
 | .bl a,.int b=>(if a then 1 else 0)==b
 | .int a,.bl b=>a==(if b then 1 else 0)
 | .int a,.int b=>a==b
 | .str a,.str b=>a==b
 | _,_=>false
def cQ5{A:Around}{s:Shared}{y x:V}{u v:Value}(d:cY y u)(rx:cY x v)(f:pX y=true)(e:pX x=true):SeqAt.EqAt A s u v (eqV y x):=by
 cases y with
 | non=>
   cases d;cases x with
   | non=>cases rx;exact SeqAt.EqAt.same _
   | bl b=>cases rx;exact SeqAt.EqAt.none_bool b
   | int b=>obtain⟨t,rfl⟩:=rx;exact SeqAt.EqAt.none_int b t
   | str b=>obtain⟨t,rfl⟩:=rx;exact SeqAt.EqAt.none_str b t
   | _=>exact absurd (show false=true from e) a1b
 | bl a=>
   cases d;cases x with
   | non=>cases rx;exact SeqAt.EqAt.bool_none a
   | bl b=>cases rx;exact SeqAt.EqAt.bool_bool a b
   | int b=>obtain⟨t,rfl⟩:=rx;exact SeqAt.EqAt.bool_int a b t
   | str b=>obtain⟨t,rfl⟩:=rx;exact SeqAt.EqAt.bool_str a b t
   | _=>exact absurd (show false=true from e) a1b
 | int a=>
   obtain⟨c,rfl⟩:=d;cases x with
   | non=>cases rx;exact SeqAt.EqAt.int_none a c
   | bl b=>cases rx;exact SeqAt.EqAt.int_bool a c b
   | int b=>obtain⟨t,rfl⟩:=rx;exact SeqAt.EqAt.int_int a c b t
   | str b=>obtain⟨t,rfl⟩:=rx;exact SeqAt.EqAt.int_str a c b t
   | _=>exact absurd (show false=true from e) a1b
 | str a=>
   obtain⟨c,rfl⟩:=d;cases x with
   | non=>cases rx;exact SeqAt.EqAt.str_none a c
   | bl b=>cases rx;exact SeqAt.EqAt.str_bool a c b
   | int b=>obtain⟨t,rfl⟩:=rx;exact SeqAt.EqAt.str_int a c b t
   | str b=>obtain⟨t,rfl⟩:=rx;exact SeqAt.EqAt.str_str a c b t
   | _=>exact absurd (show false=true from e) a1b
 | _=>exact absurd (show false=true from f) a1b
noncomputable def eqU(x:V)(u:Value):Bool:=match u with
 | .none=>eqV .non x
 | .bool b=>eqV (.bl b) x
 | .int i _=>eqV (.int i) x
 | .str z _=>eqV (.str z) x
 | _=>false
def bR3{x y:V}{u:Value}(r:cY y u)(f:pX y=true):eqU x u=eqV y x:=by
 cases y with
 | non=>cases r;rfl
 | bl b=>cases r;rfl
 | int i=>obtain⟨t,rfl⟩:=r;rfl
 | str z=>obtain⟨t,rfl⟩:=r;rfl
 | _=>exact absurd (show false=true from f) a1b
theorem yW{x:V}:∀ {xs:List V} {us:List Value},bG xs us->xs.all pX=true->us.any (eqU x)=xs.any λy=>eqV y x
 | _,_,.nil,_=>rfl
 | y::xs,u::us,.cons r t,f=>by
   rw[List.all_cons,a5d]at f;rw[List.any_cons,List.any_cons,bR3 r f.1,yW t f.2]
theorem uC{A:Around}{s:Shared}{x:V}{v:Value}(rx:cY x v)(b:pX x=true):∀ {xs:List V} {us:List Value},bG xs us->xs.all pX=true->∀ u∈us,SeqAt.EqAt A s u v (eqU x u)
 | _,_,.nil,_=>λu a=>by cases a
 | y::xs,u::us,.cons r t,f=>λc a=>by
   rw[List.all_cons,a5d]at f;rcases a7b.mp a with rfl | a;rw[bR3 r f.1];exact cQ5 r rx f.1 b;exact uC rx b t f.2 c a
noncomputable def inV(x:V)(xs:List V):Bool:=xs.any λy=>eqV y x
def rIn(K:W.Frag)(neg:Bool):R2:=λx y H Q=>∃ p xs,y=.ref p/\(SqL K H p xs\/SqT K H p xs)/\pX x=true/\xs.all pX=true/\Q (.bl (if neg then !inV x xs else inV x xs)) H
def aQ1:OpR X (compareOp .In) (rIn X.K false):=by
 intro pins s σ H x y v u Q I rx d h;obtain⟨p,xs,rfl,a,c,fs,q⟩:=h;cases d;rcases a with a | a;obtain⟨its,r,pl,e⟩:=I.list a;refine SeqAt.in_listAt (eqU x) pl.isList (λw b=>uC rx c r fs w (by simpa using b)) ⟨.bl _,H,I,rfl,?_⟩;rw[show its.toArray.any (eqU x)=its.any (eqU x) by simp,yW r fs];exact q;obtain⟨its,r,pl,e⟩:=I.tuple a;refine SeqAt.in_tupleAt (eqU x) pl (λw b=>uC rx c r fs w (by simpa using b)) ⟨.bl _,H,I,rfl,?_⟩;rw[show its.toArray.any (eqU x)=its.any (eqU x) by simp,yW r fs];exact q
def nY:iH X (.builtin "len") (λxs H Q=>∃ p ys,xs=[.ref p]/\(SqL X.K H p ys\/SqT X.K H p ys)/\Q (.int ys.length) H):=by
 intro pins s σ H xs us Q I r h;obtain⟨p,ys,rfl,b,q⟩:=h;obtain⟨u,rfl,rx⟩:=yU r;cases rx;have hn:=nW;rcases b with b | b;obtain⟨its,c,pl,d⟩:=I.list b;have a:=c.length;exact Calls.call_len_list pl.isList (by simp only[List.size_toArray]<;>lia) ⟨.int ys.length,H,I.tok _,⟨s.toks+1,by rw[a9a,a]⟩,q⟩;obtain⟨its,c,pl,d⟩:=I.tuple b;have a:=c.length;exact len_tuple pl (by simp only[List.size_toArray]<;>lia) ⟨.int ys.length,H,I.tok _,⟨s.toks+1,by rw[a9a,a]⟩,q⟩
def wD:iH X (.builtin "len") (λxs H Q=>∃ z,xs=[.str z]/\z.length<=sizeLine/\Q (.int z.length) H):=by
 intro pins s σ H xs us Q I r h;obtain⟨z,rfl,a,q⟩:=h;obtain⟨u,rfl,t,rfl⟩:=yU r;have hn:=nW;exact len_str (by lia) ⟨.int z.length,H,I.tok _,⟨_,rfl⟩,q⟩
def nZ:iH X (.type "list") (λxs H Q=>∃ p ys,xs=[.ref p]/\(SqL X.K H p ys\/SqT X.K H p ys)/\∀ l,H l=none->Q (.ref l) (upd H l (.lst ys))):=by
 intro pins s σ H xs us Q I r h;obtain⟨p,ys,rfl,d,q⟩:=h;obtain⟨u,rfl,rx⟩:=yU r;cases rx;have fin:∀ (its:List Value),bG ys its->ys.length<=sizeLine->∀ (h':Heap) (a:Nat),(∀ b o',s.heap.get? b=some o'->h'.get? b=some o') ->
   h'.get? s.heap.objs.size=some {cls:=.type "list",dict:=none,data:=.seq its.toArray a,slots:=#[]}->EP X pins σ Q (.ref s.heap.objs.size) {s with heap:=h'}:=λits c f h' a kp e=>
  ⟨.ref s.heap.objs.size,_,I.laid (t':=s.toks) kp (a6a _) (show cN X.prog X.w _ h' _ (.lst ys)from⟨f,its,a,c,e⟩),rfl,q _ (I.hok.fresh (a6a _))⟩
 rcases d with d | d;obtain⟨its,c,pl,f⟩:=I.list d;have g:=c.length;obtain⟨o,i,j,n,hd⟩:=pl.isList;exact call_list_seq p (.inl rfl) i j hd (λh' a kp e=>fin its c f h' a kp e) (by simp only[List.size_toArray]<;>lia);obtain⟨its,c,pl,f⟩:=I.tuple d;have g:=c.length;obtain⟨o,i,j,n,hd⟩:=pl;exact call_list_seq p (.inr rfl) i j hd (λh' a kp e=>fin its c f h' a kp e) (by simp only[List.size_toArray]<;>lia)
def kZ:iH X (.type "tuple") (λxs H Q=>∃ p ys,xs=[.ref p]/\((SqL X.K H p ys/\∀ l,H l=none->Q (.ref l) (upd H l (.tup ys)))\/(SqT X.K H p ys/\Q (.ref p) H))):=by
 intro pins s σ H xs us Q I r h;obtain⟨p,ys,rfl,h⟩:=h;obtain⟨u,rfl,rx⟩:=yU r;cases rx;rcases h with⟨a,q⟩ | ⟨a,q⟩
 ·obtain⟨its,c,pl,d⟩:=I.list a;have f:=c.length;refine call_tuple_list pl.isList (λh' kp=>?_) (by simp only[List.size_toArray]<;>lia);have g:Inv X pins σ H {s with heap:=h'}:=I.kept (t':=s.toks) kp;have i:Inv X pins σ (upd H h'.objs.size (.tup ys)) {s with heap:=h'.push {cls:=.type "tuple",data:=.seq its.toArray}}:=
   g.laid (t':=s.toks) (λb o e=>a2a _ e) (a6a _) (show cN X.prog X.w _ _ _ (.tup ys)from⟨d,its,c,IsTup.new _ _,⟨_,a2b _ rfl,rfl⟩⟩)
  exact⟨.ref h'.objs.size,_,i,rfl,q _ (g.hok.fresh (a6a _))⟩
 ·obtain⟨its,c,pl,d⟩:=I.tuple a;exact call_tuple_same pl ⟨.ref p,H,I,rfl,q⟩
def tyV(K:W.Frag)(T:String)(x:V)(H:Hp):Prop:=match x with
 | .str _=>T="str"
 | .int _=>T="int"
 | .ref p=>(T="list"/\∃ xs,SqL K H p xs)\/(T="tuple"/\∃ o,K.lookup p=some o/\o.cls=.type "tuple"/\o.dict=none) \/
   (T="dict"/\((∃ kvs,H p=some (.dK kvs))\/∃ kvs,H p=some (.dT kvs)))\/(T="set"/\∃ S n,H p=some (.set S n))
 | _=>False
def bR4{pins:List (Addr×Obj)}{σ:St}{H:Hp}{s:Shared}{T:String}{x:V}{v:Value}(I:Inv X pins σ H s)(r:cY x v)(ty:tyV X.K T x H) :
  s.TypeIs v T/\∀ a,v=.ref a->∃ ob,s.heap.get? a=some ob/\ob.dict=none:=by
 cases x with
 | str z=>
   obtain⟨t,rfl⟩:=r;cases (show T="str" from ty);exact⟨typeIs_str s z t,λ_ e=>nomatch e⟩
 | int i=>
   obtain⟨t,rfl⟩:=r;cases (show T="int" from ty);exact⟨typeIs_int s i t,λ_ e=>nomatch e⟩
 | ref p=>
   cases r;rcases ty with⟨rfl,xs,f⟩ | ⟨rfl,o,b,g,hd⟩ | ⟨rfl,b⟩ | ⟨rfl,S,n,b⟩;obtain⟨its,_,pl,_⟩:=I.list f;refine⟨pl.isList.typeIs,λa e=>?_⟩;cases e;obtain⟨o,n,e,c,hd,_⟩:=pl;exact⟨o,e,hd⟩;refine⟨⟨o,I.kIn p o b,g⟩,λa e=>?_⟩;cases e;exact⟨o,I.kIn _ o b,hd⟩
   ·have z:∃ o,s.heap.get? p=some o/\o.ExactDict:=by
     rcases b with⟨kvs,b⟩ | ⟨kvs,b⟩;obtain⟨_,_,_,_,o,_,_,e,ex,_⟩:=I.hok p _ b;exact⟨o,e,ex⟩;obtain⟨_,_,_,_,o,_,_,e,ex,_⟩:=I.hok p _ b;exact⟨o,e,ex⟩
    obtain⟨o,e,ex⟩:=z;refine⟨⟨o,e,ex.1⟩,λa d=>?_⟩;cases d;exact⟨o,e,ex.2.1⟩
   ·obtain⟨o,_,_,_,e,ex,_⟩:=I.hok p _ b;refine⟨⟨o,e,ex.1⟩,λa d=>?_⟩;cases d;exact⟨o,e,ex.2.1⟩
 | _=>exact False.elim ty
def dH7(K:W.Frag)(T:String)(r:V->List V->Hp->VK->Prop)(to:TE):TE:=λσ H Q=>to σ H λx a=>tyV K T x a/\r x [] a Q
def tBM(K:W.Frag)(T:String)(r:V->List V->Hp->VK->Prop)(to:TE)(t:TA):TE:=λσ H Q=>to σ H λx a=>tyV K T x a/\t σ a λxs b=>r x xs b Q
variable{o e:Expr}{es:List Expr}{to:TE}{t:TA}{name:Str}{apos cpos:Pos}{T id:String}{r:V->List V->Hp->VK->Prop}
def cQ6(f:PlainAttrs T)(slot:Slot T name id)(c:typeOf (.builtin id)=pure (.type "method_descriptor"))(hm:MtR X id r)(g:PE X o to)
  (a:attributeBase o name X.env (eval o X.env)=eval o X.env:=by rfl) (b:(apos.endLine==cpos.line)=true:=by rfl):PE X (.Call (.Attribute o name apos) [] [] cpos) (dH7 X.K T r to):=by
 intro pins s σ H Q I h;refine wpAny_Call_method0_late a b (thn (g pins s σ H _ I h) λv s1 Z0=>?_);obtain⟨x,i,d,e,ty,j⟩:=Z0;obtain⟨k,l⟩:=bR4 d e ty;exact⟨T,id,f,slot,c,k,l,Calls.callWith_builtin rfl (PySem.evalArgs_none (hm pins s1 σ i x [] v [] Q d e .nil j))⟩
def dH8(k:PlainAttrs T)(slot:Slot T name id)(f:typeOf (.builtin id)=pure (.type "method_descriptor"))(hm:MtR X id r)(l:PE X o to)(ha:PA X (e::es) t)
  (b:attributeBase o name X.env (eval o X.env)=eval o X.env:=by rfl)
  (d:((backTo cpos (starEach (e::es) X.env)).all (λx=>!x.1)&&(backToKw cpos (keywordEach [] X.env)).all (λx=>x.1.isSome)
   && decide ((e::es).length+([]:List Keyword).length+(if([]:List Keyword).isEmpty then 0 else 1) < 30))=true:=by rfl)
  (c:(apos.endLine==cpos.line)=true:=by rfl) (hs:starEach (e::es) X.env=(false,eval e X.env)::starEach es X.env:=by rfl) (a:(backTo cpos (starEach es X.env)).any (·.1)=false:=by rfl) :
  PE X (.Call (.Attribute o name apos) (e::es) [] cpos) (tBM X.K T r to t):=by
 intro pins s σ H Q I h;refine wpAny_Call_method_late b d c rfl (thn (l pins s σ H _ I h) λv s1 Z0=>?_);obtain⟨x,m,g,i,ty,n⟩:=Z0;obtain⟨p,q⟩:=bR4 g i ty;refine⟨T,id,k,slot,f,p,q,?_⟩;have j:=ha cpos pins s1 σ m _ g n;rw[hs]at j ⊢;refine Calls.callWith_builtin (by show(false||(backTo cpos (starEach es X.env)).any (·.1))=false;rw[a]<;>rfl) (Calls.evalArgs_plain ?_);exact thn j λus s2 ⟨vs,u,w,y,z⟩=>hm pins s2 σ u x vs v us Q w i y z
end
def MtM(X:Cx)(id:String)(r:V->List V->Hp->VK->Prop):Prop:=
 ∀ (pins:List (Addr×Obj)) (s:Shared) (σ:St) (H:Hp) (x:V) (xs:List V) (v:Value) (us:List Value) (Q:VK),Inv X pins σ H s->cY x v->bG xs us->r x xs H Q ->
   wpAny (model X.prog X.w) X.A (call (.builtin id) (v::us)) (EP X pins σ Q) X.xe s
def bG.one:∀ {x:V} {us:List Value},bG [x] us->∃ u,us=[u]/\cY x u:=by intro x us h;cases h with|cons r t=>cases t;exact⟨_,rfl,r⟩
def bG.two:∀ {x y:V} {us:List Value},bG [x,y] us->∃ u v,us=[u,v]/\cY x u/\cY y v:=by intro x y us h;cases h with|cons r t=>cases t with|cons q z=>cases z;exact⟨_,_,rfl,r,q⟩
def bG.zero:∀ {us:List Value},bG [] us->us=[]
 | _,.nil=>rfl
theorem bG.dropLast{xs:List V}{us:List Value}(h:bG xs us):bG xs.dropLast us.dropLast:=by
 induction h with
 | nil=>exact .nil
 | cons r t a=>
   cases t with
   | nil=>exact .nil
   | cons q b=>exact .cons r a
theorem bG.eraseIdx:∀ {xs:List V} {us:List Value} (i:Nat),bG xs us->bG (xs.eraseIdx i) (us.eraseIdx i)
 | _,_,_,.nil=>.nil
 | _,_,0,.cons _ t=>t
 | _,_,i+1,.cons r t=>.cons r (bG.eraseIdx i t)
def aJ5{c:Type}(l:List c):l.eraseIdx (l.length-1)=l.dropLast:=by
 induction l with
 | nil=>rfl
 | cons a r d=>
   cases r with
   | nil=>rfl
   | cons b r=>
     have e:(a::b::r).length-1=((b::r).length-1)+1:=by
      have f:(a::b::r).length=r.length+2:=rfl;have g:(b::r).length=r.length+1:=rfl;lia
     rw[e,List.eraseIdx_cons_succ,d]
     all_goals rfl
theorem lA{a:Type}:∀ (l:List a) (i:Nat),(l.eraseIdx i).length<=l.length
 | [],_=>a6a _
 | _::_,0=>Nat.le_succ _
 | _::r,i+1=>Nat.succ_le_succ (lA r i)
section
variable{X:Cx}{pins:List (Addr×Obj)}{σ:St}{H:Hp}{s:Shared}{l b:Addr}{xs ys zs:List V}
def Inv.lset{its its':List Value}{n:Nat}{f:Array Value->Array Value}{t':Nat}(I:Inv X pins σ H s)(a:H l=some (.lst xs))
  (e:s.heap.get? l=some {cls:=.type "list",data:=.seq its.toArray n}) (b:f its.toArray=its'.toArray) (c:bG ys its') (hz:ys.length<=sizeLine) :
  Inv X pins σ (upd H l (.lst ys)) {s with heap:=s.heap.update l (Obj.mapSeq f),toks:=t'}:=by
 have q:=PySem.IsL.update e f;rw[b]at q;refine I.write (x:=l) (e:=l) (by rw[a];exact trivial) (.inl rfl) (λh u d g=>(a4c s.heap (Obj.mapSeq f) (a3d d)).trans g) ⟨_,q⟩ ?_;exact⟨hz,its',_,c,q⟩
def Inv.lnew{its:List Value}{t':Nat}(I:Inv X pins σ H s)(a:bG ys its)(hz:ys.length<=sizeLine) :
  Inv X pins σ (upd H s.heap.objs.size (.lst ys)) {s with heap:=s.heap.push {cls:=.type "list",data:=.seq its.toArray},toks:=t'}:=
 I.laid (λ_ _ q=>a2a _ q) (a6a _) ⟨hz,its,0,a,a2b _ rfl⟩
theorem Inv.fresh(I:Inv X pins σ H s):H s.heap.objs.size=none:=I.hok.fresh (a6a _)
def Inv.lstM(I:Inv X pins σ H s)(a:H l=some (.lst xs)):xs.length<=sizeLine/\∃ (its:List Value) (n:Nat),bG xs its/\xs.length=its.length/\s.heap.get? l=some {cls:=.type "list",data:=.seq its.toArray n}:=by
 obtain⟨z,its,n,r,e⟩:=I.hok l _ a;exact⟨z,its,n,r,r.length,e⟩
def aC8{n:Nat}(h:n<=sizeLine):Builtin.List.listTooLong n=false:=by
 unfold Builtin.List.listTooLong;exact a3r (by lia)
end
section
variable{X:Cx}
def aQ2:V->List V->Hp->VK->Prop:=λx vs H Q=>∃ l xs y,x=.ref l/\vs=[y]/\H l=some (.lst xs)/\xs.length < sizeLine/\Q .non (upd H l (.lst (xs++[y])))
def eY:MtM X "list.append" aQ2:=by
 intro pins s σ H x vs v us Q I rx b h;obtain⟨l,xs,y,rfl,rfl,a,d,q⟩:=h;cases rx;obtain⟨u,rfl,c⟩:=b.one;obtain⟨z,its,n,r,f,e⟩:=I.lstM a;refine a3K F.slot_list_append ⟨_,e,rfl⟩ F.entry_list_append (F.args_list_append_2 _ _) (PySem.list_append l its.toArray n u (by rw[a9a];lia)) ⟨e,?_⟩;refine⟨.non,_,I.lset (its':=its++[u]) a e (by simp) (r.append (.cons c .nil)) ?_,rfl,q⟩;rw[a6b,List.length_singleton];lia
def bZ2:V->List V->Hp->VK->Prop:=λx vs H Q=>∃ l b xs zs,x=.ref l/\vs=[.ref b]/\H l=some (.lst xs)/\H b=some (.lst zs)/\xs.length+zs.length<=sizeLine/\Q .non (upd H l (.lst (xs++zs)))
def cQ7:MtM X "list.extend" bZ2:=by
 intro pins s σ H x vs v us Q I rx g h;obtain⟨l,b,xs,p,rfl,rfl,f,i,t,q⟩:=h;cases rx;obtain⟨u,rfl,j⟩:=g.one;cases j;obtain⟨z,its,n,r,w,e⟩:=I.lstM f;obtain⟨y,a,n2,k,m,o⟩:=I.lstM i;have d:its.toArray.size+a.toArray.size<=sizeLine:=by rw[a9a,a9a];lia
 have c:¬ (!its.toArray.isEmpty&&Builtin.List.listTooLong (its.toArray.size+a.toArray.size))=true:=by
  rw[aC8 d,a4k];exact a1b
 refine a3K F.slot_list_extend ⟨_,e,rfl⟩ F.entry_list_extend (F.args_list_extend_2 _ _)
  (AutoSeq1.list_extend_list_list_0 l its.toArray n b a.toArray n2 c (by rw[a9a];lia) (by lia)) ⟨e,o,?_⟩
 refine⟨.non,_,I.lset (its':=its++a) f e (by simp) (r.append k) ?_,rfl,q⟩;rw[a6b];lia
def dP6:V->List V->Hp->VK->Prop:=λx vs H Q=>∃ l xs y,x=.ref l/\vs=[]/\H l=some (.lst xs)/\xs[xs.length-1]? = some y/\Q y (upd H l (.lst xs.dropLast))
def cQ8:MtM X "list.pop" dP6:=by
 intro pins s σ H x vs v us Q I rx d h;obtain⟨l,xs,y,rfl,rfl,c,f,q⟩:=h;cases rx;have a:=d.zero;subst a;obtain⟨z,its,n,r,g,e⟩:=I.lstM c;obtain⟨u,i,j⟩:=r.get f;have b:its.toArray[its.toArray.size-1]? = some u:=by
  show its.toArray[its.length-1]? = some u;rw[← a6c,← g];exact i
 refine a3K F.slot_list_pop ⟨_,e,rfl⟩ F.entry_list_pop (F.args_list_pop_1 _) (MeetsSeq.list_pop_last l its.toArray n u b (by rw[a9a];lia)) ⟨e,?_⟩;refine⟨y,_,I.lset (its':=its.dropLast) c e ?_ r.dropLast ?_,j,q⟩;show its.toArray.eraseIdxIfInBounds (its.toArray.size-1)=its.dropLast.toArray;rw[a9a,List.eraseIdxIfInBounds_toArray,aJ5];rw[List.length_dropLast];lia
def cQ9:V->List V->Hp->VK->Prop:=λx vs H Q=>∃ l xs i k y,x=.ref l/\vs=[.int i]/\H l=some (.lst xs) /\ -(2 ^ 63)<=i/\i < 2 ^ 63/\seqIndex? i xs.length=some k/\xs[k]? = some y/\Q y (upd H l (.lst (xs.eraseIdx k)))
def bF0:MtM X "list.pop" cQ9:=by
 intro pins s σ H x vs v us Q I rx c h;obtain⟨l,xs,i,k,y,rfl,rfl,b,d,f,g,j,q⟩:=h;cases rx;obtain⟨u,rfl,m⟩:=c.one;obtain⟨t,rfl⟩:=m;obtain⟨z,its,n,r,o,e⟩:=I.lstM b;obtain⟨w,p,a⟩:=r.get j;refine a3K F.slot_list_pop ⟨_,e,rfl⟩ F.entry_list_pop (F.args_list_pop_2 _ _)
  (MeetsSeq.list_pop_at l its.toArray n i t k w (fitsIndex_both d f) (by rw[a9a,← o];exact g) (by rw[← a6c];exact p) (by rw[a9a];lia)) ⟨e,?_⟩
 refine⟨y,_,I.lset (its':=its.eraseIdx k) b e ?_ (r.eraseIdx k) ?_,a,q⟩;show its.toArray.eraseIdxIfInBounds k=(its.eraseIdx k).toArray;rw[List.eraseIdxIfInBounds_toArray];have:=lA xs k;lia
def dP7:R2:=λx y H Q=>∃ l b xs zs,x=.ref l/\y=.ref b/\H l=some (.lst xs)/\H b=some (.lst zs)/\xs.length+zs.length<=sizeLine/\∀ p,H p=none->Q (.ref p) (upd H p (.lst (xs++zs)))
def cR0:OpR X (binaryOp .Add) dP7:=by
 intro pins s σ H x y v u Q I rx c h;obtain⟨l,b,xs,m,rfl,rfl,d,f,o,q⟩:=h;cases rx;cases c;obtain⟨z,its,n,r,p,e⟩:=I.lstM d;obtain⟨t,a,n2,g,i,j⟩:=I.lstM f;refine PySem.P.add_list e j ?_ (by rw[a9a,a9a];lia);have k:its.toArray++a.toArray=(its++a).toArray:=by simp
 rw[k];exact⟨.ref _,_,I.lnew (t':=s.toks) (r.append g) (by rw[a6b];lia),rfl,q _ I.fresh⟩
end
section
variable{prog:Program}{w:World}{A:Around}{E:Value->Shared->Prop}{s:Shared}
set_option maxRecDepth 100000 in
end
section
variable{X:Cx}
end
end L2
namespace Att
open PySem PySem.W PySem.Calls PyProof.Rows
def pY{P:Params}{h:Heap}:∀ (ns:List Int) (vs:List Value),WellAll P h vs (ns.map WData.int)->IntsAre vs ns:=by
 intro ns
 induction ns with
 | nil=>
   intro vs w;rw[List.map_nil]at w;cases w;exact .nil
 | cons n ns c=>
   intro vs w;rw[a7e]at w;cases w with
   | cons a b=>
     cases a;exact .cons _ _ (c _ b)
def aQ3{l:OpenLaw}{n:Nat}(hn:l.most=some n){P:Params}{h:Heap}{args:List WData}{vals:List Value}
  (b:l.row.toRowW.claim.pre args=true) (i:WellAll P h vals args) :
  ∃ a vs ns,vals=[Value.ref a]/\args=[WData.list (ns.map WData.int)]/\h.get? a=some {cls:=.type "list",data:=.seq vs.toArray}/\IntsAre vs ns/\ns.length<=n:=by
 have j:WShape.hasAll [] args [.list .int]=true:=(pre_splitW b).1;have k:l.pre.holds [] {args:=args}=true:=(pre_splitW b).2;obtain⟨d,r,rfl,m,o⟩:=hasAllW_cons j;obtain rfl:=hasAllW_nil o;obtain⟨xs,rfl,p⟩:=hasW_list m;obtain⟨ns,rfl⟩:=items_int p;have c:ns.length<=n:=by
  unfold OpenLaw.pre at k;have f:(WTm.not (.lt (.lit (.int (n:Int))) (.len (.arg 0)))).holds [] {args:=[.list (ns.map .int)]}=true:=by
   have f:=(holds_andW k).1;rw[hn]at f;exact f
  have g:=condW_of f (w_not (w_lt w_lit (w_len_list (w_arg rfl))));rw[a1a]at g;refine a8j λq=>?_;have s:(n:Int) < ((ns.length:Nat):Int):=by lia
  first
   | (rw[a3v s]at g;exact absurd g (by decide))
   | (simp at g;lia)
 cases i with
 | cons t u=>
   cases u;cases t with
   | list v e=>exact⟨_,_,ns,rfl,rfl,v,pY ns _ e,c⟩
def aQ4(l:OpenLaw)(args:List WData):l.row.toRowW.claim.post args (.bool true) args=true:=
 postW_of (r:=l.row.toRowW) (X:=(true==true))
  (show WShape.has [] (.bool true) .bool=true by first | rfl | decide | simp[WShape.has,WShape.arms,WShape.armsAll])
  (show(WTm.eq .res (.lit (.bool true))).value [] {args:=args,res:=some (.bool true),after:=args}=some (.bool (true==true))from w_eq_bool (w_res rfl) w_lit) rfl
def attach_call{l:OpenLaw}{n:Nat}{q:Program}{c:List Str}{t:(Str->Option Value)->Heap->Prop}{u:World->Heap->Prop}{d:DefRec}
  (hn:l.most=some n) (k:d.params.defaults=[])
  (call:∀ (w:World) (s₀ b:Shared) (mg mb:Str->Option Value) (g:Addr) (o:Obj) (pm cd doc:Value) (a:Addr) (vs:List Value) (ns:List Int),
   Ground q c [] t w s₀ mg mb b.heap->u w b.heap ->
   b.heap.get? g=some o->o.data=.func (docDef d.name d.params d.body d.scope pm cd doc)->b.heap.CodeRec cd d.name->mg d.name=some (.ref g) ->
   b.heap.get? a=some {cls:=.type "list",data:=.seq vs.toArray}->IntsAre vs ns->ns.length<=n->b.gens=#[] ->
   codeAny (model l.prog w) callerA (.call (.ref g) ⟨[.ref a],[]⟩) (λr s'=>r=.ok (.ret (.bool true))/\OldK b.heap s'.heap/\s'.os=b.os/\AllBare s'.gens) b) :
  WalkO q c t u l.row.toRowW d [] (λf vs=>PySem.call f vs):=by
 intro w s₀ b mg mb G Y g o pm cd doc x kV y hd m hD p z args vals as h v A s B;obtain rfl:x=.none:=Dflts.none hD k;obtain rfl:kV=.none:=Dflts.noKw hD;obtain⟨a,vs,ns,rfl,rfl,i,e,j⟩:=aQ3 hn h s;refine enter_call (a3U (call w s₀ b mg mb g o pm cd doc a vs ns G Y y (fd_plain hd) m p i e j z) λr s' C=>?_);obtain⟨rfl,D,E,F⟩:=C;exact⟨.inl ⟨.bool true,.bool true,[],rfl,λ_=>rfl,.bool true,aQ4 l _,λ_=>⟨List.Pairwise.nil,λ_ hm=>(nomatch hm)⟩⟩,D,E,F⟩
section
variable{prog:Program}{w:World}{A:Around}{E:Value->Shared->Prop}{s:Shared}{K:Frag}
end
end Att
namespace L2
open PySem PySem.Spec PyProof.Rows
theorem wE:∀ {vs:List Value} {ns:List Int},IntsAre vs ns->bG (ns.map V.int) vs
 | _,_,.nil=>.nil
 | _,_,.cons n t h=>.cons ⟨t,rfl⟩ (wE h)
def cR1(H:Hp):Prop:=∀ b,H b=none\/∃ o xs,H b=some (.frz o (.lst xs))
def bF1{P:Program}{w:World}{K:W.Frag}{mg mb:Str->Option Value}{CX:CXT}{k:Nat}{I a:Addr}{fd:FuncData}{x:Str}{sp:Sp}{c:Shared}{vs:List Value}{ns:List Int}
  (S:K.In c.heap) (y:c.heap.Ns mainGlobals mg) (g:c.heap.Ns builtinsNs mb) (J:∀ x:Str,x≠"__name__"->mb x=bootBuiltins x) (A:c.heap.NoLimit) (hg:c.gens=#[])
  (ha:c.heap.get? a=some {cls:=.type "list",data:=.seq vs.toArray}) (hi:IntsAre vs ns) (T:ns.length<=sizeLine) (hr:Room k callerA)
  (F:∀ base:Heap,K.In base->base.Ns mainGlobals mg->FnOk P w K mg base CX k I fd [x] sp) (p:∀ (s:Shared) (u:Value),BindsTo s fd ⟨[u],[]⟩ [(x,u)])
  (L:∀ H:Hp,cR1 H->SqL K H a (ns.map V.int)->sp [.ref a] H (λv _=>v=.bl true) λ_ _ _=>False)
  (M:∀ H e s',CX [] H c (λ_ _ _=>False) e s'->False) :
  codeAny (model P w) callerA (.call (.ref I) ⟨[.ref a],[]⟩) (λr s'=>r=.ok (.ret (.bool true))/\OldK c.heap s'.heap/\s'.os=c.os/\AllBare s'.gens) c:=by
 have U:=wE hi;have B:=hi.length
 -- from an abstract heap in N nothing but C i may be tracked
 have l:∀ H:Hp,cR1 H->SqL K H a (ns.map V.int)->HOk P w H c.heap->(∀ b,H b≠none->b=a)->(H a≠none->K.lookup a=none) ->
   codeAny (model P w) callerA (.call (.ref I) ⟨[.ref a],[]⟩) (λr s'=>r=.ok (.ret (.bool true))/\OldK c.heap s'.heap/\s'.os=c.os/\AllBare s'.gens) c:=by
  intro H X hS hok Y hK;have f:∀ {b:Addr} {o:Obj},c.heap.get? b=some o->H b=none->(bE0 c.heap H).get? b=some o:=λe n=>bE1 e n;have O:∀ {b:Addr} {o:Obj} {es:Array DictEntry} {ep:Nat},c.heap.get? b=some o->o.data=.dict es ep->H b=none:=λ{b o es ep} e d=>by
   cases q:H b with
   | none=>rfl
   | some u=>
     have Q:b=a:=Y b (by rw[q];simp);subst Q;rw[ha]at e;cases e;have d':Data.seq vs.toArray _=Data.dict es ep:=d;cases d'
  have j:∀ {b:Addr} {m:Str->Option Value},c.heap.Ns b m->(bE0 c.heap H).Ns b m:=λ{b m} ⟨o,es,ep,e,d,r⟩=>⟨o,es,ep,f e (O e d),d,r⟩;have D:K.In (bE0 c.heap H):=λb o e=>f (S b o e) (by
   cases q:H b with
   | none=>rfl
   | some u=>
     have Q:b=a:=Y b (by rw[q];simp);subst Q;rw[hK (by rw[q];simp)]at e;cases e)
  have hM:Mod K mg (bE0 c.heap H):=⟨D,j y,⟨mb,j g,J⟩,let ⟨mc,h1,h2⟩:=A;⟨mc,j h1,h2⟩⟩;have e0:Env0 P w K mg (bE0 c.heap H) callerA [] c H:=⟨rfl,hM,λb o e=>bY0 e,Nat.le_of_eq (aN7 _ _),trivial,λb g=>absurd (show b∈([]:List Addr)from g) (by simp),hok,.of_eq hg⟩;refine a3U ((F _ D (j y)).run callerA [] c H ⟨[.ref a],[]⟩ [.ref a] [.ref a] _ _ hr e0 (p c (.ref a)) (.cons rfl .nil) (L H X hS)) λr s' h=>?_;cases r with
  | error e=>exact(M H e s' h).elim
  | ok fl=>
    cases fl with
    | next=>exact False.elim h
    | brk=>exact False.elim h
    | cont=>exact False.elim h
    | ret u=>
      obtain⟨v,H',os,bare,un,E,r',q⟩:=h;have q':v=.bl true:=q;subst q';obtain rfl:u=Value.bool true:=r';refine⟨rfl,OldK.of_keep λb o e=>?_,os,bare⟩;cases q:H b with
      | none=>exact un.keep b o e q (by intro z;exact absurd (show b∈([]:List Addr)from z) (by simp)) (by simp)
      | some u=>
        rcases X b with z | ⟨ob,xs,z⟩;rw[q]at z;cases z;have z2:=un.frzs b ob _ z;obtain⟨Z,_⟩:=hok b _ z;obtain⟨e2,_⟩:=E b _ z2;rw[e]at Z;cases Z;exact e2
 cases R:K.lookup a with
 | some o=>
   -- C i is one of C t own objects
   have e:=S a o R;rw[ha]at e;cases e;refine l (λ_=>none) (λ_=>.inl rfl) (.inr ⟨_,vs.toArray,_,R,rfl,rfl,rfl,by rw[a9a,B];exact T,by simpa using U⟩) (λb u z=>by have G:(none:Option HO)=some u:=z;cases G) (λb z=>absurd rfl z) λz=>absurd rfl z
 | none=>
   refine l (λb=>if b=a then some (.frz {cls:=.type "list",data:=.seq vs.toArray} (.lst (ns.map V.int)))else none) (λb=>?_) (.inl (.inr ⟨{cls:=.type "list",data:=.seq vs.toArray},a3p rfl⟩)) (λb u z=>?_) (λb z=>?_) λ_=>R;by_cases g:b=a;exact .inr ⟨_,_,a3p g⟩;exact .inl (a3q g);by_cases g:b=a;have G:=(a3p g).symm.trans z;cases G;subst g;exact⟨ha,by rw[a1a];exact T,vs,_,U,ha⟩;have G:=(a3q g).symm.trans z;cases G;by_cases g:b=a;exact g;exact absurd (a3q g) z
def bZ3{l:W.OpenLaw}{n k:Nat}{q:Program}{i:List Str}{E:(Str->Option Value)->Heap->Prop}{C:World->Heap->Prop}{d:DefRec}{K:Params->W.Frag}{CX:World->CXT}{sp:World->Sp}{x:Str}
  (hn:l.most=some n) (t:n<=sizeLine) (y:d.params.defaults=[]) (I:Room k callerA)
  (J:∀ (w:World) (h:Heap),C w h->(K w.params).In h)
  (F:∀ (w:World) (mg:Str->Option Value) (r:Addr) (h:Heap),(K w.params).In h->h.Ns mainGlobals mg->mg d.name=some (.ref r) ->
   ∃ fd:FuncData,(∀ (s:Shared) (u:Value),BindsTo s fd ⟨[u],[]⟩ [(x,u)]) /\
     ∀ base:Heap,(K w.params).In base->base.Ns mainGlobals mg->FnOk l.prog w (K w.params) mg base (CX w) k r fd [x] (sp w))
  (z:∀ (w:World) (H:Hp) (a:Addr) (ns:List Int),ns.length<=n->cR1 H->SqL (K w.params) H a (ns.map V.int)->sp w [.ref a] H (λv _=>v=.bl true) λ_ _ _=>False)
  (A:∀ (w:World) (H:Hp) (s:Shared) (e:Value) (s':Shared),CX w [] H s (λ_ _ _=>False) e s'->False) :
  W.WalkO q i E C l.row.toRowW d [] (λf vs=>PySem.call f vs):=by
 refine Att.attach_call hn y λw s₀ m mg mb r o pm cd doc a vs ns G Y R hd L B p j c M=>?_;have D:=J w _ Y;obtain⟨fd,N,O⟩:=F w mg r _ D G.T.g B;exact bF1 D G.T.g G.T.b G.T.builtins G.T.nolimit M p j (a8b c t) I O N (λH P Q=>z w H a ns c P Q) λH e s'=>A w H m e s'
noncomputable def yX(s:Stmt):Arguments:=match s with
 | .FunctionDef _ a _ _ _ _ _ _ _ _=>a
 | _=>{posonlyargs:=[],args:=[],vararg:=none,kwonlyargs:=[],kw_defaults:=[],kwarg:=none,defaults:=[]}
noncomputable def iI(s:Stmt):List Stmt:=match s with
 | .FunctionDef _ _ b _ _ _ _ _ _ _=>b
 | _=>[]
noncomputable def aJ(s:Stmt):Scope:=match s with
 | .FunctionDef _ _ _ _ _ _ sc _ _ _=>sc
 | _=>{kind:=.function,names:=[],isGenerator:=false,isCoroutine:=false}
abbrev CX0:CXT:=λ_ _ _ _ _ _=>False
abbrev E0:XK:=λ_ _ _=>False
def bM{X:Cx}:vX CX0 X E0:=λ_ _ _ _ _ _ _ h=>h.elim
structure Fun(K:W.Frag)(x qual:Str)(st:Stmt)(f:Addr)(fd:FuncData):Prop where
 ex:∃ (oc:Value) (od:Option Addr) (kV doc pm:Value) (an:Option Addr) (cdv ct:Value) (osl:Array (Option Value)),
  fd=W.fnOf x qual (yX st) (iI st) (aJ st) .none kV doc pm an cdv ct/\K.lookup f=some ⟨oc,od,.func fd,osl⟩/\W.codeIn K cdv qual=true
 kp:W.keepIn K (.ref f)=true
section
variable{P:Program}{w:World}{K:W.Frag}{mg:Str->Option Value}{base:Heap}
theorem Fun.ok{x qual:Str}{st:Stmt}{f:Addr}{fd:FuncData}{N ps:List Str}{k:Nat}{sp:Sp}(F:Fun K x qual st f fd)(S:FnScope N ps (aJ st))(len:∀ vs H Q E,sp vs H Q E->vs.length=ps.length)
  (a:∀ (cdv:Value) (A:Around) (outer:List Env) (s:Shared) (H:Hp) (vs:List V) (Q:VK) (E:XK),Room k (A.deeper (envOfC qual (aJ st) s.heap.objs.size f cdv))->sp vs H Q E ->
   ∃ t,PSs (yR CX0 P w K mg base N qual (aJ st) f cdv A outer s H E).nox (iI st) t/\t {nx:=λ_ H'=>Q .non H',rt:=Q} (cT N vs) H):FnOk P w K mg base CX0 (k+1) f fd ps sp:=by
 obtain⟨oc,od,kV,doc,pm,an,cdv,ct,osl,rfl,lk,b⟩:=F.ex;refine cP7 lk b S len λA outer s H vs Q E d c=>?_;obtain⟨t,h,q⟩:=a cdv A outer s H vs Q E d c;exact⟨t,h.nox,q⟩
def Fun.binds{x qual:Str}{st:Stmt}{f:Addr}{fd:FuncData}{ps:List Str}(F:Fun K x qual st f fd)
  (h:∀ (kV doc pm:Value) (an:Option Addr) (cdv ct:Value) (us:List Value),us.length=ps.length->bindArgs (W.fnOf x qual (yX st) (iI st) (aJ st) .none kV doc pm an cdv ct) ⟨us,[]⟩=pure (ps.zip us)):cZ K fd ps []:=by
 obtain⟨oc,od,kV,doc,pm,an,cdv,ct,osl,rfl,lk,a⟩:=F.ex;exact .all (h kV doc pm an cdv ct)
end
section
variable{X:Cx}
def pv(i:Nat){x:Str}{pos:Pos}(b:X.N[i]? = some x:=by rfl)(c:Vis X.env.scope x:=by first | exact Or.inl rfl | exact Or.inr (Or.inl rfl) | exact Or.inr (Or.inr rfl))(hd:(x==("__debug__":Str))=false:=by decide)
  (a:(x==("__classdict__":Str))=false:=by decide):PE X (.Name x pos) (aC4 i):=cN3 b c hd a
end
def cR2{A B:Prop}(h:B):if false=true then A else B:=by
 rw[a3q a1b];exact h
def sX{c A B:Prop}[Decidable c](a:c->A)(b:¬ c->B):if c then A else B:=by
 by_cases h:c;rw[a3p h];exact a h;rw[a3q h];exact b h
def kJ(H H':Hp):Prop:=∀ b o,H b=some o->H' b=some o
def kJ.refl(H:Hp):kJ H H:=λ_ _ h=>h
def kJ.trans{H d e:Hp}(a:kJ H d)(b:kJ d e):kJ H e:=λc o h=>b c o (a c o h)
def aJ6{scope:Scope}{env:Env}(h:∀ y∈scope.names,y.2=.free->∃ c,env.cells.lookup y.1=some c) :
  ∃ cl:List (Str×Addr),closureFor scope env=pure cl/\(∀ x c,cl.lookup x=some c->env.cells.lookup x=some c)/\∀ y∈scope.names,y.2=.free->∃ c,cl.lookup y.1=some c:=by
 have p:∀ (l:List (Str×NameKind)) (acc:List (Str×Addr)),(∀ y∈l,y.2=.free->∃ c,env.cells.lookup y.1=some c)->(∀ x c,acc.lookup x=some c->env.cells.lookup x=some c) ->
   ∃ cl:List (Str×Addr),((forIn l acc λ(x:Str×NameKind) (r:List (Str×Addr))=>if(x.2==NameKind.free)=true then do let a ← cellOf env x.1;pure (ForInStep.yield ((x.1,a)::r))else pure (ForInStep.yield r)):Sem (List (Str×Addr)))=pure cl /\
     (∀ x c,cl.lookup x=some c->env.cells.lookup x=some c)/\(∀ x c,acc.lookup x=some c->∃ d,cl.lookup x=some d)/\∀ y∈l,y.2=.free->∃ c,cl.lookup y.1=some c:=by
  intro l
  induction l with
  | nil=>intro acc _ ha;exact⟨acc,rfl,ha,λx c e=>⟨c,e⟩,λ_ b=>nomatch b⟩
  | cons y r t=>
    intro acc q ha;obtain⟨n,k⟩:=y;rw[List.forIn_cons];by_cases i:(k==NameKind.free)=true
    ·have s:k=.free:=by simpa using i
     obtain⟨c,u⟩:=q (n,k) a4a s;have v:cellOf env n=pure c:=by unfold cellOf;rw[u]
     obtain⟨cl,e,f,j,g⟩:=t ((n,c)::acc) (λy b=>q y (a8a _ b)) (λx d e=>by
      rw[a7i]at e;split at e
      ·rename_i m;have:x=n:=by simpa using m
       cases e;rw[this];exact u
      ·exact ha x d e)
     have has:∃ d,cl.lookup n=some d:=j n c (by rw[a7i];simp);refine⟨cl,?_,f,λx d e=>?_,λy b o=>?_⟩;simp only[i,if_true,v];exact e
     ·by_cases m:x=n;subst m;exact has;exact j x d (by rw[a7i];have:(x==n)=false:=by simpa using m
                                                       rw[this];exact e)
     ·rcases a7b.mp b with rfl | b;exact has;exact g y b o
    ·obtain⟨cl,e,f,j,g⟩:=t acc (λy b=>q y (a8a _ b)) ha;refine⟨cl,?_,f,j,λy b o=>?_⟩;simp only[i];exact e;rcases a7b.mp b with rfl | b;exact absurd (by simpa using o) i;exact g y b o
 obtain⟨cl,e,f,_,g⟩:=p scope.names [] h (λx c e=>nomatch e);refine⟨cl,?_,f,g⟩;unfold closureFor;simp only[bind_pure];exact e
def iJ{a:Type}{x n:Str}{v:a}{r:List (Str×a)}(h:(x==n)=true):List.lookup x ((n,v)::r)=some v:=by rw[a7i,h]
def eB{a:Type}{x n:Str}{v:a}{r:List (Str×a)}(h:(x==n)=false):List.lookup x ((n,v)::r)=List.lookup x r:=by rw[a7i,h]
def bR5{scope:Scope}{env:Env}{x:Str}(h:(relabel scope env).names.lookup x=some .cell\/(relabel scope env).names.lookup x=some .free)(d:∀ y∈scope.names,y.2≠.cell) :
  (x,NameKind.free)∈scope.names:=by
 unfold relabel at h;dsimp only at h;revert h d;generalize scope.names=l;intro h d
 induction l with
 | nil=>rcases h with h | h<;>cases h
 | cons y r i=>
   obtain⟨n,k⟩:=y;rw[a7e]at h;dsimp only at h;have c:=λh=>i h λy j=>d y (a8a _ j);have f:k≠.cell:=d (n,k) a4a;by_cases e:(k==NameKind.free&&env.scope.kind==.function&&env.kindOf n==some .cell)=true
   ·have g:k=.free:=by
     simp only[Bool.and_eq_true,beq_iff_eq]at e;exact e.1.1
    rw[a3p e]at h;cases b:x==n with
    | true=>
      have a:x=n:=by simpa using b
      subst a g;exact a4a
    | false=>
      rw[eB b]at h;exact a8a _ (c h)
   ·rw[a3q e]at h;cases b:x==n with
    | true=>
      have a:x=n:=by simpa using b
      rw[iJ b]at h;subst a;rcases h with h | h;exact absurd (a5a h) f
      ·rw[a5a h];exact a4a
    | false=>
      rw[eB b]at h;exact a8a _ (c h)
def lB{scope:Scope}{env:Env}{x:Str}(h:(relabel scope env).names.lookup x=some .cell\/(relabel scope env).names.lookup x=some .free) :
  (x,NameKind.free)∈scope.names\/scope.names.lookup x=some .cell:=by
 unfold relabel at h;dsimp only at h;revert h;generalize scope.names=l;intro h
 induction l with
 | nil=>rcases h with h | h<;>cases h
 | cons y r e=>
   obtain⟨n,k⟩:=y;rw[a7e]at h;dsimp only at h;by_cases c:(k==NameKind.free&&env.scope.kind==.function&&env.kindOf n==some .cell)=true
   ·have d:k=.free:=by
     simp only[Bool.and_eq_true,beq_iff_eq]at c;exact c.1.1
    rw[a3p c]at h;cases a:x==n with
    | true=>
      have b:x=n:=by simpa using a
      subst b d;exact .inl a4a
    | false=>
      rw[eB a]at h;rcases e h with z | z;exact .inl (a8a _ z)
      ·exact .inr (by rw[eB a];exact z)
   ·rw[a3q c]at h;cases a:x==n with
    | true=>
      have b:x=n:=by simpa using a
      rw[iJ a]at h;subst b;rcases h with h | h;exact .inr (by rw[iJ a];exact h)
      ·rw[a5a h];exact .inl a4a
    | false=>
      rw[eB a]at h;rcases e h with z | z;exact .inl (a8a _ z);exact .inr (by rw[eB a];exact z)
theorem cK:∀ (names:List (Str×NameKind)) (n:Nat) (acc:List (Str×Addr)),cellsFrom n names acc=cellsFrom n names []++acc
 | [],n,acc=>rfl
 | (x,k)::r,n,acc=>by
   unfold cellsFrom;split;rw[cK r (n+1) ((x,n)::acc),cK r (n+1) [(x,n)],List.append_assoc];rfl;exact cK r n acc
theorem gM:∀ (names:List (Str×NameKind)) (n:Nat) (x:Str) (c:Addr),(x,c)∈cellsFrom n names []->(x,NameKind.cell)∈names
 | [],n,x,c,h=>nomatch h
 | (y,k)::r,n,x,c,h=>by
   unfold cellsFrom at h;split at h
   ·rename_i b;have a:k=.cell:=by simpa using b
    rw[cK]at h;rcases a0c.mp h with z | z;exact a8a _ (gM r _ x c z);have e:=a3b.mp z;cases e;rw[a];exact a4a
   ·exact a8a _ (gM r _ x c h)
theorem dD:∀ (names:List (Str×NameKind)) (n:Nat) (x:Str),(x,NameKind.cell)∈names->∃ c,(cellsFrom n names []).lookup x=some c
 | [],n,x,h=>nomatch h
 | (y,k)::r,n,x,h=>by
   have a:∀ m,(x,NameKind.cell)∈r->∃ c,(cellsFrom m r []).lookup x=some c:=λm hm=>dD r m x hm;unfold cellsFrom;split
   ·rename_i b;rw[cK,List.lookup_append];rcases a7b.mp h with z | z
    ·cases z;cases e:(cellsFrom (n+1) r []).lookup y with
     | some c=>exact⟨c,rfl⟩
     | none=>exact⟨n,by simp⟩
    ·obtain⟨c,d⟩:=a (n+1) z;exact⟨c,by rw[d];rfl⟩
   ·rename_i b;rcases a7b.mp h with z | z;cases z;exact absurd rfl b;exact a n z
def bZ4{M:Model}{A:Around}{E:Value->Shared->Prop}{s:Shared}{scope:Scope}{globals:Addr}{cl:List (Str×Addr)}{qual:Str}{env:Env}{Q:Env->Shared->Prop}
  (c:Q (newEnv scope s.heap.objs.size globals (cellsFrom (s.heap.objs.size+1) scope.names cl) qual none .none (some env) builtinsNs) {s with heap:=pushCells (s.heap.push {cls:=.type "dict",data:=.dict #[]}) scope.names}) :
  wpAny M A (newFunctionEnv scope globals cl [] qual none .none (some env)) Q E s:=by
 simp only[newFunctionEnv,Option.isSome_some,if_true];refine a3n (wpAny_alloc ?_);refine a3n (wpAny_layCells _ (λb kind cells=>by cases a:kind==NameKind.cell<;>simp[a]) _ _ _ _ ?_);rw[show({s with heap:=s.heap.push {cls:=.type "dict",data:=.dict #[]}}:Shared).heap.objs.size=s.heap.objs.size+1 from a2h ..];refine a3n ?_;rw[List.forIn_nil];exact a3o (a3o c)
def uD{scope:Scope}{env:Env}{x:Str}(h:(relabel scope env).names.lookup x=some .local):scope.names.lookup x=some .local:=by
 unfold relabel at h;dsimp only at h;revert h;generalize scope.names=l;intro h
 induction l with
 | nil=>cases h
 | cons y r b=>
   obtain⟨n,k⟩:=y;rw[a7e]at h;dsimp only at h;by_cases c:(k==NameKind.free&&env.scope.kind==.function&&env.kindOf n==some .cell)=true
   ·rw[a3p c]at h;cases a:x==n with
    | true=>rw[iJ a]at h;cases h
    | false=>rw[eB a]at h ⊢;exact b h
   ·rw[a3q c]at h;cases a:x==n with
    | true=>rw[iJ a]at h ⊢;exact h
    | false=>rw[eB a]at h ⊢;exact b h
def Inv.adopt{X:Cx}{pins:List (Addr×Obj)}{σ:St}{H:Hp}{s:Shared}{a:Addr}{o:HO}(I:Inv X pins σ H s)(hn:H a=none)(g:X.s₀.heap.objs.size<=a)(h:a≠X.env.locals)
  (i:∀ x c,X.env.cells.lookup x=some c->c≠a) (j:∀ p∈X.pn++pins,p.1≠a) (new:cN X.prog X.w (upd H a o) s.heap a o):Inv X pins σ (upd H a o) s:=by
 have ne:∀ b u,H b=some u->b≠a:=λb u e=>aC e hn;refine⟨I.ok,I.os,I.bare,⟨I.base.keep,I.base.slot,λb ob q n k=>?_,I.base.there,λb xs q=>?_,λb ob u q=>?_,λb ps q=>?_⟩,I.loc,I.cell,?_,λx c e=>?_,λp d=>?_,λb u e=>?_,I.len⟩;rw[aD (a9c (a5b (a0b q) g))];exact I.base.free b ob q n k;have:=I.base.tups b xs q;rw[aD (ne b _ this)];exact this;have:=I.base.frzs b ob u q;rw[aD (ne b _ this)];exact this;obtain⟨m,this⟩:=I.base.tbls b ps q;exact⟨m,by rw[aD (ne b _ this)];exact this⟩;rw[aD (a3d h)];exact I.free;rw[aD (i x c e)];exact I.freeC x c e;obtain⟨e,n,r⟩:=I.pin p d;exact⟨e,by rw[aD (j p d)];exact n,r⟩;by_cases f:b=a;subst f;rw[aE]at e;cases e;exact new;rw[aD f]at e;exact(I.hok b u e).stay (λc v _ q=>q) (λc q=>by rw[aD (ne c _ q)];exact q) λc xs q=>by rw[aD (ne c _ q)];exact q
def yY{prog:Program}{w:World}{A:Around}{R:Result->Shared->Prop}{s:Shared}{elt a iter:Expr}{l:List Expr}{scope:Scope}{pos:Pos}{it acc:Value}{env:Env}(I:Nat->Shared->Prop)
  (turn:∀ n s,I n s->wpAny (model prog w) A (pyNext it) (λr e=>match r with
   | none=>R (.ok .next) e
   | some v=>wpAny (model prog w) A (letOwnedTupleGo a it v) (λ_ f=>wpAny (model prog w) A (assign a env v) (λ_ i=>
     wpAny (model prog w) A (forIn l true λc r=>if r=true then do let ok ← isTrue c env (eval c env);pure (ForInStep.yield ok)else pure (ForInStep.yield r)) (λok g=>
      if ok=true then wpAny (model prog w) A (eval elt env) (λx j=>
       wpAny (model prog w) A (call (.builtin "list.append") [acc,x]) (λ_ k=>∃ m,m < n/\I m k) (λ_ _=>False) j) (λ_ _=>False) g
      else ∃ m,m < n/\I m g) (λ_ _=>False) i) (λ_ _=>False) f) (λ_ _=>False) e) (λ_ _=>False) s)
  (n:Nat) (h:I n s) :
  codeAny (model prog w) A (.compLoop (.ListComp elt [⟨a,iter,l,0⟩] scope pos) 0 it acc env) R s:=by
 refine codeAny_loop rfl I (λn s t=>?_) n h;show wpAny _ A ((compTurn (.ListComp elt [⟨a,iter,l,0⟩] scope pos) 0 it acc env).onRaise (λx=>do noteFrame x env;theTreesLotGoes x)) _ _ s;refine wpAny_noted ?_;rw[compTurn_list];refine a3n (a3Q (a3n (a3B (turn n s t) (λr e d=>?_) λ_ _ h'=>h'.elim)));cases r with
 | none=>exact a3o d
 | some v=>
   refine a3n (a3B d (λ_ f d=>?_) λ_ _ h'=>h'.elim);refine a3n (a3B d (λ_ i o=>a3n (a3B o (λok g b=>?_) λ_ _ h'=>h'.elim)) λ_ _ h'=>h'.elim);cases ok with
   | true=>
     simp only[if_true]at b ⊢;refine a3n (a3n (a3B b (λx j p=>a3n (a3B p (λ_ k q=>a3o (a3o ⟨rfl,q⟩)) λ_ _ h'=>h'.elim)) λ_ _ h'=>h'.elim))
   | false=>
     simp only[Bool.false_eq_true,if_false]at b ⊢
     first
      | exact a3n (a3o (a3o ⟨rfl,b⟩))
      | exact a3o ⟨rfl,b⟩
noncomputable abbrev cxC(X:Cx)(scope:Scope)(cl:List (Str×Addr))(ex:List Addr)(s:Shared)(H:Hp):Cx:=
 {X with s₀:=s,H₀:=H,env:=compEnvC scope cl s.heap.objs.size X.env,outer:=X.stack,ex:=ex,fn:=λx=>scope.names.lookup x==some .cell,xe:=λ_ _=>False}
noncomputable def blank(own:List Nat)(σ:St):St:=own.foldl (λσ i=>σ.set i none) σ
theorem oA:∀ (own:List Nat) (σ:St),(blank own σ).length=σ.length
 | [],_=>rfl
 | i::r,σ=>(oA r (σ.set i none)).trans (by simp)
theorem nA:∀ (own:List Nat) (σ:St) (i:Nat) (v:V),(blank own σ)[i]? = some (some v)->i∉own/\σ[i]? = some (some v)
 | [],_,_,_,h=>⟨by simp,h⟩
 | j::r,σ,i,v,h=>by
   obtain⟨b,a⟩:=nA r (σ.set j none) i v h;by_cases e:i=j;subst e;rw[List.getElem?_set]at a;simp at a;rw[a7a (a3d e)]at a;exact⟨by simp[e,b],a⟩
def cR3(own:List Nat)(g:TG):Prop:=∀ x σ H Q,g x σ H Q->g x σ H λσ' H'=>Q σ' H'/\σ'.length=σ.length/\∀ i,i∉own->σ'[i]? = σ[i]?
def eZ{own:List Nat}{i:Nat}(h:i∈own):cR3 own (rZ i):=λx σ H Q q=>
 ⟨q,by simp,λj a=>List.getElem?_set_ne (λe:i=j=>a (by rw[← e];exact h))⟩
def bD5(X:Cx)(a:List Expr)(t:TT):Prop:=
 ∀ (pins:List (Addr×Obj)) (s:Shared) (σ:St) (H:Hp) (Q:Bool->Hp->Prop),Inv X pins σ H s->t σ H Q ->
   wpAny (model X.prog X.w) X.A (forIn a true λc r=>if r=true then do let ok ← isTrue c X.env (eval c X.env);pure (ForInStep.yield ok)else pure (ForInStep.yield r)) (TP X pins σ Q) X.xe s
def cR4:TT:=λ_ H Q=>Q true H
def pH{X:Cx}:bD5 X [] cR4:=λ_ _ _ H _ I h=>wpAny_tests_nil ⟨H,I,h⟩
def aC9{X:Cx}{c:Expr}{t:TT}(h:PT X c t):bD5 X [c] t:=λpins s σ H Q I q=>wpAny_tests_one (h pins s σ H Q I q)
structure CompScope(X:Cx)(scope:Scope)(own:List Nat):Prop where
 kind:scope.kind=.function
 cells:∀ y∈scope.names,y.2=.cell->scope.names.lookup y.1=some .cell
 names:∀ y∈scope.names,y.2=.local->scope.names.lookup y.1=some .local
 free:∀ y∈scope.names,y.2=.free->X.env.kindOf y.1=some .cell\/X.env.kindOf y.1=some .free
 own:∀ i x,X.N[i]? = some x->(scope.names.lookup x=some .local\/scope.names.lookup x=some .cell)->i∈own
 calm:X.calm=true
def bR6(own:List Nat)(d:TI)(g:TG)(e:TT)(f:TE)(σ:St)(H:Hp)(F:List V->Hp->Prop):Prop:=
 d σ H λJ h=>∃ W:Nat->Nat->List V->Hp->Prop,(∃ m,W 0 m [] h)/\∀ i m ys H,W i m ys H->ys.length<=sizeLine /\
  ((J.stop i H/\F ys H)\/(J.go i H/\∀ x H',J.yld i H x H'->g x (blank own σ) H' λa j=>e a j λb c=>
    if b=true then f a c λv k=>∃ m',m' < m/\W (i+1) m' (ys++[v]) k else ∃ m',m' < m/\W (i+1) m' ys c))
def aJ7(own:List Nat)(a:TI)(g:TG)(b:TT)(c:TE):TE:=λσ H Q=>bR6 own a g b c σ H λys H'=>∀ p,H' p=none->Q (.ref p) (upd H' p (.lst ys))
structure Stray(X:Cx)(pins:List (Addr×Obj))(H:Hp)(b:Addr):Prop where
 un:H b=none
 loc:b≠X.env.locals
 young:X.s₀.heap.objs.size<=b
 cell:∀ x c,X.env.cells.lookup x=some c->c≠b
 pin:∀ p∈X.pn++pins,p.1≠b
def Inv.stray{X:Cx}{pins:List (Addr×Obj)}{σ:St}{H H':Hp}{s:Shared}{b:Addr}(I:Inv X pins σ H s)(a:s.heap.objs.size<=b)(hn:H' b=none):Stray X pins H' b:=by
 obtain⟨c,d,g,h,e,f⟩:=I.fpOk a hn;exact⟨c,d,a8b I.sz a,e,f⟩
set_option maxHeartbeats 8000000 in
def aJ8{X:Cx}{tg iter elt:Expr}{ifs:List Expr}{scope:Scope}{pos:Pos}{own:List Nat}{g:TG}{tt:TT}{te:TE}{use:Option (Value->Sem Unit)}{Qf:Value->Shared->Prop}
  (S:CompScope X scope own) (hg:∀ cl ex s H,PG (cxC X scope cl ex s H) tg g) (hG:cR3 own g)
  (ht:∀ cl ex s H,bD5 (cxC X scope cl ex s H) ifs tt) (he:∀ cl ex s H,PE (cxC X scope cl ex s H) elt te)
  {pins:List (Addr×Obj)} {a:Shared} {σ:St} {l:Hp} {F:List V->Hp->Prop} {cl:List (Str×Addr)} {J:It} {fp:List Addr} {it D:Addr} {tn:Nat->Heap->Prop} {h₁:Heap} {mC:Str->Option Value} {tk m0:Nat} {W:Nat->Nat->List V->Hp->Prop}
  (t:Inv X pins σ l a) (T:Turn X.prog X.w X.K tg J fp it tn) (N:∀ x c,cl.lookup x=some c->(X.env.cells.lookup x=some c/\scope.names.lookup x≠some .cell)\/(a.heap.objs.size < c/\scope.names.lookup x=some .cell/\h₁.IsCell c none)) (cl2:∀ y∈scope.names,y.2=.free\/y.2=.cell->∃ c,cl.lookup y.1=some c)
  (cl3:∀ x y c,cl.lookup x=some c->cl.lookup y=some c->x=y)
  (Q:∀ b∈fp,aO1 X pins l b) (M:∀ b∈fp,b < D) (E:D < a.heap.objs.size) (G:∀ b,b∈frs X.stack->b < D) (hbase:∀ b o,X.base.get? b=some o->b < D) (h:Stray X pins l D)
  (hD3:a.heap.get? D=some {cls:=.type "list",data:=.seq ([]:List Value).toArray}) (st3:tn 0 a.heap) (R:h₁.Ns a.heap.objs.size mC) (B:∀ b o,a.heap.get? b=some o->h₁.get? b=some o)
  (w0:W 0 m0 [] l) (turn:∀ i m ys H,W i m ys H->ys.length<=sizeLine /\
  ((J.stop i H/\F ys H)\/(J.go i H/\∀ x H',J.yld i H x H'->g x (blank own σ) H' λσ2 l=>tt σ2 l λb H3=>
    if b=true then te σ2 H3 λv P=>∃ m',m' < m/\W (i+1) m' (ys++[v]) P else ∃ m',m' < m/\W (i+1) m' ys H3)))
  (fin:∀ D C ys H' s' m,Inv X pins σ (upd H' D (.lst ys)) s'->H' D=none->s'.heap.Ns C m->Stray X pins (upd H' D (.lst ys)) C->F ys H' ->
   compPost (model X.prog X.w) X.A X.xe use Qf (.ref D) C (.ok .next) s') :
  codeAny (model X.prog X.w) X.A (.compLoop (.ListComp elt [⟨tg,iter,ifs,0⟩] scope pos) 0 (.ref it) (.ref D) (compEnvC scope cl a.heap.objs.size X.env))
   (compPost (model X.prog X.w) X.A X.xe use Qf (.ref D) a.heap.objs.size) {a with heap:=h₁,toks:=tk}:=by
 have cneD:∀ x c,cl.lookup x=some c->c≠D:=λx c q=>by
  rcases N x c q with z | z;exact h.cell x c z.1;exact(a9c (a4i E z.1)).symm
 have cneF:∀ b∈fp,∀ x c,cl.lookup x=some c->c≠b:=λb f x c q=>by
  rcases N x c q with z | z;exact(Q b f).2.2.2.2.1 x c z.1;exact(a9c (a4i (a4i (M b f) E) z.1)).symm
 have okY:(cxC X scope cl (D::fp) a l).Ok:=by
  refine⟨t.ok.mod,S.kind,t.ok.glob,t.ok.blt,a6a _,cl3,λx hk=>?_,λx c hf q=>?_,t.ok.hd,t.ok.frames,.inl rfl,λb f=>?_,λb o q=>?_,?_,λb o q f=>?_,λb f U=>?_,t.stack,t.stkFree⟩;rcases lB hk with z | z;exact cl2 _ z (.inl rfl);exact cl2 _ (mem_of_lookup z) (.inr rfl)
  ·rcases N x c q with z | z
   ·have hf':scope.names.lookup x=some .cell:=by simpa using hf
    exact absurd hf' z.2
   ·exact a7g z.1
  ·constructor;show b≠a.heap.objs.size;rcases a7b.mp f with z | z;rw[z];exact a9c E;exact a9c (a4i (M b z) E);intro x c q;rcases a7b.mp f with z | z;rw[z];exact cneD x c q;exact cneF b z x c q
  ·exact t.bs b o q
  ·exact a8b t.ok.bsz t.sz
  ·rcases a7b.mp f with z | z;have:=hbase b o q;rw[z]at this;exact a0e _ this;rcases(Q b z).2.2.2.1 with y | y;exact t.ok.noex b o q y;exact a0e _ (a5b (a0b q) (a8b t.ok.bsz y))
  ·rcases a7b.mp f with z | z;have:=G b U;rw[z]at this;exact a0e _ this;rcases a7b.mp (t.stkSub b U)with y | y;exact(Q b z).2.1 y;exact(Q b z).2.2.1 y
 have IY:Inv (cxC X scope cl (D::fp) a l) pins (blank own σ) l {a with heap:=h₁,toks:=tk}:=by
  refine⟨okY,rfl,t.bare,Un.kept B,⟨_,R,λi x v e1 e2 e3=>?_⟩,λx c q=>?_,t.hok.fresh (a6a _),λx c q=>by
   rcases N x c q with z | z;exact t.freeC x c z.1;exact t.hok.fresh (a7g z.1),λp hp=>?_,t.hok.kept B,(oA own σ).trans t.len⟩
  ·obtain⟨hno,e2'⟩:=nA own σ i v e2;have hnl:¬ (relabel scope X.env).names.lookup x=some .local:=λz=>hno (S.own i x e1 (.inl (uD z)));have hnc:¬ scope.names.lookup x=some .cell:=λz=>hno (S.own i x e1 (.inr z));have hcf:(relabel scope X.env).names.lookup x=some .cell\/(relabel scope X.env).names.lookup x=some .free:=by
    rcases e3 with z | z | z;exact absurd z hnl;exact .inl z;exact .inr z
   have hmem:=(lB hcf).resolve_right hnc;have Y:=S.free _ hmem rfl;obtain⟨m,hm,hl⟩:=t.loc;obtain⟨u,r,lk⟩:=hl i x v e1 e2' (by rcases Y with z | z;exact .inr (.inl z);exact .inr (.inr z));obtain⟨c,hc⟩:=cl2 _ hmem (.inl rfl);refine⟨u,r,.inr ⟨hcf,c,hc,?_⟩⟩;rcases lk with⟨z,_⟩ | ⟨_,c',hc',ic⟩;dsimp only at Y;rw[z]at Y;rcases Y with y | y<;>cases y;have:=((N _ c hc).resolve_right λz=>hnc z.2.1).1;dsimp only at this;rw[hc']at this;cases this;obtain⟨o,ho,hd⟩:=ic;exact⟨o,B _ _ ho,hd⟩
  ·rcases N x c q with z | z;obtain⟨v,o,ho,hd⟩:=t.cell x c z.1;exact⟨v,o,B _ _ ho,hd⟩;exact⟨_,z.2.2⟩
  ·obtain⟨q,n,ne,nf,d⟩:=t.pin p hp;refine⟨B _ _ q,n,a9c (a0b q),λf=>?_,d⟩;rcases a7b.mp (t.stkSub _ f)with y | y;exact ne y;exact nf y
 have DY:D≠a.heap.objs.size:=a9c E;have statY:∀ {H':Hp},(∀ b∈fp,H' b=none)->∀ b∈fp,aO1 (cxC X scope cl (D::fp) a l) pins H' b:=λhn b f=>by
  refine⟨hn b f,?_,?_,.inl (a8a _ f),cneF b f,(Q b f).2.2.2.2.2⟩;show b≠a.heap.objs.size;exact a9c (a4i (M b f) E);intro U;rcases a7b.mp (t.stkSub b U)with y | y;exact(Q b f).2.1 y;exact(Q b f).2.2.1 y
 have hDfp:D∉fp:=λz=>a0e _ (M D z);have hDstk:D∉frs X.stack:=λz=>a0e _ (G D z);have I:∀ {H':Hp} {o:Obj},(∀ b∈fp,H' b=none)->∀ b∈fp,aO1 (cxC X scope cl (D::fp) a l) (pins++[(D,o)]) H' b:=λ{H' o} fr b f=>by
  obtain⟨a1,a2,a3,a4,a5,a6⟩:=statY fr b f;refine⟨a1,a2,a3,a4,a5,λp hp z=>?_⟩;rcases a0c.mp hp with y | y;exact a6 p (a2g _ y) z;rcases a0c.mp y with y | y;exact a6 p (a2c _ y) z;have e:p=(D,o):=a3b.mp y;rw[e]at z;have z':D=b:=z;exact hDfp (by rw[z'];exact f)
 have pin2:∀ {H':Hp} {s':Shared} {its:Array Value} {k:Nat},Inv (cxC X scope cl (D::fp) a l) pins (blank own σ) H' s'->H' D=none->s'.heap.get? D=some {cls:=.type "list",data:=.seq its k} ->
   Inv (cxC X scope cl (D::fp) a l) (pins++[(D,{cls:=.type "list",data:=.seq its k})]) (blank own σ) H' s':=λ{H' s' its k} I4 D4 o4=>I4.pins_of λp hp=>by
  rcases a0c.mp hp with z | z;exact I4.pin p (a2c _ z);have e:p=(D,{cls:=.type "list",data:=.seq its k}):=a3b.mp z;subst e;exact⟨o4,D4,DY,hDstk,λv z=>by cases z⟩
 refine yY (λn s'=>∃ i ys H' its k,Inv (cxC X scope cl (D::fp) a l) pins (blank own σ) H' s'/\tn i s'.heap/\(∀ b∈fp,H' b=none)/\H' D=none /\
  s'.heap.get? D=some {cls:=.type "list",data:=.seq its k}/\bG ys its.toList/\W i n ys H') ?_ m0
  ⟨0,[],l,#[],_,IY,T.keep _ _ _ st3 λb f o q=>B b o q,λb f=>(Q b f).1,h.un,B _ _ hD3,.nil,w0⟩
 rintro n s4 ⟨i,ys,P,its,k,I4,st4,fr4,D4,o4,v4,w4⟩;obtain⟨hz,step⟩:=turn i n ys P w4;rcases step with⟨stop,qn⟩ | ⟨go,step⟩
 ·refine thn (T.done (cxC X scope cl (D::fp) a l) rfl rfl rfl S.calm i _ s4 (blank own σ) P (λ_ _=>False) (pin2 I4 D4 o4) (I fr4) st4 stop) λr s5 Z0=>?_;obtain⟨hr,I5⟩:=Z0;subst hr;have oD:s5.heap.get? D=some {cls:=.type "list",data:=.seq its k}:=(I5.pin (D,_) (a2c _ (a2c _ a4a))).1;have O:Inv (cxC X scope cl (D::fp) a l) pins (blank own σ) P s5:=I5.unpinned;have IX:Inv X pins σ P s5:=by
   refine t.call' (ch:=D::fp) O.os O.base O.hok O.bare λb f=>?_;rcases a7b.mp f with z | z;rw[z];exact⟨.inr h.young,h.loc,h.cell,h.pin⟩;obtain⟨a1,a2,a3,a4,a5,a6⟩:=Q b z;exact⟨a4,a2,a5,a6⟩
  obtain⟨m5,hm5,_⟩:=O.loc;have nC:P a.heap.objs.size=none:=O.free;have IX':Inv X pins σ (upd P D (.lst ys)) s5:=by
   refine IX.adopt D4 h.young h.loc h.cell h.pin ⟨hz,its.toList,k,v4,?_⟩;rw[oD]
  have strC:Stray X pins (upd P D (.lst ys)) a.heap.objs.size:=t.stray (a6a _) (by rw[aD (a3d DY)];exact nC);exact fin D _ ys P s5 m5 IX' D4 hm5 strC qn
 ·refine thn (T.item (cxC X scope cl (D::fp) a l) rfl rfl rfl S.calm i _ s4 (blank own σ) P (λ_ _=>False) (pin2 I4 D4 o4) (I fr4) st4 go) λr s5 Z0=>?_;obtain⟨u,hr,h5⟩:=Z0;subst hr;refine thn h5 λ_ s6 ⟨x,H6,I6,r6,y6,st6,fr6⟩=>?_;have I6':=I6.pinned (I fr6) (T.obj _ _ st6);refine thn (hg cl (D::fp) a l _ s6 (blank own σ) H6 x u _ I6' r6 (hG _ _ _ _ (step x H6 y6))) λ_ s7 ⟨σ7,H7,I7,⟨q7,l7,p7⟩⟩=>?_;refine thn (ht cl (D::fp) a l _ s7 σ7 H7 _ I7 q7) λb s8 ⟨H8,I8,q8⟩=>?_;have weak:∀ {Z:Hp} {s9:Shared},Inv (cxC X scope cl (D::fp) a l) ((pins++[(D,{cls:=.type "list",data:=.seq its k})])++pU fp s6.heap) σ7 Z s9 ->
    Inv (cxC X scope cl (D::fp) a l) ((pins++[(D,{cls:=.type "list",data:=.seq its k})])++pU fp s6.heap) (blank own σ) Z s9:=λI9=>
   I9.weak l7.symm λj v e=>by rw[p7 j (nA own σ j v e).1];exact e
  have tn9:∀ {Z:Hp} {s9:Shared},Inv (cxC X scope cl (D::fp) a l) ((pins++[(D,{cls:=.type "list",data:=.seq its k})])++pU fp s6.heap) (blank own σ) Z s9->tn (i+1) s9.heap/\∀ b∈fp,Z b=none:=λI9=>
   ⟨T.keep _ _ _ st6 λb f o q=>(I9.pin (b,o) (a2c _ (a2c _ (jG f q)))).1,λb f=>by
    obtain⟨o,q,d⟩:=T.obj _ _ st6 b f;exact(I9.pin (b,o) (a2c _ (a2c _ (jG f q)))).2.1⟩
  cases b with
  | true=>
    rw[a3p rfl]at q8 ⊢;refine thn (he cl (D::fp) a l _ s8 σ7 H8 _ I8 q8) λy s9 Z0=>?_;obtain⟨v9,Z,I9,r9,m',hm',w9⟩:=Z0;have L:=weak I9;obtain⟨t9,f9⟩:=tn9 L;have p9:=L.pin (D,_) (a2c _ (a2g _ (a2c _ a4a)));have hlen:=v4.length;have hz':its.size<=sizeLine:=by rw[← a1e];lia
    refine append_at (hsz:=hz') p9.1 λh' hs' hD'=>?_;have I9u:Inv (cxC X scope cl (D::fp) a l) pins (blank own σ) Z s9:=L.unpinned.unpinned;have I10:Inv (cxC X scope cl (D::fp) a l) pins (blank own σ) Z {s9 with heap:=h'}:=
     I9u.turned (it:=D) (t':=s9.toks) (λb o f q=>(hs'.2 b f).trans q) p9.2.1 DY (.inl a4a) cneD h.pin
    refine⟨m',hm',i+1,ys++[v9],Z,its.push y,k+1,I10,T.keep _ _ _ t9 λb f o q=>(hs'.2 b λz=>hDfp (by rw[← z];exact f)).trans q,f9,p9.2.1,hD',?_,w9⟩;rw[Array.toList_push];exact v4.append (.cons r9 .nil)
  | false=>
    rw[a3q a1b]at q8 ⊢;obtain⟨m',hm',w9⟩:=q8;have L:=weak I8;obtain⟨t9,f9⟩:=tn9 L;have p9:=L.pin (D,_) (a2c _ (a2g _ (a2c _ a4a)));exact⟨m',hm',i+1,ys,H8,its,k,L.unpinned.unpinned,t9,f9,p9.2.1,p9.1,v4,w9⟩
set_option maxHeartbeats 8000000 in
def wF{X:Cx}{tg iter elt:Expr}{B:List Expr}{scope:Scope}{pos E:Pos}{own:List Nat}{wi:TI}{g:TG}{tt:TT}{te:TE}{use:Option (Value->Sem Unit)}{Qf:Value->Shared->Prop}
  (S:CompScope X scope own) (hi:PI X tg iter wi) (hg:∀ cl ex s H,PG (cxC X scope cl ex s H) tg g) (hG:cR3 own g)
  (ht:∀ cl ex s H,bD5 (cxC X scope cl ex s H) B tt) (he:∀ cl ex s H,PE (cxC X scope cl ex s H) elt te)
  {pins:List (Addr×Obj)} {s:Shared} {σ:St} {H:Hp} {F:List V->Hp->Prop} (I:Inv X pins σ H s) (hw:bR6 own wi g tt te σ H F)
  (hs:∀ x,foldedSetIterable iter X.env x=pure x)
  (fin:∀ D C ys H' s' m,Inv X pins σ (upd H' D (.lst ys)) s'->H' D=none->s'.heap.Ns C m->Stray X pins (upd H' D (.lst ys)) C->F ys H' ->
   compPost (model X.prog X.w) X.A X.xe use Qf (.ref D) C (.ok .next) s') :
  wpAny (model X.prog X.w) X.A (comprehension (.ListComp elt [⟨tg,iter,B,0⟩] scope pos) scope X.env E (newList []) false (eval iter X.env) use) Qf X.xe s:=by
 obtain⟨cl,R,U,Y⟩:=aJ6 (scope:=scope) (env:=X.env) λy P hf=>I.ok.has y.1 (S.free y P hf);refine wpAny_comprehension_free (use:=use) rfl hs R S.kind S.names (thn (hi pins s σ H _ I hw) λv s₁ h₁=>thn h₁ λitv a G=>?_);obtain⟨it,fp,tn,J,H2,e,r,T,t,f2,W,⟨m0,w0⟩,turn⟩:=G;subst e;refine a3t (bZ4 ?_);dsimp only;have Z:(a.heap.push {cls:=.type "list",dict:=none,data:=.seq ([]:List Value).toArray}).objs.size=a.heap.objs.size+1:=a2h ..;have h:∀ b o,a.heap.get? b=some o->(a.heap.push {cls:=.type "list",dict:=none,data:=.seq ([]:List Value).toArray}).get? b=some o:=λb o q=>a2a _ q;have K:(a.heap.push {cls:=.type "list",dict:=none,data:=.seq ([]:List Value).toArray}).get? a.heap.objs.size=some {cls:=.type "list",dict:=none,data:=.seq ([]:List Value).toArray}:=a2b _ rfl;generalize hG3:a.heap.push {cls:=.type "list",dict:=none,data:=.seq ([]:List Value).toArray}=d at Z h K ⊢;have n:(d.push {cls:=.type "dict",data:=.dict #[]}).objs.size=d.objs.size+1:=a2h ..;have i:(pushCells (d.push {cls:=.type "dict",data:=.dict #[]}) scope.names).Ns d.objs.size (λ_=>none):=(Heap.Ns.new d (.type "dict")).keeps (pushCells_keeps _ _);have k:∀ b o,d.get? b=some o->(pushCells (d.push {cls:=.type "dict",data:=.dict #[]}) scope.names).get? b=some o:=λb o q=>pushCells_keeps _ _ b o (a2a _ q);have ok:=cellsFrom_ok scope.names (d.push {cls:=.type "dict",data:=.dict #[]}) (d.objs.size+1) [] ⟨λ_ _ hm=>(nomatch hm),List.Pairwise.nil⟩ (by rw[n];exact a6a _);rw[n]at ok;generalize pushCells (d.push {cls:=.type "dict",data:=.dict #[]}) scope.names=h₁ at i k ok ⊢;have I3:Inv X pins σ H2 {a with heap:=d}:=r.kept (t':=a.toks) h;have look:∀ x,(cellsFrom (d.objs.size+1) scope.names cl).lookup x=((cellsFrom (d.objs.size+1) scope.names []).lookup x).or (cl.lookup x):=λx=>by rw[cK,List.lookup_append]
 have L:∀ x c,(cellsFrom (d.objs.size+1) scope.names []).lookup x=some c->d.objs.size < c/\scope.names.lookup x=some .cell/\h₁.IsCell c none:=λx c q=>
  ⟨(ok.empty x c (mem_of_lookup q)).2,S.cells _ (gM _ _ x c (mem_of_lookup q)) rfl,(ok.empty x c (mem_of_lookup q)).1⟩
 have j:∀ x c,(cellsFrom (d.objs.size+1) scope.names cl).lookup x=some c->(X.env.cells.lookup x=some c/\scope.names.lookup x≠some .cell)\/(d.objs.size < c/\scope.names.lookup x=some .cell/\h₁.IsCell c none):=λx c q=>by
  rw[look]at q;cases e:(cellsFrom (d.objs.size+1) scope.names []).lookup x with
  | some M=>rw[e]at q;cases q;exact .inr (L x _ e)
  | none=>
    rw[e]at q;refine .inl ⟨U x c q,λz=>?_⟩;obtain⟨M,f⟩:=dD scope.names (d.objs.size+1) x (mem_of_lookup z);rw[e]at f;cases f
 have l:∀ x c,X.env.cells.lookup x=some c->c < d.objs.size:=λx c q=>by
  obtain⟨v,o,ho,hd⟩:=I3.cell x c q;exact a0b ho
 have p:=aJ8 (iter:=iter) (elt:=elt) (pos:=pos) (use:=use) (Qf:=Qf) (tk:=a.toks) (h₁:=h₁) S hg hG ht he I3 T j (λy P hk=>by
   rw[look];rcases hk with z | z
   ·obtain⟨c,hc⟩:=Y y P z;cases e:(cellsFrom (d.objs.size+1) scope.names []).lookup y.1 with
    | some M=>exact⟨M,rfl⟩
    | none=>exact⟨c,hc⟩
   ·obtain⟨c,hc⟩:=dD scope.names (d.objs.size+1) y.1 (by rw[← z];exact P);exact⟨c,by rw[hc];rfl⟩) (λx y c q1 Q=>by
   rcases j x c q1 with N | N;rcases j y c Q with u | u;exact I3.ok.inj x y c N.1 u.1;exact absurd u.1 (a3k.mpr (a7g (l x c N.1)));rcases j y c Q with u | u;exact absurd N.1 (a3k.mpr (a7g (l y c u.1)));have m1:(cellsFrom (d.objs.size+1) scope.names []).lookup x=some c:=by
    obtain⟨M,f⟩:=dD scope.names (d.objs.size+1) x (mem_of_lookup N.2.1);rw[look,f]at q1;cases q1;exact f
   have m2:(cellsFrom (d.objs.size+1) scope.names []).lookup y=some c:=by
    obtain⟨M,f⟩:=dD scope.names (d.objs.size+1) y (mem_of_lookup u.2.1);rw[look,f]at Q;cases Q;exact f
   exact name_of_addr ok.apart (mem_of_lookup m1) (mem_of_lookup m2)) f2 (λb O=>by obtain⟨o,q,_⟩:=T.obj _ _ t b O;exact a0b q)
  (by show a.heap.objs.size < d.objs.size;lia) (λb O=>by
   rcases a7b.mp (r.stkSub b O)with z | z;rw[z];exact r.lt;exact a9j λhle=>r.nofs hle z)
  (λb o q=>a0b (r.bs b o q).1) (r.stray (a6a _) (r.hok.fresh (a6a _))) K (T.keep _ _ _ t λb O o q=>h b o q) i k w0 turn fin
 exact codeAny_compStart_list p (T.self _ 0 _ _ _ (T.keep _ _ _ t λb O o q=>k b o (h b o q)) p)
def yZ{X:Cx}{tg iter elt:Expr}{a:List Expr}{scope:Scope}{pos:Pos}{own:List Nat}{d:TI}{g:TG}{f:TT}{h:TE}
  (S:CompScope X scope own) (hi:PI X tg iter d) (i:∀ cl ex s H,PG (cxC X scope cl ex s H) tg g) (j:cR3 own g)
  (k:∀ cl ex s H,bD5 (cxC X scope cl ex s H) a f) (l:∀ cl ex s H,PE (cxC X scope cl ex s H) elt h)
  (hs:∀ x,foldedSetIterable iter X.env x=pure x:=by intro _;rfl):PE X (.ListComp elt [⟨tg,iter,a,0⟩] scope pos) (aJ7 own d g f h):=by
 intro pins s σ H Q I n;rw[eval_ListComp];refine wF (use:=none) S hi i j k l I n hs λD C ys H' s' m p hD hm str q=>?_;refine⟨m,hm,λh' c=>⟨.ref D,upd H' D (.lst ys),?_,rfl,q D hD⟩⟩;exact p.turned (it:=C) (t':=s'.toks) (λb o r e=>(c.2 b r).trans e) str.un str.loc (.inr str.young) str.cell str.pin
def jI{X:Cx}{i:Nat}{x:Str}{tg iter elt:Expr}{d:List Expr}{scope:Scope}{pos c f:Pos}{own:List Nat}{u:TI}{g:TG}{w:TT}{y:TE}
  (B:X.N.Nodup) (j:X.N[i]? = some x) (A:X.env.scope.names.lookup x=some .local)
  (S:CompScope X scope own) (hi:PI X tg iter u) (E:∀ cl ex s H,PG (cxC X scope cl ex s H) tg g) (F:cR3 own g)
  (G:∀ cl ex s H,bD5 (cxC X scope cl ex s H) d w) (J:∀ cl ex s H,PE (cxC X scope cl ex s H) elt y)
  (k:swapsWith (.ListComp elt [⟨tg,iter,d,0⟩] scope pos) (some (.Name x c)) f.line X.env=pure true)
  (hs:∀ x,foldedSetIterable iter X.env x=pure x:=by intro _;rfl) :
  PS X (.Assign [.Name x c] (.ListComp elt [⟨tg,iter,d,0⟩] scope pos) f) (λD σ H=>aJ7 own u g w y σ H λv K=>D.nx (σ.set i (some v)) K):=by
 intro pins s σ H L I M;rw[exec_Assign_Name_used _ _ _ _ k];refine a3n (a3Q (a3n ?_));show wpAny _ _ (do let _ ← comprehension (.ListComp elt [⟨tg,iter,d,0⟩] scope pos) scope X.env _ (newList []) false (eval iter X.env) (some (assign (.Name x c) X.env))) _ _ s;refine a3n (thn (wF (use:=some (assign (.Name x c) X.env)) (Qf:=λ_ s'=>SP X pins L .next s') S hi E F G J I M hs λD C ys H' s' m O hD hm str q=>?_) λ_ s' P=>a3o (a3o P));show wpAny _ _ (assign (.Name x c) X.env (.ref D)) _ _ s';refine wpAny_assign_Name (vU (v:=.ref D) O B j (.inl A) (show cY (.ref D) (Value.ref D)from rfl) (λl n p=>?_) (.inr A));obtain⟨a,h,ha⟩:=p;have r:C≠a:=by
  rcases ha with z | z;rw[z];exact str.loc;exact a3d (str.cell x a z)
 refine⟨m,hm.sameBut h r,λh' t=>⟨_,_,?_,q D hD⟩⟩;exact n.turned (it:=C) (t':=l.toks) (λb o Q e=>(t.2 b Q).trans e) str.un str.loc (.inr str.young) str.cell str.pin
section
variable{X:Cx}
def bF2(t:X.calm=true):iH X (.builtin "all") (λxs H Q=>∃ (a:Addr) (bs:List Bool),xs=[.ref a]/\SqL X.K H a (bs.map V.bl)/\Q (.bl (bs.all id)) H):=by
 intro pins s σ H xs us Q I r h;obtain⟨a,bs,rfl,ha,q⟩:=h;obtain⟨u,rfl,w⟩:=yU r;cases w;obtain⟨its,g,p,E⟩:=I.list ha;have j:a < s.heap.objs.size:=by obtain⟨_,e,_⟩:=p.isList;exact a0b e
 have y:X.A.in1.handled=none:=I.ok.hd t;refine call_all_walk (wpAny_pyIter_list p.isList ?_);refine⟨s.heap.objs.size,[s.heap.objs.size,a],[s.heap.objs.size],its.toArray.size,_,_,λi=>(bs[i]?).getD true,rfl,Walks.list (A:=X.A.in1) y _ a (a9c j) its.toArray,
  ⟨⟨_,a2b _ rfl,rfl,rfl⟩,p.isList.push _⟩,λi v s' F G B l=>?_,λh' tk C=>?_⟩
 ·have hi:its[i]? = some v:=by simpa using B
  have c:=g.length;have m:i < its.length:=(a3a.mp hi).1;have f:i < bs.length:=by rw[a1a]at c;lia
  obtain⟨u,n,D⟩:=g.get (i:=i) (x:=V.bl bs[i]) (by rw[a4b,a0a f];rfl);rw[hi]at n;cases n;have e:v=Value.bool bs[i]:=D;subst e;simp only[List.getElem?_eq_getElem f,Option.getD_some]at l;exact a3E l
 ·have e:((List.range its.toArray.size).all λi=>(bs[i]?).getD true)=bs.all id:=by
   have c:=g.length;rw[a1a]at c;rw[a9a,← c];rw[a8f,a1i,a1i];constructor;intro k b f;obtain⟨i,hi,rfl⟩:=a5g f;have:=k i (a2e.mpr hi);simp only[List.getElem?_eq_getElem hi,Option.getD_some]at this;exact this;intro k i hi;have d:=a2e.mp hi;simp only[List.getElem?_eq_getElem d,Option.getD_some];exact k _ (List.getElem_mem d)
  rw[e];exact⟨.bl _,H,I.kept (t':=tk) λb o q=>C b o (λhm=>by
   have z:b=s.heap.objs.size:=by simpa using hm
   rw[z]at q;exact a0e _ (a0b q)) (a2a _ q),rfl,q⟩
noncomputable def Its(x:Str):It:=⟨λi _=>∃ c,x.cps[i]? = some c,λi H v H'=>H'=H/\∃ c,x.cps[i]? = some c/\v=.str ⟨#[c]⟩,λi _=>x.cps[i]? = none⟩
def aD0{P:Program}{w:World}{K:W.Frag}{tg:Expr}(x:Str)(t:Tok)(it:Addr)(ty:String)(g:ty="str_ascii_iterator"\/ty="str_iterator"):Turn P w K tg (Its x) [it] it (λi h=>h.IsStrIter it ty x t i) where
 mem:=by simp
 obj:=λi h st b a=>by
  have e:b=it:=by simpa using a
  subst e;obtain⟨o,e,c,d⟩:=st;exact⟨o,e,λv z=>by rw[d]at z;cases z⟩
 keep:=λi h h' st k=>by
  obtain⟨o,e,c,d⟩:=st;exact⟨o,k it (by simp) o e,c,d⟩
 item:=by
  intro X u y A B i pins s σ H E I l st C;subst u y A;obtain⟨c,j⟩:=C;obtain⟨m,n,L,p,q,r⟩:=l it (by simp);rcases g with rfl | rfl;refine wpAny_pyNext_ascii_item st j λh' f D=>?_;have F:Inv X pins σ H {s with heap:=h',toks:=s.toks+1}:=I.turned (t':=s.toks+1) (λb o a e=>(D.2 b a).trans e) m n p q r;obtain⟨o,e,G,d⟩:=id f;exact⟨_,rfl,aO2 (s:={s with heap:=h',toks:=s.toks+1}) e G d (by decide) ⟨.str ⟨#[c]⟩,H,F,⟨_,rfl⟩,⟨rfl,c,j,rfl⟩,f,λb a=>(l b a).1⟩⟩;refine wpAny_pyNext_wide_item st j λh' f D=>?_;have F:Inv X pins σ H {s with heap:=h',toks:=s.toks+1}:=I.turned (t':=s.toks+1) (λb o a e=>(D.2 b a).trans e) m n p q r;obtain⟨o,e,G,d⟩:=id f;exact⟨_,rfl,aO2 (s:={s with heap:=h',toks:=s.toks+1}) e G d (by decide) ⟨.str ⟨#[c]⟩,H,F,⟨_,rfl⟩,⟨rfl,c,j,rfl⟩,f,λb a=>(l b a).1⟩⟩
 done:=by
  intro X u y A B i pins s σ H E I l st C;subst u y A;have j:x.cps[i]? = none:=C;obtain⟨m,n,L,p,q,r⟩:=l it (by simp);rcases g with rfl | rfl;exact wpAny_pyNext_ascii_end (I.ok.hd B) st j λh' J=>⟨rfl,I.turned (t':=s.toks) (λb o a e=>J b o a e) m n p q r⟩;exact wpAny_pyNext_wide_end (I.ok.hd B) st j λh' J=>⟨rfl,I.turned (t':=s.toks) (λb o a e=>J b o a e) m n p q r⟩
 self:=λ_ _ _ _ _ st h=>by
  rcases g with rfl | rfl;exact wpAny_pyIter_striter_ascii st h;exact wpAny_pyIter_striter_wide st h
def dP8:V->Option Int->Option Int->Hp->VK->Prop:=λx lo hi H Q=>∃ z,x=.str z/\z.length<=sizeLine/\Q (.str (Txt.slice z lo hi)) H
def cR5:SlR X dP8:=by
 intro pins s σ H x v f g lo hi sl Q I rx hs pl d h;obtain⟨z,rfl,e,q⟩:=h;obtain⟨t,rfl⟩:=rx;refine⟨"str",_,F.slot_str_getitem.lookup,typeIs_str _ _ _,?_⟩;have fin:∀ b k,EP X pins σ Q (.str (Txt.slice z lo hi) b) {s with toks:=k}:=λb k=>⟨.str _,H,I.tok k,⟨b,rfl⟩,q⟩;have a:(Txt.slice z lo hi).length<=sizeLine:=a8b (Txt.slice_le z lo hi) e;cases pl with
 | none=>
   cases d with
   | none=>exact a3P (l:=none) (u:=none) (st:=none) hs rfl (post_val_or_str ⟨a,fin⟩)
   | int j c=>exact a3P (l:=none) (u:=some (j,c)) (st:=none) hs rfl (post_val_or_str ⟨a,fin⟩)
 | int i t1=>
   cases d with
   | none=>exact a3P (l:=some (i,t1)) (u:=none) (st:=none) hs rfl (post_val_or_str ⟨a,fin⟩)
   | int j c=>exact a3P (l:=some (i,t1)) (u:=some (j,c)) (st:=none) hs rfl (post_val_or_str ⟨a,fin⟩)
def aJ9{ys:List Str}:∀ {us:List Value},bG (ys.map V.str) us->StrsAre us ys:=by
 induction ys with
 | nil=>intro us r;cases r;exact .nil
 | cons y r a=>
   intro us h;cases h with
   | cons b c=>
     obtain⟨t,rfl⟩:=b;exact .cons y t (a c)
def bF3(K:W.Frag):V->List V->Hp->VK->Prop:=λx vs H Q=>∃ b a ys,x=.str b/\vs=[.ref a]/\SqL K H a (ys.map V.str)/\(ys.map (·.length)).sum+ys.length*b.length<=16777216/\Q (.str (Txt.join b ys)) H
def bZ5:MtR X "str.join" (bF3 X.K):=by
 intro pins s σ H x vs v us Q I rx b h;obtain⟨c,a,ys,rfl,rfl,ha,d,q⟩:=h;obtain⟨t,rfl⟩:=rx;obtain⟨u,rfl,e⟩:=b.one;cases e;obtain⟨its,r,p,_⟩:=I.list ha;exact join_list p.isList (by simpa using aJ9 r) d λf k=>⟨.str _,H,I.tok k,⟨f,rfl⟩,q⟩
def zA:iH X (.builtin "isinstance") (λxs H Q=>∃ x c t b,xs=[x,.ty c]/\TyOf X.K H x t/\W.kitOne X.K t (.type c)=some b/\Q (.bl b) H):=by
 intro pins s σ H xs us Q I r h;obtain⟨x,c,t,b,rfl,ty,e,q⟩:=h;obtain⟨u,d,rfl,f,a⟩:=aP1 r;cases (show d=Value.type c from a);exact aP5 I f ty e λtk=>⟨.bl b,H,I.tok tk,rfl,q⟩
end
structure Tag(Q:VK):Type where mk ::
def Ask(sp:Sp)(vs:List V)(H:Hp)(E:XK)(Q:VK)(_:Tag Q):Prop:=sp vs H Q E
section
variable{σ:St}{H:Hp}{Q:VK}{v x y:V}{n:Nat}{i j:Int}{a b:Bool}{D:Ends}
theorem uE{r:St}:aC4 0 (some v::r) H Q=Q v H:=propext ⟨λZ1=>by obtain⟨_,e,q⟩:=Z1;cases e;exact q,λq=>⟨_,rfl,q⟩⟩
theorem uF{o:Option V}{r:St}:aC4 (n+1) (o::r) H Q=aC4 n r H Q:=rfl
theorem dF2:tC v σ H Q=Q v H:=rfl
theorem cR6{r:R2}{a tb:TE}:tOp r a tb σ H Q=a σ H λx b=>tb σ b λy c=>r x y c Q:=rfl
theorem bR7{g:Int->Int->V}:rI0 g (.int i) (.int j) H Q=Q (g i j) H:=propext ⟨λZ1=>by obtain⟨_,_,e,a,q⟩:=Z1;cases e;cases a;exact q,λq=>⟨_,_,rfl,rfl,q⟩⟩
theorem bF4{C:Int->Int->Prop}{g:Int->Int->V}(h:C i j):rI C g (.int i) (.int j) H Q=Q (g i j) H:=propext ⟨λZ1=>by obtain⟨_,_,e,a,_,q⟩:=Z1;cases e;cases a;exact q,λq=>⟨_,_,rfl,rfl,h,q⟩⟩
theorem cR7{R:Bool->Prop}:(∃ k,V.bl a=V.bl k/\R k)=R a:=propext ⟨λZ1=>by obtain⟨_,e,q⟩:=Z1;cases e;exact q,λq=>⟨_,rfl,q⟩⟩
theorem aQ5{t:TE}{R:Bool->Hp->Prop}:cP4 t σ H R=t σ H λx H'=>∃ k,x=.bl k/\R k H':=rfl
theorem bR8{t u:TT}{R:Bool->Hp->Prop}:dL8 t u σ H R=t σ H λc H1=>if c=true then u σ H1 R else R false H1:=rfl
theorem bR9{t:TT}{a tb:TE}:tIf t a tb σ H Q=t σ H λc b=>if c=true then a σ b Q else tb σ b Q:=rfl
theorem pZ{t u:TS}:cO0 t u D σ H=t {D with nx:=u D} σ H:=rfl
theorem aQ6:cN9 D σ H=D.nx σ H:=rfl
theorem uG{a:TE}:cO1 a D σ H=a σ H λ_ H1=>D.nx σ H1:=rfl
theorem bS0{a:TE}:dL9 a D σ H=a σ H D.rt:=rfl
theorem bS1{c:TT}{t u:TS}:dM0 c t u D σ H=c σ H λb H1=>if b=true then t D σ H1 else u D σ H1:=rfl
theorem bS2{a:TE}{g:TG}:bD4 a g D σ H=a σ H λx b=>g x σ b D.nx:=rfl
theorem aD1{R:St->Hp->Prop}:rZ n v σ H R=R (σ.set n (some v)) H:=rfl
theorem aQ7{to ti:TE}{t:mV}{R:St->Hp->Prop}:dH0 to ti t v σ H R=to σ H λo a=>ti σ a λi b=>t o i v b λc=>R σ c:=rfl
theorem aD2{R:List V->Hp->Prop}:bR2 σ H R=R [] H:=rfl
theorem uH{a:TE}{tr:TA}{R:List V->Hp->Prop}:kI a tr σ H R=a σ H λx b=>tr σ b λxs c=>R (x::xs) c:=rfl
theorem aQ8{sp:Sp}{E:XK}{t:TA}:aJ1 sp [] E t σ H Q=t σ H λvs a=>Ask sp vs a E Q ⟨⟩:=by
 unfold aJ1 Ask;simp only[List.append_nil]
theorem cR8{r:List V->Hp->VK->Prop}{t:TA}:tCB r t σ H Q=t σ H λvs a=>r vs a Q:=rfl
theorem cR9{r:V->Option Int->Option Int->Hp->VK->Prop}{a:TE}{b c:TO}:tSl r a b c σ H Q=a σ H λx d=>b σ d λl e=>c σ e λu f=>r x l u f Q:=rfl
theorem wG{R:Option Int->Hp->Prop}:aP9 σ H R=R none H:=rfl
theorem aQ9{t:TE}{R:Option Int->Hp->Prop}:cP9 t σ H R=t σ H λx H1=>∃ i,x=.int i/\R (some i) H1:=rfl
theorem lC{R:Int->Prop}:(∃ k,V.int i=V.int k/\R k)=R i:=propext ⟨λZ1=>by obtain⟨_,e,q⟩:=Z1;cases e;exact q,λq=>⟨_,rfl,q⟩⟩
theorem aR0{R:Bool->Hp->Prop}:cR4 σ H R=R true H:=rfl
end
noncomputable def dQ(H:Hp)(p:Addr):Option (Bool×List V):=match H p with
 | some (.lst xs)=>some (true,xs)
 | some (.tup xs)=>some (false,xs)
 | some (.frz _ (.lst xs))=>some (true,xs)
 | _=>none
def aK{H:Hp}{p:Addr}{xs:List V}(h:H p=some (.lst xs)):dQ H p=some (true,xs):=by unfold dQ;rw[h]
def bA{H:Hp}{p:Addr}{xs:List V}(h:H p=some (.tup xs)):dQ H p=some (false,xs):=by unfold dQ;rw[h]
def bF5{H:Hp}{p:Addr}{o:Obj}{xs:List V}(h:H p=some (.frz o (.lst xs))):dQ H p=some (true,xs):=by unfold dQ;rw[h]
def dU{K:W.Frag}{H:Hp}{p:Addr}{xs:List V}(h:dQ H p=some (true,xs)):SqL K H p xs:=by
 unfold dQ at h;split at h;rename_i e;cases h;exact .inl (.inl e);cases h;rename_i o ys e;cases h;exact .inl (.inr ⟨o,e⟩);cases h
def cD{K:W.Frag}{H:Hp}{p:Addr}{xs:List V}(h:dQ H p=some (false,xs)):SqT K H p xs:=by
 unfold dQ at h;split at h;cases h;rename_i e;cases h;exact .inl (.inl e);cases h;cases h
noncomputable def ixF(H:Hp)(x y:V):Option V:=match x,y with
 | .ref p,.int i=>(dQ H p).bind λq=>atI q.2 i
 | .str z,.int i=>if z.length<=sizeLine then(atI z.cps.toList i).map λc=>.str ⟨#[c]⟩else none
 | _,_=>none
noncomputable def cS0(H:Hp)(x:V):Option Nat:=match x with
 | .ref p=>(dQ H p).map (·.2.length)
 | .str z=>if z.length<=sizeLine then some z.length else none
 | _=>none
def dH9:R2:=λx y H Q=>∃ v,ixF H x y=some v/\Q v H
section
variable{X:Cx}
def vS:IxR X dH9:=by
 intro a d pins s σ H x y v u Q I rx g h hs;obtain⟨z,e,q⟩:=h;unfold ixF at e;split at e
 ·rename_i p i;cases f:dQ H p with
  | none=>rw[f]at e;cases e
  | some w=>
    obtain⟨b,xs⟩:=w;rw[f]at e;cases b with
    | true=>exact bY9 a d pins s σ H _ _ v u Q I rx g ⟨p,xs,i,z,rfl,rfl,dU f,e,q⟩ hs
    | false=>exact cQ3 a d pins s σ H _ _ v u Q I rx g ⟨p,xs,i,z,rfl,rfl,cD f,e,q⟩ hs
 ·rename_i t i;split at e
  ·rename_i k;cases j:atI t.cps.toList i with
   | none=>rw[j]at e;cases e
   | some c=>
     rw[j]at e;cases e;exact cQ4 a d pins s σ H _ _ v u Q I rx g ⟨t,i,c,rfl,rfl,k,j,q⟩ hs
  ·cases e
 ·cases e
def bF6:List V->Hp->VK->Prop:=λxs H Q=>∃ x n,xs=[x]/\cS0 H x=some n/\Q (.int n) H
def dE:iH X (.builtin "len") bF6:=by
 intro pins s σ H xs us Q I r h;obtain⟨x,n,rfl,e,q⟩:=h;unfold cS0 at e;split at e
 ·rename_i p;cases a:dQ H p with
  | none=>rw[a]at e;cases e
  | some w=>
    obtain⟨b,xs⟩:=w;rw[a]at e;cases e;cases b with
    | true=>exact nY pins s σ H _ us Q I r ⟨p,xs,rfl,.inl (dU a),q⟩
    | false=>exact nY pins s σ H _ us Q I r ⟨p,xs,rfl,.inr (cD a),q⟩
 ·rename_i z;split at e;rename_i c;cases e;exact wD pins s σ H _ us Q I r ⟨z,rfl,c,q⟩;cases e
 ·cases e
def dI0:V->Option Int->Option Int->Hp->VK->Prop:=λx lo hi H Q=>match x with
 | .str z=>z.length<=sizeLine/\Q (.str (Txt.slice z lo hi)) H
 | .ref p=>(∃ xs,dQ H p=some (true,xs)/\∀ r,H r=none->Q (.ref r) (upd H r (.lst (pG xs lo hi)))) \/
   ∃ xs,dQ H p=some (false,xs)/\¬ (HT.sIx xs.length 0 lo=0/\HT.sIx xs.length xs.length hi=xs.length)/\∀ r,H r=none->Q (.ref r) (upd H r (.tup (pG xs lo hi)))
 | _=>False
def bS3:SlR X dI0:=by
 intro pins s σ H x v a b lo hi sl Q I rx hs pl c h;unfold dI0 at h;split at h;rename_i z;exact cR5 pins s σ H _ v a b lo hi sl Q I rx hs pl c ⟨z,rfl,h.1,h.2⟩;rename_i p;rcases h with⟨xs,d,q⟩ | ⟨xs,d,hw,q⟩;exact bZ1 pins s σ H _ v a b lo hi sl Q I rx hs pl c ⟨p,xs,rfl,dU d,q⟩;exact cQ0 pins s σ H _ v a b lo hi sl Q I rx hs pl c ⟨p,xs,rfl,cD d,hw,q⟩;exact h.elim
def dI1(K:W.Frag)(b:TE):TI:=λσ H R=>b σ H λx a=>match x with
 | .str z=>R (Its z) a
 | .ref p=>(∃ xs,dQ a p=some (true,xs)/\R (Itl K p) a)\/∃ xs,dQ a p=some (false,xs)/\R (Itt K p) a
 | _=>False
def cS1{tg l:Expr}{j:TE}(m:PE X l j):PI X tg l (dI1 X.K j):=by
 intro pins s σ H R I h;refine thn (m pins s σ H _ I h) λv s1 Z0=>?_;obtain⟨x,g,c,k,f⟩:=Z0;split at f
 ·rename_i x;obtain⟨t,rfl⟩:=k;cases ha:x.cps.all (· < 128)with
  | true=>
    refine wpAny_pyIter_ascii ha ?_;refine⟨s1.heap.objs.size,[s1.heap.objs.size],_,_,g,rfl,c.kept (t':=s1.toks) λb o e=>a2a _ e,aD0 x t _ _ (.inl rfl),⟨_,a2b _ rfl,rfl,rfl⟩,λb d=>?_,f⟩;have e:b=s1.heap.objs.size:=by simpa using d
    subst e;exact c.fpOk (a6a _) (c.hok.fresh (a6a _))
  | false=>
    refine wpAny_pyIter_wide ha ?_;refine⟨s1.heap.objs.size,[s1.heap.objs.size],_,_,g,rfl,c.kept (t':=s1.toks) λb o e=>a2a _ e,aD0 x t _ _ (.inr rfl),⟨_,a2b _ rfl,rfl,rfl⟩,λb d=>?_,f⟩;have e:b=s1.heap.objs.size:=by simpa using d
    subst e;exact c.fpOk (a6a _) (c.hok.fresh (a6a _))
 ·rename_i a;cases k;rcases f with⟨xs,i,q⟩ | ⟨xs,i,q⟩
  ·obtain⟨its,n,p,r⟩:=c.list (dU i);refine wpAny_pyIter_list p.isList ?_;refine⟨s1.heap.objs.size,[s1.heap.objs.size],_,_,g,rfl,c.kept (t':=s1.toks) λb o e=>a2a _ e,aO3 a _,⟨_,a2b _ rfl,rfl,rfl⟩,λb d=>?_,q⟩;have e:b=s1.heap.objs.size:=by simpa using d
   subst e;exact c.fpOk (a6a _) (c.hok.fresh (a6a _))
  ·obtain⟨its,n,p,r⟩:=c.tuple (cD i);refine a4l (show s1.heap.IsTuple a its.toArray from p) ?_;refine⟨s1.heap.objs.size,[s1.heap.objs.size],_,_,g,rfl,c.kept (t':=s1.toks) λb o e=>a2a _ e,aI4 a _,⟨_,a2b _ rfl,rfl,rfl⟩,λb d=>?_,q⟩;have e:b=s1.heap.objs.size:=by simpa using d
   subst e;exact c.fpOk (a6a _) (c.hok.fresh (a6a _))
 ·exact f.elim
noncomputable def bS4(N:List Str)(sc scope:Scope)(own:List Nat):Bool:=
 (match scope.kind with | .function=>true | _=>false) &&
 scope.names.all (λy=>match y.2 with
  | .cell=>(match scope.names.lookup y.1 with | some .cell=>true | _=>false)
  | .local=>(match scope.names.lookup y.1 with | some .local=>true | _=>false)
  | .free=>(match sc.names.lookup y.1 with | some .cell=>true | some .free=>true | _=>false)
  | _=>true) &&
 (List.range N.length).all λi=>match N[i]? with
  | some x=>(match scope.names.lookup x with | some .local=>own.contains i | some .cell=>own.contains i | _=>true)
  | none=>true
def csc{scope:Scope}(own:List Nat)(h:bS4 X.N X.env.scope scope own=true)(g:X.calm=true:=by rfl):CompScope X scope own:=by
 unfold bS4 at h;rw[a5d,a5d]at h;obtain⟨⟨j,b⟩,d⟩:=h;rw[a1i]at b d;refine⟨?_,λy a e=>?_,λy a e=>?_,λy a e=>?_,λi x f c=>?_,g⟩;revert j;cases scope.kind<;>simp;have:=b y a;rw[e]at this;dsimp only at this;split at this;assumption;cases this;have:=b y a;rw[e]at this;dsimp only at this;split at this;assumption;cases this;have:=b y a;rw[e]at this;dsimp only at this;show X.env.scope.names.lookup y.1=some .cell\/X.env.scope.names.lookup y.1=some .free;split at this;rename_i q;exact .inl q;rename_i q;exact .inr q;cases this;have hi:i < X.N.length:=(a3a.mp f).1;have:=d i (a2e.mpr hi);rw[f]at this;dsimp only at this;rcases c with c | c<;>rw[c]at this<;>simpa using this
end
structure ItIs(J:It)(xs:List V)(P:Hp->Prop):Prop where
 go:∀ H i x,P H->xs[i]? = some x->J.go i H
 yld:∀ H i x y H',P H->xs[i]? = some x->J.yld i H y H'->H'=H/\y=x
 stop:∀ H i,P H->xs[i]? = none->J.stop i H
def iK{K:W.Frag}{a:Addr}{xs:List V}:ItIs (Itl K a) xs (λH=>SqL K H a xs) where
 go:=λH i x h e=>⟨xs,x,h,e⟩
 yld:=λH i x y H' h e ⟨b,c⟩=>⟨b,by have:=c xs h;rw[e]at this;exact(a5a this).symm⟩
 stop:=λH i h e=>⟨xs,h,a7c.mp e⟩
def bF7{K:W.Frag}{a:Addr}{xs:List V}:ItIs (Itt K a) xs (λH=>SqT K H a xs) where
 go:=λH i x h e=>⟨xs,x,h,e⟩
 yld:=λH i x y H' h e ⟨b,c⟩=>⟨b,by have:=c xs h;rw[e]at this;exact(a5a this).symm⟩
 stop:=λH i h e=>⟨xs,h,a7c.mp e⟩
noncomputable def bZ6(lo:Int)(n:Nat):List V:=(List.range n).map λ(i:Nat)=>V.int (lo+(i:Int))
def jJ{lo:Int}{n i:Nat}{x:V}(h:(bZ6 lo n)[i]? = some x):i < n/\x=.int (lo+i):=by
 unfold bZ6 at h;rw[a4b]at h;cases e:(List.range n)[i]? with
 | none=>rw[e]at h;cases h
 | some k=>
   rw[e]at h;obtain⟨hi,a⟩:=a3a.mp e;rw[List.length_range]at hi;rw[List.getElem_range]at a;subst a;exact⟨hi,(a5a h).symm⟩
def dW(lo:Int)(n:Nat):(bZ6 lo n).length=n:=by simp[bZ6]
def jK{lo:Int}{n:Nat}{P:Hp->Prop}:ItIs (Itr lo n) (bZ6 lo n) P where
 go:=λH i x _ e=>(jJ e).1
 yld:=λH i x y H' _ e ⟨a,b⟩=>⟨a,by rw[(jJ e).2];exact b⟩
 stop:=λH i _ e=>by
  have:=a7c.mp e;rw[dW]at this;exact this
noncomputable def eC(x:Str):List V:=x.cps.toList.map λc=>.str ⟨#[c]⟩
def eP(x:Str):(eC x).length=x.length:=by simp[eC,Str.length]
def bF8{x:Str}{P:Hp->Prop}:ItIs (Its x) (eC x) P where
 go:=λH i v _ e=>by
  unfold eC at e;rw[a4b]at e;cases q:x.cps.toList[i]? with
  | none=>rw[q]at e;cases e
  | some c=>exact⟨c,by simpa using q⟩
 yld:=λH i v y H' _ e ⟨b,c,d,f⟩=>⟨b,by
  unfold eC at e;rw[a4b]at e;have q:x.cps.toList[i]? = some c:=by simpa using d
  rw[q]at e;cases e;exact f⟩
 stop:=λH i _ e=>by
  have a:=a7c.mp e;rw[eP]at a;show x.cps[i]? = none;rw[Array.getElem?_eq_none_iff];exact a
def uI{J:It}{xs:List V}{P:Hp->Prop}(w:ItIs J xs P){own:List Nat}{g:TG}{l:TT}{n:TE}{σ:St}{o:Hp}{F:List V->Hp->Prop}(Pv:Nat->List V->Hp->Prop)(h0:Pv 0 [] o)
  (r:∀ i ys H,Pv i ys H->P H/\ys.length<=i) (hn:xs.length<=sizeLine)
  (step:∀ i x ys H (N:List V->Hp->Prop),xs[i]? = some x->Pv i ys H->(∀ a H',Pv (i+1) a H'->N a H')->g x (blank own σ) H λc j=>l c j λb f=>if b=true then n c f λv d=>N (ys++[v]) d else N ys f)
  (fin:∀ ys H,Pv xs.length ys H->F ys H) :
  ∃ W:Nat->Nat->List V->Hp->Prop,(∃ m,W 0 m [] o)/\∀ i m ys H,W i m ys H->ys.length<=sizeLine /\
  ((J.stop i H/\F ys H)\/(J.go i H/\∀ x H',J.yld i H x H'->g x (blank own σ) H' λc j=>l c j λb f=>
    if b=true then n c f λv d=>∃ m',m' < m/\W (i+1) m' (ys++[v]) d else ∃ m',m' < m/\W (i+1) m' ys f)):=by
 refine⟨λi m ys H=>m=xs.length-i/\i<=xs.length/\Pv i ys H,⟨xs.length,by simp,a2d _,h0⟩,?_⟩;rintro i m ys H ⟨rfl,hi,p⟩;obtain⟨k,s⟩:=r i ys H p;refine⟨by lia,?_⟩;by_cases h:i < xs.length;have e:xs[i]? = some xs[i]:=a0a h;refine .inr ⟨w.go H i _ k e,λx H' y=>?_⟩;obtain⟨rfl,rfl⟩:=w.yld H i _ x H' k e y;exact step i _ ys H' (λa d=>∃ m',m' < xs.length-i/\m'=xs.length-(i+1)/\i+1<=xs.length/\Pv (i+1) a d) e p λa d q=>⟨xs.length-(i+1),by lia,rfl,h,q⟩;have e:i=xs.length:=by lia
 subst e;exact .inl ⟨w.stop H _ k (a7c.mpr (a6a _)),fin ys H p⟩
def aD3{J:It}{xs:List V}{P:Hp->Prop}(w:ItIs J xs P){g:TG}{tb:TS}{D:Ends}{σ:St}{H:Hp}(Pv:Nat->St->Hp->Prop)(h0:Pv 0 σ H)(d:∀ i σ H,Pv i σ H->P H)
  (hs:∀ i x σ H,xs[i]? = some x->Pv i σ H->g x σ H λa c=>tb {D with nx:=Pv (i+1),ct:=Pv (i+1),bk:=D.nx} a c) (hd:∀ σ H,Pv xs.length σ H->D.nx σ H) :
  ∃ W:Nat->Nat->St->Hp->Prop,(∃ m,W 0 m σ H)/\∀ i m σ H,W i m σ H ->
    (J.stop i H/\D.nx σ H)\/(J.go i H/\∃ N:St->Hp->Prop,(∀ σ' H',N σ' H'->∃ m',m' < m/\W (i+1) m' σ' H')/\∀ x H',J.yld i H x H'->g x σ H' λa c=>tb {D with nx:=N,ct:=N,bk:=D.nx} a c):=by
 refine⟨λi m σ H=>m=xs.length-i/\i<=xs.length/\Pv i σ H,⟨xs.length,by simp,a2d _,h0⟩,?_⟩;rintro i m σ H ⟨rfl,hi,p⟩;have q:=d i σ H p;by_cases b:i < xs.length;have e:xs[i]? = some xs[i]:=a0a b;refine .inr ⟨w.go H i _ q e,Pv (i+1),λσ' H' f=>⟨xs.length-(i+1),by lia,rfl,b,f⟩,λx H' y=>?_⟩;obtain⟨rfl,rfl⟩:=w.yld H i _ x H' q e y;exact hs i _ σ _ e p;have e:i=xs.length:=by lia
 subst e;exact .inl ⟨w.stop H _ q (a7c.mpr (a6a _)),hd σ H p⟩
section
variable{σ:St}{H:Hp}{Q:VK}{z:Str}{p q:Addr}{xs ys:List V}{i j:Int}{b:Bool}{v x y:V}
def bF9(h:z.length<=sizeLine):cS0 H (.str z)=some z.length:=by show(if z.length<=sizeLine then some z.length else none)=_;rw[a3p h]
def uJ(h:dQ H p=some (b,xs)):cS0 H (.ref p)=some xs.length:=by show(dQ H p).map (·.2.length)=_;rw[h];rfl
def cS2{n:Nat}(h:cS0 H x=some n):bF6 [x] H Q=Q (.int n) H:=
 propext ⟨λZ1=>by obtain⟨a,b,e,f,q⟩:=Z1;cases e;rw[h]at f;cases f;exact q,λq=>⟨_,n,rfl,h,q⟩⟩
def cV(h:dQ H p=some (b,xs)):bF6 [.ref p] H Q=Q (.int xs.length) H:=cS2 (uJ h)
def iL(h:ixF H x y=some v):dH9 x y H Q=Q v H:=propext ⟨λZ1=>by obtain⟨_,e,q⟩:=Z1;rw[h]at e;cases e;exact q,λq=>⟨v,h,q⟩⟩
def dF(h:dQ H p=some (b,xs))(e:atI xs i=some v):ixF H (.ref p) (.int i)=some v:=by show(dQ H p).bind (λq=>atI q.2 i)=_;rw[h];exact e
def bZ7{c:Nat}(h:z.length<=sizeLine)(e:atI z.cps.toList i=some c):ixF H (.str z) (.int i)=some (.str ⟨#[c]⟩):=by
 show(if z.length<=sizeLine then(atI z.cps.toList i).map λc=>V.str ⟨#[c]⟩else none)=_;rw[a3p h,e];rfl
end
def bG0{X:Cx}{x:Str}{i:Int}{pos:Pos}(a:Gl X x)(h:∃ t,X.mg x=some (.int i t))(hd:(x==("__debug__":Str))=false:=by decide):PE X (.Name x pos) (tC (.int i)):=
 let ⟨_,e⟩:=h;mT a e ⟨_,rfl⟩ hd
def dI2{i j:Int}(a:-(2 ^ 64) < j)(b:j < 2 ^ 64):bE4 i j:=.inr ⟨a,b⟩
section
variable{σ:St}{H:Hp}{Q:VK}{p:Addr}{xs:List V}{k:Int}{j:Nat}{v:V}
def aR1{R:Hp->Prop}(h:H p=some (.lst xs))(e:ixN xs.length k=some j):bZ0 (.ref p) (.int k) v H R=R (upd H p (.lst (xs.set j v))):=
 propext ⟨λZ1=>by obtain⟨d,ys,f,j',b,c,h',a,q⟩:=Z1;cases b;cases c;rw[h]at h';cases h';rw[e]at a;cases a;exact q,λq=>⟨p,xs,k,j,rfl,rfl,h,e,q⟩⟩
theorem bS5{i j:Int}(a:-(2 ^ 64) < j)(b:j < 2 ^ 64):bE4 i j=True:=eq_true (.inr ⟨a,b⟩)
theorem cS3{i j:Int}(a:0 < j)(b:j < 1073741824):cO6 i j=True:=eq_true ⟨a,b⟩
def kU{sp:Sp}{vs:List V}{E:XK}{t:Tag Q}(h:sp vs H Q E):Ask sp vs H E Q t:=h
def lD{a:Type}{ys:List a}{i:Int}(h0:0<=i)(b:i < ys.length):∃ c,atI ys i=some c:=by
 obtain⟨n,rfl⟩:=Int.eq_ofNat_of_zero_le h0;have hn:n < ys.length:=by lia
 exact⟨ys[n],mZ (a0a hn)⟩
def iM{a:Type}{ys:List a}{i:Int}{c:a}(h:atI ys i=some c):c∈ys:=by
 obtain⟨j,_,b,_⟩:=tZ h;exact a9b b
end
end L2
namespace L2
open PySem
def aR2{i j:Int}{g:Int->Int->V}{H:Hp}{Q:VK}(h:0 < j):rI (λ_ j=>0 < j) g (.int i) (.int j) H Q=Q (g i j) H:=bF4 h
def bZ8{i j:Int}{g:Int->Int->V}{H:Hp}{Q:VK}(h:cO6 i j):rI cO6 g (.int i) (.int j) H Q=Q (g i j) H:=bF4 h
theorem bS6{t:TA}{σ:St}{H:Hp}{Q:VK}:dM6 t σ H Q=t σ H λxs a=>xs.length<=sizeLine/\∀ p,a p=none->Q (.ref p) (upd a p (.lst xs)):=rfl
theorem cS4{K:W.Frag}{T:String}{r:V->List V->Hp->VK->Prop}{to:TE}{t:TA}{σ:St}{H:Hp}{Q:VK}:tBM K T r to t σ H Q=to σ H λx a=>tyV K T x a/\t σ a λxs b=>r x xs b Q:=rfl
def nB{a b:Type}{f:a->b}{ys:List a}{i:Int}:atI (ys.map f) i=(atI ys i).map f:=by
 unfold atI;rw[a1a];cases ixN ys.length i with
 | none=>rfl
 | some j=>simp
def aX{H:Hp}{p:Addr}{o:HO}(h:H p=none):kJ H (upd H p o):=λb u e=>by rw[aD (aC e h)];exact e
def dI3(own:List Nat)(g:TG)(d:TT)(e:TE)(σ:St)(J:It)(f:Hp)(F:List V->Hp->Prop):Prop:=
 ∃ W:Nat->Nat->List V->Hp->Prop,(∃ m,W 0 m [] f)/\∀ i m ys H,W i m ys H->ys.length<=sizeLine /\
   ((J.stop i H/\F ys H)\/(J.go i H/\∀ x H',J.yld i H x H'->g x (blank own σ) H' λa h=>d a h λb c=>
     if b=true then e a c λv j=>∃ m',m' < m/\W (i+1) m' (ys++[v]) j else ∃ m',m' < m/\W (i+1) m' ys c))
def dP9(g:TG)(tb:TS)(D:Ends)(σ:St)(J:It)(b:Hp):Prop:=∃ W:Nat->Nat->St->Hp->Prop,(∃ m,W 0 m σ b)/\∀ i m σ H,W i m σ H ->
 (J.stop i H/\D.nx σ H)\/(J.go i H/\∃ N:St->Hp->Prop,(∀ σ' H',N σ' H'->∃ m',m' < m/\W (i+1) m' σ' H')/\∀ x H',J.yld i H x H'->g x σ H' λa c=>tb {D with nx:=N,ct:=N,bk:=D.nx} a c)
theorem aR3{own:List Nat}{a:TI}{g:TG}{b:TT}{c:TE}{σ:St}{H:Hp}{Q:VK}:aJ7 own a g b c σ H Q=a σ H λJ d=>dI3 own g b c σ J d λys H'=>∀ p,H' p=none->Q (.ref p) (upd H' p (.lst ys)):=rfl
theorem bS7{a:TI}{g:TG}{tb:TS}{D:Ends}{σ:St}{H:Hp}:dF0 a g tb D σ H=a σ H λJ H1=>dP9 g tb D σ J H1:=rfl
def cS5(K:W.Frag)(x:V)(a:Hp)(R:It->Hp->Prop):Prop:=match x with
 | .str z=>R (Its z) a
 | .ref p=>(∃ xs,dQ a p=some (true,xs)/\R (Itl K p) a)\/∃ xs,dQ a p=some (false,xs)/\R (Itt K p) a
 | _=>False
theorem aR4{K:W.Frag}{a:TE}{σ:St}{H:Hp}{R:It->Hp->Prop}:dI1 K a σ H R=a σ H λx b=>cS5 K x b R:=rfl
def pI{K:W.Frag}{p:Addr}{xs:List V}{H:Hp}{R:It->Hp->Prop}(h:dQ H p=some (true,xs)):cS5 K (.ref p) H R=R (Itl K p) H:=
 propext ⟨λq=>by
  rcases q with⟨_,_,q⟩ | ⟨_,e,_⟩;exact q;rw[h]at e;exact(nomatch e),λq=>.inl ⟨xs,h,q⟩⟩
theorem aR5{a:TA}{σ:St}{H:Hp}{R:It->Hp->Prop}:bY3 a σ H R=a σ H λvs H1=>∃ j:Int,vs=[.int j] /\ -(2 ^ 62)<=j/\j < 2 ^ 62/\R (Itr 0 j.toNat) H1:=rfl
theorem wH{σ:St}:blank [] σ=σ:=rfl
theorem wI{i:Nat}{r:List Nat}{σ:St}:blank (i::r) σ=blank r (σ.set i none):=rfl
def bG1{i j:Int}:decide (V.int i=V.int j)=decide (i=j):=by
 by_cases h:i=j;subst h;simp;rw[a3r h,a3r λe=>h (V.int.inj e)]
def bG2{i j:Str}:decide (V.str i=V.str j)=decide (i=j):=by
 by_cases h:i=j;subst h;simp;rw[a3r h,a3r λe=>h (V.str.inj e)]
def bZ9(sep:Str)(ys:List Str):(Txt.join sep ys).length<=(ys.map (·.length)).sum+ys.length*sep.length:=by
 show(Builtin.Str.glued sep ys).length<=_;rw[StrLaws.glued_eq_join];exact StrLaws.join_length_le sep ys
end L2
namespace L2
def up{p q:Prop}(h:p=q)(a:q):p:=by rw[h];exact a
def bG3{K:PySem.W.Frag}{t:String}:PySem.W.kitOne K (.type t) (.type t)=some true:=by
 unfold PySem.W.kitOne;rw[a3p (by simp)]
open PySem PySem.Spec PyProof.Rows
section
variable{prog:Program}{w:World}{A:Around}{E:Value->Shared->Prop}
theorem qA{it:Addr}{x:Str}{t:Tok}{ty:String}(f:ty="str_ascii_iterator"\/ty="str_iterator"):∀ (n i:Nat) (s:Shared) (Q:List Value->Shared->Prop),s.heap.IsStrIter it ty x t i->i+n<=x.length ->
  (∀ h' tk us,h'.IsStrIter it ty x t (i+n)->Heap.SameBut it s.heap h'->bG (((eC x).drop i).take n) us->Q us {s with heap:=h',toks:=tk})->wpAny (model prog w) A (draw (.ref it) n) Q E s
 | 0,i,s,Q,hit,_,j=>by
   show wpAny _ _ (pure []) Q E s;exact a3o (by simpa using j s.heap s.toks [] hit (Heap.SameBut.refl ..) (by simpa using(.nil:bG [] [])))
 | n+1,i,s,Q,hit,hle,j=>by
   have g:i < x.cps.size:=by have:x.length=x.cps.size:=rfl;lia
   have k:x.cps[i]? = some x.cps[i]:=by simp[g]
   have hd:(eC x).drop i=V.str ⟨#[x.cps[i]]⟩::(eC x).drop (i+1):=by
    rw[List.drop_eq_getElem_cons (by rw[eP];exact g)];congr 1;simp[eC]
   show wpAny _ _ (pyNext (.ref it) >>= _) Q E s;have go:∀ b,b.IsStrIter it ty x t (i+1)->Heap.SameBut it s.heap b ->
     wpAny (model prog w) A (match (some (Value.str ⟨#[x.cps[i]]⟩ s.toks))with | none=>pure [] | some v=>do return v::(← holding [v] (draw (.ref it) n))) Q E {s with heap:=b,toks:=s.toks+1}:=λb a c=>by
    refine a3n (a3s (qA f n (i+1) _ _ a (by lia) λh tk us d e l=>a3o ?_));refine j h tk _ (by rw[show i+(n+1)=i+1+n by lia];exact d) (c.trans e) ?_;rw[hd,List.take_succ_cons];exact .cons ⟨_,rfl⟩ l
   rcases f with rfl | rfl;exact a3n (wpAny_pyNext_ascii_item hit k λb a c=>go b a c);exact a3n (wpAny_pyNext_wide_item hit k λb a c=>go b a c)
def uK{s:Shared}{x:Str}{t:Tok}{targets:List (Bool×(Value->Sem Unit))}{Q:Unit->Shared->Prop}(hh:A.handled=none)
  (hn:targets.length=x.length) (hstar:targets.findIdx? (·.1)=none)
  (h:∀ h' tk us,Heap.ExtBut s.heap.objs.size s.heap h'->bG (eC x) us->wpAny (model prog w) A (assignInOrder (targets.map (·.2)) us) Q E {s with heap:=h',toks:=tk}) :
  wpAny (model prog w) A (unpack (.str x t) targets) Q E s:=by
 unfold unpack;rw[hn,hstar];refine a3n (a3s ?_);unfold unpackItems;refine a3n ?_;unfold notIterableAtAll;refine a3n (a3Y (typeIs_str _ _ _) F.slot_str_iter.lookup ?_);refine a3o ?_;simp only[Bool.false_eq_true,if_false];have go:∀ ty,(ty="str_ascii_iterator"\/ty="str_iterator")->wpAny (model prog w) A (do
   let items ← holding [Value.ref s.heap.objs.size] (draw (.ref s.heap.objs.size) x.length)
   if items.length < x.length then
    rule "unpack.too-few";raiseError "ValueError" s!"not enough values to unpack (expected {x.length}, got {items.length})"
   if(← holding items (pyNext (.ref s.heap.objs.size))).isSome then
    rule "unpack.too-many";raiseError "ValueError" s!"too many values to unpack (expected {x.length})"
   return items:Sem (List Value)) (λus s'=>wpAny (model prog w) A (assignInOrder (targets.map (·.2)) us) Q E s') E {s with heap:=s.heap.push {cls:=.type ty,data:=.fields #[.str x t,.int 0 0]}}:=by
  intro ty hty;refine a3n (a3s (qA (it:=s.heap.objs.size) (x:=x) (t:=t) hty x.length 0 _ _ ⟨_,a2b _ rfl,rfl,rfl⟩ (by lia) λh₁ tk us hit₁ hs₁ hv=>?_));have hv':bG (eC x) us:=by
   have e:((eC x).drop 0).take x.length=eC x:=by
    rw[List.drop_zero];exact a4g (by rw[eP];exact a6a _)
   rw[e]at hv;exact hv
  have hl:us.length=x.length:=by rw[← hv'.length,eP]
  rw[a3q (by lia)];have hend:x.cps[x.length]? = none:=by simp[Str.length]
  rw[a3g]at hit₁;have fin:∀ h₂,Heap.ExtBut s.heap.objs.size h₁ h₂->wpAny (model prog w) A (do
    if(none:Option Value).isSome then
     rule "unpack.too-many";raiseError "ValueError" s!"too many values to unpack (expected {x.length})"
    return us:Sem (List Value)) (λus s'=>wpAny (model prog w) A (assignInOrder (targets.map (·.2)) us) Q E s') E {s with heap:=h₂,toks:=tk}:=by
   intro h₂ he₂;simp only[Option.isSome_none,Bool.false_eq_true,if_false];exact a3o (h h₂ tk us (λb o hb e=>he₂ b o hb (hs₁.extBut b o hb (a2a _ e))) hv')
  rcases hty with rfl | rfl;exact a3n (a3s (wpAny_pyNext_ascii_end hh hit₁ hend λh₂ he₂=>fin h₂ he₂));exact a3n (a3s (wpAny_pyNext_wide_end hh hit₁ hend λh₂ he₂=>fin h₂ he₂))
 cases ha:x.cps.all (· < 128)with
 | true=>exact a3n (a3s (wpAny_pyIter_ascii ha (go _ (.inl rfl))))
 | false=>exact a3n (a3s (wpAny_pyIter_wide ha (go _ (.inr rfl))))
end
section
variable{X:Cx}{pos:Pos}
def bG4(K:W.Frag)(n:Nat)(t:TGs):TG:=λv σ H Q=>match v with
 | .str z=>z.length=n/\t (eC z) σ H Q
 | .ref a=>∃ xs,dQ H a=some (false,xs)/\xs.length=n/\t xs σ H Q
 | _=>False
def cA0{es:List Expr}{k:Nat}{t:TGs}{n:Nat}(g:X.calm=true)(h:PGs X es t)
  (hn:(assignEach es X.env).length=n:=by rfl) (d:(assignEach es X.env).findIdx? (·.1)=none:=by rfl):PG X (.Tuple es k pos) (bG4 X.K n t):=by
 intro pins s σ H v u Q I r c;unfold bG4 at c;split at c;rename_i z;obtain⟨f,c⟩:=c;obtain⟨tk,rfl⟩:=r;rw[assign_Tuple];refine a3n (a3Q (uK (I.ok.hd g) (hn.trans f.symm) d λh' tk us i j=>?_));have l:Inv X pins σ H {s with heap:=h',toks:=tk}:=I.kept λb o e=>i b o (a9c (a0b e)) e;exact h pins _ σ H _ _ Q l j c;rename_i a;obtain⟨xs,m,f,c⟩:=c;exact cO3 (k:=k) (pos:=pos) g h hn d pins s σ H _ u Q I r ⟨a,xs,rfl,cD m,f,c⟩;exact c.elim
end
section
variable{X:Cx}
def bS8:List V->Hp->VK->Prop:=λxs H Q=>∃ p b ys,xs=[.ref p]/\dQ H p=some (b,ys)/\∀ l,H l=none->Q (.ref l) (upd H l (.lst ys))
def jL:iH X (.type "list") bS8:=by
 intro pins s σ H xs us Q I r h;obtain⟨p,b,ys,rfl,a,q⟩:=h;cases b with
 | true=>exact nZ pins s σ H _ us Q I r ⟨p,ys,rfl,.inl (dU a),q⟩
 | false=>exact nZ pins s σ H _ us Q I r ⟨p,ys,rfl,.inr (cD a),q⟩
def cA1:List V->Hp->VK->Prop:=λxs H Q=>∃ p b ys,xs=[.ref p]/\dQ H p=some (b,ys)/\if b=true then ∀ l,H l=none->Q (.ref l) (upd H l (.tup ys))else Q (.ref p) H
def lF:iH X (.type "tuple") cA1:=by
 intro pins s σ H xs us Q I r h;obtain⟨p,b,ys,rfl,a,q⟩:=h;cases b with
 | true=>exact kZ pins s σ H _ us Q I r ⟨p,ys,rfl,.inl ⟨dU a,by simpa using q⟩⟩
 | false=>exact kZ pins s σ H _ us Q I r ⟨p,ys,rfl,.inr ⟨cD a,by simpa using q⟩⟩
def bG5:R2:=λx y H Q=>match x,y with
 | .int i,.int j=>bE4 i j/\Q (.int (i*j)) H
 | .str z,.int i=>z.length<=1000/\0<=i/\i<=1000/\∀ y:Str,y.length<=z.length*i.toNat->y=Txt.mul z i->Q (.str y) H
 | _,_=>False
def cA2(z:Str)(i:Int)(h0:0<=i):(Txt.mul z i).length<=z.length*i.toNat:=by
 unfold Txt.mul;by_cases b:i < 1;rw[a3p b];exact a2d _;rw[a3q b];by_cases c:(i==1||z.length==0)=true
 ·rw[a3p c];have:1<=i.toNat:=by lia
  calc z.length=z.length*1:=by rw[Nat.mul_one]
   _<=z.length*i.toNat:=Nat.mul_le_mul_left _ this
 ·rw[a3q c];have a:∀ (k:Nat) (acc:Array Nat),((List.replicate k z.cps).foldl (· ++ ·) acc).size=acc.size+k*z.cps.size:=by
   intro k
   induction k with
   | zero=>intro acc;simp
   | succ k d=>
     intro acc;rw[List.replicate_succ,List.foldl_cons,d,Array.size_append,Nat.succ_mul];lia
  show((List.replicate i.toNat z.cps).foldl (· ++ ·) #[]).size<=_;rw[a];show 0+_<=_;rw[a3g,a5i];exact a6a _
def aD4:OpR X (binaryOp .Mult) bG5:=by
 intro pins s σ H x y v u Q I rx a h;unfold bG5 at h;split at h;exact cO8 pins s σ H _ _ v u Q I rx a ⟨_,_,rfl,rfl,h.1,h.2⟩
 ·rename_i z i;obtain⟨c,d,g,q⟩:=h;obtain⟨t,rfl⟩:=rx;obtain⟨b,rfl⟩:=a;have e:z.length*i.toNat<=1000*1000:=Nat.mul_le_mul c (by lia);refine SB.mul ⟨?_,λha f=>?_,λha f=>?_⟩ λb k=>⟨.str _,H,I.tok k,⟨b,rfl⟩,q _ (cA2 z i d) rfl⟩;rw[a3r (by lia),a3r (by lia)];rfl
  ·have j:(1000:Int)<=(2 ^ 63-1) / i:=by
    rw[Int.le_ediv_iff_mul_le (by lia)];lia
   lia
  ·unfold Builtin.Str.tooLong;exact a3r (by rw[a3O];lia)
 ·exact h.elim
def dM7(neg:Bool):R2:=λx y H Q=>match y with
 | .str j=>(match x with | .str i=>Q (.bl (if neg then(Builtin.Str.occurrences j i 0 j.length 1).isEmpty else !(Builtin.Str.occurrences j i 0 j.length 1).isEmpty)) H | _=>False)
 | .ref p=>∃ b xs,dQ H p=some (b,xs)/\pX x=true/\xs.all pX=true/\Q (.bl (if neg then !inV x xs else inV x xs)) H
 | _=>False
def cS6:OpR X (compareOp .In) (dM7 false):=by
 intro pins s σ H x y v u Q I rx a h;unfold dM7 at h;split at h;split at h;exact vV pins s σ H _ _ v u Q I rx a ⟨_,_,rfl,rfl,by simpa using h⟩;exact h.elim;rename_i p;obtain⟨b,xs,c,d,e,q⟩:=h;exact aQ1 pins s σ H _ _ v u Q I rx a ⟨p,xs,rfl,by cases b;exact .inr (cD c);exact .inl (dU c),d,e,q⟩;exact h.elim
end
def cA3{c:TT}{tb:TS}{D:Ends}{σ:St}{H:Hp}(Pv:Nat->St->Hp->Prop)(a:Nat)(h0:Pv a σ H)
  (step:∀ m σ H (N:St->Hp->Prop),Pv m σ H->(∀ σ' H' m',m' < m->Pv m' σ' H'->N σ' H')->c σ H λb d=>if b=true then ∃ M:St->Hp->Prop,(∀ σ' H',M σ' H'->N σ' H')/\tb {D with nx:=M,ct:=M,bk:=D.nx} σ d else D.nx σ d):bQ8 c tb D σ H:=by
 refine⟨Pv,⟨a,h0⟩,λm σ H p=>?_⟩;exact step m σ H (λσ' H'=>∃ m',m' < m/\Pv m' σ' H') p λσ' H' m' hm q=>⟨m',hm,q⟩
section
variable{H:Hp}{Q:VK}{i j:Int}{p:Addr}{b:Bool}{xs:List V}
theorem aD5(h:bE4 i j):bG5 (.int i) (.int j) H Q=Q (.int (i*j)) H:=propext ⟨λq=>q.2,λq=>⟨h,q⟩⟩
def pJ(h:dQ H p=some (b,xs)):bS8 [.ref p] H Q=∀ l,H l=none->Q (.ref l) (upd H l (.lst xs)):=
 propext ⟨λZ1=>by obtain⟨_,_,_,e,h',q⟩:=Z1;cases e;rw[h]at h';cases h';exact q,λq=>⟨p,b,xs,rfl,h,q⟩⟩
def cS7{n:Nat}{d:Int}(h0:0<=d)(a:d < n):ixN n d=some d.toNat:=by unfold ixN;rw[a3p h0,a3p a]
def tyL{K:W.Frag}(h:H p=some (.lst xs)):tyV K "list" (.ref p) H:=.inl ⟨rfl,_,SqL.of h⟩
end
end L2
namespace L2
theorem sY{a:Type}:∀ (l:List a) (i:Nat) (h:i < l.length),(l[i]::l.eraseIdx i).Perm l
 | [],i,h=>absurd h (a6e _)
 | x::r,0,_=>by simpa using List.Perm.refl _
 | x::r,i+1,h=>by
   have b:=sY r i (by simpa using h);simp only[List.getElem_cons_succ,List.eraseIdx_cons_succ];exact(List.Perm.swap x _ _).trans (b.cons x)
open PySem
def bG6{x:Str}{j:Int}(h0:0<=j)(a:j<=x.length):(Txt.slice x none (some j)).cps.toList=x.cps.toList.take j.toNat:=by
 have e:=PySem.StrLaws.sliceText_to (x:=x) (j:=j) ⟨h0,by simpa[Str.length]using a⟩;have b:Txt.slice x none (some j)=_:=e;rw[b];simp
def aK0{x:Str}{i:Int}(h0:0<=i)(b:i<=x.length):(Txt.slice x (some i) none).cps.toList=x.cps.toList.drop i.toNat:=by
 have a:i<=x.cps.toList.length:=by simpa[Str.length]using b
 have e:=PySem.StrLaws.sliceText_from (x:=x) (i:=i) ⟨h0,a⟩;have c:Txt.slice x (some i) none=_:=e;rw[c];show(x.cps.toList.drop i.toNat).take _=_;exact a4g (by rw[a0h];lia)
def iN(x:Str):x.length=x.cps.toList.length:=by simp[Str.length]
def gN{xs:List V}{m:Int}(h0:0<=m):pG xs none (some m)=xs.take m.toNat:=by
 unfold pG;obtain⟨n,rfl⟩:=Int.eq_ofNat_of_zero_le h0;rw[HT.sIx_none,HT.sIx_nat,List.drop_zero,Nat.sub_zero];rw[Int.toNat_natCast];by_cases h:n<=xs.length;rw[Nat.min_eq_left h];rw[Nat.min_eq_right (by lia),a4g (a6a _),a4g (by lia)]
def wJ(zs:List Str):(zs.map V.str).all pX=true:=by
 rw[List.all_map,a1i];intro z _;rfl
open PySem.Spec PyProof.Rows
inductive Dt where
 | non | int (i:Int) | str (x:Str) | tup (l:List Dt)
noncomputable instance:DecidableEq Dt:=λ_ _=>Classical.propDecidable _
mutual
inductive Rep(H:Hp):Dt->V->Prop
 | non:Rep H .non .non
 | int (i:Int):Rep H (.int i) (.int i)
 | str (x:Str):Rep H (.str x) (.str x)
 | tup {l:List Dt} {p:Addr} {xs:List V}:H p=some (.tup xs)->Reps H l xs->Rep H (.tup l) (.ref p)
inductive Reps(H:Hp):List Dt->List V->Prop
 | nil:Reps H [] []
 | cons {d:Dt} {r:List Dt} {x:V} {xs:List V}:Rep H d x->Reps H r xs->Reps H (d::r) (x::xs)
end
def cW(H H':Hp):Prop:=∀ p xs,H p=some (.tup xs)->H' p=some (.tup xs)
def cW.refl(H:Hp):cW H H:=λ_ _ h=>h
def cW.trans{H c d:Hp}(a:cW H c)(b:cW c d):cW H d:=λp xs h=>b p xs (a p xs h)
theorem cW.upd{H:Hp}{p:Addr}{o:HO}(h:∀ xs,H p≠some (.tup xs)):cW H (L2.upd H p o):=λq xs e=>by
 have:q≠p:=λz=>h xs (by rw[← z];exact e);rw[aD this];exact e
mutual
theorem Rep.inj{H:Hp}:∀ {d e:Dt} {x:V},Rep H d x->Rep H e x->d=e
 | _,_,_,.non,h=>by cases h;rfl
 | _,_,_,.int i,h=>by cases h;rfl
 | _,_,_,.str x,h=>by cases h;rfl
 | _,_,_,.tup h r,h'=>by
   cases h' with
   | tup a b=>
     rw[h]at a;cases a;rw[Reps.inj r b]
theorem Reps.inj{H:Hp}:∀ {l m:List Dt} {xs:List V},Reps H l xs->Reps H m xs->l=m
 | _,_,_,.nil,h=>by cases h;rfl
 | _,_,_,.cons a r,h=>by
   cases h with
   | cons a2 b=>rw[Rep.inj a a2,Reps.inj r b]
end
theorem Reps.length{H:Hp}:∀ {l:List Dt} {xs:List V},Reps H l xs->l.length=xs.length
 | _,_,.nil=>rfl
 | _,_,.cons _ r=>by simp[Reps.length r]
theorem Reps.get{H:Hp}:∀ {l:List Dt} {xs:List V} {i:Nat} {d:Dt},Reps H l xs->l[i]? = some d->∃ x,xs[i]? = some x/\Rep H d x
 | _,_,_,_,.nil,h=>by simp at h
 | _,_,0,_,.cons a r,h=>by simp at h;subst h;exact⟨_,rfl,a⟩
 | _,_,i+1,_,.cons a r,h=>by
   obtain⟨x,e,q⟩:=Reps.get (i:=i) r (by simpa using h);exact⟨x,by simpa using e,q⟩
mutual
def Dt.dep:Dt->Nat
 | .tup l=>Dt.deps l+1
 | _=>0
def Dt.deps:List Dt->Nat
 | []=>0
 | d::r=>max d.dep (Dt.deps r)
end
theorem uL:∀ {l:List Dt} {i:Nat} {d:Dt},l[i]? = some d->d.dep<=Dt.deps l
 | [],_,_,h=>by simp at h
 | e::r,0,d,h=>by
   simp at h;subst h;unfold Dt.deps;exact Nat.le_max_left _ _
 | e::r,i+1,d,h=>by
   have:=uL (l:=r) (i:=i) (d:=d) (by simpa using h);unfold Dt.deps;exact a8b this (Nat.le_max_right _ _)
def gO(l m:List Dt):((List.range (min l.length m.length)).all (λj=>decide (l[j]? = m[j]?))&&l.length==m.length)=decide (l=m):=by
 rw[a8f,a5d,a1i,a3u,a3w];constructor;rintro⟨a,b⟩;apply a3i;intro j;by_cases c:j < l.length;have:=a j (a2e.mpr (by lia));exact of_decide_eq_true this;rw[a7c.mpr (by lia),a7c.mpr (by lia)];rintro rfl;exact⟨λj _=>a3v rfl,rfl⟩
section
variable{X:Cx}{pins:List (Addr×Obj)}{σ:St}{H:Hp}{s:Shared}
def bG7(I:Inv X pins σ H s):∀ (n:Nat) {A:Around} {k D:Dt} {x y:V} {u v:Value},A.units+n < cLine->k.dep<=n->Rep H k x->Rep H D y->cY x u->cY y v->SeqAt.EqAt A s u v (decide (k=D)):=by
 intro n
 induction n with
 | zero=>
   intro A k D x y u v U hd F d g a;have b:A.units < cLine:=by lia
   cases F with
   | non=>
     cases g;cases d with
     | non=>cases a;rw[a3v rfl];exact SeqAt.EqAt.same _
     | int i=>obtain⟨t,rfl⟩:=a;rw[a3r (λz=>nomatch z)];exact SeqAt.EqAt.none_int _ _
     | str i=>obtain⟨t,rfl⟩:=a;rw[a3r (λz=>nomatch z)];exact SeqAt.EqAt.none_str _ _
     | tup h r=>
       cases a;rw[a3r (λz=>nomatch z)];obtain⟨its,_,f,_⟩:=I.tuple (SqT.of h);exact SeqAt.EqAt.none_tuple f b
   | int i=>
     obtain⟨t,rfl⟩:=g;cases d with
     | non=>cases a;rw[a3r (λz=>nomatch z)];exact SeqAt.EqAt.int_none _ _
     | int j=>
       obtain⟨o,rfl⟩:=a;have e:decide (Dt.int i=Dt.int j)=(i==j):=by
        rw[a8f,a3u,a3w];exact⟨λz=>by cases z;rfl,λz=>by rw[z]⟩
       rw[e];exact SeqAt.EqAt.int_int _ _ _ _
     | str j=>obtain⟨o,rfl⟩:=a;rw[a3r (λz=>nomatch z)];exact SeqAt.EqAt.int_str _ _ _ _
     | tup h r=>
       cases a;rw[a3r (λz=>nomatch z)];obtain⟨its,_,f,_⟩:=I.tuple (SqT.of h);exact SeqAt.EqAt.int_tuple _ _ f b
   | str i=>
     obtain⟨t,rfl⟩:=g;cases d with
     | non=>cases a;rw[a3r (λz=>nomatch z)];exact SeqAt.EqAt.str_none _ _
     | int j=>obtain⟨o,rfl⟩:=a;rw[a3r (λz=>nomatch z)];exact SeqAt.EqAt.str_int _ _ _ _
     | str j=>
       obtain⟨o,rfl⟩:=a;have e:decide (Dt.str i=Dt.str j)=(i==j):=by
        rw[a8f,a3u,a3w];exact⟨λz=>by cases z;rfl,λz=>by rw[z]⟩
       rw[e];exact SeqAt.EqAt.str_str _ _ _ _
     | tup h r=>
       cases a;rw[a3r (λz=>nomatch z)];obtain⟨its,_,f,_⟩:=I.tuple (SqT.of h);exact SeqAt.EqAt.str_tuple _ _ f b
   | tup h r=>unfold Dt.dep at hd;lia
 | succ n E=>
   intro A k D x y u v U hd F d g a;have b:A.units < cLine:=by lia
   cases F with
   | non=>exact E (by lia) (a2d _) .non d g a
   | int i=>exact E (by lia) (a2d _) (.int i) d g a
   | str i=>exact E (by lia) (a2d _) (.str i) d g a
   | @tup l p xs h r=>
     cases g;obtain⟨its,R,f,_⟩:=I.tuple (SqT.of h);cases d with
     | non=>cases a;rw[a3r (λz=>nomatch z)];exact SeqAt.EqAt.tuple_none f b
     | int j=>obtain⟨o,rfl⟩:=a;rw[a3r (λz=>nomatch z)];exact SeqAt.EqAt.tuple_int _ _ f b
     | str j=>obtain⟨o,rfl⟩:=a;rw[a3r (λz=>nomatch z)];exact SeqAt.EqAt.tuple_str _ _ f b
     | @tup m q ys G d=>
       cases a;obtain⟨c,w,J,_⟩:=I.tuple (SqT.of G);by_cases B:p=q;subst B;rw[h]at G;cases G;rw[Reps.inj r d,a3v rfl];exact SeqAt.EqAt.same _
       ·have K:Dt.deps l<=n:=by unfold Dt.dep at hd;lia
        have W:its.length=l.length:=by rw[← R.length,r.length]
        have Y:c.length=m.length:=by rw[← w.length,d.length]
        have C:=SeqAt.RcAt.tuples (A:=A) (e:=λj=>decide (l[j]? = m[j]?)) f J b λj Z L=>by
         have M:j < its.length:=by simpa using Z
         have N:j < c.length:=by simpa using L
         have O:l[j]? = some l[j]:=a0a (by lia);have hm:m[j]? = some m[j]:=a0a (by lia);obtain⟨x',ex,rx⟩:=r.get O;obtain⟨y',ey,ry⟩:=d.get hm;obtain⟨u',S,P⟩:=R.get ex;obtain⟨v',T,Q⟩:=w.get ey;have:=E (A:=A.in1) (by show A.units+1+n < cLine;lia) (a8b (uL O) K) rx ry P Q;have g1:its.toArray[j]=u':=by
          rw[a0a M]at S;simpa using S
         have g2:c.toArray[j]=v':=by
          rw[a0a N]at T;simpa using T
         rw[g1,g2];have e3:decide (l[j]? = m[j]?)=decide (l[j]=m[j]):=by rw[O,hm];simp
         rw[e3];exact this
        have e4:((List.range (min its.toArray.size c.toArray.size)).all (λj=>decide (l[j]? = m[j]?))&&its.toArray.size==c.toArray.size)=decide (Dt.tup l=Dt.tup m):=by
         rw[a9a,a9a,W,Y,gO];rw[a8f,a3u,a3u];exact⟨λz=>by rw[z],λz=>by cases z;rfl⟩
        rw[e4]at C;exact SeqAt.EqAt.of_refs B C
end
section
variable{X:Cx}{pins:List (Addr×Obj)}{σ:St}{H:Hp}{s:Shared}
def lG(I:Inv X pins σ H s){A:Around}{l m:List Dt}{xs ys:List V}{its a:List Value}(B:A.units+64 < cLine)(hd:Dt.deps l<=60)(h:Reps H l xs)(i:Reps H m ys)(k:bG xs its)(n:bG ys a) :
  ∀ j (o:j < its.toArray.size) (p:j < a.toArray.size),SeqAt.EqAt A.in1 s its.toArray[j] a.toArray[j] (decide (l[j]? = m[j]?)):=by
 intro j o p;have C:its.length=l.length:=by rw[← k.length,h.length]
 have D:a.length=m.length:=by rw[← n.length,i.length]
 have b:j < its.length:=by simpa using o
 have c:j < a.length:=by simpa using p
 have d:l[j]? = some l[j]:=a0a (by lia);have hm:m[j]? = some m[j]:=a0a (by lia);obtain⟨E,ex,rx⟩:=h.get d;obtain⟨F,t,u⟩:=i.get hm;obtain⟨v,q,e⟩:=k.get ex;obtain⟨w,r,f⟩:=n.get t;have g:=bG7 I 60 (A:=A.in1) (by show A.units+1+60 < cLine;lia) (a8b (uL d) hd) rx u e f;have x:its.toArray[j]=v:=by
  rw[a0a b]at q;simpa using q
 have y:a.toArray[j]=w:=by
  rw[a0a c]at r;simpa using r
 rw[x,y];have z:decide (l[j]? = m[j]?)=decide (l[j]=m[j]):=by rw[d,hm];simp
 rw[z];exact g
def cL9(neg:Bool):R2:=λx y H Q=>match x,y with
 | .ref p,.ref q=>∃ b xs ys l m,dQ H p=some (b,xs)/\dQ H q=some (b,ys)/\Reps H l xs/\Reps H m ys/\Dt.deps l<=60/\Q (.bl (if neg then !decide (l=m)else decide (l=m))) H
 | _,_=>bY4 x y=true/\Q (.bl (if neg then !decide (x=y)else decide (x=y))) H
def aD6{l m:List Dt}(h:l.length=m.length):(List.range l.length).all (λj=>decide (l[j]? = m[j]?))=decide (l=m):=by
 have:=gO l m;rw[h,Nat.min_self]at this;rw[h,← this];simp
def lH(n:X.A.units+64 < cLine):OpR X (compareOp .Eq) (cL9 false):=by
 intro pins s σ H x y v u Q I rx o h;unfold cL9 at h;split at h
 ·rename_i p q;obtain⟨b,xs,ys,l,m,r,t,e,f,hd,q⟩:=h;cases rx;cases o;have j:Q (.bl (decide (l=m))) H:=by simpa using q
  cases b with
  | true=>
    obtain⟨its,c,g,_⟩:=I.list (dU r);obtain⟨a,d,i,_⟩:=I.list (dU t);have k:its.length=l.length:=by rw[← c.length,e.length]
    have w:a.length=m.length:=by rw[← d.length,f.length]
    by_cases hs:l.length=m.length;refine SeqAt.eq_listAt g.isList i.isList (by simp only[List.size_toArray];lia) (by lia) (lG I n hd e f c d) (aU I j ?_);rw[a9a,k,aD6 hs];refine SeqAt.eq_list_lengthsAt g.isList i.isList (by simp only[List.size_toArray,bne_iff_ne];lia) (by lia) (aU I j ?_);exact a3r λz=>hs (by rw[z])
  | false=>
    obtain⟨its,c,g,_⟩:=I.tuple (cD r);obtain⟨a,d,i,_⟩:=I.tuple (cD t);have k:its.length=l.length:=by rw[← c.length,e.length]
    have w:a.length=m.length:=by rw[← d.length,f.length]
    refine SeqAt.eq_tupleAt g i (by lia) (lG I n hd e f c d) (aU I j ?_);rw[a9a,a9a,k,w,gO]
 ·exact dH3 pins s σ H _ _ v u Q I rx o ⟨h.1,by simpa using h.2⟩
def cS8(n:X.A.units+64 < cLine):OpR X (compareOp .NotEq) (cL9 true):=by
 intro pins s σ H x y v u Q I rx o h;unfold cL9 at h;split at h
 ·rename_i p q;obtain⟨b,xs,ys,l,m,r,t,e,f,hd,q⟩:=h;cases rx;cases o;have j:Q (.bl (!decide (l=m))) H:=by simpa using q
  cases b with
  | true=>
    obtain⟨its,c,g,_⟩:=I.list (dU r);obtain⟨a,d,i,_⟩:=I.list (dU t);have k:its.length=l.length:=by rw[← c.length,e.length]
    have w:a.length=m.length:=by rw[← d.length,f.length]
    by_cases hs:l.length=m.length;refine SeqAt.RcNeAt.lists g.isList i.isList (by simp only[List.size_toArray];lia) (by lia) (lG I n hd e f c d) _ _ _ _ (aU I j ?_);rw[a9a,k,aD6 hs];refine SeqAt.RcNeAt.lists_lengths g.isList i.isList (by simp only[List.size_toArray,bne_iff_ne];lia) (by lia) _ _ _ _ (aU I j ?_);rw[a3r λz=>hs (by rw[z])];rfl
  | false=>
    obtain⟨its,c,g,_⟩:=I.tuple (cD r);obtain⟨a,d,i,_⟩:=I.tuple (cD t);have k:its.length=l.length:=by rw[← c.length,e.length]
    have w:a.length=m.length:=by rw[← d.length,f.length]
    refine SeqAt.RcNeAt.tuples g i (by lia) (lG I n hd e f c d) _ _ _ _ (aU I j ?_);rw[a9a,a9a,k,w,gO]
 ·exact dH4 pins s σ H _ _ v u Q I rx o ⟨h.1,by simpa using h.2⟩
theorem aR6{i j:Int}{Q:VK}:cL9 false (.int i) (.int j) H Q=Q (.bl (decide (i=j))) H:=by
 show(bY4 _ _=true/\_)=_;rw[show bY4 (.int i) (.int j)=true from rfl,← bG1];simp
theorem aR7{i j:Str}{Q:VK}:cL9 true (.str i) (.str j) H Q=Q (.bl (!decide (i=j))) H:=by
 show(bY4 _ _=true/\_)=_;rw[show bY4 (.str i) (.str j)=true from rfl,← bG2];simp
end
section
variable{X:Cx}
def cA4{prog:Program}{w:World}{A:Around}{E:Value->Shared->Prop}{s:Shared}{t b:Addr}{ws:List Value}{Q:Value->Shared->Prop}(h:IsTup s.heap t ([]:List Value).toArray)(i:IsTup s.heap b ws.toArray)
  (j:Q (.ref b) s):wpAny (model prog w) A (binaryOp .Add (.ref t) (.ref b)) Q E s:=by
 obtain⟨⟨cls,k,data,sl⟩,e,f,n,hd⟩:=id h;obtain⟨⟨g,d,data2,sl2⟩,a,c,n2,hd2⟩:=id i;simp only at f hd c hd2;subst f hd c hd2;exact concat_meets ⟨_,e,rfl⟩ ⟨_,a,rfl⟩ noFill_tuple_add seq_tuple_add F.slot_tuple_add F.entry_tuple_add (F.args_tuple_add_2 _ _)
   (tuple_addW0 t b ([]:List Value).toArray ws.toArray n n2 k d sl sl2 (by simp)) ⟨e,a,j⟩
def bG8:R2:=λx y H Q=>match x,y with
 | .int i,.int j=>Q (.int (i+j)) H
 | .str a,.str b=>a.length+b.length<=sizeLine/\Q (.str (a++b)) H
 | .ref p,.ref q=>(∃ xs ys,H p=some (.lst xs)/\H q=some (.lst ys)/\xs.length+ys.length<=sizeLine/\∀ r,H r=none->Q (.ref r) (upd H r (.lst (xs++ys)))) \/
   ∃ xs ys,dQ H p=some (false,xs)/\dQ H q=some (false,ys)/\xs.length+ys.length<=sizeLine/\(xs=[]->Q (.ref q) H)/\(xs≠[]->ys=[]->Q (.ref p) H)/\(xs≠[]->ys≠[]->∀ r,H r=none->Q (.ref r) (upd H r (.tup (xs++ys))))
 | _,_=>False
def fW:OpR X (binaryOp .Add) bG8:=by
 intro pins s σ H x y v u Q I rx a h;unfold bG8 at h;split at h;exact cO7 pins s σ H _ _ v u Q I rx a ⟨_,_,rfl,rfl,h⟩;exact aI8 pins s σ H _ _ v u Q I rx a ⟨_,_,rfl,rfl,h.1,h.2⟩;rename_i p q;rcases h with⟨xs,ys,c,d,f,q⟩ | ⟨xs,ys,c,d,f,i,j,k⟩;exact cR0 pins s σ H _ _ v u Q I rx a ⟨_,_,xs,ys,rfl,rfl,c,d,f,q⟩;by_cases b:xs=[];cases rx;cases a;obtain⟨its,l,m,_⟩:=I.tuple (cD c);obtain⟨g,o,n,_⟩:=I.tuple (cD d);have e:its=[]:=l.nil_iff.mpr b;subst e;exact cA4 m n ⟨.ref q,H,I,rfl,i b⟩;exact bY8 pins s σ H _ _ v u Q I rx a ⟨p,q,xs,ys,rfl,rfl,cD c,cD d,b,f,j b,k b⟩;exact h.elim
theorem aD7{i j:Int}{H:Hp}{Q:VK}:bG8 (.int i) (.int j) H Q=Q (.int (i+j)) H:=rfl
def cS9(neg:Bool):R2:=λx y H Q=>match y with
 | .non=>Q (.bl (if neg then !decide (x=.non)else decide (x=.non))) H
 | .bl b=>(match x with | .bl a=>Q (.bl (if neg then !decide (a=b)else decide (a=b))) H | _=>False)
 | _=>False
end
section
variable{X:Cx}
def bS9:OpR X (compareOp .Is) (cS9 false):=by
 intro pins s σ H x y v u Q I rx c h;unfold cS9 at h;split at h;exact cP3 pins s σ H _ _ v u Q I rx c ⟨rfl,by simpa using h⟩;split at h;rename_i b a;cases rx;cases c;exact is_bool (aU I h (by cases a<;>cases b<;>rfl));exact h.elim;exact h.elim
def cA5:OpR X (compareOp .IsNot) (cS9 true):=by
 intro pins s σ H x y v u Q I rx c h;unfold cS9 at h;split at h;exact bY5 pins s σ H _ _ v u Q I rx c ⟨rfl,by simpa using h⟩;split at h;rename_i b a;cases rx;cases c;exact isnot_bool (aU I h (by cases a<;>cases b<;>rfl));exact h.elim;exact h.elim
def cA6:V->List V->Hp->VK->Prop:=λx vs H Q=>∃ (l:Addr) (a:List Str) (z:Str),x=.ref l/\vs=[.str z]/\H l=some (.lst (a.map V.str))/\z∈a/\∀ j,a[j]? = some z->Q .non (upd H l (.lst ((a.eraseIdx j).map V.str)))
theorem zB:∀ {zs:List Str} {us:List Value},bG (zs.map V.str) us->∀ u∈us,∃ z t,u=.str z t
 | [],_,.nil=>λu a=>nomatch a
 | z::r,_,.cons b c=>λu a=>by
   rcases a7b.mp a with e | e;obtain⟨t,q⟩:=b;exact⟨z,t,e.trans q⟩;exact zB c u e
noncomputable def isZ(z:Str):Value->Bool
 | .str y _=>y==z
 | _=>false
theorem wK{a b:Type}(f:a->b):∀ (l:List a) (i:Nat),(l.map f).eraseIdx i=(l.eraseIdx i).map f
 | [],i=>by simp
 | x::r,0=>by simp
 | x::r,i+1=>by simp[wK f r i]
def aR8:MtM X "list.remove" cA6:=by
 intro pins s σ H x vs v us Q I rx D h;obtain⟨l,a,z,rfl,rfl,o,E,q⟩:=h;cases rx;obtain⟨u,rfl,G⟩:=D.one;obtain⟨t,rfl⟩:=G;obtain⟨b,its,n,r,A,e⟩:=I.lstM o;have c:a.idxOf z < a.length:=List.idxOf_lt_length_of_mem E;have B:its.length=a.length:=by rw[← A,a1a]
 have at_:∀ (i:Nat) (hi:i < its.toArray.size) (d:i < a.length),isZ z its.toArray[i]=(a[i]==z):=λi hi d=>by
  obtain⟨w,C,g⟩:=r.get (i:=i) (x:=V.str a[i]) (by rw[a4b,a0a d];rfl);obtain⟨j,rfl⟩:=g;have:its.toArray[i]=Value.str a[i] j:=by
   have J:its[i]? = some its[i]:=a0a (by simpa using hi);rw[J]at C;simpa using C
  rw[this];rfl
 refine a3K F.slot_list_remove ⟨_,e,rfl⟩ F.entry_list_remove (F.args_list_remove_2 _ _)
  (MeetsSeq.list_remove l its.toArray n (.str z t) (isZ z) (λy K=>?_) (a.idxOf z) (by simp only[List.size_toArray];lia) ?_ (λm hm f=>?_) (by simp only[List.size_toArray];rw[← A];exact b)) ⟨e,?_⟩
 ·obtain⟨L,j,rfl⟩:=zB r y (by simpa using K);exact eqGives_str L z j t
 ·rw[at_ _ _ c];simp
 ·have k:m < a.length:=by simp only[List.size_toArray]at hm;lia
  rw[at_ m hm k];have:=List.not_of_lt_findIdx (p:=(· == z)) (xs:=a) (i:=m) f;exact this
 ·refine⟨.non,_,I.lset (its':=its.eraseIdx (a.idxOf z)) o e ?_ ?_ ?_,rfl,q (a.idxOf z) ?_⟩;show its.toArray.eraseIdxIfInBounds _=(its.eraseIdx _).toArray;rw[List.eraseIdxIfInBounds_toArray];have:=r.eraseIdx (a.idxOf z);rwa[wK]at this;have:=lA a (a.idxOf z);rw[a1a];rw[a1a]at b;lia;rw[a0a c];simp
end
section
variable{prog:Program}{w:World}{A:Around}{E:Value->Shared->Prop}{s:Shared}
def bG9{a:Addr}{o:Obj}{Q:Option Obj->Shared->Prop}(b:s.heap.get? a=some o)(h:Q (some o) s):wpAny (model prog w) A (loadIfAlive a) Q E s:=λΓ p _=>by
 unfold loadIfAlive;rw[Sem.wp_loadIfAlive,b];simpa using h
def aK1(h:Heap)(z TI TO T:Addr)(b:Bool):Prop:=h.get? z=some {cls:=.type "zip",dict:=none,data:=.fields #[rawInt T,.bool b,.bool false,.ref TI,.ref TO],slots:=#[]}
def aK1.heap{h:Heap}{z TI TO T:Addr}{b:Bool}(hz:aK1 h z TI TO T b):h.get? z=some {cls:=.type "zip",dict:=none,data:=.fields #[rawInt T,.bool b,.bool false,.ref TI,.ref TO],slots:=#[]}:=hz
def wL{z TI TO T:Addr}{b:Bool}{o:Obj}{Q:Bool->Shared->Prop}(hz:aK1 s.heap z TI TO T b)(hT:s.heap.get? T=some o)
  (h:∀ h',aK1 h' z TI TO T true->Heap.SameBut z s.heap h'->Q false {s with heap:=h'}):wpAny (model prog w) A (Builtin.SmallTypes.ownedTupleIsFree (.ref z)) Q E s:=by
 unfold Builtin.SmallTypes.ownedTupleIsFree;refine a3n (a3x hz.heap rfl (x:=rawInt T) rfl ?_);show wpAny _ _ (loadIfAlive (T:Int).toNat >>= _) _ _ _;refine a3n (bG9 (a:=(T:Int).toNat) (by rw[Int.toNat_natCast];exact hT) ?_);show wpAny _ _ (if(some o).isNone=true then _ else _) _ _ _;rw[a3q (by simp)]
 try (refine a3n (a3o ?_))
 show wpAny _ _ (field (.ref z) 1 >>= _) _ _ _;refine a3n (a3x hz.heap rfl (x:=.bool b) rfl ?_);cases b with
 | true=>
   rw[a3q (by decide)]
   try (refine a3n (a3o ?_))
   exact a3o (h s.heap hz (Heap.SameBut.refl _ _))
 | false=>
   rw[a3p (by decide)];refine a3n (wpAny_setField_rec hz.heap (by simp) λh' c d=>?_);exact a3o (h h' c d)
def aR9{z TI TO i1 i2 l1 l2 T:Addr}{u:Bool}{o:Obj}{k l:Nat}{xs ys:Array Value}{x y:Value}{Q:Value->Shared->Prop}(D:ZipApart z TI TO i1 i2 l1 l2)
  (hz:aK1 s.heap z TI TO T u) (hT:s.heap.get? T=some o) (m:IsPair s.heap TI (.ref i1) (.ref i2))
  (B:s.heap.IsListIter i1 l1 k) (C:s.heap.IsListIter i2 l2 l) (n:s.heap.IsList l1 xs) (p:s.heap.IsList l2 ys) (F:xs[k]? = some x) (G:ys[l]? = some y)
  (H:∀ h',aK1 h' z TI TO T true->h'.IsListIter i1 l1 (k+1)->h'.IsListIter i2 l2 (l+1)->IsPair h' s.heap.objs.size x y->h'.objs.size=s.heap.objs.size+1 ->
   (∀ c o,c≠z->c≠i1->c≠i2->s.heap.get? c=some o->h'.get? c=some o)->Q (.ref s.heap.objs.size) {s with heap:=h'}) :
  wpAny (model prog w) A (Builtin.«zip.__next__» ⟨[.ref z],[]⟩) (λfin s'=>∃ v,fin=.done (.ret v)/\Q v s') E s:=by
 (show wpAny _ _ (field (.ref z) 2 >>= _) _ _ _;refine a3n (a3x hz.heap rfl (x:=.bool false) rfl ?_))
 (show wpAny _ _ (field (.ref z) 3 >>= _) _ _ _;refine a3n (a3x hz.heap rfl (x:=.ref TI) rfl ?_))
 refine a3n (a3V m rfl ?_)
 (show wpAny _ _ (Builtin.SmallTypes.ownedTupleIsFree (.ref z) >>= _) _ _ _;refine a3n (wL hz hT λq g a=>?_))
 rw[a3q (by decide)]
 try (refine a3n (a3o ?_))
 refine a3n ?_;simp only[List.forIn_toArray,List.forIn_cons,List.forIn_nil];refine a3n (a3n (a3s ?_))
 (show wpAny _ _ (Builtin.SmallTypes.nextOf (.ref i1) >>= _) _ _ _;refine a3n (wpAny_nextOf_list_item (B.extBut a.extBut D.i1z) (n.extBut a.extBut D.l1z) F λr h b=>a3o (a3o ?_)))
 refine a3n (a3n (a3s ?_))
 (show wpAny _ _ (Builtin.SmallTypes.nextOf (.ref i2) >>= _) _ _ _;refine a3n (wpAny_nextOf_list_item ((C.extBut a.extBut D.i2z).extBut b.extBut D.i12.symm) ((p.extBut a.extBut D.l2z).extBut b.extBut D.l2i1) G λd i f=>a3o (a3o (a3o ?_))))
 refine a3n (wpAny_newTuple (hsz:=by show 2<=sizeLine;decide) ?_);have hsz:d.objs.size=s.heap.objs.size:=by rw[f.1,b.1,a.1]
 have j:aK1 d z TI TO T true:=f.extBut _ _ D.i2z.symm (b.extBut _ _ D.i1z.symm g);have up:∀ c o,d.get? c=some o->(d.push {cls:=.type "tuple",data:=.seq #[x,y]}).get? c=some o:=λc o e=>a2a _ e;refine a3o ⟨_,rfl,?_⟩;show Q (.ref d.objs.size) _;have t:IsPair (d.push {cls:=.type "tuple",data:=.seq #[x,y]}) d.objs.size x y:=a2b _ rfl;rw[hsz]at t ⊢;exact H _ (up _ _ j) ((h.extBut f.extBut D.i12).at λo e=>up _ o e) (i.at λo e=>up _ o e) t (by rw[a2h,hsz]) λc o I J K e=>up c o (f.extBut _ _ K (b.extBut _ _ J (a.extBut _ _ I e)))
def bH0{z TI TO i1 i2 l1 l2 T:Addr}{H:Bool}{o:Obj}{k l:Nat}{xs ys:Array Value}{Q:Fin->Shared->Prop}(B:A.handled=none)(D:ZipApart z TI TO i1 i2 l1 l2)
  (hz:aK1 s.heap z TI TO T H) (hT:s.heap.get? T=some o) (m:IsPair s.heap TI (.ref i1) (.ref i2))
  (C:s.heap.IsListIter i1 l1 k) (I:s.heap.IsListIter i2 l2 l) (g:s.heap.IsList l1 xs) (n:s.heap.IsList l2 ys) (i:xs[k]? = none\/ys[l]? = none)
  (F:∀ h' e,(∀ c o,c≠z->c≠i1->c≠i2->s.heap.get? c=some o->h'.get? c=some o)->(∃ o,h'.get? e=some o/\o.cls=.type "StopIteration")->E (.ref e) {s with heap:=h'}) :
  wpAny (model prog w) A (Builtin.«zip.__next__» ⟨[.ref z],[]⟩) Q E s:=by
 (show wpAny _ _ (field (.ref z) 2 >>= _) _ _ _;refine a3n (a3x hz.heap rfl (x:=.bool false) rfl ?_))
 (show wpAny _ _ (field (.ref z) 3 >>= _) _ _ _;refine a3n (a3x hz.heap rfl (x:=.ref TI) rfl ?_))
 refine a3n (a3V m rfl ?_)
 (show wpAny _ _ (Builtin.SmallTypes.ownedTupleIsFree (.ref z) >>= _) _ _ _;refine a3n (wL hz hT λG p a=>?_))
 rw[a3q (by decide)]
 try (refine a3n (a3o ?_))
 refine a3n ?_;simp only[List.forIn_toArray,List.forIn_cons,List.forIn_nil];refine a3n (a3n (a3s ?_))
 (show wpAny _ _ (Builtin.SmallTypes.nextOf (.ref i1) >>= _) _ _ _)
 cases r:xs[k]? with
 | none=>
   refine a3n (wpAny_nextOf_list_end B (C.extBut a.extBut D.i1z) (g.extBut a.extBut D.l1z) r λd e b t=>F d e (λc o u v _ q=>b _ _ v (a.extBut _ _ u q)) t)
 | some x=>
   have J:ys[l]? = none:=by
    rcases i with h | h;rw[r]at h;exact(nomatch h);exact h
   refine a3n (wpAny_nextOf_list_item (C.extBut a.extBut D.i1z) (g.extBut a.extBut D.l1z) r λd y b=>a3o (a3o ?_));refine a3n (a3n (a3s ?_))
   (show wpAny _ _ (Builtin.SmallTypes.nextOf (.ref i2) >>= _) _ _ _)
   refine a3n (wpAny_nextOf_list_end B ((I.extBut a.extBut D.i2z).extBut b.extBut D.i12.symm) ((n.extBut a.extBut D.l2z).extBut b.extBut D.l2i1) J λj e f t=>?_);exact F j e (λc o u v K q=>f _ _ K (b.extBut _ _ v (a.extBut _ _ u q))) t
def aK2{z TI TO i1 i2 l1 l2 T:Addr}{h:Bool}{o:Obj}{b d:Nat}{xs ys:Array Value}{x y:Value}{Q:Option Value->Shared->Prop}(D:ZipApart z TI TO i1 i2 l1 l2)
  (hz:aK1 s.heap z TI TO T h) (hT:s.heap.get? T=some o) (e:IsPair s.heap TI (.ref i1) (.ref i2))
  (i:s.heap.IsListIter i1 l1 b) (j:s.heap.IsListIter i2 l2 d) (f:s.heap.IsList l1 xs) (g:s.heap.IsList l2 ys) (k:xs[b]? = some x) (l:ys[d]? = some y)
  (m:∀ h',aK1 h' z TI TO T true->h'.IsListIter i1 l1 (b+1)->h'.IsListIter i2 l2 (d+1)->IsPair h' s.heap.objs.size x y->h'.objs.size=s.heap.objs.size+1 ->
   (∀ c o,c≠z->c≠i1->c≠i2->s.heap.get? c=some o->h'.get? c=some o)->Q (some (.ref s.heap.objs.size)) {s with heap:=h'}) :
  wpAny (model prog w) A (pyNext (.ref z)) Q E s:=by
 have a:s.TypeIs (.ref z) "zip":=⟨_,hz,rfl⟩
 (unfold pyNext;refine a3n (a3R (wpAny_callSpecial?_slot (name:=Str.ofString "__next__") a F.slot_zip_next ?_)))
 exact a3A F.slot_zip_next a F.entry_zip_next (aR9 D hz hT e i j f g k l λh' n p q r t u=>a3o (m h' n p q r t u)) (F.args_zip_next_1 _)
def aS0{z TI TO i1 i2 l1 l2 T:Addr}{k:Bool}{o:Obj}{i j:Nat}{xs ys:Array Value}{Q:Option Value->Shared->Prop}(l:A.handled=none)(D:ZipApart z TI TO i1 i2 l1 l2)
  (hz:aK1 s.heap z TI TO T k) (hT:s.heap.get? T=some o) (f:IsPair s.heap TI (.ref i1) (.ref i2))
  (m:s.heap.IsListIter i1 l1 i) (n:s.heap.IsListIter i2 l2 j) (g:s.heap.IsList l1 xs) (h:s.heap.IsList l2 ys) (a:xs[i]? = none\/ys[j]? = none)
  (p:∀ h',(∀ c o,c≠z->c≠i1->c≠i2->s.heap.get? c=some o->h'.get? c=some o)->Q none {s with heap:=h'}):wpAny (model prog w) A (pyNext (.ref z)) Q E s:=by
 have d:s.TypeIs (.ref z) "zip":=⟨_,hz,rfl⟩
 (unfold pyNext;refine a3n (a3R (wpAny_callSpecial?_slot (name:=Str.ofString "__next__") d F.slot_zip_next ?_)))
 refine a3A F.slot_zip_next d F.entry_zip_next (bH0 l D hz hT f m n g h a λh' e q r=>?_) (F.args_zip_next_1 _);obtain⟨o,t,u⟩:=r;exact a3n (wpAny_isInstance (T:="StopIteration") (b:=true) ⟨o,t,u⟩ isSubtype_stop (a3o (p _ q)))
end
noncomputable abbrev fV(acc:Array Value)(c:Nat):Obj:={cls:=.type "list",dict:=none,data:=.seq acc c,slots:=#[]}
structure LoopJ(prog:Program)(w:World)(A:Around)(I S:Addr)(n:Nat)(J:Nat->Array Value->Heap->Prop)(K:Array Value->Heap->Prop):Prop where
 item:∀ i acc (s:Shared) (c:Nat) (Q:Option Value->Shared->Prop) (E:Value->Shared->Prop),i < n->J i acc s.heap->s.heap.get? S=some (fV acc c) ->
  (∀ v h' tk,J (i+1) (acc.push v) h'->h'.get? S=some (fV acc c)->Q (some v) {s with heap:=h',toks:=tk})->wpAny (model prog w) A (pyNext (.ref I)) Q E s
 done:∀ acc (s:Shared) (c:Nat) (Q:Option Value->Shared->Prop) (E:Value->Shared->Prop),J n acc s.heap->s.heap.get? S=some (fV acc c) ->
  (∀ h' tk,K acc h'->h'.get? S=some (fV acc c)->Q none {s with heap:=h',toks:=tk})->wpAny (model prog w) A (pyNext (.ref I)) Q E s
 frame:∀ i acc h h',J i acc h->h'.objs.size=h.objs.size->(∀ b o,b≠S->h.get? b=some o->h'.get? b=some o)->J i acc h'
section
variable{prog:Program}{w:World}{A:Around}{E:Value->Shared->Prop}{I S:Addr}{n:Nat}{J:Nat->Array Value->Heap->Prop}{K:Array Value->Heap->Prop}{R:Result->Shared->Prop}
def bH1(L:LoopJ prog w A.in1 I S n J K)(hn:n<=sizeLine)(res:Value):∀ (k i:Nat) (s:Shared) (acc:Array Value) (c:Nat),n-i=k->i<=n->J i acc s.heap->acc.size=i->s.heap.get? S=some (fV acc c) ->
  (∀ h' tk a j,K a h'->a.size=n->h'.get? S=some (fV a j)->R (.ok (.ret res)) {s with heap:=h',toks:=tk})->codeAny (model prog w) A (.builtin "list.extend.loop" ⟨[.ref S,.ref I,res],[]⟩) R s:=by
 intro k
 induction k with
 | zero=>
   intro i s acc c x hi l ha m p;obtain rfl:i=n:=by lia
   (refine a3C F.entry_extend_loop ?_;rw[a1f a6g _])
   (show wpAny _ A.in1 (pyNext (.ref I) >>= _) _ _ s;refine a3n (L.done acc s c _ _ l m λh' tk q d=>?_))
   exact a3o (p h' tk acc c q ha d)
 | succ k y=>
   intro i s acc c x hi l ha m p;have f:i < n:=by lia
   (refine a3C F.entry_extend_loop ?_;rw[a1f a6g _])
   (show wpAny _ A.in1 (pyNext (.ref I) >>= _) _ _ s;refine a3n (L.item i acc s c _ _ f l m λv h' tk r d=>?_))
   (show wpAny _ A.in1 (updateSeq S (·.push v) >>= _) _ _ _;refine a3n ?_)
   refine a3Z d rfl (a3o ⟨a3J a6g _,y (i+1) _ (acc.push v) (c+1) (by lia) f ?_ (by rw[Array.size_push,ha]) ?_ ?_⟩) (by rw[ha];lia) (by show(acc.push v).size<=sizeLine+1;rw[Array.size_push,ha];lia);exact L.frame _ _ _ _ r (Heap.size_update ..) λb o z e=>(a4c _ _ (a3d z)).trans e;rw[a0d _ d rfl];simp[Obj.mapSeq];intro t g a j q u h;exact p t g a j q u h
def cA7(L:LoopJ prog w A.in1 I S n J K)(hn:n<=sizeLine)(res:Value){s:Shared}{c:Nat}{T:String}(hT:s.TypeIs (.ref I) T)(i:S≠I)(p:(Value.type T==Value.type "list")=false)(q:(Value.type T==Value.type "tuple")=false)
  (self:∀ Q:Value->Shared->Prop,Q (.ref I) s->wpAny (model prog w) A.in1 (pyIter (.ref I)) Q (λe s'=>R (.error e) s') s)
  (hint:∀ Q:Bool->Shared->Prop,(∀ b,Q b s)->wpAny (model prog w) A.in1 (Builtin.List.listLengthHint (.ref I)) Q (λe s'=>R (.error e) s') s)
  (k:J 0 #[] s.heap) (j:s.heap.get? S=some (fV #[] c)) (l:∀ h' tk a h,K a h'->a.size=n->h'.get? S=some (fV a h)->R (.ok (.ret res)) {s with heap:=h',toks:=tk}) :
  wpAny (model prog w) A.in1 (Builtin.List.listExtendWith (.ref S) (.ref I) res) (λfin s'=>match fin with | .done f=>R (.ok f) s' | .again h=>h.quiet=true/\codeAny (model prog w) A h R s') (λe s'=>R (.error e) s') s:=by
 unfold Builtin.List.listExtendWith;refine a3n (a3L hT ?_);have r:Builtin.List.listSameRef (.ref S) (.ref I)=false:=by simp[Builtin.List.listSameRef,i]
 rw[a3q (by rw[r,p,q];decide)];refine a3n (self _ (a3n (a3s (hint _ λb=>?_))));refine a4o (λ_=>?_) (λ_=>a3o ⟨a3J a6g _,bH1 L hn res n 0 s #[] c rfl (a2d _) k rfl j l⟩)
 (refine a3n (a4r ?_);refine a3n ?_)
 (show wpAny _ _ (updateSeq S (·.push .none) >>= λ_=>updateSeq S (·.pop)) _ _ _;refine a3n (a3Z j rfl ?_))
 have d:(s.heap.update S (Obj.mapSeq (·.push Value.none))).get? S=some (fV #[.none] (c+1)):=by
  rw[a0d _ j rfl];simp[Obj.mapSeq]
 refine a3Z (hz:=by seq_fits) d rfl ?_;have g:((s.heap.update S (Obj.mapSeq (·.push Value.none))).update S (Obj.mapSeq (·.pop))).get? S=some (fV #[] (c+2)):=by
  rw[a0d _ d rfl];simp[Obj.mapSeq]
 refine a3o ⟨a3J a6g _,bH1 L hn res n 0 _ #[] (c+2) rfl (a2d _) (L.frame _ _ _ _ k ?_ λb o m e=>?_) rfl g l⟩;exact(Heap.size_update ..).trans (Heap.size_update ..);exact(a4c _ _ (a3d m)).trans ((a4c _ _ (a3d m)).trans e)
end
def aS1:typeLookup (.type "zip") "__len__"=pure none:=by(rw[typeLookup_type,a3W];kernel_rfl)
def aK3:typeLookup (.type "zip") "__length_hint__"=pure none:=by(rw[typeLookup_type,a3W];kernel_rfl)
section
variable{prog:Program}{w:World}{A:Around}{E:Value->Shared->Prop}{s:Shared}{I:Addr}{Q:Bool->Shared->Prop}
def bH2(hT:s.TypeIs (.ref I) "zip")(h:∀ b,Q b s):wpAny (model prog w) A (Builtin.List.listLengthHint (.ref I)) Q E s:=by
 unfold Builtin.List.listLengthHint;refine a3n (a3Y hT aS1 ?_)
 (show wpAny _ A (specialOf (Value.ref I) (Str.ofString "__length_hint__") >>= _) _ _ _;refine a3n (a3Y hT aK3 ?_))
 exact a3o (h _)
end
def cA8{X:Cx}{T U:String}{x y:Str}{p c pos a:Pos}{e:Expr}{es:List Expr}{t:TA}{r:List V->Hp->VK->Prop}
  (l:∀ pins s σ H vs us Q,Inv X pins σ H s->bG vs us->r vs H Q->wpAny (model X.prog X.w) X.A (call (.type U) us) (λu s1=>wpAny (model X.prog X.w) X.A (call (.type T) [u]) (EP X pins σ Q) X.xe s1) X.xe s)
  (m:Gl X x) (hm:X.mg x=none) (n:bootBuiltins x=some (.type T)) (d:Gl X y) (f:X.mg y=none) (g:bootBuiltins y=some (.type U)) (ha:PA X (e::es) t)
  (hn:x≠"__name__":=by decide) (i:(x==("__debug__":Str))=false:=by decide) (j:y≠"__name__":=by decide) (b:(y==("__debug__":Str))=false:=by decide)
  (o:starEach (e::es) X.env=(false,eval e X.env)::starEach es X.env:=by rfl) (k:(backTo a (starEach es X.env)).any (·.1)=false:=by rfl)
  (hs:starEach [.Call (.Name y c) (e::es) [] a] X.env=(false,eval (.Call (.Name y c) (e::es) [] a) X.env)::starEach [] X.env:=by rfl) :
  PE X (.Call (.Name x p) [.Call (.Name y c) (e::es) [] a] [] pos) (tCB r t):=by
 intro pins s σ H Q I h;refine a3z (jR I m hm n ?_ hn i);refine a4e ?_ hs (by rfl);rw[hs]
 (show wpAny _ _ (spliced ((false,eval (.Call (.Name y c) (e::es) [] a) X.env)::backTo pos (starEach [] X.env))) _ _ s;refine Calls.spliced_cons ?_)
 refine a3z (jR I d f g ?_ j b);refine a4e ?_ o k;exact thn (ha a pins s σ H _ I h) λus s1 ⟨vs,q,v,z,B⟩=>thn (l pins s1 σ q vs us Q v z B) λu s2 C=>Calls.spliced_nil C
theorem Inv.adoptAll{X:Cx}{pins:List (Addr×Obj)}{σ:St}{s:Shared}:∀ (ps:List (Addr×List V)) {H:Hp},Inv X pins σ H s->(∀ p∈ps,Stray X pins H p.1)->(ps.map (·.1)).Nodup ->
  (∀ p∈ps,p.2.length<=sizeLine/\∃ its:List Value,bG p.2 its/\IsTup s.heap p.1 its.toArray/\dL7 s.heap p.1) ->
  ∃ H',Inv X pins σ H' s/\kJ H H'/\(∀ p∈ps,H' p.1=some (.tup p.2))/\∀ b,(∀ p∈ps,p.1≠b)->H' b=H b
 | [],H,I,_,_,_=>⟨H,I,kJ.refl H,(λp l=>absurd l (by simp)),λb _=>rfl⟩
 | p::ps,H,I,hs,e,j=>by
   obtain⟨a,xs⟩:=p;have st:=hs (a,xs) a4a;obtain⟨m,its,n,o⟩:=j (a,xs) a4a;have r:Inv X pins σ (upd H a (.tup xs)) s:=I.adopt st.un st.young st.loc st.cell st.pin ⟨m,its,n,o⟩;rw[a7e,a4j]at e;have h:∀ q∈ps,q.1≠a:=λq c z=>e.1 (a3h.mpr ⟨q,c,z⟩);obtain⟨H',t,d,i,f⟩:=Inv.adoptAll ps r (λq c=>by
    have g:=hs q (a8a _ c);exact⟨by rw[aD (h q c)];exact g.un,g.loc,g.young,g.cell,g.pin⟩) e.2 (λq c=>j q (a8a _ c))
   refine⟨H',t,(aX st.un).trans d,λq c=>?_,λb k=>?_⟩;rcases a7b.mp c with rfl | c;exact d a _ aE;exact i q c;rw[f b λq c=>k q (a8a _ c),aD λz=>k (a,xs) a4a z.symm]
section
variable{prog:Program}{w:World}{A:Around}{E:Value->Shared->Prop}{s:Shared}
end
section
variable{X:Cx}
end
structure ZJ(h0:Heap)(l1 l2:Addr)(xs ys:Array Value)(i:Nat)(acc:Array Value)(h:Heap):Prop where
 keep:∀ b o,h0.get? b=some o->h.get? b=some o
 st:(i=0/\IsZip h (h0.objs.size+4) (h0.objs.size+2) (h0.objs.size+3) .none)\/∃ T b o,aK1 h (h0.objs.size+4) (h0.objs.size+2) (h0.objs.size+3) T b/\h.get? T=some o/\h0.objs.size+6<=T
 ti:IsPair h (h0.objs.size+2) (.ref h0.objs.size) (.ref (h0.objs.size+1))
 to:∃ a b,IsPair h (h0.objs.size+3) a b
 i1:h.IsListIter h0.objs.size l1 i
 i2:h.IsListIter (h0.objs.size+1) l2 i
 sz:h0.objs.size+6<=h.objs.size
 len:acc.size=i
 got:∀ j,j < i->∃ T x y,acc[j]? = some (.ref T)/\xs[j]? = some x/\ys[j]? = some y/\IsPair h T x y/\h0.objs.size+6<=T
 nd:acc.toList.Nodup
structure ZK(h0:Heap)(xs ys:Array Value)(acc:Array Value)(h:Heap):Prop where
 keep:∀ b o,h0.get? b=some o->h.get? b=some o
 got:∀ j,j < min xs.size ys.size->∃ T x y,acc[j]? = some (.ref T)/\xs[j]? = some x/\ys[j]? = some y/\IsPair h T x y/\h0.objs.size+6<=T
 nd:acc.toList.Nodup
section
variable{prog:Program}{w:World}{A:Around}{E:Value->Shared->Prop}{s:Shared}
def aS2{N l1 l2:Addr}(a:l1 < N)(b:l2 < N):ZipApart (N+4) (N+2) (N+3) N (N+1) l1 l2:=by
 constructor<;>(unfold Addr at *;lia)
def aK4{acc:Array Value}{v:Value}(h:acc.toList.Nodup)(hn:∀ j:Nat,acc[j]? ≠ some v):(acc.push v).toList.Nodup:=by
 rw[Array.toList_push,List.nodup_append];refine⟨h,by simp,λa ha b d e=>?_⟩;have c:=a3b.mp d;subst c e;obtain⟨j,f,e⟩:=a5g ha;exact hn j (by rw[← a6c,a0a f,e])
def bH3{h0:Heap}{l1 l2:Addr}{xs ys:Array Value}(hh:A.handled=none)(p:h0.IsList l1 xs)(q:h0.IsList l2 ys) :
  LoopJ prog w A (h0.objs.size+4) (h0.objs.size+5) (min xs.size ys.size) (ZJ h0 l1 l2 xs ys) (ZK h0 xs ys):=by
 have R:l1 < h0.objs.size:=by obtain⟨_,e,_⟩:=p;exact a0b e
 have S:l2 < h0.objs.size:=by obtain⟨_,e,_⟩:=q;exact a0b e
 have D:=aS2 R S;have r:∀ {b:Addr} {o:Obj},h0.get? b=some o->b≠h0.objs.size+4/\b≠h0.objs.size+3/\b≠h0.objs.size/\b≠h0.objs.size+1/\b≠h0.objs.size+5:=λe=>by
  have:=a0b e;unfold Addr at *;lia
 refine⟨λi acc s' c Q' E' hi J U f=>?_,λacc s' c Q' E' J U f=>?_,λi acc h h' J g v=>?_⟩
 ·have V:xs[i]? = some xs[i]:=a3c (by lia);have W:ys[i]? = some ys[i]:=a3c (by lia);have F:s'.heap.IsList l1 xs:=p.at λo e=>J.keep _ o e;have L2:s'.heap.IsList l2 ys:=q.at λo e=>J.keep _ o e;have sz:=J.sz
  -- what the next state holds
  have G:∀ h':Heap,((∃ T b o,aK1 h' (h0.objs.size+4) (h0.objs.size+2) (h0.objs.size+3) T b/\h'.get? T=some o/\h0.objs.size+6<=T))->(∃ a b,IsPair h' (h0.objs.size+3) a b)->h'.IsListIter h0.objs.size l1 (i+1)->h'.IsListIter (h0.objs.size+1) l2 (i+1)->IsPair h' s'.heap.objs.size xs[i] ys[i] ->
    h'.objs.size=s'.heap.objs.size+1->(∀ c o,c≠h0.objs.size+4->c≠h0.objs.size+3->c≠h0.objs.size->c≠h0.objs.size+1->s'.heap.get? c=some o->h'.get? c=some o) ->
    ZJ h0 l1 l2 xs ys (i+1) (acc.push (.ref s'.heap.objs.size)) h':=by
   intro h' z1 z2 z3 z4 z5 z6 k;have X:∀ T,h0.objs.size+6<=T->T≠h0.objs.size+4/\T≠h0.objs.size+3/\T≠h0.objs.size/\T≠h0.objs.size+1:=λT hT=>by unfold Addr at *;lia
   refine⟨λb o e=>?_,.inr z1,?_,z2,z3,z4,by unfold Addr at *;lia,by rw[Array.size_push,J.len],λj B=>?_,aK4 J.nd λj e=>?_⟩;obtain⟨H,I,K,L,_⟩:=r e;exact k b o H I K L (J.keep b o e);exact k _ _ (by unfold Addr at *;lia) (by unfold Addr at *;lia) (by unfold Addr at *;lia) (by unfold Addr at *;lia) J.ti;by_cases M:j=i;subst M;exact⟨s'.heap.objs.size,_,_,by rw[Array.getElem?_push,J.len,a3p rfl],V,W,z5,sz⟩;obtain⟨T,x,y,s,N,O,t,C⟩:=J.got j (by lia);obtain⟨H,I,K,L⟩:=X T C;exact⟨T,x,y,by rw[Array.getElem?_push,J.len,a3q M];exact s,N,O,k _ _ H I K L t,C⟩;by_cases B:j < i
   ·obtain⟨T,x,y,s,_,_,t,_⟩:=J.got j B;rw[s]at e;have eT:T=s'.heap.objs.size:=by cases e;rfl
    have:=a0b t;rw[eT]at this;exact a0e _ this
   ·rw[a8i (by rw[J.len];lia)]at e;cases e
  have sS:∀ h':Heap,(∀ c o,c≠h0.objs.size+4->c≠h0.objs.size+3->c≠h0.objs.size->c≠h0.objs.size+1->s'.heap.get? c=some o->h'.get? c=some o)->h'.get? (h0.objs.size+5)=some (fV acc c):=λh' k=>
   k _ _ (by unfold Addr at *;lia) (by unfold Addr at *;lia) (by unfold Addr at *;lia) (by unfold Addr at *;lia) U
  rcases J.st with⟨rfl,g⟩ | ⟨T,b,o,g,hT,l⟩;obtain⟨a,b,d⟩:=J.to;refine wpAny_pyNext_zip_item D g J.ti d J.i1 J.i2 F L2 V W λh' Y a2 Z a4 Q a6 E=>?_;exact f _ h' s'.toks (G h' ⟨_,false,_,Y,Q,sz⟩ ⟨_,_,a2⟩ Z a4 Q a6 E) (sS h' E);obtain⟨a,b',d⟩:=J.to;refine aK2 D g hT J.ti J.i1 J.i2 F L2 V W λh' Y Z a4 Q a6 E=>?_;have P:∀ c o,c≠h0.objs.size+4->c≠h0.objs.size+3->c≠h0.objs.size->c≠h0.objs.size+1->s'.heap.get? c=some o->h'.get? c=some o:=λc o c1 _ c3 c4 e=>E c o c1 c3 c4 e;have hT':h'.get? T=some o:=E T o (by unfold Addr at *;lia) (by unfold Addr at *;lia) (by unfold Addr at *;lia) hT;exact f _ h' s'.toks (G h' ⟨T,true,o,Y,hT',l⟩ ⟨a,b',E _ _ (by unfold Addr at *;lia) (by unfold Addr at *;lia) (by unfold Addr at *;lia) d⟩ Z a4 Q a6 P) (sS h' P)
 ·have F:s'.heap.IsList l1 xs:=p.at λo e=>J.keep _ o e;have L2:s'.heap.IsList l2 ys:=q.at λo e=>J.keep _ o e;have n:xs[min xs.size ys.size]? = none\/ys[min xs.size ys.size]? = none:=by
   by_cases h:xs.size<=ys.size;exact .inl (a8i (by lia));exact .inr (a8i (by lia))
  have fin:∀ h':Heap,(∀ c o,c≠h0.objs.size+4->c≠h0.objs.size+3->c≠h0.objs.size->c≠h0.objs.size+1->s'.heap.get? c=some o->h'.get? c=some o)->ZK h0 xs ys acc h'/\h'.get? (h0.objs.size+5)=some (fV acc c):=λh' k=>by
   refine⟨⟨λb o e=>?_,λj B=>?_,J.nd⟩,k _ _ (by unfold Addr at *;lia) (by unfold Addr at *;lia) (by unfold Addr at *;lia) (by unfold Addr at *;lia) U⟩;obtain⟨H,I,K,L,_⟩:=r e;exact k b o H I K L (J.keep b o e);obtain⟨T,x,y,s,N,O,t,C⟩:=J.got j B;exact⟨T,x,y,s,N,O,k _ _ (by unfold Addr at *;lia) (by unfold Addr at *;lia) (by unfold Addr at *;lia) (by unfold Addr at *;lia) t,C⟩
  rcases J.st with⟨_,g⟩ | ⟨T,b,o,g,hT,l⟩;obtain⟨a,b,d⟩:=J.to;exact wpAny_pyNext_zip_end hh D g J.ti d J.i1 J.i2 F L2 n λh' v=>f h' s'.toks (fin h' v).1 (fin h' v).2;refine aS0 hh D g hT J.ti J.i1 J.i2 F L2 n λh' v=>?_;have:=fin h' λc o c1 _ c3 c4 e=>v c o c1 c3 c4 e;exact f h' s'.toks this.1 this.2
 ·have m:∀ {b:Addr} {o:Obj},b≠h0.objs.size+5->h.get? b=some o->h'.get? b=some o:=λhb e=>v _ _ hb e;refine⟨λb o e=>m (r e).2.2.2.2 (J.keep b o e),?_,m (by unfold Addr at *;lia) J.ti,?_,J.i1.at λo e=>m (by unfold Addr at *;lia) e,J.i2.at λo e=>m (by unfold Addr at *;lia) e,by rw[g];exact J.sz,J.len,λj B=>?_,J.nd⟩;rcases J.st with⟨z,u⟩ | ⟨T,b,o,u,hT,l⟩;exact .inl ⟨z,m (by unfold Addr at *;lia) u⟩;exact .inr ⟨T,b,o,m (by unfold Addr at *;lia) u,m (by unfold Addr at *;lia) hT,l⟩;obtain⟨a,b,d⟩:=J.to;exact⟨a,b,m (by unfold Addr at *;lia) d⟩;obtain⟨T,x,y,s,N,O,t,C⟩:=J.got j B;exact⟨T,x,y,s,N,O,m (by unfold Addr at *;lia) t,C⟩
end
section
variable{prog:Program}{w:World}{A:Around}{E:Value->Shared->Prop}{s:Shared}
def zC{h0:Heap}{l1 l2:Addr}{xs ys:Array Value}{Q:List Value->Shared->Prop}(p:A.handled=none)(h:h0.IsList l1 xs)(i:h0.IsList l2 ys)(hn:min xs.size ys.size<=sizeLine)
  (hz:IsZip s.heap (h0.objs.size+4) (h0.objs.size+2) (h0.objs.size+3) .none) (ti:IsPair s.heap (h0.objs.size+2) (.ref h0.objs.size) (.ref (h0.objs.size+1))) (to:IsPair s.heap (h0.objs.size+3) .none .none)
  (i1:s.heap.IsListIter h0.objs.size l1 0) (i2:s.heap.IsListIter (h0.objs.size+1) l2 0) (hsz:s.heap.objs.size=h0.objs.size+5) (q:∀ b o,h0.get? b=some o->s.heap.get? b=some o)
  (r:∀ h' tk acc,ZK h0 xs ys acc h'->acc.size=min xs.size ys.size->Q acc.toList {s with heap:=h',toks:=tk}):wpAny (model prog w) A (collect (.ref (h0.objs.size+4))) Q E s:=by
 have k:∀ R:Result->Shared->Prop,(∀ h' tk acc c,ZK h0 xs ys acc h'->acc.size=min xs.size ys.size->h'.get? (h0.objs.size+5)=some (fV acc c)->R (.ok (.ret (.ref (h0.objs.size+5)))) {s with heap:=h',toks:=tk}) ->
   codeAny (model prog w) A (.builtin "proto.collect" ⟨[.ref (h0.objs.size+4)],[]⟩) R s:=by
  intro R t
  (refine a3C F.entry_proto_collect ?_;rw[a1f F.plain_proto_collect _])
  (show wpAny _ A.in1 (newList [] >>= λl=>again (.builtin "list.__iadd__" ⟨[l,.ref (h0.objs.size+4)],[]⟩)) _ _ s;refine a3n (a3t ?_))
  (refine a3o ⟨a3J F.plain_list_iadd _,a3C F.entry_list_iadd ?_⟩;rw[a1f F.plain_list_iadd _])
  have u:(s.heap.push (fV #[] 0)).get? (h0.objs.size+5)=some (fV #[] 0):=by rw[← hsz];exact a2b _ rfl
  have up:∀ b o,s.heap.get? b=some o->(s.heap.push (fV #[] 0)).get? b=some o:=λb o e=>a2a _ e;have v:(s.heap.push (fV #[] 0)).objs.size=h0.objs.size+6:=by rw[a2h,hsz]
  have d:IsZip (s.heap.push (fV #[] 0)) (h0.objs.size+4) (h0.objs.size+2) (h0.objs.size+3) .none:=up _ _ hz
  (show wpAny _ A.in1 (Builtin.List.listExtendWith (.ref s.heap.objs.size) (.ref (h0.objs.size+4)) (.ref s.heap.objs.size)) _ _ {s with heap:=s.heap.push (fV #[] 0)})
  rw[hsz];have hT:Shared.TypeIs {s with heap:=s.heap.push (fV #[] 0)} (.ref (h0.objs.size+4)) "zip":=⟨_,d,rfl⟩;exact cA7 (R:=R) (bH3 (A:=A.in1) p h i) hn (.ref (h0.objs.size+5)) (s:={s with heap:=s.heap.push (fV #[] 0)}) (c:=0) hT (by unfold Addr at *;lia) (by decide) (by decide)
   (λx m=>wpAny_pyIter_zip d m) (λx m=>bH2 hT m) ⟨λb o e=>up b o (q b o e),.inl ⟨rfl,d⟩,up _ _ ti,⟨_,_,up _ _ to⟩,i1.at λo e=>up _ o e,i2.at λo e=>up _ o e,by rw[v];exact a6a _,rfl,λj y=>absurd y (a6e _),by simp⟩ u
   λh' tk g z n a f=>t h' tk g z n a f
 (unfold collect;refine a3n (wpAny_runValue (k _ λh' tk acc c n a f=>?_)))
 (show wpAny _ A (load (h0.objs.size+5) >>= _) _ _ _;refine a3n (a4n f ?_))
 exact a3o (r h' tk acc n a)
def zD{h0:Heap}{l1 l2:Addr}{xs ys:Array Value}{Q:Value->Shared->Prop}(k:A.handled=none)(f:h0.IsList l1 xs)(g:h0.IsList l2 ys)(hn:min xs.size ys.size<=sizeLine)
  (hz:IsZip s.heap (h0.objs.size+4) (h0.objs.size+2) (h0.objs.size+3) .none) (ti:IsPair s.heap (h0.objs.size+2) (.ref h0.objs.size) (.ref (h0.objs.size+1))) (to:IsPair s.heap (h0.objs.size+3) .none .none)
  (i1:s.heap.IsListIter h0.objs.size l1 0) (i2:s.heap.IsListIter (h0.objs.size+1) l2 0) (hsz:s.heap.objs.size=h0.objs.size+5) (l:∀ b o,h0.get? b=some o->s.heap.get? b=some o)
  (m:∀ h' tk acc,ZK h0 xs ys acc h'->acc.size=min xs.size ys.size->Q (.ref h'.objs.size) {s with heap:=h'.push {cls:=.type "tuple",data:=.seq acc},toks:=tk}) :
  wpAny (model prog w) A (call (.type "tuple") [.ref (h0.objs.size+4)]) Q E s:=by
 refine callType_codes (Q₁:=λobj a=>a.TypeIs obj "tuple"/\Q obj a) F.called_tuple (F.typeCall_tuple_1 _) F.entry_object_init ?_ λobj a c=>
  ⟨c.1,F.args_object_init_2 obj _,object_init_meets F.called_tuple.init.lookup F.called_tuple.made (by decide) prog w A.in1 _ a ⟨c.1,rfl,c.2⟩⟩
 refine codeAny_of_tree ?_
 (show wpAny _ A.in1.in1 (do checkBuiltinCall "tuple.__new__" ⟨[.type "tuple",.ref (h0.objs.size+4)],[]⟩;again (.builtin "tuple.__new__" ⟨[.type "tuple",.ref (h0.objs.size+4)],[]⟩)) _ _ s)
 (refine a3n (wpAny_of_eq (F.newCall_tuple_1 _) (a3o ⟨a3J F.plain_tuple_new _,a3C F.entry_tuple_new ?_⟩));rw[a1f F.plain_tuple_new _])
 have j:=sub_tuple_self;have h:=init_tuple_lookup;have n:=madeHere_tuple;have i:s.TypeIs (.ref (h0.objs.size+4)) "zip":=⟨_,hz,rfl⟩
 wp_walk using a3L i,zC (A:=A.in1.in1) k f g hn hz ti to i1 i2 hsz l
 intro h' tk acc p d
 (show wpAny _ _ (Builtin.Tuple.tupleExact acc.toList.toArray >>= λv=>ret v) _ _ _;unfold Builtin.Tuple.tupleExact)
 refine a3n (a3t ?_ (by show acc.toList.toArray.size<=sizeLine;simp only[Array.toArray_toList];rw[d];exact hn));have e:acc.toList.toArray=acc:=by simp
 rw[e];exact a3o ⟨⟨_,a2b _ rfl,rfl⟩,m h' tk acc p d⟩
end
section
variable{X:Cx}
def cA9:List V->Hp->VK->Prop:=λvs H Q=>∃ p q xs ys,vs=[.ref p,.ref q]/\H p=some (.lst xs)/\H q=some (.lst ys) /\
 ∀ r (ts:List Addr) H',kJ H H'->H r=none->H' r=some (.tup (ts.map V.ref))->ts.length=min xs.length ys.length->(∀ (j:Nat) t,ts[j]? = some t->∃ x y,xs[j]? = some x/\ys[j]? = some y/\H' t=some (.tup [x,y]))->Q (.ref r) H'
def bH4(hc:X.calm=true):∀ pins s σ H vs us Q,Inv X pins σ H s->bG vs us->cA9 vs H Q ->
  wpAny (model X.prog X.w) X.A (call (.type "zip") us) (λu s1=>wpAny (model X.prog X.w) X.A (call (.type "tuple") [u]) (EP X pins σ Q) X.xe s1) X.xe s:=by
 intro pins s σ H vs us Q I rv h;obtain⟨p,q,xs,ys,rfl,hp,hq,q⟩:=h;obtain⟨u,v,rfl,E,R⟩:=rv.two;cases E;cases R;obtain⟨z1,its1,n1,r1,len1,e1⟩:=I.lstM hp;obtain⟨z2,its2,n2,r2,len2,e2⟩:=I.lstM hq;have F:s.heap.IsList p its1.toArray:=⟨_,e1,rfl,_,rfl⟩;have G:s.heap.IsList _ its2.toArray:=⟨_,e2,rfl,_,rfl⟩;refine call_zip_2 F G λS hz U W Y Z hsz hk=>?_;have hn:min its1.toArray.size its2.toArray.size<=sizeLine:=by simp only[List.size_toArray];lia
 refine zD (h0:=s.heap) (s:={s with heap:=S}) (I.ok.hd hc) F G hn hz U W Y Z hsz hk λh' tk acc hK J=>?_;have hacc':acc.size=min its1.length its2.length:=by simpa using J
 -- the addresses of the pairs
 let ts:List Addr:=(List.range acc.size).map λj=>match (acc[j]?:Option Value)with | some (Value.ref T)=>T | _=>(0:Nat)
 have K:ts.length=min xs.length ys.length:=by simp only[ts,List.length_map,List.length_range];lia
 have g:∀ j,j < acc.size->∃ T x y,ts[j]? = some T/\acc[j]? = some (.ref T)/\its1[j]? = some x/\its2[j]? = some y/\IsPair h' T x y/\s.heap.objs.size+6<=T:=λj f=>by
  obtain⟨T,x,y,m,O,P,g4,g5⟩:=hK.got j (by simp only[List.size_toArray];lia);refine⟨T,x,y,?_,m,by simpa using O,by simpa using P,g4,g5⟩;simp only[ts];rw[a4b,List.getElem?_range f,Option.map_some,m]
 let ps:List (Addr×List V):=(List.range acc.size).map λj=>(ts[j]?.getD 0,[xs[j]?.getD .non,ys[j]?.getD .non])
 have I1:Inv X pins σ H {s with heap:=h',toks:=tk}:=I.kept hK.keep;have L:∀ pr∈ps,∃ j T x y u v,j < acc.size/\pr=(T,[x,y])/\ts[j]? = some T/\xs[j]? = some x/\ys[j]? = some y/\its1[j]? = some u/\its2[j]? = some v/\cY x u/\cY y v/\IsPair h' T u v/\s.heap.objs.size+6<=T:=λpr c=>by
  obtain⟨j,f,rfl⟩:=a3h.mp c;have a:=a2e.mp f;obtain⟨T,u,v,B,m,O,P,g4,g5⟩:=g j a;have C:xs[j]? = some xs[j]:=a0a (by lia);have D:ys[j]? = some ys[j]:=a0a (by lia);obtain⟨u',gu,E⟩:=r1.get C;obtain⟨v',gv,n⟩:=r2.get D;rw[O]at gu;cases gu;rw[P]at gv;cases gv;exact⟨j,T,xs[j],ys[j],_,_,a,by rw[B,C,D];rfl,B,C,D,O,P,E,n,g4,g5⟩
 have hnd:(ps.map (·.1)).Nodup:=by
  have:ps.map (·.1)=(List.range acc.size).map λj=>ts[j]?.getD 0:=by simp only[ps,List.map_map];rfl
  rw[this];refine List.pairwise_map.mpr ?_;refine List.Pairwise.imp_of_mem ?_ List.nodup_range;intro i j hi f hne e;have M:=a2e.mp hi;have a:=a2e.mp f;obtain⟨T,_,_,B,m,_⟩:=g i M;obtain⟨T',_,_,g0',g1',_⟩:=g j a;rw[B,g0']at e;have e':T=T':=e;subst e';have S:acc.toList[i]? = acc.toList[j]?:=by rw[a6c,a6c,m,g1']
  exact hne ((List.getElem?_inj (by rw[a1e];exact M) hK.nd).mp S)
 obtain⟨H',I2,d,hat,hoth⟩:=Inv.adoptAll ps I1 (λpr c=>by
   obtain⟨j,T,x,y,u,v,_,rfl,_,_,_,_,_,_,_,hT,hge⟩:=L pr c;exact I.stray (by unfold Addr at *;lia) (I.hok.fresh (by unfold Addr at *;lia))) hnd (λpr c=>by
   obtain⟨j,T,x,y,u,v,_,rfl,_,_,_,_,_,E,n,hT,hge⟩:=L pr c;exact⟨by show 2<=sizeLine;decide,[u,v],.cons E (.cons n .nil),⟨_,hT,rfl,_,rfl⟩,⟨_,hT,rfl⟩⟩)
 have k:H' h'.objs.size=none:=I2.hok.fresh (a6a _);have tv:bG (ts.map V.ref) acc.toList:=by
  have ea:acc.toList=ts.map Value.ref:=by
   apply a3i;intro j;by_cases f:j < acc.size;obtain⟨T,x,y,B,m,_⟩:=g j f;rw[a6c,m,a4b,B];rfl;rw[a7c.mpr (by rw[a1e];lia),a7c.mpr (by simp only[ts,List.length_map,List.length_range];lia)]
  rw[ea];generalize ts=l
  induction l with
  | nil=>exact .nil
  | cons t r ih=>exact .cons rfl ih
 refine⟨.ref h'.objs.size,upd H' h'.objs.size (.tup (ts.map V.ref)),I2.laid (t':=tk) (λb o e=>a2a _ e) (a6a _) ⟨by rw[a1a,K];lia,acc.toList,tv,⟨_,a2b _ rfl,rfl,0,by show Data.seq acc 0=Data.seq acc.toList.toArray 0;rw[Array.toArray_toList]⟩,⟨_,a2b _ rfl,rfl⟩⟩,rfl,?_⟩;refine q _ ts _ (d.trans (aX k)) ?_ aE K λj t f=>?_
 ·cases e:H h'.objs.size with
  | none=>rfl
  | some o=>rw[d _ _ e]at k;cases k
 ·have a:j < acc.size:=by
   have:=(a3a.mp f).1;simp only[ts,List.length_map,List.length_range]at this;exact this
  have N:(ts[j]?.getD 0,[xs[j]?.getD .non,ys[j]?.getD .non])∈ps:=a3h.mpr ⟨j,a2e.mpr a,rfl⟩;have C:xs[j]? = some xs[j]:=a0a (by lia);have D:ys[j]? = some ys[j]:=a0a (by lia);have:=hat _ N;rw[f,C,D]at this;have z:H' t=some (.tup [xs[j],ys[j]]):=this;exact⟨xs[j],ys[j],C,D,aX k _ _ z⟩
end
noncomputable def nD(t c:String):Bool:=t==c||(t=="bool"&&c=="int")
def bH5{K:W.Frag}{t c:String}(a:t="NoneType"\/t="int"\/t="bool"\/t="str"\/t="list"\/t="tuple")(b:c="int"\/c="bool"\/c="str"\/c="list"\/c="tuple"):W.kitOne K (.type t) (.type c)=some (nD t c):=by
 rcases a with rfl | rfl | rfl | rfl | rfl | rfl<;>rcases b with rfl | rfl | rfl | rfl | rfl<;>first | exact bG3 | rfl | (unfold W.kitOne;decide +kernel) | (unfold W.kitOne;rfl)
end L2
namespace Mr
open PySem L2 PyProof.Rows
abbrev Sps:=W.Frag->Sp
def bB(H:Hp)(p:Addr):Prop:=∃ i j:Int,H p=some (.lst [.int i,.int j])
def SameBut(p:Addr)(H H':Hp):Prop:=∀ b o,b≠p->H b=some o->H' b=some o
theorem bB.upd{H:Hp}{p q:Addr}{o:HO}(h:bB H p)(a:H q=none):bB (L2.upd H q o) p:=by
 obtain⟨i,j,e⟩:=h;exact⟨i,j,by rw[aD (aC e a)];exact e⟩
def bB.put{H:Hp}{p q:Addr}{o:HO}(h:bB H p)(a:q≠p):bB (L2.upd H q o) p:=by
 obtain⟨i,j,e⟩:=h;exact⟨i,j,by rw[aD a.symm];exact e⟩
def bB.same{H H':Hp}{p:Addr}(h:bB H p)(s:kJ H H'):bB H' p:=by
 obtain⟨i,j,e⟩:=h;exact⟨i,j,s _ _ e⟩
def bB.ne{H:Hp}{p q:Addr}(h:bB H p)(a:H q=none):q≠p:=by
 obtain⟨i,j,e⟩:=h;exact(aC e a).symm
theorem SameBut.upd{H a:Hp}{p q:Addr}{o:HO}(h:SameBut p H a)(c:a q=none):SameBut p H (L2.upd a q o):=λb u d e=>by
 have:=h b u d e;rw[aD (aC this c)];exact this
def SameBut.put{H a:Hp}{p q:Addr}{o:HO}(h:SameBut p H a)(c:H q=none):SameBut p H (L2.upd a q o):=λb u d e=>by
 rw[aD (aC e c)];exact h b u d e
def SameBut.trans{p:Addr}{H a c:Hp}(h:SameBut p H a)(h':SameBut p a c):SameBut p H c:=λb u d e=>h' b u d (h b u d e)
def SameBut.same{p:Addr}{H a c:Hp}(h:SameBut p H a)(h':kJ a c):SameBut p H c:=λb u d e=>h' b u (h b u d e)
def SameBut.refl{p:Addr}{H:Hp}:SameBut p H H:=λ_ _ _ e=>e
theorem SameBut.none{p q:Addr}{H H':Hp}(h:SameBut p H H')(b:bB H' p)(a:H' q=Option.none):H q=Option.none:=by
 cases e:H q with
 | none=>rfl
 | some o=>
   by_cases z:q=p;subst z;obtain⟨i,j,c⟩:=b;rw[c]at a;cases a;rw[h q o z e]at a;cases a
def SameBut.tup{p:Addr}{H H':Hp}(h:SameBut p H H')(a:bB H p):cW H H':=λq xs e=>by
 refine h q _ (λz=>?_) e;subst z;obtain⟨i,j,b⟩:=a;rw[b]at e;cases e
def zE:Sps:=λ_ vs H Q _=>∃ (p:Addr) (m:Int),vs=[.ref p,.int m]/\bB H p/\0 < m/\m < 1073741824 /\
 ∀ (d:Int) H',0<=d->d < m->bB H' p->SameBut p H H'->Q (.int d) H'
def wM:Sps:=λ_ vs H Q _=>∃ (p q:Addr) (b:Bool) (xs:List V),vs=[.ref p,.ref q]/\bB H p/\dQ H q=some (b,xs)/\xs.length<=1000 /\
 ∀ (r:Addr) (ys:List V) H',H r=none->H' r=some (.lst ys)->ys.Perm xs->bB H' p->SameBut p H H'->Q (.ref r) H'
def Shz(z:Str):Prop:=z.length<=100/\∀ c∈z.cps.toList,c < 128
def kK:Sps:=λ_ vs H Q _=>∃ (p q:Addr) (b:Bool) (xs:List V) (m:Int),vs=[.ref p,.ref q,.int m]/\bB H p/\dQ H q=some (b,xs)/\xs.length<=1000/\0<=m /\
 ∀ (r:Addr) (ys:List V) H',H r=none->H' r=some (.tup ys)->ys.length=min m.toNat xs.length->(∀ y∈ys,y∈xs)->bB H' p->SameBut p H H'->Q (.ref r) H'
def fQ(zs:List Str):Prop:=∀ z∈zs,Shz z
inductive Tr where
 | leaf (z:Str) | node (l r:Tr)
end Mr
namespace L2
open PySem PyProof.Rows
def zF{H:Hp}{Q:VK}{p:Addr}{xs:List V}(h:dQ H p=some (true,xs)):cA1 [.ref p] H Q=∀ l,H l=none->Q (.ref l) (upd H l (.tup xs)):=
 propext ⟨λZ1=>by obtain⟨_,_,_,e,h',q⟩:=Z1;cases e;rw[h]at h';cases h';simpa using q,λq=>⟨p,true,xs,rfl,h,by simpa using q⟩⟩
def wN{H:Hp}{Q:VK}{p:Addr}{xs:List V}{lo hi:Option Int}(h:dQ H p=some (true,xs))(q:∀ r,H r=none->Q (.ref r) (upd H r (.lst (pG xs lo hi)))):dI0 (.ref p) lo hi H Q:=Or.inl ⟨xs,h,q⟩
theorem dM8{i j:Int}:(if j < i then j else i)=min i j:=by
 by_cases h:j < i;rw[a3p h];lia;rw[a3q h];lia
theorem cT0{i j:Int}{R:Int->Int->Prop}:(∃ a b,[V.int i,V.int j]=[V.int a,V.int b]/\R a b)=R i j:=
 propext ⟨λZ1=>by obtain⟨a,b,e,q⟩:=Z1;cases e;exact q,λq=>⟨i,j,rfl,q⟩⟩
end L2
namespace L2
open PySem
def iP{t u:TS}{D:Ends}{σ:St}{H:Hp}(M:St->Hp->Prop)(a:∀ σ' H',M σ' H'->u D σ' H')(b:∀ C:St->Hp->Prop,(∀ σ' H',M σ' H'->C σ' H')->t {D with nx:=C} σ H):cO0 t u D σ H:=b (u D) a
theorem kM{zs:List Str}:∀ {ys:List V},(∀ y∈ys,y∈zs.map V.str)->∃ cs:List Str,ys=cs.map V.str/\∀ c∈cs,c∈zs
 | [],_=>⟨[],rfl,λ_ h=>nomatch h⟩
 | y::r,h=>by
   obtain⟨z,b,e⟩:=a3h.mp (h y a4a);obtain⟨cs,d,f⟩:=kM (ys:=r) λu g=>h u (a8a _ g);refine⟨z::cs,by rw[a7e,← d,e],λc a=>?_⟩;rcases a7b.mp a with rfl | a;exact b;exact f c a
def gP{H:Hp}{f:Addr}{es:List V}{o:HO}(h:H f=some (.lst es)):cW H (upd H f o):=cW.upd λxs e=>by rw[h]at e;cases e
def fR{H:Hp}{f:Addr}{o:HO}(h:H f=none):cW H (upd H f o):=cW.upd λxs e=>by rw[h]at e;cases e
theorem aD8{z:Str}:∀ {zs:List Str},inV (.str z) (zs.map V.str)=true->z∈zs
 | [],h=>by simp[inV]at h
 | y::r,h=>by
   unfold inV at h;rw[a7e,List.any_cons,Bool.or_eq_true]at h;rcases h with h | h
   ·have:y=z:=by simpa[eqV]using h
    rw[this];exact a4a
   ·exact a8a _ (aD8 h)
end L2
namespace L2
def dF3{a:Type}{x:a}{r:List a}:atI (x::r) 0=some x:=mZ (j:=0) (by simp)
theorem bT0{K:PySem.W.Frag}{T:String}{r:V->List V->Hp->VK->Prop}{to:TE}{σ:St}{H:Hp}{Q:VK}:dH7 K T r to σ H Q=to σ H λx a=>tyV K T x a/\r x [] a Q:=rfl
end L2
namespace Mr
open PySem L2
def zG{H:Hp}{w s:Addr}{ws:List Str}{es:List V}(c:H w=some (.lst (ws.map V.str)))(b:H s=some (.lst es)){a:Addr}(ha:V.ref a∈es):w≠s:=by
 intro z;subst z;rw[c]at b;cases b;obtain⟨z,_,e⟩:=a3h.mp ha;cases e
end Mr
namespace L2
open PySem
def qB{X:Cx}(K:W.Frag)(b:X.K=K){tg l:Expr}{a:TE}(c:PE X l a):PI X tg l (dI1 K a):=by rw[← b];exact cS1 c
def jM{X:Cx}{pos:Pos}(K:W.Frag)(b:X.K=K){es:List Expr}{k:Nat}{t:TGs}{n:Nat}(c:X.calm=true)(h:PGs X es t)
  (hn:(assignEach es X.env).length=n:=by rfl) (a:(assignEach es X.env).findIdx? (·.1)=none:=by rfl):PG X (.Tuple es k pos) (bG4 K n t):=by rw[← b];exact cA0 c h hn a
section
variable{X:Cx}{o e:Expr}{es:List Expr}{to:TE}{t:TA}{name:Str}{apos cpos:Pos}{T id:String}{r:V->List V->Hp->VK->Prop}
def cB0(K:W.Frag)(d:X.K=K)(e:PlainAttrs T)(slot:Slot T name id)(c:typeOf (.builtin id)=pure (.type "method_descriptor"))(hm:MtR X id r)(f:PE X o to)
  (a:attributeBase o name X.env (eval o X.env)=eval o X.env:=by rfl) (b:(apos.endLine==cpos.line)=true:=by rfl):PE X (.Call (.Attribute o name apos) [] [] cpos) (dH7 K T r to):=by rw[← d];exact cQ6 e slot c hm f a b
def hU(K:W.Frag)(g:X.K=K)(h:PlainAttrs T)(slot:Slot T name id)(f:typeOf (.builtin id)=pure (.type "method_descriptor"))(hm:MtR X id r)(i:PE X o to)(ha:PA X (e::es) t)
  (b:attributeBase o name X.env (eval o X.env)=eval o X.env:=by rfl)
  (d:((backTo cpos (starEach (e::es) X.env)).all (λx=>!x.1)&&(backToKw cpos (keywordEach [] X.env)).all (λx=>x.1.isSome)&&decide ((e::es).length+([]:List Keyword).length+(if([]:List Keyword).isEmpty then 0 else 1) < 30))=true:=by rfl)
  (c:(apos.endLine==cpos.line)=true:=by rfl) (hs:starEach (e::es) X.env=(false,eval e X.env)::starEach es X.env:=by rfl) (a:(backTo cpos (starEach es X.env)).any (·.1)=false:=by rfl) :
  PE X (.Call (.Attribute o name apos) (e::es) [] cpos) (tBM K T r to t):=by rw[← g];exact dH8 h slot f hm i ha b d c hs a
end
theorem bT1{i j:Nat}{a:TA}{D:Ends}{σ:St}{H:Hp}:dM3 i j a D σ H=a σ H λvs H1=>∃ v w,vs=[v,w]/\D.nx ((σ.set i (some v)).set j (some w)) H1:=rfl
theorem bT2{a b:V}{R:V->V->Prop}:(∃ v w,[a,b]=[v,w]/\R v w)=R a b:=propext ⟨λZ1=>by obtain⟨_,_,e,q⟩:=Z1;cases e;exact q,λq=>⟨a,b,rfl,q⟩⟩
end L2
namespace Mr
open PySem L2
end Mr
namespace L2
open PySem
section
variable{H:Hp}{Q:VK}{p q:Addr}{xs:List V}
end
end L2
namespace L2
end L2
namespace Mr
open PySem L2
open PyProof.Rows
section
variable{p q f l sp:Addr}{t:Tr}{v:V}{es ls:List V}{zs:List Str}{H0 H H':Hp}{fs:List V}
end
end Mr
namespace L2
open PySem
structure Noted(fs:List Addr)(e T:Addr)(oe:Obj)(old:Addr->Prop)(h h':Heap):Prop where
 keep:∀ b o,b≠e->¬ old b->b∉fs->h.get? b=some o->h'.get? b=some o
 slot:∀ b o,b≠e->¬ old b->h.get? b=some o->∃ sl,h'.get? b=some {o with slots:=sl}
 there:∀ b o,h.get? b=some o->∃ o',h'.get? b=some o'
 exc:h'.get? e=some (oe.mapFields (·.setIfInBounds 1 (.ref T)))
 new:h.objs.size<=T
 tb:∃ oT ts,h'.get? T=some oT/\oT.data=.fields ts/\ts[3]? = some .none
section
variable{M:Model}{A:Around}{E:Value->Shared->Prop}{s:Shared}
def aD9{base:Heap}{env:Env}{outer:List Env}{L e:Addr}{oe:Obj}{vs:Array Value}{l:Value}{g:Bool}{Q:Unit->Shared->Prop}
  (B:A.frames=some (env::outer)) (I:s.heap.FunFrames base (env::outer)) (O:env.frame=some L) (J:s.heap.get? e=some oe) (hd:oe.data=.fields vs) (hsz:1 < vs.size)
  (h:∀ (h':Heap) (T:Addr),Noted ((env::outer).filterMap (·.frame)) e T oe (λ_=>False) s.heap h'->Q () {s with heap:=h'}) :
  wpAny M A (do let a ← frameOf env;let pl ← entryPlaceOf L g;let b ← EntryCells.newEntry l a .none (rawInt L) .none pl;setField (.ref e) 1 b) (λ_ s'=>wpAny M A (setFlight (.ref e) none) Q E s') E s:=by
 have C:e∉(env::outer).filterMap (·.frame):=λhm=>by
  obtain⟨_,o,K,D⟩:=I.mem hm;rw[J]at K;cases K;exact D vs hd
 refine a3n (wpAny_frameOf_fun B I O λc i=>?_);refine a3n (wpAny_entryPlaceOf λpl F=>?_);unfold EntryCells.newEntry newFields;refine a3n (a3t ?_ (F.sizeOk5 _ _ _ _ _));have n:c.get? e=some oe:=(i.2.1 e C).trans J;generalize p:({cls:=.type "traceback",dict:=none,data:=.fields ([l,.ref L,.none,rawInt L,.none]++(if pl.isEmpty then List.replicate 6 Value.none else pl)).toArray}:Obj)=d;have r:(c.push d).get? e=some oe:=a2a _ n;have t:c.objs.size≠e:=a3j (a0b n);refine a3G r hd hsz ?_;have u:=a1j hd (·.setIfInBounds 1 (Value.ref c.objs.size));have v:=a0d (Obj.mapFields (·.setIfInBounds 1 (Value.ref c.objs.size))) r (Obj.isFreed_of_fields u);have w:((c.push d).update e (Obj.mapFields (·.setIfInBounds 1 (Value.ref c.objs.size)))).get? c.objs.size=some d:=by
  rw[a4c _ _ (a3d t)];exact a2b c (by rw[← p];rfl)
 have k:∃ ts:Array Value,d.data=.fields ts/\3 < ts.size:=⟨_,by rw[← p],by simp only[List.size_toArray,List.length_append,List.length_cons,List.length_nil];lia⟩;obtain⟨ts,k,N⟩:=k;unfold setFlight;refine a3n (a3x v u (x:=.ref c.objs.size) (by simp[hsz]) ?_);rw[a3p (show(Value.ref c.objs.size != Value.none)=true from by simp)];refine a3G w k N (h _ c.objs.size ?_);have y:=a1j k (·.setIfInBounds 3 ((none:Option Addr).elim Value.none λf=>rawInt f));have kp:∀ b o,b≠e->c.get? b=some o->(((c.push d).update e (Obj.mapFields (·.setIfInBounds 1 (Value.ref c.objs.size)))).update c.objs.size (Obj.mapFields (·.setIfInBounds 3 ((none:Option Addr).elim Value.none λf=>rawInt f)))).get? b=some o:=λb o j m=>by
  have G:c.objs.size≠b:=a3j (a0b m);rw[a4c _ _ G,a4c _ _ (a3d j)];exact a2a _ m
 have ex:(((c.push d).update e (Obj.mapFields (·.setIfInBounds 1 (Value.ref c.objs.size)))).update c.objs.size (Obj.mapFields (·.setIfInBounds 3 ((none:Option Addr).elim Value.none λf=>rawInt f)))).get? e=some (oe.mapFields (·.setIfInBounds 1 (Value.ref c.objs.size))):=by
  rw[a4c _ _ t];exact v
 refine⟨λb o j _ H m=>kp b o j ((i.2.1 b H).trans m),λb o j _ m=>?_,λb o m=>?_,ex,?_,?_⟩;obtain⟨sl,q⟩:=i.2.2 b o m;exact⟨sl,kp b _ j q⟩;by_cases z:b=e;exact⟨_,by rw[z];exact ex⟩;obtain⟨sl,q⟩:=i.2.2 b o m;exact⟨_,kp b _ z q⟩;show s.heap.objs.size<=c.objs.size;rw[i.1];exact a6a _;refine⟨_,_,a0d _ w (Obj.isFreed_of_fields y),y,?_⟩;simp[N]
def aS3{base:Heap}{env:Env}{outer:List Env}{L e:Addr}{oe:Obj}{vs:Array Value}{Q:Unit->Shared->Prop}
  (j:A.frames=some (env::outer)) (u:s.heap.FunFrames base (env::outer)) (p:env.frame=some L) (m:s.heap.get? e=some oe) (hd:oe.data=.fields vs)
  (d:vs[1]? = some .none\/∃ T oT ts,vs[1]? = some (.ref T)/\T≠e/\s.heap.get? T=some oT/\oT.data=.fields ts/\ts[3]? = some .none)
  (h:∀ (h':Heap) (T:Addr),Noted ((env::outer).filterMap (·.frame)) e T oe (λb=>vs[1]? = some (.ref b)) s.heap h'->Q () {s with heap:=h'}) :
  wpAny M A (noteFrame (.ref e) env) (λ_ s'=>wpAny M A (setFlight (.ref e) none) Q E s') E s:=by
 have k:1 < vs.size:=by
  rcases d with q | ⟨_,_,_,q,_⟩<;>exact(a6d.mp q).1
 unfold noteFrame;simp only[p];rcases d with d | ⟨T,oT,ts,d,r,hT,c,v⟩;refine a3n (a3x m hd d ?_);rw[a3q (by decide)];exact aD9 j u p m hd k λh' T n=>h h' T ⟨λb o x _ y z=>n.keep b o x (λq=>q) y z,λb o x _ z=>n.slot b o x (λq=>q) z,n.there,n.exc,n.new,n.tb⟩;refine a3n (a3x m hd d ?_);rw[a3p (show(Value.ref T != Value.none)=true from by simp)];refine a3n (a3x hT c v ?_);rw[a3q (show ¬ ((Value.none==rawInt L)=true)from by simp[rawInt])];refine a3n (a3G hT c (a6d.mp v).1 ?_);have t:=a1j c (·.setIfInBounds 3 Value.none);have self:=a0d (Obj.mapFields (·.setIfInBounds 3 Value.none)) hT (Obj.isFreed_of_fields t);have a:∀ b,b≠T->(s.heap.update T (Obj.mapFields (·.setIfInBounds 3 Value.none))).get? b=s.heap.get? b:=λb f=>a4c _ _ (a3d f);have l:∀ b o,s.heap.get? b=some o->(∀ vs,o.data≠.fields vs)->b≠T:=λb o f g q=>by
  rw[q,hT]at f;cases f;exact g ts c
 refine aD9 (s:={s with heap:=s.heap.update T (Obj.mapFields (·.setIfInBounds 3 Value.none))}) j (u.of_keeps λb o f g=>⟨o,(a b (l b o f g)).trans f,rfl⟩) p ((a e (a3d r)).trans m) hd k λh' B n=>h h' B ⟨λb o x y z q=>?_,λb o x y q=>?_,λb o q=>?_,n.exc,?_,n.tb⟩;have i:b≠T:=λw=>y (by rw[w];exact d);exact n.keep b o x (λq=>q) z ((a b i).trans q);have i:b≠T:=λw=>y (by rw[w];exact d);exact n.slot b o x (λq=>q) ((a b i).trans q);by_cases i:b=T;rw[i];exact n.there T _ self;exact n.there b o ((a b i).trans q);have:=n.new;rw[Heap.size_after_update]at this;exact this
end
open PySem.Spec PyProof.Rows
noncomputable def exo(e:Addr)(C:Value)(d:Option Addr)(tb:Value):HO:=.ext λh=>∃ o vs,h.get? e=some o/\o.cls=C/\o.dict=d/\o.data=.fields vs/\5 < vs.size/\vs[1]? = some tb
section
variable{P:Program}{w:World}{H:Hp}{h:Heap}{e:Addr}{C:Value}{d:Option Addr}{tb:Value}
def aE0{o:Obj}{vs:Array Value}(a:h.get? e=some o)(c:o.cls=C)(hd:o.dict=d)(f:o.data=.fields vs)(hs:5 < vs.size)(b:vs[1]? = some tb):cN P w H h e (exo e C d tb):=
 ⟨⟨o,vs,a,c,hd,f,hs,b⟩,⟨o,a⟩,λb i ⟨o,vs,g,r⟩ k=>⟨o,vs,k o g,r⟩⟩
def bT3(x:cN P w H h e (exo e C d tb)):∃ o vs,h.get? e=some o/\o.cls=C/\o.dict=d/\o.data=.fields vs/\5 < vs.size/\vs[1]? = some tb:=x.1
end
def CXo(P:Program)(w:World):CXT:=λouter H s E x s'=>∃ (e C:Addr) (d:Option Addr) (H':Hp) (T:Addr),
 x=.ref e/\s'.os=s.os/\AllBare s'.gens/\Un (frs outer) [] H H' s.heap s'.heap/\HOk P w H' s'.heap/\H' e=some (exo e (.ref C) d (.ref T))/\s.heap.objs.size<=T/\H' T=none/\T≠e /\
 (∃ oT ts,s'.heap.get? T=some oT/\oT.data=.fields ts/\ts[3]? = some .none)/\∀ a,E (.ref e) d (upd H' e (exo e (.ref C) d (.ref a)))
def lJ{o:Obj}(f:Array Value->Array Value):(o.mapFields f).cls=o.cls:=Obj.cls_mapFields _ _
def jS{o:Obj}(f:Array Value->Array Value):(o.mapFields f).dict=o.dict:=by
 obtain⟨c,d,dt,sl⟩:=o;cases dt<;>rfl
section
variable{X:Cx}{pins:List (Addr×Obj)}{σ:St}{H:Hp}{s:Shared}
def wO{e T:Addr}{oe:Obj}{vs:Array Value}{old:Addr->Prop}{h':Heap}{C:Value}{d:Option Addr}{tb:Value}(I:Inv X pins σ H s)(m:H e=some (exo e C d tb))(p:s.heap.get? e=some oe)(t:oe.cls=C)(i:oe.dict=d)(hd:oe.data=.fields vs)(hs:5 < vs.size)
  (h:∀ b,old b->H b=none) (n:Noted (frs X.stack) e T oe old s.heap h'):HOk X.prog X.w (upd H e (exo e C d (.ref T))) h':=λb u q=>by
 by_cases j:b=e
 ·subst j;rw[aE]at q;cases q;have k:(vs.setIfInBounds 1 (Value.ref T))[1]? = some (.ref T):=by
   have:1 < vs.size:=by lia
   simp[this]
  refine aE0 n.exc ((lJ _).trans t) ((jS _).trans i) (a1j hd _) (by simpa using hs) k
 ·rw[aD j]at q;have g:∀ c y,H c=some (.own y)->c≠e:=λc y r z=>by rw[z,m]at r;cases r
  refine(I.hok b u q).stay (λc v a r=>?_) (λc r=>by rw[aD (g c b r)];exact r) λc xs r=>by rw[aD (λz=>by rw[z,m]at r;cases r)];exact r
  have x:∃ o,H c=some o:=by
   rcases a with rfl | a;exact⟨u,q⟩;exact⟨_,a⟩
  obtain⟨o',f⟩:=x;have l:c≠e:=by
   rcases a with rfl | a;exact j;exact g c b a
  refine n.keep c v l (λz=>?_) (λz=>?_) r;rw[h c z]at f;cases f;rw[I.stkFree c z]at f;cases f
def bH6{e T:Addr}{oe:Obj}{old:Addr->Prop}{h':Heap}{C:Value}{d:Option Addr}{tb:Value}(I:Inv X pins σ H s)(hex:X.ex=[])(k:X.stack=X.env::X.outer)(l:X.env.frame=some X.env.locals)(i:H e=some (exo e C d tb))
  (g:∀ b,old b->X.s₀.heap.objs.size<=b) (n:Noted (frs X.stack) e T oe old s.heap h'):Un X.fs [] X.H₀ (upd H e (exo e C d (.ref T))) X.s₀.heap h':=by
 have B:=I.base;rw[hex]at B;have j:∀ b o,X.s₀.heap.get? b=some o->¬ old b:=λb o q z=>absurd (a5b (a0b q) (g b z)) (a0e _);have ne:∀ b,H b=none->b≠e:=λb q z=>by rw[z,i]at q;cases q
 have m:∀ b o,X.s₀.heap.get? b=some o->b∉X.fs->b∉frs X.stack:=λb o q f z=>by
  rcases a7b.mp (I.stkSub b z)with r | r;exact absurd (a5b (a0b q) (by rw[r];exact I.ok.above)) (a0e _);exact f r
 have tr:∀ b u,H b=some u->(∀ x,u≠.ext x)->(upd H e (exo e C d (.ref T))) b=some u:=λb u q a=>by
  rw[aD (λz=>by rw[z,i]at q;exact a _ (a5a q).symm)];exact q
 refine⟨λb o q c f a=>?_,λb o q c f a=>?_,λb o q c a=>?_,λb o q a=>?_,λb xs q=>tr b _ (B.tups b xs q) (λx z=>nomatch z),λb o u q=>tr b _ (B.frzs b o u q) (λx z=>nomatch z),λb ps q=>?_⟩;exact n.keep b o (ne b (B.free b o q c a)) (j b o q) (m b o q f) (B.keep b o q c f a);obtain⟨sl,r⟩:=B.slot b o q c f a;obtain⟨h,p⟩:=n.slot b _ (ne b (B.free b o q c a)) (j b o q) r;exact⟨h,p⟩;rw[aD (ne b (B.free b o q c a))];exact B.free b o q c a;obtain⟨o',r⟩:=B.there b o q a;exact n.there b o' r;obtain⟨more,r⟩:=B.tbls b ps q;exact⟨more,tr b _ r (λx z=>nomatch z)⟩
end
section
variable{P:Program}{w:World}{K:W.Frag}{mg:Str->Option Value}{base:Heap}{N:List Str}{qual:Str}{scope:Scope}{f:Addr}{cd:Value}{A:Around}{outer:List Env}{s:Shared}{H:Hp}{E:XK}
def aS4{pins:List (Addr×Obj)}{σ:St}{H1:Hp}{s1:Shared}{e C:Addr}{d:Option Addr}{tb:Value}(I:Inv (yR (CXo P w) P w K mg base N qual scope f cd A outer s H E) pins σ H1 s1)
  (j:H1 e=some (exo e (.ref C) d tb)) (o:tb=.none\/∃ T oT ts,tb=.ref T/\T≠e/\s1.heap.get? T=some oT/\oT.data=.fields ts/\ts[3]? = some .none)
  (g:∀ b,tb=.ref b->s.heap.objs.size<=b/\H1 b=none) (p:∀ T,E (.ref e) d (upd H1 e (exo e (.ref C) d (.ref T)))) :
  (yR (CXo P w) P w K mg base N qual scope f cd A outer s H E).xe (.ref e) s1:=by
 obtain⟨oe,vs,h,q,k,hd,hs,l⟩:=bT3 (I.hok e _ j);show wpAny (model P w) (A.deeper (envOfC qual scope s.heap.objs.size f cd)) (leaving (envOfC qual scope s.heap.objs.size f cd) (.ref e)) _ _ s1;unfold leaving;have m:vs[1]? = some .none\/∃ T oT ts,vs[1]? = some (.ref T)/\T≠e/\s1.heap.get? T=some oT/\oT.data=.fields ts/\ts[3]? = some .none:=by
  rcases o with rfl | ⟨T,oT,ts,rfl,r⟩;exact .inl l;exact .inr ⟨T,oT,ts,l,r⟩
 have a:∀ b,vs[1]? = some (.ref b)->s.heap.objs.size<=b/\H1 b=none:=λb z=>by
  rw[l]at z;exact g b (a5a z)
 refine a3n (aS3 (L:=s.heap.objs.size) (base:=base) I.ok.frames I.stack rfl h hd m λh' T n=>?_);have c:H1 T=none:=I.hok.fresh n.new;have i:T≠e:=λz=>by rw[z,j]at c;cases c
 refine⟨e,C,d,upd H1 e (exo e (.ref C) d (.ref T)),T,rfl,I.os,I.bare,bH6 I rfl rfl rfl j (λb z=>(a b z).1) n,wO I j h q k hd hs (λb z=>(a b z).2) n,aE,a8b I.sz n.new,by rw[aD i];exact c,i,?_,λt=>by rw[bX9];exact p t⟩;obtain⟨oT,ts,u,v,x⟩:=n.tb;exact⟨oT,ts,u,v,x⟩
def bH7{pins:List (Addr×Obj)}{σ:St}{a:Hp}{s1:Shared}{e C:Addr}{d:Option Addr}(I:Inv (yR (CXo P w) P w K mg base N qual scope f cd A outer s H E) pins σ a s1)
  (c:a e=some (exo e (.ref C) d .none)) (g:∀ T,E (.ref e) d (upd a e (exo e (.ref C) d (.ref T)))):(yR (CXo P w) P w K mg base N qual scope f cd A outer s H E).xe (.ref e) s1:=
 aS4 I c (.inl rfl) (λb z=>nomatch z) g
def Fun.okX{x:Str}{st:Stmt}{fd:FuncData}{ps:List Str}{k:Nat}{sp:Sp}(F:Fun K x qual st f fd)(S:FnScope N ps (aJ st))(len:∀ vs H Q E,sp vs H Q E->vs.length=ps.length)
  (a:∀ (cdv:Value) (A:Around) (outer:List Env) (s:Shared) (H:Hp) (vs:List V) (Q:VK) (E:XK),Room k (A.deeper (envOfC qual (aJ st) s.heap.objs.size f cdv))->sp vs H Q E ->
   ∃ t,PSs (yR (CXo P w) P w K mg base N qual (aJ st) f cdv A outer s H E) (iI st) t/\t {nx:=λ_ H'=>Q .non H',rt:=Q} (cT N vs) H):FnOk P w K mg base (CXo P w) (k+1) f fd ps sp:=by
 obtain⟨oc,od,kV,doc,pm,an,cdv,ct,osl,rfl,lk,b⟩:=F.ex;exact cP7 lk b S len λA outer s H vs Q E d c=>a cdv A outer s H vs Q E d c
end
end L2
namespace PySem
noncomputable abbrev dI4(bK:List Value):Obj:={cls:=.type "tuple",data:=.seq bK.toArray}
noncomputable abbrev dM9(C p:Addr):Obj:={cls:=.ref C,data:=.fields #[.ref p,.none,.none,.none,.bool false,.none]}
noncomputable abbrev aS5(h:Heap)(C:Addr)(bK:List Value):Heap:=(h.push (dI4 bK)).push (dM9 C h.objs.size)
def iQ{h:Heap}{C b:Addr}{bK:List Value}{o:Obj}(e:h.get? b=some o):(aS5 h C bK).get? b=some o:=a2a _ (a2a _ e)
def wP{h:Heap}{C:Addr}{bK:List Value}:(aS5 h C bK).get? (h.objs.size+1)=some (dM9 C h.objs.size):=by heap_get
def aK5{h:Heap}{C:Addr}{bK:List Value}:Heap.MadeExcOf h (aS5 h C bK) (h.objs.size+1) (.ref C) bK:=
 ⟨λ_ _ e=>iQ e,Heap.get?_none_of_le (Nat.le_succ _),_,wP,Heap.get?_none_of_le (a6a _),a2a _ (Heap.get?_push_at rfl rfl)⟩
section
variable{prog:Program}{w:World}{E:Value->Shared->Prop}{A:Around}{os:OsState}{h:Heap}{t:Nat}{g:Array GenState}{d:Drawn}{bK:List Value}{fI:Addr}{oI:Obj}{mN:Str->Option Value}
 {nm q:Str} {B newId initId:String} {C N:Addr} {bs bm bmB sub:List Value} {hdct ab:Bool} {sn:List Str} {col:Option Bool} {dd:Option Addr} {k0 k1 k2 k3 k5:Option Value}
def lK{Q:Fin->Shared->Prop}(F:ExcBaseFacts B newId initId bmB)(T:OwnTail h bmB bm)(a:h.get? C=some (excClassObj nm q C N bs bm hdct sn sub ab col dd k0 k1 k2 k3 k5 newId))(hn:h.Ns N mN)
  (hi:mN "__init__"=some (.ref fI)) (f:h.get? fI=some oI) (i:oI.cls=.type "function") (j:∀ h' e,Heap.MadeExcOf h h' e (.ref C) bK->wpAny (model prog w) A (call (.ref fI) (.ref e::bK)) (λr s'=>r=.none/\Q (.done (.ret (.ref e))) s') E ⟨h',g,d,t,os⟩)
  (hrest:bK.length<=sizeLine):wpAny (model prog w) A (Builtin.«type.__call__» ⟨.ref C::bK,[]⟩) Q E ⟨h,g,d,t,os⟩:=by
 have b:=j _ _ (aK5 (h:=h) (C:=C) (bK:=bK));have cls:=iQ (C:=C) (bK:=bK) a;have fn:=iQ (C:=C) (bK:=bK) f;have names:(aS5 h C bK).Ns N mN:=by obtain⟨o,es,ep,e,r⟩:=hn;exact⟨o,es,ep,iQ e,r⟩
 have c:=T.keeps (h':=aS5 h C bK) λ_ _ e=>iQ e;have own:(Value.ref C::bm).contains (.ref C)=true:=by simp
 repeat (first | (with_reducible refine wpAny_madeBy_exc a ?_) | (with_reducible refine a3T a ?_) | wp_step)
 refine codeAny_call_builtin_code (Code.quiet_builtin _ F.quiet) (wpAny_check_new_subT F T a (codeAny_exc_new_subT F T a ?_ hrest));show wpAny _ _ _ _ _ _;unfold isInstance
 repeat (first | (with_reducible refine wpAny_isSubtype_exc cls ?_;rw[own]) | (with_reducible refine a3T wP ?_) | wp_step)
 show wpAny _ _ (typeLookup (.ref C) _) _ _ _;refine wpAny_typeLookup_tail cls names c F.mroIs F.init.lookup ?_;rw[hi];refine a3s (a3n ?_);unfold bindSpecial;refine a3n (a3L (T:="function") ⟨_,fn,i⟩ ?_);rw[a3p (by decide)];refine a3o (a3n (a3B b (λr s' k=>?_) λ_ _ x=>x));obtain⟨rfl,z⟩:=k;wp_walk;exact z
def uM{Q:Value->Shared->Prop}(F:ExcBaseFacts B newId initId bmB)(T:OwnTail h bmB bm)(a:h.get? C=some (excClassObj nm q C N bs bm hdct sn sub ab col dd k0 k1 k2 k3 k5 newId))(hn:h.Ns N mN)
  (hi:mN "__init__"=some (.ref fI)) (b:h.get? fI=some oI) (c:oI.cls=.type "function") (f:∀ h' e,Heap.MadeExcOf h h' e (.ref C) bK->wpAny (model prog w) (A.under (.builtin "type.__call__" ⟨.ref C::bK,[]⟩)) (call (.ref fI) (.ref e::bK)) (λr s'=>r=.none/\Q (.ref e) s') E ⟨h',g,d,t,os⟩)
  (hrest:bK.length<=sizeLine):wpAny (model prog w) A (call (.ref C) bK) Q E ⟨h,g,d,t,os⟩:=by
 have bnd:=tc_bind (.ref C);have i:=tc_lookup;have ty:(⟨h,g,d,t,os⟩:Shared).TypeIs (.ref C) "type":=⟨_,a,rfl⟩;refine a3S (codeAny_of_tree (show wpAny _ _ (callAny (.ref C) _) _ _ _ from ?_))
 repeat (any_goals (first | (with_reducible refine a3T a ?_) | assumption | wp_step))
 exact⟨rfl,codeAny_call_builtin_at (Code.quiet_builtin _ (by decide +kernel)) entry_typeCall (wpAny_check_type_call_sub a (lK (hrest:=hrest) F T a hn hi b c f))⟩
end
end PySem
namespace L2
open PySem PySem.Spec PyProof.Rows
section
variable{P:Program}{w:World}{H:Hp}{h:Heap}{a:Addr}{o:HO}
def cN.there(x:cN P w H h a o):∃ ob,h.get? a=some ob:=by
 cases o with
 | lst xs=>obtain⟨_,_,_,_,e⟩:=x;exact⟨_,e⟩
 | tup xs=>obtain⟨_,_,_,⟨ob,e,_⟩,_⟩:=x;exact⟨ob,e⟩
 | dK kvs=>obtain⟨_,_,_,_,o,_,_,e,_⟩:=x;exact⟨_,e⟩
 | dT kvs=>obtain⟨_,_,_,_,o,_,_,e,_⟩:=x;exact⟨_,e⟩
 | set S n=>obtain⟨o,_,_,_,e,_⟩:=x;exact⟨_,e⟩
 | ins C dx fs=>obtain⟨_,_,_,e,_⟩:=x;exact⟨_,e⟩
 | own y=>exact x
 | xd fs=>obtain⟨_,⟨_,_,_,e,_⟩,_⟩:=x;exact⟨_,e⟩
 | rng lo hi=>obtain⟨_,_,_,e⟩:=x;exact⟨_,e⟩
 | frz ob u=>obtain⟨e,_⟩:=x;exact⟨_,e⟩
 | tbl ps=>exact⟨_,(show h.get? a=some _ from x)⟩
 | met f y=>exact⟨_,(show h.get? a=some _ from x)⟩
 | ext φ=>obtain⟨_,e,_⟩:=x;exact e
def HOk.none_of(x:HOk P w H h)(e:h.get? a=none):H a=none:=by
 cases q:H a with
 | none=>rfl
 | some u=>
   obtain⟨ob,r⟩:=(x a u q).there;rw[e]at r;cases r
end
section
variable{X:Cx}{pins:List (Addr×Obj)}{σ:St}{H:Hp}{s:Shared}
def Inv.laidN{a:Addr}{o:HO}{h':Heap}{t':Nat}(I:Inv X pins σ H s)(k:∀ b u,s.heap.get? b=some u->h'.get? b=some u)(d:s.heap.get? a=none)(new:cN X.prog X.w (upd H a o) h' a o):Inv X pins σ (upd H a o) {s with heap:=h',toks:=t'}:=by
 have hn:H a=none:=I.hok.none_of d;refine I.un ⟨λb u q _ _ _=>k b u q,λb u q _ _ _=>⟨u.slots,k b u q⟩,λb u q n _=>by rw[aD (λz=>by rw[z,d]at q;cases q)];exact n,λb u q _=>⟨u,k b u q⟩,
  λb xs q=>by rw[aD (aC q hn)];exact q,λb u xs q=>by rw[aD (aC q hn)];exact q,λb ps q=>⟨#[],by rw[aD (aC q hn),q];simp⟩⟩ λb u e=>?_
 by_cases f:b=a;subst f;rw[aE]at e;cases e;exact new;rw[aD f]at e;exact(I.hok b u e).stay (λc v _ q=>k c v q) (λc q=>by rw[aD (aC q hn)];exact q) λc xs q=>by rw[aD (aC q hn)];exact q
end
noncomputable def aN4(K:W.Frag)(C f:Addr)(b:List Value)(a:String):Bool:=match K.lookup C with
 | some ⟨.type "type",_,.cls c,l⟩=>match c.mro,l.toList with
   | .ref D::r,[_,_,_,_,some (.builtin n),_]=>D==C&&n==a && !c.hasDel&&W.tailIn K b r&&W.nsOkIn K c.ns&&W.nsIn K c.ns "__init__"==some (some (.ref f))
   | _,_=>false
 | _=>false
def aK6{K:W.Frag}{h:Heap}{N:Addr}{m:Str->Option Value}{n:Str}{v:Value}(X:K.In h)(G:h.Ns N m)(e:W.nsIn K N n=some (some v)):m n=some v:=by
 obtain⟨o,es,ep,a,hd,_,b⟩:=G;unfold W.nsIn at e;split at e;rename_i q;have:=X _ _ q;rw[a]at this;cases this;cases hd;split at e;rename_i c;cases e;rw[← b];unfold nsFind findBy;rw[← Array.find?_toList,c];rfl;split at e<;>cases e;cases e
def zH{K:W.Frag}{h:Heap}{C f:Addr}{d:List Value}{a:String}(X:K.In h)(q:aN4 K C f d a=true) :
  ∃ bm N p r bs e s sub t c u i j k m o mN,h.get? C=some (excClassObj p r C N bs bm e s sub t c u i j k m o a)/\h.Ns N mN/\mN "__init__"=some (.ref f)/\OwnTail h d bm:=by
 unfold aN4 at q;split at q
 ·rename_i u cd sl w;split at q
  ·rename_i D bm i j k m n o hm hs;simp only[Bool.and_eq_true,beq_iff_eq,Bool.not_eq_true']at q;obtain⟨⟨⟨⟨⟨x,y⟩,b⟩,z⟩,hok⟩,g⟩:=q;subst x;subst y;obtain⟨p,bs,mro,ns,r,hd,s,sub,t,c,A⟩:=cd;dsimp only at hm b hok g;subst hm;subst b;have v:sl=#[i,j,k,m,some (.builtin n),o]:=by
    obtain⟨l⟩:=sl;simp only at hs;rw[hs]
   subst v;have G:=Heap.Ns.of_isNs (W.isNs_of_in X hok);exact⟨bm,ns,p,r,bs,hd,s,sub,t,c,u,i,j,k,m,o,_,X _ _ w,G,aK6 X G g,W.tail_of_in X z⟩
  ·cases q
 ·cases q
section
variable{X:Cx}{CX:CXT}{k:Nat}{f C:Addr}{fd:FuncData}{ps:List Str}{sp:Sp}{E:XK}{x:Str}{p pos:Pos}{e:Expr}{es:List Expr}{t:TA}{B newId initId:String}{bmB:List Value}
def cB1{pins:List (Addr×Obj)}{σ:St}{H:Hp}{s:Shared}{Q:VK}{us:List Value}{vs:List V}(M:aN4 X.K C f bmB newId=true)(m:W.isFn X.K (.ref f)=true)(FB:ExcBaseFacts B newId initId bmB)(F:FnOk X.prog X.w X.K X.mg X.base CX k f fd ps sp)(z:Room (k+1) X.A)(D:cZ X.K fd ps [])
  (G:vX CX X E) (I:Inv X pins σ H s) (r:bG vs us) (hz:vs.length<=1000) (h:∀ a,H a=none->sp (.ref a::vs) (upd H a (exo a (.ref C) none .none)) (λv J=>v=.non/\Q (.ref a) J) E) :
  wpAny (model X.prog X.w) X.A (call (.ref C) us) (EP X pins σ Q) X.xe s:=by
 obtain⟨bm,N,nm,qn,bs,t,sn,sub,ab,L,dd,k0,k1,k2,k3,k5,mN,O,P,hi,T⟩:=zH I.kIn M;obtain⟨oI,n,o⟩:∃ oI,s.heap.get? f=some oI/\oI.cls=.type "function":=by
  have q:=a3w.mp m;unfold W.typeIn at q;obtain⟨oI,a,b⟩:=a5c.mp q;exact⟨oI,I.kIn _ _ a,b⟩
 have R:us.length=vs.length:=r.length.symm;obtain⟨hh,g,d,tk,os⟩:=s;refine uM FB T O P hi n o (λh' a hm=>?_) (by rw[R];exact a8b hz (by decide));obtain⟨tp,p,S,U⟩:=hm.there;have hn:H a=none:=I.hok.none_of hm.new;have l:Inv X pins σ (upd H a (exo a (.ref C) none .none)) ⟨h',g,d,tk,os⟩:=I.laidN (t':=tk) hm.keeps hm.new (aE0 p rfl rfl rfl (by show 5 < 6;decide) rfl);have x:=h a hn;have y:bG (V.ref a::vs) (Value.ref a::us):=.cons rfl r;have i:(Value.ref a::us++[]).length=ps.length:=by
  have e:=y.length;rw[F.len _ _ _ _ x]at e;rw[a4f];exact e.symm
 have j:=D ⟨h',g,d,tk,os⟩ (Value.ref a::us) l.kIn i;rw[a4f]at j;refine a3S (a3U (F.run _ X.stack _ _ ⟨Value.ref a::us,[]⟩ (Value.ref a::us) _ _ E (z.make C us []) (l.env0.make C us []) j y x) λr s' c=>?_);cases r with
 | error e=>exact G pins σ _ _ e s' l c
 | ok Y=>
   cases Y with
   | ret u=>
     obtain⟨v,H',Z,rv,ev,q3⟩:=l.after c;subst ev;exact⟨rv,⟨V.ref a,H',Z,rfl,q3⟩⟩
   | next=>exact False.elim c
   | brk=>exact False.elim c
   | cont=>exact False.elim c
def dN0(C:Addr)(sp:Sp)(E:XK)(t:TA):TE:=λσ H Q=>t σ H λvs b=>vs.length<=1000/\∀ a,b a=none->sp (.ref a::vs) (upd b a (exo a (.ref C) none .none)) (λv c=>v=.non/\Q (.ref a) c) E
def cT1(M:aN4 X.K C f bmB newId=true)(a:W.isFn X.K (.ref f)=true)(b:W.keepIn X.K (.ref C)=true)(FB:ExcBaseFacts B newId initId bmB)(F:FnOk X.prog X.w X.K X.mg X.base CX k f fd ps sp)(i:Room (k+1) X.A)(j:Gl X x)(hm:X.mg x=some (.ref C))(l:cZ X.K fd ps [])(m:vX CX X E)
  (ha:PA X (e::es) t) (c:(x==("__debug__":Str))=false:=by decide) (n:starEach (e::es) X.env=(false,eval e X.env)::starEach es X.env:=by rfl) (d:(backTo pos (starEach es X.env)).any (·.1)=false:=by rfl) :
  PE X (.Call (.Name x p) (e::es) [] pos) (dN0 C sp E t):=by
 intro pins s σ H Q I h;refine a3z (pS I j hm ?_ c);refine W.callWith_K (h₀:=X.base) I.ok.mod.kin b (thn (ha pos pins s σ H _ I h) λus s1 ⟨vs,o,g,r,q⟩=>⟨g.kIn,?_⟩) n d;exact cB1 M a FB F i l m g r q.1 q.2
end
end L2
namespace L2
open PySem
section
variable{M:Model}{A:Around}{E:Value->Shared->Prop}{env:Env}
variable{nm q:Str}{C N:Addr}{bs bm:List Value}{hdct:Bool}{sn:List Str}{sub:List Value}{ab:Bool}{col:Option Bool}{dd:Option Addr}{k0 k1 k2 k3 k5:Option Value}{newId:String}
end
open PyProof.Rows
section
variable{prog:Program}{w:World}{A:Around}{E:Value->Shared->Prop}{h:Heap}{g:Array GenState}{d:Drawn}{t:Nat}{os:OsState}
variable{nm q:Str}{C N:Addr}{bs bm bmB:List Value}{hdct:Bool}{sn:List Str}{sub:List Value}{ab:Bool}{col:Option Bool}{dd:Option Addr}{k0 k1 k2 k3 k5:Option Value}{B newId initId:String}
def cB2(F:ExcBaseFacts B newId initId bmB)(T:OwnTail h bmB bm){e:Addr}{oe:Obj}{vs:Array Value}{bK:List Value}{Q:Value->Shared->Prop}
  (i:h.get? C=some (excClassObj nm q C N bs bm hdct sn sub ab col dd k0 k1 k2 k3 k5 newId)) (c:h.get? e=some oe) (a:oe.cls=.ref C) (hd:oe.data=.fields vs) (hs:0 < vs.size)
  (f:Q .none ⟨(h.push {cls:=.type "tuple",data:=.seq bK.toArray}).update e (Obj.mapFields (·.setIfInBounds 0 (.ref h.objs.size))),g,d,t,os⟩) (hrest:bK.length<=sizeLine) :
  wpAny (model prog w) A (call (.builtin initId) (.ref e::bK)) Q E ⟨h,g,d,t,os⟩:=by
 refine a3S (a3I F.init.plain F.initEntry (wpAny_check_init_subT F T i c a ?_));unfold Builtin.«BaseException.__init__»;dsimp only;rw[a3q (by simp)];unfold newTuple Builtin.BaseException.bexcPut;have h0:vs[0]? = some vs[0]:=a3c hs;have b:=a2a (h:=h) {cls:=.type "tuple",data:=.seq bK.toArray} c;refine a3n (a3t ?_ (by show bK.toArray.size<=sizeLine;rw[a9a];exact hrest));refine a3n (a3n (a3x b hd h0 (a3n (a3G b hd hs ?_))));split;refine wpAny_letGo ?_;exact a3o f;refine a3o ?_;exact a3o f
end
open PySem.W PySem.Spec PySem.Builtin PySem.Builtin.ObjectAttr
noncomputable def lL(a:List Value):List Value->Bool
 | []=>a==[]
 | v::r=>(v::r)==a||(match v with | .ref _=>lL a r | _=>false)
theorem qC(self:Value){a:List Value}(b:refuseLoop self "__setattr__" a=pure ()):∀ {l:List Value},lL a l=true->refuseLoop self "__setattr__" l=pure ()
 | [],e=>by rw[show([]:List Value)=a from(a3w.mp e).symm];exact b
 | v::r,e=>by
   unfold lL at e;rcases Bool.or_eq_true_iff.mp e with q | q;rw[a3w.mp q];exact b;split at q;rw[refuseLoop_ref];exact qC self b q;cases q
theorem aE1{a:List Value}{T:String}(b:a.contains (.type T)=true):∀ {l:List Value},lL a l=true->l.contains (.type T)=true
 | [],e=>by rw[show([]:List Value)=a from(a3w.mp e).symm];exact b
 | v::r,e=>by
   unfold lL at e;rcases Bool.or_eq_true_iff.mp e with q | q;rw[a3w.mp q];exact b;split at q;rw[List.contains_cons,aE1 b q,Bool.or_true];cases q
section
variable{prog:Program}{w:World}{A:Around}{E:Value->Shared->Prop}{s:Shared}{K:Frag}{x C:Addr}{ox:Obj}{name:Str}{v:Value}{cd:ClassData}{bmB:List Value}{B:String}{Q:Unit->Shared->Prop}{R:Result->Shared->Prop}
def cT2{tk:Tok}(X:K.In s.heap)(I:InstAt s.heap x ox C none)(f:∃ vs,ox.data=.fields vs)(t:clsIn K C=some cd)(J:lL bmB cd.mro=true)(i:StoreFacts B bmB "object.__setattr__" "object")
  (M:findIn K (.ref C) name=some none) (N:cd.hasDict=true)
  (h:∀ h' dx tk,s.heap.objs.size<=dx->h'.get? x=some {ox with dict:=some dx}->h'.Ns1 dx (λy=>if y=name then some v else none)->(∀ b o,b≠x->s.heap.get? b=some o->h'.get? b=some o)->R (.ok (.ret .none)) {s with heap:=h',toks:=tk}) :
  codeAny (model prog w) A (.call (.builtin "object.__setattr__") ⟨[.ref x,.str name tk,v],[]⟩) R s:=by
 have j:=aE1 (T:="object") i.hasOwner J;have ne:cd.mro.isEmpty=false:=by cases q:cd.mro with | nil=>rw[q]at j;cases j | cons _ _=>rfl
 have sub:Looks (model prog w) s.heap (isInstance (.ref x) (.type "object")) true:=I.type.andThen (looks_mroIn X (by unfold mroIn;rw[t,a0k,a3q (by rw[ne];decide),j]));have hm:Looks (model prog w) s.heap (mroOf (.ref C)) cd.mro:=(looks_clsIn X t).andThen .now;refine a3I i.slot.plain i.entry (@check_slot (model prog w) _ _ s "object.__setattr__" "object" "__setattr__" (.ref x) [.str name tk,v] [] _ i.kind i.split sub (i.args (.ref x) (.str name tk) v) ?_);rw[osa_eq,refuse_eq];refine a3n (a3n (I.type.here (a3n (hm.here ?_))));rw[qC _ (i.passes (.ref x)) J];refine a3o (a3n (I.type.here (a3n ((looks_findIn X M).here (a3n ?_)))));refine a3o (a:=none) ?_;dsimp only;obtain⟨vs,f⟩:=f;obtain⟨r,k,hn,l⟩:=I;obtain⟨oc,u,O,osl⟩:=ox;dsimp only at k l f;subst k;subst f;cases u with
 | some dx=>exact l.elim
 | none=>
   refine a3n (a3o (a3n (a3n (wpAny_loadPart r (a3n ((looks_clsIn X t).here ?_))))));rw[N];obtain⟨c,g,d,U,os⟩:=s;dsimp only at r h;show wpAny (model prog w) A.in1 (do
    let d ← alloc {cls:=Value.type "dict",data:=Data.dict #[]}
    update x λo=>{cls:=o.cls,dict:=some d,data:=o.data,slots:=o.slots}
    dictMade (Value.ref C) x d) _ _ _
   have m:(c.push {cls:=.type "dict",data:=.dict #[]}).get? x=some {cls:=Value.ref C,data:=Data.fields vs,slots:=osl}:=a2a _ r;have n:x≠c.objs.size:=a9c (a0b r);refine a3n (wpAny_alloc' ?_);refine a3n (wpAny_update' m ?_);refine a3o ?_;have z:((c.push {cls:=.type "dict",data:=.dict #[]}).update x λo=>{cls:=o.cls,dict:=some c.objs.size,data:=o.data,slots:=o.slots}).get? c.objs.size=some {cls:=.type "dict",data:=.dict #[]}:=
    (Heap.get?_update_ne _ _ _ _ n.symm).trans (Heap.get?_push_at rfl rfl)
   have D:((c.push {cls:=.type "dict",data:=.dict #[]}).update x λo=>{cls:=o.cls,dict:=some c.objs.size,data:=o.data,slots:=o.slots}).Ns c.objs.size (λ_=>none):=⟨_,#[],_,z,rfl,λe P=>absurd P (by simp),λ_=>rfl⟩;show wpAny _ _ (storeInDict c.objs.size (.str name tk) name v) _ _ _;unfold storeInDict newKeyGuard;refine a3n (a3o (a3n (wpAny_nsSet1 (Heap.Ns1.of_empty D) λh' p hs=>?_)));obtain⟨V,Q,S,E,F,G⟩:=p.count (Within.cons name v Within.nil);refine a3n (wpAny_lookBehind E (by rw[F];exact pastItsLine_dict (a8b G (by rw[a1h,a5j,a3O];lia))) ?_)
   wp_walk
   refine h h' c.objs.size _ (a6a _) ?_ p λb o H L=>?_;refine(hs.2 x n).trans (a0d _ m rfl);exact(hs.2 b (a9c (a0b L))).trans ((Heap.get?_update_ne _ _ _ _ H).trans (a2a _ L))
def bH8(X:K.In s.heap)(I:InstAt s.heap x ox C none)(a:∃ vs,ox.data=.fields vs)(hs:findIn K (.ref C) "__setattr__"=some (some (.builtin "object.__setattr__")))(c:clsIn K C=some cd)(d:lL bmB cd.mro=true)(e:StoreFacts B bmB "object.__setattr__" "object")
  (f:findIn K (.ref C) name=some none) (g:cd.hasDict=true)
  (h:∀ h' dx tk,s.heap.objs.size<=dx->h'.get? x=some {ox with dict:=some dx}->h'.Ns1 dx (λy=>if y=name then some v else none)->(∀ b o,b≠x->s.heap.get? b=some o->h'.get? b=some o)->Q () {s with heap:=h',toks:=tk}) :
  wpAny (model prog w) A (setAttr (.ref x) name v) Q E s:=set_plain X I hs (cT2 (s:={s with toks:=s.toks+1}) X I a c d e f g h)
end
end L2
namespace L2
open PySem PySem.W PySem.Spec PyProof.Rows
section
variable{prog:Program}{w:World}{A:Around}{E:Value->Shared->Prop}{s:Shared}{K:Frag}{x C:Addr}{ox:Obj}{od:Option Obj}{name:Str}{expr:Bool}{v:Value}{Q:Value->Shared->Prop}{B:String}
def cB3(d:ExcAttrFacts B)(X:K.In s.heap)(I:InstAt s.heap x ox C od)(b:findIn K (.ref C) "__getattribute__"=some (some (.builtin "BaseException.__getattribute__")))(c:findIn K (.ref C) "__getattr__"=some none)(a:mroIn K C (.type "BaseException")=some true)
  (f:findObj K C od name=some (.value v)) (g:handedIn v=true) (h:Q v {s with toks:=s.toks+1}):wpAny (model prog w) A (getAttr (.ref x) name expr) Q E s:=by
 have i:Looks (model prog w) s.heap (hookBefore (.ref C)) none:=looks_hook X (by rw[show onTheHeap (Value.ref C)=true from rfl,a3p rfl];exact c);have hi:Looks (model prog w) s.heap (isInstance (.ref x) (.type "BaseException")) true:=I.type.andThen (looks_mroIn X a);have j:=looks_find (M:=model prog w) X I f;refine a3n (wpAny_mkText (a3s (a3n (I.type _ _ _ _ (λ_ _ e=>e) (a3n (looks_findIn X b _ _ _ _ (λ_ _ e=>e) ?_))))));dsimp only;rw[show(onTheHeap (Value.ref C)&&Value.builtin "BaseException.__getattribute__"==Value.builtin "object.__getattribute__")=false from by rw[show(Value.builtin "BaseException.__getattribute__"==Value.builtin "object.__getattribute__")=false from by decide +kernel,a4k],a3q (by decide)];refine a3n (i _ _ _ _ (λ_ _ e=>e) (a3n (a3R (a3s ?_))));unfold callGetattribute;rw[show(expr&&onTheHeap (Value.builtin "BaseException.__getattribute__"))=false from a4k _,a3q (by decide)];unfold boundAndCalled;rw[d.ga.bind];refine a3n (a3o ?_);show wpAny _ _ (call (.builtin "BaseException.__getattribute__") [.ref x,.str name s.toks]) _ _ _;refine a3S ?_;refine a3I d.ga.plain F.entry_bexc_ga ?_;refine @check_slot (model prog w) _ _ {s with toks:=s.toks+1} "BaseException.__getattribute__" "BaseException" "__getattribute__" (.ref x) [.str name s.toks] [] _ (by decide +kernel) (by decide +kernel) hi (F.args_bexc_ga _ _) ?_;unfold Builtin.«object.__getattribute__»;refine a3n (a3o ?_);refine a3n (a3o ?_);refine a3n (I.type _ _ _ _ (λ_ _ e=>e) (a3n (j _ _ _ _ (λ_ _ e=>e) ?_)));refine a3o ?_;show wpAny _ _ (handedOut v) _ _ _;rw[handedOut_of g];exact a3o h
end
section
variable{M:Model}{A:Around}{E:Value->Shared->Prop}{s:Shared}
theorem uN{f:Value->PUnit->Sem (ForInStep PUnit)}{Q:PUnit->Shared->Prop}:∀ {cs:List Value},(∀ c∈cs,∀ a:ForInStep PUnit->Shared->Prop,a (.yield ⟨⟩) s->wpAny M A (f c ⟨⟩) a E s)->Q ⟨⟩ s->wpAny M A (forIn cs PUnit.unit f) Q E s
 | [],_,h=>a3o h
 | c::r,hf,h=>by
   rw[List.forIn_cons];exact a3n (hf c a4a _ (uN (λd hd=>hf d (a8a _ hd)) h))
theorem uO{f:Value->Option Bool×Unit->Sem (ForInStep (Option Bool×Unit))}{g:Value->Bool}{Q:Option Bool×Unit->Shared->Prop}:∀ {cs:List Value},(∀ c∈cs,∀ a:ForInStep (Option Bool×Unit)->Shared->Prop,a (if g c then .done (some true,())else .yield (none,())) s->wpAny M A (f c (none,())) a E s) ->
  Q (if cs.any g then(some true,())else(none,())) s->wpAny M A (forIn cs (none,()) f) Q E s
 | [],_,h=>a3o h
 | c::r,hf,h=>by
   rw[List.forIn_cons];refine a3n (hf c a4a _ ?_);rw[List.any_cons]at h;cases b:g c with
   | true=>rw[b]at h;exact a3o h
   | false=>rw[b]at h;exact uO (λd hd=>hf d (a8a _ hd)) h
variable{K:Frag}{e C D:Addr}{oe:Obj}{Q:Bool->Shared->Prop}
noncomputable def fS(K:Frag)(C:Addr)(c:Value):Option Bool:=if subIn K c (.type "BaseException")==some true then(match c with | .ref D=>if(clsIn K D).isSome then subIn K (.ref C) c else none | .type _=>subIn K (.ref C) c | _=>none)else none
def lM{c:Value}{b:Bool}(X:K.In s.heap)(h:fS K C c=some b):Looks M s.heap (isExcClass c) true/\Looks M s.heap (isSubtype (.ref C) c) b:=by
 unfold fS at h;split at h
 ·rename_i q;have q:=a3w.mp q;split at h
  ·split at h;rename_i e;obtain⟨cd,d⟩:=Option.isSome_iff_exists.mp e;refine⟨?_,looks_subIn X h⟩;unfold isExcClass;refine Looks.andThen (a:=true) ?_ (looks_subIn X q);unfold clsIn at d;split at d;rename_i f;exact(Looks.ld (X _ _ f)).andThen .now;cases d;cases h
  ·exact⟨(Looks.now).andThen (looks_subIn X q),looks_subIn X h⟩
  ·cases h
 ·cases h
def zI{b:Bool}(X:K.In s.heap)(m:s.heap.get? e=some oe)(a:oe.cls=.ref C)(hT:typeIn K (.ref D)=some (.type "type"))(n:fS K C (.ref D)=some b)(h:Q b s):wpAny M A (excMatches (.ref e) (.ref D)) Q E s:=by
 have o:Looks M s.heap (isInstance (.ref D) (.type "tuple")) false:=(looks_typeIn X hT).andThen (Looks.of_pure (by rw[a4m];kernel_rfl));have p:Looks M s.heap (typeOf (.ref e)) (.ref C):=a ▸ (Looks.ld m).andThen .now;have d:∀ c∈[Value.ref D],fS K C c=some b:=λc a=>by rw[a3b.mp a];exact n
 have h:Q ([Value.ref D].any λ_=>b) s:=by simpa using h
 generalize j:[Value.ref D]=l at d h;generalize k:(λ_:Value=>b)=g at h;have d:∀ c∈l,fS K C c=some (g c):=λc a=>by rw[← k];exact d c a
 unfold excMatches;refine a3n (o.here ?_);refine a3n (a3o ?_);rw[j];dsimp only;refine a3n (uN (λc a r q=>?_) ?_);refine a3n ((lM X (d c a)).1.here ?_);rw[a3q (by decide)];exact a3o q;refine a3n (p.here (a3n (uO (g:=g) (λc a r q=>?_) ?_)))
 ·refine a3n ((lM X (d c a)).2.here ?_);cases f:g c with
  | true=>rw[f]at q;exact a3o q
  | false=>rw[f]at q;exact a3o q
 ·cases i:l.any g with
  | true=>rw[i]at h;exact a3o h
  | false=>rw[i]at h;exact a3o h
def zJ{t:Addr}{cs:List Value}{g:Value->Bool}(X:K.In s.heap)(l:s.heap.get? e=some oe)(a:oe.cls=.ref C)(m:∃ o n,s.heap.get? t=some o/\o.cls=.type "tuple"/\o.data=.seq cs.toArray n)(f:∀ c∈cs,fS K C c=some (g c))(h:Q (cs.any g) s):wpAny M A (excMatches (.ref e) (.ref t)) Q E s:=by
 obtain⟨⟨oc,od,p,sl⟩,n,i,j,k⟩:=m;dsimp only at j k;subst j;subst k;have r:Looks M s.heap (isInstance (.ref t) (.type "tuple")) true:=((Looks.ld i).andThen .now:Looks M s.heap (typeOf (.ref t)) (.type "tuple")).andThen (Looks.of_pure (by rw[a4m];kernel_rfl));have u:Looks M s.heap (typeOf (.ref e)) (.ref C):=a ▸ (Looks.ld l).andThen .now;unfold excMatches;refine a3n (r.here ?_);refine a3n (a3n (a4n i (a3o ?_)));refine a3n (a3o ?_);rw[show((some cs.toArray).getD #[]).toList=cs from by simp];dsimp only;refine a3n (uN (λc a v q=>?_) ?_);refine a3n ((lM X (f c a)).1.here ?_);rw[a3q (by decide)];exact a3o q;refine a3n (u.here (a3n (uO (g:=g) (λc a v q=>?_) ?_)))
 ·refine a3n ((lM X (f c a)).2.here ?_);cases b:g c with
  | true=>rw[b]at q;exact a3o q
  | false=>rw[b]at q;exact a3o q
 ·cases d:cs.any g with
  | true=>rw[d]at h;exact a3o h
  | false=>rw[d]at h;exact a3o h
end
section
variable{prog:Program}{w:World}{A:Around}{E:Value->Shared->Prop}{s:Shared}{K:Frag}{x C:Addr}{ox:Obj}{od:Option Obj}{B:String}
def cT3{Q:Option Value->Shared->Prop}(f:ExcAttrFacts B)(X:K.In s.heap)(I:InstAt s.heap x ox C od)(b:findIn K (.ref C) "__getattribute__"=some (some (.builtin "BaseException.__getattribute__")))(c:findIn K (.ref C) "__getattr__"=some none)(a:mroIn K C (.type "BaseException")=some true)
  (ha:findIn K (.ref C) "__class__"=some (some (.builtin "object.__class__"))) (hn:specialIn K (.builtin "object.__class__") "__get__"=some (some (.builtin "getset_descriptor.__get__"))) (htk:takesIn K (.builtin "object.__class__")=some true) (hm:mroIn K C (.type "object")=some true)
  (h:Q (some (.ref C)) {s with toks:=s.toks+1}):wpAny (model prog w) A (getAttr? (.ref x) "__class__") Q E s:=by
 have g:Looks (model prog w) s.heap (hookBefore (.ref C)) none:=looks_hook X (by rw[show onTheHeap (Value.ref C)=true from rfl,a3p rfl];exact c);have hi:Looks (model prog w) s.heap (isInstance (.ref x) (.type "BaseException")) true:=I.type.andThen (looks_mroIn X a);have d:(clsIn K C).isSome=true:=by
  unfold mroIn at hm;cases q:clsIn K C with
  | none=>rw[q]at hm;cases hm
  | some cd=>rfl
 have i:findObj K C od "__class__"=some (.bind (.builtin "getset_descriptor.__get__") (.builtin "object.__class__")):=by
  obtain⟨cd,d⟩:=Option.isSome_iff_exists.mp d;unfold findObj;rw[d,a0k,ha,a0k];dsimp only;rw[hn,a0k];dsimp only;rw[htk,a0k]
 have j:=looks_find (M:=model prog w) X I i;unfold getAttr? getAttrBy?;refine a3n (wpAny_mkText (a3n (a3R ?_)));unfold getAttrBy;refine a3s (a3n (I.type _ _ _ _ (λ_ _ e=>e) (a3n (looks_findIn X b _ _ _ _ (λ_ _ e=>e) ?_))));dsimp only;rw[show(onTheHeap (Value.ref C)&&Value.builtin "BaseException.__getattribute__"==Value.builtin "object.__getattribute__")=false from by rw[show(Value.builtin "BaseException.__getattribute__"==Value.builtin "object.__getattribute__")=false from by decide +kernel,a4k],a3q (by decide)];unfold getAttrByItsOwn;refine a3n (g _ _ _ _ (λ_ _ e=>e) ?_);refine a3n (a3R (a3s ?_));unfold callGetattribute;rw[show(false&&onTheHeap (Value.builtin "BaseException.__getattribute__"))=false from rfl,a3q (by decide)];unfold boundAndCalled;rw[f.ga.bind];refine a3n (a3o ?_);show wpAny _ _ (call (.builtin "BaseException.__getattribute__") [.ref x,.str "__class__" s.toks]) _ _ _;refine a3S ?_;refine a3I f.ga.plain F.entry_bexc_ga ?_;refine @check_slot (model prog w) _ _ {s with toks:=s.toks+1} "BaseException.__getattribute__" "BaseException" "__getattribute__" (.ref x) [.str "__class__" s.toks] [] _ (by decide +kernel) (by decide +kernel) hi (F.args_bexc_ga _ _) ?_;unfold Builtin.«object.__getattribute__»;refine a3n (a3o ?_);refine a3n (a3o ?_);refine a3n (I.type _ _ _ _ (λ_ _ e=>e) (a3n (j _ _ _ _ (λ_ _ e=>e) ?_)));dsimp only;show wpAny _ _ (holding [Value.builtin "object.__class__"] (call (.builtin "getset_descriptor.__get__") [.builtin "object.__class__",.ref x,.ref C]) >>= ret) _ _ _;refine a3n (a3s (a3S (class_get (s:={s with toks:=s.toks+1}) X I hm ?_)));refine a3o ?_;show wpAny _ _ (handedOut (.ref C)) _ _ _;rw[handedOut_of rfl];exact a3o (a3o h)
def bH9(j:ExcAttrFacts B)(f:findIn K (.ref C) "__getattribute__"=some (some (.builtin "BaseException.__getattribute__")))(g:findIn K (.ref C) "__getattr__"=some none)(a:mroIn K C (.type "BaseException")=some true)
  (ha:findIn K (.ref C) "__class__"=some (some (.builtin "object.__class__"))) (hn:specialIn K (.builtin "object.__class__") "__get__"=some (some (.builtin "getset_descriptor.__get__"))) (htk:takesIn K (.builtin "object.__class__")=some true) (hm:mroIn K C (.type "object")=some true) :
  KitX K (.ref x) (.ref C) (λh=>∃ ox od,InstAt h x ox C od):=by
 have b:∃ cd,clsIn K C=some cd:=by
  unfold mroIn at hm;cases q:clsIn K C with
  | none=>rw[q]at hm;cases hm
  | some cd=>exact⟨cd,rfl⟩
 obtain⟨cd,b⟩:=b;have l:∃ o,K.lookup C=some o/\∃ c,o.data=.cls c:=by
  unfold clsIn at b;split at b;rename_i d;exact⟨_,d,_,rfl⟩;cases b
 obtain⟨o,d,c,hd⟩:=l;refine⟨λ_ _ _ ⟨_,_,I⟩=>I.type,λ_ _ X _=>?_,λh m p its n sl X i=>?_,λX ⟨_,_,I⟩ k=>cT3 j X I f g a ha hn htk hm k⟩;intro A' r s s' k q;unfold isType loadHead;refine a3n (wpAny_loadPart (k _ _ (X _ _ d)) ?_);rw[hd];exact a3o q;refine Bool.eq_false_iff.mpr λq=>?_;have e:C=m:=Value.ref.inj (a3w.mp q);subst e;have z:=(X _ _ d).symm.trans i;cases z;cases hd
end
end L2
namespace L2
open PySem PySem.Spec PyProof.Rows
noncomputable def bmV:List Value:=[.type "ValueError",.type "Exception",.type "BaseException",.type "object"]
noncomputable def aS6(K:W.Frag)(C:Addr):Bool:=W.findIn K (.ref C) "__getattribute__"==some (some (.builtin "BaseException.__getattribute__"))&&W.findIn K (.ref C) "__getattr__"==some none &&
 W.findIn K (.ref C) "__setattr__"==some (some (.builtin "object.__setattr__"))&&W.mroIn K C (.type "BaseException")==some true&&W.mroIn K C (.type "object")==some true &&
 W.findIn K (.ref C) "__class__"==some (some (.builtin "object.__class__"))&&W.specialIn K (.builtin "object.__class__") "__get__"==some (some (.builtin "getset_descriptor.__get__"))&&W.takesIn K (.builtin "object.__class__")==some true &&
 (W.clsIn K C).any λcd=>lL bmV cd.mro&&cd.hasDict
structure ExcC(K:W.Frag)(C:Addr):Prop where
 ga:W.findIn K (.ref C) "__getattribute__"=some (some (.builtin "BaseException.__getattribute__"))
 gt:W.findIn K (.ref C) "__getattr__"=some none
 sa:W.findIn K (.ref C) "__setattr__"=some (some (.builtin "object.__setattr__"))
 bx:W.mroIn K C (.type "BaseException")=some true
 ob:W.mroIn K C (.type "object")=some true
 cl:W.findIn K (.ref C) "__class__"=some (some (.builtin "object.__class__"))
 gn:W.specialIn K (.builtin "object.__class__") "__get__"=some (some (.builtin "getset_descriptor.__get__"))
 tk:W.takesIn K (.builtin "object.__class__")=some true
 cd:∃ cd,W.clsIn K C=some cd/\lL bmV cd.mro=true/\cd.hasDict=true
def ExcC.of{K:W.Frag}{C:Addr}(h:aS6 K C=true):ExcC K C:=by
 unfold aS6 at h;simp only[Bool.and_eq_true,beq_iff_eq]at h;obtain⟨⟨⟨⟨⟨⟨⟨⟨c,d⟩,e⟩,f⟩,g⟩,i⟩,j⟩,k⟩,l⟩:=h;obtain⟨cd,a,b⟩:=W.any_some l;rw[a5d]at b;exact⟨c,d,e,f,g,i,j,k,cd,a,b.1,b.2⟩
def gQ{P:Program}{w:World}{H:Hp}{h:Heap}{e:Addr}{C:Value}{d:Option Addr}{tb:Value}(hok:HOk P w H h)(a:H e=some (exo e C d tb)):∃ o vs,h.get? e=some o/\o.cls=C/\o.dict=d/\o.data=.fields vs/\5 < vs.size/\vs[1]? = some tb:=bT3 (hok e _ a)
def wQ{P:Program}{w:World}{H:Hp}{h:Heap}{e C:Addr}{tb:Value}(hok:HOk P w H h)(c:H e=some (exo e (.ref C) none tb)):∃ oe vs,W.InstAt h e oe C none/\oe.dict=none/\oe.data=.fields vs/\5 < vs.size/\vs[1]? = some tb:=by
 obtain⟨o,vs,d,f,a,b,g,i⟩:=gQ hok c;exact⟨o,vs,⟨d,f,by unfold W.notCls;rw[b],by rw[a];trivial⟩,a,b,g,i⟩
def wR{P:Program}{w:World}{H:Hp}{h:Heap}{e C dx:Addr}{tb:Value}{fs:List (Str×V)}(hok:HOk P w H h)(a:H e=some (exo e (.ref C) (some dx) tb))(b:H dx=some (.xd fs)) :
  ∃ oe od,W.InstAt h e oe C (some od)/\∀ f v,fs.lookup f=some v->∃ u,cY v u/\W.lookIn f od=some (some u):=by
 obtain⟨o,vs,c,d,g,i,_⟩:=gQ hok a;obtain⟨mA,⟨od,es,ep,j,k,t,y,l⟩,m⟩:=(show cN P w H h dx (.xd fs)from hok dx _ b);refine⟨o,od,⟨c,d,by unfold W.notCls;rw[i],by rw[g];exact j⟩,λf v n=>?_⟩;have r:=m f;rw[n]at r;obtain⟨u,p,s⟩:∃ u,mA f=some u/\cY v u:=by
  cases q:mA f with
  | none=>rw[q]at r;exact r.elim
  | some u=>rw[q]at r;exact⟨u,rfl,r⟩
 refine⟨u,s,?_⟩;unfold W.lookIn;rw[k];dsimp only;have q:=l f;rw[p]at q;unfold nsFind findBy at q;rw[← Array.find?_toList]at q;cases z:es.toList.find? (λx=>x.key.isStr f)with
 | none=>rw[z]at q;cases q
 | some A=>rw[z]at q;cases q;rfl
section
variable{X:Cx}{o e value:Expr}{to te tv:TE}{f:Str}{pos pos' apos:Pos}
def tAt(K:W.Frag)(te:TE)(f:Str):TE:=λσ H Q=>te σ H λv H1=>∃ (e C dx:Addr) (fs:List (Str×V)) (tb:Value) (y:V),v=.ref e/\H1 e=some (exo e (.ref C) (some dx) tb)/\H1 dx=some (.xd fs)/\aS6 K C=true/\W.findIn K (.ref C) f=some none/\fs.lookup f=some y/\((∃ i,y=.int i)\/∃ z,y=.str z)/\Q y H1
def dI5(K:W.Frag)(j:X.K=K)(c:PE X e te)(k:attributeBase e f X.env (eval e X.env)=eval e X.env:=by rfl):PE X (.Attribute e f pos) (tAt K te f):=by
 subst j;intro pins s σ H Q I h;refine bY7 k (thn (c pins s σ H _ I h) λu s1 Z0=>?_);obtain⟨x,l,d,rx,e,C,dx,fs,tb,y,ex,c,m,n,hn,o,p,q⟩:=Z0;subst ex;obtain rfl:u=Value.ref e:=rx;have b:=ExcC.of n;obtain⟨oe,od,J,a⟩:=wR d.hok c m;obtain⟨u,g,r⟩:=a f y o;obtain⟨cd,v,A,w⟩:=b.cd;have hd:W.hasDictIn X.K C=true:=by unfold W.hasDictIn;rw[v];exact w
 refine cB3 F.attr_ValueError d.kIn J b.ga b.gt b.bx (W.findObj_own hd hn rfl r) ?_ ⟨y,l,d.tok _,g,q⟩;rcases p with⟨i,rfl⟩ | ⟨z,rfl⟩;obtain⟨t,rfl⟩:=g;rfl;obtain⟨t,rfl⟩:=g;rfl
def sAt(K:W.Frag)(to tv:TE)(f:Str):TS:=λD σ H=>tv σ H λy a=>to σ a λv H2=>∃ (e C:Addr) (tb:Value),v=.ref e/\H2 e=some (exo e (.ref C) none tb)/\aS6 K C=true/\W.findIn K (.ref C) f=some none /\
 ∀ dx,H2 dx=none->dx≠e->D.nx σ (upd (upd H2 e (exo e (.ref C) (some dx) tb)) dx (.xd [(f,y)]))
def dI6(K:W.Frag)(B:X.K=K)(l:PE X o to)(E:PE X value tv)(hs:swapsWith value (some (.Attribute o f pos')) pos.line X.env=pure false:=by rfl):PS X (.Assign [.Attribute o f pos'] value pos) (sAt K to tv f):=by
 subst B;intro pins s σ H D I h;refine plainObj_wpAny_Assign_Attribute (thn (E pins s σ H _ I h) λu s1 ⟨y,G,L,M,q⟩=>thn (l pins s1 σ G _ L q) λov s2 Z0=>?_) hs;obtain⟨x,m,d,rx,e,C,tb,ex,t,N,hn,O⟩:=Z0;subst ex;obtain rfl:ov=Value.ref e:=rx;have w:=ExcC.of N;obtain⟨oe,vs,J,j1,A,P,Q⟩:=wQ d.hok t;obtain⟨cd,R,S,T⟩:=w.cd;refine bH8 d.kIn J ⟨vs,A⟩ w.sa R S F.store_ValueError hn T λh' dx tk a i n r=>?_;have j:dx≠e:=λz=>by rw[z]at a;exact absurd (a5b (a0b J.at_) a) (a0e _)
 have k:m dx=none:=d.hok.fresh a;have U:Inv X pins σ (upd m e (exo e (.ref C) (some dx) tb)) {s2 with heap:=h',toks:=tk}:=
  d.write (t':=tk) (o:=exo e (.ref C) (some dx) tb) (by rw[t];trivial) (.inl rfl) r ⟨_,i⟩ (aE0 i J.cls rfl A P Q)
 have V:Inv X pins σ (upd (upd m e (exo e (.ref C) (some dx) tb)) dx (.xd [(f,y)])) {s2 with heap:=h',toks:=tk}:=by
  have lt:∀ {b:Addr} {o:Obj},s2.heap.get? b=some o->b≠dx:=λq=>a9c (a5b (a0b q) a);refine U.adopt (by rw[aD j];exact k) (a8b d.sz a) (a3j (a5b d.lt a)) (λx c q=>?_) (λp Y=>lt (d.pin p Y).1) ⟨_,n,λg=>?_⟩;obtain⟨v,o,l,_⟩:=d.cell x c q;exact lt l;by_cases z:g=f;subst z;simp only[List.lookup,beq_self_eq_true,if_true];exact M;have Z:(g==f)=false:=by simpa using z
  simp only[List.lookup,Z,if_neg z];trivial
 exact⟨σ,_,V,O dx k j⟩
end
def uP(h:Heap)(C:Addr):Prop:=∃ bm N d e bs b f sub g c i j k l m n a,h.get? C=some (excClassObj d e C N bs bm b f sub g c i j k l m n a)/\bm.contains (.type "BaseException")=true
def aS7{K:W.Frag}{h:Heap}{C f:Addr}{a:String}(X:K.In h)(q:aN4 K C f bmV a=true):uP h C:=by
 obtain⟨d,N,e,g,bs,b,i,sub,j,c,k,l,m,n,o,p,s,r,_,_,T⟩:=zH X q;exact⟨d,N,e,g,bs,b,i,sub,j,c,k,l,m,n,o,p,a,r,T.hasType (by decide +kernel)⟩
def cB4{K:W.Frag}{h:Heap}{C:Addr}{d:List Value}{a:String}(X:K.In h)(q:W.excIn K C d a=true) :
  ∃ bm N o p bs e r sub s c t g i j k m mN,h.get? C=some (excClassObj o p C N bs bm e r sub s c t g i j k m a)/\h.Ns N mN/\mN "__init__"=none/\OwnTail h d bm:=by
 unfold W.excIn at q;split at q
 ·rename_i t cd sl v;split at q
  ·rename_i D bm g i j k n m hm hs;simp only[Bool.and_eq_true,beq_iff_eq,Bool.not_eq_true']at q;obtain⟨⟨⟨⟨⟨w,x⟩,b⟩,y⟩,hok⟩,f⟩:=q;subst w;subst x;obtain⟨o,bs,mro,ns,p,hd,r,sub,s,c,z⟩:=cd;dsimp only at hm b hok f;subst hm;subst b;have u:sl=#[g,i,j,k,some (.builtin n),m]:=by
    obtain⟨l⟩:=sl;simp only at hs;rw[hs]
   subst u;exact⟨bm,ns,o,p,bs,hd,r,sub,s,c,t,g,i,j,k,m,_,X _ _ v,.of_isNs (W.isNs_of_in X hok),W.nsMap_none_of_in X hok f,W.tail_of_in X y⟩
  ·cases q
 ·cases q
def exR(K:W.Frag)(C:Addr):Prop:=(∃ a,aN4 K C a bmV "ValueError.__new__"=true)\/W.excIn K C bmV "ValueError.__new__"=true
def aK7{K:W.Frag}{h:Heap}{C:Addr}(X:K.In h)(q:exR K C):uP h C:=by
 rcases q with⟨f,q⟩ | q;exact aS7 X q;obtain⟨c,N,d,e,bs,a,g,sub,i,b,j,k,l,m,n,o,r,p,_,_,T⟩:=cB4 X q;exact⟨c,N,d,e,bs,a,g,sub,i,b,j,k,l,m,n,o,_,p,T.hasType (by decide +kernel)⟩
def wS{M:Model}{A:Around}{E:Value->Shared->Prop}{env:Env}{s:Shared}{x:Sem Value}{Q:Flow->Shared->Prop}(l:A.handled=none)
  (h:wpAny M A x (λv s1=>∃ (e C:Addr) (oe:Obj) (vs:Array Value),v=.ref e/\uP s1.heap C/\s1.heap.get? e=some oe/\oe.cls=.ref C/\oe.data=.fields vs/\vs[1]? = some .none/\E (.ref e) s1) E s):wpAny M A (raiseStmt env (some x) none) Q E s:=by
 unfold raiseStmt;refine a3n (a3B h (λv s1 m=>?_) λ_ _ x=>x);obtain⟨e,C,oe,vs,rfl,⟨n,N,q,r,bs,j,t,sub,u,o,w,y,z,B,D,F,c,k,a⟩,he,b,hd,f,p⟩:=m;obtain⟨G,g,d,tk,os⟩:=s1;have i:(Value.ref C::n).contains (.type "BaseException")=true:=by rw[List.contains_cons,a,Bool.or_true]
 repeat (first | (with_reducible refine a3T he ?_;rw[b]) | with_reducible refine a3T k ?_ | (with_reducible refine wpAny_isSubtype_exc k ?_;rw[i]) | with_reducible refine a3x he hd f ?_ | wp_step)
 exact wpAny_raiseNew_none l p
section
variable{P:Program}{w:World}{K:W.Frag}{mg:Str->Option Value}{base:Heap}{N:List Str}{qual:Str}{scope:Scope}{f:Addr}{cd:Value}{A:Around}{outer:List Env}{s:Shared}{H:Hp}{E:XK}{x:Expr}{te:TE}{pos:Pos}
def bT4(K:W.Frag)(E:XK)(te:TE):TS:=λD σ H=>te σ H λv H1=>∃ (e C:Addr) (d:Option Addr),v=.ref e/\H1 e=some (exo e (.ref C) d .none)/\exR K C/\∀ T,E (.ref e) d (upd H1 e (exo e (.ref C) d (.ref T)))
def bI0(c:PE (yR (CXo P w) P w K mg base N qual scope f cd A outer s H E) x te):PS (yR (CXo P w) P w K mg base N qual scope f cd A outer s H E) (.Raise (some x) none pos) (bT4 K E te):=by
 intro pins g σ i D I h;rw[arm_exec_Raise];refine a3n (a3Q ?_);show wpAny _ _ (raiseStmt _ (some (do let v ← eval x _;standAt pos;pure v)) none) _ _ _;refine wS (I.ok.hd rfl) (a3n (thn (c pins g σ i _ I h) λu s1 ⟨v,r,a,j,e,C,d,k,b,l,m⟩=>a3n (a3Q (a3o ?_))));subst k;obtain rfl:u=Value.ref e:=j;obtain⟨oe,vs,n,o,t,p,y,q⟩:=gQ a.hok b;exact⟨e,C,oe,vs,rfl,aK7 a.kIn l,n,o,p,q,bH7 a b m⟩
end
section
variable{X:Cx}{C:Addr}{x:Str}{p pos:Pos}{e:Expr}{es:List Expr}{t:TA}
end
section
variable{X:Cx}{R:Str}{CR:Addr}{rp apos pos:Pos}{a:Expr}{as:List Expr}{t:TA}
noncomputable def uQ(K:W.Frag)(CR:Addr):Bool:=W.specialIn K (.ref CR) "__getattribute__"==some (some (.builtin "type.__getattribute__"))&&W.readsIn K CR (.type "type") &&
 (match W.findCls K (.ref CR) (.type "type") "__init__" with | some (.val (.builtin i))=>i=="ValueError.__init__" | _=>false)
def cT4(K:W.Frag)(t:TA):TE:=λσ H Q=>t σ H λvs H1=>∃ (e C a:Addr) (tb:Value) (z:Str),vs=[.ref e,.str z]/\H1 e=some (exo e (.ref C) none tb)/\aN4 K C a bmV "ValueError.__new__"=true/\Q .non H1
def cB5(K:W.Frag)(O:X.K=K)(l:uQ K CR=true)(P:Gl X R)(hm:X.mg R=some (.ref CR))(ha:PA X (a::as) t)(m:(R==("__debug__":Str))=false:=by decide)
  (n:starEach (a::as) X.env=(false,eval a X.env)::starEach as X.env:=by rfl) (p:(backTo pos (starEach as X.env)).any (·.1)=false:=by rfl) {pl:Sem Bool}
  (S:eval (.Call (.Attribute (.Name R rp) "__init__" apos) (a::as) [] pos) X.env=(do
   let ov ← eval (.Name R rp) X.env
   standAt apos.atName
   let (f,first) ← holding [ov] (getMethod ov "__init__" pl)
   callWith pos f first (backTo pos (starEach (a::as) X.env)) (backToKw pos (keywordEach [] X.env))):=by rfl) :
  PE X (.Call (.Attribute (.Name R rp) "__init__" apos) (a::as) [] pos) (cT4 K t):=by
 subst O;intro pins s σ H Q I h;unfold uQ at l;simp only[Bool.and_eq_true,beq_iff_eq]at l;obtain⟨⟨U,V⟩,r⟩:=l;have Y:W.findCls X.K (.ref CR) (.type "type") "__init__"=some (.val (.builtin "ValueError.__init__")):=by
  split at r;rename_i i q;rw[q,a3w.mp r];cases r
 refine W.methodCall_KW (pl:=pl) (pS I P hm ?_ m) S;refine W.method_cls I.kIn U (W.cls_value I.kIn V Y (by decide +kernel) ?_);have Z:=I.tok (s.toks+1);have B:=ha pos pins _ σ H _ Z h;rw[n]at B ⊢;refine Calls.callWith_builtin (by show(false||(backTo pos (starEach as X.env)).any (·.1))=false;rw[p]<;>rfl) (Calls.evalArgs_plain ?_);refine thn B λus s2 Z0=>?_;obtain⟨vs,v,w,r2,e,C,fI,tb,z,ev,y,hc,q2⟩:=Z0;subst ev;obtain⟨u,D,rfl,ru,rw'⟩:=aP1 r2;obtain rfl:u=Value.ref e:=ru;obtain⟨bm,N,nm,qn,bs,E,sn,sub,ab,col,dd,k0,k1,k2,k3,k5,mN,hC,_,_,T⟩:=zH w.kIn hc;obtain⟨oe,ves,G,J,a3,L,a5,a6⟩:=gQ w.hok y;obtain⟨j,g,d,tk,os⟩:=s2;have eq:upd v e (exo e (.ref C) none tb)=v:=by
  funext b;by_cases q:b=e;rw[q,aE,y];rw[aD q]
 have k:=a1j L (·.setIfInBounds 0 (.ref j.objs.size));have A:(j.push {cls:=.type "tuple",data:=.seq [D].toArray}).get? e=some oe:=a2a _ G;have c:=a0d (Obj.mapFields (·.setIfInBounds 0 (.ref j.objs.size))) A (Obj.isFreed_of_fields k);refine cB2 F.excBase_ValueError T hC G J L (by lia) ?_ (by show 1<=sizeLine;decide);have M:=w.write (t':=tk) (x:=e) (e:=e) (o:=exo e (.ref C) none tb) (h':=(j.push {cls:=.type "tuple",data:=.seq [D].toArray}).update e (Obj.mapFields (·.setIfInBounds 0 (.ref j.objs.size)))) (by rw[y];trivial) (.inl rfl)
  (λb u hb q=>by rw[a4c _ _ (a3d hb)];exact a2a _ q) ⟨_,c⟩ (aE0 c ((lJ _).trans J) ((jS _).trans a3) k (by simpa using a5) (by simpa using a6))
 rw[eq]at M;exact⟨.non,v,M,rfl,q2⟩
end
def wT(z:Str):(Str.empty++z).length=z.length:=by
 rw[Str.length_append];show 0+z.length=z.length;lia
section
variable{X:Cx}{e:Expr}{te:TE}{z1:Str}{j:Nat}{p p' pos:Pos}
def dQ0(te:TE):TE:=λσ H Q=>te σ H λv a=>∃ i:Int,v=.int i/\i.natAbs.log2 < 1000/\∀ z:Str,Q (.str z) a
def dN1(te:TE):TE:=λσ H Q=>te σ H λv a=>∃ z:Str,v=.str z/\z.length<=1000/\(∀ c∈z.cps.toList,c < 16 ^ 8)/\∀ z:Str,Q (.str z) a
def cT5(f:PE X e te)(hz:z1.length<=1000:=by decide):PE X (.JoinedStr [.Constant (.str z1) j p,.FormattedValue e 114 none p'] pos) (dN1 te):=by
 intro pins s σ H Q I h;refine wpAny_JoinedStr ?_;show wpAny _ _ (eval (.Constant (.str z1) j p) X.env) _ _ s;refine Calls.Constant_str ⟨z1,_,rfl,by rw[wT];exact a8b hz (by decide),?_⟩;show wpAny _ _ (eval (.FormattedValue e 114 none p') X.env) _ _ _;refine wpAny_FormattedValue_repr (thn (f pins _ σ H _ (I.tok _) h) λu s1 Z0=>?_);obtain⟨v,c,d,g,z,i,l,k,q⟩:=Z0;subst i;obtain⟨t,rfl⟩:=g;have m:=PySem.StrLaws.reprText_len z k;have a:(reprText z).length<=sizeLine:=a8b (by lia:_<=20000) (by decide);have b:(Str.empty++z1++reprText z).length<=sizeLine:=by
  rw[Str.length_append,wT];exact a8b (by lia:_<=20000) (by decide)
 refine pyReprObj_str (wpAny_formatField_str ⟨_,_,rfl,b,b,.str _,c,(d.tok _).tok _,⟨_,rfl⟩,q _⟩ ⟨_,_,rfl,b,b,.str _,c,((d.tok _).tok _).tok _,⟨_,rfl⟩,q _⟩ a) a
end
theorem qE:∀ {a:List Addr} {us:List Value},bG (a.map V.ref) us->us=a.map Value.ref
 | [],_,.nil=>rfl
 | D::r,_,.cons b c=>by
   cases (show _=Value.ref D from b);rw[qE c];rfl
def cT6(K:W.Frag)(H:Hp)(C:Addr)(c:V)(b:Bool):Prop:=(∃ D,c=.ref D/\W.kitOne K (.ref C) (.ref D)=some b)\/(∃ T,c=.ty T/\W.kitOne K (.ref C) (.type T)=some b)\/∃ (t:Addr) (a:List Addr),c=.ref t/\H t=some (.tup (a.map V.ref))/\W.kitAny K (.ref C) (a.map Value.ref)=some b
def dF4(K:W.Frag):List V->Hp->VK->Prop:=λxs H Q=>∃ (e C:Addr) (d:Option Addr) (tb:Value) (c:V) (b:Bool),xs=[.ref e,c]/\H e=some (exo e (.ref C) d tb)/\(d=none\/∃ dx fs,d=some dx/\H dx=some (.xd fs))/\aS6 K C=true/\cT6 K H C c b/\Q (.bl b) H
def uR{X:Cx}(K:W.Frag)(m:X.K=K):iH X (.builtin "isinstance") (dF4 K):=by
 subst m;intro pins s σ H xs us Q I r h;obtain⟨e,C,d,tb,c,b,rfl,j,hd,o,ha,q⟩:=h;obtain⟨u,i,rfl,p,a⟩:=aP1 r;cases (show u=Value.ref e from p);have f:=ExcC.of o;have J:∃ v od,W.InstAt s.heap e v C od:=by
  rcases hd with rfl | ⟨dx,fs,rfl,y⟩;obtain⟨oe,vs,J,_⟩:=wQ I.hok j;exact⟨_,_,J⟩;obtain⟨oe,od,J,_⟩:=wR I.hok j y;exact⟨_,_,J⟩
 have Z:=bH9 (x:=e) F.attr_ValueError f.ga f.gt f.bx f.cl f.gn f.tk f.ob;have fin:∀ tk,EP X pins σ Q (.bool b) {s with toks:=tk}:=λtk=>⟨.bl b,H,I.tok tk,rfl,q⟩;rcases ha with⟨D,rfl,g⟩ | ⟨T,rfl,g⟩ | ⟨t,L,rfl,A,g⟩;cases (show i=Value.ref D from a);exact a8e Z I.kIn J g (λz=>nomatch z) fin;cases (show i=Value.type T from a);exact a8e Z I.kIn J g (λz=>nomatch z) fin;cases (show i=Value.ref t from a);obtain⟨_,its,B,⟨⟨oc,od,E,sl⟩,G,k,n,l⟩,_⟩:=(show cN X.prog X.w H s.heap t (.tup _)from I.hok t _ A);obtain rfl:=qE B;dsimp only at k l;subst k;subst l;exact W.kia_tup Z I.kIn J G g (λz=>nomatch z) fin
noncomputable abbrev Cx.tr(X:Cx)(pins:List (Addr×Obj))(E:Value->Shared->Prop):Cx:={X with xe:=E,pn:=X.pn++pins}
noncomputable abbrev Cx.sut(X:Cx)(e:Value)(E:Value->Shared->Prop):Cx:={X with A:=X.A.mark (some e),calm:=false,xe:=E}
section
variable{X:Cx}{pins pins':List (Addr×Obj)}{σ:St}{H:Hp}{s:Shared}{E:Value->Shared->Prop}{e:Value}
theorem Cx.Ok.tr(ok:X.Ok):(X.tr pins E).Ok:=⟨ok.mod,ok.kind,ok.glob,ok.blt,ok.above,ok.inj,ok.has,ok.cab,ok.hd,ok.frames,ok.stk,ok.exf,ok.bs,ok.bsz,ok.noex,ok.exfs,ok.funs,ok.frf⟩
def Cx.Ok.untr(ok:(X.tr pins E).Ok):X.Ok:=⟨ok.mod,ok.kind,ok.glob,ok.blt,ok.above,ok.inj,ok.has,ok.cab,ok.hd,ok.frames,ok.stk,ok.exf,ok.bs,ok.bsz,ok.noex,ok.exfs,ok.funs,ok.frf⟩
theorem Cx.Ok.sut(ok:X.Ok):(X.sut e E).Ok:=⟨ok.mod,ok.kind,ok.glob,ok.blt,ok.above,ok.inj,ok.has,ok.cab,(λz=>nomatch z),ok.frames,ok.stk,ok.exf,ok.bs,ok.bsz,ok.noex,ok.exfs,ok.funs,ok.frf⟩
theorem Inv.tr(I:Inv X pins σ H s):Inv (X.tr pins E) [] σ H s:=⟨I.ok.tr,I.os,I.bare,I.base,I.loc,I.cell,I.free,I.freeC,λp a=>I.pin p (by rwa[a4f]at a),I.hok,I.len⟩
theorem Inv.untr(I:Inv (X.tr pins E) pins' σ H s):Inv X pins σ H s:=⟨I.ok.untr,I.os,I.bare,I.base,I.loc,I.cell,I.free,I.freeC,λp a=>I.pin p (a2g _ a),I.hok,I.len⟩
theorem Inv.sut(I:Inv X pins σ H s):Inv (X.sut e E) pins σ H s:=⟨I.ok.sut,I.os,I.bare,I.base,I.loc,I.cell,I.free,I.freeC,I.pin,I.hok,I.len⟩
def Inv.unsut(ok:X.Ok)(I:Inv (X.sut e E) pins σ H s):Inv X pins σ H s:=⟨ok,I.os,I.bare,I.base,I.loc,I.cell,I.free,I.freeC,I.pin,I.hok,I.len⟩
theorem SP.untr{D:Ends}{f:Flow}{s':Shared}(h:SP (X.tr pins E) [] D f s'):SP X pins D f s':=by
 cases f with
 | next=>obtain⟨σ',H',I,q⟩:=h;exact⟨σ',H',I.untr,q⟩
 | brk=>obtain⟨σ',H',I,q⟩:=h;exact⟨σ',H',I.untr,q⟩
 | cont=>obtain⟨σ',H',I,q⟩:=h;exact⟨σ',H',I.untr,q⟩
 | ret u=>obtain⟨v,σ',H',I,r,q⟩:=h;exact⟨v,σ',H',I.untr,r,q⟩
end
def Esc(X:Cx)(pins:List (Addr×Obj))(CX:CXT)(E:St->XK):Value->Shared->Prop:=λx s'=>∃ σ' a s1,Inv X pins σ' a s1/\CX X.stack a s1 (E σ') x s'
section
variable{X:Cx}{CX:CXT}{k:Nat}{f:Addr}{fd:FuncData}{ps:List Str}{sp:Sp}{E:St->XK}{x:Str}{p pos:Pos}{e:Expr}{es:List Expr}{t:TA}{pins0:List (Addr×Obj)}
def bT5(sp:Sp)(E:St->XK)(t:TA):TE:=λσ H Q=>t σ H λvs a=>sp vs a Q (E σ)
def bI1(F:FnOk X.prog X.w X.K X.mg X.base CX k f fd ps sp)(j:Room k X.A)(l:Gl X x)(hm:X.mg x=some (.ref f))(m:W.keepIn X.K (.ref f)=true)(n:cZ X.K fd ps [])
  (ha:PA (X.tr pins0 (Esc X pins0 CX E)) (e::es) t) (d:(x==("__debug__":Str))=false:=by decide) (o:starEach (e::es) X.env=(false,eval e X.env)::starEach es X.env:=by rfl) (g:(backTo pos (starEach es X.env)).any (·.1)=false:=by rfl) :
  PE (X.tr pins0 (Esc X pins0 CX E)) (.Call (.Name x p) (e::es) [] pos) (bT5 sp E t):=by
 intro pins s σ H Q I h;refine a3z (pS I l hm ?_ d);refine W.callWith_K (h₀:=X.base) I.ok.mod.kin m (thn (ha pos pins s σ H _ I h) λus s1 ⟨vs,i,a,r,q⟩=>⟨a.kIn,?_⟩) o g;have v:(us++[]).length=ps.length:=by rw[a4f,← r.length];exact F.len _ _ _ _ q
 have b:=n s1 us a.kIn v;rw[a4f]at b;refine a3S (a3U (F.run X.A X.stack s1 i ⟨us,[]⟩ us vs Q (E σ) j a.env0 b r q) λr s' c=>?_);cases r with
 | error e=>exact⟨σ,i,s1,a.untr,c⟩
 | ok y=>
   cases y with
   | ret u=>exact a.after c
   | next=>exact False.elim c
   | brk=>exact False.elim c
   | cont=>exact False.elim c
end
structure Held(X:Cx)(pins:List (Addr×Obj))(H:Hp)(s:Shared)(T:Addr)(oT:Obj):Prop where
 at_:s.heap.get? T=some oT
 rec_:∃ ts,oT.data=.fields ts/\ts[3]? = some .none
 un:H T=none
 young:X.s₀.heap.objs.size<=T
 loc:T≠X.env.locals
 cell:∀ x c,X.env.cells.lookup x=some c->c≠T
 pin:∀ p∈X.pn++pins,p.1≠T
section
variable{X:Cx}{pins:List (Addr×Obj)}{σ:St}{H:Hp}{s:Shared}{T:Addr}{oT:Obj}
def Held.pinned(h:Held X pins H s T oT)(I:Inv X pins σ H s):Inv X ((T,oT)::pins) σ H s:=I.pins_of λp a=>by
 rcases a7b.mp a with rfl | a;refine⟨h.at_,h.un,h.loc,λz=>?_,λv z=>?_⟩;obtain⟨_,o,b,_⟩:=I.ok.funs.mem z;exact absurd (a5b (a0b b) h.young) (a0e _);obtain⟨ts,e,_⟩:=h.rec_;rw[e]at z;cases z;exact I.pin p (a2c _ a)
def Inv.unpin{p:Addr×Obj}(I:Inv X (p::pins) σ H s):Inv X pins σ H s:=I.pins_of λq a=>I.pin q (a2c _ (a8a _ a))
def Held.again{σ':St}{H':Hp}{s':Shared}(h:Held X pins H s T oT)(I:Inv X ((T,oT)::pins) σ' H' s'):Held X pins H' s' T oT:=
 have p:=I.pin (T,oT) (a2c _ a4a)
 ⟨p.1,h.rec_,p.2.1,h.young,h.loc,h.cell,h.pin⟩
def zK{M:Model}{A:Around}{E:Value->Shared->Prop}{e:Addr}{C:Value}{d:Option Addr}{Q:Unit->Shared->Prop}(I:Inv X pins σ H s)(a:H e=some (exo e C d (.ref T)))(h:Held X pins H s T oT)
  (c:∀ s',Inv X pins σ H s'->Q () s'):wpAny M A (setFlight (.ref e) none) Q E s:=by
 obtain⟨oe,vs,f,n,p,g,r,i⟩:=gQ I.hok a;obtain⟨ts,j,k⟩:=h.rec_;have l:=(a6d.mp k).1;refine wpAny_setFlight_none f g i h.at_ j l (c _ ?_);exact I.turned (t':=s.toks) (λb o m q=>by rw[a4c _ _ (a3d m)];exact q) h.un h.loc (.inr h.young) h.cell h.pin
def lN{M:Model}{A:Around}{E:Value->Shared->Prop}{i:Nat}{n:Str}{pos:Pos}{Q:Unit->Shared->Prop}(I:Inv X pins σ H s)(D:X.N.Nodup)(hi:X.N[i]? = some n)(F:X.env.scope.names.lookup n=some .local)
  (h:∀ s',Inv X pins (σ.set i none) H s'->Q () s'):wpAny M A (do bindName X.env n .none;unbindBehindTheSuite X.env n pos) Q E s:=by
 obtain⟨m,hn,t⟩:=id I.loc;have g:(X.env.scope.kind==.class||(X.env.scope.kind==.module&&X.env.locals != X.env.globals))=false:=by rw[I.ok.kind];rfl
 have cne:=I.cne;refine wpAny_nameGoes_keeps F hn g λh' v u hs=>?_;obtain⟨S,_,_,G,_⟩:=id hn;have old:∀ b o,X.s₀.heap.get? b=some o->b≠X.env.locals:=λb o e=>a9c (a5b (a0b e) I.ok.above);refine h _ ⟨I.ok,I.os,I.bare,⟨λb o e q w l=>(hs.2 b (old b o e)).trans (I.base.keep b o e q w l),λb o e q w l=>?_,I.base.free,λb o e l=>?_,I.base.tups,I.base.frzs,I.base.tbls⟩,⟨_,u,λj y J a r K=>?_⟩,λy c e=>?_,I.free,I.freeC,λp L=>?_,λb ob e=>?_,by simpa using I.len⟩;obtain⟨sl,a⟩:=I.base.slot b o e q w l;exact⟨sl,(hs.2 b (old b o e)).trans a⟩;obtain⟨o',a⟩:=I.base.there b o e l;exact⟨o',(hs.2 b (old b o e)).trans a⟩
 ·by_cases x:j=i
  ·subst x;have B:j < σ.length:=by rw[I.len];exact(a3a.mp hi).1
   rw[a1c B]at r;cases r
  ·rw[a7a (a3d x)]at r;obtain⟨O,P,q⟩:=t j y J a r K;refine⟨O,P,?_⟩;rcases q with⟨k,e⟩ | ⟨k,c,e,z⟩;refine .inl ⟨k,?_⟩;have:y≠n:=λe=>x (tW D a (e ▸ hi));simp[this,e];exact .inr ⟨k,c,e,z.sameBut hs (cne y c e)⟩
 ·obtain⟨C,z⟩:=I.cell y c e;exact⟨C,z.sameBut hs (cne y c e)⟩
 ·obtain⟨e,q,ne,R,d⟩:=I.pin p L;exact⟨(hs.2 p.1 ne).trans e,q,ne,R,d⟩
 ·refine(I.hok b ob e).stay (λc C f q=>(hs.2 c ?_).trans q) (λ_ q=>q) λ_ _ q=>q;rintro rfl;rcases f with f | f;rw[← f,I.free]at e;cases e;rw[I.free]at f;cases f
end
def cT7(K:W.Frag)(H:Hp)(C:Addr)(c:V)(b:Bool):Prop:=(∃ D,c=.ref D/\W.typeIn K (.ref D)=some (.type "type")/\fS K C (.ref D)=some b) \/
 ∃ (t:Addr) (a:List Addr) (g:Value->Bool),c=.ref t/\H t=some (.tup (a.map V.ref))/\(∀ D∈a,fS K C (.ref D)=some (g (.ref D)))/\b=(a.map Value.ref).any g
abbrev TH:=Addr->Addr->Option Addr->Addr->TS
def PH(X:Cx)(hs:List ExceptHandler)(a:TH):Prop:=∀ (pins:List (Addr×Obj)) (s:Shared) (σ:St) (H:Hp) (D:Ends) (e C:Addr) (d:Option Addr) (T:Addr) (oT:Obj),Inv X pins σ H s->H e=some (exo e (.ref C) d (.ref T))->Held X pins H s T oT->a e C d T D σ H ->
 wpAny (model X.prog X.w) X.A (handleBy (.ref e) X.env hs) (SP X pins D) X.xe s
def cT8{X:Cx}:PH X [] λ_ _ _ _ _ _ _=>False:=λ_ _ _ _ _ _ _ _ _ _ _ _ _ h=>h.elim
noncomputable def Ends.gone(D:Ends)(i:Nat):Ends:={nx:=λσ H=>D.nx (σ.set i none) H,rt:=D.rt,bk:=λσ H=>D.bk (σ.set i none) H,ct:=λσ H=>D.ct (σ.set i none) H}
section
variable{X:Cx}{t:Expr}{tt:TE}{n:Str}{i:Nat}{b0:Stmt}{body:List Stmt}{ts:TS}{pos:Pos}{bK:List ExceptHandler}{th:TH}
def cB6{pins:List (Addr×Obj)}{s:Shared}{σ:St}{H:Hp}{e C:Addr}{d:Option Addr}{T:Addr}{oT:Obj}{R:Result->Shared->Prop}(x:∀ e E,PE (X.sut e E) t tt)(I:Inv X pins σ H s)(hT:Held X pins H s T oT)
  {n:VK} (h:tt σ H n) (y:∀ c a,n c a->a e=some (exo e (.ref C) d (.ref T))/\∃ b,cT7 X.K a C c b/\∀ s1,Inv X pins σ a s1->Held X pins a s1 T oT->R (.ok (if b then .brk else .next)) s1) :
  codeAny (model X.prog X.w) (X.A.mark (some (.ref e))) (.handlers (.ref e) [.ExceptHandler (some t) none [] pos] X.env) R s:=by
 refine codeAny_handlers_test (thn (x (.ref e) _ ((T,oT)::pins) s σ H _ (hT.pinned I).sut h) λu s1 Z0=>?_);obtain⟨c,a,j,p,z⟩:=Z0;obtain⟨B,b,F,q⟩:=y c a z;have f:=j.unsut I.ok;obtain⟨oe,vs,r,v,_⟩:=gQ f.hok B;have i:=hT.again f;rcases F with⟨D,rfl,k,l⟩ | ⟨m,G,g,rfl,k,l,rfl⟩;cases (show u=Value.ref D from p);exact zI f.kIn r v k l (q s1 f.unpin i);cases (show u=Value.ref m from p);obtain⟨_,its,J,⟨o,L,M,N,O⟩,_⟩:=(show cN X.prog X.w a s1.heap m (.tup _)from f.hok m _ k);obtain rfl:=qE J;refine zJ (cs:=G.map Value.ref) (g:=g) f.kIn r v ⟨o,N,L,M,O⟩ (λc P=>?_) (q s1 f.unpin i);obtain⟨D,hD,rfl⟩:=a3h.mp P;exact l D hD
def hAs(K:W.Frag)(tt:TE)(i:Nat)(ts:TS)(th:TH):TH:=λe C d T D σ H=>tt σ H λc a=>a e=some (exo e (.ref C) d (.ref T))/\∃ b,cT7 K a C c b/\(if b then ts (D.gone i) (σ.set i (some (.ref e))) a else th e C d T D σ a)
def dI7(K:W.Frag)(B:X.K=K)(l:X.N.Nodup)(hi:X.N[i]? = some n)(k:X.env.scope.names.lookup n=some .local)(F:∀ e E,PE (X.sut e E) t tt)(G:∀ e E,PSs (X.sut e E) (b0::body) ts)(J:PH X bK th) :
  PH X (.ExceptHandler (some t) (some n) (b0::body) pos::bK) (hAs K tt i ts th):=by
 subst B;intro pins s σ H D e C d T oT I S hT h;refine wpAny_handleBy_cons (cB6 (C:=C) (d:=d) F I hT h λc x q=>⟨q.1,?_⟩) (λz=>nomatch z);obtain⟨m,b,L,q⟩:=q;refine⟨b,L,λs1 y o=>?_⟩;cases b with
 | false=>exact J pins s1 σ x D e C d T oT y m o q
 | true=>
   show codeAny _ _ (.handlers (.ref e) [.ExceptHandler none (some n) (b0::body) pos] X.env) _ s1;refine codeAny_handlers_suite_as (zK y m o λs2 M=>?_);refine kX M l hi (Or.inl k) (v:=.ref e) rfl (λO P=>?_) (.inr k);refine a3B (G (.ref e) _ pins O _ x _ P.sut q) (λf Q p=>?_) λ_ _ z=>z;have ok:=I.ok;show wpAny (model X.prog X.w) X.A (do bindName X.env n .none;unbindBehindTheSuite X.env n pos) _ _ Q;cases f with
   | next=>
     obtain⟨σ',H',a,g⟩:=p;exact lN (a.unsut ok) l hi k λr j=>⟨_,_,j,g⟩
   | brk=>
     obtain⟨σ',H',a,g⟩:=p;exact lN (a.unsut ok) l hi k λr j=>⟨_,_,j,g⟩
   | cont=>
     obtain⟨σ',H',a,g⟩:=p;exact lN (a.unsut ok) l hi k λr j=>⟨_,_,j,g⟩
   | ret u=>
     obtain⟨v,σ',H',a,R,g⟩:=p;exact lN (a.unsut ok) l hi k λr j=>⟨v,_,_,j,R,g⟩
def aS8{pins:List (Addr×Obj)}{s:Shared}{σ:St}{H:Hp}{e C:Addr}{d:Option Addr}{tb:Value}{T To:Addr}{oe:Obj}{vs:Array Value}{old:Addr->Prop}{h':Heap}(I:Inv X pins σ H s)(h:H e=some (exo e (.ref C) d tb))(i:s.heap.get? e=some oe)(w:oe.cls=.ref C)(j:oe.dict=d)(hd:oe.data=.fields vs)(hs:5 < vs.size)
  (f:∀ b,old b->b=To) (y:H To=none) (A:X.s₀.heap.objs.size<=To) (l:To≠X.env.locals) (B:∀ x c,X.env.cells.lookup x=some c->c≠To) (D:∀ p∈X.pn++pins,p.1≠To) (n:Noted (frs X.stack) e T oe old s.heap h') :
  Inv X pins σ (upd H e (exo e (.ref C) d (.ref T))) {s with heap:=h'}:=by
 have ne:∀ b,H b=none->b≠e:=λb q z=>by rw[z,h]at q;cases q
 have no:∀ b,b∉[To]->¬ old b:=λb k z=>k (by rw[f b z];exact a3b.mpr rfl);have tr:∀ b u,H b=some u->(∀ x,u≠.ext x)->(upd H e (exo e (.ref C) d (.ref T))) b=some u:=λb u q E=>by
  rw[aD (λz=>by rw[z,h]at q;exact E _ (a5a q).symm)];exact q
 refine I.step (g':=s.gens) (t':=s.toks) (d':=s.drawn) (ch:=[To]) (λb k=>?_) (λb o t v a q g=>?_) (λb o t v a q g=>?_) (λb o a q g=>by rw[aD (ne b g)];exact g) (λb o a q=>n.there b o q)
  (λb xs q=>tr b _ q (λx z=>nomatch z)) (λb o u q=>tr b _ q (λx z=>nomatch z)) (λb ps q=>⟨#[],by rw[tr b _ q (λx z=>nomatch z)];simp⟩) (λm hm=>?_) (wO I h i w j hd hs (λb z=>by rw[f b z];exact y) n) I.bare
 ·rw[a3b.mp k];exact⟨.inr A,l,B,D⟩
 ·exact n.keep b o (ne b g) (no b a) (λz=>(a7b.mp (I.stkSub b z)).elim t v) q
 ·exact n.slot b o (ne b g) (no b a) q
 ·obtain⟨o,es,ep,F,r⟩:=hm;obtain⟨sl,q⟩:=n.slot _ o (ne _ I.free) (no _ (λz=>l (a3b.mp z).symm)) F;exact⟨_,es,ep,q,r⟩
def dN2(tb:(St->XK)->TS)(th:TH):TS:=λD σ H=>tb (λσ' x d H'=>∃ e C T,x=.ref e/\H' e=some (exo e (.ref C) d (.ref T))/\th e C d T D σ' H') D σ H
def cT9{P:Program}{w:World}{body:List Stmt}{h0:ExceptHandler}{hs:List ExceptHandler}{tb:(St->XK)->TS}(hP:X.prog=P)(hw:X.w=w)(i:X.stack=X.env::X.outer)(F:X.env.frame=some X.env.locals)
  (hb:∀ pins E,PSs (X.tr pins (Esc X pins (CXo P w) E)) body (tb E)) (hh:PH X (h0::hs) th):PS X (.Try body (h0::hs) [] [] pos) (dN2 tb th):=by
 subst hP;subst hw;intro pins s σ H D I h;refine wpAny_Try_except (a3B (hb pins _ [] s σ H D I.tr h) (λf s1 G=>?_) λx s1 G=>?_)
 ·have B:=G.untr;cases f with
  | next=>exact a3o B
  | brk=>exact B
  | cont=>exact B
  | ret u=>exact B
 ·obtain⟨σ',H1,s0,m,e,C,d,V,T,rfl,os,bare,un,hok,J,j,hT,K,⟨oT,ts,b4,b5,b6⟩,hE⟩:=G;have g:=m.call' os un hok bare (λb z=>absurd z (by simp));obtain⟨oe,vs,W,a2,a3,Y,a5,Z⟩:=gQ g.hok J;have r:∀ {b:Addr} {o:Obj},s0.heap.get? b=some o->b≠T:=λq=>a9c (a5b (a0b q) j);have M:X.A.frames=some (X.env::X.outer):=by rw[← i];exact I.ok.frames
  have N:s1.heap.FunFrames X.base (X.env::X.outer):=by rw[← i];exact g.stack
  refine aS3 (L:=X.env.locals) (base:=X.base) M N F W Y (.inr ⟨T,oT,ts,Z,K,b4,b5,b6⟩) λh' k n=>?_;have n':Noted (frs X.stack) e k oe (λb=>vs[1]? = some (.ref b)) s1.heap h':=by rw[i];exact n
  have O:=aS8 g J W a2 a3 Y a5 (To:=T) (λb z=>by rw[Z]at z;exact(Value.ref.inj (a5a z)).symm) hT (a8b m.sz j) (a3j (a5b m.lt j))
   (λx c q=>by obtain⟨v,o,Q,_⟩:=m.cell x c q;exact r Q) (λp R=>r (m.pin p R).1) n'
  have l:V k=none:=g.hok.fresh n.new;have t:k≠e:=λz=>by rw[z,J]at l;cases l
  have y:∀ {b:Addr} {o:Obj},s1.heap.get? b=some o->b≠k:=λq=>a9c (a5b (a0b q) n.new);obtain⟨S,U,t1,t2,t3⟩:=n.tb;obtain⟨e2,C2,T2,q1,q2,q3⟩:=hE k;cases q1;obtain⟨o2,v2,z1,z2,_,z3,_,z4⟩:=gQ O.hok q2;obtain⟨o3,v3,y1,y2,_,y3,_,y4⟩:=gQ O.hok (aE (H:=V) (a:=e) (o:=exo e (.ref C) d (.ref k)));rw[z1]at y1;cases y1;rw[z2]at y2;cases y2;rw[z3]at y3;cases y3;rw[z4]at y4;cases y4;exact hh pins _ σ' _ D e C d k S O aE ⟨t1,⟨U,t2,t3⟩,by rw[aD t];exact l,a8b g.sz n.new,a3j (a5b g.lt n.new),
   (λx c q=>by obtain⟨v,o,Q,_⟩:=g.cell x c q;exact y Q),(λp R=>y (g.pin p R).1)⟩ q3
end
section
variable{κ:Type}[DecidableEq κ]
end
section
variable{P:Program}{w:World}{H:Hp}{h:Heap}{a:Addr}
end
section
variable{X:Cx}{pins:List (Addr×Obj)}{σ:St}{H:Hp}{s:Shared}{a:Addr}{y v:V}{u r:Value}{o:Option V}{A:Around}{E:Value->Shared->Prop}
end
section
variable{X:Cx}{pins:List (Addr×Obj)}{σ:St}{H:Hp}{s:Shared}{a:Addr}{kvs:List (Key×V)}{k:Key}{u:Value}{A:Around}{E:Value->Shared->Prop}
end
section
variable{X:Cx}{o i e value:Expr}{pos pos' tpos:Pos}{td ty tv:TE}
end
section
variable{X:Cx}{pos:Pos}
end
section
variable{X:Cx}{pins:List (Addr×Obj)}{σ:St}{H:Hp}{s:Shared}{a:Addr}{y d:V}{u r:Value}{o:Option V}{A:Around}{E:Value->Shared->Prop}
end
section
variable{X:Cx}{o e f:Expr}{apos cpos:Pos}{td ty tx:TE}
end
section
variable{X:Cx}{pins:List (Addr×Obj)}{σ:St}{H:Hp}{s:Shared}{a:Addr}{kvs:List (Key×V)}{A:Around}{E:Value->Shared->Prop}
end
section
variable{X:Cx}{pins:List (Addr×Obj)}{σ:St}{H:Hp}{s:Shared}{a:Addr}{y:V}{u:Value}{A:Around}{E:Value->Shared->Prop}
end
section
variable{X:Cx}
end
section
variable{K:W.Frag}{t:TA}{te to tv:TE}{f:Str}{σ:St}{H:Hp}{Q:VK}{D:Ends}{sp:Sp}{C:Addr}{E:XK}{Ex:St->XK}{tb:(St->XK)->TS}{th:TH}{i:Nat}{ts:TS}
theorem aS9:cT4 K t σ H Q=t σ H λvs H1=>∃ (e C a:Addr) (tb:Value) (z:Str),vs=[.ref e,.str z]/\H1 e=some (exo e (.ref C) none tb)/\aN4 K C a bmV "ValueError.__new__"=true/\Q .non H1:=rfl
theorem bT6:dQ0 te σ H Q=te σ H λv H1=>∃ i:Int,v=.int i/\i.natAbs.log2 < 1000/\∀ z:Str,Q (.str z) H1:=rfl
theorem bT7:dN1 te σ H Q=te σ H λv H1=>∃ z:Str,v=.str z/\z.length<=1000/\(∀ c∈z.cps.toList,c < 16 ^ 8)/\∀ z:Str,Q (.str z) H1:=rfl
theorem bT8:sAt K to tv f D σ H=tv σ H λy a=>to σ a λv H2=>∃ (e C:Addr) (tb:Value),v=.ref e/\H2 e=some (exo e (.ref C) none tb)/\aS6 K C=true/\W.findIn K (.ref C) f=some none/\∀ dx,H2 dx=none->dx≠e->D.nx σ (upd (upd H2 e (exo e (.ref C) (some dx) tb)) dx (.xd [(f,y)])):=rfl
end
end L2
namespace Mr
open PySem L2 PyProof.Rows
def cM0(z:Str):Prop:=z.length<=100/\∀ c∈z.cps.toList,c < 16 ^ 8
def spS(f:Str):Sps:=λK vs H Q _=>∃ (e C a:Addr) (z:Str),vs=[.ref e,.str z]/\H e=some (exo e (.ref C) none .none)/\aS6 K C=true/\aN4 K C a bmV "ValueError.__new__"=true/\W.findIn K (.ref C) f=some none/\cM0 z /\
 ∀ dx,H dx=none->dx≠e->Q .non (upd (upd H e (exo e (.ref C) (some dx) .none)) dx (.xd [(f,.str z)]))
def uT:Sps:=spS "table"
end Mr
namespace Mr
open PySem L2
def aT0{H:Hp}{e dx:Addr}{c d f x:HO}(g:H e=none)(hd:H dx=none):kJ H (upd (upd (upd (upd H e c) e d) dx x) e f):=λb o q=>by
 have a:b≠e:=aC q g;have h:b≠dx:=aC q hd;rw[aD a,aD h,aD a,aD a];exact q
def cB7{H:Hp}{e dx:Addr}{b c d x:HO}(a:dx≠e):(upd (upd (upd (upd H e b) e c) dx x) e d) dx=some x:=by rw[aD a,aE]
def cU0{H:Hp}{e dx:Addr}{c b x:HO}(a:dx≠e):(upd (upd (upd H e c) e b) dx x) e=some b:=by rw[aD a.symm,aE]
def aT1{H:Hp}{e dx:Addr}{o:HO}(a:dx≠e)(h:(upd H e o) dx=none):H dx=none:=by rw[aD a]at h;exact h
section
variable{K:W.Frag}{H:Hp}{C t D0 D1 D2 D3:Addr}{b0 b1 b2 b3:Bool}
end
end Mr
namespace L2
open PySem PySem.Spec PyProof.Rows
section
variable{X:Cx}
end
section
variable{t tk tv td ty tx:TE}{r:List (TE×TE)}{σ:St}{H:Hp}{Q:VK}{R:List (V×V)->Hp->Prop}
end
end L2
namespace Mr
open PySem L2 PyProof.Rows
theorem sZ{m:Nat}{sep:Str}(hs:∀ c∈sep.cps.toList,c < m):∀ zs:List Str,(∀ z∈zs,∀ c∈z.cps.toList,c < m)->∀ c∈(Str.join sep zs).cps.toList,c < m
 | [],_=>λc a=>by simp[Str.join,Str.empty]at a
 | [x],h=>λc a=>h x a4a c a
 | x::y::r,h=>λc a=>by
   have b:=sZ hs (y::r) λz d=>h z (a8a _ d);have e:(Str.join sep (x::y::r)).cps.toList=x.cps.toList++sep.cps.toList++(Str.join sep (y::r)).cps.toList:=by
    show(x++sep++Str.join sep (y::r)).cps.toList=_;rw[Str.cps_append,Str.cps_append,Array.toList_append,Array.toList_append]
   rw[e]at a;rcases a0c.mp a with a | a;rcases a0c.mp a with a | a;exact h x a4a c a;exact hs c a;exact b c a
def zL{m:Nat}{sep:Str}(hs:∀ c∈sep.cps.toList,c < m)(zs:List Str)(h:∀ z∈zs,∀ c∈z.cps.toList,c < m):∀ c∈(Txt.join sep zs).cps.toList,c < m:=by
 show ∀ c∈(Builtin.Str.glued sep zs).cps.toList,c < m;rw[StrLaws.glued_eq_join];exact sZ hs zs h
def aT2:∀ c∈(Str.ofString "abcdefghijklmnopqrstuvwxyz").cps.toList,c < 128:=by decide
end Mr
namespace Dv
open PySem L2
inductive D where
 | non | bl (b:Bool) | int (i:Int) | str (x:Str) | tup (l:List D) | lst (l:List D) | dic (ks vs:List D)
noncomputable instance:DecidableEq D:=λ_ _=>Classical.propDecidable _
noncomputable instance:Inhabited D:=⟨.non⟩
noncomputable def dN3:Key->D
 | .inl i=>.int i
 | .inr x=>.str x
def cU1:HO->List D->List V->Prop
 | .dK kvs,ks,ws=>ks=kvs.map (λa=>dN3 a.1)/\ws=kvs.map (·.2)
 | .dT kvs,ks,ws=>ks=kvs.map (λa=>D.tup (a.1.map dN3))/\ws=kvs.map (·.2)
 | _,_,_=>False
mutual
inductive Rp(H:Hp):D->V->Prop
 | non:Rp H .non .non
 | bl (b:Bool):Rp H (.bl b) (.bl b)
 | int (i:Int):Rp H (.int i) (.int i)
 | str (x:Str):Rp H (.str x) (.str x)
 | tup {l:List D} {p:Addr} {xs:List V}:H p=some (.tup xs)->Rps H l xs->Rp H (.tup l) (.ref p)
 | lst {l:List D} {p:Addr} {xs:List V} {o:Obj}:H p=some (.frz o (.lst xs))->Rps H l xs->Rp H (.lst l) (.ref p)
 | dic {ks vs:List D} {p:Addr} {o:Obj} {u:HO} {ws:List V}:H p=some (.frz o u)->cU1 u ks ws->Rps H vs ws->Rp H (.dic ks vs) (.ref p)
inductive Rps(H:Hp):List D->List V->Prop
 | nil:Rps H [] []
 | cons {d:D} {r:List D} {x:V} {xs:List V}:Rp H d x->Rps H r xs->Rps H (d::r) (x::xs)
end
structure Ext(H H':Hp):Prop where
 tup:∀ p xs,H p=some (.tup xs)->H' p=some (.tup xs)
 frz:∀ p o u,H p=some (.frz o u)->H' p=some (.frz o u)
def Ext.same{H H':Hp}(h:kJ H H'):Ext H H':=⟨λp xs e=>h p _ e,λp o u e=>h p _ e⟩
mutual
theorem Rp.mono{H H':Hp}(a:Ext H H'):∀ {d:D} {x:V},Rp H d x->Rp H' d x
 | _,_,.non=>.non
 | _,_,.bl b=>.bl b
 | _,_,.int i=>.int i
 | _,_,.str x=>.str x
 | _,_,.tup h r=>.tup (a.tup _ _ h) (Rps.mono a r)
 | _,_,.lst h r=>.lst (a.frz _ _ _ h) (Rps.mono a r)
 | _,_,.dic h k r=>.dic (a.frz _ _ _ h) k (Rps.mono a r)
theorem Rps.mono{H H':Hp}(b:Ext H H'):∀ {l:List D} {xs:List V},Rps H l xs->Rps H' l xs
 | _,_,.nil=>.nil
 | _,_,.cons a r=>.cons (Rp.mono b a) (Rps.mono b r)
end
section
variable{H:Hp}
theorem Rps.length:∀ {l:List D} {xs:List V},Rps H l xs->l.length=xs.length
 | _,_,.nil=>rfl
 | _,_,.cons _ r=>by simp[Rps.length r]
theorem Rps.get:∀ {l:List D} {xs:List V} {i:Nat} {d:D},Rps H l xs->l[i]? = some d->∃ x,xs[i]? = some x/\Rp H d x
 | _,_,_,_,.nil,h=>by simp at h
 | _,_,0,_,.cons a r,h=>by simp at h;subst h;exact⟨_,rfl,a⟩
 | _,_,i+1,_,.cons a r,h=>by
   obtain⟨x,e,q⟩:=Rps.get (i:=i) r (by simpa using h);exact⟨x,by simpa using e,q⟩
theorem Rps.append:∀ {l m:List D} {xs ys:List V},Rps H l xs->Rps H m ys->Rps H (l++m) (xs++ys)
 | _,_,_,_,.nil,h=>h
 | _,_,_,_,.cons a r,h=>.cons a (Rps.append r h)
theorem Rps.take:∀ {l:List D} {xs:List V} (n:Nat),Rps H l xs->Rps H (l.take n) (xs.take n)
 | _,_,0,_=>.nil
 | _,_,_+1,.nil=>.nil
 | _,_,n+1,.cons a r=>.cons a (Rps.take n r)
theorem Rps.drop:∀ {l:List D} {xs:List V} (n:Nat),Rps H l xs->Rps H (l.drop n) (xs.drop n)
 | _,_,0,r=>r
 | _,_,_+1,.nil=>.nil
 | _,_,n+1,.cons _ r=>Rps.drop n r
theorem Rps.set:∀ {l:List D} {xs:List V} {d:D} {x:V} (i:Nat),Rps H l xs->Rp H d x->Rps H (l.set i d) (xs.set i x)
 | _,_,_,_,_,.nil,_=>.nil
 | _,_,_,_,0,.cons _ r,q=>.cons q r
 | _,_,_,_,i+1,.cons a r,q=>.cons a (Rps.set i r q)
theorem lP:∀ ns:List Int,Rps H (ns.map D.int) (ns.map V.int)
 | []=>.nil
 | n::r=>.cons (.int n) (lP r)
theorem aE2:∀ ns:List Str,Rps H (ns.map D.str) (ns.map V.str)
 | []=>.nil
 | n::r=>.cons (.str n) (aE2 r)
theorem Rps.ints_inv:∀ {ns:List Int} {xs:List V},Rps H (ns.map D.int) xs->xs=ns.map V.int
 | [],_,h=>by cases h;rfl
 | n::r,_,h=>by
   rw[a7e]at h;cases h with
   | cons a t=>cases a;rw[Rps.ints_inv t];rfl
theorem Rps.strs_inv:∀ {ns:List Str} {xs:List V},Rps H (ns.map D.str) xs->xs=ns.map V.str
 | [],_,h=>by cases h;rfl
 | n::r,_,h=>by
   rw[a7e]at h;cases h with
   | cons a t=>cases a;rw[Rps.strs_inv t];rfl
theorem Rps.bls_inv:∀ {ns:List Bool} {xs:List V},Rps H (ns.map D.bl) xs->xs=ns.map V.bl
 | [],_,h=>by cases h;rfl
 | n::r,_,h=>by
   rw[a7e]at h;cases h with
   | cons a t=>cases a;rw[Rps.bls_inv t];rfl
end
inductive Md where
 | val | own | par | lent
 deriving DecidableEq
noncomputable def Md.mt:Md->Bool
 | .own=>true
 | .par=>true
 | _=>false
structure Sl where
 m:Md
 d:D
abbrev Sg:=List (Option Sl)
def dG(H:Hp)(d:D)(p:Addr):Prop:=match d with
 | .lst l=>∃ xs,H p=some (.lst xs)/\Rps H l xs
 | .dic ks vs=>∃ u ws,H p=some u/\cU1 u ks ws/\Rps H vs ws
 | _=>False
theorem dG.mono{H H':Hp}{d:D}{p:Addr}(h:dG H d p)(e:Ext H H')(c:∀ o,H p=some o->H' p=some o):dG H' d p:=by
 unfold dG at h ⊢;split at h;obtain⟨xs,a,b⟩:=h;exact⟨xs,c _ a,b.mono e⟩;obtain⟨u,ws,a,b,f⟩:=h;exact⟨u,ws,c _ a,b,f.mono e⟩;exact h.elim
def dG.obj{H:Hp}{d:D}{p:Addr}(h:dG H d p):∃ o,H p=some o/\(∀ xs,o≠.tup xs)/\∀ ob u,o≠.frz ob u:=by
 unfold dG at h;split at h;obtain⟨xs,a,b⟩:=h;exact⟨_,a,⟨λ_ z=>(by cases z),λ_ _ z=>(by cases z)⟩⟩;obtain⟨u,ws,a,b,c⟩:=h;refine⟨_,a,λ_ z=>?_,λ_ _ z=>?_⟩<;>(subst z;exact b);exact h.elim
def bI2(H:Hp)(s:Sl)(v:V):Prop:=match s.m with
 | .val=>Rp H s.d v
 | _=>∃ p,v=.ref p/\dG H s.d p
def cC{H:Hp}{s:Sl}{v:V}(h:s.m≠.val):bI2 H s v↔∃ p,v=.ref p/\dG H s.d p:=by
 obtain⟨m,d⟩:=s;cases m with
 | val=>exact absurd rfl h
 | own=>exact Iff.rfl
 | par=>exact Iff.rfl
 | lent=>exact Iff.rfl
def Vw(H:Hp)(d:D)(v:V):Prop:=Rp H d v\/∃ p,v=.ref p/\dG H d p
def bI2.vw{H:Hp}{s:Sl}{v:V}(h:bI2 H s v):Vw H s.d v:=by
 by_cases e:s.m=.val;obtain⟨m,d⟩:=s;cases e;exact .inl h;exact .inr ((cC e).mp h)
inductive Vws(H:Hp):List D->List V->Prop
 | nil:Vws H [] []
 | cons {d:D} {r:List D} {x:V} {xs:List V}:Vw H d x->Vws H r xs->Vws H (d::r) (x::xs)
def nE(σ:Sg)(σV:St)(a:Addr):Prop:=∃ (i:Nat) (s:Sl),σ[i]? = some (some s)/\s.m.mt=true/\σV[i]? = some (some (.ref a))
def bD6(σ:Sg)(σV:St)(a:Addr):Prop:=∃ (i:Nat) (s:Sl),σ[i]? = some (some s)/\s.m≠.val/\σV[i]? = some (some (.ref a))
def nE.nv{σ:Sg}{σV:St}{a:Addr}(h:nE σ σV a):bD6 σ σV a:=by
 obtain⟨i,s,c,b,d⟩:=h;exact⟨i,s,c,λz=>(by rw[z]at b;cases b),d⟩
structure Gm where
 H₀:Hp
 pr:Addr->Prop
structure StOk(Γ:Gm)(H:Hp)(σ:Sg)(σV:St):Prop where
 rel:∀ (i:Nat) s,σ[i]? = some (some s)->∃ v,σV[i]? = some (some v)/\bI2 H s v
 dis:∀ (i j:Nat) s t p,i≠j->σ[i]? = some (some s)->σ[j]? = some (some t)->s.m.mt=true->t.m≠.val->σV[i]? = some (some (.ref p))->σV[j]? = some (some (.ref p))->False
 own:∀ (i:Nat) s p,σ[i]? = some (some s)->s.m=.own->σV[i]? = some (some (.ref p))->Γ.H₀ p=none
 par:∀ (i:Nat) s p,σ[i]? = some (some s)->s.m=.par->σV[i]? = some (some (.ref p))->Γ.pr p
 keep:∀ a o,Γ.H₀ a=some o->¬ Γ.pr a->H a=some o
 dom:∀ a,H a=none->Γ.H₀ a=none
 len:σ.length=σV.length
structure Step(σ:Sg)(σV:St)(H:Hp)(σ':Sg)(σV':St)(H':Hp):Prop where
 fr:∀ a o,H a=some o->¬ nE σ σV a->H' a=some o
 dom:∀ a,H' a=none->H a=none
 mu:∀ a,nE σ' σV' a->nE σ σV a\/H a=none
 nv:∀ a,bD6 σ' σV' a->bD6 σ σV a\/H a=none
 kp:∀ (i:Nat) s,σ[i]? = some (some s)->∃ s',σ'[i]? = some (some s')
 fix:∀ (i:Nat) s,σ[i]? = some (some s)->(s.m=.par\/s.m=.lent)->∃ s',σ'[i]? = some (some s')/\s'.m=s.m/\(s.m=.lent->s'.d=s.d)/\σV'[i]? = σV[i]?
 lt:∀ (i:Nat) s',σ'[i]? = some (some s')->s'.m=.lent->∃ s,σ[i]? = some (some s)/\s.m=.lent
section
variable{σ σ1 σ2:Sg}{σV σV1 σV2:St}{H H1 H2:Hp}{Γ:Gm}
def Step.refl:Step σ σV H σ σV H:=⟨λ_ _ h _=>h,λ_ h=>h,λ_ h=>.inl h,λ_ h=>.inl h,λi s h=>⟨s,h⟩,λi s h _=>⟨s,h,rfl,λ_=>rfl,rfl⟩,λi s h m=>⟨s,h,m⟩⟩
theorem Step.trans(a:Step σ σV H σ1 σV1 H1)(b:Step σ1 σV1 H1 σ2 σV2 H2):Step σ σV H σ2 σV2 H2 where
 fr:=λc o h n=>b.fr c o (a.fr c o h n) λz=>by
  rcases a.mu c z with q | q;exact n q;rw[h]at q;cases q
 dom:=λc h=>a.dom c (b.dom c h)
 mu:=λc h=>by
  rcases b.mu c h with q | q;exact a.mu c q;exact .inr (a.dom c q)
 nv:=λc h=>by
  rcases b.nv c h with q | q;exact a.nv c q;exact .inr (a.dom c q)
 kp:=λi s h=>by
  obtain⟨s1,d⟩:=a.kp i s h;exact b.kp i s1 d
 fix:=λi s h hm=>by
  obtain⟨s1,d,e,f,g⟩:=a.fix i s h hm;obtain⟨s2,j,k,l,p⟩:=b.fix i s1 d (by rw[e];exact hm);exact⟨s2,j,k.trans e,λz=>(l (e.trans z)).trans (f z),p.trans g⟩
 lt:=λi s h m=>by
  obtain⟨s1,d,e⟩:=b.lt i s h m;exact a.lt i s1 d e
def StOk.mutObj(ok:StOk Γ H σ σV){a:Addr}(h:bD6 σ σV a):∃ o,H a=some o/\(∀ xs,o≠.tup xs)/\∀ ob u,o≠.frz ob u:=by
 obtain⟨i,s,b,c,d⟩:=h;obtain⟨v,e,r⟩:=ok.rel i s b;rw[d]at e;cases e;obtain⟨p,e,q⟩:=(cC c).mp r;cases e;exact q.obj
def Step.ext(st:Step σ σV H σ1 σV1 H1)(ok:StOk Γ H σ σV):Ext H H1:=by
 refine⟨λp xs h=>st.fr p _ h λz=>?_,λp o u h=>st.fr p _ h λz=>?_⟩;obtain⟨o,e,n,_⟩:=ok.mutObj z.nv;rw[h]at e;cases e;exact n _ rfl;obtain⟨o,e,_,n⟩:=ok.mutObj z.nv;rw[h]at e;cases e;exact n _ _ rfl
theorem bI2.mono{s:Sl}{v:V}(r:bI2 H s v)(e:Ext H H1)(b:∀ p o,v=.ref p->s.m≠.val->H p=some o->H1 p=some o):bI2 H1 s v:=by
 by_cases q:s.m=.val;obtain⟨m,d⟩:=s;cases q;exact Rp.mono e r;obtain⟨p,a,c⟩:=(cC q).mp r;exact(cC q).mpr ⟨p,a,c.mono e λo=>b p o a q⟩
theorem StOk.same(ok:StOk Γ H σ σV)(h:kJ H H1):StOk Γ H1 σ σV:=
 ⟨λi s e=>by
  obtain⟨v,b,r⟩:=ok.rel i s e;exact⟨v,b,r.mono (.same h) λp o _ _ q=>h p o q⟩,ok.dis,ok.own,ok.par,λa o e n=>h a o (ok.keep a o e n),λa e=>ok.dom a (by
  cases q:H a with
  | none=>rfl
  | some o=>rw[h a o q]at e;cases e),ok.len⟩
def aT3(h:kJ H H1){a:Addr}(e:H1 a=none):H a=none:=by
 cases q:H a with
 | none=>rfl
 | some o=>rw[h a o q]at e;cases e
def Step.same(h:kJ H H1):Step σ σV H σ σV H1:=⟨λa o e _=>h a o e,λa e=>aT3 h e,λ_ h=>.inl h,λ_ h=>.inl h,λi s h=>⟨s,h⟩,λi s h _=>⟨s,h,rfl,λ_=>rfl,rfl⟩,λi s h m=>⟨s,h,m⟩⟩
end
inductive Res where
 | val (d:D) | own (d:D) | slot (i:Nat)
def iD(Γ:Gm)(H:Hp)(σ:Sg)(σV:St)(r:Res)(v:V):Prop:=match r with
 | .val d=>Rp H d v
 | .own d=>∃ p,v=.ref p/\dG H d p/\¬ bD6 σ σV p/\Γ.H₀ p=none
 | .slot i=>σV[i]? = some (some v)/\∃ s,σ[i]? = some (some s)
noncomputable def rd(σ:Sg):Res->Option D
 | .val d=>some d
 | .own d=>some d
 | .slot i=>match σ[i]? with
   | some (some s)=>some s.d
   | _=>none
section
variable{σ σ1:Sg}{σV σV1:St}{H H1:Hp}{Γ:Gm}{r:Res}{v:V}{d:D}
theorem iD.vw(ok:StOk Γ H σ σV)(h:iD Γ H σ σV r v)(e:rd σ r=some d):Vw H d v:=by
 cases r with
 | val d'=>cases e;exact .inl h
 | own d'=>cases e;obtain⟨p,a,b,_⟩:=h;exact .inr ⟨p,a,b⟩
 | slot i=>
   obtain⟨f,s,c⟩:=h;have g:some s.d=some d:=by
    have:rd σ (.slot i)=some s.d:=by show(match σ[i]? with | some (some s)=>some s.d | _=>none)=_;rw[c]
    rw[← this];exact e
   cases g;obtain⟨w,a,b⟩:=ok.rel i s c;rw[f]at a;cases a;exact b.vw
def iD.step(ok:StOk Γ H σ σV)(h:iD Γ H σ σV r v)(st:Step σ σV H σ1 σV H1):iD Γ H1 σ1 σV r v:=by
 cases r with
 | val d=>exact Rp.mono (st.ext ok) h
 | own d=>
   obtain⟨p,c,a,b,e⟩:=h;obtain⟨o,f,_⟩:=a.obj;refine⟨p,c,a.mono (st.ext ok) λo h=>st.fr p o h λz=>b z.nv,λz=>?_,e⟩;rcases st.nv p z with q | q;exact b q;rw[f]at q;cases q
 | slot i=>
   obtain⟨g,s,j⟩:=h;exact⟨g,st.kp i s j⟩
end
abbrev DE:=Sg->Option (Res×Sg)
abbrev DT:=Sg->Option (Bool×Sg)
abbrev DA:=Sg->Option (List Res×Sg)
inductive ResOks(Γ:Gm)(H:Hp)(σ:Sg)(σV:St):List Res->List V->Prop
 | nil:ResOks Γ H σ σV [] []
 | cons {r:Res} {rs:List Res} {v:V} {vs:List V}:iD Γ H σ σV r v->ResOks Γ H σ σV rs vs->(∀ d p,r=.own d->v=.ref p->∀ (j:Nat) d',rs[j]? = some (.own d')->vs[j]? ≠ some (.ref p))->ResOks Γ H σ σV (r::rs) (v::vs)
def Frh(H:Hp)(r:Res)(v:V):Prop:=∀ d p,r=.own d->v=.ref p->H p=none
def eN{H:Hp}{d:D}{v:V}:Frh H (.val d) v:=λ_ _ e=>nomatch e
def Frh.back{H b:Hp}{r:Res}{v:V}{σ σ1:Sg}{σV a:St}(f:Frh b r v)(st:Step σ σV H σ1 a b):Frh H r v:=λd p c e=>st.dom p (f d p c e)
def dTE(Γ:Gm)(r:DE):TE:=λσV H Q=>∃ σ,StOk Γ H σ σV/\∃ res σ',r σ=some (res,σ') /\
 ∀ v H',StOk Γ H' σ' σV->iD Γ H' σ' σV res v->Step σ σV H σ' σV H'->Frh H res v->Q v H'
def peW{X:Cx}{e:Expr}{t t':TE}(h:PE X e t)(w:∀ σ H Q,t' σ H Q->t σ H Q):PE X e t':=λpins s σ H Q I q=>h pins s σ H Q I (w σ H Q q)
def ptW{X:Cx}{e:Expr}{t t':TT}(h:PT X e t)(w:∀ σ H Q,t' σ H Q->t σ H Q):PT X e t':=λpins s σ H Q I q=>h pins s σ H Q I (w σ H Q q)
def pwW{X:Cx}{e:Expr}{t t':TT}(h:PW X e t)(w:∀ σ H Q,t' σ H Q->t σ H Q):PW X e t':=λa pins s σ H Q I q=>h a pins s σ H Q I (w σ H Q q)
def paW{X:Cx}{e:List Expr}{t t':TA}(h:PA X e t)(w:∀ σ H Q,t' σ H Q->t σ H Q):PA X e t':=λa pins s σ H Q I q=>h a pins s σ H Q I (w σ H Q q)
def psW{X:Cx}{e:Stmt}{t t':TS}(h:PS X e t)(w:∀ D σ H,t' D σ H->t D σ H):PS X e t':=λpins s σ H D I q=>h pins s σ H D I (w D σ H q)
def cU2{X:Cx}{e:List Stmt}{t t':TS}(h:PSs X e t)(w:∀ D σ H,t' D σ H->t D σ H):PSs X e t':=λpins s σ H D I q=>h pins s σ H D I (w D σ H q)
structure GE(X:Cx)(e:Expr)(r:DE):Prop where
 to:∀ Γ,PE X e (dTE Γ r)
def dTT(Γ:Gm)(r:DT):TT:=λσV H Q=>∃ σ,StOk Γ H σ σV/\∃ b σ',r σ=some (b,σ')/\∀ H',StOk Γ H' σ' σV->Step σ σV H σ' σV H'->Q b H'
structure GT(X:Cx)(e:Expr)(r:DT):Prop where
 to:∀ Γ,PT X e (dTT Γ r)
structure GW(X:Cx)(e:Expr)(r:DT):Prop where
 to:∀ Γ,PW X e (dTT Γ r)
def GW.gt{X:Cx}{e:Expr}{r:DT}(h:GW X e r):GT X e r:=.mk λΓ=>(h.to Γ).pt
def dQ1(H:Hp)(rs:List Res)(vs:List V):Prop:=∀ (j:Nat) d p,rs[j]? = some (.own d)->vs[j]? = some (.ref p)->H p=none
def dTA(Γ:Gm)(r:DA):TA:=λσV H Q=>∃ σ,StOk Γ H σ σV/\∃ rs σ',r σ=some (rs,σ')/\∀ vs H',StOk Γ H' σ' σV->ResOks Γ H' σ' σV rs vs->Step σ σV H σ' σV H'->dQ1 H rs vs->Q vs H'
structure GA(X:Cx)(es:List Expr)(r:DA):Prop where
 to:∀ Γ,PA X es (dTA Γ r)
noncomputable def aG(i:Nat):DE:=λσ=>match σ[i]? with
 | some (some s)=>some (if s.m=.val then .val s.d else .slot i,σ)
 | _=>none
def cU3{X:Cx}{e:Expr}{i:Nat}(h:PE X e (aC4 i)):GE X e (aG i):=.mk λΓ=>peW h λσV H Q ⟨σ,ok,res,σ',e,k⟩=>by
 unfold aG at e;split at e;rename_i s hs;cases e;obtain⟨v,a,r⟩:=ok.rel i s hs;refine⟨v,a,k v H ok ?_ .refl (by split<;>exact λ_ _ e=>nomatch e)⟩;by_cases hm:s.m=.val;rw[a3p hm];obtain⟨m,d⟩:=s;cases hm;exact r;rw[a3q hm];exact⟨a,s,hs⟩;cases e
noncomputable def dC(d:D):DE:=λσ=>some (.val d,σ)
def cU4{X:Cx}{e:Expr}{v:V}{d:D}(h:PE X e (tC v))(a:∀ H,Rp H d v):GE X e (dC d):=.mk λΓ=>peW h λσV H Q ⟨σ,ok,res,σ',e,k⟩=>by
 cases e;exact k v H ok (a H) .refl eN
def ge_int{X:Cx}{i:Int}{j pos}:GE X (.Constant (.int i) j pos) (dC (.int i)):=cU4 aL λ_=>.int i
def dI8{X:Cx}{i:Bool}{j pos}:GE X (.Constant (.bool i) j pos) (dC (.bl i)):=cU4 dG7 λ_=>.bl i
def cU5{X:Cx}{i:Str}{j pos}:GE X (.Constant (.str i) j pos) (dC (.str i)):=cU4 bQ6 λ_=>.str i
def cU6{X:Cx}{j pos}:GE X (.Constant .none j pos) (dC .non):=cU4 cN4 λ_=>.non
def bI3{X:Cx}{x:Str}{i:Int}{pos:Pos}(a:Gl X x)(h:∃ t,X.mg x=some (.int i t))(hd:(x==("__debug__":Str))=false:=by decide):GE X (.Name x pos) (dC (.int i)):=cU4 (bG0 a h hd) λ_=>.int i
def wU(H H':Hp)(r:Res)(v:V):Prop:=match r with
 | .val d=>Rp H' d v
 | .own d=>∃ p,v=.ref p/\H p=none/\dG H' d p
 | .slot _=>False
def wU.frh{H H':Hp}{r:Res}{v:V}(h:wU H H' r v):Frh H r v:=λd p a b=>by
 subst a b;obtain⟨q,e,c,_⟩:=h;cases e;exact c
def wU.res{Γ:Gm}{H H':Hp}{σ:Sg}{σV:St}{r:Res}{v:V}(h:wU H H' r v)(ok:StOk Γ H σ σV):iD Γ H' σ σV r v:=by
 cases r with
 | val d=>exact h
 | own d=>
   obtain⟨p,b,a,c⟩:=h;refine⟨p,b,c,λz=>?_,ok.dom p a⟩;obtain⟨o,e,_⟩:=ok.mutObj z;rw[a]at e;cases e
 | slot i=>exact h.elim
abbrev F1:=D->Option Res
abbrev F2:=D->D->Option Res
abbrev FN:=List D->Option Res
def cM1(a:V->Hp->VK->Prop)(f:F1):Prop:=∀ H d x Q res,Vw H d x->f d=some res->(∀ v H',kJ H H'->wU H H' res v->Q v H')->a x H Q
def oX(c:R2)(f:F2):Prop:=∀ H a b x y Q res,Vw H a x->Vw H b y->f a b=some res->(∀ v H',kJ H H'->wU H H' res v->Q v H')->c x y H Q
def bT9(b:List V->Hp->VK->Prop)(f:FN):Prop:=∀ H a vs Q res,Vws H a vs->f a=some res->(∀ v H',kJ H H'->wU H H' res v->Q v H')->b vs H Q
noncomputable def zM(f:F1)(a:DE):DE:=λσ=>(a σ).bind λx=>(rd x.2 x.1).bind λd=>(f d).bind λr=>some (r,x.2)
noncomputable def aO(f:F2)(a b:DE):DE:=λσ=>(a σ).bind λx=>(b x.2).bind λy=>(rd y.2 x.1).bind λd=>(rd y.2 y.1).bind λe=>(f d e).bind λr=>some (r,y.2)
def bind_some{c d:Type}{o:Option c}{f:c->Option d}{b:d}(h:o.bind f=some b):∃ a,o=some a/\f a=some b:=by
 cases o with
 | none=>cases h
 | some a=>exact⟨a,rfl,h⟩
def pK{Γ:Gm}{l:R2}{f:F2}(q:oX l f){m n:DE}{σV:St}{H:Hp}{Q:VK}(h:dTE Γ (aO f m n) σV H Q):tOp l (dTE Γ m) (dTE Γ n) σV H Q:=by
 obtain⟨σ,ok,res,σ',e,k⟩:=h;obtain⟨⟨x,c⟩,s,e⟩:=bind_some e;obtain⟨⟨y,i⟩,t,e⟩:=bind_some e;obtain⟨u,w,e⟩:=bind_some e;obtain⟨z,A,e⟩:=bind_some e;obtain⟨r,B,e⟩:=bind_some e;cases e;refine⟨σ,ok,x,c,s,λC I d D g _=>⟨c,d,y,i,t,λE F a G b _=>?_⟩⟩;have j:=D.step d b;refine q F u z C E Q _ (j.vw a w) (G.vw a A) B λv H' o p=>?_;exact k v H' (a.same o) (p.res a) ((g.trans b).trans (.same o)) (p.frh.back (g.trans b))
def aE3{Γ:Gm}{d:V->Hp->VK->Prop}{f:F1}(l:cM1 d f){g:DE}{σV:St}{H:Hp}{Q:VK}(h:dTE Γ (zM f g) σV H Q):tUn d (dTE Γ g) σV H Q:=by
 obtain⟨σ,ok,res,σ',e,k⟩:=h;obtain⟨⟨x,c⟩,m,e⟩:=bind_some e;obtain⟨n,o,e⟩:=bind_some e;obtain⟨r,p,e⟩:=bind_some e;cases e;refine⟨σ,ok,x,c,m,λq s a t b _=>?_⟩;refine l s n q Q _ (t.vw a o) p λv H' i j=>?_;exact k v H' (a.same i) (j.res a) (b.trans (.same i)) (j.frh.back b)
section
variable{X:Cx}{a b:Expr}{ra rb:DE}{pos:Pos}
def qF{op:Operator}{c:R2}{f:F2}(d:OpR X (binaryOp op) c)(e:oX c f)(ha:GE X a ra)(g:GE X b rb):GE X (.BinOp a op b pos) (aO f ra rb):=
 .mk λΓ=>peW (eO d (ha.to Γ) (g.to Γ)) λ_ _ _=>pK e
def dI9{op:UnaryOp}{b:V->Hp->VK->Prop}{f:F1}(c:UnR X (unaryOp op) b)(d:cM1 b f)(ha:GE X a ra):GE X (.UnaryOp op a pos) (zM f ra):=
 .mk λΓ=>peW (dH2 c (ha.to Γ)) λ_ _ _=>aE3 d
def wV{op:CmpOp}{c:R2}{f:F2}(d:OpR X (compareOp op) c)(e:oX c f)(ha:GE X a ra)(g:GE X b rb)(hm:behindInMarks op b=false):GE X (.Compare a [op] [b] pos) (aO f ra rb):=
 .mk λΓ=>peW (bY6 d (ha.to Γ) (g.to Γ) hm) λ_ _ _=>pK e
noncomputable def dR(r:DE):DT:=λσ=>(r σ).bind λx=>(rd x.2 x.1).bind λd=>match d with
 | .bl b=>some (b,x.2)
 | _=>none
def pL{r:DE}{σ σ':Sg}{b:Bool}(h:dR r σ=some (b,σ')):∃ x,r σ=some (x,σ')/\rd σ' x=some (.bl b):=by
 obtain⟨⟨x,c⟩,f,e⟩:=bind_some h;obtain⟨d,a,e⟩:=bind_some e;dsimp only at e a;split at e;cases e;exact⟨x,f,a⟩;cases e
def uU{H:Hp}{b:Bool}{v:V}(h:Vw H (.bl b) v):v=.bl b:=by
 rcases h with h | ⟨p,_,h⟩;cases h;rfl;exact h.elim
def aE4{Γ:Gm}{r:DE}{σV:St}{H:Hp}{Q:Bool->Hp->Prop}(h:dTT Γ (dR r) σV H Q):dTE Γ r σV H (λx H'=>∃ k,x=.bl k/\Q k H'):=by
 obtain⟨σ,ok,b,σ',e,k⟩:=h;obtain⟨x,c,d⟩:=pL e;refine⟨σ,ok,x,σ',c,λv H' a f st _=>⟨b,uU (f.vw a d),k H' a st⟩⟩
def lQ{op:CmpOp}{c:R2}{f:F2}(d:OpR X (compareOp op) c)(e:oX c f)(ha:GE X a ra)(g:GE X b rb)(hm:behindInMarks op b=false):GT X (.Compare a [op] [b] pos) (dR (aO f ra rb)):=
 .mk λΓ=>ptW (bP d (ha.to Γ) (g.to Γ) hm) λσ H Q h=>pK e (aE4 h)
def cU7{e:Expr}{r:DE}(h:GE X e r)(b:∀ a,isTrue e X.env a=(do let v ← a;standAt e.pos;holding [v] (truthy v)):=by intro _;rfl):GT X e (dR r):=
 .mk λΓ=>ptW (cN5 (h.to Γ) b) λ_ _ _ h=>aE4 h
noncomputable def dJ0:D->Option Bool
 | .non=>some false
 | .bl b=>some b
 | .int i=>some (i != 0)
 | .str x=>if x.length<=sizeLine then some ((x.length:Int) != 0)else none
 | .lst l=>some (!l.isEmpty)
 | .tup l=>some (!l.isEmpty)
 | _=>none
noncomputable def cU8(r:DE):DT:=λσ=>(r σ).bind λx=>(rd x.2 x.1).bind λd=>(dJ0 d).bind λb=>some (b,x.2)
end
def eD{H:Hp}{l:List D}{v:V}(h:Vw H (.tup l) v):∃ p xs,v=.ref p/\H p=some (.tup xs)/\Rps H l xs:=by
 rcases h with h | ⟨p,_,h⟩
 ·cases h with
  | tup h r=>exact⟨_,_,rfl,h,r⟩
 ·exact h.elim
def fX{H:Hp}{l:List D}{v:V}(h:Vw H (.lst l) v):∃ p xs,v=.ref p/\dQ H p=some (true,xs)/\Rps H l xs:=by
 rcases h with h | ⟨p,e,xs,h,r⟩
 ·cases h with
  | lst h r=>exact⟨_,_,rfl,bF5 h,r⟩
 ·exact⟨p,xs,e,aK h,r⟩
def bQ{H:Hp}{i:Int}{v:V}(h:Vw H (.int i) v):v=.int i:=by
 rcases h with h | ⟨p,_,h⟩;cases h;rfl;exact h.elim
def iS{H:Hp}{i:Str}{v:V}(h:Vw H (.str i) v):v=.str i:=by
 rcases h with h | ⟨p,_,h⟩;cases h;rfl;exact h.elim
def aT4{H:Hp}{v:V}(h:Vw H .non v):v=.non:=by
 rcases h with h | ⟨p,_,h⟩;cases h;rfl;exact h.elim
noncomputable def cM2:D->Option (Bool×List D)
 | .lst l=>some (true,l)
 | .tup l=>some (false,l)
 | _=>none
def cU9{H:Hp}{d:D}{v:V}{b:Bool}{l:List D}(h:Vw H d v)(e:cM2 d=some (b,l)):∃ p xs,v=.ref p/\dQ H p=some (b,xs)/\Rps H l xs:=by
 cases d with
 | lst a=>cases e;exact fX h
 | tup a=>cases e;obtain⟨p,xs,c,f,g⟩:=eD h;exact⟨p,xs,c,bA f,g⟩
 | _=>cases e
section
variable{X:Cx}{a b:Expr}{ra rb:DE}{pos:Pos}
def bI4(ha:GE X a ra)(o:∀ f,isTrue a X.env f=(do let v ← f;standAt a.pos;holding [v] (truthy v))):GT X a (cU8 ra):=.mk λΓ=>ptW (bE6 (ha.to Γ) o) λσV H Q ⟨σ,ok,b,σ',e,k⟩=>by
 obtain⟨⟨x,q⟩,r,e⟩:=bind_some e;obtain⟨d,s,e⟩:=bind_some e;obtain⟨t,g,e⟩:=bind_some e;cases e;refine⟨σ,ok,x,_,r,λv H' j u st _=>⟨b,?_,k H' j st⟩⟩;have vw:=u.vw j s;cases d with
 | non=>cases g;rw[aT4 vw];rfl
 | bl c=>cases g;rw[uU vw];rfl
 | int i=>cases g;rw[bQ vw];rfl
 | str z=>
   rw[iS vw];have h:(if z.length<=sizeLine then some ((z.length:Int) != 0)else none)=some b:=g;split at h;rename_i w;cases h;exact⟨w,rfl⟩;cases h
 | lst l=>
   cases g;obtain⟨p,xs,rfl,m,n⟩:=fX vw;refine .inl ⟨xs,dU m,?_⟩;have:=n.length;cases l<;>cases xs<;>simp_all
 | tup l=>
   cases g;obtain⟨p,xs,rfl,m,n⟩:=eD vw;refine .inr (.inl ⟨xs,cD (bA m),?_⟩);have:=n.length;cases l<;>cases xs<;>simp_all
 | dic ks vs=>cases g
variable{tA tB:DT}{bK:List Expr}
noncomputable def cB8(t u:DT):DT:=λσ=>(t σ).bind λx=>if x.1=true then u x.2 else some (false,x.2)
noncomputable def dOr(t u:DT):DT:=λσ=>(t σ).bind λx=>if x.1=true then some (true,x.2)else u x.2
noncomputable def aT5(t:DT):DT:=λσ=>(t σ).bind λx=>some (!x.1,x.2)
def cB9(ha:GT X a tA):GW X (.BoolOp .And [a] pos) tA:=.mk λΓ=>pT (ha.to Γ)
def cV0(ha:GT X a tA):GW X (.BoolOp .Or [a] pos) tA:=.mk λΓ=>cN6 (ha.to Γ)
def cV1(ha:GT X a tA)(l:GW X (.BoolOp .And (b::bK) pos) tB):GW X (.BoolOp .And (a::b::bK) pos) (cB8 tA tB):=.mk λΓ=>pwW (sR (ha.to Γ) (l.to Γ)) λσV H Q ⟨σ,ok,c,σ',e,k⟩=>by
 obtain⟨⟨x,d⟩,m,e⟩:=bind_some e;refine⟨σ,ok,x,d,m,λn f g=>?_⟩;dsimp only at e;split at e;rename_i h;rw[a3p h];exact⟨d,f,c,σ',e,λo i j=>k o i (g.trans j)⟩;rename_i h;rw[a3q h];cases e;exact k n f g
def dJ1(ha:GT X a tA)(l:GW X (.BoolOp .Or (b::bK) pos) tB):GW X (.BoolOp .Or (a::b::bK) pos) (dOr tA tB):=.mk λΓ=>pwW (dG8 (ha.to Γ) (l.to Γ)) λσV H Q ⟨σ,ok,c,σ',e,k⟩=>by
 obtain⟨⟨x,d⟩,m,e⟩:=bind_some e;refine⟨σ,ok,x,d,m,λn f g=>?_⟩;dsimp only at e;split at e;rename_i h;rw[a3p h];cases e;exact k n f g;rename_i h;rw[a3q h];exact⟨d,f,c,σ',e,λo i j=>k o i (g.trans j)⟩
def cV2(ha:GT X a tA):GT X (.UnaryOp .Not a pos) (aT5 tA):=.mk λΓ=>ptW (cN7 (ha.to Γ)) λσV H Q ⟨σ,ok,c,σ',e,k⟩=>by
 obtain⟨⟨x,f⟩,g,e⟩:=bind_some e;cases e;exact⟨σ,ok,x,_,g,λh b d=>k h b d⟩
noncomputable def sD(t u:DE):DE:=λσ=>(dR t σ).bind λx=>if x.1=true then u x.2 else some (.val (.bl false),x.2)
noncomputable def cV3(t u:DE):DE:=λσ=>(dR t σ).bind λx=>if x.1=true then some (.val (.bl true),x.2)else u x.2
noncomputable def aT6(t:DE):DE:=λσ=>(dR t σ).bind λx=>some (.val (.bl (!x.1)),x.2)
def cV4{op}{r:DE}(h:GE X a r):GE X (.BoolOp op [a] pos) r:=.mk λΓ=>aN8 (h.to Γ)
def cV5(ha:GE X a ra)(l:GE X (.BoolOp .And (b::bK) pos) rb):GE X (.BoolOp .And (a::b::bK) pos) (sD ra rb):=.mk λΓ=>peW (aN9 (ha.to Γ) (l.to Γ)) λσV H Q ⟨σ,ok,c,σ',e,k⟩=>by
 obtain⟨⟨x,g⟩,m,e⟩:=bind_some e;obtain⟨y,n,o⟩:=pL m;refine⟨σ,ok,y,g,n,λv p d q f _=>⟨x,uU (q.vw d o),?_⟩⟩;dsimp only at e;split at e;rename_i h;rw[a3p h];exact⟨g,d,c,σ',e,λr s i t j u=>k r s i t (f.trans j) (u.back f)⟩;rename_i h;rw[a3q h];cases e;exact k _ p d (.bl false) f eN
def dJ2(ha:GE X a ra)(l:GE X (.BoolOp .Or (b::bK) pos) rb):GE X (.BoolOp .Or (a::b::bK) pos) (cV3 ra rb):=.mk λΓ=>peW (dG9 (ha.to Γ) (l.to Γ)) λσV H Q ⟨σ,ok,c,σ',e,k⟩=>by
 obtain⟨⟨x,g⟩,m,e⟩:=bind_some e;obtain⟨y,n,o⟩:=pL m;refine⟨σ,ok,y,g,n,λv p d q f _=>⟨x,uU (q.vw d o),?_⟩⟩;dsimp only at e;split at e;rename_i h;rw[a3p h];cases e;exact k _ p d (.bl true) f eN;rename_i h;rw[a3q h];exact⟨g,d,c,σ',e,λr s i t j u=>k r s i t (f.trans j) (u.back f)⟩
def cV6(ha:GE X a ra):GE X (.UnaryOp .Not a pos) (aT6 ra):=.mk λΓ=>peW (bQ7 (ha.to Γ)) λσV H Q ⟨σ,ok,c,σ',e,k⟩=>by
 obtain⟨⟨x,f⟩,g,e⟩:=bind_some e;obtain⟨y,h,i⟩:=pL g;cases e;exact⟨σ,ok,y,_,h,λv j b l d _=>⟨x,uU (l.vw b i),k _ j b (.bl _) d eN⟩⟩
noncomputable def tD(f g:F2)(ra rb a:DE):DE:=λσ=>(ra σ).bind λx=>(rb x.2).bind λy=>(rd y.2 x.1).bind λd=>(rd y.2 y.1).bind λe=>match f d e with
 | some (.val (.bl true))=>(a y.2).bind λz=>(rd z.2 y.1).bind λe=>(rd z.2 z.1).bind λh=>(g e h).bind λr=>some (r,z.2)
 | some (.val (.bl false))=>some (.val (.bl false),y.2)
 | _=>none
def aK8{Γ:Gm}{F l:R2}{f g:F2}(G:oX F f)(u:oX l g){ra rb I:DE}{σV:St}{H:Hp}{Q:VK}(h:dTE Γ (tD f g ra rb I) σV H Q):bR1 F l (dTE Γ ra) (dTE Γ rb) (dTE Γ I) σV H Q:=by
 obtain⟨σ,ok,res,σ',e,k⟩:=h;obtain⟨⟨x,m⟩,P,e⟩:=bind_some e;obtain⟨⟨y,n⟩,R,e⟩:=bind_some e;obtain⟨J,K,e⟩:=bind_some e;obtain⟨L,M,e⟩:=bind_some e;refine⟨σ,ok,x,m,P,λN H1 o S d _=>⟨m,o,y,n,R,λw O a A b _=>?_⟩⟩;have p:=S.step o b;dsimp only at e;split at e;rename_i B;obtain⟨⟨z,T⟩,U,e⟩:=bind_some e;obtain⟨C,V,e⟩:=bind_some e;obtain⟨W,X,e⟩:=bind_some e;obtain⟨r,Y,e⟩:=bind_some e;cases e;refine G O J L N w _ _ (p.vw a K) (A.vw a M) B λv H' i D=>?_;have q:=a.same i;cases D;refine⟨true,rfl,?_⟩;rw[a3p rfl];refine⟨n,q,z,_,U,λZ H4 c r4 j _=>?_⟩;have E:=(A.step a (.same i)).step q j;refine u H4 C W w Z Q _ (E.vw c V) (r4.vw c X) Y λv H' s t=>?_;exact k v H' (c.same s) (t.res c) ((((d.trans b).trans (.same i)).trans j).trans (.same s)) (t.frh.back (((d.trans b).trans (.same i)).trans j));rename_i B;cases e;refine G O J L N w _ _ (p.vw a K) (A.vw a M) B λv H' i D=>?_;cases D;refine⟨false,rfl,?_⟩;rw[a3q a1b];exact k _ H' (a.same i) (.bl false) ((d.trans b).trans (.same i)) eN;cases e
def bI5{c:Expr}{j:DE}{op d:CmpOp}{k e:R2}{f g:F2}(l:OpR X (compareOp op) k)(m:oX k f)(h:OpR X (compareOp d) e)(i:oX e g)(ha:GE X a ra)(n:GE X b rb)(o:GE X c j)
  (hm:lastMarks [op,d] [b,c]=false:=by with_unfolding_all rfl):GE X (.Compare a [op,d] [b,c] pos) (tD f g ra rb j):=.mk λΓ=>peW (bE5 l h (ha.to Γ) (n.to Γ) (o.to Γ) hm) λ_ _ _=>aK8 m i
end
def Fz:HO->Prop
 | .lst _=>True
 | .dK _=>True
 | .dT _=>True
 | _=>False
def cC0{X:Cx}{pins:List (Addr×Obj)}{σ:St}{H:Hp}{s:Shared}{p:Addr}{u:HO}(I:Inv X pins σ H s)(h:H p=some u)(d:Fz u):∃ o,Inv X pins σ (upd H p (.frz o u)) s:=by
 have nt:∀ b xs,H b=some (.tup xs)->b≠p:=λb xs e z=>by subst z;rw[h]at e;cases e;exact d
 have j:∀ b o x,H b=some (.frz o x)->b≠p:=λb o x e z=>by subst z;rw[h]at e;cases e;exact d
 have no:∀ b x,H b=some (.own x)->b≠p:=λb x e z=>by subst z;rw[h]at e;cases e;exact d
 have r:∀ b x,H b=some (.tbl x)->b≠p:=λb x e z=>by subst z;rw[h]at e;cases e;exact d
 have f:∀ b,H b=none->b≠p:=λb e z=>by subst z;rw[h]at e;cases e
 obtain⟨o,t⟩:∃ o,s.heap.get? p=some o:=by
  have:=I.hok p u h;have l:=this.lt;cases q:s.heap.get? p with
  | some o=>exact⟨o,rfl⟩
  | none=>
    cases u with
    | lst xs=>obtain⟨_,_,_,_,e⟩:=this;rw[q]at e;cases e
    | dK kvs=>obtain⟨_,_,_,_,ob,_,_,e,_⟩:=this;rw[q]at e;cases e
    | dT kvs=>obtain⟨_,_,_,_,ob,_,_,e,_⟩:=this;rw[q]at e;cases e
    | _=>exact d.elim
 have st:∀ a x,cN X.prog X.w H s.heap a x->cN X.prog X.w (upd H p (.frz o u)) s.heap a x:=λa x k=>
  k.stay (λ_ _ _ e=>e) (λb e=>by rw[aD (no b _ e)];exact e) λb xs e=>by rw[aD (nt b _ e)];exact e
 refine⟨o,{I with base:=?_,free:=?_,freeC:=?_,pin:=?_,hok:=?_}⟩
 ·exact⟨I.base.keep,I.base.slot,λb ob q n v=>by
    have:=I.base.free b ob q n v;rw[aD (f b this)];exact this,I.base.there,λb xs e=>by
    have:=I.base.tups b xs e;rw[aD (nt b _ this)];exact this,λb ob x e=>by
    have:=I.base.frzs b ob x e;rw[aD (j b _ _ this)];exact this,λb ps e=>by
    obtain⟨m,g⟩:=I.base.tbls b ps e;exact⟨m,by rw[aD (r b _ g)];exact g⟩⟩
 ·rw[aD (f _ I.free)];exact I.free
 ·intro x c e;rw[aD (f _ (I.freeC x c e))];exact I.freeC x c e
 ·intro q y;obtain⟨A,i,B⟩:=I.pin q y;exact⟨A,by rw[aD (f _ i)];exact i,B⟩
 ·intro a x e;by_cases ha:a=p;subst ha;rw[aE]at e;cases e;exact⟨t,st a u (I.hok a u h)⟩;rw[aD ha]at e;exact st a x (I.hok a x e)
def tFz(t:TE):TE:=λσ H Q=>t σ H λv H1=>Q v H1\/∃ p u,v=.ref p/\H1 p=some u/\Fz u/\∀ o,Q v (upd H1 p (.frz o u))
def dJ3{X:Cx}{e:Expr}{t:TE}(h:PE X e t):PE X e (tFz t):=λpins s σ H Q I q=>
 thn (h pins s σ H _ I q) λu s1 ⟨v,d,b,c,a⟩=>by
  rcases a with a | ⟨p,x,j,f,g,a⟩;exact⟨v,d,b,c,a⟩;obtain⟨o,i⟩:=cC0 b f g;exact⟨v,_,i,c,a o⟩
def aT7{H:Hp}{d:D}{p:Addr}(h:dG H d p):∃ u,H p=some u/\Fz u/\∀ o H',Ext H H'->H' p=some (.frz o u)->Rp H' d (.ref p):=by
 unfold dG at h;split at h;obtain⟨xs,b,a⟩:=h;exact⟨_,b,True.intro,λo H' x e=>.lst e (a.mono x)⟩
 ·obtain⟨u,ws,b,a,c⟩:=h;refine⟨u,b,?_,λo H' x e=>.dic e a (c.mono x)⟩;cases u with
  | dK _=>exact True.intro
  | dT _=>exact True.intro
  | _=>exact a.elim
 ·exact h.elim
def aT8{H:Hp}{p:Addr}{u:HO}{o:Obj}(h:H p=some u)(a:Fz u):Ext H (upd H p (.frz o u)):=
 ⟨λb xs e=>by rw[aD (λz=>by subst z;rw[h]at e;cases e;exact a)];exact e,λb ob x e=>by rw[aD (λz=>by subst z;rw[h]at e;cases e;exact a)];exact e⟩
noncomputable def dN4(σ:Sg):Res->Option (D×Sg)
 | .val d=>some (d,σ)
 | .own d=>some (d,σ)
 | .slot i=>match σ[i]? with
   | some (some s)=>if s.m=.own then some (s.d,σ.set i (some ⟨.val,s.d⟩))else if s.m=.val then some (s.d,σ)else none
   | _=>none
noncomputable def dFz(r:DE):DE:=λσ=>(r σ).bind λx=>(dN4 x.2 x.1).bind λy=>some (.val y.1,y.2)
def bC{a:Type}{l:List a}{i j:Nat}{x y:a}(h:(l.set i x)[j]? = some y):(j=i/\y=x/\i < l.length)\/(j≠i/\l[j]? = some y):=by
 rw[List.getElem?_set]at h;split at h;rename_i e;split at h;cases h;exact .inl ⟨e.symm,rfl,by assumption⟩;cases h;rename_i e;exact .inr ⟨λz=>e z.symm,h⟩
def dJ4{X:Cx}{e:Expr}{r:DE}(h:GE X e r):GE X e (dFz r):=.mk λΓ=>peW (dJ3 (h.to Γ)) λσV H Q ⟨σ,ok,res,σ',e,k⟩=>by
 obtain⟨⟨x,σ1⟩,U,e⟩:=bind_some e;obtain⟨⟨d,L⟩,C,e⟩:=bind_some e;cases e;refine⟨σ,ok,x,σ1,U,λv S b A c V=>?_⟩;dsimp only at C;cases x with
 | val d'=>cases C;exact .inl (k v S b A c eN)
 | own d'=>
   cases C;obtain⟨p,rfl,M,W,Y⟩:=A;obtain⟨u,F,G,N⟩:=aT7 M;have hn:H p=none:=V _ p rfl rfl;refine .inr ⟨p,u,rfl,F,G,λo=>?_⟩;have x:=aT8 (o:=o) F G;refine k _ _ ⟨λi s e=>?_,b.dis,b.own,b.par,λa ob e n=>?_,λa e=>?_,b.len⟩ (N o _ x aE) ⟨λa ob e n=>?_,λa e=>?_,c.mu,c.nv,c.kp,c.fix,c.lt⟩ eN;obtain⟨w,D,B⟩:=b.rel i s e;refine⟨w,D,B.mono x λq ob O m C=>?_⟩;rw[aD (λz=>W ⟨i,s,e,m,by rw[D,O,z]⟩)];exact C;rw[aD (λz=>by subst z;rw[Y]at e;cases e)];exact b.keep a ob e n;by_cases z:a=p;subst z;rw[aE]at e;cases e;rw[aD z]at e;exact b.dom a e;rw[aD (λz=>by subst z;rw[hn]at e;cases e)];exact c.fr a ob e n;by_cases z:a=p;subst z;rw[aE]at e;cases e;rw[aD z]at e;exact c.dom a e
 | slot i=>
   obtain⟨A,s,hs⟩:=A;have g:(match σ1[i]? with | some (some s)=>if s.m=.own then some (s.d,σ1.set i (some ⟨.val,s.d⟩))else if s.m=.val then some (s.d,σ1)else none | _=>none)=some (d,L):=C;rw[hs]at g;dsimp only at g;obtain⟨w,D,B⟩:=b.rel i s hs;rw[A]at D;cases D;split at g
   ·rename_i hm;cases g;obtain⟨m,d⟩:=s;cases hm;obtain⟨p,rfl,M⟩:=(cC (s:=⟨.own,d⟩) (λz=>nomatch z)).mp B;obtain⟨u,F,G,N⟩:=aT7 M;refine .inr ⟨p,u,rfl,F,G,λo=>?_⟩;have x:=aT8 (o:=o) F G;have T:=N o _ x aE;have Z:i < σ1.length:=(a3a.mp hs).1;have pm:nE σ1 σV p:=⟨i,_,hs,rfl,A⟩;have sub:∀ (j:Nat) t,(σ1.set i (some ⟨.val,d⟩))[j]? = some (some t)->t.m≠.val->j≠i/\σ1[j]? = some (some t):=λj t f hm=>by
     rcases bC f with⟨_,z,_⟩ | z;cases z;exact absurd rfl hm;exact z
    have I:∀ t:Sl,t.m.mt=true->t.m≠.val:=λt h z=>by rw[z]at h;cases h
    refine k _ _ ⟨λj t f=>?_,λj l t E q n f el m m'=>?_,λj t q f m=>?_,λj t q f m=>?_,λa ob e n=>?_,λa e=>?_,?_⟩ T
     ⟨λa ob e n=>?_,λa e=>?_,λa ⟨j,t,f,m,P⟩=>?_,λa ⟨j,t,f,m,P⟩=>?_,λj t f=>?_,λj t f m=>?_,λj t f m=>c.lt j t (sub j t f (by rw[m];exact λz=>nomatch z)).2 m⟩ eN
    ·rcases bC f with⟨z,K,_⟩ | ⟨z,K⟩;cases K;rw[z];exact⟨_,A,T⟩;obtain⟨w,D,R⟩:=b.rel j t K;refine⟨w,D,R.mono x λq ob O m C=>?_⟩;rw[aD (λy=>b.dis i j _ t p (a3d z) hs K rfl m A (by rw[D,O,y]))];exact C
    ·exact b.dis j l t E q n (sub j t f (I t m)).2 (sub l E el m').2 m m'
    ·exact b.own j t q (sub j t f (by rw[m];exact λz=>nomatch z)).2 m
    ·exact b.par j t q (sub j t f (by rw[m];exact λz=>nomatch z)).2 m
    ·have hp:=b.own i _ p hs rfl A;rw[aD (λz=>by subst z;rw[hp]at e;cases e)];exact b.keep a ob e n
    ·by_cases z:a=p;subst z;rw[aE]at e;cases e;rw[aD z]at e;exact b.dom a e
    ·rw[a5f];exact b.len
    ·by_cases z:a=p;subst z;rcases c.mu a pm with y | y;exact absurd y n;rw[e]at y;cases y;rw[aD z];exact c.fr a ob e n
    ·by_cases z:a=p;subst z;rw[aE]at e;cases e;rw[aD z]at e;exact c.dom a e
    ·exact c.mu a ⟨j,t,(sub j t f (I t m)).2,m,P⟩
    ·exact c.nv a ⟨j,t,(sub j t f m).2,m,P⟩
    ·obtain⟨E,J⟩:=c.kp j t f;by_cases z:j=i;subst z;exact⟨_,by rw[a1c Z]⟩;exact⟨E,by rw[a7a (a3d z)];exact J⟩
    ·obtain⟨E,J,h⟩:=c.fix j t f m;refine⟨E,?_,h⟩;rw[a7a (λz=>?_)];exact J;subst z;rw[hs]at J;cases J;rcases m with m | m;have:=h.1;rw[m]at this;cases this;have:=h.1;rw[m]at this;cases this
   ·split at g;rename_i hm;cases g;obtain⟨m,d⟩:=s;cases hm;exact .inl (k v S b B c eN);cases g
noncomputable def aQ:DA:=λσ=>some ([],σ)
noncomputable def aB(r:DE)(rs:DA):DA:=λσ=>(r σ).bind λx=>(rs x.2).bind λy=>some (x.1::y.1,y.2)
noncomputable def rds(σ:Sg):List Res->Option (List D)
 | []=>some []
 | r::rs=>(rd σ r).bind λd=>(rds σ rs).bind λa=>some (d::a)
noncomputable def vals:List Res->Option (List D)
 | []=>some []
 | .val d::rs=>(vals rs).bind λa=>some (d::a)
 | _=>none
theorem qG{Γ:Gm}{H:Hp}{σ:Sg}{σV:St}(ok:StOk Γ H σ σV):∀ {rs:List Res} {vs:List V} {ds:List D},ResOks Γ H σ σV rs vs->rds σ rs=some ds->Vws H ds vs
 | _,_,_,.nil,e=>by cases e;exact .nil
 | _,_,_,.cons h t _,e=>by
   obtain⟨d,a,e⟩:=bind_some e;obtain⟨ds,b,e⟩:=bind_some e;cases e;exact .cons (h.vw ok a) (qG ok t b)
theorem pM{Γ:Gm}{H:Hp}{σ:Sg}{σV:St}:∀ {rs:List Res} {vs:List V} {ds:List D},ResOks Γ H σ σV rs vs->vals rs=some ds->Rps H ds vs
 | _,_,_,.nil,e=>by cases e;exact .nil
 | .val d::_,_,_,.cons h t _,e=>by
   obtain⟨ds,a,e⟩:=bind_some e;cases e;exact .cons h (pM t a)
 | .own d::_,_,_,.cons h t _,e=>by cases e
 | .slot d::_,_,_,.cons h t _,e=>by cases e
section
variable{X:Cx}{e:Expr}{es:List Expr}{r:DE}{rs:DA}{pos:Pos}
def cV7:GA X [] aQ:=.mk λΓ=>paW aI λσV H Q ⟨σ,ok,res,σ',e,k⟩=>by
 cases e;exact k [] H ok .nil .refl (λj d p e=>by simp at e)
def cC1(ha:GE X e r)(n:GA X es rs)(hs:starEach (e::es) X.env=(false,eval e X.env)::starEach es X.env:=by kernel_rfl):GA X (e::es) (aB r rs):=.mk λΓ=>paW (aA (ha.to Γ) (n.to Γ) hs) λσV H Q ⟨σ,ok,res,σ',e,k⟩=>by
 obtain⟨⟨x,a⟩,s,e⟩:=bind_some e;obtain⟨⟨ys,t⟩,u,e⟩:=bind_some e;cases e;refine⟨σ,ok,x,a,s,λv E b l c w=>⟨a,b,ys,_,u,λvs y i z f m=>?_⟩⟩;refine k (v::vs) y i (.cons (l.step b f) z λd p g h j d' A B=>?_) (c.trans f) λj d p g h=>?_;subst g h;obtain⟨q,C,ow,_⟩:=l;cases C;obtain⟨o,D,_⟩:=ow.obj;have:=m j d' p A B;rw[D]at this;cases this;cases j with
 | zero=>simp at g h;subst g h;exact w d p rfl rfl
 | succ j=>exact c.dom p (m j d p (by simpa using g) (by simpa using h))
noncomputable def dCB(f:FN)(a:DA):DE:=λσ=>(a σ).bind λx=>(rds x.2 x.1).bind λb=>(f b).bind λr=>some (r,x.2)
def zN{c:List V->Hp->VK->Prop}{f:FN}{d:DA}(j:bT9 c f)(h:∀ Γ,PE X e (tCB c (dTA Γ d))):GE X e (dCB f d):=.mk λΓ=>peW (h Γ) λσV H Q ⟨σ,ok,res,σ',e,k⟩=>by
 obtain⟨⟨x,l⟩,m,e⟩:=bind_some e;obtain⟨n,o,e⟩:=bind_some e;obtain⟨r,p,e⟩:=bind_some e;cases e;refine⟨σ,ok,x,_,m,λvs q a s b t=>?_⟩;refine j q n vs Q _ (qG a s o) p λv H' g i=>?_;exact k v H' (a.same g) (i.res a) (b.trans (.same g)) (i.frh.back b)
noncomputable def vT(b:DA):DE:=λσ=>(b σ).bind λx=>(vals x.1).bind λa=>if a.length<=sizeLine then some (.val (.tup a),x.2)else none
noncomputable def sE(b:DA):DE:=λσ=>(b σ).bind λx=>(vals x.1).bind λa=>if a.length<=sizeLine then some (.own (.lst a),x.2)else none
def cV8{g}(h:GA X es rs):GE X (.Tuple es g pos) (vT rs):=.mk λΓ=>peW (aP6 (h.to Γ)) λσV H Q ⟨σ,ok,res,σ',e,k⟩=>by
 obtain⟨⟨x,i⟩,j,e⟩:=bind_some e;obtain⟨q,l,e⟩:=bind_some e;dsimp only at e;split at e;rename_i m;cases e;refine⟨σ,ok,x,_,j,λvs d a n b r=>?_⟩;have f:=pM n l;refine⟨by rw[← f.length];exact m,λp o=>?_⟩;have c:kJ d (upd d p (.tup vs)):=aX o;exact k _ _ (a.same c) (.tup aE (f.mono (.same c))) (b.trans (.same c)) eN;cases e
def cV9(h:GA X es rs):GE X (.List es pos) (sE rs):=.mk λΓ=>peW (nX (h.to Γ)) λσV H Q ⟨σ,ok,res,σ',e,k⟩=>by
 obtain⟨⟨x,j⟩,l,e⟩:=bind_some e;obtain⟨m,n,e⟩:=bind_some e;dsimp only at e;split at e;rename_i o;cases e;refine⟨σ,ok,x,_,l,λvs c a q b r=>?_⟩;have f:=pM q n;refine⟨by rw[← f.length];exact o,λp g=>?_⟩;have d:kJ c (upd c p (.lst vs)):=aX g;have i:wU c (upd c p (.lst vs)) (.own (.lst m)) (.ref p):=⟨p,rfl,g,vs,aE,f.mono (.same d)⟩;exact k _ _ (a.same d) (i.res a) (b.trans (.same d)) (i.frh.back b);cases e
end
section
variable{Γ:Gm}{H:Hp}{σ:Sg}{σV:St}{i:Nat}{s:Sl}{p:Addr}{o':HO}{d':D}
def StOk.ownAt(ok:StOk Γ H σ σV)(hs:σ[i]? = some (some s))(hm:s.m≠.val):∃ p,σV[i]? = some (some (.ref p))/\dG H s.d p:=by
 obtain⟨v,e,r⟩:=ok.rel i s hs;obtain⟨p,rfl,a⟩:=(cC hm).mp r;exact⟨p,e,a⟩
def fY{m:Md}(h:m.mt=true):m≠.val:=λz=>by rw[z]at h;cases h
def dG.ext{d:D}(h:dG H d p):Ext H (upd H p o'):=by
 obtain⟨o,e,n1,n2⟩:=h.obj;exact⟨λb xs q=>by rw[aD (λz=>by subst z;rw[e]at q;cases q;exact n1 _ rfl)];exact q,λb ob x q=>by rw[aD (λz=>by subst z;rw[e]at q;cases q;exact n2 _ _ rfl)];exact q⟩
def StOk.write(ok:StOk Γ H σ σV)(hs:σ[i]? = some (some s))(hm:s.m.mt=true)(h:σV[i]? = some (some (.ref p)))(ow:dG (upd H p o') d' p) :
  StOk Γ (upd H p o') (σ.set i (some ⟨s.m,d'⟩)) σV/\Step σ σV H (σ.set i (some ⟨s.m,d'⟩)) σV (upd H p o'):=by
 obtain⟨J,v,o⟩:=ok.ownAt hs (fY hm);rw[h]at v;cases v;have x:Ext H (upd H p o'):=o.ext;have A:i < σ.length:=(a3a.mp hs).1;have back:∀ (j:Nat) t,(σ.set i (some ⟨s.m,d'⟩))[j]? = some (some t)->∃ t',σ[j]? = some (some t')/\t'.m=t.m:=λj t b=>by
  rcases bC b with⟨z,g,_⟩ | ⟨z,g⟩;cases g;subst z;exact⟨s,hs,rfl⟩;exact⟨t,g,rfl⟩
 refine⟨⟨λj t b=>?_,λj l t t' q n b C m m'=>?_,λj t q b m=>?_,λj t q b m=>?_,λa ob e n=>?_,λa e=>?_,by rw[a5f];exact ok.len⟩,
  ⟨λa ob e n=>?_,λa e=>?_,λa ⟨j,t,b,m,r⟩=>?_,λa ⟨j,t,b,m,r⟩=>?_,λj t b=>?_,λj t b m=>?_,λj t b m=>?_⟩⟩
 ·rcases bC b with⟨z,g,_⟩ | ⟨z,g⟩;cases g;subst z;exact⟨_,h,(cC (s:=⟨s.m,d'⟩) (fY hm)).mpr ⟨p,rfl,ow⟩⟩;obtain⟨w,B,u⟩:=ok.rel j t g;refine⟨w,B,u.mono x λq ob D m E=>?_⟩;rw[aD (λy=>ok.dis i j _ t p (a3d z) hs g hm m h (by rw[B,D,y]))];exact E
 ·obtain⟨c,d,f⟩:=back j t b;obtain⟨F,G,I⟩:=back l t' C;exact ok.dis j l c F q n d G (by rw[f];exact m) (by rw[I];exact m')
 ·obtain⟨c,d,f⟩:=back j t b;exact ok.own j c q d (f.trans m)
 ·obtain⟨c,d,f⟩:=back j t b;exact ok.par j c q d (f.trans m)
 ·have:a≠p:=λz=>by
   subst z;cases k:s.m with
   | own=>rw[ok.own i s a hs k h]at e;cases e
   | par=>exact n (ok.par i s a hs k h)
   | val=>rw[k]at hm;cases hm
   | lent=>rw[k]at hm;cases hm
  rw[aD this];exact ok.keep a ob e n
 ·by_cases z:a=p;subst z;rw[aE]at e;cases e;rw[aD z]at e;exact ok.dom a e
 ·rw[aD (λz=>n ⟨i,s,hs,hm,by rw[z];exact h⟩)];exact e
 ·by_cases z:a=p;subst z;rw[aE]at e;cases e;rw[aD z]at e;exact e
 ·obtain⟨c,d,f⟩:=back j t b;exact .inl ⟨j,c,d,by rw[f];exact m,r⟩
 ·obtain⟨c,d,f⟩:=back j t b;exact .inl ⟨j,c,d,by rw[f];exact m,r⟩
 ·by_cases z:j=i;subst z;exact⟨_,by rw[a1c A]⟩;exact⟨t,by rw[a7a (a3d z)];exact b⟩
 ·by_cases z:j=i;subst z;rw[hs]at b;cases b;exact⟨⟨s.m,d'⟩,by rw[a1c A],rfl,λq=>(by rw[q]at hm;cases hm),rfl⟩;exact⟨t,by rw[a7a (a3d z)];exact b,rfl,λ_=>rfl,rfl⟩
 ·obtain⟨c,d,f⟩:=back j t b;exact⟨c,d,f.trans m⟩
end
abbrev FM:=D->List D->Option (D×D)
def dJ5(r:V->List V->Hp->VK->Prop)(f:FM):Prop:=∀ H d p a vs Q d' e,dG H d p->Rps H a vs->f d a=some (d',e)->(∀ o' v,dG (upd H p o') d' p->Rp (upd H p o') e v->Q v (upd H p o'))->r (.ref p) vs H Q
def dN5(r:V->List V->Hp->VK->Prop)(f:FM):Prop:=∀ H d p a vs Q d' e,dG H d p->Vws H a vs->f d a=some (d',e)->(∀ o' v,dG (upd H p o') d' p->Rp (upd H p o') e v->Q v (upd H p o'))->r (.ref p) vs H Q
noncomputable def bI6(f:FM)(i:Nat)(ds:List D)(σ:Sg):Option (Res×Sg):=match σ[i]? with
 | some (some s)=>if s.m.mt=true then(f s.d ds).bind λy=>some (.val y.2,σ.set i (some ⟨s.m,y.1⟩))else none
 | _=>none
noncomputable def tyD(T:String):D->Bool
 | .lst _=>T=="list"
 | .dic _ _=>T=="dict"
 | _=>false
noncomputable def zO(T:String)(i:Nat)(σ:Sg):Bool:=match σ[i]? with
 | some (some s)=>decide (s.m≠.val)&&tyD T s.d
 | _=>false
noncomputable def sF(T:String)(i:Nat)(f:FM)(a:DA):DE:=λσ=>if zO T i σ=true then(a σ).bind λx=>(vals x.1).bind λb=>bI6 f i b x.2 else none
noncomputable def zP(T:String)(i:Nat)(f:FM)(a:DA):DE:=λσ=>if zO T i σ=true then(a σ).bind λx=>(rds x.2 x.1).bind λb=>bI6 f i b x.2 else none
def cW0{K:W.Frag}{T:String}{H:Hp}{d:D}{p:Addr}(h:dG H d p)(e:tyD T d=true):tyV K T (.ref p) H:=by
 unfold dG at h;split at h;obtain⟨xs,a,_⟩:=h;exact .inl ⟨by simpa[tyD]using e,xs,SqL.of a⟩
 ·obtain⟨u,ws,a,b,_⟩:=h;refine .inr (.inr (.inl ⟨by simpa[tyD]using e,?_⟩));cases u with
  | dK kvs=>exact .inl ⟨kvs,a⟩
  | dT kvs=>exact .inr ⟨kvs,a⟩
  | _=>exact b.elim
 ·exact h.elim
def lR{f:FM}{i:Nat}{ds:List D}{σ σ':Sg}{res:Res}(h:bI6 f i ds σ=some (res,σ')):∃ s d' e,σ[i]? = some (some s)/\s.m.mt=true/\f s.d ds=some (d',e)/\res=.val e/\σ'=σ.set i (some ⟨s.m,d'⟩):=by
 unfold bI6 at h;split at h;rename_i s hs;split at h;rename_i hm;obtain⟨⟨d',e⟩,a,b⟩:=bind_some h;cases b;exact⟨s,d',e,hs,hm,a,rfl,rfl⟩;cases h;cases h
def uV{T:String}{i:Nat}{σ:Sg}(h:zO T i σ=true):∃ s,σ[i]? = some (some s)/\s.m≠.val/\tyD T s.d=true:=by
 unfold zO at h;split at h;rename_i s hs;rw[a5d,a3u]at h;exact⟨s,hs,h.1,h.2⟩;cases h
section
variable{X:Cx}{e:Expr}{ra:DA}{K:W.Frag}{T:String}{r:V->List V->Hp->VK->Prop}{f:FM}{i:Nat}
def aT9(u:dJ5 r f)(h:∀ Γ,PE X e (tBM K T r (aC4 i) (dTA Γ ra))):GE X e (sF T i f ra):=.mk λΓ=>peW (h Γ) λσV H Q ⟨σ,ok,res,σ',e,k⟩=>by
 unfold sF at e;split at e;rename_i hn;obtain⟨⟨x,c⟩,w,e⟩:=bind_some e;obtain⟨z,A,e⟩:=bind_some e;obtain⟨s,d',y,hs,hm,B,rfl,rfl⟩:=lR e;obtain⟨F,g,j,l⟩:=uV hn;obtain⟨p,ep,ow⟩:=ok.ownAt g j;refine⟨_,ep,cW0 ow l,σ,ok,x,c,w,λvs C a D m G=>?_⟩;obtain⟨I,b,n⟩:=a.ownAt hs (fY hm);rw[ep]at b;cases b;refine u C s.d p z vs Q d' y n (pM D A) B λo' v o E=>?_;obtain⟨q,t⟩:=a.write hs hm ep o;exact k v _ q E (m.trans t) eN;cases e
def cC2(u:dN5 r f)(h:∀ Γ,PE X e (tBM K T r (aC4 i) (dTA Γ ra))):GE X e (zP T i f ra):=.mk λΓ=>peW (h Γ) λσV H Q ⟨σ,ok,res,σ',e,k⟩=>by
 unfold zP at e;split at e;rename_i hn;obtain⟨⟨x,c⟩,w,e⟩:=bind_some e;obtain⟨z,A,e⟩:=bind_some e;obtain⟨s,d',y,hs,hm,B,rfl,rfl⟩:=lR e;obtain⟨F,g,j,l⟩:=uV hn;obtain⟨p,ep,ow⟩:=ok.ownAt g j;refine⟨_,ep,cW0 ow l,σ,ok,x,c,w,λvs C a D m G=>?_⟩;obtain⟨I,b,n⟩:=a.ownAt hs (fY hm);rw[ep]at b;cases b;refine u C s.d p z vs Q d' y n (qG a D A) B λo' v o E=>?_;obtain⟨q,t⟩:=a.write hs hm ep o;exact k v _ q E (m.trans t) eN;cases e
end
inductive Out where
 | nx (σ:Sg) | rt (r:Res) (σ:Sg) | bk (σ:Sg) | ct (σ:Sg) | ex (c:Str) (f:Option (Str×D)) (σ:Sg)
abbrev DS:=Sg->Option Out
structure Ex where
 ok:Hp->Str->Option (Str×D)->Value->Option Addr->Prop
 to:St->XK
noncomputable def Ex.no:Ex:=⟨λ_ _ _ _ _=>False,λ_ _ _ _=>False⟩
def aU0(Γ:Gm)(E:Ex)(σ:Sg)(σV:St)(H:Hp)(o:Out)(D:Ends):Prop:=match o with
 | .nx σ'=>∀ σV' H',StOk Γ H' σ' σV'->Step σ σV H σ' σV' H'->D.nx σV' H'
 | .rt r σ'=>∀ v σV' H',StOk Γ H' σ' σV'->iD Γ H' σ' σV' r v->Step σ σV H σ' σV' H'->D.rt v H'
 | .bk σ'=>∀ σV' H',StOk Γ H' σ' σV'->Step σ σV H σ' σV' H'->D.bk σV' H'
 | .ct σ'=>∀ σV' H',StOk Γ H' σ' σV'->Step σ σV H σ' σV' H'->D.ct σV' H'
 | .ex c f σ'=>∀ x d σV' H',StOk Γ H' σ' σV'->E.ok H' c f x d->Step σ σV H σ' σV' H'->E.to σV' x d H'
def dTS(Γ:Gm)(E:Ex)(r:DS):TS:=λD σV H=>∃ σ,StOk Γ H σ σV/\∃ o,r σ=some o/\aU0 Γ E σ σV H o D
structure GS(E:Ex)(X:Cx)(s:Stmt)(r:DS):Prop where
 to:∀ Γ,PS X s (dTS Γ E r)
structure GSs(E:Ex)(X:Cx)(s:List Stmt)(r:DS):Prop where
 to:∀ Γ,PSs X s (dTS Γ E r)
def aU0.after{Γ:Gm}{E:Ex}{σ σ1:Sg}{σV a:St}{H b:Hp}{o:Out}{D:Ends}(h:aU0 Γ E σ σV H o D)(st:Step σ σV H σ1 a b):aU0 Γ E σ1 a b o D:=by
 cases o with
 | nx σ'=>exact λσV' H' ok s=>h σV' H' ok (st.trans s)
 | rt r σ'=>exact λv σV' H' ok q s=>h v σV' H' ok q (st.trans s)
 | bk σ'=>exact λσV' H' ok s=>h σV' H' ok (st.trans s)
 | ct σ'=>exact λσV' H' ok s=>h σV' H' ok (st.trans s)
 | ex c f σ'=>exact λx d σV' H' ok q s=>h x d σV' H' ok q (st.trans s)
noncomputable def dS:DS:=λσ=>some (.nx σ)
noncomputable def bR(a b:DS):DS:=λσ=>(a σ).bind λo=>match o with
 | .nx c=>b c
 | o=>some o
noncomputable def uW(r:DE):DS:=λσ=>(r σ).bind λx=>some (.nx x.2)
noncomputable def gR(r:DE):DS:=λσ=>(r σ).bind λx=>some (.rt x.1 x.2)
noncomputable def kO(c:DT)(a b:DS):DS:=λσ=>(c σ).bind λx=>if x.1=true then a x.2 else b x.2
section
variable{X:Cx}{E:Ex}{st:Stmt}{bK:List Stmt}{a b:DS}{pos:Pos}{e:Expr}{r:DE}
def cC3:GSs E X [] dS:=.mk λΓ=>cU2 eX λD σV H ⟨σ,ok,o,e,k⟩=>by
 cases e;exact k σV H ok .refl
def aU1(h:GS E X st a):GSs E X [st] a:=.mk λΓ=>aV (h.to Γ)
def bI7{Γ:Gm}{E:Ex}{D:Ends}{σV:St}{H:Hp}(h:dTS Γ E (bR a b) D σV H):cO0 (dTS Γ E a) (dTS Γ E b) D σV H:=by
 obtain⟨σ,ok,o,e,k⟩:=h;obtain⟨j,m,e⟩:=bind_some e;refine⟨σ,ok,j,m,?_⟩;cases j with
 | nx d=>exact λl n g i=>⟨d,g,o,e,k.after i⟩
 | rt r σ'=>cases e;exact k
 | bk σ'=>cases e;exact k
 | ct σ'=>cases e;exact k
 | ex c f σ'=>cases e;exact k
def aE5(c:GS E X st a)(d:GSs E X bK b):GSs E X (st::bK) (bR a b):=.mk λΓ=>cU2 (aM (c.to Γ) (d.to Γ)) λ_ _ _=>bI7
def cC4(d:GE X e r)(hs:swapsWith e none pos.line X.env=pure false:=by rfl):GS E X (.Expr e pos) (uW r):=.mk λΓ=>psW (gL (d.to Γ) hs) λD σV H ⟨σ,ok,o,e,k⟩=>by
 obtain⟨⟨x,a⟩,f,e⟩:=bind_some e;cases e;exact⟨σ,ok,x,a,f,λv g b h c _=>k σV g b c⟩
def cW1(d:GE X e r):GS E X (.Return (some e) pos) (gR r):=.mk λΓ=>psW (kY (d.to Γ)) λD σV H ⟨σ,ok,o,e,k⟩=>by
 obtain⟨⟨x,a⟩,f,e⟩:=bind_some e;cases e;exact⟨σ,ok,x,a,f,λv g b h c _=>k v σV g b h c⟩
def dJ6{c:Expr}{l m:List Stmt}{t:DT}(i:GT X c t)(ha:GSs E X l a)(j:GSs E X m b):GS E X (.If c l m pos) (kO t a b):=.mk λΓ=>psW (mU (i.to Γ) (ha.to Γ) (j.to Γ)) λD σV H ⟨σ,ok,o,e,k⟩=>by
 obtain⟨⟨x,d⟩,n,e⟩:=bind_some e;refine⟨σ,ok,x,d,n,λp f g=>?_⟩;dsimp only at e;split at e;rename_i h;rw[a3p h];exact⟨d,f,o,e,k.after g⟩;rename_i h;rw[a3q h];exact⟨d,f,o,e,k.after g⟩
end
noncomputable def eE(σ:Sg)(i:Nat):Bool:=match σ[i]? with
 | some none=>true
 | some (some s)=>decide (s.m=.val)||decide (s.m=.own)
 | none=>false
def jN{σ:Sg}{i:Nat}(h:eE σ i=true):i < σ.length:=by
 unfold eE at h;split at h;rename_i e;exact(a3a.mp e).1;rename_i e;exact(a3a.mp e).1;cases h
def bI8{σ:Sg}{i:Nat}{s:Sl}(h:eE σ i=true)(hs:σ[i]? = some (some s)):s.m=.val\/s.m=.own:=by
 unfold eE at h;rw[hs]at h;simpa using h
section
variable{Γ:Gm}{H H0:Hp}{σ σ0:Sg}{σV σV0:St}{i:Nat}{d:D}{v:V}
def StOk.put(ok:StOk Γ H σ σV)(h:eE σ i=true)(r:Rp H d v):StOk Γ H (σ.set i (some ⟨.val,d⟩)) (σV.set i (some v)) where
 rel:=λj t c=>by
  rcases bC c with⟨z,a,_⟩ | ⟨z,a⟩;cases a;subst z;exact⟨v,by rw[a1c (by rw[← ok.len];exact jN h)],r⟩;obtain⟨w,k,f⟩:=ok.rel j t a;exact⟨w,by rw[a7a (a3d z)];exact k,f⟩
 dis:=λj l t o q n c p m m' b e=>by
  rcases bC c with⟨z,a,_⟩ | ⟨z,a⟩;cases a;cases m;rcases bC p with⟨y,g,_⟩ | ⟨y,g⟩;cases g;exact m' rfl;rw[a7a (a3d z)]at b;rw[a7a (a3d y)]at e;exact ok.dis j l t o q n a g m m' b e
 own:=λj t q c m b=>by
  rcases bC c with⟨z,a,_⟩ | ⟨z,a⟩;cases a;cases m;rw[a7a (a3d z)]at b;exact ok.own j t q a m b
 par:=λj t q c m b=>by
  rcases bC c with⟨z,a,_⟩ | ⟨z,a⟩;cases a;cases m;rw[a7a (a3d z)]at b;exact ok.par j t q a m b
 keep:=ok.keep
 dom:=ok.dom
 len:=by rw[a5f,a5f];exact ok.len
def Step.put(st:Step σ0 σV0 H0 σ σV H)(u:eE σ i=true)(m:Md)(hm:m=.val\/m=.own/\∀ p,v=.ref p->H0 p=none):Step σ0 σV0 H0 (σ.set i (some ⟨m,d⟩)) (σV.set i (some v)) H:=by
 have b:m≠.lent:=by rcases hm with rfl | ⟨rfl,_⟩<;>exact λz=>nomatch z
 have w:=jN u;have h:∀ t,σ[i]? = some (some t)->t.m≠.par/\t.m≠.lent:=λt e=>by
  rcases bI8 u e with z | z<;>(rw[z];exact⟨(λy=>by cases y),(λy=>by cases y)⟩)
 refine⟨st.fr,st.dom,λa ⟨j,t,f,mt,g⟩=>?_,λa ⟨j,t,f,nv,g⟩=>?_,λj t f=>?_,λj t f k=>?_,λj t f k=>?_⟩
 ·rcases bC f with⟨z,c,_⟩ | ⟨z,c⟩;cases c;subst z;rcases hm with rfl | ⟨_,q⟩;cases mt;have:=a3a.mp g;obtain⟨x,l⟩:=this;rw[List.getElem_set_self]at l;exact .inr (q a (a5a l));rw[a7a (a3d z)]at g;exact st.mu a ⟨j,t,c,mt,g⟩
 ·rcases bC f with⟨z,c,_⟩ | ⟨z,c⟩;cases c;subst z;rcases hm with rfl | ⟨_,q⟩;exact absurd rfl nv;have:=a3a.mp g;obtain⟨x,l⟩:=this;rw[List.getElem_set_self]at l;exact .inr (q a (a5a l));rw[a7a (a3d z)]at g;exact st.nv a ⟨j,t,c,nv,g⟩
 ·obtain⟨n,o⟩:=st.kp j t f;by_cases z:j=i;subst z;exact⟨_,by rw[a1c w]⟩;exact⟨n,by rw[a7a (a3d z)];exact o⟩
 ·obtain⟨n,o,r,A,B⟩:=st.fix j t f k;have z:j≠i:=λz=>by
   subst z;obtain⟨n1,n2⟩:=h n o;rcases k with s | s;exact n1 (r.trans s);exact n2 (r.trans s)
  exact⟨n,by rw[a7a (a3d z)];exact o,r,A,by rw[a7a (a3d z)];exact B⟩
 ·rcases bC f with⟨z,c,_⟩ | ⟨z,c⟩;cases c;exact absurd k b;exact st.lt j t c k
def StOk.putOwn{p:Addr}(ok:StOk Γ H σ σV)(g:eE σ i=true)(ow:dG H d p)(hn:¬ bD6 σ σV p)(h0:Γ.H₀ p=none):StOk Γ H (σ.set i (some ⟨.own,d⟩)) (σV.set i (some (.ref p))) where
 rel:=λj t e=>by
  rcases bC e with⟨z,c,_⟩ | ⟨z,c⟩;cases c;subst z;exact⟨.ref p,by rw[a1c (by rw[← ok.len];exact jN g)],p,rfl,ow⟩;obtain⟨w,s,h⟩:=ok.rel j t c;exact⟨w,by rw[a7a (a3d z)];exact s,h⟩
 dis:=λj l t k q n e o m m' a b=>by
  have r:i < σV.length:=by rw[← ok.len];exact jN g
  rcases bC e with⟨z,c,_⟩ | ⟨z,c⟩;subst z;rw[a1c r]at a;have a:=a5a (a5a a);cases a;rcases bC o with⟨y,f,_⟩ | ⟨y,f⟩;exact n y.symm;rw[a7a (a3d y)]at b;exact hn ⟨l,k,f,m',b⟩;rw[a7a (a3d z)]at a;rcases bC o with⟨y,f,_⟩ | ⟨y,f⟩;subst y;rw[a1c r]at b;have b:=a5a (a5a b);cases b;exact hn ⟨j,t,c,fY m,a⟩;rw[a7a (a3d y)]at b;exact ok.dis j l t k q n c f m m' a b
 own:=λj t q e m a=>by
  rcases bC e with⟨z,c,_⟩ | ⟨z,c⟩;subst z;rw[a1c (by rw[← ok.len];exact jN g)]at a;have a:=a5a (a5a a);cases a;exact h0;rw[a7a (a3d z)]at a;exact ok.own j t q c m a
 par:=λj t q e m a=>by
  rcases bC e with⟨z,c,_⟩ | ⟨z,c⟩;cases c;cases m;rw[a7a (a3d z)]at a;exact ok.par j t q c m a
 keep:=ok.keep
 dom:=ok.dom
 len:=by rw[a5f,a5f];exact ok.len
end
noncomputable def dF5(i:Nat)(r:Res)(σ:Sg):Option Sg:=match r with
 | .val d=>if eE σ i=true then some (σ.set i (some ⟨.val,d⟩))else none
 | .own d=>if eE σ i=true then some (σ.set i (some ⟨.own,d⟩))else none
 | .slot _=>none
noncomputable def cX(i:Nat)(r:DE):DS:=λσ=>(r σ).bind λx=>(dF5 i x.1 x.2).bind λa=>some (.nx a)
def aE6{Γ:Gm}{E:Ex}{i:Nat}{r:DE}{D:Ends}{σV:St}{H:Hp}(h:dTS Γ E (cX i r) D σV H):dTE Γ r σV H (λx n=>D.nx (σV.set i (some x)) n):=by
 obtain⟨σ,ok,o,e,k⟩:=h;obtain⟨⟨x,b⟩,s,e⟩:=bind_some e;obtain⟨c,m,e⟩:=bind_some e;cases e;refine⟨σ,ok,x,b,s,λv n f q g t=>?_⟩;cases x with
 | val d=>
   have a:(if eE b i=true then some (b.set i (some ⟨.val,d⟩))else none)=some c:=m;split at a;rename_i l;cases a;exact k _ _ (f.put l q) (g.put l .val (.inl rfl));cases a
 | own d=>
   have a:(if eE b i=true then some (b.set i (some ⟨.own,d⟩))else none)=some c:=m;split at a;rename_i l;cases a;obtain⟨p,rfl,u,w,y⟩:=q;exact k _ _ (f.putOwn l u w y) (g.put l .own (.inr ⟨rfl,λp e=>t _ p rfl e⟩));cases a
 | slot j=>cases m
def cW2{X:Cx}{E:Ex}{i:Nat}{st:Stmt}{r:DE}(h:∀ Γ,PS X st (bD4 (dTE Γ r) (rZ i))):GS E X st (cX i r):=.mk λΓ=>psW (h Γ) λ_ _ _ h=>aE6 h
noncomputable def jT(x:Str):List D:=x.cps.toList.map λc=>.str ⟨#[c]⟩
def wW{H:Hp}(x:Str):Rps H (jT x) (eC x):=by
 unfold jT eC
 induction x.cps.toList with
 | nil=>exact .nil
 | cons a r b=>exact .cons (.str _) b
abbrev DG:=D->Sg->Option Sg
abbrev DGs:=List D->Sg->Option Sg
def bI9(own:List Nat)(g:TG)(e:DG):Prop:=∀ Γ H b a c σ σV d v σ' Q,StOk Γ H σ σV->Step b a c σ σV H->Rp H d v->e d σ=some σ' ->
 (∀ σV',StOk Γ H σ' σV'->Step b a c σ' σV' H->σV'.length=σV.length->(∀ i,i∉own->σV'[i]? = σV[i]? /\ σ'[i]? = σ[i]?)->Q σV' H)->g v σV H Q
def bJ0(own:List Nat)(g:TGs)(e:DGs):Prop:=∀ Γ H b a c σ σV d vs σ' Q,StOk Γ H σ σV->Step b a c σ σV H->Rps H d vs->e d σ=some σ' ->
 (∀ σV',StOk Γ H σ' σV'->Step b a c σ' σV' H->σV'.length=σV.length->(∀ i,i∉own->σV'[i]? = σV[i]? /\ σ'[i]? = σ[i]?)->Q σV' H)->g vs σV H Q
noncomputable def dgN(i:Nat):DG:=λd σ=>if eE σ i=true then some (σ.set i (some ⟨.val,d⟩))else none
noncomputable def oY:DGs:=λa σ=>if a.isEmpty then some σ else none
noncomputable def cP(g:DG)(b:DGs):DGs:=λc σ=>match c with
 | d::r=>(g d σ).bind λa=>b r a
 | []=>none
noncomputable def oZ(n:Nat)(a:DGs):DG:=λd σ=>match d with
 | .tup l=>if l.length=n then a l σ else none
 | .str z=>if z.length=n then a (jT z) σ else none
 | _=>none
def bX{own:List Nat}{i:Nat}(h:i∈own):bI9 own (rZ i) (dgN i):=by
 intro Γ H c a g σ σV d v σ' Q ok st r e k;unfold dgN at e;split at e;rename_i b;cases e;refine k _ (ok.put b r) (st.put b .val (.inl rfl)) (by simp) λj f=>?_;have:i≠j:=λz=>f (by rw[← z];exact h);exact⟨a7a this,a7a this⟩;cases e
def nF{own:List Nat}:bJ0 own dM2 oY:=by
 intro Γ H b a c σ σV d vs σ' Q ok st r e k;unfold oY at e;cases r with
 | nil=>cases e;exact⟨rfl,k _ ok st rfl λ_ _=>⟨rfl,rfl⟩⟩
 | cons _ _=>cases e
def cL{own:List Nat}{g:TG}{p:DG}{q:TGs}{c:DGs}(w:bI9 own g p)(x:bJ0 own q c):bJ0 own (cO2 g q) (cP p c):=by
 intro Γ H d b s σ σV z vs σ' Q ok st r e k;cases r with
 | nil=>cases e
 | cons a t=>
   obtain⟨f,y,e⟩:=bind_some e;refine⟨_,_,rfl,w Γ H d b s σ σV _ _ f _ ok st a y λh l m l1 u=>?_⟩;refine x Γ H d b s f h _ _ σ' _ l m t e λj n o l2 v=>?_;exact k j n o (l2.trans l1) λi hi=>⟨(v i hi).1.trans (u i hi).1,(v i hi).2.trans (u i hi).2⟩
def tE{own:List Nat}{K:W.Frag}{n:Nat}{i:TGs}{a:DGs}(h:bJ0 own i a):bI9 own (bG4 K n i) (oZ n a):=by
 intro Γ H f b j σ σV d v σ' Q ok st r e k;cases d with
 | tup l=>
   have c:(if l.length=n then a l σ else none)=some σ':=e;split at c;rename_i g;obtain⟨p,xs,rfl,o,m⟩:=eD (.inl r);exact⟨xs,bA o,by rw[← m.length];exact g,h Γ H f b j σ σV l xs σ' Q ok st m c k⟩;cases c
 | str z=>
   have c:(if z.length=n then a (jT z) σ else none)=some σ':=e;split at c;rename_i g;cases r;exact⟨g,h Γ H f b j σ σV _ _ σ' Q ok st (wW z) c k⟩;cases c
 | _=>cases e
noncomputable def cW3(g:DG)(r:DE):DS:=λσ=>(r σ).bind λx=>match x.1 with
 | .val d=>(g d x.2).bind λa=>some (.nx a)
 | _=>none
def cW4{X:Cx}{E:Ex}{own:List Nat}{st:Stmt}{r:DE}{g:TG}{m:DG}(p:bI9 own g m)(h:∀ Γ,PS X st (bD4 (dTE Γ r) g)):GS E X st (cW3 m r):=.mk λΓ=>psW (h Γ) λD σV H ⟨σ,ok,o,e,k⟩=>by
 obtain⟨⟨x,a⟩,q,e⟩:=bind_some e;refine⟨σ,ok,x,a,q,λv n c s f u=>?_⟩;cases x with
 | val d=>
   obtain⟨i,t,e⟩:=bind_some e;cases e;exact p Γ n σ σV H a σV d v i _ c f s t λb j l _ _=>k b n j l
 | own d=>cases e
 | slot d=>cases e
noncomputable def lend(i:Nat)(σ:Sg):Sg:=match σ[i]? with
 | some (some s)=>if s.m.mt=true then σ.set i (some ⟨.lent,s.d⟩)else σ
 | _=>σ
noncomputable def unl(i:Nat)(a σ:Sg):Sg:=match a[i]?,σ[i]? with
 | some (some s0),some (some s)=>if s0.m.mt=true then σ.set i (some ⟨s0.m,s.d⟩)else σ
 | _,_=>σ
noncomputable def lendO(l:Option Nat)(σ:Sg):Sg:=match l with
 | some i=>lend i σ
 | none=>σ
noncomputable def aN5(l:Option Nat)(a σ:Sg):Sg:=match l with
 | some i=>unl i a σ
 | none=>σ
section
variable{Γ:Gm}{H H1 H2:Hp}{σ σ1 σ2:Sg}{σV σV2:St}{i:Nat}{s:Sl}
def uX(hs:σ[i]? = some (some s))(hm:s.m.mt=true):lend i σ=σ.set i (some ⟨.lent,s.d⟩):=by
 unfold lend;rw[hs];simp only[hm,if_true]
def zQ(h:∀ s,σ[i]? = some (some s)->s.m.mt=false):lend i σ=σ:=by
 unfold lend;split;rename_i s hs;rw[a3q (by rw[h s hs];exact a1b)];rfl
theorem StOk.lend(ok:StOk Γ H σ σV):StOk Γ H (lend i σ) σV:=by
 by_cases f:∃ s,σ[i]? = some (some s)/\s.m.mt=true
 ·obtain⟨s,hs,hm⟩:=f;rw[uX hs hm];obtain⟨p,ep,ow⟩:=ok.ownAt hs (fY hm);have back:∀ (j:Nat) t,(σ.set i (some ⟨.lent,s.d⟩))[j]? = some (some t)->(j=i/\t=⟨.lent,s.d⟩)\/(j≠i/\σ[j]? = some (some t)):=λj t a=>by
   rcases bC a with⟨z,h,_⟩ | z;cases h;exact .inl ⟨z,rfl⟩;exact .inr z
  refine⟨λj t a=>?_,λj l t g q n a k m m' b c=>?_,λj t q a m b=>?_,λj t q a m b=>?_,ok.keep,ok.dom,by rw[a5f];exact ok.len⟩;rcases back j t a with⟨rfl,rfl⟩ | ⟨_,z⟩;exact⟨_,ep,p,rfl,ow⟩;exact ok.rel j t z;rcases back j t a with⟨rfl,rfl⟩ | ⟨_,z⟩;cases m;rcases back l g k with⟨rfl,rfl⟩ | ⟨_,y⟩;exact ok.dis j l t s q n z hs m (fY hm) b c;exact ok.dis j l t g q n z y m m' b c;rcases back j t a with⟨rfl,rfl⟩ | ⟨_,z⟩;cases m;exact ok.own j t q z m b;rcases back j t a with⟨rfl,rfl⟩ | ⟨_,z⟩;cases m;exact ok.par j t q z m b
 ·rw[zQ λs hs=>by
   cases e:s.m.mt with
   | false=>rfl
   | true=>exact absurd ⟨s,hs,e⟩ f]
  exact ok
def cW5(ok:StOk Γ H1 σ1 σV)(c:StOk Γ H2 σ2 σV2)(st:Step (lend i σ1) σV H1 σ2 σV2 H2):StOk Γ H2 (unl i σ1 σ2) σV2/\Step σ1 σV H1 (unl i σ1 σ2) σV2 H2:=by
 by_cases P:∃ s,σ1[i]? = some (some s)/\s.m.mt=true
 ·obtain⟨s,hs,hm⟩:=P;have V:i < σ1.length:=(a3a.mp hs).1;rw[uX hs hm]at st;have J:(σ1.set i (some ⟨.lent,s.d⟩))[i]? = some (some ⟨.lent,s.d⟩):=by rw[a1c V]
  obtain⟨s2,I,W,d2,Q⟩:=st.fix i _ J (.inr rfl);have B:s2.m=.lent:=W;have C:i < σ2.length:=(a3a.mp I).1;have K:unl i σ1 σ2=σ2.set i (some ⟨s.m,s2.d⟩):=by unfold unl;rw[hs,I];simp only[hm,if_true]
  rw[K];obtain⟨p,ep,ow⟩:=ok.ownAt hs (fY hm);have f:σV2[i]? = some (some (.ref p)):=Q.trans ep;obtain⟨p',R,L⟩:=c.ownAt I (by rw[B];exact λz=>nomatch z);rw[f]at R;cases R;have D:∀ (j:Nat) t,j≠i->σ2[j]? = some (some t)->t.m=.lent->σV2[j]? ≠ some (some (.ref p)):=λj t x b M e=>by
   obtain⟨E,A,F⟩:=st.lt j t b M;rw[a7a (a3d x)]at A;have X:(σ1.set i (some ⟨.lent,s.d⟩))[j]? = some (some E):=by rw[a7a (a3d x)];exact A
   obtain⟨_,_,_,_,Y⟩:=st.fix j E X (.inr F);rw[Y]at e;exact ok.dis i j s E p (a3d x) hs A hm (by rw[F];exact λz=>nomatch z) ep e
  have r:∀ (j:Nat) t,j≠i->σ2[j]? = some (some t)->t.m≠.val->σV2[j]? ≠ some (some (.ref p)):=λj t x b M e=>by
   by_cases S:t.m=.lent;exact D j t x b S e;have N:t.m.mt=true:=by
    cases q:t.m with
    | val=>exact absurd q M
    | own=>rfl
    | par=>rfl
    | lent=>exact absurd q S
   exact c.dis j i t s2 p x b I N (by rw[B];exact λz=>nomatch z) e f
  have back:∀ (j:Nat) t,(σ2.set i (some ⟨s.m,s2.d⟩))[j]? = some (some t)->(j=i/\t=⟨s.m,s2.d⟩)\/(j≠i/\σ2[j]? = some (some t)):=λj t b=>by
   rcases bC b with⟨z,v,_⟩ | z;cases v;exact .inl ⟨z,rfl⟩;exact .inr z
  have sub:∀ a,nE (σ1.set i (some ⟨.lent,s.d⟩)) σV a->nE σ1 σV a:=λa ⟨j,t,b,m,k⟩=>by
   rcases bC b with⟨z,v,_⟩ | ⟨z,v⟩;cases v;cases m;exact⟨j,t,v,m,k⟩
  have G:∀ a,bD6 (σ1.set i (some ⟨.lent,s.d⟩)) σV a->bD6 σ1 σV a:=λa ⟨j,t,b,m,k⟩=>by
   rcases bC b with⟨z,v,_⟩ | ⟨z,v⟩;subst z;exact⟨j,s,hs,fY hm,k⟩;exact⟨j,t,v,m,k⟩
  constructor
  ·refine⟨λj t b=>?_,λj l t w q n b T m m' g u=>?_,λj t q b m g=>?_,λj t q b m g=>?_,c.keep,c.dom,by rw[a5f];exact c.len⟩;rcases back j t b with⟨rfl,rfl⟩ | ⟨_,z⟩;exact⟨_,f,(cC (s:=⟨s.m,s2.d⟩) (fY hm)).mpr ⟨p,rfl,L⟩⟩;exact c.rel j t z
   ·rcases back j t b with⟨rfl,rfl⟩ | ⟨zn,z⟩;rw[f]at g;have g:=a5a (a5a g);cases g;rcases back l w T with⟨rfl,rfl⟩ | ⟨U,y⟩;exact n rfl;exact r l w U y m' u;rcases back l w T with⟨rfl,rfl⟩ | ⟨U,y⟩;rw[f]at u;have u:=a5a (a5a u);cases u;exact r j t zn z (fY m) g;exact c.dis j l t w q n z y m m' g u
   ·rcases back j t b with⟨rfl,rfl⟩ | ⟨_,z⟩;rw[f]at g;have g:=a5a (a5a g);cases g;exact ok.own j s p hs m ep;exact c.own j t q z m g
   ·rcases back j t b with⟨rfl,rfl⟩ | ⟨_,z⟩;rw[f]at g;have g:=a5a (a5a g);cases g;exact ok.par j s p hs m ep;exact c.par j t q z m g
  ·refine⟨λa o e n=>st.fr a o e λz=>n (sub a z),st.dom,λa ⟨j,t,b,m,k⟩=>?_,λa ⟨j,t,b,m,k⟩=>?_,λj t b=>?_,λj t b m=>?_,λj t b m=>?_⟩;rcases back j t b with⟨rfl,rfl⟩ | ⟨_,z⟩;rw[f]at k;have k:=a5a (a5a k);cases k;exact .inl ⟨j,s,hs,hm,ep⟩;rcases st.mu a ⟨j,t,z,m,k⟩with y | y;exact .inl (sub a y);exact .inr y;rcases back j t b with⟨rfl,rfl⟩ | ⟨_,z⟩;rw[f]at k;have k:=a5a (a5a k);cases k;exact .inl ⟨j,s,hs,fY hm,ep⟩;rcases st.nv a ⟨j,t,z,m,k⟩with y | y;exact .inl (G a y);exact .inr y;by_cases z:j=i;subst z;exact⟨_,by rw[a1c C]⟩;obtain⟨w,O⟩:=st.kp j t (by rw[a7a (a3d z)];exact b);exact⟨w,by rw[a7a (a3d z)];exact O⟩;by_cases z:j=i;subst z;rw[hs]at b;cases b;refine⟨⟨s.m,s2.d⟩,by rw[a1c C],rfl,λq=>?_,Q⟩;rw[q]at hm;cases hm;obtain⟨w,O,h⟩:=st.fix j t (by rw[a7a (a3d z)];exact b) m;exact⟨w,by rw[a7a (a3d z)];exact O,h⟩;rcases back j t b with⟨rfl,rfl⟩ | ⟨zn,z⟩;have m':s.m=.lent:=m;rw[m']at hm;cases hm;obtain⟨E,A,Z⟩:=st.lt j t z m;rw[a7a (a3d zn)]at A;exact⟨E,A,Z⟩
 ·have H:∀ s,σ1[i]? = some (some s)->s.m.mt=false:=λs hs=>by
   cases e:s.m.mt with
   | false=>rfl
   | true=>exact absurd ⟨s,hs,e⟩ P
  rw[zQ H]at st;have K:unl i σ1 σ2=σ2:=by
   unfold unl;split;rename_i s0 s' h0 h';rw[a3q (by rw[H s0 h0];exact a1b)];rfl
  rw[K];exact⟨c,st⟩
theorem StOk.lendO{l:Option Nat}(ok:StOk Γ H σ σV):StOk Γ H (lendO l σ) σV:=by
 cases l with
 | none=>exact ok
 | some i=>exact ok.lend
def uY{l:Option Nat}(ok:StOk Γ H1 σ1 σV)(a:StOk Γ H2 σ2 σV2)(st:Step (lendO l σ1) σV H1 σ2 σV2 H2):StOk Γ H2 (aN5 l σ1 σ2) σV2/\Step σ1 σV H1 (aN5 l σ1 σ2) σV2 H2:=by
 cases l with
 | none=>exact⟨a,st⟩
 | some i=>exact cW5 ok a st
def cC5{l:Option Nat}{r:Res}{v:V}(st:Step (lendO l σ1) σV H1 σ2 σV2 H2)(h:iD Γ H2 σ2 σV2 r v):iD Γ H2 (aN5 l σ1 σ2) σV2 r v:=by
 cases l with
 | none=>exact h
 | some i=>
   show iD Γ H2 (unl i σ1 σ2) σV2 r v;have a:Step (lend i σ1) σV H1 σ2 σV2 H2:=st;unfold unl;split
   ·rename_i g s' h0 h';split
    ·rename_i hm;cases r with
     | val d=>exact h
     | own d=>
       obtain⟨p,b,c,k,n⟩:=h;refine⟨p,b,c,λ⟨j,t,o,m,e⟩=>k ?_,n⟩;rcases bC o with⟨z,f,_⟩ | ⟨z,f⟩;subst z;rw[uX h0 hm]at a;obtain⟨q,s,u,_⟩:=a.fix j ⟨.lent,g.d⟩ (by rw[a1c (a3a.mp h0).1]) (.inr rfl);exact⟨j,q,s,by rw[u];exact λz=>(by cases z),e⟩
       ·exact⟨j,t,f,m,e⟩
     | slot j=>
       obtain⟨b,t,c⟩:=h;refine⟨b,?_⟩;by_cases z:j=i;subst z;exact⟨_,by rw[a1c (a3a.mp h').1]⟩
       ·exact⟨t,by rw[a7a (a3d z)];exact c⟩
    ·exact h
   ·exact h
end
structure ItD(J:It)(items:List D)(P:Hp->Prop):Prop where
 go:∀ H i d,P H->items[i]? = some d->J.go i H
 yld:∀ H i d y H',P H->items[i]? = some d->J.yld i H y H'->kJ H H'/\Rp H' d y
 stop:∀ H,P H->J.stop items.length H
def wX{J:It}{xs:List V}{P:Hp->Prop}{items:List D}(w:ItIs J xs P):ItD J items (λH=>P H/\Rps H items xs) where
 go:=λH i d ⟨h,r⟩ e=>by
  obtain⟨x,ex,_⟩:=r.get e;exact w.go H i x h ex
 yld:=λH i d y H' ⟨h,r⟩ e q=>by
  obtain⟨x,ex,rx⟩:=r.get e;obtain⟨rfl,rfl⟩:=w.yld H i x y H' h ex q;exact⟨.refl _,rx⟩
 stop:=λH ⟨h,r⟩=>by
  refine w.stop H _ h ?_;have:=r.length;rw[a7c];lia
abbrev DI:=Sg->Option (List D×Option Nat×Sg)
def dTI(Γ:Gm)(ri:DI):TI:=λσV H R=>∃ σ,StOk Γ H σ σV/\∃ items l a,ri σ=some (items,l,a)/\∀ J c P,StOk Γ c a σV->Step σ σV H a σV c->ItD J items P ->
 (∀ d b e,Step (lendO l a) σV c d b e->P e)->R J c
structure GI(X:Cx)(tg iter:Expr)(ri:DI):Prop where
 to:∀ Γ,PI X tg iter (dTI Γ ri)
def piW{X:Cx}{tg e:Expr}{t t':TI}(h:PI X tg e t)(w:∀ σ H Q,t' σ H Q->t σ H Q):PI X tg e t':=λpins s σ H Q I q=>h pins s σ H Q I (w σ H Q q)
noncomputable def wY:D->Option (List D)
 | .lst l=>some l
 | .tup l=>some l
 | .str x=>some (jT x)
 | _=>none
noncomputable def dIt(r:DE):DI:=λσ=>(r σ).bind λx=>(rd x.2 x.1).bind λd=>(wY d).bind λl=>some (l,(match x.1 with | .slot i=>some i | _=>none),x.2)
def eV{H a:Hp}{p:Addr}{o:HO}(h:H p=some o)(b:a p=some o):dQ a p=dQ H p:=by unfold dQ;rw[h,b]
def qH{Γ:Gm}{g:Hp}{a:Sg}{σV:St}{x:Res}{v:V}{d:D}{items:List D}(A:StOk Γ g a σV)(h:iD Γ g a σV x v)(N:rd a x=some d)(H:wY d=some items)(vw:Vw g d v) :
  ∀ p b xs,v=.ref p->dQ g p=some (b,xs)->Rps g items xs->∀ B k C,Step (lendO (match x with | .slot i=>some i | _=>none) a) σV g B k C->dQ C p=some (b,xs)/\Rps C items xs:=by
 intro p b xs r u S B k C l;have ext:Ext g C:=l.ext (Γ:=Γ) A.lendO;refine⟨?_,S.mono ext⟩;cases x with
 | val d'=>
   cases N;subst r;cases d with
   | tup I=>obtain⟨_,_,e,f,_⟩:=eD vw;cases e;rw[eV f (ext.tup _ _ f)];exact u
   | lst I=>
     cases h with
     | lst f _=>rw[eV f (ext.frz _ _ _ f)];exact u
   | dic ks vs=>cases H
   | str z=>cases h
   | _=>cases H
 | own d'=>
   obtain⟨q,O,ow,T,_⟩:=h;rw[r]at O;cases O;obtain⟨o,E,_⟩:=ow.obj;rw[eV E (l.fr p o E (λz=>T z.nv))];exact u
 | slot i=>
   obtain⟨h,s,hs⟩:=h;have c:StOk Γ g a σV:=A;by_cases hm:s.m=.val
   ·obtain⟨w,P,J⟩:=c.rel i s hs;rw[h]at P;cases P;subst r;obtain⟨m,Q⟩:=s;cases hm;have K:some Q=some d:=by
     have:rd a (.slot i)=some Q:=by show(match a[i]? with | some (some s)=>some s.d | _=>none)=_;rw[hs]
     rw[← this];exact N
    cases K;have L:Rp g d (.ref p):=J;cases d with
    | tup I=>obtain⟨_,_,e,f,_⟩:=eD (.inl L);cases e;rw[eV f (ext.tup _ _ f)];exact u
    | lst I=>
      cases L with
      | lst f _=>rw[eV f (ext.frz _ _ _ f)];exact u
    | dic ks vs=>cases H
    | str z=>cases L
    | _=>cases H
   ·obtain⟨q,F,ow⟩:=c.ownAt hs hm;rw[h]at F;have F:=a5a (a5a F);rw[r]at F;cases F;obtain⟨o,E,_⟩:=ow.obj;have U:¬ nE (lend i a) σV p:=by
     rintro⟨j,t,y,m,R⟩;by_cases n:s.m.mt=true;rw[uX hs n]at y;rcases bC y with⟨_,M,_⟩ | ⟨z,M⟩;cases M;cases m;exact c.dis j i t s p z M hs m hm R (by rw[h,r]);rw[zQ (λs' G=>by rw[hs]at G;cases G;exact Bool.eq_false_iff.mpr n)]at y;by_cases z:j=i;subst z;rw[hs]at y;cases y;exact n m;exact c.dis j i t s p z y hs m hm R (by rw[h,r])
    rw[eV E (l.fr p o E U)];exact u
def cW6{X:Cx}{tg e:Expr}{r:DE}(K:W.Frag)(w:X.K=K)(h:GE X e r):GI X tg e (dIt r):=.mk λΓ=>piW (qB K w (h.to Γ)) λσV H R ⟨σ,ok,items,l,y,e,k⟩=>by
 obtain⟨⟨x,A⟩,B,e⟩:=bind_some e;obtain⟨d,t,e⟩:=bind_some e;obtain⟨its,i,e⟩:=bind_some e;cases e;refine⟨σ,ok,x,_,B,λv n b u g D=>?_⟩;have vw:=u.vw b t;have stay:=qH b u t i vw;cases d with
 | lst C=>
   cases i;obtain⟨p,xs,rfl,j,o⟩:=fX vw;refine .inl ⟨xs,j,k _ n _ b g (wX (iK (xs:=xs))) λc a m f=>?_⟩;obtain⟨q,s⟩:=stay p true xs rfl j o c a m f;exact⟨dU q,s⟩
 | tup C=>
   cases i;obtain⟨p,xs,rfl,j,o⟩:=eD vw;refine .inr ⟨xs,bA j,k _ n _ b g (wX (bF7 (xs:=xs))) λc a m f=>?_⟩;obtain⟨q,s⟩:=stay p false xs rfl (bA j) o c a m f;exact⟨cD q,s⟩
 | str z=>
   cases i;obtain rfl:=iS vw;exact k _ n (λH=>True/\Rps H (jT z) (eC z)) b g (wX bF8) λc a m f=>⟨True.intro,wW z⟩
 | _=>cases i
noncomputable def zR(lo:Int)(n:Nat):List D:=(List.range n).map λ(i:Nat)=>D.int (lo+(i:Int))
def aU2{H:Hp}(lo:Int)(n:Nat):Rps H (zR lo n) (bZ6 lo n):=by
 unfold zR bZ6
 induction List.range n with
 | nil=>exact .nil
 | cons a r b=>exact .cons (.int _) b
noncomputable def aN6(a:DA):DI:=λσ=>(a σ).bind λx=>(rds x.2 x.1).bind λb=>match b with
 | [.int j]=>if -(2 ^ 62)<=j/\j < 2 ^ 62 then some (zR 0 j.toNat,none,x.2)else none
 | [.int i,.int j]=>if(-(2 ^ 62)<=i/\i < 2 ^ 62) /\ -(2 ^ 62)<=j/\j < 2 ^ 62 then some (zR i (j-i).toNat,none,x.2)else none
 | _=>none
def cC6{X:Cx}{tg e:Expr}{d:DA}(h:∀ Γ,PI X tg e (bY3 (dTA Γ d)))(n:∀ σ rs σ',d σ=some (rs,σ')->rs.length=1):GI X tg e (aN6 d):=.mk λΓ=>piW (h Γ) λσV H R ⟨σ,ok,items,l,o,e,k⟩=>by
 obtain⟨⟨x,p⟩,g,e⟩:=bind_some e;obtain⟨y,r,e⟩:=bind_some e;refine⟨σ,ok,x,_,g,λvs s c i f z=>?_⟩;have vw:=qG c i r;have u:=n _ _ _ g;dsimp only at e;split at e
 ·split at e
  ·rename_i j;cases e;cases vw with
   | cons a t=>
     cases t;obtain rfl:=bQ a;exact⟨_,rfl,j.1,j.2,k _ s (λH=>True/\Rps H _ _) c f (wX jK) λv m A w=>⟨True.intro,aU2 _ _⟩⟩
  ·cases e
 ·exfalso;cases vw with
  | cons a t=>cases t with
    | cons b t=>
      cases i with
      | cons _ q _=>cases q with
        | cons _ q _=>simp at u
 ·cases e
def cC7{X:Cx}{tg e:Expr}{f:DA}(h:∀ Γ,PI X tg e (cO5 (dTA Γ f)))(n:∀ σ rs σ',f σ=some (rs,σ')->rs.length=2):GI X tg e (aN6 f):=.mk λΓ=>piW (h Γ) λσV H R ⟨σ,ok,items,l,o,e,k⟩=>by
 obtain⟨⟨x,p⟩,i,e⟩:=bind_some e;obtain⟨y,r,e⟩:=bind_some e;refine⟨σ,ok,x,_,i,λvs s c j g z=>?_⟩;have vw:=qG c j r;have u:=n _ _ _ i;dsimp only at e;split at e
 ·exfalso;cases vw with
  | cons a t=>
    cases t;cases j with
    | cons _ q _=>cases q;simp at u
 ·split at e
  ·rename_i d;cases e;cases vw with
   | cons a t=>cases t with
     | cons b t=>
       cases t;obtain rfl:=bQ a;obtain rfl:=bQ b;exact⟨_,_,rfl,⟨d.1.1,d.1.2,d.2.1,d.2.2⟩,k _ s (λH=>True/\Rps H _ _) c g (wX jK) λv m A w=>⟨True.intro,aU2 _ _⟩⟩
  ·cases e
 ·cases e
theorem len1{r:DE}:∀ σ rs σ',aB r aQ σ=some (rs,σ')->rs.length=1:=λσ rs σ' e=>by
 obtain⟨x,_,e⟩:=bind_some e;cases e;rfl
def len2{r a:DE}:∀ σ rs σ',aB r (aB a aQ) σ=some (rs,σ')->rs.length=2:=λσ rs σ' e=>by
 obtain⟨x,_,e⟩:=bind_some e;obtain⟨y,h,e⟩:=bind_some e;cases e;have:=len1 _ _ _ h;simp[this]
noncomputable def aU3(g:DG)(b:DS):List D->Sg->Option Out
 | [],σ=>some (.nx σ)
 | d::r,σ=>(g d σ).bind λe=>(b e).bind λo=>match o with
   | .nx a=>aU3 g b r a
   | .ct a=>aU3 g b r a
   | .bk a=>some (.nx a)
   | .rt x a=>some (.rt x a)
   | .ex c f a=>some (.ex c f a)
noncomputable def aE7(l:Option Nat)(a:Sg):Out->Out
 | .nx σ=>.nx (aN5 l a σ)
 | .rt r σ=>.rt r (aN5 l a σ)
 | .bk σ=>.bk (aN5 l a σ)
 | .ct σ=>.ct (aN5 l a σ)
 | .ex c f σ=>.ex c f (aN5 l a σ)
noncomputable def qI(ri:DI)(g:DG)(b:DS):DS:=λσ=>(ri σ).bind λx=>(aU3 g b x.1 (lendO x.2.1 x.2.2)).bind λo=>some (aE7 x.2.1 x.2.2 o)
def bJ1{Γ:Gm}{E:Ex}{own:List Nat}{ri:DI}{g:TG}{S:DG}{b:DS}(hg:bI9 own g S){D:Ends}{σV:St}{H:Hp}(h:dTS Γ E (qI ri S b) D σV H):dF0 (dTI Γ ri) g (dTS Γ E b) D σV H:=by
 obtain⟨σ,ok,o,e,k⟩:=h;obtain⟨⟨items,l,u⟩,e1,e⟩:=bind_some e;obtain⟨U,e2,e⟩:=bind_some e;cases e;refine⟨σ,ok,items,l,u,e1,λJ T P F M N stay=>?_⟩;dsimp only at e2
 -- V end that is wanted of V walk
 have K:∀ n a w,StOk Γ w n a->Step (lendO l u) σV T n a w->∀ W,W=U->(∀ σ',W=.nx σ'->∀ σV' H',StOk Γ H' σ' σV'->Step (lendO l u) σV T σ' σV' H'->D.nx σV' H'):=by
  intro n a w G B W ho σ' X σV' H' Y Z;subst ho X;obtain⟨O,Q⟩:=uY F Y Z;exact k σV' H' O (M.trans Q)
 refine⟨λi m a w=>m=items.length-i/\i<=items.length/\∃ n,aU3 S b (items.drop i) n=some U/\StOk Γ w n a/\Step (lendO l u) σV T n a w,⟨items.length,by simp,a2d _,lendO l u,by simpa using e2,F.lendO,.refl⟩,?_⟩;rintro i m a w ⟨rfl,hi,n,A,G,B⟩;have hP:=stay n a w B;by_cases I:i < items.length
 ·have ei:items[i]? = some items[i]:=a0a I;refine .inr ⟨N.go w i _ hP ei,λC R=>∃ m',m' < items.length-i/\m'=items.length-(i+1)/\i+1<=items.length/\∃ z,aU3 S b (items.drop (i+1)) z=some U/\StOk Γ R z C/\Step (lendO l u) σV T z C R,λσ' H' q=>q,λy R hy=>?_⟩;obtain⟨sm,ry⟩:=N.yld w i _ y R hP ei hy;rw[List.drop_eq_getElem_cons I]at A;obtain⟨z,eg,A⟩:=bind_some A;obtain⟨ob,eb,A⟩:=bind_some A;refine hg Γ R _ _ _ n a _ y z _ (G.same sm) (B.trans (.same sm)) ry eg λC ok3 t _ _=>?_;refine⟨z,ok3,ob,eb,?_⟩;cases ob with
  | nx s=>exact λj L r p=>⟨_,by lia,rfl,I,s,A,r,t.trans p⟩
  | ct s=>exact λj L r p=>⟨_,by lia,rfl,I,s,A,r,t.trans p⟩
  | bk s=>
    cases A;exact λj L r p=>K s j L r (t.trans p) _ rfl s rfl j L r (t.trans p)
  | rt x s=>
    cases A;intro v j L r r4 p;obtain⟨O,Q⟩:=uY F r (t.trans p);exact k v j L O (cC5 (t.trans p) r4) (M.trans Q)
  | ex c f s=>
    cases A;intro v d j L r r4 p;obtain⟨O,Q⟩:=uY F r (t.trans p);exact k v d j L O r4 (M.trans Q)
 ·have e0:i=items.length:=by lia
  subst e0;rw[List.drop_length]at A;cases A;exact .inl ⟨N.stop w hP,K n a w G B _ rfl n rfl a w G B⟩
def oB{X:Cx}{E:Ex}{own:List Nat}{st:Stmt}{ri:DI}{g:TG}{a:DG}{b:DS}(c:bI9 own g a)(h:∀ Γ,PS X st (dF0 (dTI Γ ri) g (dTS Γ E b))):GS E X st (qI ri a b):=.mk λΓ=>psW (h Γ) λ_ _ _=>bJ1 c
noncomputable def bF(ow:List Nat)(σ:Sg):Sg:=ow.foldl (λσ i=>σ.set i none) σ
noncomputable def lS(ow:List Nat)(σ a:Sg):Sg:=ow.foldl (λa i=>a.set i (σ[i]?.getD none)) a
theorem fA{a:Type}:∀ (ow:List Nat) (σ:List (Option a)),(ow.foldl (λσ i=>σ.set i none) σ).length=σ.length
 | [],_=>rfl
 | i::r,σ=>(fA r (σ.set i none)).trans (by simp)
theorem eF{a:Type}:∀ (ow:List Nat) (σ:List (Option a)) (j:Nat),j∉ow->(ow.foldl (λσ i=>σ.set i none) σ)[j]? = σ[j]?
 | [],_,_,_=>rfl
 | i::r,σ,j,h=>by
   have b:i≠j:=λz=>h (by rw[z];exact a4a);have c:j∉r:=λz=>h (a8a _ z);show(r.foldl _ (σ.set i none))[j]? = _;rw[eF r _ j c,a7a b]
theorem bH{a:Type}:∀ (ow:List Nat) (σ:List (Option a)) (j:Nat) (x:a),(ow.foldl (λσ i=>σ.set i none) σ)[j]? = some (some x)->j∉ow/\σ[j]? = some (some x)
 | [],_,_,_,h=>⟨by simp,h⟩
 | i::r,σ,j,x,h=>by
   obtain⟨b,c⟩:=bH r (σ.set i none) j x h;rcases bC c with⟨_,z,_⟩ | ⟨z,d⟩;cases z;exact⟨by simp[z,b],d⟩
theorem oC:∀ (ow:List Nat) (σ a:Sg),(lS ow σ a).length=a.length
 | [],_,_=>rfl
 | i::r,σ,a=>(oC r σ (a.set i (σ[i]?.getD none))).trans (by simp)
theorem iT:∀ (ow:List Nat) (σ a:Sg) (j:Nat),j∉ow->(lS ow σ a)[j]? = a[j]?
 | [],_,_,_,_=>rfl
 | i::r,σ,a,j,h=>by
   have b:i≠j:=λz=>h (by rw[z];exact a4a);have c:j∉r:=λz=>h (a8a _ z);show(lS r σ (a.set i (σ[i]?.getD none)))[j]? = _;rw[iT r σ _ j c,a7a b]
theorem pN:∀ (ow:List Nat) (σ a:Sg) (j:Nat),j∈ow->σ.length=a.length->(lS ow σ a)[j]? = σ[j]?
 | [],_,_,_,h,_=>by simp at h
 | i::r,σ,a,j,h,hl=>by
   show(lS r σ (a.set i (σ[i]?.getD none)))[j]? = _;by_cases b:j∈r;exact pN r σ _ j b (by simp[hl])
   ·rw[iT r σ _ j b];have:j=i:=by rcases a7b.mp h with z | z;exact z;exact absurd z b
    subst this;by_cases c:j < a.length;rw[a1c c,a0a (by lia:j < σ.length)];rfl;rw[a7c.mpr (by simp;lia),a7c.mpr (by lia)]
section
variable{Γ:Gm}{H H1 H2:Hp}{σ σ1 τ:Sg}{σV σV2 σV3:St}{ow:List Nat}
def StOk.blank(ok:StOk Γ H τ σV2)(h:σV3.length=σV2.length)(e:∀ j,j∉ow->σV3[j]? = σV2[j]?):StOk Γ H (bF ow τ) σV3 where
 rel:=λj t b=>by
  obtain⟨c,d⟩:=bH ow τ j t b;rw[e j c];exact ok.rel j t d
 dis:=λj l t g q n b i m m' a f=>by
  obtain⟨c,d⟩:=bH ow τ j t b;obtain⟨k,o⟩:=bH ow τ l g i;rw[e j c]at a;rw[e l k]at f;exact ok.dis j l t g q n d o m m' a f
 own:=λj t q b m a=>by
  obtain⟨c,d⟩:=bH ow τ j t b;rw[e j c]at a;exact ok.own j t q d m a
 par:=λj t q b m a=>by
  obtain⟨c,d⟩:=bH ow τ j t b;rw[e j c]at a;exact ok.par j t q d m a
 keep:=ok.keep
 dom:=ok.dom
 len:=by rw[bF,fA,h];exact ok.len
def Step.blank{c:Sg}(g:∀ (j:Nat) t,c[j]? = some (some t)->j∉ow)(st:Step c σV H1 τ σV2 H2)(h:∀ j,j∉ow->σV3[j]? = σV2[j]?):Step c σV H1 (bF ow τ) σV3 H2 where
 fr:=st.fr
 dom:=st.dom
 mu:=λa ⟨j,t,b,m,f⟩=>by
  obtain⟨e,d⟩:=bH ow τ j t b;rw[h j e]at f;exact st.mu a ⟨j,t,d,m,f⟩
 nv:=λa ⟨j,t,b,m,f⟩=>by
  obtain⟨e,d⟩:=bH ow τ j t b;rw[h j e]at f;exact st.nv a ⟨j,t,d,m,f⟩
 kp:=λj t b=>by
  obtain⟨i,k⟩:=st.kp j t b;exact⟨i,by rw[bF,eF ow τ j (g j t b)];exact k⟩
 fix:=λj t b m=>by
  obtain⟨i,k,e,d,l⟩:=st.fix j t b m;exact⟨i,by rw[bF,eF ow τ j (g j t b)];exact k,e,d,by rw[h j (g j t b)];exact l⟩
 lt:=λj t b m=>by
  obtain⟨e,d⟩:=bH ow τ j t b;exact st.lt j t d m
def cC8(c:StOk Γ H1 σ1 σV)(ok:StOk Γ H τ σV2)(x:∀ j,j∉ow->σV2[j]? = σV[j]?)(N:σV2.length=σV.length)(st:Step (bF ow σ1) σV2 H1 τ σV2 H) :
  StOk Γ H (lS ow σ1 τ) σV/\Step σ1 σV H1 (lS ow σ1 τ) σV H:=by
 have A:σ1.length=τ.length:=by rw[c.len,ok.len,N]
 have O:StOk Γ H1 (bF ow σ1) σV2:=c.blank N x;have ext:Ext H1 H:=st.ext O;have get:∀ (j:Nat) t,(lS ow σ1 τ)[j]? = some (some t)->(j∈ow/\σ1[j]? = some (some t))\/(j∉ow/\τ[j]? = some (some t)):=λj t e=>by
  by_cases h:j∈ow;rw[pN ow σ1 τ j h A]at e;exact .inl ⟨h,e⟩;rw[iT ow σ1 τ j h]at e;exact .inr ⟨h,e⟩
 have B:∀ (j:Nat) t,(bF ow σ1)[j]? = some (some t)->j∉ow/\σ1[j]? = some (some t):=λj t e=>bH ow σ1 j t e;have G:∀ (j:Nat),j∉ow->(bF ow σ1)[j]? = σ1[j]?:=λj h=>eF ow σ1 j h;have s:∀ a,nE (bF ow σ1) σV2 a->∃ (j:Nat) (t:Sl),j∉ow/\σ1[j]? = some (some t)/\t.m.mt=true/\σV[j]? = some (some (.ref a)):=λa ⟨j,t,b,m,u⟩=>by
  obtain⟨k,f⟩:=B j t b;rw[x j k]at u;exact⟨j,t,k,f,m,u⟩
 have I:∀ a,bD6 (bF ow σ1) σV2 a->∃ (j:Nat) (t:Sl),j∉ow/\σ1[j]? = some (some t)/\t.m≠.val/\σV[j]? = some (some (.ref a)):=λa ⟨j,t,b,m,u⟩=>by
  obtain⟨k,f⟩:=B j t b;rw[x j k]at u;exact⟨j,t,k,f,m,u⟩
 have C:∀ (j l:Nat) t g q,j∈ow->σ1[j]? = some (some t)->l∉ow->τ[l]? = some (some g)->t.m≠.val->g.m≠.val->(t.m.mt=true\/g.m.mt=true)->σV[j]? = some (some (.ref q))->σV[l]? = some (some (.ref q))->False:=by
  intro j l t g q S b P K m m' L i d;rw[← x l P]at d;obtain⟨p,ep,Q⟩:=c.ownAt b m;rw[i]at ep;have ep:=a5a (a5a ep);cases ep;obtain⟨o,T,_⟩:=Q.obj;rcases L with L | L;rcases st.nv q ⟨l,g,K,m',d⟩with z | z;obtain⟨D,E,k,f,v,F⟩:=I q z;exact c.dis j D t E q (λy=>k (by rw[← y];exact S)) b f L v i F;rw[T]at z;cases z;rcases st.mu q ⟨l,g,K,L,d⟩with z | z;obtain⟨D,E,k,f,v,F⟩:=s q z;exact c.dis D j E t q (λy=>k (by rw[y];exact S)) f b v m F i;rw[T]at z;cases z
 constructor
 ·refine⟨λj t b=>?_,λj l t g q n b K m m' i d=>?_,λj t q b m i=>?_,λj t q b m i=>?_,ok.keep,ok.dom,by rw[oC,ok.len,N]⟩;rcases get j t b with⟨h,e⟩ | ⟨h,e⟩;obtain⟨w,M,r⟩:=c.rel j t e;refine⟨w,M,r.mono ext λp o ep m V=>st.fr p o V λz=>?_⟩;obtain⟨D,E,k,f,v,F⟩:=s p z;exact c.dis D j E t p (λy=>k (by rw[y];exact h)) f e v m F (by rw[M,ep]);obtain⟨w,M,r⟩:=ok.rel j t e;exact⟨w,by rw[← x j h];exact M,r⟩
  ·rcases get j t b with⟨h,e⟩ | ⟨h,e⟩;rcases get l g K with⟨h',J⟩ | ⟨h',J⟩;exact c.dis j l t g q n e J m m' i d;exact C j l t g q h e h' J (fY m) m' (.inl m) i d;rcases get l g K with⟨h',J⟩ | ⟨h',J⟩;exact C l j g t q h' J h e m' (fY m) (.inr m) d i;rw[← x j h]at i;rw[← x l h']at d;exact ok.dis j l t g q n e J m m' i d
  ·rcases get j t b with⟨h,e⟩ | ⟨h,e⟩;exact c.own j t q e m i;rw[← x j h]at i;exact ok.own j t q e m i
  ·rcases get j t b with⟨h,e⟩ | ⟨h,e⟩;exact c.par j t q e m i;rw[← x j h]at i;exact ok.par j t q e m i
 ·refine⟨λa o e n=>st.fr a o e λz=>?_,st.dom,λa ⟨j,t,b,m,u⟩=>?_,λa ⟨j,t,b,m,u⟩=>?_,λj t b=>?_,λj t b m=>?_,λj t b m=>?_⟩;obtain⟨D,E,k,f,v,F⟩:=s a z;exact n ⟨D,E,f,v,F⟩;rcases get j t b with⟨h,e⟩ | ⟨h,e⟩;exact .inl ⟨j,t,e,m,u⟩;rw[← x j h]at u;rcases st.mu a ⟨j,t,e,m,u⟩with z | z;obtain⟨D,E,k,f,v,F⟩:=s a z;exact .inl ⟨D,E,f,v,F⟩;exact .inr z;rcases get j t b with⟨h,e⟩ | ⟨h,e⟩;exact .inl ⟨j,t,e,m,u⟩;rw[← x j h]at u;rcases st.nv a ⟨j,t,e,m,u⟩with z | z;obtain⟨D,E,k,f,v,F⟩:=I a z;exact .inl ⟨D,E,f,v,F⟩;exact .inr z;by_cases h:j∈ow;exact⟨t,by rw[pN ow σ1 τ j h A];exact b⟩;obtain⟨g,R⟩:=st.kp j t (by rw[G j h];exact b);exact⟨g,by rw[iT ow σ1 τ j h];exact R⟩;by_cases h:j∈ow;exact⟨t,by rw[pN ow σ1 τ j h A];exact b,rfl,λ_=>rfl,rfl⟩;obtain⟨g,R,k,f,v⟩:=st.fix j t (by rw[G j h];exact b) m;exact⟨g,by rw[iT ow σ1 τ j h];exact R,k,f,rfl⟩;rcases get j t b with⟨h,e⟩ | ⟨h,e⟩;exact⟨t,e,m⟩;obtain⟨U,W,X⟩:=st.lt j t e m;exact⟨U,(B j U W).2,X⟩
end
noncomputable def zS(ow:List Nat)(g:DG)(t:DT)(e:DE):List D->Sg->Option (List D×Sg)
 | [],a=>some ([],a)
 | d :: r,a=>(g d a).bind λb=>(t b).bind λx=>if x.1=true then(e x.2).bind λy=>match y.1 with
     | .val d'=>(zS ow g t e r (bF ow y.2)).bind λz=>some (d'::z.1,z.2)
     | _=>none else zS ow g t e r (bF ow x.2)
noncomputable def lT:DT:=λσ=>some (true,σ)
noncomputable def fT(ow:List Nat)(ri:DI)(g:DG)(t:DT)(e:DE):DE:=λσ=>(ri σ).bind λx=>if x.1.length<=sizeLine then(zS ow g t e x.1 (bF ow (lendO x.2.1 x.2.2))).bind λy=>
 some (.own (.lst y.1),aN5 x.2.1 x.2.2 (lS ow (lendO x.2.1 x.2.2) y.2))else none
def wZ{Γ:Gm}{ow:List Nat}{ri:DI}{g:TG}{gd:DG}{t:DT}{e:DE}(hg:bI9 ow g gd){σV:St}{H:Hp}{Q:VK}(h:dTE Γ (fT ow ri gd t e) σV H Q) :
  aJ7 ow (dTI Γ ri) g (dTT Γ t) (dTE Γ e) σV H Q:=by
 obtain⟨σ,ok,res,σ',x,k⟩:=h;obtain⟨⟨items,l,c⟩,e1,x⟩:=bind_some x;dsimp only at x;split at x
 case isFalse=>cases x
 case isTrue hlen=>
 obtain⟨⟨all,τe⟩,e2,x⟩:=bind_some x;cases x;refine⟨σ,ok,items,l,c,e1,λJ I P K L B stay=>?_⟩;have bl:(blank ow σV).length=σV.length:=fA ow σV;have bo:∀ j,j∉ow->(blank ow σV)[j]? = σV[j]?:=λj r=>eF ow σV j r;have M:StOk Γ I (lendO l c) σV:=K.lendO;have okB:StOk Γ I (bF ow (lendO l c)) (blank ow σV):=M.blank bl bo;have hb:∀ (j:Nat) t,(bF ow (lendO l c))[j]? = some (some t)->j∉ow:=λj t ej=>(bH ow _ j t ej).1
 -- a step within,as a step of the q
 have q:∀ o d,StOk Γ d o (blank ow σV)->Step (bF ow (lendO l c)) (blank ow σV) I o (blank ow σV) d->StOk Γ d (lS ow (lendO l c) o) σV/\Step (lendO l c) σV I (lS ow (lendO l c) o) σV d:=
  λo d s u=>cC8 M s bo bl u
 refine⟨λi m ys d=>m=items.length-i/\i<=items.length/\∃ o don bK,zS ow gd t e (items.drop i) o=some (bK,τe)/\don++bK=all/\don.length<=i/\Rps d don ys/\StOk Γ d o (blank ow σV)/\Step (bF ow (lendO l c)) (blank ow σV) I o (blank ow σV) d,
  ⟨items.length,by simp,Nat.zero_le _,bF ow (lendO l c),[],all,by simpa using e2,rfl,a2d _,.nil,okB,.refl⟩,?_⟩
 rintro i m ys d ⟨rfl,hi,o,don,bK,f,n,hdl,X,s,u⟩;have hyl:=X.length;obtain⟨okw,N⟩:=q o d s u;have hP:=stay _ σV d N;refine⟨by lia,?_⟩;by_cases w:i < items.length
 ·have ei:items[i]? = some items[i]:=a0a w;refine .inr ⟨B.go d i _ hP ei,λy Y hy=>?_⟩;obtain⟨C,ry⟩:=B.yld d i _ y Y hP ei hy;rw[List.drop_eq_getElem_cons w]at f;obtain⟨O,eg,f⟩:=bind_some f;obtain⟨⟨b,D⟩,et,f⟩:=bind_some f;refine hg Γ Y _ _ _ o (blank ow σV) _ y O _ (s.same C) (u.trans (.same C)) ry eg λσV3 R S l3 Z=>?_;have z:Ext d Y:=.same C;refine⟨O,R,b,D,et,λH4 E F=>?_⟩;have A:Ext Y H4:=F.ext R;dsimp only at f;split at f;rename_i hbt;dsimp only;rw[a3p hbt];obtain⟨⟨r5,T⟩,ee,f⟩:=bind_some f;refine⟨D,E,r5,T,ee,λv H5 ok5 r5' U f5=>?_⟩;dsimp only at f;split at f;rename_i d';obtain⟨⟨G,τe'⟩,ec',f⟩:=bind_some f;cases f;refine⟨_,by lia,rfl,w,bF ow T,don++[d'],G,ec',by rw[← n];simp,by simp;lia,?_,ok5.blank (by rw[l3]) (λj r=>((Z j r).1).symm),Step.blank hb ((S.trans F).trans U) λj r=>((Z j r).1).symm⟩;exact((X.mono z).mono A |>.mono (U.ext E)).append (.cons r5' .nil);cases f;rename_i hbf;dsimp only;rw[a3q hbf];refine⟨_,by lia,rfl,w,bF ow D,don,bK,f,n,by lia,(X.mono z).mono A,E.blank (by rw[l3]) (λj r=>((Z j r).1).symm),Step.blank hb (S.trans F) λj r=>((Z j r).1).symm⟩
 ·have e0:i=items.length:=by lia
  subst e0;rw[List.drop_length]at f;cases f;rw[a4f]at n;subst n;refine .inl ⟨B.stop d hP,λp hp=>?_⟩;obtain⟨V,W⟩:=uY K okw N;have C:kJ d (upd d p (.lst ys)):=aX hp;have nw:wU d (upd d p (.lst ys)) (.own (.lst don)) (.ref p):=⟨p,rfl,hp,ys,aE,X.mono (.same C)⟩;exact k _ _ (V.same C) (nw.res V) ((L.trans W).trans (.same C)) (nw.frh.back (L.trans W))
def cC9{X:Cx}{ow:List Nat}{ex:Expr}{ri:DI}{g:TG}{a:DG}{t:DT}{e:DE}(b:bI9 ow g a)(h:∀ Γ,PE X ex (aJ7 ow (dTI Γ ri) g (dTT Γ t) (dTE Γ e))):GE X ex (fT ow ri a t e):=.mk λΓ=>peW (h Γ) λ_ _ _=>wZ b
def bJ2{X:Cx}{Γ:Gm}:bD5 X [] (dTT Γ lT):=λpins s σ H Q I ⟨a,ok,b,σ',e,k⟩=>pH pins s σ H Q I (by cases e;exact k H ok .refl)
def bJ3{X:Cx}{Γ:Gm}{c:Expr}{t:DT}(h:GT X c t):bD5 X [c] (dTT Γ t):=aC9 (h.to Γ)
def tF{X:Cx}{E:Ex}{ow:List Nat}{i:Nat}{st:Stmt}{ri:DI}{g:TG}{a:DG}{t:DT}{e:DE}(b:bI9 ow g a)(h:∀ Γ,PS X st (λD σ H=>aJ7 ow (dTI Γ ri) g (dTT Γ t) (dTE Γ e) σ H λv c=>D.nx (σ.set i (some v)) c)):GS E X st (cX i (fT ow ri a t e)):=.mk λΓ=>psW (h Γ) λD σV H h=>wZ b (aE6 h)
abbrev Run:=List Sl->Option (Res×List Sl)
structure ArgOk(H:Hp)(as:List Sl)(vs:List V):Prop where
 len:as.length=vs.length
 rel:∀ (i:Nat) s,as[i]? = some s->∃ v,vs[i]? = some v/\bI2 H s v
 dis:∀ (i j:Nat) s t p,i≠j->as[i]? = some s->as[j]? = some t->s.m.mt=true->t.m≠.val->vs[i]? = some (.ref p)->vs[j]? = some (.ref p)->False
 own:∀ (i:Nat) s,as[i]? = some s->s.m≠.own
def aU4(as:List Sl)(vs:List V)(a:Addr):Prop:=∃ (i:Nat) (s:Sl),as[i]? = some s/\s.m.mt=true/\vs[i]? = some (.ref a)
structure PostOk(as:List Sl)(vs:List V)(H:Hp)(as':List Sl)(H':Hp):Prop where
 rel:∀ (i:Nat) s,as[i]? = some s->s.m.mt=true->∃ s' v,as'[i]? = some s'/\s'.m=s.m/\vs[i]? = some v/\bI2 H' s' v
 fr:∀ a o,H a=some o->¬ aU4 as vs a->H' a=some o
 dom:∀ a,H' a=none->H a=none
def dsp(n:Nat)(run:Run):Sp:=λvs H Q _=>∃ as res as',ArgOk H as vs/\as.length=n/\run as=some (res,as')/\∀ v H',PostOk as vs H as' H'->wU H H' res v->Q v H'
noncomputable def aU5(σ:Sg):Res->Option Res
 | .val d=>some (.val d)
 | .own d=>some (.own d)
 | .slot i=>match σ[i]? with
   | some (some s)=>if s.m=.own then some (.own s.d)else if s.m=.val then some (.val s.d)else none
   | _=>none
noncomputable def nG:List Sl->Sg->List Sl
 | [],_=>[]
 | a::as,some s::σ=>(if a.m=.val then a else s)::nG as σ
 | a::as,_::σ=>a::nG as σ
 | a::as,[]=>a::as
noncomputable def ini(len:Nat)(as:List Sl):Sg:=as.map some++List.replicate (len-as.length) none
noncomputable def xA(len:Nat)(a:DS):Run:=λas=>(a (ini len as)).bind λo=>match o with
 | .nx σ=>some (.val .non,nG as σ)
 | .rt r σ=>(aU5 σ r).bind λb=>some (b,nG as σ)
 | _=>none
def dH{len:Nat}{as:List Sl}{i:Nat}{s:Sl}:(ini len as)[i]? = some (some s)↔as[i]? = some s:=by
 unfold ini;by_cases h:i < as.length;rw[a9f (by simpa using h),a4b];cases as[i]? <;> simp;rw[a7f (by simpa using h),List.getElem?_replicate,a7c.mpr (by lia)];split<;>simp
def cA{N:List Str}{vs:List V}{i:Nat}{v:V}:(L2.cT N vs)[i]? = some (some v)↔vs[i]? = some v:=by
 unfold L2.cT;by_cases h:i < vs.length;rw[a9f (by simpa using h),a4b];cases vs[i]? <;> simp;rw[a7f (by simpa using h),List.getElem?_replicate,a7c.mpr (by lia)];split<;>simp
theorem uZ:∀ {as:List Sl} {σ:Sg} {i:Nat} {a s:Sl},as[i]? = some a->σ[i]? = some (some s)->(nG as σ)[i]? = some (if a.m=.val then a else s)
 | [],_,_,_,_,h,_=>by simp at h
 | _::_,[],_,_,_,_,h=>by simp at h
 | a::as,o::σ,0,b,s,h,h'=>by
   simp at h h';subst h h';unfold nG;simp
 | a::as,o::σ,i+1,b,s,h,h'=>by
   have:=uZ (as:=as) (σ:=σ) (i:=i) (a:=b) (s:=s) (by simpa using h) (by simpa using h');cases o<;>(unfold nG;simpa using this)
section
variable{P:Program}{w:World}{K:W.Frag}{mg:Str->Option Value}{base:Heap}
abbrev MS:=Sg->(Out->Prop)->Prop
abbrev MC:=List Sl->(Res->List Sl->Prop)->Prop
def bD7(m:MS):Prop:=∀ σ (Q a:Out->Prop),(∀ o,Q o->a o)->m σ Q->m σ a
def mTS(Γ:Gm)(E:Ex)(m:MS):TS:=λD σV H=>∃ σ,StOk Γ H σ σV/\m σ λo=>aU0 Γ E σ σV H o D
structure GM(E:Ex)(X:Cx)(ss:List Stmt)(m:MS):Prop where
 to:∀ Γ,PSs X ss (mTS Γ E m)
 mon:bD7 m
def bJ4(n:Nat)(C:MC):Sp:=λvs H Q _=>∃ as,ArgOk H as vs/\as.length=n/\C as λres as'=>∀ v H',PostOk as vs H as' H'->wU H H' res v->Q v H'
def dN6(as:List Sl)(K:Res->List Sl->Prop)(o:Out):Prop:=match o with
 | .nx σ=>K (.val .non) (nG as σ)
 | .rt r σ=>∃ a,aU5 σ r=some a/\K a (nG as σ)
 | _=>False
def dF6(len:Nat)(m:MS):MC:=λas K=>m (ini len as) (dN6 as K)
def aU6{x qual:Str}{st:Stmt}{f:Addr}{fd:FuncData}{N ps:List Str}{k:Nat}(F:Fun K x qual st f fd)(S:FnScope N ps (aJ st))(T:ps.length<=N.length)(m:MS)(hm:bD7 m)
  (U:∀ (cdv:Value) (A:Around) (outer:List Env) (s:Shared) (H:Hp) (E:XK),Room k (A.deeper (PyProof.Rows.envOfC qual (aJ st) s.heap.objs.size f cdv))->∀ Γ,PSs (yR CX0 P w K mg base N qual (aJ st) f cdv A outer s H E).nox (iI st) (mTS Γ Ex.no m)) :
  FnOk P w K mg base CX0 (k+1) f fd ps (bJ4 ps.length (dF6 N.length m)):=by
 refine F.ok S (λvs H Q E Z1=>by obtain⟨as,ok,L,_⟩:=Z1;rw[← ok.len];exact L) λcdv A outer s H vs Q E V h=>?_;obtain⟨as,ok,L,h⟩:=h;refine⟨_,U cdv A outer s H E V ⟨H,aU4 as vs⟩,ini N.length as,?_,hm _ _ _ (λo k=>?_) h⟩;refine⟨λi s e=>?_,λi j s t p n u I m m' e W=>?_,λi s p u m=>?_,λi s p u m e=>?_,λa o e _=>e,λa e=>e,?_⟩;obtain⟨v,B,r⟩:=ok.rel i s (dH.mp e);exact⟨v,cA.mpr B,r⟩;exact ok.dis i j s t p n (dH.mp u) (dH.mp I) m m' (cA.mp e) (cA.mp W);exact absurd m (ok.own i s (dH.mp u));exact⟨i,s,dH.mp u,by rw[m];rfl,cA.mp e⟩;unfold ini L2.cT;have:=ok.len;simp;lia;have y:∀ σ σV' H',StOk ⟨H,aU4 as vs⟩ H' σ σV'->Step (ini N.length as) (L2.cT N vs) H σ σV' H'->PostOk as vs H (nG as σ) H':=λσ σV' H' b g=>by
  have X:∀ a,nE (ini N.length as) (L2.cT N vs) a->aU4 as vs a:=λa ⟨j,t,I,m,Y⟩=>⟨j,t,dH.mp I,m,cA.mp Y⟩;refine⟨λi a u m=>?_,λa o e n=>g.fr a o e λz=>n (X a z),g.dom⟩;have M:a.m=.par:=by
   have h0:=ok.own i a u;cases q:a.m with
   | par=>rfl
   | own=>exact absurd q h0
   | val=>rw[q]at m;cases m
   | lent=>rw[q]at m;cases m
  obtain⟨s',es,Z,_,D⟩:=g.fix i a (dH.mpr u) (.inl M);obtain⟨v,B,r⟩:=b.rel i s' es;obtain⟨v0,O,_⟩:=ok.rel i a u;have:some (some v)=some (some v0):=by rw[← B,D];exact cA.mpr O
  cases this;refine⟨s',v,?_,Z,O,r⟩;rw[uZ u es,a3q (by rw[M];exact λz=>nomatch z)]
 cases o with
 | nx σ=>
   exact λσV' H' b g=>k .non H' (y σ σV' H' b g) .non
 | rt r σ=>
   obtain⟨res,B,k⟩:=k;intro v σV' H' b J g;refine k v H' (y σ σV' H' b g) ?_;cases r with
   | val d=>cases B;exact J
   | own d=>
     cases B;obtain⟨p,G,C,q3,q4⟩:=J;exact⟨p,G,q4,C⟩
   | slot i=>
     obtain⟨G,s',C⟩:=J;have l:(match σ[i]? with | some (some s)=>if s.m=.own then some (Res.own s.d)else if s.m=.val then some (.val s.d)else none | _=>none)=some res:=B;rw[C]at l;dsimp only at l;obtain⟨v',D,R⟩:=b.rel i s' C;rw[G]at D;cases D;split at l
     ·rename_i hm;cases l;obtain⟨p,rfl,ow⟩:=(cC (by rw[hm];exact λz=>nomatch z)).mp R;exact⟨p,rfl,b.own i s' p C hm G,ow⟩
     ·split at l;rename_i hm;cases l;obtain⟨m,d⟩:=s';cases hm;exact R;cases l
 | bk σ=>exact k.elim
 | ct σ=>exact k.elim
 | ex c f σ=>exact k.elim
def dI{x qual:Str}{st:Stmt}{f:Addr}{fd:FuncData}{N ps:List Str}{k:Nat}(F:Fun K x qual st f fd)(S:FnScope N ps (aJ st))(d:ps.length<=N.length)(b:DS)
  (g:∀ (cdv:Value) (A:Around) (outer:List Env) (s:Shared) (H:Hp) (E:XK),Room k (A.deeper (PyProof.Rows.envOfC qual (aJ st) s.heap.objs.size f cdv))->GSs Ex.no (yR CX0 P w K mg base N qual (aJ st) f cdv A outer s H E).nox (iI st) b) :
  FnOk P w K mg base CX0 (k+1) f fd ps (dsp ps.length (xA N.length b)):=
 (aU6 F S d (λσ Q=>∃ o,b σ=some o/\Q o) (λσ Q m w ⟨o,e,q⟩=>⟨o,e,w o q⟩) λcdv A outer s H E h Γ=>cU2 ((g cdv A outer s H E h).to Γ) λD σV H ⟨σ,ok,o,e,q⟩=>⟨σ,ok,o,e,q⟩).imp
  λvs H Q E ⟨as,res,as',ok,i,a,k⟩=>by
   obtain⟨o,j,a⟩:=bind_some a;refine⟨as,ok,i,o,j,?_⟩;cases o with
   | nx σ=>cases a;exact k
   | rt r σ=>
     obtain⟨n,l,a⟩:=bind_some a;cases a;exact⟨_,l,k⟩
   | bk σ=>cases a
   | ct σ=>cases a
   | ex c f σ=>cases a
end
noncomputable def zT(σ:Sg):Res->Option Sl
 | .val d=>some ⟨.val,d⟩
 | .own d=>some ⟨.par,d⟩
 | .slot i=>match σ[i]? with
   | some (some s)=>some ⟨if s.m.mt=true then .par else s.m,s.d⟩
   | _=>none
noncomputable def qJ(σ:Sg):List Res->Option (List Sl)
 | []=>some []
 | r::rs=>(zT σ r).bind λa=>(qJ σ rs).bind λas=>some (a::as)
noncomputable def aE8(i:Nat):List Res->Bool
 | []=>false
 | .slot j::rs=>decide (i=j)||aE8 i rs
 | _::rs=>aE8 i rs
noncomputable def cM:List Res->Bool
 | []=>true
 | .slot i::rs=>!aE8 i rs&&cM rs
 | _::rs=>cM rs
noncomputable def iU(j:Nat):List Res->List Sl->Option Sl
 | .slot i::rs,a::as=>if i=j then some a else iU j rs as
 | _::rs,_::as=>iU j rs as
 | _,_=>none
noncomputable def gT(rs:List Res)(as:List Sl):Nat->Sg->Sg
 | _,[]=>[]
 | k,some s::σ=>(match iU k rs as with
   | some a=>some (if s.m.mt=true then⟨s.m,a.d⟩else s)
   | none=>some s)::gT rs as (k+1) σ
 | k,none::σ=>none::gT rs as (k+1) σ
noncomputable def aT(n:Nat)(run:Run)(a:DA):DE:=λσ=>(a σ).bind λx=>(qJ x.2 x.1).bind λas=>if as.length=n/\cM x.1=true then(run as).bind λy=>some (y.1,gT x.1 y.2 0 x.2)else none
theorem tG{σ:Sg}:∀ {rs:List Res} {as:List Sl},qJ σ rs=some as->as.length=rs.length/\∀ (k:Nat) r,rs[k]? = some r->∃ a,as[k]? = some a/\zT σ r=some a
 | [],as,h=>by cases h;exact⟨rfl,λk r e=>by simp at e⟩
 | r::rs,as,h=>by
   obtain⟨a,b,h⟩:=bind_some h;obtain⟨as',c,h⟩:=bind_some h;cases h;obtain⟨l,g⟩:=tG c;refine⟨by simp[l],λk d e=>?_⟩;cases k with
   | zero=>simp at e;subst e;exact⟨a,rfl,b⟩
   | succ k=>
     obtain⟨f,i,j⟩:=g k d (by simpa using e);exact⟨f,by simpa using i,j⟩
theorem ResOks.get{Γ:Gm}{H:Hp}{σ:Sg}{σV:St}:∀ {rs:List Res} {vs:List V},ResOks Γ H σ σV rs vs->rs.length=vs.length/\∀ (k:Nat) r,rs[k]? = some r->∃ v,vs[k]? = some v/\iD Γ H σ σV r v
 | _,_,.nil=>⟨rfl,λk r e=>by simp at e⟩
 | _,_,.cons h t _=>by
   obtain⟨l,g⟩:=ResOks.get t;refine⟨by simp[l],λk a e=>?_⟩;cases k with
   | zero=>simp at e;subst e;exact⟨_,rfl,h⟩
   | succ k=>
     obtain⟨b,c,d⟩:=g k a (by simpa using e);exact⟨b,by simpa using c,d⟩
theorem ResOks.dis{Γ:Gm}{H:Hp}{σ:Sg}{σV:St}:∀ {rs:List Res} {vs:List V},ResOks Γ H σ σV rs vs->∀ (k l:Nat) d d' p,k < l->rs[k]? = some (.own d)->rs[l]? = some (.own d')->vs[k]? = some (.ref p)->vs[l]? ≠ some (.ref p)
 | _,_,.nil,k,l,d,d',p,_,e,_,_=>by simp at e
 | _,_,.cons h t q,k,l,d,d',p,b,e,a,ev=>by
   cases l with
   | zero=>lia
   | succ l=>
     cases k with
     | zero=>
       simp at e ev;subst e ev;intro z;exact q d p rfl rfl l d' (by simpa using a) (by simpa using z)
     | succ k=>
       intro z;exact ResOks.dis t k l d d' p (by lia) (by simpa using e) (by simpa using a) (by simpa using ev) (by simpa using z)
theorem pO{i:Nat}:∀ {rs:List Res} {k:Nat},rs[k]? = some (.slot i)->aE8 i rs=true
 | [],_,h=>by simp at h
 | r::rs,0,h=>by simp at h;subst h;simp[aE8]
 | r::rs,k+1,h=>by
   have:=pO (rs:=rs) (k:=k) (by simpa using h);cases r<;>simp[aE8,this]
theorem nJ:∀ {rs:List Res},cM rs=true->∀ (k l i:Nat),rs[k]? = some (.slot i)->rs[l]? = some (.slot i)->k=l
 | [],_,k,l,i,h,_=>by simp at h
 | r::rs,hn,k,l,i,h,h'=>by
   cases k with
   | zero=>
     cases l with
     | zero=>rfl
     | succ l=>
       simp at h;subst h;unfold cM at hn;rw[a5d]at hn;rw[pO (k:=l) (by simpa using h')]at hn;simp at hn
   | succ k=>
     cases l with
     | zero=>
       simp at h';subst h';unfold cM at hn;rw[a5d]at hn;rw[pO (k:=k) (by simpa using h)]at hn;simp at hn
     | succ l=>
       have a:cM rs=true:=by
        cases r with
        | slot j=>unfold cM at hn;rw[a5d]at hn;exact hn.2
        | val d=>exact hn
        | own d=>exact hn
       exact a3H Nat.succ (nJ a k l i (by simpa using h) (by simpa using h'))
theorem eW{j:Nat}:∀ {rs:List Res} {as:List Sl} {a:Sl},iU j rs as=some a->∃ k:Nat,rs[k]? = some (.slot j)/\as[k]? = some a
 | [],_,_,h=>by simp[iU]at h
 | r::rs,[],_,h=>by cases r<;>simp[iU]at h
 | r::rs,a::as,b,h=>by
   cases r with
   | slot i=>
     have h':(if i=j then some a else iU j rs as)=some b:=h;split at h';rename_i e;cases h';subst e;exact⟨0,rfl,rfl⟩
     ·obtain⟨k,c,f⟩:=eW h';exact⟨k+1,by simpa using c,by simpa using f⟩
   | val d=>obtain⟨k,c,f⟩:=eW (rs:=rs) (as:=as) h;exact⟨k+1,by simpa using c,by simpa using f⟩
   | own d=>obtain⟨k,c,f⟩:=eW (rs:=rs) (as:=as) h;exact⟨k+1,by simpa using c,by simpa using f⟩
noncomputable def lU(rs:List Res)(as:List Sl)(k:Nat)(o:Option Sl):Option Sl:=match o with
 | some s=>(match iU k rs as with
   | some a=>some (if s.m.mt=true then⟨s.m,a.d⟩else s)
   | none=>some s)
 | none=>none
theorem iV{rs:List Res}{as:List Sl}:∀ (k:Nat) (σ:Sg) (j:Nat),(gT rs as k σ)[j]? = (σ[j]?).map (lU rs as (k+j))
 | _,[],_=>by simp[gT]
 | k,o::σ,0=>by cases o<;>simp[gT,lU]
 | k,o::σ,j+1=>by
   have:=iV (rs:=rs) (as:=as) (k+1) σ j;have e:k+1+j=k+(j+1):=by lia
   rw[e]at this;cases o<;>simpa[gT]using this
theorem oE{rs:List Res}{as:List Sl}:∀ (k:Nat) (σ:Sg),(gT rs as k σ).length=σ.length
 | _,[]=>rfl
 | k,o::σ=>by cases o<;>simp[gT,oE (k+1) σ]
def xB{Γ:Gm}{σ σ1:Sg}{rs:List Res}{as:List Sl}{σV:St}{H Y:Hp}{vs:List V}(e2:qJ σ1 rs=some as)(hc:cM rs=true)(g:StOk Γ Y σ1 σV)(r1:ResOks Γ Y σ1 σV rs vs)(B:Step σ σV H σ1 σV Y)
  (f1:∀ (j:Nat) d p,rs[j]? = some (.own d)->vs[j]? = some (.ref p)->H p=none) :
  ArgOk Y as vs/\∀ r as' v Z,PostOk as vs Y as' Z->wU Y Z r v->StOk Γ Z (gT rs as' 0 σ1) σV/\iD Γ Z (gT rs as' 0 σ1) σV r v/\Step σ σV H (gT rs as' 0 σ1) σV Z/\Frh H r v:=by
 obtain⟨la,ga⟩:=tG e2;obtain⟨lv,gv⟩:=r1.get;have N:∀ (i:Nat) a,as[i]? = some a->∃ r v,rs[i]? = some r/\zT σ1 r=some a/\vs[i]? = some v/\iD Γ Y σ1 σV r v:=λi a w=>by
  have hi:i < rs.length:=by rw[← la];exact(a3a.mp w).1
  have O:rs[i]? = some rs[i]:=a0a hi;obtain⟨a',P,h2⟩:=ga i _ O;rw[w]at P;cases P;obtain⟨v,h3,h4⟩:=gv i _ O;exact⟨_,v,O,h2,h3,h4⟩
 have c:∀ i a,zT σ1 (.slot i)=some a->∃ s,σ1[i]? = some (some s)/\a=⟨if s.m.mt=true then .par else s.m,s.d⟩:=λi a w=>by
  have W:(match σ1[i]? with | some (some s)=>some (⟨if s.m.mt=true then .par else s.m,s.d⟩:Sl) | _=>none)=some a:=w;split at W
  ·rename_i s hs;cases W;exact⟨s,hs,rfl⟩
  ·cases W
 -- an argument that may change: new,or owned here
 have J:∀ a,aU4 as vs a->nE σ1 σV a\/(H a=none/\¬ bD6 σ1 σV a/\Γ.H₀ a=none):=λa ⟨i,s,Q,m,E⟩=>by
  obtain⟨r,v,O,w,C,K⟩:=N i s Q;rw[E]at C;cases C;cases r with
  | val d=>cases w;cases m
  | own d=>
    obtain⟨p,A,R,X,q4⟩:=K;cases A;exact .inr ⟨f1 i d a O E,X,q4⟩
  | slot j=>
    obtain⟨s',hs,rfl⟩:=c j s w;obtain⟨A,_⟩:=K;refine .inl ⟨j,s',hs,?_,A⟩;by_cases hm:s'.m.mt=true;exact hm;simp only[hm]at m;exact absurd m hm
 have G:ArgOk Y as vs:=by
  refine⟨by rw[la,lv],λi a Q=>?_,λi j s t p nij Q f m m' E C=>?_,λi a Q=>?_⟩
  ·obtain⟨r,v,O,w,E,K⟩:=N i a Q;refine⟨v,E,?_⟩;cases r with
   | val d=>cases w;exact K
   | own d=>cases w;obtain⟨p,A,R,_⟩:=K;exact⟨p,A,R⟩
   | slot j=>
     obtain⟨s',hs,rfl⟩:=c j a w;obtain⟨A,_⟩:=K;obtain⟨v',e4,r4⟩:=g.rel j s' hs;rw[A]at e4;cases e4;by_cases hm:s'.m.mt=true;simp only[hm,if_true];exact(cC (s:=⟨.par,s'.d⟩) (λz=>nomatch z)).mpr ((cC (fY hm)).mp r4);simp only[hm];exact r4
  ·obtain⟨r,v,O,w,S,K⟩:=N i s Q;obtain⟨r2,v2,er2,ea2,ev2,rv2⟩:=N j t f;rw[E]at S;cases S;rw[C]at ev2;cases ev2;have D:∀ l a,zT σ1 (.slot l)=some a->a.m≠.val->∃ s,σ1[l]? = some (some s)/\s.m≠.val/\(a.m.mt=true->s.m.mt=true):=λl a w hm=>by
    obtain⟨s',hs,rfl⟩:=c l a w;refine⟨s',hs,?_,?_⟩;intro z;simp only[z,Md.mt]at hm;exact hm rfl;intro z;by_cases T:s'.m.mt=true;exact T;simp only[T]at z;exact z
   cases r with
   | val d=>cases w;cases m
   | own d=>
     obtain⟨q,A,R,X,q4⟩:=K;cases A;cases r2 with
     | val d=>cases ea2;exact m' rfl
     | own d2=>
       rcases Nat.lt_or_gt_of_ne nij with z | z;exact r1.dis i j d d2 p z O er2 E C
       ·exact r1.dis j i d2 d p z er2 O C E
     | slot l=>
       obtain⟨s',hs,T,_⟩:=D l t ea2 m';exact X ⟨l,s',hs,T,rv2.1⟩
   | slot l=>
     obtain⟨s',hs,T,hmt⟩:=D l s w (fY m);cases r2 with
     | val d=>cases ea2;exact m' rfl
     | own d2=>
       obtain⟨q,A,R,X,q4⟩:=rv2;cases A;exact X ⟨l,s',hs,T,K.1⟩
     | slot l2=>
       obtain⟨s2,hs2,hm2,_⟩:=D l2 t ea2 m';refine g.dis l l2 s' s2 p (λz=>?_) hs hs2 (hmt m) hm2 K.1 rv2.1;subst z;exact nij (nJ hc i j l O er2)
  ·obtain⟨r,v,O,w,S,K⟩:=N i a Q;cases r with
   | val d=>cases w;exact λz=>nomatch z
   | own d=>cases w;exact λz=>nomatch z
   | slot j=>
     obtain⟨s',hs,rfl⟩:=c j a w;intro z;by_cases hm:s'.m.mt=true;simp only[hm,if_true]at z;cases z;simp only[hm]at z;have z':s'.m=.own:=z;rw[z']at hm;exact hm rfl
 refine⟨G,λr as' v Z po nw=>?_⟩;have extA:Ext Y Z:=by
  refine⟨λp xs h=>po.fr p _ h λz=>?_,λp o u h=>po.fr p _ h λz=>?_⟩;obtain⟨i,s,Q,m,E⟩:=z;obtain⟨v,e4,r4⟩:=G.rel i s Q;rw[E]at e4;cases e4;obtain⟨q,eq,ow⟩:=(cC (fY m)).mp r4;cases eq;obtain⟨o,ho,n1,_⟩:=ow.obj;rw[h]at ho;cases ho;exact n1 _ rfl;obtain⟨i,s,Q,m,E⟩:=z;obtain⟨v,e4,r4⟩:=G.rel i s Q;rw[E]at e4;cases e4;obtain⟨q,eq,ow⟩:=(cC (fY m)).mp r4;cases eq;obtain⟨o',ho,_,n1⟩:=ow.obj;rw[h]at ho;cases ho;exact n1 _ _ rfl
 have back:∀ (j:Nat) t,(gT rs as' 0 σ1)[j]? = some (some t)->∃ s,σ1[j]? = some (some s)/\t.m=s.m/\(t=s\/(s.m.mt=true/\∃ (k:Nat) (a:Sl),rs[k]? = some (.slot j)/\as'[k]? = some a/\t=⟨s.m,a.d⟩)):=λj t f=>by
  rw[iV,a3g]at f;cases q:σ1[j]? with
  | none=>rw[q]at f;cases f
  | some o=>
    rw[q]at f;cases o with
    | none=>cases f
    | some s=>
      have x:lU rs as' j (some s)=some t:=a5a f;unfold lU at x;refine⟨s,rfl,?_⟩;dsimp only at x;split at x;rename_i a ha;obtain⟨U,P,h2⟩:=eW ha;have L:=a5a x;by_cases hm:s.m.mt=true;rw[a3p hm]at L;subst L;exact⟨rfl,.inr ⟨hm,U,a,P,h2,rfl⟩⟩;rw[a3q hm]at L;subst L;exact⟨rfl,.inl rfl⟩;cases x;exact⟨rfl,.inl rfl⟩
 have fwd:∀ (j:Nat) s,σ1[j]? = some (some s)->∃ t,(gT rs as' 0 σ1)[j]? = some (some t)/\t.m=s.m/\(s.m.mt=false->t=s):=λj s f=>by
  rw[iV,a3g,f];show ∃ t,some (lU rs as' j (some s))=some (some t)/\_;unfold lU;dsimp only;split;refine⟨_,rfl,?_,λz=>?_⟩;split<;>rfl;rw[a3q (by rw[z];exact a1b)];exact⟨s,rfl,rfl,λ_=>rfl⟩
 -- a slot that is handed in by no argument that may change
 have quiet:∀ (j:Nat) s t p,σ1[j]? = some (some s)->(gT rs as' 0 σ1)[j]? = some (some t)->t=s->s.m≠.val->σV[j]? = some (some (.ref p))->(∀ k:Nat,s.m.mt=true->rs[k]? ≠ some (.slot j))->¬ aU4 as vs p:=by
  intro j s t p hs _ _ hm E hno ⟨i,a,Q,m,evi⟩;obtain⟨r,v,O,w,S,K⟩:=N i a Q;rw[evi]at S;cases S;cases r with
  | val d=>cases w;cases m
  | own d=>
    obtain⟨q,A,R,X,q4⟩:=K;cases A;exact X ⟨j,s,hs,hm,E⟩
  | slot l=>
    obtain⟨s',F,rfl⟩:=c l a w;have hmt:s'.m.mt=true:=by
     by_cases h':s'.m.mt=true;exact h';simp only[h']at m;exact absurd m h'
    by_cases z:l=j;subst z;rw[hs]at F;cases F;exact hno i hmt O;exact g.dis l j s' s p z F hs hmt hm K.1 E
 have okB:StOk Γ Z (gT rs as' 0 σ1) σV:=by
  refine⟨λj t f=>?_,λj l t t' q n f el m m' eq eq'=>?_,λj t q f m eq=>?_,λj t q f m eq=>?_,λa o e n=>?_,λa e=>g.dom a (po.dom a e),by rw[oE];exact g.len⟩
  ·obtain⟨s,hs,M,hc'⟩:=back j t f;obtain⟨w',ew,rw'⟩:=g.rel j s hs;refine⟨w',ew,?_⟩;by_cases I:s.m.mt=true/\∃ U:Nat,rs[U]? = some (.slot j)
   ·obtain⟨hm,U,hk'⟩:=I;obtain⟨a,ha,hao⟩:=ga U _ hk';obtain⟨v',hv',rv'⟩:=gv U _ hk';have C:σV[j]? = some (some v'):=rv'.1;rw[ew]at C;cases C;obtain⟨s',F,W⟩:=c j a hao;rw[hs]at F;cases F;have am:a.m=.par:=by rw[W,a3p hm]
    obtain⟨a2,w2,P,h2,h3,h4⟩:=po.rel U a ha (by rw[am];rfl);rw[hv']at h3;cases h3;have ht:t=⟨s.m,a2.d⟩:=by
     rw[iV,a3g,hs]at f;have x:lU rs as' j (some s)=some t:=a5a f;unfold lU at x;dsimp only at x;split at x;rename_i b hb;obtain⟨k2,A,R⟩:=eW hb;obtain rfl:=nJ hc k2 U j A hk';rw[P]at R;cases R;have:=a5a x;rw[a3p hm]at this;exact this.symm;rename_i hb
     -- no argument at all: the lists part in length
     exfalso;have:∀ {rs:List Res} {as:List Sl} {kk:Nat} {a:Sl},rs[kk]? = some (.slot j)->as[kk]? = some a->iU j rs as≠none:=by
      intro rs
      induction rs with
      | nil=>intro as kk a h;simp at h
      | cons r rs ih=>
        intro as kk a h h';cases as with
        | nil=>simp at h'
        | cons b as=>
          cases kk with
          | zero=>simp at h;subst h;simp[iU]
          | succ kk=>
            have:=ih (as:=as) (kk:=kk) (a:=a) (by simpa using h) (by simpa using h');cases r with
            | slot i=>simp only[iU];split;exact λz=>nomatch z;exact this
            | val d=>exact this
            | own d=>exact this
     exact this hk' P hb
    subst ht;have h5:=(cC (s:=a2) (by rw[h2,am];exact λz=>nomatch z)).mp h4;exact(cC (s:=⟨s.m,a2.d⟩) (fY hm)).mpr h5
   ·have ht:t=s:=by
     rcases hc' with h | ⟨hm,U,a,P,_⟩;exact h;exact absurd ⟨hm,U,P⟩ I
    rw[ht];refine rw'.mono extA λp o ep m hp=>po.fr p o hp ?_;exact quiet j s t p hs f ht m (by rw[ew,ep]) λU hm hk=>I ⟨hm,U,hk⟩
  ·obtain⟨s,hs,M,_⟩:=back j t f;obtain⟨s',F,mm',_⟩:=back l t' el;exact g.dis j l s s' q n hs F (by rw[← M];exact m) (by rw[← mm'];exact m') eq eq'
  ·obtain⟨s,hs,M,_⟩:=back j t f;exact g.own j s q hs (M.symm.trans m) eq
  ·obtain⟨s,hs,M,_⟩:=back j t f;exact g.par j s q hs (M.symm.trans m) eq
  ·refine po.fr a o (g.keep a o e n) λz=>?_;rcases J a z with⟨j,s,hs,m,E⟩ | ⟨_,_,z0⟩
   ·cases hq:s.m with
    | own=>rw[g.own j s a hs hq E]at e;cases e
    | par=>exact n (g.par j s a hs hq E)
    | val=>rw[hq]at m;cases m
    | lent=>rw[hq]at m;cases m
   ·rw[z0]at e;cases e
 have stB:Step σ σV H (gT rs as' 0 σ1) σV Z:=by
  refine⟨λa o e n=>?_,λa e=>B.dom a (po.dom a e),λa ⟨j,t,f,m,w⟩=>?_,λa ⟨j,t,f,m,w⟩=>?_,λj t f=>?_,λj t f m=>?_,λj t f m=>?_⟩
  ·refine po.fr a o (B.fr a o e n) λz=>?_;rcases J a z with y | ⟨y,_⟩;rcases B.mu a y with y | y;exact n y;rw[e]at y;cases y;rw[e]at y;cases y
  ·obtain⟨s,hs,M,_⟩:=back j t f;exact B.mu a ⟨j,s,hs,by rw[← M];exact m,w⟩
  ·obtain⟨s,hs,M,_⟩:=back j t f;exact B.nv a ⟨j,s,hs,by rw[← M];exact m,w⟩
  ·obtain⟨s,hs⟩:=B.kp j t f;obtain⟨t',P,_⟩:=fwd j s hs;exact⟨t',P⟩
  ·obtain⟨s,hs,A,R,X⟩:=B.fix j t f m;obtain⟨t',P,h2,h3⟩:=fwd j s hs;refine⟨t',P,h2.trans A,λz=>?_,X⟩;rw[h3 (by rw[A,z];rfl)];exact R z
  ·obtain⟨s,hs,M,_⟩:=back j t f;exact B.lt j s hs (M.symm.trans m)
 refine⟨okB,?_,stB,nw.frh.back B⟩;cases r with
 | val d=>exact nw
 | own d=>
   obtain⟨p,A,R,X⟩:=nw;refine⟨p,A,X,λZ0=>?_,g.dom p R⟩;obtain⟨j,t,f,m,w⟩:=Z0;obtain⟨s,hs,M,_⟩:=back j t f;obtain⟨o,ho,_⟩:=g.mutObj ⟨j,s,hs,by rw[← M];exact m,w⟩;rw[R]at ho;cases ho
 | slot i=>exact nw.elim
def aU7{Γ:Gm}{n:Nat}{run:Run}{g:DA}{E:XK}{σV:St}{H:Hp}{Q:VK}(h:dTE Γ (aT n run g) σV H Q):aJ1 (dsp n run) [] E (dTA Γ g) σV H Q:=by
 obtain⟨σ,ok,res,σ',e,k⟩:=h;obtain⟨⟨rs,a⟩,l,e⟩:=bind_some e;obtain⟨as,i,e⟩:=bind_some e;dsimp only at e;split at e
 case isFalse=>cases e
 case isTrue b=>
 obtain⟨⟨r,as'⟩,m,e⟩:=bind_some e;cases e;dsimp only at i b k;refine⟨σ,ok,rs,a,l,λvs o d p f q=>?_⟩;show dsp n run (vs++[]) o Q E;rw[a4f];obtain⟨s,c⟩:=xB i b.2 d p f q;refine⟨as,r,as',s,b.1,m,λv j po t=>?_⟩;obtain⟨u,w,x,y⟩:=c r as' v j po t;exact k v j u w x y
def dX{X:Cx}{e:Expr}{n:Nat}{run:Run}{a:DA}{E:XK}(h:∀ Γ,PE X e (aJ1 (dsp n run) [] E (dTA Γ a))):GE X e (aT n run a):=.mk λΓ=>peW (h Γ) λ_ _ _=>aU7
section
variable{X:Cx}
def sG(i j:Int):Prop:=bE4 i j\/(Builtin.Int.intBits i<=2 ^ 20/\Builtin.Int.intBits j<=2 ^ 20)
theorem sG.ok{i j:Int}(h:sG i j):IntMulOk i j:=by
 rcases h with h | h;exact h.ok;exact IntMulOk.of_bits h.1 h.2
def cD0:OpR X (binaryOp .Mult) (rI sG λi j=>.int (i*j)):=opI λ_ _ _ _ _ _ _ a q=>PyProof.Rows.mul_int q a.ok
end
noncomputable section
open Classical
noncomputable def ii(f:Int->Int->D):F2:=λd e=>match d,e with
 | .int i,.int j=>some (.val (f i j))
 | _,_=>none
noncomputable def iiC(C:Int->Int->Prop)(f:Int->Int->D):F2:=λd e=>match d,e with
 | .int i,.int j=>if C i j then some (.val (f i j))else none
 | _,_=>none
noncomputable def iu(f:Int->D):F1:=λd=>match d with
 | .int i=>some (.val (f i))
 | _=>none
end
def aE9{g:Int->Int->V}{f:Int->Int->D}(h:∀ H i j,Rp H (f i j) (g i j)):oX (rI0 g) (ii f):=by
 intro H c d x y Q res a b e k;unfold ii at e;split at e;cases e;obtain rfl:=bQ a;obtain rfl:=bQ b;exact⟨_,_,rfl,rfl,k _ H (.refl _) (h H _ _)⟩;cases e
def zU{C:Int->Int->Prop}{g:Int->Int->V}{f:Int->Int->D}(h:∀ H i j,Rp H (f i j) (g i j)):oX (rI C g) (iiC C f):=by
 intro H d l x y Q res a b e k;unfold iiC at e;split at e;split at e;rename_i c;cases e;obtain rfl:=bQ a;obtain rfl:=bQ b;exact⟨_,_,rfl,rfl,c,k _ H (.refl _) (h H _ _)⟩;cases e;cases e
def cW7{g:Int->V}{f:Int->D}(h:∀ H i,Rp H (f i) (g i)):cM1 (rU g) (iu f):=by
 intro H d x Q res a e k;unfold iu at e;split at e;cases e;obtain rfl:=bQ a;exact⟨_,rfl,k _ H (.refl _) (h H _)⟩;cases e
noncomputable def cD1:F2:=ii λi j=>.int (i-j)
noncomputable def aK9:F2:=iiC (λ_ j=>0 < j) λi j=>.int (i % j)
noncomputable def cW8:F2:=iiC cL8 λi j=>.int (i ^ j.toNat)
noncomputable def leI:F2:=ii λi j=>.bl (decide (i<=j))
noncomputable def gtI:F2:=ii λi j=>.bl (decide (j < i))
noncomputable def geI:F2:=ii λi j=>.bl (decide (j<=i))
noncomputable def dF7:F1:=iu λi=>.int (-i)
def cD2:oX (rI0 λi j=>.int (i-j)) cD1:=aE9 λ_ _ _=>.int _
def cD3:oX (rI (λ_ j=>0 < j) λi j=>.int (i % j)) aK9:=zU λ_ _ _=>.int _
def cD4:oX (rI cL8 λi j=>.int (i ^ j.toNat)) cW8:=zU λ_ _ _=>.int _
def aU8:oX (rI0 λi j=>.bl (decide (i<=j))) leI:=aE9 λ_ _ _=>.bl _
def aU9:oX (rI0 λi j=>.bl (decide (j < i))) gtI:=aE9 λ_ _ _=>.bl _
def aV0:oX (rI0 λi j=>.bl (decide (j<=i))) geI:=aE9 λ_ _ _=>.bl _
def cD5:cM1 (rU λi=>.int (-i)) dF7:=cW7 λ_ _=>.int _
section
variable{X:Cx}{pins:List (Addr×Obj)}{σ:St}{H:Hp}{s:Shared}{l:Addr}{xs:List V}
def vA(I:Inv X pins σ H s)(h:dQ H l=some (true,xs)):xs.length<=sizeLine/\∃ (its:List Value) (n:Nat),bG xs its/\xs.length=its.length/\s.heap.get? l=some {cls:=.type "list",data:=.seq its.toArray n}:=by
 unfold dQ at h;split at h;rename_i e;cases h;exact I.lstM e;cases h;rename_i o ys e;cases h;obtain⟨_,z,its,n,r,e⟩:=I.hok l _ e;exact⟨z,its,n,r,r.length,e⟩;cases h
end
def cW9:R2:=λx y H Q=>∃ l b xs zs,x=.ref l/\y=.ref b/\dQ H l=some (true,xs)/\dQ H b=some (true,zs)/\xs.length+zs.length<=sizeLine/\∀ p,H p=none->Q (.ref p) (upd H p (.lst (xs++zs)))
def cD6{X:Cx}:OpR X (binaryOp .Add) cW9:=by
 intro pins s σ H x y v u Q I rx c h;obtain⟨l,b,xs,m,rfl,rfl,d,f,o,q⟩:=h;cases rx;cases c;obtain⟨z,its,n,r,p,e⟩:=vA I d;obtain⟨t,a,n2,g,i,j⟩:=vA I f;refine PySem.P.add_list e j ?_ (by rw[a9a,a9a];lia);have k:its.toArray++a.toArray=(its++a).toArray:=by simp
 rw[k];exact⟨.ref _,_,I.lnew (t':=s.toks) (r.append g) (by rw[a6b];lia),rfl,q _ I.fresh⟩
def cX0:R2:=λx y H Q=>bG8 x y H Q\/cW9 x y H Q
def cD7{X:Cx}:OpR X (binaryOp .Add) cX0:=fW.or cD6
noncomputable def dY:F2:=λd e=>match d,e with
 | .int i,.int j=>some (.val (.int (i+j)))
 | .str a,.str b=>if a.length+b.length<=sizeLine then some (.val (.str (a++b)))else none
 | .lst l,.lst m=>if l.length+m.length<=sizeLine then some (.own (.lst (l++m)))else none
 | .tup l,.tup m=>if l.length+m.length<=sizeLine then some (.val (.tup (l++m)))else none
 | _,_=>none
def aV1{H:Hp}{p:Addr}{xs:List V}{l:List D}(a:H p=none)(r:Rps H l xs):wU H (upd H p (.lst xs)) (.own (.lst l)) (.ref p):=⟨p,rfl,a,xs,aE,r.mono (.same (aX a))⟩
def vB{H:Hp}{p:Addr}{xs:List V}{l:List D}(a:H p=none)(r:Rps H l xs):wU H (upd H p (.tup xs)) (.val (.tup l)) (.ref p):=.tup aE (r.mono (.same (aX a)))
def cD8:oX cX0 dY:=by
 intro H t u x y Q res d f e k;unfold dY at e;split at e;cases e;obtain rfl:=bQ d;obtain rfl:=bQ f;exact .inl (k _ H (.refl _) (.int _));split at e;rename_i i;cases e;obtain rfl:=iS d;obtain rfl:=iS f;exact .inl ⟨i,k _ H (.refl _) (.str _)⟩;cases e;split at e;rename_i l m i;cases e;obtain⟨p,xs,rfl,g,a⟩:=fX d;obtain⟨q,ys,rfl,h,b⟩:=fX f;have:=a.length;have:=b.length;exact .inr ⟨p,q,xs,ys,rfl,rfl,g,h,by lia,λr c=>k _ _ (aX c) (aV1 c (a.append b))⟩;cases e
 ·split at e;rename_i l m i;cases e;obtain⟨p,xs,rfl,g,a⟩:=eD d;obtain⟨q,ys,rfl,h,b⟩:=eD f;have o:=a.length;have s:=b.length;refine .inl (.inr ⟨xs,ys,bA g,bA h,by lia,λj=>?_,λj n=>?_,λj n r c=>k _ _ (aX c) (vB c (a.append b))⟩);subst j;have:l=[]:=a9e o;subst this;exact k _ H (.refl _) (.tup h b);subst n;have:m=[]:=a9e s;subst this;rw[a4f]at k;exact k _ H (.refl _) (.tup g a);cases e
 ·cases e
noncomputable section
open Classical
noncomputable def xC:F2:=λd e=>match d,e with
 | .int i,.int j=>if sG i j then some (.val (.int (i*j)))else none
 | .str z,.int i=>if z.length<=1000/\0<=i/\i<=1000 then some (.val (.str (Txt.mul z i)))else none
 | _,_=>none
end
def cD9:R2:=λx y H Q=>rI sG (λi j=>.int (i*j)) x y H Q\/bG5 x y H Q
def aV2{X:Cx}:OpR X (binaryOp .Mult) cD9:=cD0.or aD4
def aV3:oX cD9 xC:=by
 intro H d f x y Q res b c e k;unfold xC at e;split at e;split at e;rename_i a;cases e;obtain rfl:=bQ b;obtain rfl:=bQ c;exact .inl ⟨_,_,rfl,rfl,a,k _ H (.refl _) (.int _)⟩;cases e;split at e;rename_i a;cases e;obtain rfl:=iS b;obtain rfl:=bQ c;exact .inr ⟨a.1,a.2.1,a.2.2,λy _ e=>by subst e;exact k _ H (.refl _) (.str _)⟩;cases e;cases e
noncomputable def ixD:F2:=λd e=>match d,e with
 | .lst l,.int i=>(atI l i).map .val
 | .tup l,.int i=>(atI l i).map .val
 | .str z,.int i=>if z.length<=sizeLine then(atI z.cps.toList i).map λc=>.val (.str ⟨#[c]⟩)else none
 | _,_=>none
theorem Rps.atI{H:Hp}{l:List D}{xs:List V}{i:Int}{d:D}(r:Rps H l xs)(h:L2.atI l i=some d):∃ x,L2.atI xs i=some x/\Rp H d x:=by
 unfold L2.atI at h ⊢;obtain⟨j,a,b⟩:=bind_some h;rw[← r.length,a];exact r.get b
def cX1:oX dH9 ixD:=by
 intro H m n x y Q res f g e k;unfold ixD at e;split at e;obtain rfl:=bQ g;obtain⟨p,xs,rfl,h,i⟩:=fX f;obtain⟨d,a,b⟩:=a5c.mp e;cases b;obtain⟨x,j,r⟩:=i.atI a;exact⟨x,dF h j,k _ H (.refl _) r⟩;obtain rfl:=bQ g;obtain⟨p,xs,rfl,h,i⟩:=eD f;obtain⟨d,a,b⟩:=a5c.mp e;cases b;obtain⟨x,j,r⟩:=i.atI a;exact⟨x,dF (bA h) j,k _ H (.refl _) r⟩;split at e;rename_i l;obtain rfl:=bQ g;obtain rfl:=iS f;obtain⟨c,a,b⟩:=a5c.mp e;cases b;exact⟨_,bZ7 l a,k _ H (.refl _) (.str _)⟩;cases e;cases e
def dJ7{X:Cx}{a b:Expr}{c d:DE}{pos:Pos}(ha:GE X a c)(e:GE X b d)(hs:aQ0 b):GE X (.Subscript a b pos) (aO ixD c d):=.mk λΓ=>peW (iC vS (ha.to Γ) (e.to Γ) hs) λ_ _ _=>pK cX1
noncomputable def kW:FN:=λa=>match a with
 | [.lst l]=>some (.val (.int l.length))
 | [.tup l]=>some (.val (.int l.length))
 | [.str z]=>if z.length<=sizeLine then some (.val (.int z.length))else none
 | _=>none
def bD8{H:Hp}{d:D}{vs:List V}(h:Vws H [d] vs):∃ x,vs=[x]/\Vw H d x:=by
 cases h with
 | cons a t=>cases t;exact⟨_,rfl,a⟩
def dN7{H:Hp}{d e:D}{vs:List V}(h:Vws H [d,e] vs):∃ x y,vs=[x,y]/\Vw H d x/\Vw H e y:=by
 cases h with
 | cons a t=>
   obtain⟨y,rfl,b⟩:=bD8 t;exact⟨_,_,rfl,a,b⟩
def cE0:bT9 bF6 kW:=by
 intro H d vs Q res vw e k;unfold kW at e;split at e;cases e;obtain⟨x,rfl,v⟩:=bD8 vw;obtain⟨p,xs,rfl,a,b⟩:=fX v;refine⟨_,_,rfl,uJ a,?_⟩;rw[← b.length];exact k _ H (.refl _) (.int _);cases e;obtain⟨x,rfl,v⟩:=bD8 vw;obtain⟨p,xs,rfl,a,b⟩:=eD v;refine⟨_,_,rfl,uJ (bA a),?_⟩;rw[← b.length];exact k _ H (.refl _) (.int _);split at e;rename_i c;cases e;obtain⟨x,rfl,v⟩:=bD8 vw;obtain rfl:=iS v;exact⟨_,_,rfl,bF9 c,k _ H (.refl _) (.int _)⟩;cases e;cases e
noncomputable def oF(l:List D)(lo hi:Option Int):List D:=(l.drop (HT.sIx l.length 0 lo)).take (HT.sIx l.length l.length hi-HT.sIx l.length 0 lo)
def Rps.cut{H:Hp}{l:List D}{xs:List V}(r:Rps H l xs)(lo hi:Option Int):Rps H (oF l lo hi) (pG xs lo hi):=by
 unfold oF pG;rw[r.length];exact(r.drop _).take _
def aV4{xs:List V}{lo hi:Option Int}(h:HT.sIx xs.length 0 lo=0/\HT.sIx xs.length xs.length hi=xs.length):pG xs lo hi=xs:=by
 unfold pG;rw[h.1,h.2];simp
end Dv
namespace HT
open PySem PySem.Spec PyProof.Rows
section
variable{prog:Program}{w:World}{A:Around}{E:Value->Shared->Prop}{s:Shared}
def getItem_tuple_all{t sl:Addr}{items:Array Value}{f g:Value}{lo hi:Option Int}{Q:Value->Shared->Prop}(a:IsTup s.heap t items)(hs:s.heap.IsSliceOf sl f g .none)(pl:IsPart f lo)(j:IsPart g hi)
  (i:sIx items.size 0 lo=0/\sIx items.size items.size hi=items.size) (h:Q (.ref t) s):wpAny (model prog w) A (getItem (.ref t) (.ref sl)) Q E s:=by
 obtain⟨os,c,d,k⟩:=id hs;have e:s.TypeIs (.ref sl) "slice":=⟨os,c,d⟩;unfold getItem
 try with_reducible refine a3s ?_
 first | refine a3n (a3o ?_) | skip
 refine a3n (wpAny_sequenceKey a.typeIs (by decide) ?_);refine a3n (wpAny_callSpecial?_slot (name:=Str.ofString "__getitem__") a.typeIs a5e
  (a3A a5e a.typeIs entry_tuple_getitem ?_ (args_tuple_getitem _ _)))
 show wpAny _ _ (Builtin.Tuple.tupleItemsOf (.ref t) >>= _) _ _ s;refine a3n (tupleItemsOf_ a ?_);refine a3n (a3L e ?_);rw[a3p (by decide)];refine a3n (gZ hs pl j ?_);have b:(((sIx items.size 0 lo:Nat):Int)==0&&(1:Int)==1&&(sIx items.size items.size hi-sIx items.size 0 lo)==items.size)=true:=by
  rw[i.1,i.2];simp
 show wpAny _ _ (if(((sIx items.size 0 lo:Nat):Int)==0&&(1:Int)==1&&(sIx items.size items.size hi-sIx items.size 0 lo)==items.size)=true then _ else _) _ _ s;rw[a3p b];refine a3n ?_;unfold Builtin.Tuple.tupleIsExact;refine a3n (a3L a.typeIs (a3o ?_));rw[a3p (by decide)];refine a3n (a4r ?_);exact a3o ⟨_,rfl,a3o h⟩
end
end HT
namespace Dv
open PySem L2
def dN8:V->Option Int->Option Int->Hp->VK->Prop:=λx lo hi H Q=>match x with
 | .str z=>z.length<=sizeLine/\Q (.str (Txt.slice z lo hi)) H
 | .ref p=>(∃ xs,dQ H p=some (true,xs)/\∀ r,H r=none->Q (.ref r) (upd H r (.lst (pG xs lo hi)))) \/
   ∃ xs,dQ H p=some (false,xs)/\(pG xs lo hi=xs->Q (.ref p) H)/\∀ r,H r=none->Q (.ref r) (upd H r (.tup (pG xs lo hi)))
 | _=>False
def dQ2{X:Cx}:SlR X dN8:=by
 intro pins s σ H x v c d lo hi sl Q I rx hs pl b h;unfold dN8 at h;split at h;rename_i z;exact bS3 pins s σ H _ v c d lo hi sl Q I rx hs pl b h
 ·rename_i p;rcases h with h | ⟨xs,f,i,j⟩;exact bS3 pins s σ H _ v c d lo hi sl Q I rx hs pl b (.inl h);by_cases e:HT.sIx xs.length 0 lo=0/\HT.sIx xs.length xs.length hi=xs.length
  ·cases rx;obtain⟨its,r,g,k⟩:=I.tuple (cD f);have a:its.toArray.size=xs.length:=by rw[a9a];exact r.length.symm
   refine⟨"tuple",_,a5e.lookup,g.typeIs,?_⟩;exact HT.getItem_tuple_all g hs pl b (by rw[a];exact e) ⟨.ref p,H,I,rfl,i (aV4 e)⟩
  ·exact bS3 pins s σ H _ v c d lo hi sl Q I rx hs pl b (.inr ⟨xs,f,e,j⟩)
 ·exact h.elim
abbrev DO:=Sg->Option (Option Int×Sg)
def dTO(Γ:Gm)(r:DO):TO:=λσV H Q=>∃ σ,StOk Γ H σ σV/\∃ o σ',r σ=some (o,σ')/\∀ H',StOk Γ H' σ' σV->Step σ σV H σ' σV H'->Q o H'
structure GO(X:Cx)(e:Option Expr)(r:DO):Prop where
 to:∀ Γ,PO X e (dTO Γ r)
def poW{X:Cx}{e:Option Expr}{t t':TO}(h:PO X e t)(w:∀ σ H Q,t' σ H Q->t σ H Q):PO X e t':=λpins s σ H Q I q=>h pins s σ H Q I (w σ H Q q)
noncomputable def oG:DO:=λσ=>some (none,σ)
noncomputable def dP(r:DE):DO:=λσ=>(r σ).bind λx=>(rd x.2 x.1).bind λd=>match d with
 | .int i=>some (some i,x.2)
 | _=>none
def cE1{X:Cx}:GO X none oG:=.mk λΓ=>poW mX λσV H Q Z1=>by obtain⟨σ,ok,o,σ',e,k⟩:=Z1;cases e;exact k H ok .refl
def cE2{X:Cx}{e:Expr}{r:DE}(h:GE X e r):GO X (some e) (dP r):=.mk λΓ=>poW (mY (h.to Γ)) λσV H Q ⟨σ,ok,o,σ',e,k⟩=>by
 obtain⟨⟨x,c⟩,f,e⟩:=bind_some e;obtain⟨d,g,e⟩:=bind_some e;dsimp only at e;split at e;cases e;exact⟨σ,ok,x,_,f,λv i a j b _=>⟨_,bQ (j.vw a g),k i a b⟩⟩;cases e
noncomputable def slD(d:D)(lo hi:Option Int):Option Res:=match d with
 | .str z=>if z.length<=sizeLine then some (.val (.str (Txt.slice z lo hi)))else none
 | .lst l=>some (.own (.lst (oF l lo hi)))
 | .tup l=>some (.val (.tup (oF l lo hi)))
 | _=>none
noncomputable def dSl(r:DE)(a b:DO):DE:=λσ=>(r σ).bind λx=>(a x.2).bind λy=>(b y.2).bind λz=>(rd z.2 x.1).bind λd=>(slD d y.1 z.1).bind λw=>some (w,z.2)
def bJ5{X:Cx}{e:Expr}{lo hi:Option Expr}{B pos:Pos}{r:DE}{a b:DO}(C:GE X e r)(ha:GO X lo a)(D:GO X hi b):GE X (.Subscript e (.Slice lo hi none B) pos) (dSl r a b):=.mk λΓ=>peW (jH dQ2 (C.to Γ) (ha.to Γ) (D.to Γ)) λσV H Q ⟨σ,ok,res,σ',e,k⟩=>by
 obtain⟨⟨x,i⟩,E,e⟩:=bind_some e;obtain⟨⟨lo,j⟩,F,e⟩:=bind_some e;obtain⟨⟨hi,y⟩,G,e⟩:=bind_some e;obtain⟨d,I,e⟩:=bind_some e;obtain⟨w,c,e⟩:=bind_some e;cases e;refine⟨σ,ok,x,i,E,λv M l J m _=>⟨i,l,lo,j,F,λN n f=>⟨j,n,hi,y,G,λs g h=>?_⟩⟩⟩;have vw:=((J.step l f).step n h).vw g I;have fin:∀ v H',kJ s H'->wU s H' res v->Q v H':=λv H' z A=>k v H' (g.same z) (A.res g) (((m.trans f).trans h).trans (.same z)) (A.frh.back ((m.trans f).trans h));dsimp only at c;unfold slD at c;split at c;split at c;rename_i K;cases c;obtain rfl:=iS vw;exact⟨K,fin _ s (.refl _) (.str _)⟩;cases c;cases c;obtain⟨p,xs,rfl,t,u⟩:=fX vw;exact .inl ⟨xs,t,λq o=>fin _ _ (aX o) (aV1 o (u.cut lo hi))⟩;cases c;obtain⟨p,xs,rfl,t,u⟩:=eD vw;refine .inr ⟨xs,bA t,λL=>fin _ s (.refl _) ?_,λq o=>fin _ _ (aX o) (vB o (u.cut lo hi))⟩;have:=u.cut lo hi;rw[L]at this;exact .tup t this;cases c
def cX2(K:W.Frag):List V->Hp->VK->Prop:=λxs H Q=>∃ (a:Addr) (bs:List Bool),xs=[.ref a]/\SqL K H a (bs.map V.bl)/\Q (.bl (bs.all id)) H
noncomputable def aL0:List D->Option (List Bool)
 | []=>some []
 | .bl b::r=>(aL0 r).bind λbs=>some (b::bs)
 | _=>none
theorem aF0:∀ {l:List D} {bs:List Bool},aL0 l=some bs->l=bs.map D.bl
 | [],_,h=>by cases h;rfl
 | .bl b::r,_,h=>by
   obtain⟨bs,a,e⟩:=bind_some h;cases e;rw[aF0 a];rfl
 | .non::_,_,h=>by cases h
 | .int _::_,_,h=>by cases h
 | .str _::_,_,h=>by cases h
 | .tup _::_,_,h=>by cases h
 | .lst _::_,_,h=>by cases h
 | .dic _ _::_,_,h=>by cases h
def aV5(bs:List Bool):aL0 (bs.map D.bl)=some bs:=by
 induction bs with
 | nil=>rfl
 | cons b r a=>show(aL0 (r.map D.bl)).bind _=_;rw[a];rfl
noncomputable def cX3:FN:=λa=>match a with
 | [.lst l]=>(aL0 l).map λbs=>.val (.bl (bs.all id))
 | _=>none
def cE3{K:W.Frag}:bT9 (cX2 K) cX3:=by
 intro H f vs Q res vw e k;unfold cX3 at e;split at e;obtain⟨bs,c,d⟩:=a5c.mp e;cases d;obtain⟨x,rfl,v⟩:=bD8 vw;obtain⟨p,xs,rfl,a,b⟩:=fX v;rw[aF0 c]at b;rw[b.bls_inv]at a;exact⟨p,bs,rfl,dU a,k _ H (.refl _) (.bl _)⟩;cases e
def aV6{X:Cx}(K:W.Frag)(a:X.K=K)(b:X.calm=true):iH X (.builtin "all") (cX2 K):=by rw[← a];exact bF2 b
noncomputable def aV7:FN:=λa=>match a with
 | [.int i,.int j]=>some (.val (.int (if j > i then j else i)))
 | _=>none
noncomputable def zV:FN:=λa=>match a with
 | [.int i,.int j]=>some (.val (.int (if j < i then j else i)))
 | _=>none
def bJ6:bT9 (λxs H Q=>∃ i j,xs=[.int i,.int j]/\Q (.int (if j > i then j else i)) H) aV7:=by
 intro H c vs Q res vw e k;unfold aV7 at e;split at e;cases e;obtain⟨x,y,rfl,a,b⟩:=dN7 vw;obtain rfl:=bQ a;obtain rfl:=bQ b;exact⟨_,_,rfl,k _ H (.refl _) (.int _)⟩;cases e
def bJ7:bT9 (λxs H Q=>∃ i j,xs=[.int i,.int j]/\Q (.int (if j < i then j else i)) H) zV:=by
 intro H c vs Q res vw e k;unfold zV at e;split at e;cases e;obtain⟨x,y,rfl,a,b⟩:=dN7 vw;obtain rfl:=bQ a;obtain rfl:=bQ b;exact⟨_,_,rfl,k _ H (.refl _) (.int _)⟩;cases e
noncomputable def cE4:FN:=λa=>match a with
 | [.int i]=>some (.val (.int i))
 | [.bl b]=>some (.val (.int (if b then 1 else 0)))
 | _=>none
def cE5:bT9 (λxs H Q=>(∃ i,xs=[.int i]/\Q (.int i) H)\/∃ k,xs=[.bl k]/\Q (.int (if k then 1 else 0)) H) cE4:=by
 intro H b vs Q res vw e k;unfold cE4 at e;split at e;cases e;obtain⟨x,rfl,a⟩:=bD8 vw;obtain rfl:=bQ a;exact .inl ⟨_,rfl,k _ H (.refl _) (.int _)⟩;cases e;obtain⟨x,rfl,a⟩:=bD8 vw;obtain rfl:=uU a;exact .inr ⟨_,rfl,k _ H (.refl _) (.int _)⟩;cases e
noncomputable def bD9:FN:=λa=>match a with
 | [.lst l]=>some (.val (.tup l))
 | [.tup l]=>some (.val (.tup l))
 | _=>none
def cE6:bT9 cA1 bD9:=by
 intro H f vs Q res vw e k;unfold bD9 at e;split at e;cases e;obtain⟨x,rfl,a⟩:=bD8 vw;obtain⟨p,xs,rfl,b,c⟩:=fX a;exact⟨p,true,xs,rfl,b,λq d=>k _ _ (aX d) (vB d c)⟩;cases e;obtain⟨x,rfl,a⟩:=bD8 vw;obtain⟨p,xs,rfl,b,c⟩:=eD a;exact⟨p,false,xs,rfl,bA b,k _ H (.refl _) (.tup b c)⟩;cases e
noncomputable def dJ8:D->String
 | .non=>"NoneType"
 | .bl _=>"bool"
 | .int _=>"int"
 | .str _=>"str"
 | .lst _=>"list"
 | .tup _=>"tuple"
 | .dic _ _=>"dict"
noncomputable def cE7(c:String):F1:=λd=>match d with
 | .dic _ _=>none
 | d=>some (.val (.bl (nD (dJ8 d) c)))
noncomputable def cM3:FM:=λd a=>match d,a with
 | .lst l,[e]=>if l.length < sizeLine then some (.lst (l++[e]),.non)else none
 | _,_=>none
def qK{H:Hp}{l:List D}{p:Addr}(h:dG H (.lst l) p):∃ xs,H p=some (.lst xs)/\Rps H l xs:=h
def cE8:dJ5 aQ2 cM3:=by
 intro H d p h vs Q d' e ow r b k;unfold cM3 at b;split at b
 ·split at b
  ·rename_i l x f;cases b;obtain⟨xs,g,c⟩:=qK ow;cases r with
   | cons a t=>
     cases t;exact⟨p,xs,_,rfl,rfl,g,by rw[← c.length];exact f,k _ _ ⟨_,aE,(c.append (.cons a .nil)).mono (dG.ext ow)⟩ .non⟩
  ·cases b
 ·cases b
noncomputable def cM4:FM:=λd a=>match d,a with
 | .lst l,[.lst m]=>if l.length+m.length<=sizeLine then some (.lst (l++m),.non)else none
 | _,_=>none
def cX4:V->List V->Hp->VK->Prop:=λx vs H Q=>∃ l b xs zs,x=.ref l/\vs=[.ref b]/\H l=some (.lst xs)/\dQ H b=some (true,zs)/\xs.length+zs.length<=sizeLine/\Q .non (upd H l (.lst (xs++zs)))
def cE9{X:Cx}:MtM X "list.extend" cX4:=by
 intro pins s σ H x vs v us Q I rx g h;obtain⟨l,b,xs,p,rfl,rfl,f,i,t,q⟩:=h;cases rx;obtain⟨u,rfl,j⟩:=g.one;cases j;obtain⟨z,its,n,r,w,e⟩:=I.lstM f;obtain⟨y,a,n2,k,m,o⟩:=vA I i;have d:its.toArray.size+a.toArray.size<=sizeLine:=by rw[a9a,a9a];lia
 have c:¬ (!its.toArray.isEmpty&&Builtin.List.listTooLong (its.toArray.size+a.toArray.size))=true:=by
  rw[aC8 d,a4k];exact a1b
 refine a3K F.slot_list_extend ⟨_,e,rfl⟩ F.entry_list_extend (F.args_list_extend_2 _ _)
  (AutoSeq1.list_extend_list_list_0 l its.toArray n b a.toArray n2 c (by rw[a9a];lia) (by lia)) ⟨e,o,?_⟩
 refine⟨.non,_,I.lset (its':=its++a) f e (by simp) (r.append k) ?_,rfl,q⟩;rw[a6b];lia
def cF0:dN5 cX4 cM4:=by
 intro H d p i vs Q d' e ow r b k;unfold cM4 at b;split at b;split at b;rename_i l m j;cases b;obtain⟨xs,g,c⟩:=qK ow;obtain⟨x,rfl,a⟩:=bD8 r;obtain⟨q,ys,rfl,h,f⟩:=fX a;have:=c.length;have:=f.length;exact⟨p,q,xs,ys,rfl,rfl,g,h,by lia,k _ _ ⟨_,aE,(c.append f).mono (dG.ext ow)⟩ .non⟩;cases b;cases b
noncomputable def dF8(i:Int)(e:D):D->Option D
 | .lst l=>(ixN l.length i).map λj=>.lst (l.set j e)
 | _=>none
noncomputable def cF1(k:Nat)(ri c:DE):DS:=λσ=>(c σ).bind λx=>match x.1 with
 | .val d=>if zO "list" k x.2=true then(ri x.2).bind λy=>(rd y.2 y.1).bind λe=>match e with
   | .int i=>(bI6 (λa _=>(dF8 i d a).map λb=>(b,.non)) k [] y.2).bind λz=>some (.nx z.2)
   | _=>none else none
 | _=>none
def cX5{X:Cx}{E:Ex}{st:Stmt}{k:Nat}{ri G:DE}(h:∀ Γ,PS X st (bD4 (dTE Γ G) (dH0 (aC4 k) (dTE Γ ri) bZ0))):GS E X st (cF1 k ri G):=.mk λΓ=>psW (h Γ) λD σV H ⟨σ,ok,o,e,L⟩=>by
 obtain⟨⟨x,f⟩,M,e⟩:=bind_some e;refine⟨σ,ok,x,f,M,λv H1 g N u f1=>?_⟩;cases x with
 | own d=>cases e
 | slot d=>cases e
 | val d=>
   have c:(if zO "list" k f=true then(ri f).bind λy=>(rd y.2 y.1).bind λI=>match I with
    | .int i=>(bI6 (λa _=>(dF8 i d a).map λb=>(b,.non)) k [] y.2).bind λz=>some (.nx z.2)
    | _=>none else none)=some o:=e
   split at c
   ·rename_i hn;obtain⟨⟨y,w⟩,O,c⟩:=bind_some c;obtain⟨I,P,c⟩:=bind_some c;obtain⟨s0,A,B,Q⟩:=uV hn;obtain⟨p,ep,ow⟩:=g.ownAt A B;dsimp only at c;split at c
    ·rename_i i;obtain⟨⟨z,R⟩,S,c⟩:=bind_some c;cases c;obtain⟨s,d',y',hs,hm,T,rfl,rfl⟩:=lR S;obtain⟨b,J,U⟩:=a5c.mp T;cases U;refine⟨_,ep,f,g,y,w,O,λvi V n W q f2=>?_⟩;obtain rfl:=bQ (W.vw n P);obtain⟨p',r,t⟩:=n.ownAt hs (fY hm);rw[ep]at r;cases r;have Y:Rp V d v:=Rp.mono (q.ext g) N;obtain⟨m,Z⟩:=s;cases Z with
     | lst l=>
       obtain⟨j,e8,e9⟩:=a5c.mp J;cases e9;obtain⟨xs,h1,K⟩:=qK t;refine⟨p,xs,i,j,rfl,rfl,h1,by rw[← K.length];exact e8,?_⟩;obtain⟨C,F⟩:=n.write (d':=.lst (l.set j d)) (o':=.lst (xs.set j v)) hs hm ep ⟨_,aE,(K.set j Y).mono (dG.ext t)⟩;exact L _ _ C ((u.trans q).trans F)
     | _=>cases J
    ·cases c
   ·cases c
noncomputable def isD(neg:Bool):F2:=λd e=>match e with
 | .non=>some (.val (.bl (if neg then !decide (d=.non)else decide (d=.non))))
 | .bl b=>(match d with | .bl a=>some (.val (.bl (if neg then !decide (a=b)else decide (a=b)))) | _=>none)
 | _=>none
def aL1{H:Hp}{d:D}{v:V}(h:Vw H d v):decide (v=.non)=decide (d=.non):=by
 rcases h with h | ⟨p,rfl,h⟩;cases h<;>simp;cases d<;>first | exact h.elim | simp
def aV8{neg:Bool}:oX (cS9 neg) (isD neg):=by
 intro H c d x y Q res a b e k;unfold isD at e;split at e;cases e;obtain rfl:=aT4 b;show Q (.bl (if neg then !decide (x=.non)else decide (x=.non))) H;rw[aL1 a];exact k _ H (.refl _) (.bl _);split at e;cases e;obtain rfl:=uU b;obtain rfl:=uU a;exact k _ H (.refl _) (.bl _);cases e;cases e
def aL2(i j:Int):Prop:=0 < j/\j < 18446744073709551616
def bJ8{X:Cx}:OpR X (binaryOp .FloorDiv) (rI aL2 λi j=>.int (i / j)):=opI λi j _ _ _ _ _ a q=>by
 have c:(0:Int) < j:=a.1;have d:j < 18446744073709551616:=a.2;refine PyProof.Rows.floordiv_int (by lia) (by rw[Int.fdiv_eq_ediv_of_nonneg i (by lia)];exact q) (.inl (PyProof.noPylong_of_log2 ?_));have h0:j.natAbs≠0:=by lia
 have b:j.natAbs.log2 < 64:=(Nat.log2_lt h0).mpr (by lia);lia
noncomputable def cM5:F2:=iiC aL2 λi j=>.int (i / j)
def cF2:oX (rI aL2 λi j=>.int (i / j)) cM5:=zU λ_ _ _=>.int _
mutual
def pA:D->PyData
 | .non=>.none
 | .bl b=>.bool b
 | .int i=>.int i
 | .str x=>.str x
 | .tup l=>.tuple (toPys l)
 | .lst l=>.list (toPys l)
 | .dic _ _=>.dict []
def toPys:List D->List PyData
 | []=>[]
 | d::r=>pA d::toPys r
end
section
variable{X:Cx}{pins:List (Addr×Obj)}{σ:St}{H:Hp}{s:Shared}
mutual
theorem aF1(I:Inv X pins σ H s):∀ {d:D} {v:V} {u:Value},Rp H d v->cY v u->(pA d).canLay0=true->∃ as,Reads s.heap u (pA d) as
 | _,_,_,.non,r,_=>by cases r;exact⟨_,.none⟩
 | _,_,_,.bl b,r,_=>by cases r;exact⟨_,.bool b⟩
 | _,_,_,.int i,r,_=>by obtain⟨t,rfl⟩:=r;exact⟨_,.int i t⟩
 | _,_,_,.str x,r,_=>by obtain⟨t,rfl⟩:=r;exact⟨_,.str x t⟩
 | _,_,_,.tup h rs,r,a=>by
   cases r;obtain⟨_,its,c,⟨o,j,f,n,hd⟩,_⟩:=I.hok _ _ h;obtain⟨as,g⟩:=rps_reads I rs c a;exact⟨_,.tuple j f hd (by simpa using g)⟩
 | _,_,_,.lst h rs,r,a=>by
   cases r;obtain⟨_,_,its,n,c,e⟩:=I.hok _ _ h;obtain⟨as,g⟩:=rps_reads I rs c a;exact⟨_,.list e rfl rfl (by simpa using g)⟩
 | _,_,_,.dic h k rs,r,a=>nomatch a
theorem rps_reads(I:Inv X pins σ H s):∀ {l:List D} {vs:List V} {us:List Value},Rps H l vs->bG vs us->PyData.canLayAll0 (toPys l)=true->∃ as,ReadsAll s.heap us (toPys l) as
 | [],_,_,.nil,r,_=>by cases r;exact⟨_,.nil⟩
 | d::l,_,_,.cons a t,r,c=>by
   cases r with
   | cons e f=>
     have b:(pA d).canLay0=true/\PyData.canLayAll0 (toPys l)=true:=by simpa[toPys,PyData.canLayAll0]using c
     obtain⟨as,g⟩:=aF1 I a e b.1;obtain⟨bs,h⟩:=rps_reads I t f b.2;exact⟨_,.cons g h⟩
end
def fH(I:Inv X pins σ H s){d:D}{v:V}{u:Value}(h:Vw H d v)(r:cY v u)(a:(pA d).canLay0=true):∃ as,Reads s.heap u (pA d) as:=by
 rcases h with h | ⟨p,rfl,h⟩;exact aF1 I h r a;cases r;cases d with
 | lst l=>
   obtain⟨xs,b,c⟩:=qK h;obtain⟨_,its,n,f,e⟩:=I.hok _ _ b;obtain⟨as,g⟩:=rps_reads I c f a;exact⟨_,.list e rfl rfl (by simpa using g)⟩
 | dic ks vs=>exact nomatch a
 | _=>exact h.elim
end
noncomputable def rX(d e:D):Bool:=PyData.eqv (pA d) (pA e)
noncomputable def eQ(d:D):Bool:=(pA d).canLay0&&decide ((pA d).depth<=60)
def dJ9(neg:Bool):R2:=λx y H Q=>∃ d e,Vw H d x/\Vw H e y/\eQ d=true/\eQ e=true/\Q (.bl (if neg then !rX d e else rX d e)) H
def cQ{d:D}(h:eQ d=true):(pA d).canLay0=true/\(pA d).depth<=60:=by
 unfold eQ at h;rw[a5d,a3u]at h;exact h
def bU0{X:Cx}(m:X.A.units+64 < cLine):OpR X (compareOp .Eq) (dJ9 false):=by
 intro pins s σ H x y v u Q I rx c h;obtain⟨d,e,f,g,i,j,q⟩:=h;obtain⟨a,n⟩:=cQ i;obtain⟨b,o⟩:=cQ j;obtain⟨as,k⟩:=fH I f rx a;obtain⟨bs,l⟩:=fH I g c b;exact SeqAt.rcAt_reads k l a b (by lia) _ _ _ _ ⟨.bl _,H,I,rfl,q⟩
def cX6{X:Cx}(m:X.A.units+64 < cLine):OpR X (compareOp .NotEq) (dJ9 true):=by
 intro pins s σ H x y v u Q I rx c h;obtain⟨d,e,f,g,i,j,q⟩:=h;obtain⟨a,n⟩:=cQ i;obtain⟨b,o⟩:=cQ j;obtain⟨as,k⟩:=fH I f rx a;obtain⟨bs,l⟩:=fH I g c b;exact SeqAt.rcNeAt_reads k l a b (by lia) _ _ _ _ ⟨.bl _,H,I,rfl,q⟩
noncomputable def eqD(neg:Bool):F2:=λd e=>if eQ d=true/\eQ e=true then some (.val (.bl (if neg then !rX d e else rX d e)))else none
def aV9{neg:Bool}:oX (dJ9 neg) (eqD neg):=by
 intro H b c x y Q res d f e k;unfold eqD at e;split at e;rename_i a;cases e;exact⟨b,c,d,f,a.1,a.2,k _ H (.refl _) (.bl _)⟩;cases e
def dK0(neg:Bool):R2:=λx y H Q=>(∃ i j,x=.str i/\y=.str j/\Q (.bl (if neg then(Builtin.Str.occurrences j i 0 j.length 1).isEmpty else !(Builtin.Str.occurrences j i 0 j.length 1).isEmpty)) H) \/
 ∃ d e b l,Vw H d x/\Vw H e y/\cM2 e=some (b,l)/\eQ d=true/\eQ e=true/\Q (.bl (if neg then !(l.any λy=>rX y d)else l.any λy=>rX y d)) H
theorem qL(d:D):∀ l:List D,(toPys l).any (λy=>PyData.eqv y (pA d))=l.any λy=>rX y d
 | []=>rfl
 | e::r=>by show(PyData.eqv (pA e) (pA d)||(toPys r).any _)=_;rw[qL d r];rfl
def xD{e:D}{b:Bool}{l:List D}(h:cM2 e=some (b,l)):PyData.depthAll (toPys l)<=(pA e).depth/\((pA e).canLay0=true->PyData.canLayAll0 (toPys l)=true):=by
 cases e with
 | lst a=>cases h;exact⟨by show _<=PyData.depth (.list (toPys l));simp only[PyData.depth];lia,λz=>z⟩
 | tup a=>cases h;exact⟨by show _<=PyData.depth (.tuple (toPys l));simp only[PyData.depth];lia,λz=>z⟩
 | _=>cases h
def cX7{X:Cx}(p:X.A.units+64 < cLine):OpR X (compareOp .In) (dK0 false):=by
 intro pins s σ H x y v u Q I rx f h;rcases h with⟨i,j,rfl,rfl,q⟩ | ⟨d,e,b,l,v1,v2,hs,m,n,q⟩;exact vV pins s σ H _ _ v u Q I rx f ⟨_,_,rfl,rfl,by simpa using q⟩;obtain⟨a,r⟩:=cQ m;obtain⟨c,t⟩:=cQ n;obtain⟨as,g⟩:=fH I v1 rx a;obtain⟨bs,k⟩:=fH I v2 f c;obtain⟨dp,cl⟩:=xD hs;have fin:EP X pins σ Q (.bool ((toPys l).any λy=>PyData.eqv y (pA d))) s:=⟨.bl _,H,I,by rw[qL];rfl,q⟩;cases e with
 | lst o=>cases hs;exact SeqAt.in_list_reads k g (cl c) a (by lia) fin
 | tup o=>cases hs;exact SeqAt.in_tuple_reads k g (cl c) a (by lia) fin
 | _=>cases hs
def aW0{X:Cx}(p:X.A.units+64 < cLine):OpR X (compareOp .NotIn) (dK0 true):=by
 intro pins s σ H x y v u Q I rx f h;rcases h with⟨i,j,rfl,rfl,q⟩ | ⟨d,e,b,l,v1,v2,hs,m,n,q⟩;exact vW pins s σ H _ _ v u Q I rx f ⟨_,_,rfl,rfl,by simpa using q⟩;obtain⟨a,r⟩:=cQ m;obtain⟨c,t⟩:=cQ n;obtain⟨as,g⟩:=fH I v1 rx a;obtain⟨bs,k⟩:=fH I v2 f c;obtain⟨dp,cl⟩:=xD hs;have fin:EP X pins σ Q (.bool (!(toPys l).any λy=>PyData.eqv y (pA d))) s:=⟨.bl _,H,I,by rw[qL];rfl,q⟩;cases e with
 | lst o=>cases hs;exact SeqAt.notIn_list_reads k g (cl c) a (by lia) fin
 | tup o=>cases hs;exact SeqAt.notIn_tuple_reads k g (cl c) a (by lia) fin
 | _=>cases hs
noncomputable def inD(neg:Bool):F2:=λd e=>match d,e with
 | .str i,.str j=>some (.val (.bl (if neg then(Builtin.Str.occurrences j i 0 j.length 1).isEmpty else !(Builtin.Str.occurrences j i 0 j.length 1).isEmpty)))
 | d,e=>match cM2 e with
   | some (_,l)=>if eQ d=true/\eQ e=true then some (.val (.bl (if neg then !(l.any λy=>rX y d)else l.any λy=>rX y d)))else none
   | none=>none
def bU1{neg:Bool}:oX (dK0 neg) (inD neg):=by
 intro H f g x y Q res a c e k;unfold inD at e;split at e;cases e;obtain rfl:=iS a;obtain rfl:=iS c;exact .inl ⟨_,_,rfl,rfl,k _ H (.refl _) (.bl _)⟩;split at e;rename_i b l hs;split at e;rename_i d;cases e;exact .inr ⟨f,g,b,l,a,c,hs,d.1,d.2,k _ H (.refl _) (.bl _)⟩;cases e;cases e
def cF3(K:W.Frag):List V->Hp->VK->Prop:=λxs H Q=>∃ x c t,xs=[x,.ty c]/\TyOf K H x (.type t)/\(t="NoneType"\/t="int"\/t="bool"\/t="str"\/t="list"\/t="tuple") /\
 (c="int"\/c="bool"\/c="str"\/c="list"\/c="tuple")/\Q (.bl (nD t c)) H
def xE{X:Cx}(K:W.Frag)(a:X.K=K):iH X (.builtin "isinstance") (cF3 K):=by
 subst a;intro pins s σ H xs us Q I r h;obtain⟨x,c,t,rfl,ty,b,d,q⟩:=h;exact zA pins s σ H _ us Q I r ⟨x,c,.type t,_,rfl,ty,bH5 b d,q⟩
def bU2{X:Cx}{e:Expr}{r:DE}{c:String}(K:W.Frag)(f:c="int"\/c="bool"\/c="str"\/c="list"\/c="tuple")(h:∀ Γ,PE X e (tCB (cF3 K) (kI (dTE Γ r) (kI (tC (.ty c)) bR2)))):GE X e (zM (cE7 c) r):=.mk λΓ=>peW (h Γ) λσV H Q j=>by
 have m:cM1 (λx H Q=>cF3 K [x,.ty c] H Q) (cE7 c):=by
  intro H d x Q res a e k;cases d with
  | non=>cases e;obtain rfl:=aT4 a;exact⟨_,_,_,rfl,.non,.inl rfl,f,k _ H (.refl _) (.bl _)⟩
  | bl b=>cases e;obtain rfl:=uU a;exact⟨_,_,_,rfl,.bl b,.inr (.inr (.inl rfl)),f,k _ H (.refl _) (.bl _)⟩
  | int i=>cases e;obtain rfl:=bQ a;exact⟨_,_,_,rfl,.int i,.inr (.inl rfl),f,k _ H (.refl _) (.bl _)⟩
  | str i=>cases e;obtain rfl:=iS a;exact⟨_,_,_,rfl,.str i,.inr (.inr (.inr (.inl rfl))),f,k _ H (.refl _) (.bl _)⟩
  | tup l=>cases e;obtain⟨p,xs,rfl,g,_⟩:=eD a;exact⟨_,_,_,rfl,.tup g,.inr (.inr (.inr (.inr (.inr rfl)))),f,k _ H (.refl _) (.bl _)⟩
  | lst l=>
    cases e;rcases a with a | ⟨p,rfl,a⟩
    ·cases a with
     | lst g _=>exact⟨_,_,_,rfl,.frz g,.inr (.inr (.inr (.inr (.inl rfl)))),f,k _ H (.refl _) (.bl _)⟩
    ·obtain⟨xs,g,_⟩:=qK a;exact⟨_,_,_,rfl,.lst g,.inr (.inr (.inr (.inr (.inl rfl)))),f,k _ H (.refl _) (.bl _)⟩
  | dic ks vs=>cases e
 exact aE3 m j
def gE{X:Cx}{e:Expr}{r:DE}(h:GE X e r)(Γ:Gm):PE X e (dTE Γ r):=h.to Γ
def gA{X:Cx}{e:List Expr}{r:DA}(h:GA X e r)(Γ:Gm):PA X e (dTA Γ r):=h.to Γ
def gI{X:Cx}{tg e:Expr}{r:DI}(h:GI X tg e r)(Γ:Gm):PI X tg e (dTI Γ r):=h.to Γ
def gSs{X:Cx}{E:Ex}{e:List Stmt}{r:DS}(h:GSs E X e r)(Γ:Gm):PSs X e (dTS Γ E r):=h.to Γ
noncomputable def aW1(K:W.Frag):Bool:=K.all λp=>match p.2.cls with
 | .type n=>!(n=="list")
 | _=>true
def cF4{K:W.Frag}{H:Hp}{a:Addr}{ns:List Int}(c:aW1 K=true)(g:cR1 H)(b:SqL K H a (ns.map V.int)):ArgOk H [⟨.val,.lst (ns.map D.int)⟩] [.ref a]:=by
 have d:∃ o,H a=some (.frz o (.lst (ns.map V.int))):=by
  rcases b with b | ⟨o,its,n,k,q,_⟩
  ·rcases b with b | ⟨o,b⟩;rcases g a with z | ⟨o,xs,z⟩;rw[b]at z;cases z;rw[b]at z;cases z;exact⟨o,b⟩
  ·exfalso;unfold aW1 at c;rw[a1i]at c;have hm:(a,o)∈K:=by
    clear c g;have:∀ (l:List (Addr×Obj)),List.lookup a l=some o->(a,o)∈l:=by
     intro l
     induction l with
     | nil=>intro h;simp at h
     | cons p r u=>
       intro h;rw[a7i]at h;split at h
       ·rename_i e;have:a=p.1:=by simpa using e
        cases h;rw[this];exact a4a
       ·exact a8a _ (u h)
    exact this K k
   have:=c _ hm;rw[q]at this;simp at this
 obtain⟨o,d⟩:=d;refine⟨rfl,λi s e=>?_,λi j s t p n f v m=>?_,λi s e=>?_⟩
 ·cases i with
  | zero=>simp at e;subst e;exact⟨_,rfl,.lst d (lP ns)⟩
  | succ i=>simp at e
 ·cases i with
  | zero=>simp at f;subst f;cases m
  | succ i=>simp at f
 ·cases i with
  | zero=>simp at e;subst e;exact λz=>nomatch z
  | succ i=>simp at e
def OK1{b:Type}(o:Option b)(K:b->Prop):Prop:=match o with
 | some a=>K a
 | none=>False
def RE(r:DE)(σ:Sg)(Q:Res->Sg->Prop):Prop:=OK1 (r σ) λx=>Q x.1 x.2
def RT(r:DT)(σ:Sg)(Q:Bool->Sg->Prop):Prop:=OK1 (r σ) λx=>Q x.1 x.2
def RA(r:DA)(σ:Sg)(Q:List Res->Sg->Prop):Prop:=OK1 (r σ) λx=>Q x.1 x.2
def RS(r:DS)(σ:Sg)(Q:Out->Prop):Prop:=OK1 (r σ) Q
def RI(r:DI)(σ:Sg)(Q:List D->Option Nat->Sg->Prop):Prop:=OK1 (r σ) λx=>Q x.1 x.2.1 x.2.2
def RO(r:DO)(σ:Sg)(Q:Option Int->Sg->Prop):Prop:=OK1 (r σ) λx=>Q x.1 x.2
theorem aH{b c:Type}{o:Option b}{f:b->Option c}{K:c->Prop}:OK1 (o.bind f) K=OK1 o λa=>OK1 (f a) K:=by cases o<;>rfl
theorem aS{b:Type}{a:b}{K:b->Prop}:OK1 (some a) K=K a:=rfl
def xF{b c:Type}{o:Option b}{f:b->c}{K:c->Prop}:OK1 (o.map f) K=OK1 o λa=>K (f a):=by cases o<;>rfl
theorem aZ{a:Type}{c:Prop}[Decidable c]{o:Option a}{K:a->Prop}:OK1 (if c then o else none) K=(c/\OK1 o K):=by
 by_cases h:c;rw[a3p h];exact propext ⟨λq=>⟨h,q⟩,λq=>q.2⟩;rw[a3q h];exact propext ⟨λq=>q.elim,λq=>h q.1⟩
def oH{b:Type}{o:Option b}{K:b->Prop}:OK1 o K↔∃ a,o=some a/\K a:=by
 cases o with
 | none=>exact⟨λq=>q.elim,λ⟨_,e,_⟩=>nomatch e⟩
 | some a=>exact⟨λq=>⟨a,rfl,q⟩,λZ1=>by obtain⟨_,e,q⟩:=Z1;cases e;exact q⟩
def bI{b:Type}{o:Option b}{K c:b->Prop}(h:OK1 o K)(w:∀ a,K a->c a):OK1 o c:=by
 cases o with
 | none=>exact h
 | some a=>exact w a h
def VK:Nat->Sg->Nat->Sg->(Res->Sg->Prop)->Prop
 | 0,some s::_,i,σ,Q=>Q (if s.m=.val then .val s.d else .slot i) σ
 | n+1,_::r,i,σ,Q=>VK n r i σ Q
 | _,_,_,_,_=>False
theorem cX8:∀ (n:Nat) (r:Sg) (i:Nat) (σ:Sg) (Q:Res->Sg->Prop),VK n r i σ Q=OK1 (match r[n]? with | some (some s)=>some (if s.m=.val then Res.val s.d else Res.slot i,σ) | _=>none) λx=>Q x.1 x.2
 | 0,[],_,_,_=>rfl
 | 0,none::_,_,_,_=>rfl
 | 0,some s::_,_,_,_=>rfl
 | n+1,[],_,_,_=>rfl
 | n+1,_::r,i,σ,Q=>by
   show VK n r i σ Q=_;rw[cX8 n r i σ Q,a8d]
def GK:Nat->Sg->(D->Prop)->Prop
 | 0,some s::_,K=>K s.d
 | n+1,_::r,K=>GK n r K
 | _,_,_=>False
theorem cX9:∀ (n:Nat) (r:Sg) (K:D->Prop),GK n r K=OK1 (match r[n]? with | some (some s)=>some s.d | _=>none) K
 | 0,[],_=>rfl
 | 0,none::_,_=>rfl
 | 0,some s::_,_=>rfl
 | n+1,[],_=>rfl
 | n+1,_::r,K=>by
   show GK n r K=_;rw[cX9 n r K,a8d]
def RD(σ:Sg)(r:Res)(K:D->Prop):Prop:=OK1 (rd σ r) K
def PK:Nat->Sg->Sl->(Sg->Prop)->Prop
 | 0,none::r,s,K=>K (some s::r)
 | 0,some ⟨.val,_⟩::r,s,K=>K (some s::r)
 | 0,some ⟨.own,_⟩::r,s,K=>K (some s::r)
 | n+1,o::r,s,K=>PK n r s λa=>K (o::a)
 | _,_,_,_=>False
def aL3{n:Nat}{o:Option Sl}{r:Sg}:eE (o::r) (n+1)=eE r n:=by unfold eE;rw[a8d]
theorem bJ9:∀ (n:Nat) (r:Sg) (s:Sl) (K:Sg->Prop),PK n r s K=OK1 (if eE r n=true then some (r.set n (some s))else none) K
 | 0,[],s,K=>rfl
 | 0,none::r,s,K=>rfl
 | 0,some ⟨.val,_⟩::r,s,K=>rfl
 | 0,some ⟨.own,_⟩::r,s,K=>rfl
 | 0,some ⟨.par,_⟩::r,s,K=>rfl
 | 0,some ⟨.lent,_⟩::r,s,K=>rfl
 | n+1,[],s,K=>by
   show False=_;rw[aZ];unfold eE;simp
 | n+1,o::r,s,K=>by
   show PK n r s (λa=>K (o::a))=_;rw[bJ9 n r s _,aZ,aZ,aL3,List.set_cons_succ];rfl
def MK:Nat->Sg->FM->List D->(D->Sg->Prop)->Prop
 | 0,some ⟨.own,d⟩::r,f,ds,K=>OK1 (f d ds) λy=>K y.2 (some ⟨.own,y.1⟩::r)
 | 0,some ⟨.par,d⟩::r,f,ds,K=>OK1 (f d ds) λy=>K y.2 (some ⟨.par,y.1⟩::r)
 | n+1,o::r,f,ds,K=>MK n r f ds λe a=>K e (o::a)
 | _,_,_,_,_=>False
theorem cY0:∀ (n:Nat) (r:Sg) (f:FM) (ds:List D) (K:D->Sg->Prop),MK n r f ds K=OK1 (bI6 f n ds r) λx=>OK1 (match x.1 with | .val d=>some d | _=>none) λd=>K d x.2
 | 0,[],f,ds,K=>rfl
 | 0,none::r,f,ds,K=>rfl
 | 0,some ⟨.val,_⟩::r,f,ds,K=>rfl
 | 0,some ⟨.lent,_⟩::r,f,ds,K=>rfl
 | 0,some ⟨.own,d⟩::r,f,ds,K=>by
   show OK1 (f d ds) _=OK1 ((f d ds).bind λy=>some (Res.val y.2,some (⟨.own,y.1⟩:Sl)::r)) _;rw[aH];rfl
 | 0,some ⟨.par,d⟩::r,f,ds,K=>by
   show OK1 (f d ds) _=OK1 ((f d ds).bind λy=>some (Res.val y.2,some (⟨.par,y.1⟩:Sl)::r)) _;rw[aH];rfl
 | n+1,[],f,ds,K=>rfl
 | n+1,o::r,f,ds,K=>by
   show MK n r f ds (λe a=>K e (o::a))=_;rw[cY0 n r f ds _];unfold bI6;rw[a8d];cases q:r[n]? with
   | none=>rfl
   | some x=>cases x with
     | none=>rfl
     | some s=>
       dsimp only;by_cases hm:s.m.mt=true;rw[a3p hm,a3p hm,aH,aH];rfl;rw[a3q hm,a3q hm];rfl
def TK:String->Nat->Sg->Prop->Prop
 | T,0,some ⟨.own,d⟩::_,P=>tyD T d=true/\P
 | T,0,some ⟨.par,d⟩::_,P=>tyD T d=true/\P
 | T,0,some ⟨.lent,d⟩::_,P=>tyD T d=true/\P
 | T,n+1,_::r,P=>TK T n r P
 | _,_,_,_=>False
theorem bK0:∀ (T:String) (n:Nat) (r:Sg) (P:Prop),TK T n r P=(zO T n r=true/\P)
 | T,0,[],P=>by simp[TK,zO]
 | T,0,none::r,P=>by simp[TK,zO]
 | T,0,some ⟨.val,d⟩::r,P=>by simp[TK,zO]
 | T,0,some ⟨.own,d⟩::r,P=>by simp[TK,zO]
 | T,0,some ⟨.par,d⟩::r,P=>by simp[TK,zO]
 | T,0,some ⟨.lent,d⟩::r,P=>by simp[TK,zO]
 | T,n+1,[],P=>by simp[TK,zO]
 | T,n+1,o::r,P=>by
   show TK T n r P=_;rw[bK0 T n r P];unfold zO;rw[a8d]
section
variable{σ:Sg}{Q:Res->Sg->Prop}{QT:Bool->Sg->Prop}{QA:List Res->Sg->Prop}{QS:Out->Prop}{K:D->Prop}{KR:Res->Prop}{a b c:DE}{ra:DA}{t u:DT}{x y:DS}{d e:D}{f:F2}{f1:F1}{fn:FN}{i j n:Nat}{r:Sg}{o:Option Sl}
theorem bU3:RE (dC d) σ Q=Q (.val d) σ:=rfl
theorem jU:RE (aG i) σ Q=VK i σ i σ Q:=(cX8 i σ i σ Q).symm
theorem jV:VK (n+1) (o::r) i σ Q=VK n r i σ Q:=rfl
theorem jW:VK 0 (some ⟨.val,d⟩::r) i σ Q=Q (.val d) σ:=rfl
theorem xG:VK 0 (some ⟨.own,d⟩::r) i σ Q=Q (.slot i) σ:=rfl
theorem xH:VK 0 (some ⟨.par,d⟩::r) i σ Q=Q (.slot i) σ:=rfl
theorem lV:RE (aO f a b) σ Q=RE a σ λx σ1=>RE b σ1 λy c=>RD c x λd=>RD c y λe=>OK1 (f d e) λr=>Q r c:=by
 unfold RE aO RD;simp only[aH,aS]
theorem aW2:RE (zM f1 a) σ Q=RE a σ λx σ1=>RD σ1 x λd=>OK1 (f1 d) λr=>Q r σ1:=by
 unfold RE zM RD;simp only[aH,aS]
theorem lW:RD σ (.val d) K=K d:=rfl
theorem lX:RD σ (.own d) K=K d:=rfl
theorem aF2:RD σ (.slot i) K=GK i σ K:=(cX9 i σ K).symm
theorem xI{m:Md}:GK 0 (some ⟨m,d⟩::r) K=K d:=rfl
theorem aF3:GK (n+1) (o::r) K=GK n r K:=rfl
theorem lY:RT (dR a) σ QT=RE a σ λx σ1=>RD σ1 x λd=>OK1 (match d with | .bl b=>some b | _=>none) λb=>QT b σ1:=by
 unfold RT RE dR RD;simp only[aH];congr 1;funext x;congr 1;funext d;cases d<;>rfl
theorem cY1:RT (cU8 a) σ QT=RE a σ λx σ1=>RD σ1 x λd=>OK1 (dJ0 d) λb=>QT b σ1:=by
 unfold RT RE cU8 RD;simp only[aH,aS]
theorem aW3:RT (cB8 t u) σ QT=RT t σ λb σ1=>if b=true then RT u σ1 QT else QT false σ1:=by
 unfold RT cB8;simp only[aH];congr 1;funext x;by_cases h:x.1=true<;>simp[h,OK1]
theorem cY2:RT (dOr t u) σ QT=RT t σ λb σ1=>if b=true then QT true σ1 else RT u σ1 QT:=by
 unfold RT dOr;simp only[aH];congr 1;funext x;by_cases h:x.1=true<;>simp[h,OK1]
theorem aW4:RT (aT5 t) σ QT=RT t σ λb σ1=>QT (!b) σ1:=by
 unfold RT aT5;simp only[aH,aS]
theorem qM:RT lT σ QT=QT true σ:=rfl
theorem vC:RE (sD a b) σ Q=RT (dR a) σ λt σ1=>if t=true then RE b σ1 Q else Q (.val (.bl false)) σ1:=by
 unfold RT RE sD;simp only[aH];congr 1;funext x;by_cases h:x.1=true<;>simp[h,OK1]
theorem cY3:RE (cV3 a b) σ Q=RT (dR a) σ λt σ1=>if t=true then Q (.val (.bl true)) σ1 else RE b σ1 Q:=by
 unfold RT RE cV3;simp only[aH];congr 1;funext x;by_cases h:x.1=true<;>simp[h,OK1]
theorem cF5:RE (aT6 a) σ Q=RT (dR a) σ λt σ1=>Q (.val (.bl (!t))) σ1:=by
 unfold RT RE aT6;simp only[aH,aS]
theorem bK1{g:F2}:RE (tD f g a b c) σ Q=RE a σ λx σ1=>RE b σ1 λy i=>RD i x λd=>RD i y λe=>OK1 (f d e) λk=>OK1 (match k with | .val (.bl t)=>some t | _=>none) λt=>if t=true then RE c i (λz j=>RD j y λe=>RD j z λh=>OK1 (g e h) λr=>Q r j)else Q (.val (.bl false)) i:=by
 unfold RE tD RD;simp only[aH];congr 1;funext x;congr 1;funext y;congr 1;funext d;congr 1;funext e;cases f d e with
 | none=>rfl
 | some k=>
   cases k with
   | val v=>
     cases v with
     | bl b=>
       cases b with
       | false=>simp[OK1]
       | true=>
         dsimp only;simp only[aH,aS,if_true]
     | _=>rfl
   | own v=>rfl
   | slot v=>rfl
theorem lZ:RA aQ σ QA=QA [] σ:=rfl
theorem gU:RA (aB a ra) σ QA=RE a σ λx σ1=>RA ra σ1 λxs b=>QA (x::xs) b:=by
 unfold RA RE aB;simp only[aH,aS]
def RDs(σ:Sg)(rs:List Res)(K:List D->Prop):Prop:=OK1 (rds σ rs) K
def VLs(rs:List Res)(K:List D->Prop):Prop:=OK1 (vals rs) K
theorem iW{K:List D->Prop}:RDs σ [] K=K []:=rfl
theorem iX{x:Res}{xs:List Res}{K:List D->Prop}:RDs σ (x::xs) K=RD σ x λd=>RDs σ xs λds=>K (d::ds):=by
 show OK1 ((rd σ x).bind λd=>(rds σ xs).bind λds=>some (d::ds)) K=_;unfold RDs RD;simp only[aH,aS]
theorem qN{K:List D->Prop}:VLs [] K=K []:=rfl
theorem tH{xs:List Res}{K:List D->Prop}:VLs (.val d::xs) K=VLs xs λds=>K (d::ds):=by
 show OK1 ((vals xs).bind λds=>some (d::ds)) K=_;unfold VLs;simp only[aH,aS]
theorem xJ:RE (dCB fn ra) σ Q=RA ra σ λxs σ1=>RDs σ1 xs λds=>OK1 (fn ds) λr=>Q r σ1:=by
 unfold RE RA RDs dCB;simp only[aH,aS]
theorem bU4:RE (vT ra) σ Q=RA ra σ λxs σ1=>VLs xs λds=>ds.length<=sizeLine/\Q (.val (.tup ds)) σ1:=by
 unfold RE RA VLs vT;simp only[aH,aZ,aS]
theorem qO:RE (sE ra) σ Q=RA ra σ λxs σ1=>VLs xs λds=>ds.length<=sizeLine/\Q (.own (.lst ds)) σ1:=by
 unfold RE RA VLs sE;simp only[aH,aZ,aS]
def FK(r:Res)(σ:Sg)(K:D->Sg->Prop):Prop:=OK1 (dN4 σ r) λx=>K x.1 x.2
theorem xK:RE (dFz a) σ Q=RE a σ λx σ1=>FK x σ1 λd b=>Q (.val d) b:=by
 unfold RE dFz FK;simp only[aH,aS]
theorem oJ{K:D->Sg->Prop}:FK (.val d) σ K=K d σ:=rfl
theorem cY4{K:D->Sg->Prop}:FK (.own d) σ K=K d σ:=rfl
theorem iY:RS dS σ QS=QS (.nx σ):=rfl
def SqK(y:DS)(QS:Out->Prop):Out->Prop
 | .nx σ=>RS y σ QS
 | o=>QS o
theorem jX:RS (bR x y) σ QS=RS x σ (SqK y QS):=by
 unfold RS bR;rw[aH];congr 1;funext o;cases o<;>rfl
theorem mB:SqK y QS (.nx σ)=RS y σ QS:=rfl
theorem qQ{v:Res}:SqK y QS (.rt v σ)=QS (.rt v σ):=rfl
theorem zW:RS (uW a) σ QS=RE a σ λ_ σ1=>QS (.nx σ1):=by unfold RS RE uW;simp only[aH,aS]
theorem mD:RS (gR a) σ QS=RE a σ λx σ1=>QS (.rt x σ1):=by unfold RS RE gR;simp only[aH,aS]
theorem oK:RS (kO t x y) σ QS=RT t σ λb σ1=>if b=true then RS x σ1 QS else RS y σ1 QS:=by
 unfold RS RT kO;simp only[aH];congr 1;funext z;by_cases h:z.1=true<;>simp[h]
def PtK(i:Nat)(r:Res)(σ:Sg)(K:Sg->Prop):Prop:=OK1 (dF5 i r σ) K
theorem oM:RS (cX i a) σ QS=RE a σ λx σ1=>PtK i x σ1 λb=>QS (.nx b):=by unfold RS RE PtK cX;simp only[aH,aS]
theorem tJ{K:Sg->Prop}:PtK i (.val d) σ K=PK i σ ⟨.val,d⟩ K:=(bJ9 i σ _ K).symm
theorem aF4{K:Sg->Prop}:PtK i (.own d) σ K=PK i σ ⟨.own,d⟩ K:=(bJ9 i σ _ K).symm
theorem mE{s:Sl}{K:Sg->Prop}:PK 0 (none::r) s K=K (some s::r):=rfl
theorem qR{s:Sl}{K:Sg->Prop}:PK 0 (some ⟨.val,d⟩::r) s K=K (some s::r):=rfl
theorem aF5{s:Sl}{K:Sg->Prop}:PK 0 (some ⟨.own,d⟩::r) s K=K (some s::r):=rfl
theorem jY{s:Sl}{K:Sg->Prop}:PK (n+1) (o::r) s K=PK n r s λa=>K (o::a):=rfl
theorem cF6{a:FM}{ds:List D}{σ:Sg}:OK1 (bI6 a i ds σ) (λx=>Q x.1 x.2)=MK i σ a ds λd σ1=>Q (.val d) σ1:=by
 rw[cY0];apply propext;rw[oH,oH];constructor;rintro⟨⟨x,s⟩,e,q⟩;obtain⟨_,_,_,_,_,_,rfl,_⟩:=lR e;exact⟨_,e,q⟩;rintro⟨⟨x,s⟩,e,q⟩;obtain⟨_,_,_,_,_,_,rfl,_⟩:=lR e;exact⟨_,e,q⟩
theorem aW5{T:String}{b:FM}:RE (sF T i b ra) σ Q=TK T i σ (RA ra σ λxs σ1=>VLs xs λds=>MK i σ1 b ds λd a=>Q (.val d) a):=by
 rw[bK0];unfold RE sF RA VLs;rw[aZ];simp only[aH,cF6]
theorem cF7{T:String}{b:FM}:RE (zP T i b ra) σ Q=TK T i σ (RA ra σ λxs σ1=>RDs σ1 xs λds=>MK i σ1 b ds λd a=>Q (.val d) a):=by
 rw[bK0];unfold RE zP RA RDs;rw[aZ];simp only[aH,cF6]
theorem aW6{T:String}{P:Prop}:TK T 0 (some ⟨.own,d⟩::r) P=(tyD T d=true/\P):=rfl
theorem cY5{T:String}{P:Prop}:TK T 0 (some ⟨.par,d⟩::r) P=(tyD T d=true/\P):=rfl
theorem aW7{T:String}{P:Prop}:TK T (n+1) (o::r) P=TK T n r P:=rfl
theorem aW8{a:FM}{ds:List D}{K:D->Sg->Prop}:MK 0 (some ⟨.own,d⟩::r) a ds K=OK1 (a d ds) λy=>K y.2 (some ⟨.own,y.1⟩::r):=rfl
theorem cY6{a:FM}{ds:List D}{K:D->Sg->Prop}:MK 0 (some ⟨.par,d⟩::r) a ds K=OK1 (a d ds) λy=>K y.2 (some ⟨.par,y.1⟩::r):=rfl
theorem aW9{a:FM}{ds:List D}{K:D->Sg->Prop}:MK (n+1) (o::r) a ds K=MK n r a ds λe b=>K e (o::b):=rfl
theorem bU5:RS (cF1 i a b) σ QS=RE b σ λx σ1=>OK1 (match x with | .val d=>some d | _=>none) λd=>TK "list" i σ1 (RE a σ1 λy e=>RD e y λf=>OK1 (match f with | .int k=>some k | _=>none) λk=>
  MK i e (λa _=>(dF8 k d a).map λb=>(b,.non)) [] λ_ c=>QS (.nx c)):=by
 unfold RS RE RD cF1;rw[aH];congr 1;funext x;obtain⟨x,σ1⟩:=x;cases x with
 | own d=>rfl
 | slot d=>rfl
 | val d=>
   show OK1 _ _=TK _ _ _ _;rw[bK0];dsimp only;rw[aZ];simp only[aH];congr 1;congr 1;funext y;congr 1;funext f;cases f with
   | int k=>
     dsimp only;rw[aH];show _=MK _ _ _ _ _;rw[← cF6 (Q:=λ_ c=>QS (.nx c))];rfl
   | _=>rfl
theorem cY7{g:DG}:RS (cW3 g a) σ QS=RE a σ λx σ1=>OK1 (match x with | .val d=>some d | _=>none) λd=>OK1 (g d σ1) λb=>QS (.nx b):=by
 unfold RS RE cW3;rw[aH];congr 1;funext x;obtain⟨x,σ1⟩:=x;cases x with
 | own d=>rfl
 | slot d=>rfl
 | val d=>
   show OK1 ((g d σ1).bind _) _=OK1 (g d σ1) _;rw[aH];rfl
theorem xL{K:Sg->Prop}:OK1 (dgN i d σ) K=PK i σ ⟨.val,d⟩ K:=(bJ9 i σ _ K).symm
theorem qS{a:DGs}{l:List D}{K:Sg->Prop}:OK1 (oZ n a (.tup l) σ) K=(l.length=n/\OK1 (a l σ) K):=by
 show OK1 (if l.length=n then a l σ else none) K=_;rw[aZ]
theorem jO{g:DG}{a:DGs}{l:List D}{K:Sg->Prop}:OK1 (cP g a (d::l) σ) K=OK1 (g d σ) λσ1=>OK1 (a l σ1) K:=by
 show OK1 ((g d σ).bind λσ1=>a l σ1) K=_;rw[aH]
theorem nK{K:Sg->Prop}:OK1 (oY [] σ) K=K σ:=rfl
end
def CK(run:Run)(as:List Sl)(K:Res->List Sl->Prop):Prop:=OK1 (run as) λy=>K y.1 y.2
def AK(σ:Sg)(rs:List Res)(K:List Sl->Prop):Prop:=OK1 (qJ σ rs) K
def A1(σ:Sg)(r:Res)(K:Sl->Prop):Prop:=OK1 (zT σ r) K
def HK:Nat->Sg->(Sl->Prop)->Prop
 | 0,some ⟨m,d⟩::_,K=>K ⟨if m.mt=true then .par else m,d⟩
 | n+1,_::r,K=>HK n r K
 | _,_,_=>False
theorem cY8:∀ (n:Nat) (r:Sg) (K:Sl->Prop),HK n r K=A1 r (.slot n) K
 | 0,[],_=>rfl
 | 0,none::_,_=>rfl
 | 0,some s::_,_=>rfl
 | n+1,[],_=>rfl
 | n+1,_::r,K=>by
   show HK n r K=_;rw[cY8 n r K];show OK1 (match r[n]? with | some (some s)=>some (⟨if s.m.mt=true then .par else s.m,s.d⟩:Sl) | _=>none) K=OK1 (match (_::r)[n+1]? with | some (some s)=>some (⟨if s.m.mt=true then .par else s.m,s.d⟩:Sl) | _=>none) K;rw[a8d]
def UK:Nat->Sg->D->(Sg->Prop)->Prop
 | 0,some ⟨.own,_⟩::r,d,K=>K (some ⟨.own,d⟩::r)
 | 0,some ⟨.par,_⟩::r,d,K=>K (some ⟨.par,d⟩::r)
 | 0,o::r,_,K=>K (o::r)
 | n+1,o::r,d,K=>UK n r d λa=>K (o::a)
 | _,[],_,K=>K []
noncomputable def uS(σ:Sg)(i:Nat)(d:D):Sg:=match σ[i]? with
 | some (some s)=>if s.m.mt=true then σ.set i (some ⟨s.m,d⟩)else σ
 | _=>σ
theorem cY9:∀ (n:Nat) (r:Sg) (d:D) (K:Sg->Prop),UK n r d K=K (uS r n d)
 | 0,[],_,_=>rfl
 | n+1,[],_,_=>rfl
 | 0,none::r,d,K=>rfl
 | 0,some ⟨.val,_⟩::r,d,K=>rfl
 | 0,some ⟨.own,_⟩::r,d,K=>rfl
 | 0,some ⟨.par,_⟩::r,d,K=>rfl
 | 0,some ⟨.lent,_⟩::r,d,K=>rfl
 | n+1,o::r,d,K=>by
   show UK n r d (λa=>K (o::a))=_;rw[cY9 n r d _];unfold uS;rw[a8d];cases r[n]? with
   | none=>rfl
   | some x=>cases x with
     | none=>rfl
     | some s=>
       dsimp only;by_cases h:s.m.mt=true;rw[a3p h,a3p h];rfl;rw[a3q h,a3q h]
noncomputable def sB:List Res->List Sl->Sg->Sg
 | .slot i::rs,a::as,σ=>sB rs as (uS σ i a.d)
 | _::rs,_::as,σ=>sB rs as σ
 | _,_,σ=>σ
def cZ0{σ:Sg}{i j:Nat}{d:D}:(uS σ i d)[j]? = (σ[j]?).map λo=>if j=i then(match o with | some s=>some (if s.m.mt=true then⟨s.m,d⟩else s) | none=>none)else o:=by
 unfold uS;by_cases a:j=i
 ·subst a;cases h:σ[j]? with
  | none=>dsimp only;rw[h];rfl
  | some o=>
    cases o with
    | none=>dsimp only;rw[h];simp
    | some s=>
      dsimp only;by_cases hm:s.m.mt=true;rw[a3p hm,a1c (a3a.mp h).1];simp[hm];rw[a3q hm,h];simp[hm]
 ·have:∀ x:Option Sl,(σ.set i x)[j]? = σ[j]?:=λx=>a7a (a3d a);split;split;rw[this];cases σ[j]? <;> simp[a];cases σ[j]? <;> simp[a];cases σ[j]? <;> simp[a]
theorem aF6:∀ (rs:List Res) (as:List Sl) (σ:Sg) (j:Nat),cM rs=true->(sB rs as σ)[j]? = (σ[j]?).map (lU rs as j)
 | [],as,σ,j,_=>by cases as<;>(show σ[j]? = _;cases σ[j]? with | none=>rfl | some o=>cases o<;>simp[lU,iU])
 | r::rs,[],σ,j,_=>by cases r<;>(show σ[j]? = _;cases σ[j]? with | none=>rfl | some o=>cases o<;>simp[lU,iU])
 | .val d::rs,a::as,σ,j,h=>aF6 rs as σ j h
 | .own d::rs,a::as,σ,j,h=>aF6 rs as σ j h
 | .slot i::rs,a::as,σ,j,h=>by
   have h':cM rs=true/\aE8 i rs=false:=by
    unfold cM at h;rw[a5d]at h;exact⟨h.2,by simpa using h.1⟩
   show(sB rs as (uS σ i a.d))[j]? = _;rw[aF6 rs as _ j h'.1,cZ0];cases σ[j]? with
   | none=>rfl
   | some o=>
     cases o with
     | none=>by_cases c:j=i<;>simp[lU,c]
     | some s=>
       by_cases c:j=i
       ·subst c;have e:iU j rs as=none:=by
         cases q:iU j rs as with
         | none=>rfl
         | some b=>
           obtain⟨k,f,_⟩:=eW q;rw[pO f]at h';cases h'.2
        simp[lU,e,iU]
       ·have:¬ i=j:=λz=>c z.symm;simp[lU,c,iU,this]
def cZ1{rs:List Res}{as:List Sl}{σ:Sg}(h:cM rs=true):gT rs as 0 σ=sB rs as σ:=by
 apply a3i;intro j;rw[iV,aF6 rs as σ j h,a3g]
def BK(rs:List Res)(as:List Sl)(σ:Sg)(K:Sg->Prop):Prop:=K (sB rs as σ)
def cZ2(as:List Sl)(K:Res->List Sl->Prop):Out->Prop
 | .nx σ=>K (.val .non) (nG as σ)
 | .rt r σ=>OK1 (aU5 σ r) λa=>K a (nG as σ)
 | _=>False
section
variable{σ:Sg}{Q:Res->Sg->Prop}{ra:DA}{d:D}{i n:Nat}{r:Sg}{o:Option Sl}
theorem kP{run:Run}:RE (aT n run ra) σ Q=RA ra σ λrs σ1=>AK σ1 rs λas=>(as.length=n/\cM rs=true)/\CK run as λy as'=>BK rs as' σ1 λa=>Q y a:=by
 unfold RE RA AK CK aT;simp only[aH,aZ,aS];congr 1;funext x;congr 1;funext as;apply propext;constructor;rintro⟨h,q⟩;refine⟨h,bI q λy q=>?_⟩;unfold BK;rw[← cZ1 h.2];exact q;rintro⟨h,q⟩;refine⟨h,bI q λy q=>?_⟩;unfold BK at q;rw[← cZ1 h.2]at q;exact q
theorem qT{as:List Sl}{K:Sg->Prop}:BK [] as σ K=K σ:=by cases as<;>rfl
theorem qU{rs:List Res}{a:Sl}{as:List Sl}{K:Sg->Prop}:BK (.val d::rs) (a::as) σ K=BK rs as σ K:=rfl
theorem cZ3{rs:List Res}{a:Sl}{as:List Sl}{K:Sg->Prop}:BK (.own d::rs) (a::as) σ K=BK rs as σ K:=rfl
theorem xM{rs:List Res}{m:Md}{as:List Sl}{K:Sg->Prop}:BK (.slot i::rs) (⟨m,d⟩::as) σ K=UK i σ d λσ'=>BK rs as σ' K:=by
 rw[cY9];rfl
theorem cZ4{e:D}{K:Sg->Prop}:UK 0 (some ⟨.own,e⟩::r) d K=K (some ⟨.own,d⟩::r):=rfl
theorem aF7{e:D}{K:Sg->Prop}:UK 0 (some ⟨.par,e⟩::r) d K=K (some ⟨.par,d⟩::r):=rfl
theorem cZ5{K:Sg->Prop}:UK (n+1) (o::r) d K=UK n r d λa=>K (o::a):=rfl
def fJ{len:Nat}{b:DS}{as:List Sl}{K:Res->List Sl->Prop}:CK (xA len b) as K=RS b (ini len as) (cZ2 as K):=by
 unfold CK RS xA;rw[aH];congr 1;funext o;cases o with
 | rt x s=>show OK1 ((aU5 s x).bind _) _=OK1 (aU5 s x) _;rw[aH];rfl
 | _=>rfl
def FSK:Nat->Sg->(Res->Prop)->Prop
 | 0,some ⟨.own,d⟩::_,K=>K (.own d)
 | 0,some ⟨.val,d⟩::_,K=>K (.val d)
 | n+1,_::r,K=>FSK n r K
 | _,_,_=>False
theorem bU6:∀ (n:Nat) (r:Sg) (K:Res->Prop),FSK n r K=OK1 (aU5 r (.slot n)) K
 | 0,[],_=>rfl
 | 0,none::_,_=>rfl
 | 0,some ⟨.val,_⟩::r,K=>rfl
 | 0,some ⟨.own,_⟩::r,K=>rfl
 | 0,some ⟨.par,_⟩::r,K=>rfl
 | 0,some ⟨.lent,_⟩::r,K=>rfl
 | n+1,[],_=>rfl
 | n+1,o::r,K=>by
   show FSK n r K=_;rw[bU6 n r K];show OK1 (match r[n]? with | some (some s)=>if s.m=.own then some (Res.own s.d)else if s.m=.val then some (.val s.d)else none | _=>none) K=OK1 (match (o::r)[n+1]? with | some (some s)=>if s.m=.own then some (Res.own s.d)else if s.m=.val then some (.val s.d)else none | _=>none) K;rw[a8d]
section
variable{as:List Sl}{K:Res->List Sl->Prop}{KR:Res->Prop}
theorem kQ:cZ2 as K (.rt (.val d) σ)=K (.val d) (nG as σ):=rfl
theorem aX0:cZ2 as K (.rt (.own d) σ)=K (.own d) (nG as σ):=rfl
theorem aX1:cZ2 as K (.rt (.slot i) σ)=FSK i σ λr=>K r (nG as σ):=(bU6 i σ _).symm
theorem bU7:FSK 0 (some ⟨.own,d⟩::r) KR=KR (.own d):=rfl
theorem bU8:FSK (n+1) (o::r) KR=FSK n r KR:=rfl
theorem iZ:nG [] σ=[]:=rfl
theorem jA{s:Sl}:nG (⟨.val,d⟩::as) (some s::r)=⟨.val,d⟩::nG as r:=rfl
theorem qV{s:Sl}:nG (⟨.par,d⟩::as) (some s::r)=s::nG as r:=rfl
end
theorem qW{K:List Sl->Prop}:AK σ [] K=K []:=rfl
theorem qX{x:Res}{xs:List Res}{K:List Sl->Prop}:AK σ (x::xs) K=A1 σ x λa=>AK σ xs λas=>K (a::as):=by
 show OK1 ((zT σ x).bind λa=>(qJ σ xs).bind λas=>some (a::as)) K=_;unfold AK A1;simp only[aH,aS]
theorem qY{K:Sl->Prop}:A1 σ (.val d) K=K ⟨.val,d⟩:=rfl
theorem cZ6{K:Sl->Prop}:A1 σ (.own d) K=K ⟨.par,d⟩:=rfl
theorem xN{K:Sl->Prop}:A1 σ (.slot i) K=HK i σ K:=(cY8 i σ K).symm
theorem cZ7{K:Sl->Prop}:HK 0 (some ⟨.own,d⟩::r) K=K ⟨.par,d⟩:=rfl
theorem aF8{K:Sl->Prop}:HK 0 (some ⟨.par,d⟩::r) K=K ⟨.par,d⟩:=rfl
theorem cZ8{K:Sl->Prop}:HK (n+1) (o::r) K=HK n r K:=rfl
end
section
variable{σ:Sg}{QS:Out->Prop}{Q:Res->Sg->Prop}{ri:DI}{g:DG}{b:DS}{a:DE}{ra:DA}
def cZ9:RS (qI ri g b) σ QS=RI ri σ λitems l σ1=>OK1 (aU3 g b items (lendO l σ1)) λo=>QS (aE7 l σ1 o):=by
 unfold RS RI qI;simp only[aH,aS]
theorem zX{K:List D->Option Nat->Sg->Prop}:RI (dIt a) σ K=RE a σ λx σ1=>RD σ1 x λd=>OK1 (wY d) λl=>K l (match x with | .slot i=>some i | _=>none) σ1:=by
 unfold RI RE RD dIt;simp only[aH,aS];try rfl
noncomputable def dK1:List D->Option (List D)
 | [.int j]=>if -(2 ^ 62)<=j/\j < 2 ^ 62 then some (zR 0 j.toNat)else none
 | [.int i,.int j]=>if(-(2 ^ 62)<=i/\i < 2 ^ 62) /\ -(2 ^ 62)<=j/\j < 2 ^ 62 then some (zR i (j-i).toNat)else none
 | _=>none
theorem aX2{K:List D->Option Nat->Sg->Prop}:RI (aN6 ra) σ K=RA ra σ λxs σ1=>RDs σ1 xs λds=>OK1 (dK1 ds) λl=>K l none σ1:=by
 unfold RI RA RDs aN6;simp only[aH];congr 1;funext x;congr 1;funext ds
 match ds with
 | []=>rfl
 | [.int j]=>show OK1 (if -(2 ^ 62)<=j/\j < 2 ^ 62 then _ else none) _=OK1 (if -(2 ^ 62)<=j/\j < 2 ^ 62 then _ else none) _;rw[aZ,aZ];rfl
 | [.int i,.int j]=>show OK1 (if(-(2 ^ 62)<=i/\i < 2 ^ 62) /\ -(2 ^ 62)<=j/\j < 2 ^ 62 then _ else none) _=OK1 (if(-(2 ^ 62)<=i/\i < 2 ^ 62) /\ -(2 ^ 62)<=j/\j < 2 ^ 62 then _ else none) _;rw[aZ,aZ];rfl
 | [.non]=>rfl
 | [.bl _]=>rfl
 | [.str _]=>rfl
 | [.tup _]=>rfl
 | [.lst _]=>rfl
 | [.dic _ _]=>rfl
 | .non::_::_=>rfl
 | .bl _::_::_=>rfl
 | .str _::_::_=>rfl
 | .tup _::_::_=>rfl
 | .lst _::_::_=>rfl
 | .dic _ _::_::_=>rfl
 | .int _::.non::_=>rfl
 | .int _::.bl _::_=>rfl
 | .int _::.str _::_=>rfl
 | .int _::.tup _::_=>rfl
 | .int _::.lst _::_=>rfl
 | .int _::.dic _ _::_=>rfl
 | .int _::.int _::_::_=>rfl
theorem zY{j:Int}{K:List D->Prop}:OK1 (dK1 [.int j]) K=((-(2 ^ 62)<=j/\j < 2 ^ 62)/\K (zR 0 j.toNat)):=by
 show OK1 (if -(2 ^ 62)<=j/\j < 2 ^ 62 then some (zR 0 j.toNat)else none) K=_;rw[aZ];rfl
theorem cF8{i j:Int}{K:List D->Prop}:OK1 (dK1 [.int i,.int j]) K=(((-(2 ^ 62)<=i/\i < 2 ^ 62) /\ -(2 ^ 62)<=j/\j < 2 ^ 62)/\K (zR i (j-i).toNat)):=by
 show OK1 (if(-(2 ^ 62)<=i/\i < 2 ^ 62) /\ -(2 ^ 62)<=j/\j < 2 ^ 62 then some (zR i (j-i).toNat)else none) K=_;rw[aZ];rfl
def cF9{items:List D}(P:Nat->Sg->Prop)(h0:P 0 σ)(hs:∀ i d σ,items[i]? = some d->P i σ->OK1 (g d σ) λσ1=>RS b σ1 λo=>∃ a,(o=.nx a\/o=.ct a)/\P (i+1) a){K:Out->Prop}(k:∀ σ',P items.length σ'->K (.nx σ')):OK1 (aU3 g b items σ) K:=by
 induction items generalizing P σ with
 | nil=>exact k σ h0
 | cons d r c=>
   show OK1 ((g d σ).bind _) K;rw[aH];refine bI (hs 0 d σ rfl h0) λσ1 f=>?_;rw[aH];refine bI f λo h=>?_;obtain⟨a,j,l⟩:=h;have go:OK1 (aU3 g b r a) K:=c (λi=>P (i+1)) l (λi d σ e p=>hs (i+1) d σ (by simpa using e) p) λσ' p=>k σ' (by simpa using p);rcases j with rfl | rfl;exact go;exact go
def cG0{items:List D}(P:Nat->Sg->Prop){K:Out->Prop}(h0:P 0 σ)(hs:∀ i d σ,items[i]? = some d->P i σ->OK1 (g d σ) λσ1=>RS b σ1 λo=>(∃ a,(o=.nx a\/o=.ct a)/\P (i+1) a)\/(∃ x a,o=.rt x a/\K (.rt x a))\/(∃ a,o=.bk a/\K (.nx a)))(k:∀ σ',P items.length σ'->K (.nx σ')):OK1 (aU3 g b items σ) K:=by
 induction items generalizing P σ with
 | nil=>exact k σ h0
 | cons d r c=>
   show OK1 ((g d σ).bind _) K;rw[aH];refine bI (hs 0 d σ rfl h0) λσ1 f=>?_;rw[aH];refine bI f λo h=>?_;rcases h with⟨a,j,l⟩ | ⟨x,a,rfl,q⟩ | ⟨a,rfl,q⟩;have go:OK1 (aU3 g b r a) K:=c (λi=>P (i+1)) l (λi d σ e p=>hs (i+1) d σ (by simpa using e) p) λσ' p=>k σ' (by simpa using p);rcases j with rfl | rfl;exact go;exact go;exact q;exact q
def cG1{ow:List Nat}{t:DT}{e:DE}:RE (fT ow ri g t e) σ Q=RI ri σ λitems l σ1=>items.length<=sizeLine/\OK1 (zS ow g t e items (bF ow (lendO l σ1))) λy=>Q (.own (.lst y.1)) (aN5 l σ1 (lS ow (lendO l σ1) y.2)):=by
 unfold RE RI fT;simp only[aH,aZ,aS]
theorem qZ{ow:List Nat}{t:DT}{e:DE}{K:List D×Sg->Prop}:∀ (items:List D) (a:Sg) (P:Nat->List D->Sg->Prop),P 0 [] a ->
  (∀ i d acc a,items[i]? = some d->P i acc a->OK1 (g d a) λh=>RT t h λb j=>if b=true then RE e j λr m=>∃ v,r=.val v/\P (i+1) (acc++[v]) (bF ow m)else P (i+1) acc (bF ow j)) ->
  (∀ acc a,P items.length acc a->K (acc,a))->OK1 (zS ow g t e items a) K
 | [],a,P,h0,_,k=>k [] a h0
 | d::r,a,P,h0,hs,k=>by
   show OK1 ((g d a).bind _) K;rw[aH];refine bI (hs 0 d [] a rfl h0) λh q=>?_;rw[aH];refine bI q λx l=>?_;dsimp only at l;by_cases o:x.1=true;rw[a3p o]at l ⊢;rw[aH];refine bI l λy s=>?_;obtain⟨v,u,p⟩:=s;rw[u];dsimp only;rw[aH];exact qZ r _ (λi acc a=>P (i+1) (v::acc) a) p (λi d' acc c n f=>by simpa using hs (i+1) d' (v::acc) c (by simpa using n) f) λacc c f=>k (v::acc) c (by simpa using f);rw[a3q o]at l ⊢;exact qZ r _ (λi acc a=>P (i+1) acc a) l (λi d' acc c n f=>hs (i+1) d' acc c (by simpa using n) f) λacc c f=>k acc c (by simpa using f)
end
section
variable{i j:Int}{l m:List D}{K:Res->Prop}{d e:D}{σ:Sg}{Q:Res->Sg->Prop}
theorem xO:OK1 (dY (.int i) (.int j)) K=K (.val (.int (i+j))):=rfl
theorem cG2:OK1 (dY (.lst l) (.lst m)) K=(l.length+m.length<=sizeLine/\K (.own (.lst (l++m)))):=by
 show OK1 (if l.length+m.length<=sizeLine then some (Res.own (.lst (l++m)))else none) K=_;rw[aZ];rfl
theorem cG3:OK1 (dY (.tup l) (.tup m)) K=(l.length+m.length<=sizeLine/\K (.val (.tup (l++m)))):=by
 show OK1 (if l.length+m.length<=sizeLine then some (Res.val (.tup (l++m)))else none) K=_;rw[aZ];rfl
theorem cG4{x y:Str}:OK1 (dY (.str x) (.str y)) K=(x.length+y.length<=sizeLine/\K (.val (.str (x++y)))):=by
 show OK1 (if x.length+y.length<=sizeLine then some (Res.val (.str (x++y)))else none) K=_;rw[aZ];rfl
theorem aF9:OK1 (cD1 (.int i) (.int j)) K=K (.val (.int (i-j))):=rfl
theorem bU9:OK1 (xC (.int i) (.int j)) K=(sG i j/\K (.val (.int (i*j)))):=@aZ _ (sG i j) (Classical.propDecidable _) _ _
theorem bV0:OK1 (cM5 (.int i) (.int j)) K=(aL2 i j/\K (.val (.int (i / j)))):=@aZ _ (aL2 i j) (Classical.propDecidable _) _ _
theorem bV1:OK1 (aK9 (.int i) (.int j)) K=(0 < j/\K (.val (.int (i % j)))):=@aZ _ (0 < j) (Classical.propDecidable _) _ _
theorem bV2:OK1 (cW8 (.int i) (.int j)) K=(cL8 i j/\K (.val (.int (i ^ j.toNat)))):=@aZ _ (cL8 i j) (Classical.propDecidable _) _ _
theorem dK2:OK1 (leI (.int i) (.int j)) K=K (.val (.bl (decide (i<=j)))):=rfl
theorem bK2:OK1 (gtI (.int i) (.int j)) K=K (.val (.bl (decide (j < i)))):=rfl
theorem dA0:OK1 (geI (.int i) (.int j)) K=K (.val (.bl (decide (j<=i)))):=rfl
theorem dA1:OK1 (dF7 (.int i)) K=K (.val (.int (-i))):=rfl
theorem tK:OK1 (ixD (.lst l) (.int i)) K=OK1 (atI l i) λd=>K (.val d):=by
 show OK1 ((atI l i).map Res.val) K=_;rw[xF]
theorem aX3:OK1 (ixD (.tup l) (.int i)) K=OK1 (atI l i) λd=>K (.val d):=by
 show OK1 ((atI l i).map Res.val) K=_;rw[xF]
theorem aX4:OK1 (kW [.lst l]) K=K (.val (.int l.length)):=rfl
theorem vD:OK1 (kW [.tup l]) K=K (.val (.int l.length)):=rfl
theorem zZ{b:Bool}:OK1 (cE4 [.bl b]) K=K (.val (.int (if b then 1 else 0))):=rfl
theorem dA2:OK1 (aV7 [.int i,.int j]) K=K (.val (.int (if j > i then j else i))):=rfl
theorem bV3:OK1 (zV [.int i,.int j]) K=K (.val (.int (if j < i then j else i))):=rfl
theorem aX5:OK1 (bD9 [.lst l]) K=K (.val (.tup l)):=rfl
theorem aL4:OK1 (eqD false (.int i) (.int j)) K=K (.val (.bl (decide (i=j)))):=by
 have h:rX (.int i) (.int j)=decide (i=j):=by
  show(i==j)=_;rw[a8f];simp
 show OK1 (if eQ (.int i)=true/\eQ (.int j)=true then some (Res.val (.bl (if false then !rX (.int i) (.int j)else rX (.int i) (.int j))))else none) K=_;rw[a3p ⟨rfl,rfl⟩,h];rfl
theorem dA3{c:String}:OK1 (cE7 c (.int i)) K=K (.val (.bl (nD "int" c))):=rfl
theorem bV4{k:Int}{K:D×D->Prop}:OK1 ((dF8 k e (.lst l)).map λb=>(b,D.non)) K=OK1 (ixN l.length k) λj=>K (.lst (l.set j e),.non):=by
 show OK1 (((ixN l.length k).map λj=>D.lst (l.set j e)).map λb=>(b,D.non)) K=_;rw[xF,xF]
theorem bV5{K:D×D->Prop}:OK1 (cM3 (.lst l) [e]) K=(l.length < sizeLine/\K (.lst (l++[e]),.non)):=by
 show OK1 (if l.length < sizeLine then some (D.lst (l++[e]),D.non)else none) K=_;rw[aZ];rfl
theorem dA4{bs:List Bool}:OK1 (cX3 [.lst (bs.map D.bl)]) K=K (.val (.bl (bs.all id))):=by
 show OK1 ((aL0 (bs.map D.bl)).map λbs=>Res.val (.bl (bs.all id))) K=_;rw[aV5];rfl
def SK(d:D)(lo hi:Option Int)(K:Res->Prop):Prop:=OK1 (slD d lo hi) K
theorem bK3{a:DE}{x y:DO}:RE (dSl a x y) σ Q=RE a σ λr σ1=>RO x σ1 λlo c=>RO y c λhi b=>RD b r λd=>SK d lo hi λv=>Q v b:=by
 unfold RE RO RD SK dSl;simp only[aH,aS]
theorem aG0{K:Option Int->Sg->Prop}:RO oG σ K=K none σ:=rfl
theorem dF9{a:DE}{K:Option Int->Sg->Prop}:RO (dP a) σ K=RE a σ λx σ1=>RD σ1 x λd=>OK1 (match d with | .int k=>some k | _=>none) λk=>K (some k) σ1:=by
 unfold RO RE RD dP;simp only[aH];congr 1;funext x;congr 1;funext d;cases d<;>rfl
theorem bV6{lo hi:Option Int}:SK (.lst l) lo hi K=K (.own (.lst (oF l lo hi))):=rfl
theorem bV7{lo hi:Option Int}:SK (.tup l) lo hi K=K (.val (.tup (oF l lo hi))):=rfl
theorem bV8{x:D}{K:D->Prop}:OK1 (atI (x::l) 0) K=K x:=by
 show OK1 ((ixN (x::l).length 0).bind λj=>(x::l)[j]?) K=_;unfold ixN;rw[a3p (Int.le_refl 0),a3p (by first | (simp;done) | (simp;lia))];rfl
theorem aX6{x y:D}{K:D->Prop}:OK1 (atI (x::y::l) 1) K=K y:=by
 show OK1 ((ixN (x::y::l).length 1).bind λj=>(x::y::l)[j]?) K=_;unfold ixN;rw[a3p (by decide),a3p (by first | (simp;done) | (simp;lia))];rfl
theorem dA5{x:D}{K:Nat->Prop}:OK1 (ixN (x::l).length 0) K=K 0:=by
 unfold ixN;rw[a3p (Int.le_refl 0),a3p (by first | (simp;done) | (simp;lia))];rfl
theorem dA6{x y:D}{K:Nat->Prop}:OK1 (ixN (x::y::l).length 1) K=K 1:=by
 unfold ixN;rw[a3p (by decide),a3p (by first | (simp;done) | (simp;lia))];rfl
theorem dA7{i j:Int}(a:-(2 ^ 64) < j)(b:j < 2 ^ 64):sG i j=True:=eq_true (.inl (.inr ⟨a,b⟩))
theorem bV9{i j:Int}(a:-(2 ^ 64) < i)(b:i < 2 ^ 64):sG i j=True:=eq_true (.inl (.inl ⟨a,b⟩))
theorem dA8{i:Int}{p:Prop}[Decidable p]:sG i (if p then 1 else 0)=True:=eq_true (.inl (.inr (by split<;>decide)))
theorem dA9{i j:Int}(a:0 < j)(b:j < 18446744073709551616):aL2 i j=True:=eq_true ⟨a,b⟩
theorem dB0{i j:Int}(a:0<=j)(b:j<=1000000)(c:-18446744073709551616 < i)(d:i < 18446744073709551616):cL8 i j=True:=eq_true ⟨a,b,by show i.natAbs < 18446744073709551616;lia⟩
theorem rA{σ:Sg}:lendO none σ=σ:=rfl
theorem aL5{σ:Sg}{o:Out}:aE7 none σ o=o:=by cases o<;>rfl
theorem rB{σ σ':Sg}:aN5 none σ σ'=σ':=rfl
theorem aG1:(tyD "list" (.lst l)=true)=True:=by simp[tyD]
end
noncomputable def xP:List D->Option (List Str)
 | []=>some []
 | .str s::r=>(xP r).bind λl=>some (s::l)
 | _::_=>none
theorem vE:∀ {l:List D} {zs:List Str},xP l=some zs->l=zs.map D.str
 | [],_,h=>by cases h;rfl
 | .str s::r,_,h=>by
   obtain⟨l,a,b⟩:=bind_some h;cases b;rw[vE a];rfl
 | .non::_,_,h=>by cases h
 | .int _::_,_,h=>by cases h
 | .bl _::_,_,h=>by cases h
 | .tup _::_,_,h=>by cases h
 | .lst _::_,_,h=>by cases h
 | .dic _ _::_,_,h=>by cases h
def xQ(zs:List Str):xP (zs.map D.str)=some zs:=by
 induction zs with
 | nil=>rfl
 | cons b r a=>show(xP (r.map D.str)).bind _=_;rw[a];rfl
noncomputable def aL6(sep:Str):F1:=λd=>match d with
 | .lst l=>(xP l).bind λys=>if(ys.map (·.length)).sum+ys.length*sep.length<=16777216 then some (.val (.str (Txt.join sep ys)))else none
 | _=>none
def cG5{X:Cx}{e:Expr}{sep:Str}{r:DE}(K:W.Frag)(h:∀ Γ,PE X e (tBM K "str" (bF3 K) (tC (.str sep)) (dTA Γ (aB r aQ)))):GE X e (zM (aL6 sep) r):=.mk λΓ=>peW (h Γ) λσV H Q m=>by
 have n:cM1 (λx H Q=>bF3 K (.str sep) [x] H Q) (aL6 sep):=by
  intro H d x Q res o e k;unfold aL6 at e;split at e;obtain⟨ys,f,e⟩:=bind_some e;split at e;rename_i hs;cases e;obtain⟨p,xs,rfl,i,b⟩:=fX o;rw[vE f]at b;rw[b.strs_inv]at i;exact⟨sep,p,ys,rfl,rfl,dU i,hs,k _ H (.refl _) (.str _)⟩;cases e;cases e
 obtain⟨σ,ok,res,σ',e,k⟩:=m;obtain⟨⟨x,g⟩,f,e⟩:=bind_some e;obtain⟨q,s,e⟩:=bind_some e;obtain⟨r,u,e⟩:=bind_some e;cases e;refine⟨rfl,σ,ok,[x],g,?_,λvs w a b c _=>?_⟩;show((_:Option _).bind _)=_;rw[f];rfl;cases b with
 | cons b t=>
   cases t;refine n w q _ Q _ (b.vw a s) u λv H' j l=>?_;exact k v H' (a.same j) (l.res a) (c.trans (.same j)) (l.frh.back c)
def cG6{sep:Str}{zs:List Str}{K:Res->Prop}:OK1 (aL6 sep (.lst (zs.map D.str))) K=((zs.map (·.length)).sum+zs.length*sep.length<=16777216/\K (.val (.str (Txt.join sep zs)))):=by
 show OK1 ((xP (zs.map D.str)).bind _) K=_;rw[xQ];show OK1 (if _ then _ else none) K=_;rw[aZ];rfl
def bK4{X:Cx}(K:W.Frag)(a:X.K=K):MtR X "str.join" (bF3 K):=by rw[← a];exact bZ5
section
variable{σ:Sg}{Q:Res->Sg->Prop}{ra:DA}
end
end Dv
namespace PySem
section
variable{prog:Program}{w:World}{A:Around}{E:Value->Shared->Prop}{s:Shared}
def bK5{it t:Addr}{i:Nat}{its:Array Value}{x:Value}{Q:Value->Shared->Prop}(a:s.heap.IsTupleIter it t i)(e:s.heap.IsTuple t its)(f:its[i]? = some x)
  (q:∀ h',h'.IsTupleIter it t (i+1)->Heap.SameBut it s.heap h'->Q x {s with heap:=h'}):wpAny (model prog w) A (Builtin.SmallTypes.nextOf (.ref it)) Q E s:=by
 obtain⟨o,b,g,hd⟩:=id a;obtain⟨h,c,_,nt,d⟩:=e;unfold Builtin.SmallTypes.nextOf;refine a3n (wpAny_callSpecial?_slot (name:=Str.ofString "__next__") a.typeIs a0i (a3A a0i a.typeIs F.entry_tuple_iterator_next ?_ (F.args_tuple_iterator_next_1 _)));show wpAny _ _ (field (.ref it) 0 >>= _) _ _ s;refine a3n (a3x b hd (x:=.ref t) rfl ?_);show wpAny _ _ (if(Value.ref t==Value.none)=true then _ else _) _ _ s;rw[a3q (show ¬ ((Value.ref t==Value.none)=true)from a1b)];show wpAny _ _ (field (.ref it) 1 >>= _) _ _ s;refine a3n (a3x b hd (x:=.int i 0) rfl ?_);show wpAny _ _ (seqItems? (.ref t) >>= _) _ _ s;refine a3n (a3V c d ?_);simp only[Int.toNat_natCast,f];refine a3n (a3G b hd (by simp) (wpAny_pure ⟨x,rfl,wpAny_pure (q _ ⟨_,Heap.get?_update_self _ b (Obj.isFreed_of_fields (Obj.data_mapFields hd _)),(Obj.cls_mapFields ..).trans g,by rw[Obj.data_mapFields hd];simp[rawInt]⟩ (a7h ..))⟩))
def xR{it t:Addr}{i:Nat}{its:Array Value}{Q:Value->Shared->Prop}(g:A.handled=none)(b:s.heap.IsTupleIter it t i)(h:s.heap.IsTuple t its)(j:its[i]? = none)
  (q:∀ h' e,Heap.ExtBut it s.heap h'->(∃ o,h'.get? e=some o/\o.cls=.type "StopIteration")->E (.ref e) {s with heap:=h'}):wpAny (model prog w) A (Builtin.SmallTypes.nextOf (.ref it)) Q E s:=by
 obtain⟨o,c,k,hd⟩:=id b;obtain⟨l,d,_,nt,f⟩:=h;unfold Builtin.SmallTypes.nextOf;refine a3n (wpAny_callSpecial?_slot (name:=Str.ofString "__next__") b.typeIs a0i (a3A a0i b.typeIs F.entry_tuple_iterator_next ?_ (F.args_tuple_iterator_next_1 _)));show wpAny _ _ (field (.ref it) 0 >>= _) _ _ s;refine a3n (a3x c hd (x:=.ref t) rfl ?_);show wpAny _ _ (if(Value.ref t==Value.none)=true then _ else _) _ _ s;rw[a3q (show ¬ ((Value.ref t==Value.none)=true)from a1b)];show wpAny _ _ (field (.ref it) 1 >>= _) _ _ s;refine a3n (a3x c hd (x:=.int i 0) rfl ?_);show wpAny _ _ (seqItems? (.ref t) >>= _) _ _ s;refine a3n (a3V d f ?_);simp only[Int.toNat_natCast,j];refine a3n (a4r (a3n (a3G c hd (by simp) ?_)));show wpAny _ _ (newExc (.type "StopIteration") [] >>= _) _ _ _;refine a3n ?_;simp only[newExc,newTuple];refine a3n (a3t ?_ (by size_fits));refine a3n (m:=firstArgMember _ _) (wpAny_of_eq (a:=Value.none) (by first | rfl | (simp only[firstArgMember];rfl)) ?_);refine a3t ?_ (by size_fits);simp only[raiseNew];refine a3n (wpAny_handled ?_);rw[show A.in1.handled=none from g];refine a3n (a3o (wpAny_throw ?_));exact q _ _ (((a7h ..).extBut.push _).push _) ⟨_,a2b _ rfl,rfl⟩
end
def Draws.tup{prog:Program}{w:World}{A:Around}(f:A.handled=none)(it t:Addr)(c:t≠it)(its:Array Value) :
  Draws prog w A it [it,t] its.size (λi v=>its[i]? = some v) (λi h=>h.IsTupleIter it t i/\h.IsTuple t its) where
 live:=λ_ _ st=>st.1.imp λ_ z=>z.1
 frame:=λ_ _ _ st d=>⟨st.1.at λo e=>d it (by simp) o e,st.2.at λo e=>d t (by simp) o e⟩
 item:=λi s Q E hi st g=>bK5 st.1 st.2 (x:=its[i]) (by simp[hi]) λh' a b=>g _ h' s.toks (by simp[hi]) ⟨a,st.2.at λo e=>(b.2 t c).trans e⟩ b
 done:=λs Q E st j=>xR f st.1 st.2 (by simp) j
end PySem
namespace L2
open PySem PyProof.Rows
section
variable{X:Cx}{pins:List (Addr×Obj)}{σ:St}{H:Hp}{s:Shared}{h':Heap}{ch:List Addr}
def Inv.spun{t':Nat}{a:Addr}{o:HO}(I:Inv X pins σ H s)(h:∀ b∈ch,aO1 X pins H b)(k:∀ b u,b∉ch->s.heap.get? b=some u->h'.get? b=some u)(i:s.heap.objs.size<=a)
  (new:cN X.prog X.w (upd H a o) h' a o):Inv X pins σ (upd H a o) {s with heap:=h',toks:=t'}:=by
 have ha:H a=none:=I.hok.fresh i;have f:∀ b u,H b=some u->b∉ch:=λb u e z=>by rw[(h b z).1]at e;cases e
 refine I.step (g':=s.gens) (d':=s.drawn) (ch:=ch) (λb g=>?_) (λb u _ _ d e _=>k b u d e) (λb u _ _ d e _=>⟨u.slots,k b u d e⟩) (λb u _ e n=>?_) (λb u d e=>⟨u,k b u d e⟩)
  (λb xs e=>by rw[aD (aC e ha)];exact e) (λb u v e=>by rw[aD (aC e ha)];exact e) (λb ps e=>⟨#[],by rw[aD (aC e ha),e];simp⟩) (λm hm=>?_) (λb u e=>?_) I.bare
 ·obtain⟨y,j,A,l,p,t⟩:=h b g;exact⟨l,j,p,t⟩
 ·rw[aD (a9c (a5b (a0b e) i))];exact n
 ·obtain⟨u,es,ep,x,r⟩:=hm;exact⟨u,es,ep,k _ u (λz=>(h _ z).2.1 rfl) x,r⟩
 ·by_cases g:b=a;subst g;rw[aE]at e;cases e;exact new;rw[aD g]at e;refine(I.hok b u e).stay (λc v d q=>k c v ?_ q) (λc q=>by rw[aD (aC q ha)];exact q) λc xs q=>by rw[aD (aC q ha)];exact q
  rcases d with z | z;rw[z];exact f b u e;exact f c _ z
def Inv.spun0{t':Nat}(I:Inv X pins σ H s)(f:∀ b∈ch,aO1 X pins H b)(k:∀ b u,b∉ch->s.heap.get? b=some u->h'.get? b=some u):Inv X pins σ H {s with heap:=h',toks:=t'}:=by
 have d:∀ b u,H b=some u->b∉ch:=λb u e z=>by rw[(f b z).1]at e;cases e
 refine I.step (g':=s.gens) (d':=s.drawn) (ch:=ch) (λb g=>?_) (λb u _ _ a e _=>k b u a e) (λb u _ _ a e _=>⟨u.slots,k b u a e⟩) (λb u _ e n=>n) (λb u a e=>⟨u,k b u a e⟩)
  (λb xs e=>e) (λb u v e=>e) (λb ps e=>⟨#[],by rw[e];simp⟩) (λm hm=>?_) (λb u e=>?_) I.bare
 ·obtain⟨p,h,t,i,j,l⟩:=f b g;exact⟨i,h,j,l⟩
 ·obtain⟨u,es,ep,o,r⟩:=hm;exact⟨u,es,ep,k _ u (λz=>(f _ z).2.1 rfl) o,r⟩
 ·refine(I.hok b u e).stay (λc v a q=>k c v ?_ q) (λc q=>q) λc xs q=>q;rcases a with z | z;rw[z];exact d b u e;exact d c _ z
end
noncomputable def dK3(K:W.Frag)(a:Addr):It:=
 ⟨λi H=>∃ xs x,SqT K H a xs/\xs[i]? = some x,λi H v H'=>∃ T x,v=.ref T/\H T=none/\H'=upd H T (.tup [.int i,x])/\∀ xs,SqT K H a xs->xs[i]? = some x,λi H=>∃ xs,SqT K H a xs/\xs.length=i⟩
noncomputable def dK4(K:W.Frag)(a:Addr):It:=
 ⟨λi H=>∃ xs x,SqL K H a xs/\xs[i]? = some x,λi H v H'=>∃ T x,v=.ref T/\H T=none/\H'=upd H T (.tup [.int i,x])/\∀ xs,SqL K H a xs->xs[i]? = some x,λi H=>∃ xs,SqL K H a xs/\xs.length=i⟩
def aG2{P:Program}{w:World}{H:Hp}{h b:Heap}{e it T:Addr}{i:Nat}{tk:Tok}{u:Value}{x:V}(hT:h.get? T=some {cls:=.type "tuple",data:=.seq #[.int i tk,u]})(hs:b.get? T=h.get? T)(c:cY x u):cN P w (upd H T (.tup [.int i,x])) b T (.tup [.int i,x]):=by
 have a:=hs.trans hT;exact⟨by show 2<=sizeLine;decide,[.int i tk,u],.cons ⟨tk,rfl⟩ (.cons c .nil),⟨_,a,rfl,_,rfl⟩,⟨_,a,rfl⟩⟩
def aL7{P:Program}{w:World}{K:W.Frag}{B:List Expr}{k:Nat}{pos:Pos}(a e it:Addr)(l:e≠it) :
  Turn P w K (.Tuple B k pos) (dK3 K a) [e,it] e (λi h=>(∃ old,IsEnum h e it i old)/\h.IsTupleIter it a i) where
 mem:=by simp
 obj:=λi h st b f=>by
  obtain⟨⟨old,g⟩,o,C,c,d⟩:=st;rcases a7b.mp f with z | f;subst z;exact⟨_,g,λv z=>by cases z⟩;rw[a3b.mp f];exact⟨o,C,λv z=>by rw[d]at z;cases z⟩
 keep:=λi h h' st k=>by
  obtain⟨⟨old,g⟩,hi⟩:=st;exact⟨⟨old,k e (by simp) _ g⟩,hi.at λo q=>k it (by simp) o q⟩
 item:=by
  intro X L M N O i pins s σ H E I F st Q;subst L M N;obtain⟨⟨old,g⟩,hi⟩:=st;obtain⟨xs,x,G,J⟩:=Q;obtain⟨its,R,p,hz⟩:=I.tuple G;obtain⟨u,hu,ru⟩:=R.get J;have r:s.heap.IsTuple a its.toArray:=p;have m:a≠it:=λz=>by
   obtain⟨o,j,t,_⟩:=r;obtain⟨o',S,D,_⟩:=id hi;rw[z,S]at j;cases j;rw[t]at D;injection D with q;exact absurd q (by decide)
  have T:e≠a:=λz=>by
   obtain⟨o,j,t,_⟩:=r;rw[← z,g]at j;cases j;have U:Value.type "enumerate"=Value.type "tuple":=t;injection U with q;exact absurd q (by decide)
  have V:i < its.toArray.size:=by
   have:=(a3a.mp hu).1;simpa using this
  refine wpAny_pyNext_enum_itemD (Draws.tup (A:=X.A.in1) (I.ok.hd O) it a m its.toArray) g ⟨hi,r⟩ V l (by simp[l,T]) λy j tk hy C Y hT hsz hk=>?_;obtain rfl:y=u:=by
   rw[a9d,hu]at hy;exact(a5a hy).symm
  refine⟨_,rfl,wpAny_letOwnedTupleGo_enum C λt Z n=>?_⟩;have hTe:s.heap.objs.size≠e:=λz=>absurd (a0b g) (by rw[← z];exact a0e _);have ha:H s.heap.objs.size=none:=I.hok.fresh (a6a _);refine⟨.ref s.heap.objs.size,upd H s.heap.objs.size (.tup [.int i,x]),?_,rfl,⟨_,x,rfl,ha,rfl,λys hys=>by rw[I.tuple_inj hys G];exact J⟩,⟨⟨_,Z⟩,Y.1.at λo q=>(n.2 it l.symm).trans q⟩,λb f=>?_⟩;exact I.spun (ch:=[e,it]) (t':=tk+1) F (λb u f q=>(n.2 b λz=>f (by simp[z])).trans (hk b u (λz=>f (by simp[z])) (λz=>f (by simp[z])) q)) (a6a _) (aG2 (e:=e) (it:=it) hT (n.2 _ hTe) ru);rw[aD (λz=>?_)];exact(F b f).1;obtain⟨o,C⟩:∃ o,s.heap.get? b=some o:=by
   rcases a7b.mp f with z | f;rw[z];exact⟨_,g⟩;rw[a3b.mp f];exact hi.imp λ_ q=>q.1
  exact absurd (a0b C) (by rw[z];exact a0e _)
 done:=by
  intro X L M N O i pins s σ H E I F st Q;subst L M N;obtain⟨⟨old,g⟩,hi⟩:=st;obtain⟨xs,G,J⟩:=Q;obtain⟨its,R,p,hz⟩:=I.tuple G;have r:s.heap.IsTuple a its.toArray:=p;have m:a≠it:=λz=>by
   obtain⟨o,j,t,_⟩:=r;obtain⟨o',S,D,_⟩:=id hi;rw[z,S]at j;cases j;rw[t]at D;injection D with q;exact absurd q (by decide)
  have hl:its.toArray.size=i:=by rw[a9a,← R.length];exact J
  refine wpAny_pyNext_enum_endD (Draws.tup (A:=X.A.in1) (I.ok.hd O) it a m its.toArray) g ⟨by rw[hl];exact hi,r⟩ λh' hx'=>⟨rfl,I.spun0 (ch:=[e,it]) (t':=s.toks) F λb u f q=>hx' b u (λz=>f (by simp[z])) q⟩
 self:=λ_ _ _ _ _ st h=>wpAny_pyIter_enum st.1.choose_spec h
def aL8{P:Program}{w:World}{K:W.Frag}{B:List Expr}{k:Nat}{pos:Pos}(a e it:Addr)(l:e≠it) :
  Turn P w K (.Tuple B k pos) (dK4 K a) [e,it] e (λi h=>(∃ old,IsEnum h e it i old)/\h.IsListIter it a i) where
 mem:=by simp
 obj:=λi h st b f=>by
  obtain⟨⟨old,g⟩,o,C,c,d⟩:=st;rcases a7b.mp f with z | f;subst z;exact⟨_,g,λv z=>by cases z⟩;rw[a3b.mp f];exact⟨o,C,λv z=>by rw[d]at z;cases z⟩
 keep:=λi h h' st k=>by
  obtain⟨⟨old,g⟩,hi⟩:=st;exact⟨⟨old,k e (by simp) _ g⟩,hi.at λo q=>k it (by simp) o q⟩
 item:=by
  intro X L M N O i pins s σ H E I F st Q;subst L M N;obtain⟨⟨old,g⟩,hi⟩:=st;obtain⟨xs,x,G,J⟩:=Q;obtain⟨its,R,p,hz⟩:=I.list G;obtain⟨u,hu,ru⟩:=R.get J;have r:s.heap.IsList a its.toArray:=p.isList;have m:a≠it:=λz=>by
   obtain⟨o,j,t,_⟩:=r;obtain⟨o',S,D,_⟩:=id hi;rw[z,S]at j;cases j;rw[t]at D;injection D with q;exact absurd q (by decide)
  have T:e≠a:=λz=>by
   obtain⟨o,j,t,_⟩:=r;rw[← z,g]at j;cases j;have U:Value.type "enumerate"=Value.type "list":=t;injection U with q;exact absurd q (by decide)
  have V:i < its.toArray.size:=by
   have:=(a3a.mp hu).1;simpa using this
  refine wpAny_pyNext_enum_itemD (Draws.list (A:=X.A.in1) (I.ok.hd O) it a m its.toArray) g ⟨hi,r⟩ V l (by simp[l,T]) λy j tk hy C Y hT hsz hk=>?_;obtain rfl:y=u:=by
   rw[a9d,hu]at hy;exact(a5a hy).symm
  refine⟨_,rfl,wpAny_letOwnedTupleGo_enum C λt Z n=>?_⟩;have hTe:s.heap.objs.size≠e:=λz=>absurd (a0b g) (by rw[← z];exact a0e _);have ha:H s.heap.objs.size=none:=I.hok.fresh (a6a _);refine⟨.ref s.heap.objs.size,upd H s.heap.objs.size (.tup [.int i,x]),?_,rfl,⟨_,x,rfl,ha,rfl,λys hys=>by rw[I.list_inj hys G];exact J⟩,⟨⟨_,Z⟩,Y.1.at λo q=>(n.2 it l.symm).trans q⟩,λb f=>?_⟩;exact I.spun (ch:=[e,it]) (t':=tk+1) F (λb u f q=>(n.2 b λz=>f (by simp[z])).trans (hk b u (λz=>f (by simp[z])) (λz=>f (by simp[z])) q)) (a6a _) (aG2 (e:=e) (it:=it) hT (n.2 _ hTe) ru);rw[aD (λz=>?_)];exact(F b f).1;obtain⟨o,C⟩:∃ o,s.heap.get? b=some o:=by
   rcases a7b.mp f with z | f;rw[z];exact⟨_,g⟩;rw[a3b.mp f];exact hi.imp λ_ q=>q.1
  exact absurd (a0b C) (by rw[z];exact a0e _)
 done:=by
  intro X L M N O i pins s σ H E I F st Q;subst L M N;obtain⟨⟨old,g⟩,hi⟩:=st;obtain⟨xs,G,J⟩:=Q;obtain⟨its,R,p,hz⟩:=I.list G;have r:s.heap.IsList a its.toArray:=p.isList;have m:a≠it:=λz=>by
   obtain⟨o,j,t,_⟩:=r;obtain⟨o',S,D,_⟩:=id hi;rw[z,S]at j;cases j;rw[t]at D;injection D with q;exact absurd q (by decide)
  have hl:its.toArray.size=i:=by rw[a9a,← R.length];exact J
  refine wpAny_pyNext_enum_endD (Draws.list (A:=X.A.in1) (I.ok.hd O) it a m its.toArray) g ⟨by rw[hl];exact hi,r⟩ λh' hx'=>⟨rfl,I.spun0 (ch:=[e,it]) (t':=s.toks) F λb u f q=>hx' b u (λz=>f (by simp[z])) q⟩
 self:=λ_ _ _ _ _ st h=>wpAny_pyIter_enum st.1.choose_spec h
end L2
namespace PySem
open AutoSeq1 (wpAny_loadPart')
noncomputable abbrev dB1(l:Addr):Obj:={cls:=.type "tuple_iterator",data:=.fields #[.ref l,.int 0 0]}
noncomputable abbrev dK5(it:Addr):Obj:={cls:=.type "enumerate",data:=.fields #[.none,.bool false,.ref it,rawInt 0,.none,.none]}
def bK6(l:Addr)(its:Array Value)(n:Nat)(b:Option Addr)(sl:Array (Option Value)) :
  Meets (Builtin.«enumerate.__new__» ⟨[.type "enumerate",.ref l],[]⟩) (λ_ R s=>s.heap.get? l=some {cls:=.type "tuple",dict:=b,data:=.seq its n,slots:=sl} /\
   R (.ok (.ret (.ref (s.heap.push (dB1 l)).objs.size))) {s with heap:=(s.heap.push (dB1 l)).push (dK5 s.heap.objs.size)}):=
 .of_wp λprog w A R s h=>by
  obtain⟨i,g,d,tk,os⟩:=s;obtain⟨a,h⟩:=h;have e:=sub_enumerate;have f:Heap.IsTuple (Shared.heap ⟨i,g,d,tk,os⟩) l its:=⟨_,a,rfl,n,rfl⟩
  wp_walk using a3F a
  refine wpAny_stack_any λst=>a3o ?_;split;rename_i c _ _ _ _ _;cases (c==Value.type "enumerate")<;>(wp_walk using a3F a,a4l f;exact⟨_,rfl,h⟩)
  ·wp_walk using a3F a,a4l f;exact⟨_,rfl,h⟩
section
variable{prog:Program}{w:World}{A:Around}{E:Value->Shared->Prop}{s:Shared}
def aL9{l:Addr}{its:Array Value}{Q:Value->Shared->Prop}(i:s.heap.IsTuple l its)
  (h:∀ h',IsEnum h' (s.heap.objs.size+1) s.heap.objs.size 0 .none->h'.IsTupleIter s.heap.objs.size l 0->h'.objs.size=s.heap.objs.size+2->(∀ b o,s.heap.get? b=some o->h'.get? b=some o)->Q (.ref (s.heap.objs.size+1)) {s with heap:=h'}) :
  wpAny (model prog w) A (call (.type "enumerate") [.ref l]) Q E s:=by
 obtain⟨⟨c,a,dt,sl⟩,hl,j,n,hd⟩:=i;have d:c=.type "tuple":=j;have e:dt=.seq its n:=hd;subst d e;refine callType_new F.called_enumerate (by decide) (F.typeCall_enumerate_1 _) (F.newCall_enumerate_1 _) (λobj=>F.args_object_init_2 obj _) F.entry_enumerate_new (bK6 l its n a sl) ⟨hl,?_⟩;have f:(s.heap.push (dB1 l)).objs.size=s.heap.objs.size+1:=a2h ..;show _/\_;rw[f];have g:IsEnum ((s.heap.push (dB1 l)).push (dK5 s.heap.objs.size)) (s.heap.objs.size+1) s.heap.objs.size 0 .none:=by
  have:=a2b (s.heap.push (dB1 l)) (o:=dK5 s.heap.objs.size) rfl;rw[f]at this;exact this
 exact⟨⟨_,g,rfl⟩,h _ g ⟨_,a2a _ (a2b _ rfl),rfl,rfl⟩ (by rw[a2h,f]) λb o x=>a2a _ (a2a _ x)⟩
end
end PySem
namespace L2
open PySem PyProof.Rows
section
variable{X:Cx}
def dB2(K:W.Frag)(b:TA):TI:=λσ H R=>b σ H λvs a=>∃ p,vs=[.ref p]/\((∃ xs,dQ a p=some (true,xs)/\R (dK4 K p) a)\/∃ xs,dQ a p=some (false,xs)/\R (dK3 K p) a)
def cG7(K:W.Frag)(w:X.K=K){f:List Expr}{k:Nat}{g:Pos}{a:Expr}{t:TA}{p pos:Pos}(x:Gl X "enumerate")(hm:X.mg "enumerate"=none)(j:bootBuiltins "enumerate"=some (.type "enumerate"))(ha:PA X [a] t)(hs:starEach [a] X.env=[(false,eval a X.env)]:=by rfl):PI X (.Tuple f k g) (.Call (.Name "enumerate" p) [a] [] pos) (dB2 K t):=by
 subst w;intro pins s σ H R I h;refine Call_ (jR I x hm j (a4e (thn (ha pos pins s σ H _ I h) λus s1 Z0=>?_) hs rfl));obtain⟨vs,v,e,y,l⟩:=Z0;obtain⟨b,rfl,l⟩:=l;obtain⟨u,rfl,A⟩:=y.one;cases A;have new:∀ c,c∈[s1.heap.objs.size+1,s1.heap.objs.size]->s1.heap.objs.size<=c:=λc d=>by
  rcases a7b.mp d with z | d;lia;rw[a3b.mp d];exact a6a _
 rcases l with⟨xs,m,q⟩ | ⟨xs,m,q⟩;obtain⟨its,B,n,C⟩:=e.list (dU m);refine call_enumerate_list n.isList λh' i hi o r=>wpAny_pyIter_enum i ?_;exact⟨_,[s1.heap.objs.size+1,s1.heap.objs.size],_,_,v,rfl,e.kept (t':=s1.toks) r,aL8 b _ _ (Nat.succ_ne_self _),⟨⟨_,i⟩,hi⟩,λc d=>e.fpOk (new c d) (e.hok.fresh (new c d)),q⟩;obtain⟨its,B,n,C⟩:=e.tuple (cD m);refine aL9 (show s1.heap.IsTuple b its.toArray from n) λh' i hi o r=>wpAny_pyIter_enum i ?_;exact⟨_,[s1.heap.objs.size+1,s1.heap.objs.size],_,_,v,rfl,e.kept (t':=s1.toks) r,aL7 b _ _ (Nat.succ_ne_self _),⟨⟨_,i⟩,hi⟩,λc d=>e.fpOk (new c d) (e.hok.fresh (new c d)),q⟩
end
end L2
namespace Dv
open PySem L2 Mr
def dK6(H:Hp)(d:Option Addr):Option (Str×D)->Prop
 | some (n,y)=>∃ dx a,d=some dx/\H dx=some (.xd [(n,a)])/\Rp H y a
 | none=>d=none
def XOk(K:W.Frag)(H:Hp)(c:Str)(f:Option (Str×D))(x:Value)(d:Option Addr):Prop:=
 ∃ (e C T:Addr),x=.ref e/\H e=some (exo e (.ref C) d (.ref T))/\aS6 K C=true/\W.nsIn K mainGlobals c=some (some (.ref C))/\dK6 H d f
inductive RX where
 | ok (r:Res) | ex (c:Str) (f:Option (Str×D))
abbrev cM6:=List Sl->Option (RX×List Sl)
noncomputable def dG0(len:Nat)(a:DS):cM6:=λas=>(a (ini len as)).bind λo=>match o with
 | .nx σ=>some (.ok (.val .non),nG as σ)
 | .rt r σ=>(aU5 σ r).bind λb=>some (.ok b,nG as σ)
 | .ex c f σ=>some (.ex c f,nG as σ)
 | _=>none
def dQ3(K:W.Frag)(as:List Sl)(vs:List V)(H:Hp)(Q:L2.VK)(E:XK)(as':List Sl):RX->Prop
 | .ok res=>∀ v H',PostOk as vs H as' H'->wU H H' res v->Q v H'
 | .ex c f=>∀ x d H',PostOk as vs H as' H'->XOk K H' c f x d->E x d H'
def dK7(K:W.Frag)(n:Nat)(run:cM6):Sp:=λvs H Q E=>∃ as r as',ArgOk H as vs/\as.length=n/\run as=some (r,as')/\dQ3 K as vs H Q E as' r
section
variable{P:Program}{w:World}{K:W.Frag}{mg:Str->Option Value}{base:Heap}
def bK7{N:List Str}{as:List Sl}{vs:List V}{H:Hp}(ok:ArgOk H as vs)(g:as.length<=N.length):StOk ⟨H,aU4 as vs⟩ H (ini N.length as) (L2.cT N vs):=by
 refine⟨λi s e=>?_,λi j s t p n b c m m' e d=>?_,λi s p b m=>?_,λi s p b m e=>?_,λa o e _=>e,λa e=>e,?_⟩;obtain⟨v,f,r⟩:=ok.rel i s (dH.mp e);exact⟨v,cA.mpr f,r⟩;exact ok.dis i j s t p n (dH.mp b) (dH.mp c) m m' (cA.mp e) (cA.mp d);exact absurd m (ok.own i s (dH.mp b));exact⟨i,s,dH.mp b,by rw[m];rfl,cA.mp e⟩;unfold ini L2.cT;have:=ok.len;simp;lia
def aA0{N:List Str}{as:List Sl}{vs:List V}{H:Hp}(ok:ArgOk H as vs){σ:Sg}{σV':St}{H':Hp}(d:StOk ⟨H,aU4 as vs⟩ H' σ σV')(b:Step (ini N.length as) (L2.cT N vs) H σ σV' H'):PostOk as vs H (nG as σ) H':=by
 have h:∀ a,nE (ini N.length as) (L2.cT N vs) a->aU4 as vs a:=λa ⟨j,t,k,m,l⟩=>⟨j,t,dH.mp k,m,cA.mp l⟩;refine⟨λi a c m=>?_,λa o e n=>b.fr a o e λz=>n (h a z),b.dom⟩;have f:a.m=.par:=by
  have h0:=ok.own i a c;cases q:a.m with
  | par=>rfl
  | own=>exact absurd q h0
  | val=>rw[q]at m;cases m
  | lent=>rw[q]at m;cases m
 obtain⟨s',es,p,_,s⟩:=b.fix i a (dH.mpr c) (.inl f);obtain⟨v,u,r⟩:=d.rel i s' es;obtain⟨w,g,_⟩:=ok.rel i a c;have:some (some v)=some (some w):=by rw[← u,s];exact cA.mpr g
 cases this;refine⟨s',v,?_,p,g,r⟩;rw[uZ c es,a3q (by rw[f];exact λz=>nomatch z)]
def dB3{H:Hp}{pr:Addr->Prop}{H':Hp}{σ:Sg}{σV':St}{r f:Res}{v:V}(b:StOk ⟨H,pr⟩ H' σ σV')(g:iD ⟨H,pr⟩ H' σ σV' r v)(h:aU5 σ r=some f):wU H H' f v:=by
 cases r with
 | val d=>cases h;exact g
 | own d=>
   cases h;obtain⟨p,e,c,n,l⟩:=g;exact⟨p,e,l,c⟩
 | slot i=>
   obtain⟨e,s',c⟩:=g;have a:(match σ[i]? with | some (some s)=>if s.m=.own then some (Res.own s.d)else if s.m=.val then some (.val s.d)else none | _=>none)=some f:=h;rw[c]at a;dsimp only at a;obtain⟨o,j,k⟩:=b.rel i s' c;rw[e]at j;cases j;split at a
   ·rename_i hm;cases a;obtain⟨p,rfl,ow⟩:=(cC (by rw[hm];exact λz=>nomatch z)).mp k;exact⟨p,rfl,b.own i s' p c hm e,ow⟩
   ·split at a;rename_i hm;cases a;obtain⟨m,d⟩:=s';cases hm;exact k;cases a
def cG8{x qual:Str}{st:Stmt}{f:Addr}{fd:FuncData}{N ps:List Str}{k:Nat}(F:Fun K x qual st f fd)(S:FnScope N ps (aJ st))(l:ps.length<=N.length)(g:DS)
  (m:∀ (cdv:Value) (A:Around) (outer:List Env) (s:Shared) (H:Hp) (E:XK),Room k (A.deeper (PyProof.Rows.envOfC qual (aJ st) s.heap.objs.size f cdv))->GSs ⟨XOk K,λ_=>E⟩ (yR (CXo P w) P w K mg base N qual (aJ st) f cdv A outer s H E) (iI st) g) :
  FnOk P w K mg base (CXo P w) (k+1) f fd ps (dK7 K ps.length (dG0 N.length g)):=by
 refine F.okX S (λvs H Q E Z1=>by obtain⟨as,r,as',ok,j,_⟩:=Z1;rw[← ok.len];exact j) λcdv A outer s H vs Q E n h=>?_;obtain⟨as,r,as',ok,j,a,i⟩:=h;obtain⟨o,p,a⟩:=bind_some a;refine⟨_,(m cdv A outer s H E n).to ⟨H,aU4 as vs⟩,ini N.length as,bK7 ok (by lia),o,p,?_⟩;cases o with
 | nx σ=>
   cases a;exact λσV' H' b e=>i .non H' (aA0 ok b e) .non
 | rt u σ=>
   obtain⟨y,t,a⟩:=bind_some a;cases a;exact λv σV' H' b q e=>i v H' (aA0 ok b e) (dB3 b q t)
 | ex c f σ=>
   cases a;exact λx d σV' H' b q e=>i x d H' (aA0 ok b e) q
 | bk σ=>cases a
 | ct σ=>cases a
end
section
variable{K:W.Frag}{H:Hp}{C fI:Addr}{E:XK}
end
section
variable{K:W.Frag}{H:Hp}{C fI:Addr}{E:XK}
def dQ4{n:Str}{f:Str}(hn:cM0 n)(i:aS6 K C=true)(h:aN4 K C fI bmV "ValueError.__new__"=true)(j:W.findIn K (.ref C) f=some none)
  (k:∀ (e:Addr) d (T:Addr) H',H e=none->kJ H H'->H' e=some (exo e (.ref C) d (.ref T))->(∃ dx,d=some dx/\H' dx=some (.xd [(f,.str n)]))->E (.ref e) d H') :
  [V.str n].length<=1000/\∀ a,H a=none->spS f K [.ref a,.str n] (upd H a (exo a (.ref C) none .none)) (λv H2=>v=.non/\∃ (e C:Addr) (d:Option Addr),V.ref a=V.ref e/\H2 e=some (exo e (.ref C) d .none)/\exR K C/\∀ T:Addr,E (.ref e) d (upd H2 e (exo e (.ref C) d (.ref T)))) E0:=
 ⟨by simp,λa c=>⟨a,C,fI,n,rfl,aE,i,h,j,hn,λdx g b=>⟨rfl,a,C,some dx,rfl,cU0 b,.inl ⟨fI,h⟩,λT=>k a _ T _ c (aT0 c (aT1 b g)) aE ⟨dx,rfl,cB7 b⟩⟩⟩⟩
end
open Classical in
noncomputable def nM(c f:Str)(a:DE):DS:=λσ=>(a σ).bind λx=>match x.1 with
 | .val (.str n)=>if cM0 n then some (.ex c (some (f,.str n)) x.2)else none
 | _=>none
def aX7{X:Cx}{K:W.Frag}{st:Stmt}{E:XK}{c f:Str}{C q:Addr}{l:DE}(m:aS6 K C=true)(r:aN4 K C q bmV "ValueError.__new__"=true)(s:W.findIn K (.ref C) f=some none)(a:W.nsIn K mainGlobals c=some (some (.ref C)))
  (h:∀ Γ,PS X st (bT4 K E (dN0 C (spS f K) E0 (dTA Γ (aB l aQ))))):GS ⟨XOk K,λ_=>E⟩ X st (nM c f l):=.mk λΓ=>psW (h Γ) λD σV H ⟨σ,ok,o,e,k⟩=>by
 obtain⟨⟨x,b⟩,u,e⟩:=bind_some e;dsimp only at e;split at e
 ·rename_i n;split at e
  ·rename_i hn;cases e;refine⟨σ,ok,[.val (.str n)],b,?_,λvs z g i j _=>?_⟩;show((_:Option _).bind _)=_;rw[u];rfl;cases i with
   | cons i t _=>
     cases t;cases i;refine dQ4 hn m r s λe d T H' A p v Z0=>?_;obtain⟨dx,w,y⟩:=Z0;exact k (.ref e) d σV H' (g.same p) ⟨e,C,T,rfl,v,m,a,dx,.str n,w,y,.str n⟩ (j.trans (.same p))
  ·cases e
 ·cases e
end Dv
namespace Dv
open PySem L2
noncomputable def rC(n:Nat):List D->List D
 | []=>[]
 | d::r=>.tup [.int (n:Int),d]::rC (n+1) r
theorem cE:∀ (n:Nat) (l:List D),(rC n l).length=l.length
 | _,[]=>rfl
 | n,_::r=>by show(rC (n+1) r).length+1=r.length+1;rw[cE]
theorem dJ:∀ {n:Nat} {l:List D} {i:Nat} {d:D},(rC n l)[i]? = some d->∃ y,l[i]? = some y/\d=.tup [.int ((n+i:Nat):Int),y]
 | _,[],_,_,h=>by simp[rC]at h
 | n,y::r,0,d,h=>by
   simp[rC]at h;exact⟨y,rfl,by rw[← h];rfl⟩
 | n,y::r,i+1,d,h=>by
   obtain⟨z,e,q⟩:=dJ (n:=n+1) (l:=r) (i:=i) (d:=d) (by simpa[rC]using h);exact⟨z,by simpa using e,by rw[q,show n+1+i=n+(i+1) by lia]⟩
def aX8{K:W.Frag}{p:Addr}{xs:List V}{l:List D}:ItD (dK4 K p) (rC 0 l) (λH=>SqL K H p xs/\Rps H l xs) where
 go:=λH i d ⟨h,r⟩ e=>by
  obtain⟨y,a,_⟩:=dJ e;obtain⟨x,ex,_⟩:=r.get a;exact⟨xs,x,h,ex⟩
 yld:=λH i d v H' ⟨h,r⟩ e ⟨T,x,b,hT,c,f⟩=>by
  obtain⟨y,a,rfl⟩:=dJ e;obtain⟨g,ex,rx⟩:=r.get a;have:=f xs h;rw[ex]at this;cases this;subst b c;refine⟨aX hT,.tup aE (.cons ?_ (.cons (rx.mono (Ext.same (aX hT))) .nil))⟩;rw[a3g];exact .int _
 stop:=λH ⟨h,r⟩=>⟨xs,h,by rw[cE,r.length]⟩
def aX9{K:W.Frag}{p:Addr}{xs:List V}{l:List D}:ItD (dK3 K p) (rC 0 l) (λH=>SqT K H p xs/\Rps H l xs) where
 go:=λH i d ⟨h,r⟩ e=>by
  obtain⟨y,a,_⟩:=dJ e;obtain⟨x,ex,_⟩:=r.get a;exact⟨xs,x,h,ex⟩
 yld:=λH i d v H' ⟨h,r⟩ e ⟨T,x,b,hT,c,f⟩=>by
  obtain⟨y,a,rfl⟩:=dJ e;obtain⟨g,ex,rx⟩:=r.get a;have:=f xs h;rw[ex]at this;cases this;subst b c;refine⟨aX hT,.tup aE (.cons ?_ (.cons (rx.mono (Ext.same (aX hT))) .nil))⟩;rw[a3g];exact .int _
 stop:=λH ⟨h,r⟩=>⟨xs,h,by rw[cE,r.length]⟩
noncomputable def dK8:D->Option (List D)
 | .lst l=>some l
 | .tup l=>some l
 | _=>none
noncomputable def xS(r:DE):DI:=λσ=>(r σ).bind λx=>(rd x.2 x.1).bind λd=>(dK8 d).bind λl=>some (rC 0 l,(match x.1 with | .slot i=>some i | _=>none),x.2)
def cG9{X:Cx}{tg e:Expr}{r:DE}(K:W.Frag)(h:∀ Γ,PI X tg e (dB2 K (dTA Γ (aB r aQ)))):GI X tg e (xS r):=.mk λΓ=>piW (h Γ) λσV H R ⟨σ,ok,items,l,y,e,k⟩=>by
 obtain⟨⟨x,m⟩,z,e⟩:=bind_some e;obtain⟨d,n,e⟩:=bind_some e;obtain⟨its,o,e⟩:=bind_some e;cases e;refine⟨σ,ok,[x],m,?_,λvs w a g i B=>?_⟩;show((_:Option _).bind _)=_;rw[z];rfl
 cases g with
 | cons g t _=>
   cases t;have vw:=g.vw a n;cases d with
   | lst A=>
     cases o;obtain⟨p,xs,rfl,j,q⟩:=fX vw;refine⟨p,rfl,.inl ⟨xs,j,k _ w _ a i (aX8 (xs:=xs)) λc b s f=>?_⟩⟩;obtain⟨u,v⟩:=qH a g n (items:=its) rfl vw p true xs rfl j q c b s f;exact⟨dU u,v⟩
   | tup A=>
     cases o;obtain⟨p,xs,rfl,j,q⟩:=eD vw;refine⟨p,rfl,.inr ⟨xs,bA j,k _ w _ a i (aX9 (xs:=xs)) λc b s f=>?_⟩⟩;obtain⟨u,v⟩:=qH a g n (items:=its) rfl vw p false xs rfl (bA j) q c b s f;exact⟨cD u,v⟩
   | _=>cases o
theorem aY0{σ:Sg}{a:DE}{K:List D->Option Nat->Sg->Prop}:RI (xS a) σ K=RE a σ λx σ1=>RD σ1 x λd=>OK1 (dK8 d) λl=>K (rC 0 l) (match x with | .slot i=>some i | _=>none) σ1:=by
 unfold RI RE RD xS;simp only[aH,aS];try rfl
end Dv
namespace Mr
open PySem L2
noncomputable def sQ(s:Stmt)(i:Nat):Stmt:=match s with
 | .ClassDef _ _ _ b _ _ _ _ _ _ _=>b.getD i (.Pass ⟨0,0,0,0⟩)
 | _=>.Pass ⟨0,0,0,0⟩
noncomputable def top(i:Nat):Stmt:=PySem.Challenge.pw_mostrows_k18_houses_let_by_and_refused.main.body.getD i (.Pass ⟨0,0,0,0⟩)
noncomputable abbrev xT:Stmt:=top 14
noncomputable abbrev tL:Stmt:=top 15
noncomputable abbrev rD:Stmt:=top 17
noncomputable abbrev rE:Stmt:=top 16
noncomputable abbrev fK:Stmt:=top 18
noncomputable abbrev hV:Stmt:=top 19
noncomputable abbrev hW:Stmt:=top 20
noncomputable abbrev fZ:Stmt:=top 21
noncomputable abbrev jZ:Stmt:=top 22
noncomputable abbrev mF:Stmt:=top 23
noncomputable abbrev rF:Stmt:=top 24
noncomputable abbrev rG:Stmt:=top 25
noncomputable abbrev tM:Stmt:=top 8
noncomputable abbrev aG3:Stmt:=top 9
noncomputable abbrev gB:Stmt:=top 10
noncomputable abbrev oN:Stmt:=sQ (top 4) 0
noncomputable abbrev oO:Stmt:=top 12
noncomputable abbrev hX:Stmt:=top 29
noncomputable abbrev xU:Stmt:=top 30
noncomputable abbrev rH:Stmt:=top 31
noncomputable abbrev kA:Stmt:=top 27
noncomputable abbrev mG:Stmt:=top 28
noncomputable abbrev dB4:Stmt:=top 32
structure Adr where
 BadHouse:Addr
 BadQuestion:Addr
 BadTable:Addr
 NoRow:Addr
 RowsError:Addr
 a2y:Addr
 a1A:FuncData
 a1J:Addr
 a0V:FuncData
 a1y:Addr
 a0L:FuncData
 a1P:Addr
 a1o:FuncData
 a0E:Addr
 a0r:FuncData
 a0N:Addr
 a0B:FuncData
 a0P:Addr
 a0y:FuncData
 a0J:Addr
 a0s:FuncData
 a0K:Addr
 a0u:FuncData
 a1v:Addr
 a0S:FuncData
 a1L:Addr
 a1p:FuncData
 a1T:Addr
 a1l:FuncData
 a0t:Addr
 a1x:FuncData
 a0Z:Addr
 a1V:FuncData
 a0m:Addr
 a0w:FuncData
 a1r:Addr
 a0T:FuncData
 a0p:Addr
 a0U:FuncData
 a0O:Addr
 a0z:FuncData
 a2E:Addr
 a1z:FuncData
 a1K:Addr
 a1q:FuncData
 a1m:Addr
 a0I:FuncData
 a1u:Addr
 a0R:FuncData
 law:Addr
 a2R:FuncData
structure Txt(K:W.Frag)(mg:Str->Option Value)(a:Adr):Prop where
 a2l:mg "BadHouse"=some (.ref a.BadHouse)
 a2m:W.nsIn K mainGlobals "BadHouse"=some (some (.ref a.BadHouse))
 a2M:aS6 K a.BadHouse=true
 a2F:W.keepIn K (.ref a.BadHouse)=true
 a2H:W.typeIn K (.ref a.BadHouse)=some (.type "type")
 a1Z:aN4 K a.BadHouse a.a1r bmV "ValueError.__new__"=true
 a2z:W.isFn K (.ref a.a1r)=true
 a2n:mg "BadQuestion"=some (.ref a.BadQuestion)
 a2J:mg "BadTable"=some (.ref a.BadTable)
 a2T:mg "NoRow"=some (.ref a.NoRow)
 a1M:mg "RowsError"=some (.ref a.RowsError)
 a2t:uQ K a.RowsError=true
 a1S:W.findIn K (.ref a.BadHouse) "table"=some none
 a2x:fS K a.BadHouse (.ref a.BadHouse)=some true
 a2w:W.kitOne K (.ref a.BadHouse) (.ref a.RowsError)=some true
 a2C:W.kitOne K (.ref a.BadHouse) (.type "ValueError")=some true
 a2G:W.kitAny K (.ref a.BadHouse) [.ref a.BadQuestion,.ref a.BadTable,.ref a.NoRow]=some false
 a2N:mg "_law_box"=some (.ref a.a2y)
 a1R:Fun K "_law_box" "_law_box" xT a.a2y a.a1A
 a0n:mg "_law_take"=some (.ref a.a1J)
 a0l:Fun K "_law_take" "_law_take" tL a.a1J a.a0V
 a1N:mg "_law_names"=some (.ref a.a1y)
 a0W:Fun K "_law_names" "_law_names" rD a.a1y a.a0L
 a0H:mg "_law_order"=some (.ref a.a1P)
 a0q:Fun K "_law_order" "_law_order" rE a.a1P a.a1o
 a0v:mg "_law_some_columns"=some (.ref a.a0E)
 a0o:Fun K "_law_some_columns" "_law_some_columns" fK a.a0E a.a0r
 a1I:mg "_law_any_tables"=some (.ref a.a0N)
 a0F:Fun K "_law_any_tables" "_law_any_tables" hV a.a0N a.a0B
 a1H:mg "_law_ear_tables"=some (.ref a.a0P)
 a0G:Fun K "_law_ear_tables" "_law_ear_tables" hW a.a0P a.a0y
 a1E:mg "_law_ring_tables"=some (.ref a.a0J)
 a0x:Fun K "_law_ring_tables" "_law_ring_tables" fZ a.a0J a.a0s
 a1X:mg "_law_question"=some (.ref a.a0K)
 a0Q:Fun K "_law_question" "_law_question" jZ a.a0K a.a0u
 a2o:mg "_law_columns"=some (.ref a.a1v)
 a0X:Fun K "_law_columns" "_law_columns" mF a.a1v a.a0S
 a2v:mg "_law_value"=some (.ref a.a1L)
 a1s:Fun K "_law_value" "_law_value" rF a.a1L a.a1p
 a2A:mg "_law_house"=some (.ref a.a1T)
 a1w:Fun K "_law_house" "_law_house" rG a.a1T a.a1l
 a2L:mg "is_value"=some (.ref a.a0t)
 a1B:Fun K "is_value" "is_value" tM a.a0t a.a1x
 a2Q:mg "is_row"=some (.ref a.a0Z)
 a2q:Fun K "is_row" "is_row" aG3 a.a0Z a.a1V
 a1D:mg "first_wrong_row"=some (.ref a.a0m)
 a0A:Fun K "first_wrong_row" "first_wrong_row" gB a.a0m a.a0w
 a1F:Fun K "__init__" "BadHouse.__init__" oN a.a1r a.a0T
 a2u:mg "look_house"=some (.ref a.a0p)
 a1n:Fun K "look_house" "look_house" oO a.a0p a.a0U
 a1G:mg "_law_rows_right"=some (.ref a.a0O)
 a0D:Fun K "_law_rows_right" "_law_rows_right" hX a.a0O a.a0z
 a2O:mg "_law_due"=some (.ref a.a2E)
 a1O:Fun K "_law_due" "_law_due" xU a.a2E a.a1z
 a2B:mg "_law_right"=some (.ref a.a1K)
 a1t:Fun K "_law_right" "_law_right" rH a.a1K a.a1q
 a1Y:mg "_law_bad_rows"=some (.ref a.a1m)
 a0M:Fun K "_law_bad_rows" "_law_bad_rows" kA a.a1m a.a0I
 a2r:mg "_law_changed"=some (.ref a.a1u)
 a0Y:Fun K "_law_changed" "_law_changed" mG a.a1u a.a0R
 a2Z:mg "law"=some (.ref a.law)
 a2W:Fun K "law" "law" dB4 a.law a.a2R
 a2s:mg "ValueError"=none
 a2X:mg "all"=none
 a2V:mg "bool"=none
 a2D:mg "enumerate"=none
 a2U:mg "int"=none
 a0C:mg "isinstance"=none
 a2p:mg "len"=none
 a2I:mg "list"=none
 a2Y:mg "max"=none
 a2S:mg "min"=none
 a1C:mg "range"=none
 a3l:mg "set"=none
 a2P:mg "sorted"=none
 a1U:mg "tuple"=none
 a3m:mg "zip"=none
 a2K:∃ t,mg "GREATEST"=some (.int 999 t)
def rJ:bootBuiltins "ValueError"=some (.type "ValueError"):=by decide +kernel
def bK8:bootBuiltins "all"=some (.builtin "all"):=by decide +kernel
def aY1:bootBuiltins "bool"=some (.type "bool"):=by decide +kernel
def sH:bootBuiltins "enumerate"=some (.type "enumerate"):=by decide +kernel
def aG4:bootBuiltins "int"=some (.type "int"):=by decide +kernel
def cF:bootBuiltins "isinstance"=some (.builtin "isinstance"):=by decide +kernel
def eR:bootBuiltins "len"=some (.builtin "len"):=by decide +kernel
def mH:bootBuiltins "list"=some (.type "list"):=by decide +kernel
def bK9:bootBuiltins "max"=some (.builtin "max"):=by decide +kernel
def vF:bootBuiltins "min"=some (.builtin "min"):=by decide +kernel
def bL0:bootBuiltins "set"=some (.type "set"):=by decide +kernel
def aA1:bootBuiltins "sorted"=some (.builtin "sorted"):=by decide +kernel
def gC:bootBuiltins "tuple"=some (.type "tuple"):=by decide +kernel
def bL1:bootBuiltins "zip"=some (.type "zip"):=by decide +kernel
local macro_rules | `(tactic| walk_at "s")=>`(tactic| exact⟨rfl,rfl,rfl,by decide +kernel,rfl,by decide +kernel,by decide +kernel⟩)
def tN:FnScope ["_law_script","_law_k","_law_cell","_law_seed"] ["_law_script","_law_k"] (aJ xT):=by walk_at "s"
def gW:FnScope ["_law_box_here","_law_many","_law_digit","_law_one"] ["_law_box_here","_law_many"] (aJ tL):=by walk_at "s"
def oP:FnScope ["_law_box_here","_law_many","_law_letters","_law_stem","_law_at","_law_first","_law_form","_law_x","_law_y","_law_z","_law_some","_law_found","_law_k","_law_word","_law_own"] ["_law_box_here","_law_many"] (aJ rD):=by walk_at "s"
def oQ:FnScope ["_law_box_here","_law_things","_law_left","_law_found"] ["_law_box_here","_law_things"] (aJ rE):=by walk_at "s"
def fB:FnScope ["_law_box_here","_law_names_here","_law_many"] ["_law_box_here","_law_names_here","_law_many"] (aJ fK):=by walk_at "s"
def gD:FnScope ["_law_box_here","_law_names_here","_law_pool","_law_found","_law_k"] ["_law_box_here","_law_names_here"] (aJ hV):=by walk_at "s"
def gF:FnScope ["_law_box_here","_law_names_here","_law_left","_law_found","_law_k","_law_own","_law_one","_law_j"] ["_law_box_here","_law_names_here"] (aJ hW):=by walk_at "s"
def fL:FnScope ["_law_box_here","_law_names_here","_law_many","_law_ring","_law_sets","_law_one","_law_own","_law_k","_law_column"] ["_law_box_here","_law_names_here"] (aJ fZ):=by walk_at "s"
def jB:FnScope ["_law_box_here","_law_kind","_law_columns_here","_law_tables","_law_way","_law_sets"] ["_law_box_here","_law_kind"] (aJ jZ):=by walk_at "s"
def kB:FnScope ["_law_question_here","_law_found","_law_kt","_law_own","_law_column"] ["_law_question_here"] (aJ mF):=by walk_at "s"
def oR:FnScope ["_law_box_here","_law_span","_law_value_here"] ["_law_box_here","_law_span"] (aJ rF):=by walk_at "s"
def oS:FnScope ["_law_box_here","_law_question_here","_law_ceiling","_law_columns_here","_law_span","_law_planted","_law_even","_law_room","_law_is_even","_law_found","_law_kt","_law_own","_law_limit","_law_rows","_law_k","_law_column","_law_row"] ["_law_box_here","_law_question_here","_law_ceiling"] (aJ rG):=by walk_at "s"
def rK:FnScope ["number"] ["number"] (aJ tM):=by walk_at "s"
def xV:FnScope ["width","row","number"] ["width","row"] (aJ aG3):=by walk_at "s"
def fM:FnScope ["width","rows","at","row"] ["width","rows"] (aJ gB):=by walk_at "s"
def mI:FnScope ["self","table"] ["self","table"] (aJ oN):=by walk_at "s"
def mJ:FnScope ["question","house","at","pair"] ["question","house"] (aJ oO):=by walk_at "s"
def gG:FnScope ["_law_own","_law_rows","_law_at","_law_row","_law_value_here"] ["_law_own","_law_rows"] (aJ hX):=by walk_at "s"
def tO:FnScope ["_law_question_here","_law_house_here","_law_at","_law_kt","_law_own"] ["_law_question_here","_law_house_here"] (aJ xU):=by walk_at "s"
def oU:FnScope ["_law_question_here","_law_house_here","_law_refused","_law_found","e","_law_own","_law_due_here"] ["_law_question_here","_law_house_here"] (aJ rH):=by walk_at "s"
def jC:FnScope ["_law_box_here","_law_own","_law_rows","_law_one","_law_form","_law_at","_law_place","_law_value_here","_law_column"] ["_law_box_here","_law_own","_law_rows"] (aJ kA):=by walk_at "s"
def kD:FnScope ["_law_box_here","_law_question_here","_law_house_here","_law_form","_law_at","_law_rows"] ["_law_box_here","_law_question_here","_law_house_here"] (aJ mG):=by walk_at "s"
def bW0:FnScope ["_law_script","_law_box_here","_law_question_here","_law_house_here","_law_k","_law_other","_law_turn","_law_rows"] ["_law_script"] (aJ dB4):=by walk_at "s"
@[elab_as_elim] def us1{P:List Value->Prop}{us:List Value}(c:us.length=1)(h:∀ a,P [a]):P us:=by
  cases us with
  | nil=>cases c
  | cons a r=>cases r with
    | nil=>exact h a
    | cons b r=>cases c
@[elab_as_elim] def us2{P:List Value->Prop}{us:List Value}(c:us.length=2)(h:∀ a b,P [a,b]):P us:=by
  cases us with
  | nil=>cases c
  | cons a r=>exact us1 (P:=λr=>P (a::r)) (Nat.succ.inj c) (h a)
@[elab_as_elim] def us3{P:List Value->Prop}{us:List Value}(d:us.length=3)(h:∀ a b c,P [a,b,c]):P us:=by
  cases us with
  | nil=>cases d
  | cons a r=>exact us2 (P:=λr=>P (a::r)) (Nat.succ.inj d) (h a)
section
variable{P:Program}{w:World}{K:W.Frag}{mg:Str->Option Value}{base:Heap}{a:Adr}
def aY2(T:Txt K mg a):cZ K a.a1A ["_law_script","_law_k"] []:=T.a1R.binds λ_ _ _ _ _ _ us b=>us2 b λ_ _=>rfl
def aR(T:Txt K mg a):cZ K a.a0V ["_law_box_here","_law_many"] []:=T.a0l.binds λ_ _ _ _ _ _ us b=>us2 b λ_ _=>rfl
def rL(T:Txt K mg a):cZ K a.a0L ["_law_box_here","_law_many"] []:=T.a0W.binds λ_ _ _ _ _ _ us b=>us2 b λ_ _=>rfl
def fC(T:Txt K mg a):cZ K a.a1o ["_law_box_here","_law_things"] []:=T.a0q.binds λ_ _ _ _ _ _ us b=>us2 b λ_ _=>rfl
def dL(T:Txt K mg a):cZ K a.a0r ["_law_box_here","_law_names_here","_law_many"] []:=T.a0o.binds λ_ _ _ _ _ _ us b=>us3 b λ_ _ _=>rfl
def pB(T:Txt K mg a):cZ K a.a0B ["_law_box_here","_law_names_here"] []:=T.a0F.binds λ_ _ _ _ _ _ us b=>us2 b λ_ _=>rfl
def pC(T:Txt K mg a):cZ K a.a0y ["_law_box_here","_law_names_here"] []:=T.a0G.binds λ_ _ _ _ _ _ us b=>us2 b λ_ _=>rfl
def nO(T:Txt K mg a):cZ K a.a0s ["_law_box_here","_law_names_here"] []:=T.a0x.binds λ_ _ _ _ _ _ us b=>us2 b λ_ _=>rfl
def sI(T:Txt K mg a):cZ K a.a0u ["_law_box_here","_law_kind"] []:=T.a0Q.binds λ_ _ _ _ _ _ us b=>us2 b λ_ _=>rfl
def vG(T:Txt K mg a):cZ K a.a0S ["_law_question_here"] []:=T.a0X.binds λ_ _ _ _ _ _ us b=>us1 b λ_=>rfl
def aA2(T:Txt K mg a):cZ K a.a1p ["_law_box_here","_law_span"] []:=T.a1s.binds λ_ _ _ _ _ _ us b=>us2 b λ_ _=>rfl
def aA3(T:Txt K mg a):cZ K a.a1l ["_law_box_here","_law_question_here","_law_ceiling"] []:=T.a1w.binds λ_ _ _ _ _ _ us b=>us3 b λ_ _ _=>rfl
def aM0(T:Txt K mg a):cZ K a.a1x ["number"] []:=T.a1B.binds λ_ _ _ _ _ _ us b=>us1 b λ_=>rfl
def bL2(T:Txt K mg a):cZ K a.a1V ["width","row"] []:=T.a2q.binds λ_ _ _ _ _ _ us b=>us2 b λ_ _=>rfl
def nP(T:Txt K mg a):cZ K a.a0w ["width","rows"] []:=T.a0A.binds λ_ _ _ _ _ _ us b=>us2 b λ_ _=>rfl
def aA4(T:Txt K mg a):cZ K a.a0T ["self","table"] []:=T.a1F.binds λ_ _ _ _ _ _ us b=>us2 b λ_ _=>rfl
def xW(T:Txt K mg a):cZ K a.a0U ["question","house"] []:=T.a1n.binds λ_ _ _ _ _ _ us b=>us2 b λ_ _=>rfl
def pD(T:Txt K mg a):cZ K a.a0z ["_law_own","_law_rows"] []:=T.a0D.binds λ_ _ _ _ _ _ us b=>us2 b λ_ _=>rfl
def aY3(T:Txt K mg a):cZ K a.a1z ["_law_question_here","_law_house_here"] []:=T.a1O.binds λ_ _ _ _ _ _ us b=>us2 b λ_ _=>rfl
def aA5(T:Txt K mg a):cZ K a.a1q ["_law_question_here","_law_house_here"] []:=T.a1t.binds λ_ _ _ _ _ _ us b=>us2 b λ_ _=>rfl
def sJ(T:Txt K mg a):cZ K a.a0I ["_law_box_here","_law_own","_law_rows"] []:=T.a0M.binds λ_ _ _ _ _ _ us b=>us3 b λ_ _ _=>rfl
def vH(T:Txt K mg a):cZ K a.a0R ["_law_box_here","_law_question_here","_law_house_here"] []:=T.a0Y.binds λ_ _ _ _ _ _ us b=>us3 b λ_ _ _=>rfl
end
local macro_rules | `(tactic| walk_at "sx")=>do
 let l:=("pZ uG uE uF dF2 aD2 uH lC aS9 bT6 bT7 bT8".splitOn " ").toArray.map fun s=>Lean.mkIdent s.toName
 let m:=("Int.reducePow Int.reduceNeg Int.reduceLT Int.reduceLE Int.reduceAdd".splitOn " ").toArray.map fun s=>Lean.mkIdent s.toName
 `(tactic| simp only[$[↓$l:ident],*,$[$m:ident],*])
local macro_rules | `(tactic| walk_at "sy")=>do
 let l:=("uG uE uF dF2 aD2 uH lC aS9 bT6 bT7 bT8".splitOn " ").toArray.map fun s=>Lean.mkIdent s.toName
 let m:=("Int.reducePow Int.reduceNeg Int.reduceLT Int.reduceLE Int.reduceAdd".splitOn " ").toArray.map fun s=>Lean.mkIdent s.toName
 `(tactic| simp only[$[↓$l:ident],*,$[$m:ident],*])
section
variable{P:Program}{w:World}{K:W.Frag}{mg:Str->Option Value}{base:Heap}{a:Adr}
def vI(T:Txt K mg a):FnOk P w K mg base CX0 1 a.a1r a.a0T ["self","table"] (uT K):=by
 refine T.a1F.ok mI (λvs H Q E h=>?_) (λcdv A outer s H vs Q E m h=>?_);obtain⟨e,C,b,i,rfl,_⟩:=h;rfl;obtain⟨e,C,b,z,rfl,c,f,g,j,d,k⟩:=h;have nd:=mI.nd;refine⟨_,(aM (gL (cB5 K rfl T.a2t (by rfl) T.a1M (aA (pv 0) (aA (cT5 (pv 1)) aI))))
  (aV (dI6 K rfl (pv 0) (pv 1)))),?_⟩
 rw[show cT ["self","table"] [.ref e,.str z]=([some (.ref e),some (.str z)]:St)from rfl]
 try walk_at "sx"
 exact⟨z,rfl,by have:=d.1;lia,d.2,λl=>⟨e,C,b,.none,l,rfl,c,g,e,C,.none,rfl,c,f,j,k⟩⟩
end
end Mr
namespace Sx
open PySem PySem.SetTable
noncomputable def gS:Nat->Nat
 | 0=>0
 | n+1=>5*gS n+1
def xX(n:Nat):4*gS n+1=5 ^ n:=by
 induction n with
 | zero=>rfl
 | succ n a=>rw[a4h,← a];show 4*(5*gS n+1)+1=_;lia
def bW1(a b:Nat):gS (a+b)=gS a*5 ^ b+gS b:=by
 have d:=xX (a+b);have c:=xX a;have e:=xX b;have f:(5:Nat) ^ (a+b)=5 ^ a*5 ^ b:=Nat.pow_add ..;have g:4*(gS a*5 ^ b)+5 ^ b=5 ^ a*5 ^ b:=by rw[← c,Nat.add_mul,Nat.one_mul,a5k]
 lia
def aG5(n:Nat):5 ^ n % 4=1:=by
 have:=xX n;lia
def dB5(n:Nat)(h:n % 2=1):gS n % 2=1:=by
 have a:∀ m,gS m % 2=m % 2:=λm=>by
  induction m with
  | zero=>rfl
  | succ m b=>show(5*gS m+1) % 2=_;lia
 rw[a n,h]
def tP{a b k:Nat}(c:b % 2=1)(h:2 ^ k ∣ a*b):2 ^ k ∣ a:=by
 have d:Nat.Coprime (2 ^ k) b:=by
  refine Nat.Coprime.pow_left k ?_;have:Nat.gcd 2 b=1:=by
   rw[Nat.gcd_rec,c];rfl
  exact this
 exact Nat.Coprime.dvd_of_dvd_mul_right d h
theorem bW2:∀ (k n:Nat),2 ^ k ∣ gS n->2 ^ k ∣ n
 | 0,n,_=>by rw[Nat.pow_zero];exact Nat.one_dvd n
 | k+1,n,h=>by
   rcases Nat.mod_two_eq_zero_or_one n with e | e
   ·obtain⟨m,rfl⟩:∃ m,n=m+m:=⟨n / 2,by lia⟩;rw[bW1]at h;have f:=aG5 m;obtain⟨q,a⟩:∃ q,5 ^ m+1=2*q:=⟨(5 ^ m+1) / 2,by lia⟩;have b:q % 2=1:=by lia
    have c:gS m*5 ^ m+gS m=2*(gS m*q):=by
     have:gS m*5 ^ m+gS m=gS m*(5 ^ m+1):=by rw[Nat.mul_add,Nat.mul_one]
     rw[this,a,Nat.mul_left_comm]
    rw[c,a4h,a5i (2 ^ k) 2]at h;have d:2 ^ k ∣ gS m*q:=Nat.dvd_of_mul_dvd_mul_left (by decide) h;have g:=bW2 k m (tP b d);have i:m+m=2*m:=by lia
    rw[i,a4h,a5i (2 ^ k) 2];exact Nat.mul_dvd_mul_left 2 g
   ·exfalso;have o:=dB5 n e;have:2 ∣ gS n:=Nat.dvd_trans ⟨2 ^ k,by rw[a4h,a5i]⟩ h;lia
noncomputable def stp(k:Nat):Nat->Nat->Nat
 | 0,x=>x % 2 ^ k
 | n+1,x=>(5*stp k n x+1) % 2 ^ k
def aY4(k n x:Nat):stp k n x=(5 ^ n*x+gS n) % 2 ^ k:=by
 induction n with
 | zero=>simp[stp,gS]
 | succ n a=>
   show(5*stp k n x+1) % 2 ^ k=_;rw[a];have e:5 ^ (n+1)*x+gS (n+1)=5*(5 ^ n*x+gS n)+1:=by
    show _+(5*gS n+1)=_;rw[a4h,a5i (5 ^ n) 5,a5k,Nat.mul_add];lia
   rw[e,Nat.add_mod,Nat.mul_mod];simp[Nat.mul_mod,Nat.add_mod]
def aY5{k x a b:Nat}(ha:a < b)(l:b < 2 ^ k)(h:stp k a x=stp k b x):False:=by
 rw[aY4,aY4]at h;obtain⟨d,rfl⟩:∃ d,b=a+d:=⟨b-a,by lia⟩;have hd:2 ^ k ∣ (5 ^ (a+d)*x+gS (a+d))-(5 ^ a*x+gS a):=by
  exact Nat.dvd_of_mod_eq_zero (Nat.sub_mod_eq_zero_of_mod_eq h.symm)
 have e:(5 ^ (a+d)*x+gS (a+d))-(5 ^ a*x+gS a)=gS d*((4*x+1)*5 ^ a):=by
  have c:=xX d;have g:5 ^ (a+d)*x=gS d*(4*x*5 ^ a)+5 ^ a*x:=by
   rw[Nat.pow_add,← c,a5k,Nat.add_mul,Nat.one_mul,Nat.mul_add];congr 1;rw[a5i (4*x),a5i 4 (gS d),a5k,Nat.mul_left_comm]
  have i:gS (a+d)=gS d*5 ^ a+gS a:=by rw[Nat.add_comm a d,bW1]
  rw[g,i,Nat.add_mul,Nat.one_mul,Nat.mul_add];lia
 rw[e]at hd;have j:((4*x+1)*5 ^ a) % 2=1:=by
  have f:=aG5 a;rw[Nat.mul_mod];have:5 ^ a % 2=1:=by lia
  have:(4*x+1) % 2=1:=by lia
  simp[*]
 have:=Nat.le_of_dvd (by lia) (bW2 k d (tP j hd));lia
theorem vJ:∀ (N:Nat) (f:Nat->Nat),(∀ i,i < N->f i < N)->(∀ i j,i < j->j < N->f i≠f j)->∀ c,c < N->∃ i,i < N/\f i=c
 | 0,_,_,_,c,h=>absurd h (a6e c)
 | N+1,f,o,hi,c,r=>by
   by_cases l:∃ i,i < N+1/\f i=c;exact l
   ·exfalso
    -- with c yQ out,and N in its place
    have a:∀ i,i < N+1->f i≠c:=λi h e=>l ⟨i,h,e⟩
    let g:Nat->Nat:=λi=>if f i=N then c else f i
    have m:∀ i,i < N+1->g i < N:=λi h=>by
     show(if f i=N then c else f i) < N;have p:=o i h;have q:=a i h;split;lia;lia
    have n:∀ i j,i < j->j < N+1->g i≠g j:=λi j b d=>by
     show(if f i=N then c else f i)≠if f j=N then c else f j
     have p:=hi i j b d;have q:=a i (by lia);have s:=a j d;split<;>split<;>lia
    obtain⟨i,k,e⟩:=vJ N g (λi h=>m i (by lia)) (λi j b d=>n i j b (by lia)) (g N) (m N (by lia));exact n i N k (by lia) e
def cH0{k x c:Nat}(b:c < 2 ^ k):∃ n,n < 2 ^ k/\stp k n x=c:=
 vJ (2 ^ k) (λn=>stp k n x) (λi _=>by show stp k i x < _;rw[aY4];exact Nat.mod_lt _ (Nat.two_pow_pos k)) (λi j a d e=>aY5 a d e) c b
noncomputable def adv(mask:Nat)(p:Probe):Probe:=
 if p.more > 0 then{p with j:=p.j+1,more:=p.more-1}else
 {p with j:=(leap mask p.i p.perturb).1,more:=runEnd mask (leap mask p.i p.perturb).1-(leap mask p.i p.perturb).1,i:=(leap mask p.i p.perturb).1,perturb:=(leap mask p.i p.perturb).2}
noncomputable def wk0(mask:Nat)(h:Int):Probe:=⟨bits h % (mask+1),runEnd mask (bits h % (mask+1))-bits h % (mask+1),bits h % (mask+1),bits h,none⟩
noncomputable def wk(mask:Nat)(h:Int):Nat->Probe
 | 0=>wk0 mask h
 | n+1=>adv mask (wk mask h n)
noncomputable def lp(mask:Nat)(h:Int):Nat->Nat×Nat
 | 0=>(bits h % (mask+1),bits h)
 | l+1=>leap mask (lp mask h l).1 (lp mask h l).2
noncomputable def rY(mask i:Nat):Nat:=runEnd mask i-i
def cH1(mask i:Nat):rY mask i<=9:=by unfold rY runEnd;split<;>lia
noncomputable def tm(mask:Nat)(h:Int):Nat->Nat
 | 0=>0
 | l+1=>tm mask h l+rY mask (lp mask h l).1+1
def dK9(mask:Nat)(h:Int)(l:Nat):tm mask h l<=10*l:=by
 induction l with
 | zero=>exact a6a _
 | succ l a=>
   have:=cH1 mask (lp mask h l).1;show tm mask h l+rY mask (lp mask h l).1+1<=_;lia
theorem aY6{mask:Nat}{h:Int}{l:Nat}(e:wk mask h (tm mask h l)=⟨(lp mask h l).1,rY mask (lp mask h l).1,(lp mask h l).1,(lp mask h l).2,none⟩) :
  ∀ r,r<=rY mask (lp mask h l).1->wk mask h (tm mask h l+r)=⟨(lp mask h l).1+r,rY mask (lp mask h l).1-r,(lp mask h l).1,(lp mask h l).2,none⟩
 | 0,_=>e
 | r+1,b=>by
   have a:=aY6 e r (by lia);show adv mask (wk mask h (tm mask h l+r))=_;rw[a];unfold adv;rw[a3p (by show rY mask (lp mask h l).1-r > 0;lia)];congr 1
theorem aA6(mask:Nat)(h:Int):∀ l,wk mask h (tm mask h l)=⟨(lp mask h l).1,rY mask (lp mask h l).1,(lp mask h l).1,(lp mask h l).2,none⟩
 | 0=>rfl
 | l+1=>by
   have a:=aY6 (aA6 mask h l) (rY mask (lp mask h l).1) (a6a _);show adv mask (wk mask h (tm mask h l+rY mask (lp mask h l).1))=_;rw[a];unfold adv;rw[a3q (by show ¬ rY mask (lp mask h l).1-rY mask (lp mask h l).1 > 0;lia)];rfl
theorem aY7(mask:Nat)(h:Int):∀ l,(lp mask h l).2=bits h / 32 ^ l
 | 0=>by show bits h=_;simp
 | l+1=>by
   show(lp mask h l).2 / 32=_;rw[aY7 mask h l,Nat.div_div_eq_div_mul,a4h]
def cH2(h:Int):bits h < 2 ^ 64:=by
 unfold bits;have a:=a8h h (b:=2 ^ 64) (by decide);have c:=a1g h (b:=2 ^ 64) (by decide);lia
def cH3(mask:Nat)(h:Int){l:Nat}(a:13<=l):(lp mask h l).2=0:=by
 rw[aY7];refine Nat.div_eq_of_lt (a5b (cH2 h) ?_);refine a8b (by decide:2 ^ 64<=32 ^ 13) (Nat.pow_le_pow_right (by decide) a)
def dB6(mask:Nat)(h:Int):∀ l,(lp mask h l).1 < mask+1
 | 0=>Nat.mod_lt _ (Nat.succ_pos _)
 | l+1=>Nat.mod_lt _ (Nat.succ_pos _)
theorem aY8{mask k:Nat}(a:mask+1=2 ^ k)(h:Int):∀ n,(lp mask h (13+n)).1=stp k n (lp mask h 13).1
 | 0=>by
   show _=_ % 2 ^ k;rw[Nat.mod_eq_of_lt (by rw[← a];exact dB6 mask h 13)]
 | n+1=>by
   have e:(lp mask h (13+(n+1))).1=((lp mask h (13+n)).1*5+1+(lp mask h (13+n)).2 / 32) % (mask+1):=rfl;rw[e,cH3 mask h (by lia),aY8 a h n,a];show _=(5*stp k n _+1) % 2 ^ k;rw[a5i 5]
def aY9{mask i:Nat}(hi:i<=mask)(r:Nat)(a:r<=rY mask i):i+r<=mask:=by
 unfold rY runEnd at a;split at a<;>lia
theorem cH4{mask:Nat}(h:Int):∀ n,(wk mask h n).dummy=none/\(wk mask h n).j+(wk mask h n).more<=mask
 | 0=>⟨rfl,by
   have a:bits h % (mask+1)<=mask:=a0g (Nat.mod_lt _ (Nat.succ_pos _));exact aY9 a _ (a6a _)⟩
 | n+1=>by
   obtain⟨a,b⟩:=cH4 (mask:=mask) h n;show(adv mask (wk mask h n)).dummy=none/\(adv mask (wk mask h n)).j+(adv mask (wk mask h n)).more<=mask;unfold adv;split;refine⟨a,?_⟩;show(wk mask h n).j+1+((wk mask h n).more-1)<=mask;lia;refine⟨a,?_⟩;exact aY9 (a0g (Nat.mod_lt _ (Nat.succ_pos _))) _ (a6a _)
def dB7{mask:Nat}(h:Int)(n:Nat):(wk mask h n).j<=mask:=by
 have:=(cH4 (mask:=mask) h n).2;lia
def Ris(xs:Array Nat):Prop:=∀ (i j:Nat) (a b:Nat),i < j->xs[i]? = some a->xs[j]? = some b->a < b
structure Cut(xs:Array Nat)(j r:Nat):Prop where
 le:r<=xs.size
 lo:∀ (i a:Nat),i < r->xs[i]? = some a->a < j
 hi:∀ (i a:Nat),r<=i->xs[i]? = some a->j<=a
theorem vK{xs:Array Nat}{j:Nat}(hs:Ris xs):∀ (b lo hi:Nat),hi-lo<=b->lo<=hi->hi<=xs.size->(∀ (i a:Nat),i < lo->xs[i]? = some a->a < j)->(∀ (i a:Nat),hi<=i->xs[i]? = some a->j<=a)->Cut xs j (below.go xs j b lo hi)
 | 0,lo,hi,hf,hl,c,d,f=>by
   have:lo=hi:=by lia
   subst this;exact⟨c,d,f⟩
 | b+1,lo,hi,hf,hl,c,d,f=>by
   unfold below.go;split
   ·rename_i k;have hm:(lo+hi) / 2 < xs.size:=by lia
    have em:xs[(lo+hi) / 2]? = some xs[(lo+hi) / 2]:=a3c hm;have l:xs.getD ((lo+hi) / 2) j=xs[(lo+hi) / 2]:=by rw[a9h,em];rfl
    dsimp only;rw[l];split;rename_i g;refine vK hs b _ hi (by lia) (by lia) c (λi a h e=>?_) f;by_cases z:i=(lo+hi) / 2;subst z;rw[em]at e;cases e;exact g;exact a4i (hs i _ a _ (by lia) e em) g;rename_i g;refine vK hs b lo _ (by lia) (by lia) (by lia) d (λi a h e=>?_);by_cases z:i=(lo+hi) / 2;subst z;rw[em]at e;cases e;lia;have:=hs _ i _ a (by lia) em e;lia
   ·have:lo=hi:=by lia
    subst this;exact⟨c,d,f⟩
def jD{xs:Array Nat}(hs:Ris xs)(j:Nat):Cut xs j (below xs j):=
 vK hs _ _ _ (by lia) (by lia) (a6a _) (λi a h _=>absurd h (a6e _)) λi a h e=>by
  have:=(a6d.mp e).1;lia
def fN{xs:Array Nat}(hs:Ris xs){i j:Nat}(h:xs[i]? = some j):below xs j=i:=by
 have c:=jD hs j;have d:below xs j<=i:=by
  refine a8j λz=>?_;have:=c.lo i j z h;lia
 have e:i<=below xs j:=by
  refine a8j λz=>?_;have b:below xs j < xs.size:=a4i z (a6d.mp h).1;have a:xs[below xs j]? = some xs[below xs j]:=a3c b;have:=hs _ i _ j z a h;have:=c.hi _ _ (a6a _) a;lia
 lia
def rM{t:SetTable}(hs:Ris t.place){i j:Nat}(h:t.place[i]? = some j):t.slot j=.live i:=by
 unfold slot;dsimp only;rw[fN hs h,h];simp
def aM1{t:SetTable}(hd:t.dummies=#[]){j:Nat}(h:∀ i:Nat,t.place[i]? ≠ some j):t.slot j=.empty:=by
 unfold slot;dsimp only;rw[a3q (by simpa using h _),if_neg (by rw[hd];simp[has])]
def Occ(t:SetTable)(j:Nat):Prop:=∃ i:Nat,t.place[i]? = some j
structure TOk(t:SetTable)(hs:List Int):Prop where
 pw:∃ k,t.mask+1=2 ^ k
 m7:7<=t.mask
 dm:t.dummies=#[]
 ri:Ris t.place
 lt:∀ (i j:Nat),t.place[i]? = some j->j<=t.mask
 len:t.place.size=hs.length
 fit:t.place.size<=t.mask
 rea:∀ (i:Nat) h,hs[i]? = some h->∃ m j,t.place[i]? = some j/\(wk t.mask h m).j=j/\∀ m',m' < m->Occ t (wk t.mask h m').j
section
variable{t:SetTable}{hs:List Int}
end
theorem aZ0{t:SetTable}{hs:List Int}(T:TOk t hs){h:Int}{hashAt:Nat->Int}{M:Nat}(q:¬ Occ t (wk t.mask h M).j)(r:∀ m,m < M->Occ t (wk t.mask h m).j) :
  ∀ (a n:Nat),n<=M->M-n < a ->
    (∃ m i,n<=m/\m < M/\t.place[i]? = some (wk t.mask h m).j/\hashAt i=h/\(∀ m' b,n<=m'->m' < m->t.place[b]? = some (wk t.mask h m').j->hashAt b≠h)/\probe.go t hashAt h a (wk t.mask h n)=some (.candidate (wk t.mask h m).j i (wk t.mask h (m+1)))) \/
    ((∀ m' b,n<=m'->m' < M->t.place[b]? = some (wk t.mask h m').j->hashAt b≠h)/\probe.go t hashAt h a (wk t.mask h n)=some (.empty (wk t.mask h M).j none))
 | 0,n,_,hf=>by lia
 | a+1,n,hn,hf=>by
   have g:=(cH4 (mask:=t.mask) h n).1;unfold probe.go;by_cases k:n=M;subst k;refine .inr ⟨λm' b l c=>by lia,?_⟩;have:t.slot (wk t.mask h n).j=.empty:=aM1 T.dm λi e=>q ⟨i,e⟩;rw[this];dsimp only;rw[g]
   ·obtain⟨i,o⟩:=r n (by lia);have p:=rM T.ri o;rw[p];dsimp only;by_cases d:hashAt i=h;refine .inl ⟨n,i,a6a _,by lia,o,d,λm' b l c=>by lia,?_⟩;rw[a3p (by simpa using d)];rfl
    ·rw[a3q (by simpa using d)];have f:∀ b,t.place[b]? = some (wk t.mask h n).j->b=i:=λb e=>by
      rw[← fN T.ri e,← fN T.ri o]
     rcases aZ0 T q r a (n+1) (by lia) (by lia)with⟨m,i2,a1,a2,s,u,v,w⟩ | ⟨a1,a2⟩;refine .inl ⟨m,i2,by lia,a2,s,u,λm' b l c e=>?_,w⟩;by_cases z:m'=n;subst z;rw[f b e];exact d;exact v m' b (by lia) c e;refine .inr ⟨λm' b l c e=>?_,a2⟩;by_cases z:m'=n;subst z;rw[f b e];exact d;exact a1 m' b (by lia) c e
def fP{b:Type}(xs:Array b){p:Nat}(h:p<=xs.size)(x:b)(i:Nat):(insertAt xs p x)[i]? = if i < p then xs[i]? else if i=p then some x else xs[i-1]?:=by
 rw[← a6c,toList_insertAt];have e:(xs.toList.take p).length=p:=by rw[a7d,a1e];lia
 by_cases a:i < p;rw[a3p a,a9f (by lia),List.getElem?_take_of_lt a,a6c];rw[a3q a,a7f (by lia),e];by_cases c:i=p;subst c;rw[a3p rfl,Nat.sub_self];rfl;rw[a3q c];obtain⟨d,rfl⟩:∃ d,i=p+1+d:=⟨i-p-1,by lia⟩;have f:p+1+d-p=d+1:=by lia
 have g:p+1+d-1=p+d:=by lia
 rw[f,g,a8d,List.getElem?_drop,a6c]
def pP{a:Type}(xs:Array a){p:Nat}(b:p<=xs.size)(x:a):(insertAt xs p x).size=xs.size+1:=by
 rw[← a1e,toList_insertAt,a6b,a1h,a7d,a0h,a1e];lia
noncomputable def aA7{α:Type}(l:List α)(p:Nat)(x:α):List α:=l.take p++x::l.drop p
def aG6{a:Type}(l:List a){p:Nat}(b:p<=l.length)(x:a)(i:Nat):(aA7 l p x)[i]? = if i < p then l[i]? else if i=p then some x else l[i-1]?:=by
 have:=fP l.toArray (p:=p) (by simpa using b) x i;rw[← a6c,toList_insertAt]at this;simpa[aA7]using this
def rN{a:Type}(l:List a){p:Nat}(b:p<=l.length)(x:a):(aA7 l p x).length=l.length+1:=by
 unfold aA7;rw[a6b,a1h,a7d,a0h];lia
section
variable{t:SetTable}{hs:List Int}{h:Int}{M:Nat}
def xY(t:SetTable)(j:Nat)(hd:t.dummies=#[]):t.put j=({t with place:=insertAt t.place (below t.place j) j},below t.place j):=by
 unfold put;dsimp only;rw[hd];rfl
def cH5{t t':SetTable}{j c:Nat}(a:below t.place j<=t.place.size)(e:t'.place=insertAt t.place (below t.place j) j):Occ t' c↔Occ t c\/c=j:=by
 constructor;rintro⟨i,hi⟩;rw[e,fP _ a]at hi;split at hi;exact .inl ⟨i,hi⟩;split at hi;exact .inr (a5a hi).symm;exact .inl ⟨i-1,hi⟩;rintro(⟨i,hi⟩ | rfl);by_cases b:i < below t.place j;exact⟨i,by rw[e,fP _ a,a3p b];exact hi⟩;exact⟨i+1,by rw[e,fP _ a,a3q (by lia),a3q (by lia)];exact hi⟩;exact⟨below t.place c,by rw[e,fP _ a,a3q (by lia),a3p rfl]⟩
theorem TOk.put(T:TOk t hs)(q:¬ Occ t (wk t.mask h M).j)(r:∀ m,m < M->Occ t (wk t.mask h m).j)(s:t.place.size+1<=t.mask) :
  TOk (t.put (wk t.mask h M).j).1 (aA7 hs (below t.place (wk t.mask h M).j) h):=by
 have c:=jD T.ri (wk t.mask h M).j;rw[xY t _ T.dm];have l:=c.le;have n:below t.place (wk t.mask h M).j<=hs.length:=by rw[← T.len];exact l
 have g:∀ x,Occ {t with place:=insertAt t.place (below t.place (wk t.mask h M).j) (wk t.mask h M).j} x↔Occ t x\/x=(wk t.mask h M).j:=λx=>cH5 l rfl;refine⟨T.pw,T.m7,T.dm,?_,?_,?_,?_,?_⟩
 ·intro i1 i2 a b hi f d;have p:∀ i a,t.place[i]? = some a->a≠(wk t.mask h M).j:=λi a e z=>q ⟨i,by rw[e,z]⟩;dsimp only at f d;rw[fP _ l]at f d;generalize (wk t.mask h M).j=j at *;split at f;split at d;exact T.ri _ _ _ _ hi f d;split at d;cases d;exact c.lo _ _ (by assumption) f;exact T.ri _ _ _ _ (by lia) f d;split at f;cases f;rw[a3q (by lia),a3q (by lia)]at d;have C:=c.hi _ _ (by lia:below t.place a<=i2-1) d;have D:=p _ _ d;lia;rw[a3q (by lia),a3q (by lia)]at d;exact T.ri _ _ _ _ (by lia) f d
 ·intro i j e;rcases(g j).mp ⟨i,e⟩with⟨u,v⟩ | rfl;exact T.lt u j v;exact dB7 h M
 ·show(insertAt _ _ _).size=_;rw[pP _ l,rN _ n,T.len]
 ·show(insertAt _ _ _).size<=_;rw[pP _ l];exact s
 ·intro i h' e;rw[aG6 _ n]at e;show ∃ m j,(insertAt t.place (below t.place (wk t.mask h M).j) (wk t.mask h M).j)[i]? = some j/\_;rw[fP _ l];have old:∀ o,hs[o]? = some h'->∃ m j,t.place[o]? = some j/\(wk t.mask h' m).j=j/\∀ m',m' < m->Occ {t with place:=insertAt t.place (below t.place (wk t.mask h M).j) (wk t.mask h M).j} (wk t.mask h' m').j:=λo w=>by
   obtain⟨m,j,y,A,B⟩:=T.rea o h' w;exact⟨m,j,y,A,λm' k=>(g _).mpr (.inl (B m' k))⟩
  split at e;rw[a3p (by assumption)];exact old i e;split at e;cases e;rw[a3q (by assumption),a3p (by assumption)];exact⟨M,_,rfl,rfl,λm' k=>(g _).mpr (.inl (r m' k))⟩;rw[a3q (by assumption),a3q (by assumption)];exact old (i-1) e
end
def aM2(ow:Array (Option Nat))(j:Nat):Prop:=∃ k,ow[j]? = some (some k)
structure LOk(mask:Nat)(ow:Array (Option Nat))(hs:List Int):Prop where
 sz:ow.size=mask+1
 bd:∀ (j k:Nat),ow[j]? = some (some k)->k < hs.length
 one:∀ (j j' k:Nat),ow[j]? = some (some k)->ow[j']? = some (some k)->j=j'
 rea:∀ (k:Nat) h,hs[k]? = some h->∃ m,ow[(wk mask h m).j]? = some (some k)/\∀ m',m' < m->aM2 ow (wk mask h m').j
def dL0{ow:Array (Option Nat)}{j:Nat}(b:j < ow.size):(ow.getD j (some 0)).isNone=true↔¬ aM2 ow j:=by
 have e:ow[j]? = some ow[j]:=a3c b;rw[a9h,e];show ow[j].isNone=true↔_;constructor;rintro h ⟨k,a⟩;rw[e]at a;rw[a5a a]at h;cases h;intro h;cases c:ow[j]with
 | none=>rfl
 | some k=>exact absurd ⟨k,by rw[e,c]⟩ h
theorem xZ{mask:Nat}{ow:Array (Option Nat)}(hs:ow.size=mask+1)(h:Int){L:Nat}(n:¬ aM2 ow (lp mask h L).1) :
  ∀ (fuel l:Nat),l<=L->L < l+fuel->(∀ m,m < tm mask h l->aM2 ow (wk mask h m).j) ->
    ∃ M,layClean.free mask ow fuel (lp mask h l).1 (lp mask h l).2=some (wk mask h M).j/\¬ aM2 ow (wk mask h M).j/\∀ m,m < M->aM2 ow (wk mask h m).j
 | 0,l,p,q,_=>by lia
 | fuel+1,l,p,q,o=>by
   have b:∀ r,r<=rY mask (lp mask h l).1->(lp mask h l).1+r < ow.size:=λr e=>by
    have:=aY9 (a0g (dB6 mask h l)) r e;lia
   have f:runEnd mask (lp mask h l).1+1-(lp mask h l).1=rY mask (lp mask h l).1+1:=by
    unfold rY runEnd;split<;>lia
   have g:∀ r,r<=rY mask (lp mask h l).1->(wk mask h (tm mask h l+r)).j=(lp mask h l).1+r:=λr e=>by rw[aY6 (aA6 mask h l) r e]
   unfold layClean.free;split
   ·rename_i k i;obtain⟨s,t,u⟩:=List.find?_range_eq_some.mp i;rw[a2e,f]at t;have c:k<=rY mask (lp mask h l).1:=by lia
    refine⟨tm mask h l+k,by rw[g k c],?_,λm hm=>?_⟩;rw[g k c];exact(dL0 (b k c)).mp s;by_cases d:m < tm mask h l;exact o m d;obtain⟨r,rfl⟩:∃ r,m=tm mask h l+r:=⟨m-tm mask h l,by lia⟩;rw[g r (by lia)];have:=u r (by lia);refine a0f λz=>?_;rw[(dL0 (b r (by lia))).mpr z]at this;cases this
   ·rename_i i;have a:∀ r,r<=rY mask (lp mask h l).1->aM2 ow ((lp mask h l).1+r):=λr e=>by
     have:=List.find?_eq_none.mp i r (by rw[a2e,f];lia);exact a0f λz=>this ((dL0 (b r e)).mpr z)
    have v:l≠L:=λz=>by
     subst z;exact n (by simpa using a 0 (a2d _))
    refine xZ hs h n fuel (l+1) (by lia) (by lia) λm hm=>?_;have w:m < tm mask h l+rY mask (lp mask h l).1+1:=hm;by_cases d:m < tm mask h l;exact o m d;obtain⟨r,rfl⟩:∃ r,m=tm mask h l+r:=⟨m-tm mask h l,by lia⟩;rw[g r (by lia)];exact a r (by lia)
section
variable{mask:Nat}{ow:Array (Option Nat)}{hs:List Int}
def LOk.free(T:LOk mask ow hs)(hn:hs.length<=mask):∃ c,c<=mask/\¬ aM2 ow c:=by
 refine a0f λl=>?_;have d:∀ c,c<=mask->aM2 ow c:=λc m=>a0f λz=>l ⟨c,m,z⟩
 let f:Nat->Nat:=λc=>(ow.getD c none).getD 0
 have j:∀ c,c<=mask->ow[c]? = some (some (f c)):=λc m=>by
  obtain⟨k,e⟩:=d c m;have:f c=k:=by
   show(ow.getD c none).getD 0=k;rw[a9h,e];rfl
  rw[this];exact e
 have n:∀ a b,a < b->b<=mask->f a≠f b:=λa b g o e=>by
  have p:=j a (by lia);rw[e]at p;have:=T.one a b _ p (j b o);lia
 obtain⟨i,hi,e⟩:=vJ hs.length f (λi h=>T.bd _ _ (j i (by lia))) (λa b g o=>n a b g (by lia)) (f hs.length) (T.bd _ _ (j hs.length hn));exact n i hs.length hi hn e
def LOk.lay{k:Nat}(s:mask+1=2 ^ k)(T:LOk mask ow hs)(hn:hs.length<=mask)(h:Int):∃ j,layClean.free mask ow (turns mask) (bits h % (mask+1)) (bits h)=some j/\LOk mask (ow.setIfInBounds j (some hs.length)) (hs++[h]):=by
 obtain⟨c,C,t⟩:=T.free hn;obtain⟨n,u,e⟩:=cH0 (k:=k) (x:=(lp mask h 13).1) (c:=c) (by lia);have v:¬ aM2 ow (lp mask h (13+n)).1:=by rw[aY8 s h n,e];exact t
 obtain⟨M,w,q,y⟩:=xZ T.sz h v (turns mask) 0 (a2d _) (by show 13+n < 0+(mask+15);lia) (λm hm=>absurd hm (a6e _));refine⟨_,w,?_⟩;have A:(wk mask h M).j < ow.size:=by rw[T.sz];exact Nat.lt_succ_of_le (dB7 h M)
 have g:∀ c,(ow.setIfInBounds (wk mask h M).j (some hs.length))[c]? = if(wk mask h M).j=c then some (some hs.length)else ow[c]?:=λc=>by
  rw[Array.getElem?_setIfInBounds];split
  ·first | rfl | rw[a3p A]
  ·rfl
 have i:∀ {c},aM2 ow c->aM2 (ow.setIfInBounds (wk mask h M).j (some hs.length)) c:=λ{c} ⟨b,a⟩=>by
  refine⟨b,?_⟩;rw[g,a3q (λz=>q ⟨b,by rw[z];exact a⟩)];exact a
 refine⟨by rw[Array.size_setIfInBounds];exact T.sz,λj b a=>?_,λj j' b l f=>?_,λb h' a=>?_⟩;rw[g]at a;rw[a6b];split at a;cases a;simp;have:=T.bd _ _ a;simp;lia
 ·rw[g]at l f;split at l;cases l;split at f;lia;have:=T.bd _ _ f;lia;split at f;cases f;have:=T.bd _ _ l;lia;exact T.one _ _ _ l f
 ·by_cases o:b < hs.length;rw[a9f o]at a;obtain⟨m,r,B⟩:=T.rea b h' a;refine⟨m,?_,λm' d=>i (B m' d)⟩;rw[g,a3q (λz=>q ⟨b,by rw[z];exact r⟩)];exact r;rw[a7f (by lia)]at a;have p:b=hs.length:=by
   have:=(a3a.mp a).1;simp at this;lia
  subst p;have:h'=h:=by simpa using a.symm
  subst this;exact⟨M,by rw[g,a3p rfl],λm' d=>i (y m' d)⟩
end
theorem mK{mask k:Nat}(b:mask+1=2 ^ k):∀ (bK:List Int) (hs:List Int) (ow:Array (Option Nat)),LOk mask ow hs->hs.length+bK.length<=mask+1 ->
  ∃ a,bK.foldl (λacc h=>do
    let (owner,k) ← acc
    let j ← layClean.free mask owner (turns mask) (bits h % (mask+1)) (bits h)
    pure (owner.setIfInBounds j (some k),k+1)) (some (ow,hs.length))=some (a,hs.length+bK.length)/\LOk mask a (hs++bK)
 | [],hs,ow,T,_=>⟨ow,by simp,by simpa using T⟩
 | h::bK,hs,ow,T,hl=>by
   rw[a1h]at hl;obtain⟨j,e,d⟩:=T.lay b (by lia) h;obtain⟨a,c,f⟩:=mK b bK (hs++[h]) _ d (by rw[a6b,List.length_singleton];lia);refine⟨a,?_,by simpa using f⟩;rw[List.foldl_cons];rw[a6b,List.length_singleton]at c;have g:hs.length+(h::bK).length=hs.length+1+bK.length:=by rw[a1h];lia
   rw[g,← c];congr 1;show((layClean.free mask ow (turns mask) (bits h % (mask+1)) (bits h)).bind λj=>some (ow.setIfInBounds j (some hs.length),hs.length+1))=_;rw[e];rfl
def cH6(mask:Nat):LOk mask (Array.replicate (mask+1) none) []:=by
 refine⟨by simp,λj k e=>?_,λj j' k e=>?_,λk h e=>by simp at e⟩
 all_goals
  rw[Array.getElem?_replicate]at e;split at e<;>cases e
def aZ1{mask k finger moves:Nat}{led plain:Bool}{hashes:Array Int}(J:mask+1=2 ^ k)(M:7<=mask)(hn:hashes.size<=mask) :
  ∃ t order,laid mask finger moves led plain hashes=some (t,order)/\TOk t (order.toList.filterMap (hashes[·]?))/\order.toList.Perm (List.range hashes.size)/\t.mask=mask/\t.place.size=hashes.size/\t.led=led/\t.plain=plain:=by
 obtain⟨ow,e,T⟩:=mK J hashes.toList [] _ (cH6 mask) (by rw[a1e];simp;lia);rw[List.nil_append]at T;have N:layClean mask hashes=some ow:=by
  unfold layClean;rw[← Array.foldl_toList];have u:=e;rw[a5j,a3g]at u;rw[u];rfl
 let g:Nat->Option (Nat×Nat):=λj=>(ow.getD j none).map (j,·)
 have C:∀ j p,g j=some p↔p.1=j/\ow[j]? = some (some p.2):=λj p=>by
  show(ow.getD j none).map (j,·)=some p↔_;rw[a9h];cases K:ow[j]? with
  | none=>simp
  | some o=>
    cases o with
    | none=>simp
    | some D=>
      obtain⟨a,b⟩:=p;simp;intro _;exact⟨λz=>z.symm,λz=>z.symm⟩
 let d:=(List.range (mask+1)).filterMap g
 have mem:∀ p,p∈d↔ow[p.1]? = some (some p.2):=λp=>by
  rw[List.mem_filterMap];constructor;rintro⟨j,_,h⟩;obtain⟨rfl,h'⟩:=(C j p).mp h;exact h';intro h;have:p.1 < mask+1:=by rw[← T.sz];exact(a6d.mp h).1
  exact⟨p.1,a2e.mpr this,(C _ _).mpr ⟨rfl,h⟩⟩
 have pw:d.Pairwise (λa b=>a.1 < b.1):=List.Pairwise.filterMap g (λa Z h b n b' E=>by
  rw[((C _ _).mp n).1,((C _ _).mp E).1];exact h) List.pairwise_lt_range
 have ri:∀ (i j:Nat) p q,i < j->d[i]? = some p->d[j]? = some q->p.1 < q.1:=λi j p q v O P=>by
  obtain⟨hi,rfl⟩:=a3a.mp O;obtain⟨Q,rfl⟩:=a3a.mp P;exact List.pairwise_iff_getElem.mp pw i j hi Q v
 have nd:(d.map (·.2)).Nodup:=by
  rw[List.nodup_iff_pairwise_ne,List.pairwise_map];refine List.Pairwise.imp_of_mem (λ{a b} ha n R e=>?_) pw;have w:=(mem a).mp ha;have y:=(mem b).mp n;rw[← e]at y;have:=T.one _ _ _ w y;lia
 have A:hashes.toList.length=hashes.size:=a1e;have s:(d.map (·.2)).Perm (List.range hashes.size):=(List.perm_ext_iff_of_nodup nd List.nodup_range).mpr λa=>by
  rw[a3h,a2e];constructor;rintro⟨p,x,rfl⟩;rw[← A];exact T.bd _ _ ((mem p).mp x);intro ha;obtain⟨m,w,_⟩:=T.rea a hashes.toList[a] (a0a (by lia));exact⟨((wk mask hashes.toList[a] m).j,a),(mem _).mpr w,rfl⟩
 have L:d.length=hashes.size:=by have:=s.length_eq;simpa using this
 have B:(d.map (·.2)).filterMap (hashes[·]?)=d.map λp=>hashes.toList.getD p.2 0:=by
  have F:∀ l:List (Nat×Nat),(∀ p∈l,p.2 < hashes.toList.length)->(l.map (·.2)).filterMap (hashes[·]?)=l.map λp=>hashes.toList.getD p.2 0:=by
   intro l
   induction l with
   | nil=>intro _;rfl
   | cons p r S=>
     intro n;have w:=n p a4a;have f:hashes[p.2]? = some (hashes.toList.getD p.2 0):=by
      rw[← a6c,a8c,a0a w];rfl
     rw[a7e,a6h,f,a7e,S λq K=>n q (a8a _ K)]
  exact F d λp x=>T.bd _ _ ((mem p).mp x)
 refine⟨⟨mask,(d.map (·.1)).toArray,#[],finger,led,moves,plain⟩,(d.map (·.2)).toArray,?_,?_,s,rfl,by simpa using L,rfl,rfl⟩;unfold laid;rw[N];rfl;have pl:∀ (i j:Nat),(d.map (·.1)).toArray[i]? = some j↔∃ p,d[i]? = some p/\p.1=j:=λi j=>by
  rw[a9d,a4b];exact a5c
 have G:∀ c,Occ (⟨mask,(d.map (·.1)).toArray,#[],finger,led,moves,plain⟩:SetTable) c↔aM2 ow c:=λc=>by
  constructor;rintro⟨i,h⟩;obtain⟨p,f,rfl⟩:=(pl i c).mp h;exact⟨p.2,(mem p).mp (a9b f)⟩;rintro⟨D,h⟩;obtain⟨i,hi,f⟩:=a5g ((mem (c,D)).mpr h);exact⟨i,(pl i c).mpr ⟨(c,D),by rw[a0a hi,f],rfl⟩⟩
 refine⟨⟨k,J⟩,M,rfl,?_,?_,?_,?_,?_⟩;intro i j a b v U V;obtain⟨p,f,rfl⟩:=(pl i a).mp U;obtain⟨q,H,rfl⟩:=(pl j b).mp V;exact ri i j p q v f H;intro i j u;obtain⟨p,f,rfl⟩:=(pl i j).mp u;have w:=(mem p).mp (a9b f);have y:=(a6d.mp w).1;rw[T.sz]at y;exact a0g y;show(d.map (·.1)).toArray.size=((d.map (·.2)).toArray.toList.filterMap (hashes[·]?)).length;rw[show(d.map (·.2)).toArray.toList=d.map (·.2)from rfl,B];simp;show(d.map (·.1)).toArray.size<=mask;simp[L];lia;intro i h' u;rw[show(d.map (·.2)).toArray.toList=d.map (·.2)from rfl,B,a4b]at u;obtain⟨p,f,H⟩:=a5c.mp u;have x:=(mem p).mp (a9b f);have n:=T.bd _ _ x;have W:hashes.toList[p.2]? = some h':=by
  rw[← H,a8c,a0a n];rfl
 obtain⟨m,X,Y⟩:=T.rea p.2 h' W;have:=T.one _ _ _ X x;exact⟨m,p.1,(pl i p.1).mpr ⟨p,f,rfl⟩,this,λm' I=>(G _).mpr (Y m' I)⟩
end Sx
namespace Dv
open PySem L2 Mr
section
variable{Γ:Gm}{H H1:Hp}{σ σ1:Sg}{σV:St}{p:Addr}{o o':HO}
end
def aZ2{X:Cx}{E:Ex}{i:Nat}{x:Str}{e:Expr}{r:DE}{pos a:Pos}(b:X.N.Nodup)(hi:X.N[i]? = some x)(c:Loc X.env.scope x)(d:GE X e r)(hs:swapsWith e (some (.Name x a)) pos.line X.env=pure false:=by rfl)(f:X.fn x=true\/X.env.scope.names.lookup x=some .local:=by first | exact .inl rfl | exact .inr rfl | assumption) :
  GS E X (.Assign [.Name x a] e pos) (cX i r):=cW2 λΓ=>bU b hi c (d.to Γ) hs f
theorem dB8{z:Str}{i:Int}{K:Res->Prop}:OK1 (ixD (.str z) (.int i)) K=(z.length<=sizeLine/\OK1 (atI z.cps.toList i) λc=>K (.val (.str ⟨#[c]⟩))):=by
 show OK1 (if _ then _ else none) K=_;rw[aZ,xF]
def cH7{z:Str}{K:Res->Prop}(h:z.length<=sizeLine):OK1 (kW [.str z]) K=K (.val (.int z.length)):=by
 show OK1 (if _ then _ else none) K=_;rw[aZ];exact propext ⟨λh=>h.2,λk=>⟨h,k⟩⟩
@[irreducible] noncomputable def yA(ow:List Nat)(g:DG)(t:DT)(e:DE)(items:List D)(a:Sg):=zS ow g t e items a
@[irreducible] noncomputable def bL3(g:DG)(b:DS)(items:List D)(σ:Sg):=aU3 g b items σ
section
variable{σ:Sg}{QS:Out->Prop}{Q:Res->Sg->Prop}{ri:DI}{g:DG}{b:DS}{a:DE}{ra:DA}
theorem nQ:RS (qI ri g b) σ QS=RI ri σ λitems l σ1=>OK1 (bL3 g b items (lendO l σ1)) λo=>QS (aE7 l σ1 o):=by
 unfold bL3;exact cZ9
theorem fO{ow:List Nat}{t:DT}{e:DE}:RE (fT ow ri g t e) σ Q=RI ri σ λitems l σ1=>items.length<=sizeLine/\OK1 (yA ow g t e items (bF ow (lendO l σ1))) λy=>Q (.own (.lst y.1)) (aN5 l σ1 (lS ow (lendO l σ1) y.2)):=by
 unfold yA;exact cG1
def nR{items:List D}(P:Nat->Sg->Prop)(h0:P 0 σ)(hs:∀ i d σ,items[i]? = some d->P i σ->OK1 (g d σ) λσ1=>RS b σ1 λo=>∃ a,(o=.nx a\/o=.ct a)/\P (i+1) a){K:Out->Prop}(k:∀ σ',P items.length σ'->K (.nx σ')):OK1 (bL3 g b items σ) K:=by
 unfold bL3;exact cF9 P h0 hs k
def aA8{items:List D}(P:Nat->Sg->Prop){K:Out->Prop}(h0:P 0 σ)(hs:∀ i d σ,items[i]? = some d->P i σ->OK1 (g d σ) λσ1=>RS b σ1 λo=>(∃ a,(o=.nx a\/o=.ct a)/\P (i+1) a)\/(∃ x a,o=.rt x a/\K (.rt x a))\/(∃ a,o=.bk a/\K (.nx a)))(k:∀ σ',P items.length σ'->K (.nx σ')):OK1 (bL3 g b items σ) K:=by
 unfold bL3;exact cG0 P h0 hs k
def fD{ow:List Nat}{t:DT}{e:DE}{K:List D×Sg->Prop}(items:List D)(a:Sg)(P:Nat->List D->Sg->Prop)(h0:P 0 [] a)
  (hs:∀ i d acc a,items[i]? = some d->P i acc a->OK1 (g d a) λf=>RT t f λb c=>if b=true then RE e c λr h=>∃ v,r=.val v/\P (i+1) (acc++[v]) (bF ow h)else P (i+1) acc (bF ow c))
  (k:∀ acc a,P items.length acc a->K (acc,a)):OK1 (yA ow g t e items a) K:=by
 unfold yA;exact qZ items a P h0 hs k
end
end Dv
namespace PySem
structure Fill(prog:Program)(w:World)(A:Around)(S I:Addr)(n:Nat)(P:Nat->Value->Prop)(J:Nat->Heap->Prop):Prop where
 put:∀ i v (s:Shared) (Q:Bool->Shared->Prop) (E:Value->Shared->Prop),i < n->P i v->J i s.heap ->
  (∀ b h' tk,J (i+1) h'->(∀ c o,c≠S->s.heap.get? c=some o->h'.get? c=some o)->Q b {s with heap:=h',toks:=tk})->wpAny (model prog w) A (setAdd S v) Q E s
 stay:∀ i h h',J i h->(∀ c o,c≠I->h.get? c=some o->h'.get? c=some o)->J i h'
section
variable{prog:Program}{w:World}{A:Around}{E:Value->Shared->Prop}{R:Result->Shared->Prop}{S I:Addr}{fp:List Addr}{n:Nat}{P:Nat->Value->Prop}{St J:Nat->Heap->Prop}
theorem yB(W:Walks prog w A.in1 I fp [I] n P St)(F:Fill prog w A.in1 S I n P J)(l:S∉fp) :
  ∀ (k i:Nat) (s:Shared),i+k=n->St i s.heap->J i s.heap ->
    (∀ h' tk,J n h'->(∀ c o,c≠S->c≠I->s.heap.get? c=some o->h'.get? c=some o)->R (.ok (.ret .none)) {s with heap:=h',toks:=tk}) ->
    codeAny (model prog w) A (.builtin "set.update.loop" ⟨[.ref S,.ref I],[]⟩) R s
 | 0,i,s,m,st,j,q=>by
   have hi:i=n:=m;subst hi;refine a3C PyProof.Rows.F.entry_set_update_loop ?_;rw[a1f a5h _]
   (show wpAny _ A.in1 (pyNext (.ref I) >>= _) _ _ s;refine a3n (W.done s _ _ st λh' tk d=>?_))
   have p:∀ c o,c≠I->s.heap.get? c=some o->h'.get? c=some o:=λc o a e=>d c o (by simpa using a) e;exact a3o (q h' tk (F.stay _ _ _ j p) λc o _ a e=>p c o a e)
 | k+1,i,s,m,st,j,q=>by
   have hi:i < n:=by lia
   refine a3C PyProof.Rows.F.entry_set_update_loop ?_;rw[a1f a5h _]
   (show wpAny _ A.in1 (pyNext (.ref I) >>= _) _ _ s;refine a3n (W.item i s _ _ hi st λv y B C f g=>?_))
   have r:∀ c o,c≠I->s.heap.get? c=some o->y.get? c=some o:=λc o a e=>g c o (by simpa using a) e
   (show wpAny _ A.in1 (holding [v] (setAdd S v) >>= _) _ _ _;refine a3n (a3s ?_))
   refine F.put i v _ _ _ hi C (F.stay _ _ _ j r) λb D E G t=>?_;refine a3o ⟨a3J a5h _,?_⟩;have h:St (i+1) D:=W.frame _ _ _ f λc a o e=>t c o (λz=>l (z ▸ a)) e;exact yB W F l k (i+1) _ (by lia) h G λh' tk H K=>q h' tk H λc o u x e=>K c o u x (t c o u (r c o x e))
def cH8{T b a:String}{args:List Value}{Q Q₁:Value->Shared->Prop}{s:Shared}(k:TypeCalled T b a)(l:checkTypeCall T ⟨args,[]⟩=pure ())
  (g:codeAny (model prog w) A.in1 (.call (.builtin b) ⟨.type T::args,[]⟩) (wants Q₁ E) s)
  (h:∀ obj d,Q₁ obj d->d.TypeIs obj T/\codeAny (model prog w) A.in1 (.call (.builtin a) ⟨obj::args,[]⟩) (wants (λr i=>r=.none/\Q obj i) E) d) :
  wpAny (model prog w) A (call (.type T) args) Q E s:=by
 obtain⟨n1,n2,⟨c,n,n3⟩,o,p,q,j⟩:=k;have t:=j.lookup;refine a3S (codeAny_of_tree (a3o ⟨Code.quiet_builtin _ (by decide +kernel),a3C F.entry_type_call ?_⟩));rw[Around.under_plain (weight_type_call_type T args []) rfl]
 repeat (any_goals (first | assumption | wp_step))
 refine a3U g λr s1 f=>?_
 match r,f with
 | .error e,f=>exact f
 | .ok (.ret obj),f=>
   obtain⟨hT,hi⟩:=h obj s1 f;have u:=j.bind obj
   repeat (any_goals (first | assumption | wp_step))
   refine a3U hi λr s2 f=>?_
   match r,f with
   | .error e,f=>exact f
   | .ok (.ret x),⟨m,v⟩=>
     subst m
     repeat (any_goals (first | assumption | wp_step))
end
noncomputable abbrev aM3(es:Array (Int×Value))(ep:Nat)(t:SetTable):Obj:={cls:=.type "set",dict:=none,data:=.set es ep t}
noncomputable def eS(w:World):Bool:=!w.params.followText "set-order"
section
variable{prog:Program}{w:World}{A:Around}{E:Value->Shared->Prop}{s:Shared}
def cH9(a:Value){Q:Value->Shared->Prop}(h:Q (.ref s.heap.objs.size) {s with heap:=s.heap.push (aM3 #[] 0 (.fresh 0 0 (eS w)))}) :
  codeAny (model prog w) A (.call (.builtin "set.__new__") ⟨[.type "set",a],[]⟩) (wants Q E) s:=by
 refine a3I F.plain_set_new F.entry_set_new (wpAny_of_eq (F.newCall_set_1 a) ?_);have b:=sub_set_self;unfold Builtin.«set.__new__» Builtin.Frozenset.newClass;obtain⟨c,g,d,tk,os⟩:=s
 wp_walk
 refine a3X (a3o ?_);simp only[newObj];exact a3n (wpAny_alloc (a3o (a3o h)))
end
section
variable{prog:Program}{w:World}{A:Around}{E:Value->Shared->Prop}{n:Nat}{P:Nat->Value->Prop}{St J:Nat->Heap->Prop}
structure Src(prog:Program)(w:World)(A:Around)(h₀:Heap)(l:Addr)(n:Nat)(P:Nat->Value->Prop) where
 T:String
 St:Addr->Nat->Heap->Prop
 ob:Obj
 ty:∃ o,h₀.get? l=some o/\o.cls=.type T
 n1:isSubtype (.type T) (.type "set")=pure false
 n2:isSubtype (.type T) (.type "frozenset")=pure false
 n3:(Value.type T==Value.type "dict")=false
 iter:∀ (A:Around) (s:Shared) (Q:Value->Shared->Prop) (E:Value->Shared->Prop),(∀ b o,h₀.get? b=some o->s.heap.get? b=some o)->Q (.ref s.heap.objs.size) {s with heap:=s.heap.push ob}->wpAny (model prog w) A (pyIter (.ref l)) Q E s
 free:ob.isFreed=false
 walk:∀ (A':Around),A'.handled=A.handled->∀ I,l≠I->Walks prog w A' I [I,l] [I] n P (St I)
 cT:∀ h:Heap,(∀ b o,h₀.get? b=some o->h.get? b=some o)->St h.objs.size 0 (h.push ob)
def bL4{s:Shared}{l:Addr}{Q:Value->Shared->Prop}(c:Src prog w A s.heap l n P)
  (L:∀ A':Around,A'.handled=A.handled->A'.units<=A.units+8->Fill prog w A' s.heap.objs.size (s.heap.objs.size+1) n P J)
  (x:∀ (h':Heap),h'.get? s.heap.objs.size=some (aM3 #[] 0 (.fresh 0 0 (eS w)))->(∀ b o,s.heap.get? b=some o->h'.get? b=some o)->J 0 h')
  (q:∀ h' tk,J n h'->(∀ b o,s.heap.get? b=some o->h'.get? b=some o)->Q (.ref s.heap.objs.size) {s with heap:=h',toks:=tk}) :
  wpAny (model prog w) A (call (.type "set") [.ref l]) Q E s:=by
 obtain⟨T,St,ob,⟨⟨r,j,k,i⟩,d,f⟩,n1,n2,n3,iter,free,walk,cT⟩:=c;simp only at f;subst f;have g:l < s.heap.objs.size:=a0b d;refine cH8 (Q₁:=λobj s₁=>obj=.ref s.heap.objs.size/\s₁={s with heap:=s.heap.push (aM3 #[] 0 (.fresh 0 0 (eS w)))}) F.called_set (F.typeCall_set_1 _) (cH9 _ ⟨rfl,rfl⟩) λobj s₁ Z0=>?_;obtain⟨y,B⟩:=Z0;subst y B;have t:(s.heap.push (aM3 #[] 0 (.fresh 0 0 (eS w)))).get? s.heap.objs.size=some (aM3 #[] 0 (.fresh 0 0 (eS w))):=a2b _ rfl;have old:∀ b o,s.heap.get? b=some o->(s.heap.push (aM3 #[] 0 (.fresh 0 0 (eS w)))).get? b=some o:=λb o e=>a2a _ e;have hT:Shared.TypeIs {s with heap:=s.heap.push (aM3 #[] 0 (.fresh 0 0 (eS w)))} (.ref s.heap.objs.size) "set":=⟨_,t,rfl⟩;have C:Shared.TypeIs {s with heap:=s.heap.push (aM3 #[] 0 (.fresh 0 0 (eS w)))} (.ref l) T:=⟨_,old l _ d,rfl⟩;refine⟨hT,a3I F.called_set.init.plain F.entry_set_init (check_set_init_1 hT ?_)⟩;have D:=old l _ d;unfold Builtin.«set.__init__» noKeywords Builtin.Frozenset.updateFrom;generalize m:pyIter=PI
 wp_walk
 subst m;refine iter _ _ _ _ old ?_;refine a3n (wpAny_runValue ?_);have u:(s.heap.push (aM3 #[] 0 (.fresh 0 0 (eS w)))).objs.size=s.heap.objs.size+1:=a2h ..;have ne:l≠s.heap.objs.size+1:=λz=>absurd g (by rw[z];exact a3k.mpr (Nat.le_succ _));have h:=cT _ old;rw[u]at h;have p:((s.heap.push (aM3 #[] 0 (.fresh 0 0 (eS w)))).push ob).get? s.heap.objs.size=some (aM3 #[] 0 (.fresh 0 0 (eS w))):=a2a _ t;have a:∀ b o,s.heap.get? b=some o->((s.heap.push (aM3 #[] 0 (.fresh 0 0 (eS w)))).push ob).get? b=some o:=λb o e=>a2a _ (old b o e);show codeAny (model prog w) A.in1.in1 (.builtin "set.update.loop" ⟨[.ref s.heap.objs.size,.ref (s.heap.push (aM3 #[] 0 (.fresh 0 0 (eS w)))).objs.size],[]⟩) _ _;rw[u];refine yB (walk A.in1.in1.in1 rfl (s.heap.objs.size+1) ne) (L A.in1.in1.in1 rfl (by show A.units+1+1+1<=A.units+8;lia)) ?_ n 0 _ (a3g n) h (x _ p a) λh' tk G H=>?_;simp only[List.mem_cons,List.not_mem_nil,or_false,not_or];exact⟨a9c (a1k _),a3j g⟩;refine a3o (a3o ⟨rfl,q h' tk G λb o e=>?_⟩);have v:=a0b e;exact H b o (a9c v) (a9c (Nat.lt_succ_of_lt v)) (a b o e)
noncomputable def Src.list{s:Shared}(d:A.handled=none){l:Addr}{items:Array Value}(a:s.heap.IsList l items):Src prog w A s.heap l items.size (λi v=>items[i]? = some v) where
 T:="list"
 St:=λI i h=>h.IsListIter I l i/\h.IsList l items
 ob:={cls:=.type "list_iterator",data:=.fields #[.ref l,.int 0 0]}
 ty:=by obtain⟨o,f,g,_⟩:=a;exact⟨o,f,g⟩
 n1:=F.sub_list_set
 n2:=F.sub_list_frozenset
 n3:=by decide
 iter:=λA' s' Q E b j=>wpAny_pyIter_list (a.at λo e=>b l o e) j
 free:=rfl
 walk:=λA' ha I c=>Walks.list (ha.trans d) I l c items
 cT:=λh b=>⟨⟨_,a2b _ rfl,rfl,rfl⟩,(a.at λo e=>b l o e).push _⟩
def aA9:isSubtype (.type "tuple") (.type "set")=pure false:=by rw[a4m];kernel_rfl
def sK:isSubtype (.type "tuple") (.type "frozenset")=pure false:=by rw[a4m];kernel_rfl
noncomputable def Src.tup{s:Shared}(d:A.handled=none){l:Addr}{items:Array Value}(a:s.heap.IsTuple l items):Src prog w A s.heap l items.size (λi v=>items[i]? = some v) where
 T:="tuple"
 St:=λI i h=>h.IsTupleIter I l i/\h.IsTuple l items
 ob:={cls:=.type "tuple_iterator",data:=.fields #[.ref l,.int 0 0]}
 ty:=by obtain⟨o,f,g,_⟩:=a;exact⟨o,f,g⟩
 n1:=aA9
 n2:=sK
 n3:=by decide
 iter:=λA' s' Q E b j=>a4l (a.at λo e=>b l o e) j
 free:=rfl
 walk:=λA' ha I c=>Walks.tuple (ha.trans d) I l c items
 cT:=λh b=>⟨⟨_,a2b _ rfl,rfl,rfl⟩,(a.at λo e=>a2a _ (b l o e))⟩
end
end PySem
namespace Sx
open PySem PySem.SetTable
section
variable{t:SetTable}{hs:List Int}
def TOk.stop2(T:TOk t hs)(h:Int):∃ M,M<=10*(13+t.place.size)/\¬ Occ t (wk t.mask h M).j/\∀ m,m < M->Occ t (wk t.mask h m).j:=by
 obtain⟨k,v⟩:=T.pw;have A:=T.fit;have ex:∃ n,n<=t.place.size/\¬ Occ t (wk t.mask h (tm t.mask h (13+n))).j:=by
  refine a0f λhn=>?_;have l:∀ n,n<=t.place.size->Occ t (stp k n (lp t.mask h 13).1):=λn d=>a0f λz=>hn ⟨n,d,by
   rw[aA6,aY8 v h n];exact z⟩
  let f:Nat->Nat:=λn=>below t.place (stp k n (lp t.mask h 13).1)
  have p:∀ n,n<=t.place.size->f n < t.place.size/\t.place[f n]? = some (stp k n (lp t.mask h 13).1):=λn d=>by
   obtain⟨i,e⟩:=l n d;have:f n=i:=fN T.ri e;rw[this];exact⟨(a6d.mp e).1,e⟩
  have u:∀ a b,a < b->b<=t.place.size->f a≠f b:=λa b g o e=>by
   have q:=(p a (by lia)).2;rw[e,(p b o).2]at q;exact aY5 g (by lia:b < 2 ^ k) (a5a q).symm
  obtain⟨i,hi,e⟩:=vJ t.place.size f (λi h=>(p i (by lia)).1) (λa b g o=>u a b g (by lia)) (f t.place.size) (p t.place.size (a6a _)).1;exact u i t.place.size hi (a6a _) e
 obtain⟨n,hn,r⟩:=ex;have s:∀ N,(∃ m,m < N/\¬ Occ t (wk t.mask h m).j)->∃ M,M < N/\¬ Occ t (wk t.mask h M).j/\∀ m,m < M->Occ t (wk t.mask h m).j:=by
  intro N
  induction N with
  | zero=>rintro⟨m,h,_⟩;exact absurd h (a6e _)
  | succ N w=>
    rintro⟨m,q,x⟩;by_cases o:∃ m,m < N/\¬ Occ t (wk t.mask h m).j;obtain⟨M,a,b,c⟩:=w o;exact⟨M,by lia,b,c⟩;exact⟨m,q,x,λm' y=>a0f λz=>o ⟨m',by lia,z⟩⟩
 obtain⟨M,a,b,c⟩:=s (tm t.mask h (13+n)+1) ⟨_,a1k _,r⟩;have:=dK9 t.mask h (13+n);exact⟨M,by lia,b,c⟩
end
end Sx
namespace PySem
open Sx
section
variable{prog:Program}{w:World}{A:Around}{E:Value->Shared->Prop}{s:Shared}
abbrev pE(prog:Program)(w:World)(h:Heap)(k:List Int)(a:Addr):Prop:=IsTupleKey (intKind prog w) h k a
def pE.at{h h':Heap}{k:List Int}{a:Addr}(x:pE prog w h k a)(e:∀ o,h.get? a=some o->h'.get? a=some o):pE prog w h' k a:=by
 obtain⟨o,items,n,b,r⟩:=x;exact⟨o,items,n,e o b,r⟩
theorem jP:∀ {k:List Int} {vs:List Value},ItemsAre (intKind prog w) k vs->∀ v∈vs,∃ i t,v=.int i t
 | _,_,.nil,v,a=>by simp at a
 | _,_,.cons b r,v,a=>by
   rcases a7b.mp a with rfl | a;obtain⟨t,e⟩:=Value.isInt_shape b;exact⟨_,t,e⟩;exact jP r v a
def cI0{k:List Int}{a:Addr}{Q:Bool->Shared->Prop}(d:pE prog w s.heap k a)(h:Q true s):wpAny (model prog w) A (hashByValue 8 (.ref a)) Q E s:=by
 have hT:=d.typeIs;obtain⟨o,items,n,f,_,hd,hi⟩:=d;unfold hashByValue;refine a3n (a3Y hT F.slot_tuple_hash.lookup ?_);dsimp only;refine a3n (a3V f hd ?_);dsimp only[Option.getD_some];refine a3n ?_;rw[← Array.forIn_toList];refine wpAny_forIn_list _ (λbK r s'=>r.1=none/\s'=s/\∀ v∈bK,∃ i t,v=.int i t) _ ?_ ?_ _ _ ⟨rfl,rfl,jP hi⟩
 ·rintro v bK r s' ⟨c,rfl,b⟩;obtain⟨i,t,rfl⟩:=b v a4a;have e:hashByValue 7 (.int i t)=pure true:=by unfold hashByValue;rfl
  rw[e];refine a3n (a3o ?_);simp only[Bool.not_true,Bool.false_eq_true,if_false];exact a3o ⟨rfl,rfl,λu g=>b u (a8a _ g)⟩
 ·rintro⟨j,l⟩ s' ⟨c,rfl,_⟩;simp only at c;subst c;exact a3o h
def aZ3{k:List Int}{a:Addr}{Q:Bool->Shared->Prop}(d:pE prog w s.heap k a)(h:Q false s):wpAny (model prog w) A (ofAClassStatement 8 (.ref a)) Q E s:=by
 have hT:=d.typeIs;obtain⟨o,items,n,f,_,hd,hi⟩:=d;unfold ofAClassStatement;refine a3n (a3L hT ?_);dsimp only;rw[a3p (by decide)];refine a3n (a3o ?_);simp only[Bool.not_true,Bool.false_eq_true,if_false];refine a3n (a3V f hd ?_);dsimp only;refine a3n ?_;rw[← Array.forIn_toList];refine wpAny_forIn_list _ (λbK r s'=>r.1=none/\s'=s/\∀ v∈bK,∃ i t,v=.int i t) _ ?_ ?_ _ _ ⟨rfl,rfl,jP hi⟩
 ·rintro v bK r s' ⟨c,rfl,b⟩;obtain⟨i,t,rfl⟩:=b v a4a;have e:ofAClassStatement 7 (.int i t)=pure false:=by unfold ofAClassStatement;rfl
  rw[e];refine a3n (a3o ?_);simp only[Bool.false_eq_true,if_false];exact a3o ⟨rfl,rfl,λu g=>b u (a8a _ g)⟩
 ·rintro⟨j,l⟩ s' ⟨c,rfl,_⟩;simp only at c;subst c;exact a3o h
def bL5{k:List Int}{a:Addr}{Q:Bool->Shared->Prop}(f:pE prog w s.heap k a)(l:List Value)(i:∀ v∈l,∃ d b,v=.ref b/\pE prog w s.heap d b)(h:Q false s):wpAny (model prog w) A (searchCouldBeSeen (.ref a) l) Q E s:=by
 unfold searchCouldBeSeen;refine a3n ?_;refine wpAny_forIn_list _ (λbK r s'=>r.1=none/\s'=s/\∀ v∈bK,∃ d b,v=.ref b/\pE prog w s.heap d b) _ ?_ ?_ _ _ ⟨rfl,rfl,i⟩;rintro v bK r s' ⟨e,rfl,c⟩;obtain⟨d,b,rfl,g⟩:=c v a4a;have go:∀ u∈bK,∃ d b,u=Value.ref b/\pE prog w s'.heap d b:=λu j=>c u (a8a _ j);dsimp only;split;exact a3o ⟨rfl,rfl,go⟩;refine a3n (wpAny_eqIsQuiet_tuple f ?_);simp only[Bool.not_true,Bool.false_eq_true,if_false];refine a3n (wpAny_eqIsQuiet_tuple g ?_);simp only[Bool.not_true,Bool.false_eq_true,if_false];refine a3n (aZ3 f ?_);simp only[Bool.false_eq_true,if_false];refine a3n (aZ3 g ?_);simp only[Bool.false_eq_true,if_false];exact a3o ⟨rfl,rfl,go⟩;rintro⟨m,n⟩ s' ⟨e,rfl,_⟩;simp only at e;subst e;exact a3o h
end
structure mV(prog:Program)(w:World)(h:Heap)(S:Addr)(led:Bool)(N:Addr->Prop)(ks:List (List Int))(o:Obj)(es:Array (Int×Value))(ep:Nat)(t:SetTable):Prop where
 ob:h.get? S=some o
 ex:o.ExactSet
 dt:o.data=.set es ep t
 tk:TOk t (es.toList.map (·.1))
 ful:t.place.size*5 < t.mask*3
 ld:t.led=led
 pl:t.plain=true
 len:ks.length=es.size
 it:∀ (i:Nat) e,es[i]? = some e->∃ k a,ks[i]? = some k/\e=(tupleKeyHash (intKind prog w) k,.ref a)/\pE prog w h k a/\N a
 nd:ks.Nodup
section
variable{prog:Program}{w:World}{A:Around}{E:Value->Shared->Prop}{s:Shared}{S:Addr}{led:Bool}{N:Addr->Prop}{ks:List (List Int)}{o:Obj}{es:Array (Int×Value)}{ep:Nat}{t:SetTable}
theorem _root_.Sx.TOk.fits{hs:List Int}(T:TOk t hs){n:Nat}(hn:hs.length=n):t.fits n=true:=by
 have b:=T.len;have a:=T.fit;simp only[SetTable.fits,SetTable.fill,Bool.and_eq_true,beq_iff_eq,decide_eq_true_eq,T.dm];exact⟨by lia,by simpa using a⟩
theorem mV.fits(X:mV prog w s.heap S led N ks o es ep t):t.fits es.size=true:=X.tk.fits (by simp)
def mV.state(X:mV prog w s.heap S led N ks o es ep t){Q:(Array (Int×Value)×Nat×SetTable)->Shared->Prop}(h:Q (es,ep,t) s):wpAny (model prog w) A (setState S) Q E s:=
 wpAny_setState_of X.ob X.dt X.fits h
def mV.even(X:mV prog w s.heap S led N ks o es ep t):t.gaveWay=false:=by
 obtain⟨k,a⟩:=X.tk.pw;have b:=X.tk.m7;unfold SetTable.gaveWay;have:t.mask % 2=1:=by
  cases k with
  | zero=>lia
  | succ k=>rw[a4h]at a;lia
 rw[this];rfl
theorem nT(X:mV prog w s.heap S led N ks o es ep t){k:List Int}{a:Addr}(V:A.units < cLine)(H:pE prog w s.heap k a){M:Nat}(hM:¬ Occ t (wk t.mask (tupleKeyHash (intKind prog w) k) M).j)(hb:∀ m,m < M->Occ t (wk t.mask (tupleKeyHash (intKind prog w) k) m).j)
  (I:M < 10*SetTable.turns t.mask) :
  ∀ (d n:Nat) (c:Option SetTable.Probe) (Q:SetFound->Shared->Prop),c.getD (t.probeStart (tupleKeyHash (intKind prog w) k))=wk t.mask (tupleKeyHash (intKind prog w) k) n->n<=M->M-n < d ->
    (∀ i:Nat,ks[i]? = some k->∃ m j,n<=m/\t.place[i]? = some j/\(wk t.mask (tupleKeyHash (intKind prog w) k) m).j=j/\m < M) ->
    (k∈ks->Q (.there none) s)->(k∉ks->Q (.free (wk t.mask (tupleKeyHash (intKind prog w) k) M).j false) s)->wpAny (model prog w) A (setSearchFrom S (.ref a) (tupleKeyHash (intKind prog w) k) true d c) Q E s
 | 0,n,c,Q,_,_,hf,_,_,_=>by lia
 | d+1,n,c,Q,hst,hn,hf,y,W,q2=>by
   unfold setSearchFrom;refine a3n (X.state ?_);dsimp only;rw[X.even,a3q a1b,hst];have hg:=aZ0 X.tk (h:=tupleKeyHash (intKind prog w) k) (hashAt:=λi=>(es[i]?.map (·.1)).getD 0) hM hb (10*SetTable.turns t.mask) n hn (by lia);have B:∀ (i:Nat) e,es[i]? = some e->((es[i]?.map (·.1)).getD 0)=e.1:=λi e Y=>by rw[Y];rfl
   split
   ·rename_i met q;rcases hg with⟨m,i,a1,a2,J,a4,a5,a6⟩ | ⟨a1,a2⟩
    ·have e:met=.candidate (wk t.mask (tupleKeyHash (intKind prog w) k) m).j i (wk t.mask (tupleKeyHash (intKind prog w) k) (m+1)):=a5a (q.symm.trans a6);subst e;dsimp only;have hi:i < es.size:=by
      have h1:=(a6d.mp J).1;have h2:=X.tk.len;simp at h2;lia
     have K:es[i]? = some es[i]:=a3c hi;obtain⟨Z,b,C,ee,L,_⟩:=X.it i _ K;have seen:∀ v∈((es.filter (λx=>x.1==tupleKeyHash (intKind prog w) k)).toList.map (·.2)),∃ Z b,v=Value.ref b/\pE prog w s.heap Z b:=λv hv=>by
      obtain⟨e,Y,rfl⟩:=a3h.mp hv;have he':e∈es:=by
       rw[Array.mem_toList_iff]at Y;exact(Array.mem_filter.mp Y).1
      obtain⟨j,hj,ej⟩:=Array.getElem_of_mem he';obtain⟨k2,l,_,g,h2,_⟩:=X.it j e (by rw[a3c hj,ej]);exact⟨k2,l,by rw[g],h2⟩
     by_cases hl:t.led=true
     ·rw[hl];simp only[Bool.not_true,Bool.false_eq_true,if_false];rw[K,ee];dsimp only;refine a3n (a3s (wpAny_eqBool_tuple V L H ?_));refine a3n (X.state ?_);dsimp only;by_cases f:Z=k;subst f;rw[a3v rfl];simp only[Bool.and_self,if_true];exact a3o (W (a9b C));rw[a3r f];simp only[Bool.and_false,Bool.false_eq_true,if_false];have D:t.sameMemory t.moves t.mask=some true:=by unfold SetTable.sameMemory;simp
      rw[D];dsimp only;rw[a3p rfl,rM X.tk.ri J];dsimp only;rw[K,ee];dsimp only;refine a3n (wpAny_isSame_ref_self ?_);simp only[if_true];refine a3n (a3o ?_);dsimp only;refine nT X V H hM hb I d (m+1) (some _) Q rfl (by lia) (by lia) (λi2 g=>?_) W q2;obtain⟨F,j2,O,l,p,P⟩:=y i2 g;refine⟨F,j2,?_,l,p,P⟩
      -- it lies behind the one R was met
      refine a9j λhle=>?_;have G:i2 < es.size:=by rw[← X.len];exact(a3a.mp g).1
      have r:es[i2]? = some es[i2]:=a3c G;obtain⟨k3,b5,u,T,_⟩:=X.it i2 _ r;rw[g]at u;cases u;by_cases z:F=m
      ·subst z;have:i2=i:=by rw[← fN X.tk.ri l,← fN X.tk.ri J,p]
       subst this;rw[C]at g;exact f (a5a g)
      ·refine a5 F i2 O (by lia) (by rw[l,p]) ?_;show(es[i2]?.map (·.1)).getD 0=_;rw[B i2 _ r,T]
     ·have hl':t.led=false:=by simpa using hl
      rw[hl'];simp only[Bool.not_false,if_true];refine a3n (bL5 H _ seen ?_);simp only[Bool.false_eq_true,if_false];rw[K,ee];dsimp only;refine a3n (a3s (wpAny_eqBool_tuple V L H ?_));refine a3n (X.state ?_);dsimp only;by_cases f:Z=k;subst f;rw[a3v rfl];simp only[Bool.and_self,if_true];exact a3o (W (a9b C));rw[a3r f];simp only[Bool.and_false,Bool.false_eq_true,if_false];have D:t.sameMemory t.moves t.mask=some true:=by unfold SetTable.sameMemory;simp
      rw[D];dsimp only;rw[a3p rfl,rM X.tk.ri J];dsimp only;rw[K,ee];dsimp only;refine a3n (wpAny_isSame_ref_self ?_);simp only[if_true];refine a3n (a3o ?_);dsimp only;refine nT X V H hM hb I d (m+1) (some _) Q rfl (by lia) (by lia) (λi2 g=>?_) W q2;obtain⟨F,j2,O,l,p,P⟩:=y i2 g;refine⟨F,j2,?_,l,p,P⟩
      -- it lies behind the one R was met
      refine a9j λhle=>?_;have G:i2 < es.size:=by rw[← X.len];exact(a3a.mp g).1
      have r:es[i2]? = some es[i2]:=a3c G;obtain⟨k3,b5,u,T,_⟩:=X.it i2 _ r;rw[g]at u;cases u;by_cases z:F=m
      ·subst z;have:i2=i:=by rw[← fN X.tk.ri l,← fN X.tk.ri J,p]
       subst this;rw[C]at g;exact f (a5a g)
      ·refine a5 F i2 O (by lia) (by rw[l,p]) ?_;show(es[i2]?.map (·.1)).getD 0=_;rw[B i2 _ r,T]
    ·have e:met=.empty (wk t.mask (tupleKeyHash (intKind prog w) k) M).j none:=a5a (q.symm.trans a2);subst e;dsimp only;refine a3o (q2 λhm=>?_);obtain⟨i,hi,e⟩:=a5g hm;have C:ks[i]? = some k:=by rw[a0a hi,e]
     obtain⟨m,j,O,l,p,P⟩:=y i C;have hi':i < es.size:=by rw[← X.len];exact hi
     have r:es[i]? = some es[i]:=a3c hi';obtain⟨k3,b5,u,T,_⟩:=X.it i _ r;rw[C]at u;cases u;refine a1 m i O P (by rw[l,p]) ?_;show(es[i]?.map (·.1)).getD 0=_;rw[B i _ r,T]
   ·rename_i U;exfalso;rcases hg with⟨m,i,_,_,_,_,_,a6⟩ | ⟨_,a2⟩;exact U _ a6;exact U _ a2
end
end PySem
namespace Sx
open PySem PySem.SetTable
theorem oV(n:Nat):∀ (f k:Nat),n < 2 ^ k*2 ^ f->3<=k->∃ g,sizeAbove.go n f (2 ^ k)=2 ^ g/\k<=g/\n < 2 ^ g/\(2 ^ g=2 ^ k\/2 ^ g<=2*n)
 | 0,k,h,i=>⟨k,rfl,a6a _,by simpa using h,.inl rfl⟩
 | f+1,k,h,i=>by
   unfold sizeAbove.go;split;rename_i j;have e:2 ^ k*2=2 ^ (k+1):=(a4h ..).symm;rw[e];obtain⟨g,a,b,c,d⟩:=oV n f (k+1) (by rw[a4h,a5k,a5i 2 (2 ^ f),← a4h];exact h) (by lia);refine⟨g,a,by lia,c,.inr ?_⟩;rcases d with d | d;rw[d,a4h];lia;exact d;rename_i l;exact⟨k,rfl,a6a _,by lia,.inl rfl⟩
def sL(n:Nat)(h:n < 2 ^ 60):∃ k,sizeAbove n=2 ^ k/\3<=k/\n < 2 ^ k/\2 ^ k<=8+2*n:=by
 obtain⟨k,a,b,c,d⟩:=oV n 64 3 (a5b h (by decide)) (a6a _);exact⟨k,a,b,c,by lia⟩
noncomputable def rel{α:Type}(l:List α)(od:List Nat):List α:=od.filterMap (l[·]?)
theorem aB0{b:Type}{l:List b}:∀ {od:List Nat},(∀ j∈od,j < l.length)->∀ i:Nat,(rel l od)[i]? = (od[i]?).bind (l[·]?)
 | [],_,i=>by simp[rel]
 | j::od,h,i=>by
   have a:=h j a4a;have e:rel l (j::od)=l[j]::rel l od:=by
    unfold rel;rw[a6h,a0a a]
   rw[e];cases i with
   | zero=>simp[List.getElem?_eq_getElem a]
   | succ i=>rw[a8d,a8d];exact aB0 (λx c=>h x (a8a _ c)) i
def tQ{a:Type}{l:List a}{od:List Nat}(h:∀ j∈od,j < l.length):(rel l od).length=od.length:=by
 induction od with
 | nil=>rfl
 | cons j od b=>
   have c:=h j a4a;have e:rel l (j::od)=l[j]::rel l od:=by
    unfold rel;rw[a6h,a0a c]
   rw[e,a1h,a1h,b λx d=>h x (a8a _ d)]
def aG7{b:Type}{l:List b}{od:List Nat}(h:od.Perm (List.range l.length)):(rel l od).Perm l:=by
 have a:(rel l od).Perm (rel l (List.range l.length)):=h.filterMap _;have c:rel l (List.range l.length)=l:=by unfold rel;exact PySem.List.filterMap_getElem?_range_length l
 rw[c]at a;exact a
def rO{b:Type}(l:List b)(p:Nat)(x:b):(aA7 l p x).Perm (x::l):=by
 unfold aA7;have:=List.perm_middle (a:=x) (l₁:=l.take p) (l₂:=l.drop p);rwa[List.take_append_drop]at this
end Sx
namespace PySem
open Sx
section
variable{prog:Program}{w:World}{A:Around}{E:Value->Shared->Prop}{s:Shared}{S:Addr}{led:Bool}{N:Addr->Prop}{ks:List (List Int)}{o:Obj}{es:Array (Int×Value)}{ep:Nat}{t:SetTable}
def yC(prog:Program)(w:World)(h:Heap)(S:Addr)(led:Bool)(N:Addr->Prop)(ks:List (List Int)):Prop:=∃ o es ep t,mV prog w h S led N ks o es ep t
def mV.store(X:mV prog w s.heap S led N ks o es ep t){b:Array (Int×Value)}{t':SetTable}{c:List (List Int)}(T:TOk t' (b.toList.map (·.1)))(m:t'.led=t.led)(p:t'.plain=true)(hn:c.length=b.size)(g:c.Nodup)
  (hi:∀ (i:Nat) e,b[i]? = some e->∃ k a,c[i]? = some k/\e=(tupleKeyHash (intKind prog w) k,.ref a)/\pE prog w s.heap k a/\N a) (q:t'.place.size*5 < t'.mask*3) :
  mV prog w (s.heap.update S (Obj.putSet b t')) S led N c {o with data:=.set b (ep+1) t'} b (ep+1) t':=by
 have r:(s.heap.update S (Obj.putSet b t')).get? S=some {o with data:=.set b (ep+1) t'}:=by
  have:=a0d (Obj.putSet b t') X.ob (by rw[a4q b t' X.dt];rfl);rw[a4q b t' X.dt]at this;exact this
 refine⟨r,X.ex,rfl,T,q,m.trans X.ld,p,hn,λi e u=>?_,g⟩;obtain⟨k,a,v,x,l,y⟩:=hi i e u;refine⟨k,a,v,x,l.at (λob h=>?_),y⟩;have j:a≠S:=λz=>by
  subst z;obtain⟨A,items,n,d,_,f,_⟩:=l;rw[X.ob]at d;cases d;rw[X.dt]at f;cases f
 rw[(a7h s.heap S (Obj.putSet b t')).2 a j];exact h
def cI1(X:mV prog w s.heap S led N ks o es ep t){k:List Int}{a:Addr}{Q:Bool->Shared->Prop}(hu:A.units < cLine)(hk:pE prog w s.heap k a)(haN:N a)(hn:ks.length < 4000)
  (q1:k∈ks->∀ tk,Q false {s with toks:=tk}) (q2:k∉ks->∀ h' tk J,yC prog w h' S led N J->J.Perm (k::ks)->(∀ c ob,c≠S->s.heap.get? c=some ob->h'.get? c=some ob)->Q true {s with heap:=h',toks:=tk}) :
  wpAny (model prog w) A (setAdd S (.ref a)) Q E s:=by
 obtain⟨M,hMs,hM,hb⟩:=X.tk.stop2 (tupleKeyHash (intKind prog w) k);have hsz:t.place.size=es.size:=by have:=X.tk.len;simpa using this
 have hfit:=X.tk.fit;have hes:es.size < 4000:=by rw[← X.len];exact hn
 unfold setAdd;refine a3s (a3n (wpAny_pyHash_tuple hu hk ?_));unfold setAddHashed;refine a3s ?_;generalize hs':s.toks+(k.length+1)=d;have X':mV prog w ({s with toks:=d}:Shared).heap S led N ks o es ep t:=X;have K:pE prog w ({s with toks:=d}:Shared).heap k a:=hk;unfold setAddHashedIn;refine a3n (X'.state ?_);dsimp only;have hbs:byScan (.ref a) es=false:=rfl;rw[hbs,a3q a1b];unfold setSearch;refine a3n (nT X' hu K hM hb (by show M < 10*(t.mask+15);lia) 100000 0 none _ rfl (a2d _) (by lia) (λi ei=>?_) (λhm=>a3o (q1 hm d)) λhm=>?_)
 ·have hi':i < es.size:=by rw[← X.len];exact(a3a.mp ei).1
  have L:es[i]? = some es[i]:=a3c hi';obtain⟨k3,b5,e4,e5,_⟩:=X.it i _ L;rw[ei]at e4;cases e4;obtain⟨m,j,c1,c2,c3⟩:=X.tk.rea i (tupleKeyHash (intKind prog w) k) (by rw[a4b,a6c,L,e5];rfl);refine⟨m,j,a2d _,c1,c2,a9j λz=>?_⟩;by_cases zz:M=m;subst zz;exact hM ⟨i,by rw[c1,c2]⟩;exact hM (c3 M (by lia))
 ·dsimp only;refine a3n (X'.state ?_);dsimp only;have r:=xY t (wk t.mask (tupleKeyHash (intKind prog w) k) M).j X.tk.dm;have hf7:=X.tk.m7;have hful:=X.ful;have B:=X.tk.put hM hb (by lia);have l:=(jD X.tk.ri (wk t.mask (tupleKeyHash (intKind prog w) k) M).j).le;generalize hj:(wk t.mask (tupleKeyHash (intKind prog w) k) M).j=j at r B l ⊢;rw[r]at B ⊢;dsimp only at B ⊢;generalize hp:SetTable.below t.place j=p at B l ⊢;rw[a3p X.pl];refine a3n (cI0 K ?_);rw[a3p rfl];have C:p<=es.size:=by lia
  have O:p<=ks.length:=by rw[X.len];exact C
  have ehs:(SetTable.insertAt es p (tupleKeyHash (intKind prog w) k,Value.ref a)).toList.map (·.1)=aA7 (es.toList.map (·.1)) p (tupleKeyHash (intKind prog w) k):=by
   rw[SetTable.toList_insertAt];unfold aA7;rw[a1d,a7e,a2k,List.map_drop]
  rw[← ehs]at B;have q:(SetTable.insertAt es p (tupleKeyHash (intKind prog w) k,Value.ref a)).size=es.size+1:=pP es C _;have hpl:(SetTable.insertAt t.place p j).size=es.size+1:=by rw[pP t.place l,hsz]
  have P:∀ (i:Nat) e,(SetTable.insertAt es p (tupleKeyHash (intKind prog w) k,Value.ref a))[i]? = some e->∃ R u,(aA7 ks p k)[i]? = some R/\e=(tupleKeyHash (intKind prog w) R,.ref u)/\pE prog w s.heap R u/\N u:=λi e h=>by
   rw[fP _ C]at h;rw[aG6 _ O];split at h;rw[a3p (by assumption)];exact X.it i e h;split at h;cases h;rw[a3q (by assumption),a3p (by assumption)];exact⟨k,a,rfl,rfl,hk,haN⟩;rw[a3q (by assumption),a3q (by assumption)];exact X.it (i-1) e h
  have T:(aA7 ks p k).Nodup:=(rO ks p k).nodup_iff.mpr (a4j.mpr ⟨hm,X.nd⟩);have f:(aA7 ks p k).length=(SetTable.insertAt es p (tupleKeyHash (intKind prog w) k,Value.ref a)).size:=by rw[rN _ O,q,X.len]
  have hz:es.size+1<=sizeLine:=by rw[a3O];lia
  refine a3n (wpAny_storeSet_of (s:={s with toks:=d}) X.ob X.dt ?_ (by rw[q];exact hz));have kept:∀ (e2:Array (Int×Value)) (t2:SetTable) c ob,c≠S->s.heap.get? c=some ob->(s.heap.update S (Obj.putSet e2 t2)).get? c=some ob:=λe2 t2 c ob hc e=>by
   rw[(a7h s.heap S (Obj.putSet e2 t2)).2 c hc];exact e
  by_cases U:({t with place:=SetTable.insertAt t.place p j}:SetTable).tooFull=true
  ·rw[U];simp only[Bool.not_false,Bool.and_self,if_true];refine a3n ?_;unfold setRelay
   -- the table is full for a moment: what is known of it still
   have hg:(s.heap.update S (Obj.putSet (SetTable.insertAt es p (tupleKeyHash (intKind prog w) k,Value.ref a)) {t with place:=SetTable.insertAt t.place p j})).get? S=some {o with data:=.set (SetTable.insertAt es p (tupleKeyHash (intKind prog w) k,Value.ref a)) (ep+1) {t with place:=SetTable.insertAt t.place p j}}:=by
    have:=a0d (Obj.putSet (SetTable.insertAt es p (tupleKeyHash (intKind prog w) k,Value.ref a)) {t with place:=SetTable.insertAt t.place p j}) X.ob (by rw[a4q _ _ X.dt];rfl);rw[a4q _ _ X.dt]at this;exact this
   refine a3n (wpAny_setState_of (s:={s with heap:=s.heap.update S (Obj.putSet (SetTable.insertAt es p (tupleKeyHash (intKind prog w) k,Value.ref a)) {t with place:=SetTable.insertAt t.place p j}),toks:=d}) hg rfl (B.fits (by simp)) ?_);dsimp only;have hgr:SetTable.grown (es.size+1)=(es.size+1)*4:=by unfold SetTable.grown;rw[a3q (by lia)]
   obtain⟨H,V,sa2,sa3,sa4⟩:=sL ((es.size+1)*4) (by lia);rw[hgr,V];rw[a3q (by rw[a3O];lia)];have hpos:1<=2 ^ H:=Nat.one_le_two_pow;have h8:8<=2 ^ H:=by
    have:2 ^ 3<=2 ^ H:=Nat.pow_le_pow_right (by decide) sa2;simpa using this
   generalize hE:SetTable.insertAt es p (tupleKeyHash (intKind prog w) k,Value.ref a)=b at *;obtain⟨D,od,l1,l2,W,l4,l5,l6,l7⟩:=aZ1 (mask:=2 ^ H-1) (k:=H) (finger:=t.finger) (moves:=({t with place:=SetTable.insertAt t.place p j}:SetTable).movedTo (2 ^ H-1)) (led:=t.led) (plain:=t.plain) (hashes:=b.map (·.1)) (by lia) (by lia) (by rw[Array.size_map,q];lia);have hrl:({t with place:=SetTable.insertAt t.place p j}:SetTable).relaid (b.map (·.1)) ((es.size+1)*4)=some (D,od):=by
    unfold SetTable.relaid;rw[V];exact l1
   rw[Array.size_map]at W l5;have F:∀ x∈od.toList,x < b.toList.length:=λx I=>by
    have:=W.mem_iff.mp I;rw[a2e]at this;rw[a1e];exact this
   have L:(od.filterMap (b[·]?)).toList=rel b.toList od.toList:=by
    rw[Array.toList_filterMap];unfold rel;congr 1;funext x;rw[a6c]
   have v:od.toList.length=b.size:=by have:=W.length_eq;simpa using this
   have G:(od.filterMap (b[·]?)).size=b.size:=by
    rw[← a1e,L,tQ F,v]
   rw[hrl];refine a3n ?_;show wpAny (model prog w) A (ite (((od.filterMap (b[·]?)).size != b.size)=true) _ _) _ _ _;dsimp only;rw[G];simp only[bne_self_eq_false,Bool.false_eq_true,if_false];refine a3o ?_;dsimp only;refine wpAny_storeSet_of (s:={s with heap:=s.heap.update S (Obj.putSet b {t with place:=SetTable.insertAt t.place p j}),toks:=d}) hg rfl ?_ (by rw[G,q];exact hz);refine a3o ?_
   -- as if it were stored at once
   have T3:TOk D ((od.filterMap (b[·]?)).toList.map (·.1)):=by
    have e4:(od.filterMap (b[·]?)).toList.map (·.1)=od.toList.filterMap ((b.map (·.1))[·]?):=by
     rw[Array.toList_filterMap,List.map_filterMap];congr 1;funext x;rw[Array.getElem?_map]
    rw[e4];exact l2
   have Y:∀ x∈od.toList,x < (aA7 ks p k).length:=λx I=>by rw[f,← a1e];exact F x I
   refine q2 hm _ d (rel (aA7 ks p k) od.toList) ⟨{o with data:=.set (od.filterMap (b[·]?)) (ep+1+1) D},od.filterMap (b[·]?),ep+1+1,D,?_,X.ex,rfl,T3,?_,l6.trans X.ld,l7.trans X.pl,?_,?_,?_⟩ ?_ ?_;have:=a0d (Obj.putSet (od.filterMap (b[·]?)) D) hg (by rw[a4q _ _ rfl];rfl);rw[a4q _ _ rfl]at this;exact this;rw[l4,l5,q];lia;rw[tQ Y,v,G]
   ·intro i e h;rw[← a6c,L,aB0 F]at h;rw[aB0 Y];cases I:od.toList[i]? with
    | none=>rw[I]at h;cases h
    | some x=>
      rw[I]at h;have he':b[x]? = some e:=by rw[← a6c];exact h
      obtain⟨R,u,h1,h2,h3,h4⟩:=P x e he';refine⟨R,u,h1,h2,h3.at (λob hob=>?_),h4⟩;have y:u≠S:=λz=>by
       subst z;obtain⟨o2,items,n,Z,_,hd2,_⟩:=h3;rw[X.ob]at Z;cases Z;rw[X.dt]at hd2;cases hd2
      rw[(a7h _ S (Obj.putSet (od.filterMap (b[·]?)) D)).2 u y];exact kept _ _ u ob y hob
   ·exact(aG7 (by rw[f];exact W)).nodup_iff.mpr T
   ·exact(aG7 (by rw[f];exact W)).trans (rO ks p k)
   ·intro c ob hc e;rw[(a7h _ S (Obj.putSet (od.filterMap (b[·]?)) D)).2 c hc];exact kept _ _ c ob hc e
  ·have g:({t with place:=SetTable.insertAt t.place p j}:SetTable).tooFull=false:=by simpa using U
   rw[g];simp only[Bool.and_false,Bool.false_eq_true,if_false];refine a3o (q2 hm _ d (aA7 ks p k) ⟨_,_,_,_,X.store B rfl X.pl f T P ?_⟩ (rO ks p k) (kept _ _));unfold SetTable.tooFull SetTable.fill at g;simp only[X.tk.dm,decide_eq_false_iff_not,Nat.not_le]at g;simpa using g
end
section
variable{prog:Program}{w:World}{A:Around}{S I:Addr}{led:Bool}{N:Addr->Prop}
def yC.stay{h h':Heap}{ks:List (List Int)}(X:yC prog w h S led N ks)(f:h'.get? S=h.get? S)(g:∀ c ob,N c->h.get? c=some ob->h'.get? c=some ob):yC prog w h' S led N ks:=by
 obtain⟨o,es,ep,t,Y⟩:=X;refine⟨o,es,ep,t,f.trans Y.ob,Y.ex,Y.dt,Y.tk,Y.ful,Y.ld,Y.pl,Y.len,λi e j=>?_,Y.nd⟩;obtain⟨k,a,l,m,n,d⟩:=Y.it i e j;exact⟨k,a,l,m,n.at (λob b=>g a ob d b),d⟩
def hZ(prog:Program)(w:World)(h:Heap)(N:Addr->Prop)(ks:List (List Int))(items:Array Value):Prop:=ks.length=items.size/\∀ (i:Nat) v,items[i]? = some v->∃ k a,ks[i]? = some k/\v=.ref a/\pE prog w h k a/\N a
def hZ.stay{h h':Heap}{ks:List (List Int)}{items:Array Value}(X:hZ prog w h N ks items)(f:∀ c ob,N c->h.get? c=some ob->h'.get? c=some ob):hZ prog w h' N ks items:=by
 refine⟨X.1,λi v e=>?_⟩;obtain⟨k,a,g,j,l,d⟩:=X.2 i v e;exact⟨k,a,g,j,l.at (λob b=>f a ob d b),d⟩
def aZ4{items:Array Value}{ks:List (List Int)}(B:A.units < cLine)(f:¬ N S)(g:¬ N I)(j:S≠I)(J:ks.length < 4000) :
  Fill prog w A S I items.size (λi v=>items[i]? = some v) (λi h=>hZ prog w h N ks items/\∃ us,yC prog w h S led N us/\us.length<=i/\∀ x,x∈us↔x∈ks.take i) where
 put:=λi v s Q E hi C ⟨TA,us,X,n,hm⟩ q=>by
  obtain⟨k,a,D,rfl,tk,ha⟩:=TA.2 i v C;have F:i < ks.length:=by rw[TA.1];exact hi
  have p:ks.take (i+1)=ks.take i++[k]:=by rw[a7j,D];rfl
  have G:=X;obtain⟨o,es,ep,t,Y⟩:=X;refine cI1 Y B tk ha (by lia) (λd b=>?_) λd h' b l H r u=>?_;refine q _ s.heap b ⟨TA,us,G,by lia,λx=>?_⟩ λc ob _ e=>e;rw[p,a0c,a3b,hm x];refine⟨.inl,λh=>?_⟩;rcases h with h | rfl;exact h;exact(hm _).mp d;refine q _ h' b ⟨TA.stay λc ob m e=>u c ob (λz=>f (z ▸ m)) e,l,H,by have:=r.length_eq;simp at this;lia,λx=>?_⟩ u;rw[r.mem_iff,a7b,p,a0c,a3b,hm x];exact or_comm
 stay:=λi h h' ⟨TA,us,X,n,hm⟩ k=>by
  have y:∀ c ob,N c->h.get? c=some ob->h'.get? c=some ob:=λc ob m e=>k c ob (λz=>g (z ▸ m)) e;refine⟨TA.stay y,us,X.stay ?_ y,n,hm⟩;obtain⟨o,es,ep,t,Y⟩:=X;rw[k S o j Y.ob,Y.ob]
end
def aZ5:Manifest.owners.lookup (String.ofList (['r','o','t','a','r','e','t','i','_','t','e','s']:List Char).reverse)=some Manifest.sig_set_iterator:=by kernel_rfl
def mL:Slot "set_iterator" "__next__" "set_iterator.__next__":=.of (owner:="set_iterator") (n:="__next__") (by rw[typeLookup_type,a3W];kernel_rfl) (by decide +kernel) (by decide +kernel) (by decide +kernel) (.inl (by decide +kernel)) (by rw[a4m];kernel_rfl)
def yD:entryFor table "set_iterator.__next__"=some Builtin.«set_iterator.__next__»:=entryFor_of_tree (by kernel_rfl)
def aG8(a:Value):argsOk "set_iterator.__next__" ⟨[a],[]⟩:=by
 unfold argsOk;rw[signature?_of (id:="set_iterator.__next__") (n:=['_','_','t','x','e','n','_','_']) (o:=['r','o','t','a','r','e','t','i','_','t','e','s']) (by kernel_rfl) aZ5]
 kernel_rfl
def sM:entryFor table "set.__iter__"=some Builtin.«frozenset.__iter__»:=entryFor_alias (id':="frozenset.__iter__") (by kernel_rfl) rfl (by decide +kernel) (by kernel_rfl)
theorem aZ6{b:Type}:∀ (l:List b) (i:Nat) (h:i < l.length),(l[i]::l.eraseIdx i).Perm l
 | [],i,h=>absurd h (a6e i)
 | a::l,0,_=>.refl _
 | a::l,i+1,h=>(List.Perm.swap a _ _).trans (.cons a (aZ6 l i (Nat.lt_of_succ_lt_succ h)))
theorem yE{c:Type}(next:Nat->Nat):∀ (fuel k:Nat) (yQ:List c) (a:Array c),yQ.length=fuel->(pickOrder.go next fuel k yQ a).toList.Perm (a.toList++yQ)
 | 0,k,yQ,a,h=>by
   have:yQ=[]:=a9e h;subst this;rw[a4f];exact .refl _
 | fuel+1,k,yQ,a,h=>by
   have b:next k % yQ.length < yQ.length:=Nat.mod_lt _ (by lia)
   unfold pickOrder.go;rw[a0a b];dsimp only;have d:=yE next fuel (k+1) (yQ.eraseIdx (next k % yQ.length)) (a.push yQ[next k % yQ.length]) (by rw[List.length_eraseIdx_of_lt b];lia)
   refine d.trans ?_;rw[Array.toList_push,List.append_assoc];exact List.Perm.append_left _ (aZ6 yQ _ b)
def sN{a:Type}(next:Nat->Nat)(xs:Array a):(pickOrder next xs).toList.Perm xs.toList:=by
 have:=yE next xs.size 0 xs.toList #[] (by simp)
 simpa[pickOrder]using this
noncomputable abbrev aM4(slot i n ep:Nat)(S:Addr):Obj:={cls:=.type "set_iterator",data:=.fields #[.int slot 0,.int i 0,.ref S,.int n 0,.int ep 0]}
section
variable{prog:Program}{w:World}{A:Around}{E:Value->Shared->Prop}{s:Shared}{S I:Addr}{N:Addr->Prop}{ks:List (List Int)}{o:Obj}{es:Array (Int×Value)}{ep:Nat}{t:SetTable}
noncomputable def bV(w:World)(S:Addr)(ep:Nat)(es:Array (Int×Value)):Array (Int×Value):=if w.params.followText "set-order"=true then pickOrder (w.params.setOrder S ep) es else es
def rP(es:Array (Int×Value)):(bV w S ep es).toList.Perm es.toList:=by
 unfold bV;split;exact sN _ es;exact .refl _
def aZ7(X:mV prog w s.heap S (eS w) N ks o es ep t){Q:Value->Shared->Prop}(q:Q (.ref s.heap.objs.size) {s with heap:=s.heap.push (aM4 0 0 es.size ep S)}):wpAny (model prog w) A (pyIter (.ref S)) Q E s:=by
 have hT:s.TypeIs (.ref S) "set":=⟨o,X.ob,X.ex.1⟩;refine wpAny_pyIter_slot hT F.slot_set_iter (a3A F.slot_set_iter hT sM ?_ (F.args_set_iter_1 _));show wpAny _ _ (Builtin.Frozenset.sizeOf S >>= _) _ _ s;unfold Builtin.Frozenset.sizeOf;refine a3n (a3n (a4p X.ob X.dt X.fits (a3o ?_)));unfold setDrawn;refine a3n (a3n (X.state ?_));unfold setsByText;refine a3n (a3n (a3X (a3o ?_)));refine a3o ?_;have hd:(!t.plain&&decide (es.size > 1))=false:=by rw[X.pl];rfl
 dsimp only;rw[a3q (λh=>?_)];refine a3n (a3o ?_);refine a3n (wpAny_setEpoch_of X.ob X.dt X.fits ?_);unfold newFields;refine a3n (a3t ?_);exact a3o ⟨_,rfl,"set_iterator",_,⟨_,a2b _ rfl,rfl⟩,mL.lookup,q⟩;rw[a5d]at h;exact Bool.noConfusion (hd.symm.trans h.2)
def aZ8(w:World)(h:Heap)(I S:Addr)(es:Array (Int×Value))(ep:Nat)(t:SetTable)(i:Nat):Prop:=
 ∃ slot,h.get? I=some (aM4 slot i es.size ep S)/\(w.params.followText "set-order"=false->SetTable.below t.place slot=i)
def aZ9(X:mV prog w s.heap S (eS w) N ks o es ep t){i slot:Nat}(k:w.params.followText "set-order"=false->SetTable.below t.place slot=i){Q:Option (Value×Nat)->Shared->Prop}
  (l:∀ e next,(bV w S ep es)[i]? = some e->(w.params.followText "set-order"=false->SetTable.below t.place next=i+1)->Q (some (e.2,next)) s) (m:(bV w S ep es)[i]? = none->Q none s):wpAny (model prog w) A (setNext S slot i ep) Q E s:=by
 unfold setNext;refine a3n (X.state ?_);unfold setsByText;refine a3n (a3n (a3X (a3o ?_)));dsimp only;by_cases b:w.params.followText "set-order"=true
 ·rw[a3p (show(model prog w).w.params.followText "set-order"=true from b)];simp only[bne_self_eq_false,Bool.false_eq_true,if_false];unfold setWalk;refine a3n (a3n (X.state ?_));unfold setsByText;refine a3n (a3n (a3X (a3o ?_)));dsimp only;rw[a3p (show(model prog w).w.params.followText "set-order"=true from b)];refine a3n (a3X (a3o ?_));have n:bV w S ep es=pickOrder (w.params.setOrder S ep) es:=by unfold bV;rw[a3p b]
  show wpAny _ _ (pure ((pickOrder (w.params.setOrder S ep) es)[i]?.map λe=>(e.2,slot))) _ _ _;refine a3o ?_;rw[← n];cases f:(bV w S ep es)[i]? with
  | none=>exact m f
  | some e=>exact l e slot f λz=>by rw[b]at z;cases z
 ·have g:w.params.followText "set-order"=false:=by simpa using b
  have a:=k g;have n:bV w S ep es=es:=by unfold bV;rw[a3q b]
  have p:(!t.plain&&decide (es.size > 1))=false:=by rw[X.pl];rfl
  have j:t.led=true:=by rw[X.ld];unfold eS;rw[g];rfl
  rw[a3q (show ¬ ((model prog w).w.params.followText "set-order"=true)from b)];refine a4o (λh=>absurd (p.symm.trans h) a1b) λ_=>?_;refine a3n ?_;have q:wpAny (model prog w) A (if(!t.led && !es.isEmpty)=true then unsupported "set:maker-not-led" else pure ()) (λ_ s'=>s'=s) E s:=by
   rw[j];simp only[Bool.not_true,Bool.false_and,Bool.false_eq_true,if_false];exact a3o rfl
  refine a3B q (λ_ s' y=>?_) λ_ _ z=>z;subst y;rw[a];rw[n]at l m;have r:t.place.size=es.size:=by have:=X.tk.len;simpa using this
  cases f:es[i]? with
  | none=>exact a3o (m f)
  | some e=>
    have u:i < t.place.size:=by rw[r];exact(a6d.mp f).1
    have d:t.place[i]? = some t.place[i]:=a3c u;rw[d];refine a3o (l e _ f λ_=>?_);have c:=jD X.tk.ri (t.place[i]+1);have B:i < SetTable.below t.place (t.place[i]+1):=by
     refine a9j λz=>?_;have:=c.hi i _ z d;lia
    have C:SetTable.below t.place (t.place[i]+1)<=i+1:=by
     refine a8j λz=>?_;have v:i+1 < t.place.size:=a5b z c.le;have x:t.place[i+1]? = some t.place[i+1]:=a3c v;have:=c.lo (i+1) _ z x;have:=X.tk.ri i (i+1) _ _ (a1k _) d x;lia
    lia
def bA0(X:mV prog w s.heap S (eS w) N ks o es ep t){i:Nat}(hi:aZ8 w s.heap I S es ep t i){Q:Option Value->Shared->Prop}{e:Int×Value}(g:(bV w S ep es)[i]? = some e)
  (q:∀ h',aZ8 w h' I S es ep t (i+1)->(∀ b ob,b≠I->s.heap.get? b=some ob->h'.get? b=some ob)->Q (some e.2) {s with heap:=h'}):wpAny (model prog w) A (pyNext (.ref I)) Q E s:=by
 obtain⟨slot,c,d⟩:=hi;have hT:s.TypeIs (.ref I) "set_iterator":=⟨_,c,rfl⟩;unfold pyNext;refine a3n (a3R (wpAny_callSpecial?_slot (name:=Str.ofString "__next__") hT mL (a3A mL hT yD ?_ (aG8 _))));show wpAny _ _ (fieldsOf (.ref I) >>= _) _ _ s;unfold fieldsOf;refine a3n (a3n (a4n c (a3o ?_)));dsimp only;refine a3n (a4p X.ob X.dt X.fits ?_);simp only[bne_self_eq_false,Bool.false_eq_true,if_false,Int.toNat_natCast];refine a3n (aZ9 X d (λm next a f=>?_) λhn=>?_)
 ·rw[g]at a;cases a;dsimp only;refine a3n (a3G c rfl (by simp) ?_);have h:(s.heap.update I (λob=>ob.mapFields (·.setIfInBounds 0 (rawInt next)))).get? I=some (aM4 next i es.size ep S):=by
   rw[a0d _ c rfl];simp[Obj.mapFields,rawInt]
  refine a3n (a3G (s:={s with heap:=s.heap.update I (λob=>ob.mapFields (·.setIfInBounds 0 (rawInt next)))}) h rfl (by simp) ?_);have k:((s.heap.update I (λob=>ob.mapFields (·.setIfInBounds 0 (rawInt next)))).update I (λob=>ob.mapFields (·.setIfInBounds 1 (rawInt ((i:Int)+1))))).get? I=some (aM4 next (i+1) es.size ep S):=by
   rw[a0d _ h rfl];simp[Obj.mapFields,rawInt]
  refine a3o ⟨_,rfl,a3o (q _ ⟨next,k,f⟩ λb ob j l=>?_)⟩;exact(a4c _ _ (a3d j)).trans ((a4c _ _ (a3d j)).trans l)
 ·rw[g]at hn;cases hn
def bA1(f:A.handled=none)(X:mV prog w s.heap S (eS w) N ks o es ep t){i:Nat}(hi:aZ8 w s.heap I S es ep t i){Q:Option Value->Shared->Prop}(g:(bV w S ep es)[i]? = none)
  (q:∀ h',(∀ b ob,b≠I->s.heap.get? b=some ob->h'.get? b=some ob)->Q none {s with heap:=h'}):wpAny (model prog w) A (pyNext (.ref I)) Q E s:=by
 obtain⟨slot,d,e⟩:=hi;have hT:s.TypeIs (.ref I) "set_iterator":=⟨_,d,rfl⟩;unfold pyNext;refine a3n (a3R (wpAny_callSpecial?_slot (name:=Str.ofString "__next__") hT mL (a3A mL hT yD ?_ (aG8 _))));show wpAny _ _ (fieldsOf (.ref I) >>= _) _ _ s;unfold fieldsOf;refine a3n (a3n (a4n d (a3o ?_)));dsimp only;refine a3n (a4p X.ob X.dt X.fits ?_);simp only[bne_self_eq_false,Bool.false_eq_true,if_false,Int.toNat_natCast];refine a3n (aZ9 X e (λl next c h=>?_) λhn=>?_)
 ·rw[g]at c;cases c
 ·dsimp only;refine a3n (a3G d rfl (by simp) ?_);show wpAny _ _ (newExc (.type "StopIteration") [] >>= _) _ _ _;refine a3n ?_;simp only[newExc,newTuple];refine a3n (a3t ?_ (by size_fits));refine a3n (m:=firstArgMember _ _) (wpAny_of_eq (a:=Value.none) rfl ?_);refine a3t ?_ (by size_fits);simp only[raiseNew];refine a3n (wpAny_handled ?_);rw[show A.in1.handled=none from f];refine a3n (a3o (wpAny_throw ?_));refine a3n (wpAny_isInstance (T:="StopIteration") (b:=true) ⟨_,a2b _ rfl,rfl⟩ isSubtype_stop ?_);refine a3o (q _ λb ob j k=>a2a _ (a2a _ ((a4c _ _ (a3d j)).trans k)))
end
open L2
def aM5:typeLookup (.type "set") "__len__"=pure (some (.builtin "set.__len__")):=by rw[typeLookup_type,a3W];kernel_rfl
section
variable{prog:Program}{w:World}{A:Around}{E:Value->Shared->Prop}{s:Shared}{S I:Addr}{N:Addr->Prop}{ks:List (List Int)}{o:Obj}{es:Array (Int×Value)}{ep:Nat}{t:SetTable}
def bL6{Q:Bool->Shared->Prop}(hT:s.TypeIs (.ref S) "set")(h:∀ b,Q b s):wpAny (model prog w) A (Builtin.List.listLengthHint (.ref S)) Q E s:=by
 unfold Builtin.List.listLengthHint;refine a3n (a3Y hT aM5 ?_)
 (generalize a:("set.__len__":String)=c;(fail_if_success (clear a c));wp_delta;rw[show splitId c=some ("set","__len__")from by subst a;decide +kernel];subst a)
 refine a3n (wpAny_isInstance (b:=true) hT sub_set_self ?_);dsimp only;rw[a3q (by decide)];refine a4o (λ_=>?_) (λh'=>(h' (by decide +kernel)).elim);refine a3n (a3L hT ?_);exact a3o (h _)
def bL7(y:A.handled=none){L:Addr}{h0:Heap}(X:mV prog w h0 S (eS w) N ks o es ep t)(B:h0.objs.size<=I)(C:h0.objs.size<=L)(f:L≠I) :
  LoopJ prog w A I L es.size (λi acc h=>(∀ b ob,h0.get? b=some ob->h.get? b=some ob)/\aZ8 w h I S es ep t i/\acc.toList=((bV w S ep es).toList.take i).map (·.2)) (λacc h=>(∀ b ob,h0.get? b=some ob->h.get? b=some ob)/\acc.toList=(bV w S ep es).toList.map (·.2)):=by
 have D:(bV w S ep es).toList.length=es.size:=by have:=(rP (w:=w) (S:=S) (ep:=ep) es).length_eq;simpa using this
 have v:∀ b ob,h0.get? b=some ob->b≠I:=λb ob e z=>absurd (a0b e) (a3k.mpr (z ▸ B));have F:∀ b ob,h0.get? b=some ob->b≠L:=λb ob e z=>absurd (a0b e) (a3k.mpr (z ▸ C));have x:∀ (h:Heap),(∀ b ob,h0.get? b=some ob->h.get? b=some ob)->mV prog w h S (eS w) N ks o es ep t:=λh d=>
  ⟨d _ _ X.ob,X.ex,X.dt,X.tk,X.ful,X.ld,X.pl,X.len,λi e l=>by
   obtain⟨k,a,m,n,G,H⟩:=X.it i e l;exact⟨k,a,m,n,G.at (λob p=>d a ob p),H⟩,X.nd⟩
 refine⟨λi acc s c Q E hi ⟨d,hs,ha⟩ r q=>?_,λacc s c Q E ⟨d,hs,ha⟩ r q=>?_,λi acc h h' ⟨d,hs,ha⟩ _ k=>?_⟩
 ·have g:i < (bV w S ep es).toList.length:=by lia
  have l:(bV w S ep es)[i]? = some (bV w S ep es).toList[i]:=by rw[← a6c];exact a0a g
  refine bA0 (x s.heap d) hs l λh' u j=>?_;have:=q (bV w S ep es).toList[i].2 h' s.toks ⟨λb ob e=>j b ob (v b ob e) (d b ob e),u,?_⟩ (j _ _ f r);exact this;rw[Array.toList_push,ha,a7j,a0a g,a1d];rfl
 ·refine bA1 y (x s.heap d) hs (by rw[← a6c];exact a8g (by lia)) λh' j=>?_;have:=q h' s.toks ⟨λb ob e=>j b ob (v b ob e) (d b ob e),by rw[ha,a4g (by lia)]⟩ (j _ _ f r);exact this
 ·obtain⟨slot,m,n⟩:=hs;exact⟨λb ob e=>k b ob (F b ob e) (d b ob e),⟨slot,k I _ (a3d f) m,n⟩,ha⟩
def yF(K:A.handled=none)(X:mV prog w s.heap S (eS w) N ks o es ep t)(hz:es.size<=sizeLine){Q:List Value->Shared->Prop}
  (q:∀ h' tk,(∀ b ob,s.heap.get? b=some ob->h'.get? b=some ob)->s.heap.objs.size < h'.objs.size->Q ((bV w S ep es).toList.map (·.2)) {s with heap:=h',toks:=tk}):wpAny (model prog w) A (collect (.ref S)) Q E s:=by
 have h:S < s.heap.objs.size:=a0b X.ob;have n:∀ R:Result->Shared->Prop,(∀ h' tk acc c,(∀ b ob,s.heap.get? b=some ob->h'.get? b=some ob)->acc.toList=(bV w S ep es).toList.map (·.2)->h'.get? s.heap.objs.size=some (fV acc c)->R (.ok (.ret (.ref s.heap.objs.size))) {s with heap:=h',toks:=tk}) ->
   codeAny (model prog w) A (.builtin "proto.collect" ⟨[.ref S],[]⟩) R s:=by
  intro R C
  (refine a3C F.entry_proto_collect ?_;rw[a1f F.plain_proto_collect _])
  (show wpAny _ A.in1 (newList [] >>= λl=>again (.builtin "list.__iadd__" ⟨[l,.ref S],[]⟩)) _ _ s;refine a3n (a3t ?_))
  (refine a3o ⟨a3J F.plain_list_iadd _,a3C F.entry_list_iadd ?_⟩;rw[a1f F.plain_list_iadd _])
  have up:∀ b ob,s.heap.get? b=some ob->(s.heap.push (fV #[] 0)).get? b=some ob:=λb ob e=>a2a _ e;have D:(s.heap.push (fV #[] 0)).objs.size=s.heap.objs.size+1:=a2h ..;have G:mV prog w ({s with heap:=s.heap.push (fV #[] 0)}:Shared).heap S (eS w) N ks o es ep t:=
   ⟨up _ _ X.ob,X.ex,X.dt,X.tk,X.ful,X.ld,X.pl,X.len,λi e M=>by
    obtain⟨k,a,p,O,P,T⟩:=X.it i e M;exact⟨k,a,p,O,P.at (λob r=>up a ob r),T⟩,X.nd⟩
  have hT:Shared.TypeIs {s with heap:=s.heap.push (fV #[] 0)} (.ref S) "set":=⟨o,G.ob,X.ex.1⟩
  (show wpAny _ A.in1 (Builtin.List.listExtendWith (.ref s.heap.objs.size) (.ref S) (.ref s.heap.objs.size)) _ _ {s with heap:=s.heap.push (fV #[] 0)})
  unfold Builtin.List.listExtendWith;refine a3n (a3L hT ?_);have p:Builtin.List.listSameRef (.ref s.heap.objs.size) (.ref S)=false:=by
   simp only[Builtin.List.listSameRef,beq_eq_false_iff_ne];exact a3j h
  rw[a3q (by rw[p];decide)];refine a3n (aZ7 G ?_);have f:((s.heap.push (fV #[] 0)).push (aM4 0 0 es.size ep S)).get? s.heap.objs.size=some (fV #[] 0):=a2a _ (a2b _ rfl);have u:((s.heap.push (fV #[] 0)).push (aM4 0 0 es.size ep S)).get? (s.heap.push (fV #[] 0)).objs.size=some (aM4 0 0 es.size ep S):=a2b _ rfl;have j:∀ b ob,s.heap.get? b=some ob->((s.heap.push (fV #[] 0)).push (aM4 0 0 es.size ep S)).get? b=some ob:=λb ob e=>a2a _ (up b ob e);have v:Shared.TypeIs {s with heap:=(s.heap.push (fV #[] 0)).push (aM4 0 0 es.size ep S)} (.ref S) "set":=⟨o,j _ _ X.ob,X.ex.1⟩;have U:SetTable.below t.place 0=0:=by
   have c:=jD X.tk.ri 0;refine Nat.le_zero.mp (a8j λz=>?_);have x:0 < t.place.size:=a5b z c.le;have V:t.place[0]? = some t.place[0]:=a3c x;exact absurd (c.lo 0 _ z V) (a6e _)
  have ne:s.heap.objs.size≠(s.heap.push (fV #[] 0)).objs.size:=by rw[D];exact a9c (a1k _)
  have L:=bL7 (A:=A.in1) K (I:=(s.heap.push (fV #[] 0)).objs.size) (L:=s.heap.objs.size) X (by rw[D];exact Nat.le_succ _) (a6a _) ne;have H:(∀ b ob,s.heap.get? b=some ob->((s.heap.push (fV #[] 0)).push (aM4 0 0 es.size ep S)).get? b=some ob)/\aZ8 w ((s.heap.push (fV #[] 0)).push (aM4 0 0 es.size ep S)) (s.heap.push (fV #[] 0)).objs.size S es ep t 0/\(#[]:Array Value).toList=((bV w S ep es).toList.take 0).map (·.2):=⟨j,⟨0,u,λ_=>U⟩,rfl⟩;refine a3n (a3s (bL6 v λb=>?_));refine a4o (λ_=>?_) (λ_=>a3o ⟨a3J a6g _,bH1 L hz _ es.size 0 _ #[] 0 (by lia) (a2d _) H rfl f λh' tk acc c g y d=>C h' tk acc c g.1 g.2 d⟩)
  (refine a3n (a4r ?_);refine a3n ?_)
  (show wpAny _ _ (updateSeq s.heap.objs.size (·.push .none) >>= λ_=>updateSeq s.heap.objs.size (·.pop)) _ _ _;refine a3n (a3Z f rfl ?_))
  have m:(((s.heap.push (fV #[] 0)).push (aM4 0 0 es.size ep S)).update s.heap.objs.size (Obj.mapSeq (·.push Value.none))).get? s.heap.objs.size=some (fV #[.none] 1):=by
   rw[a0d _ f rfl];simp[Obj.mapSeq]
  refine a3Z (hz:=by seq_fits) m rfl ?_;have B:((((s.heap.push (fV #[] 0)).push (aM4 0 0 es.size ep S)).update s.heap.objs.size (Obj.mapSeq (·.push Value.none))).update s.heap.objs.size (Obj.mapSeq (·.pop))).get? s.heap.objs.size=some (fV #[] 2):=by
   rw[a0d _ m rfl];simp[Obj.mapSeq]
  refine a3o ⟨a3J a6g _,bH1 L hz _ es.size 0 _ #[] 2 (by lia) (a2d _) (L.frame _ _ _ _ H ?_ λb ob J e=>?_) rfl B λh' tk acc c g y d=>C h' tk acc c g.1 g.2 d⟩;exact(Heap.size_update ..).trans (Heap.size_update ..);exact(a4c _ _ (a3d J)).trans ((a4c _ _ (a3d J)).trans e)
 (unfold collect;refine a3n (wpAny_runValue (n _ λh' tk acc c g ha d=>?_)))
 (show wpAny _ A (load s.heap.objs.size >>= _) _ _ _;refine a3n (a4n d ?_))
 rw[← ha]at q;exact a3o (q h' tk g (a0b d))
end
end PySem
namespace Sx
open PySem PySem.W PyProof.Rows
structure Ord(c:Nat->Nat->Bool):Prop where
 ir:∀ a,c a a=false
 tr:∀ {a b d},c a b=true->c b d=true->c a d=true
 nt:∀ {a b d},c b a=false->c d b=false->c d a=false
noncomputable abbrev at0(p:Array Nat)(i:Nat):Nat:=p.getD i 0
def Up(c:Nat->Nat->Bool)(p:Array Nat)(k:Nat):Prop:=∀ i j,i<=j->j < k->c (at0 p j) (at0 p i)=false
def Dn(c:Nat->Nat->Bool)(p:Array Nat)(k:Nat):Prop:=∀ i j,i<=j->j < k->c (at0 p i) (at0 p j)=false
def Pm(N:Nat)(p:Array Nat):Prop:=p.toList.Perm (List.range N)
theorem Pm.size{N:Nat}{p:Array Nat}(h:Pm N p):p.size=N:=by have:=List.Perm.length_eq h;simpa using this
def Pm.lt{N:Nat}{p:Array Nat}(h:Pm N p){i:Nat}(hi:i < N):at0 p i < N:=by
 have hs:=h.size;have a:i < p.size:=by lia
 have e:at0 p i=p[i]:=by simp[at0,Array.getD,a]
 rw[e];have:p[i]∈p.toList:=by simp
 exact a2e.mp (h.mem_iff.mp this)
def Pm.of{N:Nat}{p q:Array Nat}(h:Pm N p)(a:q.Perm p):Pm N q:=(Array.perm_iff_toList_perm.mp a).trans h
def yG{p q:Array Nat}{i j:Nat}(h:p[i]? = q[j]?):at0 p i=at0 q j:=by simp[at0,Array.getD_eq_getD_getElem?,h]
def fU{p:Array Nat}{i j k:Nat}(a:j<=p.size):at0 (kas_rev p i j) k=if i<=k/\k < j then at0 p (i+j-1-k)else at0 p k:=by
 have e:=getElem?_mirror_all (xs:=p) (i:=i) (j:=j) a k;unfold kas_rev;by_cases h:i<=k/\k < j;rw[a3p h]at e ⊢;exact yG e;rw[a3q h]at e ⊢;exact yG e
def Pm.rev{N:Nat}{p:Array Nat}(h:Pm N p)(i j:Nat):Pm N (kas_rev p i j):=h.of (mirror_perm ..)
section
variable{N:Nat}{c:Nat->Nat->Bool}{cmp:Nat->Nat->(Bool->Shared->Prop)->Shared->Prop}{s:Shared}(O:Ord c)(hc:∀ i j C,i < N->j < N->C (c i j) s->cmp i j C s)
include O hc
theorem bA2{p:Array Nat}(e:Pm N p):∀ (f n:Nat) {G:Nat->Shared->Prop},1<=n->n+f<=N->Up c p n->(∀ m,n<=m->m<=n+f->Up c p m->(m=n+f\/c (at0 p m) (at0 p (m-1))=true)->G m s)->(kas_asc p f n).kasWp cmp G s
 | 0,n,G,l,o,a,q=>q n (a6a _) (a6a _) a (.inl rfl)
 | f+1,n,G,l,o,a,q=>by
   show cmp (at0 p n) (at0 p (n-1)) (λb s'=>(if b=true then KasT.ret n else kas_asc p f (n+1)).kasWp cmp G s') s;refine hc _ _ _ (e.lt (by lia)) (e.lt (by lia)) ?_;cases k:c (at0 p n) (at0 p (n-1))with
   | true=>rw[a3p rfl];exact q n (a6a _) (by lia) a (.inr k)
   | false=>
     rw[a3q a1b];refine bA2 e f (n+1) (by lia) (by lia) (λi j g u=>?_) λm v w r t=>q m (by lia) (by lia) r (by rcases t with z | z;exact .inl (by lia);exact .inr z);by_cases h:j < n;exact a i j g h
     ·have:j=n:=by lia
      subst this;by_cases d:i=j;subst d;exact O.ir _;exact O.nt (a i (j-1) (by lia) (by lia)) k
omit hc in
theorem Dn.turn{p:Array Nat}{n q:Nat}(hn:n<=p.size)(g:q+1<=n)(hd:Dn c p n)(e:∀ i j,n-(q+1)<=i->i < n->n-(q+1)<=j->j < n->c (at0 p i) (at0 p j)=false):Dn c (kas_rev p (n-(q+1)) n) n:=by
 intro i j a f;rw[fU hn,fU hn];by_cases b:n-(q+1)<=i/\i < n;rw[a3p b,a3p (by lia)];exact e _ _ (by lia) (by lia) (by lia) (by lia);rw[a3q b];by_cases d:n-(q+1)<=j/\j < n;rw[a3p d];exact hd i _ (by lia) (by lia);rw[a3q d];exact hd i j a f
omit hc in
theorem Dn.less{p:Array Nat}{n:Nat}(f:1<=n)(hd:Dn c p n)(d:c (at0 p n) (at0 p (n-1))=true):Dn c p (n+1):=by
 intro i j a g;by_cases b:j < n;exact hd i j a b;have:j=n:=by lia
 subst this;by_cases hi:i=j;subst hi;exact O.ir _;cases e:c (at0 p i) (at0 p j)with
 | false=>rfl
 | true=>
   have:=O.tr e d;rw[hd i (j-1) (by lia) (by lia)]at this;exact this.symm
theorem vL:∀ (f:Nat) (p:Array Nat) (n q:Nat) {G:Array Nat×Nat×Nat->Shared->Prop},Pm N p->1<=n->n+f<=N->Dn c p n->q+1<=n->(∀ i j,n-(q+1)<=i->i < n->n-(q+1)<=j->j < n->c (at0 p i) (at0 p j)=false) ->
  (∀ a m g,Pm N a->n<=m->m<=n+f->Dn c a m->g+1<=m->(∀ i j,m-(g+1)<=i->i < m->m-(g+1)<=j->j < m->c (at0 a i) (at0 a j)=false)->G (a,m,g) s)->(kas_desc f p n q).kasWp cmp G s
 | 0,p,n,q,G,e,y,H,hd,v,he,k=>k p n q e (a6a _) (a6a _) hd v he
 | f+1,p,n,q,G,e,y,H,hd,v,he,k=>by
   have hs:=e.size;show cmp (at0 p n) (at0 p (n-1)) (λb s'=>(if b=true then(if q > 0 then kas_desc f (kas_rev p (n-(q+1)) n) (n+1) 0 else kas_desc f p (n+1) 0)else KasT.ask (at0 p (n-1)) (at0 p n) λd=>if d=true then KasT.ret (p,n,q)else kas_desc f p (n+1) (q+1)).kasWp cmp G s') s;refine hc _ _ _ (e.lt (by lia)) (e.lt (by lia)) ?_;have one:∀ (a:Array Nat) i j,n+1-(0+1)<=i->i < n+1->n+1-(0+1)<=j->j < n+1->c (at0 a i) (at0 a j)=false:=λa i j h l w o=>by
    have:i=n:=by lia
    have:j=n:=by lia
    subst i;subst j;exact O.ir _
   cases hl:c (at0 p n) (at0 p (n-1))with
   | true=>
     rw[a3p rfl];by_cases r:q > 0
     ·rw[a3p r];have z:=Dn.turn O (by lia) v hd he;have A:at0 (kas_rev p (n-(q+1)) n) n=at0 p n:=by rw[fU (by lia),a3q (by lia)]
      have B:c (at0 (kas_rev p (n-(q+1)) n) n) (at0 (kas_rev p (n-(q+1)) n) (n-1))=true:=by
       rw[A,fU (by lia),a3p (by lia)]
       -- alike to I last one
       cases J:c (at0 p n) (at0 p (n-(q+1)+n-1-(n-1)))with
       | true=>rfl
       | false=>
         have:=O.nt (he (n-(q+1)+n-1-(n-1)) (n-1) (by lia) (by lia) (by lia) (by lia)) J;rw[hl]at this;exact this.symm
      refine vL f _ (n+1) 0 (e.rev _ _) (by lia) (by lia) (Dn.less O y z B) (by lia) (one _) λa m g h l w o t u=>k a m g h (by lia) (by lia) o t u
     ·rw[a3q r];exact vL f p (n+1) 0 e (by lia) (by lia) (Dn.less O y hd hl) (by lia) (one _) λa m g h l w o t u=>k a m g h (by lia) (by lia) o t u
   | false=>
     rw[a3q a1b];show cmp (at0 p (n-1)) (at0 p n) (λb s'=>(if b=true then KasT.ret (p,n,q)else kas_desc f p (n+1) (q+1)).kasWp cmp G s') s;refine hc _ _ _ (e.lt (by lia)) (e.lt (by lia)) ?_;cases E:c (at0 p (n-1)) (at0 p n)with
     | true=>rw[a3p rfl];exact k p n q e (a6a _) (by lia) hd v he
     | false=>
       rw[a3q a1b];have F:∀ i,n-(q+1)<=i->i < n->c (at0 p i) (at0 p n)=false/\c (at0 p n) (at0 p i)=false:=λi h l=>
        ⟨O.nt E (he i (n-1) h l (by lia) (by lia)),O.nt (he (n-1) i (by lia) (by lia) h l) hl⟩
       refine vL f p (n+1) (q+1) e (by lia) (by lia) (λi j C x=>?_) (by lia) (λi j h l w o=>?_) λa m g h l w o t u=>k a m g h (by lia) (by lia) o t u
       ·by_cases D:j < n;exact hd i j C D;have:j=n:=by lia
        subst this;by_cases hi:i=j;subst hi;exact O.ir _;exact O.nt E (hd i (j-1) (by lia) (by lia))
       ·by_cases hi:i=n;by_cases x:j=n;subst hi;subst x;exact O.ir _;subst hi;exact(F j (by lia) (by lia)).2;by_cases x:j=n;subst x;exact(F i (by lia) (by lia)).1;exact he i j (by lia) (by lia) (by lia) (by lia)
theorem bA3{p:Array Nat}{n:Nat}(a:Pm N p)(d:1<=n)(hn:n<=N)(hd:Dn c p n){G:Nat×Array Nat->Shared->Prop}(k:∀ m b,Pm N b->1<=m->m<=N->Up c b m->G (m,b) s):(kas_tail3 n N p).kasWp cmp G s:=by
 have hs:=a.size;unfold kas_tail3;rw[KasT.kasWp_bind];refine bA2 O hc (a.rev 0 n) (N-n) n d (by lia) (λi j e g=>?_) λm h l f _=>k m _ (a.rev 0 n) (by lia) (by lia) f;rw[fU (by lia),fU (by lia),a3p (by lia),a3p (by lia)];exact hd _ _ (by lia) (by lia)
theorem rQ{p:Array Nat}{n:Nat}(e:Pm N p)(h:1<=n)(hn:n+1<=N)(hd:Dn c p (n+1)){G:Nat×Array Nat->Shared->Prop}(k:∀ m a,Pm N a->1<=m->m<=N->Up c a m->G (m,a) s):(kas_descPart n N p).kasWp cmp G s:=by
 unfold kas_descPart;rw[KasT.kasWp_bind];refine vL O hc (N-(n+1)) p (n+1) 0 e (by lia) (by lia) hd (by lia) (λi j l o q r=>?_) λa m t b u v d f g=>?_
 ·have:i=n:=by lia
  have:j=n:=by lia
  subst i;subst j;exact O.ir _
 ·have hs:=b.size;dsimp only;split;exact bA3 O hc (b.rev _ _) (by lia) (by lia) (Dn.turn O (by lia) f d g) k;exact bA3 O hc b (by lia) (by lia) d k
theorem bL8{p:Array Nat}(a:Pm N p)(y:1<=N){G:Nat×Array Nat->Shared->Prop}(k:∀ m l,Pm N l->1<=m->m<=N->Up c l m->G (m,l) s):(kas_count N p).kasWp cmp G s:=by
 have hs:=a.size;unfold kas_count;rw[KasT.kasWp_bind];refine bA2 O hc a (N-1) 1 (a6a _) (by lia) (λi j d o=>?_) λn A B h t=>?_
 ·have:i=j:=by lia
  subst this;exact O.ir _
 ·by_cases e:n=N;subst e;rw[a3p (by simp)];exact k n p a (by lia) (a6a _) h;rw[a3q (by simpa using e)];have f:c (at0 p n) (at0 p (n-1))=true:=by rcases t with z | z;lia;exact z
  by_cases g:n > 1
  ·rw[a3p g];show cmp (at0 p 0) (at0 p (n-1)) (λb s'=>(if b=true then KasT.ret (n,p)else kas_descPart n N (kas_rev p 0 n)).kasWp cmp G s') s;refine hc _ _ _ (a.lt (by lia)) (a.lt (by lia)) ?_;cases u:c (at0 p 0) (at0 p (n-1))with
   | true=>rw[a3p rfl];exact k n p a (by lia) (by lia) h
   | false=>
     rw[a3q a1b]
     -- all of q are alike
     have r:∀ i j,i < n->j < n->c (at0 p i) (at0 p j)=false:=λi j hi o=>by
      have v:c (at0 p 0) (at0 p j)=false:=O.nt (h j (n-1) (by lia) (by lia)) u;have w:c (at0 p i) (at0 p 0)=false:=h 0 i (by lia) hi;exact O.nt v w
     refine rQ O hc (a.rev 0 n) (by lia) (by lia) (Dn.less O (by lia) (λi j d o=>?_) ?_) k;rw[fU (by lia),fU (by lia),a3p (by lia),a3p (by lia)];exact r _ _ (by lia) (by lia)
     ·rw[fU (by lia),fU (by lia),a3q (by lia),a3p (by lia)];cases x:c (at0 p n) (at0 p (0+n-1-(n-1)))with
      | true=>rfl
      | false=>
        have:=O.nt (r (0+n-1-(n-1)) (n-1) (by lia) (by lia)) x;rw[f]at this;exact this.symm
  ·rw[a3q g];have:n=1:=by lia
   subst this;refine rQ O hc a (a6a _) (by lia) (Dn.less O (a6a _) (λi j d o=>?_) f) k;have:i=j:=by lia
   subst this;exact O.ir _
theorem vM{p:Array Nat}{k:Nat}(e:Pm N p)(j:k < N)(g:Up c p k):∀ (f l r:Nat) {G:Nat->Shared->Prop},l<=r->r<=k->r-l<=f->(∀ i,i < l->c (at0 p k) (at0 p i)=false)->(∀ i,r<=i->i < k->c (at0 p k) (at0 p i)=true) ->
  (∀ m,m<=k->(∀ i,i < m->c (at0 p k) (at0 p i)=false)->(∀ i,m<=i->i < k->c (at0 p k) (at0 p i)=true)->G m s)->(kas_place p k f l r).kasWp cmp G s
 | 0,l,r,G,u,h,v,a,b,q=>by
   have:l=r:=by lia
   subst this;exact q l h a b
 | f+1,l,r,G,u,h,v,a,b,q=>by
   unfold kas_place;split
   ·have:l=r:=by lia
    subst this;exact q l h a b
   ·show cmp (at0 p k) (at0 p ((l+r) / 2)) (λd s'=>(if d=true then kas_place p k f l ((l+r) / 2)else kas_place p k f ((l+r) / 2+1) r).kasWp cmp G s') s;refine hc _ _ _ (e.lt j) (e.lt (by lia)) ?_;cases t:c (at0 p k) (at0 p ((l+r) / 2))with
    | true=>
      rw[a3p rfl];refine vM e j g f l _ (by lia) (by lia) (by lia) a (λi n o=>?_) q;cases w:c (at0 p k) (at0 p i)with
      | true=>rfl
      | false=>
        have:=g ((l+r) / 2) i n o;have:=O.nt this w;rw[t]at this;exact this.symm
    | false=>
      rw[a3q a1b];refine vM e j g f _ r (by lia) h (by lia) (λi hi=>?_) b q;exact O.nt (g i ((l+r) / 2) (by lia) (by lia)) t
theorem bW3:∀ (f:Nat) (p:Array Nat) (k:Nat) {G:Array Nat->Shared->Prop},Pm N p->k+f=N->Up c p k->(∀ g,Pm N g->Up c g N->G g s)->(kas_bin f p k).kasWp cmp G s
 | 0,p,k,G,b,B,a,q=>by
   have:k=N:=by lia
   subst this;exact q p b a
 | f+1,p,k,G,b,B,a,q=>by
   have hs:=b.size;unfold kas_bin;rw[KasT.kasWp_bind];refine vM O hc b (by lia) a k 0 k (a2d _) (a6a _) (by lia) (λi h=>absurd h (a6e _)) (λi o r=>by lia) λm hm o r=>?_;have t:∀ i,at0 (bubble p k (k-m)) i=if i=m then at0 p k else if m < i/\i<=k then at0 p (i-1)else at0 p i:=λi=>by
    have e:=getElem?_bubble (xs:=p) (src:=k) (by lia) (k-m) (by lia) i;have C:k-(k-m)=m:=by lia
    rw[C]at e;by_cases u:i=m;rw[a3p u]at e ⊢;exact yG e;rw[a3q u]at e ⊢;by_cases v:m < i/\i<=k;rw[a3p v]at e ⊢;exact yG e;rw[a3q v]at e ⊢;exact yG e
   refine bW3 f _ (k+1) (b.of (bubble_perm ..)) (by lia) (λi j l F=>?_) q;rw[t,t];by_cases w:j=m;rw[a3p w];by_cases d:i=m;rw[a3p d];exact O.ir _;rw[a3q d,a3q (by lia)];exact o i (by lia)
   ·rw[a3q w];by_cases d:i=m
    ·rw[a3p d,a3p (by lia)]
     -- D placed one is less y n behind it
     have x:=r (j-1) (by lia) (by lia);cases E:c (at0 p (j-1)) (at0 p k)with
     | false=>rfl
     | true=>have:=O.tr E x;rw[O.ir]at this;exact this.symm
    ·rw[a3q d];by_cases z:m < j/\j<=k;rw[a3p z];by_cases A:m < i/\i<=k;rw[a3p A];exact a _ _ (by lia) (by lia);rw[a3q A];exact a _ _ (by lia) (by lia);rw[a3q z,a3q (by lia)];exact a _ _ l (by lia)
theorem cI2(f:1<=N){G:Array Nat->Shared->Prop}(q:∀ p,Pm N p->Up c p N->G p s):(kas_sort N).kasWp cmp G s:=by
 unfold kas_sort;rw[KasT.kasWp_bind];refine bL8 O hc (p:=List.toArray (List.range N)) (.refl _) f λm a b g h d=>?_;dsimp only;split
 ·have e:max m 1=m:=by lia
  rw[e];exact bW3 O hc (N-m) a m b (by lia) d q
 ·have:m=N:=by lia
  subst this;exact q a b d
end
noncomputable def tlt:List Int->List Int->Bool
 | _,[]=>false
 | [],_::_=>true
 | a::x,b::y=>if a=b then tlt x y else decide (a < b)
theorem rR:∀ x,tlt x x=false
 | []=>rfl
 | a::x=>by show(if a=a then tlt x x else _)=false;rw[a3p rfl];exact rR x
theorem aG9:∀ {x y z},tlt x y=true->tlt y z=true->tlt x z=true
 | _,[],_,h,_=>by simp[tlt]at h
 | _,_::_,[],_,h=>by simp[tlt]at h
 | [],_::_,_::_,_,_=>rfl
 | a::x,b::y,d::z,i,j=>by
   have e:(if a=b then tlt x y else decide (a < b))=true:=i;have c:(if b=d then tlt y z else decide (b < d))=true:=j;show(if a=d then tlt x z else decide (a < d))=true;by_cases g:a=b;rw[a3p g]at e;by_cases f:b=d;rw[a3p f]at c;rw[a3p (g.trans f)];exact aG9 e c;rw[a3q f]at c;rw[a3q (by lia)];simp at c ⊢;lia;rw[a3q g]at e;by_cases f:b=d;rw[a3p f]at c;rw[a3q (by lia)];simp at e ⊢;lia;rw[a3q f]at c;simp at e c;rw[a3q (by lia)];simp;lia
theorem bW4:∀ {x y z},tlt y x=false->tlt z y=false->tlt z x=false
 | [],_,_,_,_=>by cases ‹List Int› <;> rfl
 | _::_,[],_,h,_=>by simp[tlt]at h
 | _::_,_::_,[],_,h=>by simp[tlt]at h
 | a::x,b::y,d::z,i,j=>by
   have e:(if b=a then tlt y x else decide (b < a))=false:=i;have c:(if d=b then tlt z y else decide (d < b))=false:=j;show(if d=a then tlt z x else decide (d < a))=false;by_cases g:b=a;rw[a3p g]at e;by_cases f:d=b;rw[a3p f]at c;rw[a3p (f.trans g)];exact bW4 e c;rw[a3q f]at c;rw[a3q (by lia)];simp at c ⊢;lia;rw[a3q g]at e;by_cases f:d=b;rw[a3p f]at c;rw[a3q (by lia)];simp at e ⊢;lia;rw[a3q f]at c;simp at e c;rw[a3q (by lia)];simp;lia
theorem aB1:∀ {x y},tlt x y=false->tlt y x=false->x=y
 | [],[],_,_=>rfl
 | [],_::_,h,_=>by simp[tlt]at h
 | _::_,[],_,h=>by simp[tlt]at h
 | a::x,b::y,f,g=>by
   have c:(if a=b then tlt x y else decide (a < b))=false:=f;have d:(if b=a then tlt y x else decide (b < a))=false:=g;by_cases e:a=b;rw[a3p e]at c;rw[a3p e.symm]at d;rw[e,aB1 c d];rw[a3q e]at c;rw[a3q λz=>e z.symm]at d;simp at c d;lia
def cI3(ks:List (List Int)):Ord λi j=>tlt (ks.getD i []) (ks.getD j []):=⟨λa=>rR _,aG9,bW4⟩
section
variable{prog:Program}{w:World}{A:Around}{E:Value->Shared->Prop}{s:Shared}
theorem bW5{b:Bool}{Q:Bool->Shared->Prop}:∀ {x y:List Int} {xs ys:List Value} (i:Nat) (fin:Bool),ItemsAre (intKind prog w) x xs->ItemsAre (intKind prog w) y ys->fin=decide (xs.length+i < ys.length+i)->Q (tlt x y) s->KatLex prog w A b (decide (xs.length < ys.length)) Q (xs.zip ys) i s
 | _,_,_,_,i,fin,.nil,.nil,_,q=>q
 | _,_,_,_,i,fin,.nil,.cons _ _,_,q=>by
   show Q (decide (0 < _)) s;rw[a3v (by simp)];exact q
 | _,_,_,_,i,fin,.cons _ _,.nil,_,q=>by
   show Q (decide (_ < 0)) s;rw[a3r (by simp)];exact q
 | _,_,_,_,i,fin,.cons (k:=a) (ks:=x) f g,.cons (k:=d) (ks:=y) h j,_,q=>by
   obtain⟨t,rfl⟩:=Value.isInt_shape f;obtain⟨u,rfl⟩:=Value.isInt_shape h;rw[List.zip_cons_cons];refine kat_cons (wpAny_eqBool_int ?_);have c:Q (if a=d then tlt x y else decide (a < d)) s:=q;by_cases e:a=d;rw[a3p e]at c;rw[show(a==d)=true from a3w.mpr e];refine kat_yes ?_;have:=bW5 (b:=b) (i+1) (decide (_+(i+1) < _+(i+1))) g j rfl c;simpa using this
   ·rw[a3q e]at c;rw[show(a==d)=false by simpa using e];refine kat_no ?_;cases (b&&i==0)with
    | true=>exact oneLt_int c
    | false=>exact kat_one _ _ (lt_int c)
def cI4{ks:List (List Int)}{vs:List Value}{b:Bool}{N:Addr->Prop}{i j:Nat}{C:Bool->Shared->Prop}(T:hZ prog w s.heap N ks vs.toArray)(hi:i < vs.length)(a:j < vs.length)(q:C (tlt (ks.getD i []) (ks.getD j [])) s):kas_ask prog w A (tuples' b) vs i j C s:=by
 obtain⟨c,a1,d,e,⟨z,f,n1,g,_,h,k⟩,_⟩:=T.2 i vs[i] (by rw[a9d];exact a0a hi);obtain⟨l,a2,m,n,⟨B,o,n2,p,_,r,t⟩,_⟩:=T.2 j vs[j] (by rw[a9d];exact a0a a);have u:vs.getD i Value.none=.ref a1:=by rw[a8c,a0a hi,e];rfl
 have v:vs.getD j Value.none=.ref a2:=by rw[a8c,a0a a,n];rfl
 have x:ks.getD i []=c:=by rw[a8c,d];rfl
 have y:ks.getD j []=l:=by rw[a8c,m];rfl
 unfold kas_ask;rw[u,v];rw[x,y]at q;refine kat_lt g h p r ?_;have:=bW5 (b:=b) (A:=A) 0 (decide (f.toList.length+0 < o.toList.length+0)) k t rfl q;simpa using this
def bL9{ks:List (List Int)}{vs:List Value}{N:Addr->Prop}{Q:SortKind->Shared->Prop}(T:hZ prog w s.heap N ks vs.toArray)(z:0 < vs.length)(B:∀ k∈ks,k≠[])(q:Q (tuples' true) s):wpAny (model prog w) A (keyKind' vs.toArray) Q E s:=by
 have h:∀ (vs:List Value) (ks:List (List Int)),(∀ (i:Nat) v,vs[i]? = some v->∃ k a,ks[i]? = some k/\v=.ref a/\pE prog w s.heap k a)->(∀ k∈ks,k≠[])->∃ fs:List Value,KatTups s.heap vs fs/\fs.length=vs.length/\∀ v∈fs,∃ i t,v=.int i t:=by
  intro vs
  induction vs with
  | nil=>intro ks _ _;exact⟨[],KatTups.nil,rfl,by simp⟩
  | cons v r C=>
    intro ks c d;obtain⟨k,a,j,rfl,o,items,n,g,D,hd,hi⟩:=c 0 v rfl;cases ks with
    | nil=>simp at j
    | cons K ks=>
      simp at j;subst j;obtain⟨fs,l,y,m⟩:=C ks (λi u F=>c (i+1) u (by simpa using F)) λx b=>d x (a8a _ b);have p:=d _ a4a;cases hit:items.toList with
      | nil=>
        rw[hit]at hi;cases hi;exact absurd rfl p
      | cons f bK=>
        have G:items[0]? = some f:=by rw[← a6c,hit];rfl
        obtain⟨i,t,H⟩:=jP hi f (by rw[hit];exact a4a);refine⟨f::fs,KatTups.cons g D hd G l,by simp[y],λx b=>?_⟩;rcases a7b.mp b with rfl | b;exact⟨i,t,H⟩;exact m x b
 obtain⟨fs,l,y,m⟩:=h vs ks (λi v e=>by
  obtain⟨k,a,c,d,I,_⟩:=T.2 i v (by rw[a9d];exact e);exact⟨k,a,c,d,I⟩) B
 refine kat_kind (T:=.type "int") l (by lia) (λv J=>?_) (by decide) q;obtain⟨i,t,rfl⟩:=m v J;exact .now
def bA4{ks:List (List Int)}{vs:List Value}{N:Addr->Prop}{D n:Nat}{P:PySem.Fin->Shared->Prop}(x:s.heap.get? D=some (seqObj "list" vs.toArray n))(hD:¬ N D)(T:hZ prog w s.heap N ks vs.toArray)(y:vs.length < 64)(L:2<=vs.length->∀ k∈ks,k≠[])
  (q:∀ h' p c,Pm vs.length p->Up (λi j=>tlt (ks.getD i []) (ks.getD j [])) p vs.length->h'.get? D=some (seqObj "list" (List.toArray (p.toList.map λi=>vs.getD i Value.none)) c)->(∀ b ob,b≠D->s.heap.get? b=some ob->h'.get? b=some ob)->P (.done (.ret .none)) {s with heap:=h'}) :
  wpAny (model prog w) A (Builtin.«list.sort» ⟨[.ref D],[]⟩) P E s:=by
 have M:D < s.heap.objs.size:=a0b x;have I:vs.length<=sizeLine:=by rw[a3O];lia
 rw[list_sort_plain];refine a3n (listItems_at x rfl (a3n (listUpdate_at x rfl ?_ (by simpa using I) (a2d _))));obtain⟨B,o⟩:∃ B,(s.heap.update D (Obj.mapSeq λ_=>(#[]:Array Value))).get? D=some (seqObj "list" #[] B):=⟨_,get?_update_seq x λ_=>#[]⟩;refine a3n (seqEpoch_at o rfl (a3n (wpAny_newTuple ?_ (by simpa using I))));refine a3n (wpAny_newList ?_ (a2d _));refine a3s ?_;have kept:∀ b ob,b≠D->s.heap.get? b=some ob->(((s.heap.update D (Obj.mapSeq λ_=>(#[]:Array Value))).push (seqObj "tuple" vs.toArray 0)).push (seqObj "list" #[] 0)).get? b=some ob:=λb ob h e=>a2a _ (a2a _ ((a4c _ _ (a3d h)).trans e));have d:(((s.heap.update D (Obj.mapSeq λ_=>(#[]:Array Value))).push (seqObj "tuple" vs.toArray 0)).push (seqObj "list" #[] 0)).get? D=some (seqObj "list" #[] B):=a2a _ (a2a _ o);show wpAny (model prog w) A _ P E {s with heap:=((s.heap.update D (Obj.mapSeq λ_=>(#[]:Array Value))).push (seqObj "tuple" vs.toArray 0)).push (seqObj "list" #[] 0)};generalize ((s.heap.update D (Obj.mapSeq λ_=>(#[]:Array Value))).push (seqObj "tuple" vs.toArray 0)).push (seqObj "list" #[] 0)=g at kept d ⊢;have J:hZ prog w g N ks vs.toArray:=T.stay λb ob h e=>kept b ob (λz=>hD (z ▸ h)) e;dsimp only;have fin:∀ (a:Array Value) (p:Array Nat),a=List.toArray (p.toList.map λi=>vs.getD i Value.none)->Pm vs.length p->Up (λi j=>tlt (ks.getD i []) (ks.getD j [])) p vs.length->a.size<=sizeLine+1 ->
   P (.done (.ret .none)) {s with heap:=g.update D (Obj.mapSeq λ_=>a)}:=λa p e l r _=>by
  obtain⟨F,H⟩:∃ F,(g.update D (Obj.mapSeq λ_=>a)).get? D=some (seqObj "list" a F):=⟨_,get?_update_seq d λ_=>a⟩;subst e;exact q _ p F l r H λb ob h e=>(a4c _ _ (a3d h)).trans (kept b ob h e)
 by_cases m:vs.toArray.size < 2
 ·rw[a3p m,a3p m];refine a3n (a3o ?_);rw[StateT.run_pure];refine a3n (a3o ?_);dsimp only;refine a3n (seqEpoch_at d rfl ?_);have es:(arrOf (SortSt.mk' general' (vs.toArray.zip vs.toArray) #[] 7 none)).map (·.2)=vs.toArray:=by
   show(vs.toArray.zip vs.toArray).map (·.2)=vs.toArray;apply Array.toList_inj.mp;rw[Array.toList_map,Array.toList_zip,List.map_snd_zip (a6a _)]
  refine a3n (listUpdate_at d rfl ?_ (a2d _) (by rw[es];simp;lia));simp only[bne_self_eq_false,Bool.false_eq_true,if_false];rw[es];refine a3o (fin vs.toArray (List.toArray (List.range vs.length)) ?_ (.refl _) (λi j O K=>?_) (by simp;lia));apply Array.toList_inj.mp;show vs=(List.range vs.length).map λi=>vs.getD i Value.none;refine a3i λi=>?_;rw[a4b];by_cases hi:i < vs.length;rw[List.getElem?_range hi,a0a hi];simp[hi];rw[a8g (by lia),a8g (by simp;lia)];rfl;have:i=j:=by simp at m;lia
  subst this;exact rR _
 ·rw[a3q m,a3q m];have t:2<=vs.length:=by simp at m;lia
  refine a3n (bL9 (s:={s with heap:=g}) J (by lia) (L t) ?_);refine a3n (a3B (kat_run (s:={s with heap:=g}) (κ:=tuples' true) (Q:=λf s'=>s'={s with heap:=g}/\failedOf f=none/\∃ p:Array Nat,Pm vs.length p/\Up (λi j=>tlt (ks.getD i []) (ks.getD j [])) p vs.length/\(arrOf f).map (·.2)=List.toArray (p.toList.map λi=>vs.getD i Value.none))
   (G:=λp s'=>s'={s with heap:=g}/\Pm vs.length p/\Up (λi j=>tlt (ks.getD i []) (ks.getD j [])) p vs.length) rfl t y (λp f s' Y R S ⟨U,V,W⟩=>⟨U,S,p,V,W,kat_snds rfl R⟩) ?_) ?_ λ_ _ e=>e)
  ·exact cI2 (cI3 ks) (λi j C hi K X=>cI4 (s:={s with heap:=g}) J hi K X) (by lia) λp l r=>⟨rfl,l,r⟩
  ·rintro⟨⟨⟩,f⟩ s' ⟨rfl,hf,p,l,r,u⟩;dsimp only;refine a3n (seqEpoch_at d rfl ?_);have v:(List.toArray (p.toList.map λi=>vs.getD i Value.none)).size=vs.length:=by rw[a9a,a1a,a1e,l.size]
   rw[u];refine a3n (listUpdate_at d rfl ?_ (a2d _) (by show(List.toArray _).size<=_;rw[v];lia));rw[hf];simp only[bne_self_eq_false,Bool.false_eq_true,if_false];exact a3o (fin _ p rfl l r (by rw[v];lia))
end
noncomputable def bA5(k:List Int):List (List Int)->List (List Int)
 | []=>[k]
 | x::r=>if tlt k x=true then k::x::r else if k=x then x::r else x::bA5 k r
noncomputable def srt:List (List Int)->List (List Int)
 | []=>[]
 | k::r=>bA5 k (srt r)
abbrev cI5(l:List (List Int)):Prop:=l.Pairwise λa b=>tlt a b=true
theorem vN(k:List Int):∀ (l:List (List Int)) (x:List Int),x∈bA5 k l↔x=k\/x∈l
 | [],x=>by simp[bA5]
 | y::r,x=>by
   unfold bA5;split;simp
   ·split;rename_i h;subst h;simp
    ·rw[a7b,vN k r x,a7b];constructor;rintro(h | h | h);exact .inr (.inl h);exact .inl h;exact .inr (.inr h);rintro(h | h | h);exact .inr (.inl h);exact .inl h;exact .inr (.inr h)
theorem aH0(k:List Int):∀ (l:List (List Int)),cI5 l->cI5 (bA5 k l)
 | [],_=>List.pairwise_singleton _ _
 | y::r,h=>by
   obtain⟨b,d⟩:=a2i.mp h;unfold bA5;split;rename_i c;refine a2i.mpr ⟨λx a=>?_,h⟩;rcases a7b.mp a with rfl | a;exact c;exact aG9 c (b x a)
   ·split;exact h
    ·rename_i hn e;refine a2i.mpr ⟨λx a=>?_,aH0 k r d⟩;rcases(vN k r x).mp a with rfl | a
     ·cases f:tlt y x with
      | true=>rfl
      | false=>exact absurd (aB1 (by simpa using hn) f) e
     ·exact b x a
theorem nU:∀ (l:List (List Int)) (x:List Int),x∈srt l↔x∈l
 | [],x=>by simp[srt]
 | k::r,x=>by
   show x∈bA5 k (srt r)↔_;rw[vN,nU r x,a7b]
theorem vO:∀ (l:List (List Int)),cI5 (srt l)
 | []=>.nil
 | k::r=>aH0 k _ (vO r)
def bA6{l:List (List Int)}(h:cI5 l):l.Nodup:=List.nodup_iff_pairwise_ne.mpr (h.imp λ{a b} h e=>by subst e;rw[rR]at h;cases h)
theorem bW6:∀ {a b:List (List Int)},cI5 a->cI5 b->(∀ x,x∈a↔x∈b)->a=b
 | [],[],_,_,_=>rfl
 | [],y::b,_,_,h=>by have:=(h y).mpr a4a;simp at this
 | x::a,[],_,_,h=>by have:=(h x).mp a4a;simp at this
 | x::a,y::b,ha,j,h=>by
   obtain⟨g,k⟩:=a2i.mp ha;obtain⟨i,l⟩:=a2i.mp j;have d:x=y:=by
    rcases a7b.mp ((h x).mp a4a)with e | e;exact e;rcases a7b.mp ((h y).mpr a4a)with f | f;exact f.symm;have:=aG9 (i x e) (g y f);rw[rR]at this;cases this
   subst d;have nx:x∉a:=λz=>by have:=g x z;rw[rR]at this;cases this
   have m:x∉b:=λz=>by have:=i x z;rw[rR]at this;cases this
   rw[bW6 k l λz=>?_];constructor;intro c;rcases a7b.mp ((h z).mp (a8a _ c))with e | e;subst e;exact absurd c nx;exact e;intro c;rcases a7b.mp ((h z).mpr (a8a _ c))with e | e;subst e;exact absurd c m;exact e
def dB9{ks l:List (List Int)}{p:Array Nat}(hn:ks.Nodup)(hm:∀ x,x∈ks↔x∈l)(f:Pm ks.length p)(k:Up (λi j=>tlt (ks.getD i []) (ks.getD j [])) p ks.length):p.toList.map (λi=>ks.getD i [])=srt l:=by
 have hs:=f.size;have m:(List.range ks.length).map (λi=>ks.getD i [])=ks:=by
  refine a3i λi=>?_;rw[a4b];by_cases hi:i < ks.length;rw[List.getElem?_range hi,a0a hi];simp[hi];rw[a8g (l:=ks) (by lia),a8g (l:=List.range ks.length) (by rw[List.length_range];lia)];rfl
 have pm:(p.toList.map λi=>ks.getD i []).Perm ks:=by
  have:=f.map λi=>ks.getD i [];rw[m]at this;exact this
 refine bW6 ?_ (vO l) λx=>by rw[pm.mem_iff,hm x,nU]
 have nd:(p.toList.map λi=>ks.getD i []).Nodup:=pm.nodup_iff.mpr hn;rw[cI5,List.pairwise_iff_getElem];intro i j hi g a;have b:i < p.size:=by simpa using hi
 have c:j < p.size:=by simpa using g
 have n:at0 p i=p.toList[i]:=by simp[at0,Array.getD,b]
 have o:at0 p j=p.toList[j]:=by simp[at0,Array.getD,c]
 have h:=k i j (a7g a) (by lia);rw[n,o]at h;have d:tlt (ks.getD p.toList[j] []) (ks.getD p.toList[i] [])=false:=h;rw[List.getElem_map,List.getElem_map];cases q:tlt (ks.getD p.toList[i] []) (ks.getD p.toList[j] [])with
 | true=>rfl
 | false=>
   exfalso;have e:=aB1 q d;have:=(List.nodup_iff_pairwise_ne.mp nd);rw[List.pairwise_iff_getElem]at this;exact this i j hi g a (by rw[List.getElem_map,List.getElem_map];exact e)
end Sx
namespace PySem
open Sx PySem.W PyProof.Rows
section
variable{prog:Program}{w:World}{A:Around}{E:Value->Shared->Prop}{s:Shared}{S:Addr}{N:Addr->Prop}{ks:List (List Int)}{o:Obj}{es:Array (Int×Value)}{ep:Nat}{t:SetTable}
def aB2(hh:A.handled=none)(X:mV prog w s.heap S (eS w) N ks o es ep t)(hN:∀ a,N a->a < s.heap.objs.size)(V:es.size < 64)(hk:2<=es.size->∀ k∈ks,k≠[]){l:List (List Int)}(hm:∀ x,x∈ks↔x∈l){Q:Value->Shared->Prop}
  (q:∀ h' tk D vs c,s.heap.objs.size<=D->h'.get? D=some (seqObj "list" (List.toArray vs) c)->hZ prog w h' N (srt l) (List.toArray vs)->(∀ b ob,s.heap.get? b=some ob->h'.get? b=some ob)->Q (.ref D) {s with heap:=h',toks:=tk}) :
  wpAny (model prog w) A (call (.builtin "sorted") [.ref S]) Q E s:=by
 have hz:es.size<=sizeLine:=by rw[a3O];lia
 -- I keys in I order of I walk
 have pm:=rP (w:=w) (S:=S) (ep:=ep) es;have J:(bV w S ep es).toList.length=es.size:=by have:=pm.length_eq;simpa using this
 have G:∀ e∈(bV w S ep es).toList,∃ k a,k∈ks/\e=(tupleKeyHash (intKind prog w) k,Value.ref a)/\pE prog w s.heap k a/\N a:=λe T=>by
  have:=pm.mem_iff.mp T;obtain⟨i,hi,ei⟩:=Array.getElem_of_mem (by simpa using this:e∈es);obtain⟨k,a,d,r,C,K⟩:=X.it i e (by rw[a3c hi,ei]);exact⟨k,a,a9b d,r,C,K⟩
 -- one key for each
 have W:∃ us:List (List Int),us.Perm ks/\us.length=es.size/\∀ (i:Nat) e,(bV w S ep es).toList[i]? = some e->∃ k a,us[i]? = some k/\e.2=Value.ref a/\pE prog w s.heap k a/\N a:=by
  -- a key for each entry,by its own value
  have f:∀ e:Int×Value,∃ k:List Int,∀ F a,e.2=Value.ref a->pE prog w s.heap F a->F=k:=λe=>by
   by_cases h:∃ F a,e.2=Value.ref a/\pE prog w s.heap F a;obtain⟨F,a,d,r⟩:=h;refine⟨F,λk'' a' B Y=>?_⟩;rw[d]at B;cases B;exact Y.inj r;exact⟨[],λF a d r=>absurd ⟨F,a,d,r⟩ h⟩
  let g:Int×Value->List Int:=λe=>Classical.choose (f e)
  have gs:∀ e k a,e.2=Value.ref a->pE prog w s.heap k a->k=g e:=λe k a=>Classical.choose_spec (f e) k a;have ge:es.toList.map g=ks:=by
   refine a3i λi=>?_;rw[a4b,a6c];by_cases hi:i < es.size;rw[a3c hi];obtain⟨k,a,d,r,C,_⟩:=X.it i es[i] (a3c hi);rw[d];show some (g es[i])=some k;rw[← gs es[i] k a (by rw[r]) C];rw[a8i (by lia),a8g (by rw[X.len];lia)];rfl
  refine⟨(bV w S ep es).toList.map g,?_,by rw[a1a];exact J,λi e T=>?_⟩;have:=pm.map g;rw[ge]at this;exact this;obtain⟨k,a,d,r,C,K⟩:=G e (a9b T);refine⟨k,a,?_,by rw[r],C,K⟩;rw[a4b,T];show some (g e)=some k;rw[← gs e k a (by rw[r]) C]
 obtain⟨us,up,ul,ui⟩:=W;refine Calls.call_function_entry kind_sorted plain_sorted entry_sorted (args_sorted1 _) ?_;unfold Builtin.«sorted»;refine a3n (m:=checkCount "sorted" 1 1 _) (a3o ?_);refine a3n (yF (A:=A.in1) hh X hz λd L u n=>?_);generalize M:(bV w S ep es).toList.map (·.2)=vs;have U:vs.length=es.size:=by rw[← M,a1a];exact J
 have T1:hZ prog w d N us vs.toArray:=by
  refine⟨by rw[ul,a9a];exact U.symm,λi v e=>?_⟩;rw[a9d,← M,a4b]at e;obtain⟨e',ee,rfl⟩:=a5c.mp e;obtain⟨k,a,B,r,C,K⟩:=ui i e' ee;exact⟨k,a,B,r,C.at λob H=>u a ob H,K⟩
 refine a3n (wpAny_newList ?_ (by rw[U];exact hz));have O:(d.push (seqObj "list" vs.toArray 0)).get? d.objs.size=some (seqObj "list" vs.toArray 0):=a2b _ rfl;have up1:∀ b ob,d.get? b=some ob->(d.push (seqObj "list" vs.toArray 0)).get? b=some ob:=λb ob e=>a2a _ e;have P:¬ N d.objs.size:=λz=>absurd (hN _ z) (a3k.mpr (a7g n));have T2:hZ prog w (d.push (seqObj "list" vs.toArray 0)) N us vs.toArray:=T1.stay λb ob _ e=>up1 b ob e;have Z:2<=vs.length->∀ k∈us,k≠[]:=λh k hk'=>hk (by lia) k (up.mem_iff.mp hk');refine a3n (a3s (a3A slot_list_sort ⟨_,O,rfl⟩ entry_list_sort (bA4 (s:={s with heap:=d.push (seqObj "list" vs.toArray 0),toks:=L}) O P T2 (by rw[U];exact V) Z λr p c hp hu ho2 y=>⟨_,rfl,?_⟩) (args_list_sort _)));refine a3o ⟨_,rfl,?_⟩;have nN:∀ b,N b->b≠d.objs.size:=λb hb z=>P (z ▸ hb);have hul:us.length=vs.length:=by rw[ul,U]
 rw[← hul]at hp hu;have R:=dB9 (l:=l) (up.nodup_iff.mpr X.nd) (λx=>(up.mem_iff).trans (hm x)) hp hu;refine q r L d.objs.size _ c (a7g n) ho2 ⟨?_,λi v e=>?_⟩ λb ob e=>y b ob (λz=>?_) (up1 b ob (u b ob e));rw[← R];simp
 ·rw[a9d,a4b]at e;obtain⟨j,ej,rfl⟩:=a5c.mp e;have hj:j < vs.length:=by
   have:=(hp.mem_iff.mp (a9b ej));rw[a2e]at this;lia
  obtain⟨k,a,e1,e2,e3,e4⟩:=T1.2 j vs[j] (by rw[a9d];exact a0a hj);refine⟨k,a,?_,?_,e3.at (λob H=>y a ob (nN a e4) (up1 a ob H)),e4⟩;rw[← R,a4b,ej];show some (us.getD j [])=some k;rw[a8c,e1];rfl;rw[a8c,a0a hj];exact e2
 ·exact absurd (a0b (z ▸ e)) (a3k.mpr (a7g n))
end
end PySem
namespace Dv
open PySem L2 Mr
section
variable{Γ:Gm}{H H0:Hp}{σ σ0:Sg}{σV σV0:St}{i:Nat}{v:V}
end
section
variable{K:W.Frag}{H:Hp}{C fI:Addr}{f:Str}{E:XK}{Q:Addr->Hp->Prop}
end
noncomputable def aM6:List Res->Option (List D)
 | []=>some []
 | .val d::r=>(aM6 r).bind λa=>some (d::a)
 | _::_=>none
theorem aH1:∀ {rs:List Res} {ds:List D},aM6 rs=some ds->rs=ds.map Res.val
 | [],_,h=>by cases h;rfl
 | .val d::r,_,h=>by
   obtain⟨l,a,b⟩:=bind_some h;cases b;rw[aH1 a];rfl
 | .own _::_,_,h=>by cases h
 | .slot _::_,_,h=>by cases h
noncomputable def asV(ds:List D):List Sl:=ds.map λd=>⟨.val,d⟩
theorem tR{Γ:Gm}{H:Hp}{σ:Sg}{σV:St}:∀ {ds:List D} {vs:List V},ResOks Γ H σ σV (ds.map Res.val) vs->Rps H ds vs
 | [],_,h=>by cases h;exact .nil
 | d::r,_,h=>by
   cases h with
   | cons a t _=>exact .cons a (tR t)
def aM7{H:Hp}{ds:List D}{vs:List V}(h:Rps H ds vs):ArgOk H (asV ds) vs:=by
 refine⟨by unfold asV;rw[a1a,h.length],λi s e=>?_,λi j s t p n a f m=>?_,λi s e=>?_⟩;unfold asV at e;rw[a4b]at e;obtain⟨d,b,rfl⟩:=a5c.mp e;obtain⟨v,c,r⟩:=h.get b;exact⟨v,c,r⟩;unfold asV at a;rw[a4b]at a;obtain⟨d,b,rfl⟩:=a5c.mp a;cases m;unfold asV at e;rw[a4b]at e;obtain⟨d,b,rfl⟩:=a5c.mp e;exact λz=>nomatch z
def yH{H H':Hp}{ds:List D}{vs:List V}{as':List Sl}(h:PostOk (asV ds) vs H as' H'):kJ H H':=λa o e=>h.fr a o e λ⟨i,s,b,m,_⟩=>by
 unfold asV at b;rw[a4b]at b;obtain⟨d,c,rfl⟩:=a5c.mp b;cases m
def eG{σ:Sg}{σV:St}{i j:Nat}{w:Option V}{s:Sl}(hi:σ[i]? = some none)(a:σ[j]? = some (some s)):(σV.set i w)[j]? = σV[j]?:=
 a7a λz=>by subst z;rw[hi]at a;cases a
def StOk.shade'{Γ:Gm}{H:Hp}{σ:Sg}{σV:St}{i:Nat}{w:Option V}(ok:StOk Γ H σ σV)(hi:σ[i]? = some none):StOk Γ H σ (σV.set i w):=by
 refine⟨λj s e=>?_,λj l s t p n a b m m' c d=>?_,λj s p a m e=>?_,λj s p a m e=>?_,ok.keep,ok.dom,by rw[a5f];exact ok.len⟩;rw[eG hi e];exact ok.rel j s e;rw[eG hi a]at c;rw[eG hi b]at d;exact ok.dis j l s t p n a b m m' c d;rw[eG hi a]at e;exact ok.own j s p a m e;rw[eG hi a]at e;exact ok.par j s p a m e
def Step.shade'{H h:Hp}{σ c:Sg}{σV b:St}{i:Nat}{w:Option V}(st:Step c b h σ σV H)(hi:σ[i]? = some none):Step c b h σ (σV.set i w) H:=by
 refine⟨st.fr,st.dom,λa ⟨j,s,d,g,f⟩=>?_,λa ⟨j,s,d,g,f⟩=>?_,st.kp,λj s e m=>?_,st.lt⟩;rw[eG hi d]at f;exact st.mu a ⟨j,s,d,g,f⟩;rw[eG hi d]at f;exact st.nv a ⟨j,s,d,g,f⟩;obtain⟨s',k,l,n,o⟩:=st.fix j s e m;exact⟨s',k,l,n,by rw[eG hi k];exact o⟩
def dC0:D->Prop
 | .int _=>True
 | .str _=>True
 | _=>False
open Classical in
noncomputable def bA7(b iE iO a n:Nat)(run:cM6)(g:DA)(c f:Str):DS:=λσ=>(g σ).bind λx=>(aM6 x.1).bind λe=>(if e.length=n then run (asV e)else none).bind λy=>match y.1 with
 | .ok (.val d)=>if eE x.2 b=true then some (.nx (x.2.set b (some ⟨.val,d⟩)))else none
 | .ex h (some (f',d))=>if h=c/\f'=f/\dC0 d/\x.2[iE]? = some none/\iE≠iO/\iE≠a/\iO≠a/\eE x.2 iO=true/\eE (x.2.set iO (some ⟨.val,.bl true⟩)) a=true then some (.nx ((x.2.set iO (some ⟨.val,.bl true⟩)).set a (some ⟨.val,.tup [.bl true,d]⟩)))else none
 | _=>none
def cI6{X:Cx}{K:W.Frag}{st:Stmt}{iF a r iR n:Nat}{run:cM6}{ra:DA}{c f:Str}{l R w A B:Addr}
  (hns:W.nsIn K mainGlobals c=some (some (.ref l))) (hty:W.typeIn K (.ref l)=some (.type "type")) (hca:fS K l (.ref l)=some true)
  (hk1:W.kitOne K (.ref l) (.ref R)=some true) (hk2:W.kitOne K (.ref l) (.type "ValueError")=some true) (hk3:W.kitAny K (.ref l) [.ref w,.ref A,.ref B]=some false) (hf:W.findIn K (.ref l) f=some none)
  (h:∀ Γ,PS X st (dN2 (λE=>bD4 (bT5 (dK7 K n run) E (dTA Γ ra)) (rZ iF)) (hAs K (tC (.ref l)) a (cO0 (bD4 (bY2 (tCB (dF4 K) (kI (aC4 a) (kI (tC (.ref R)) bR2))) (tCB (dF4 K) (kI (aC4 a) (kI (tC (.ty "ValueError")) bR2)))) (rZ r))
   (bD4 (dH5 (kI (bY2 (aC4 r) (cN8 (tCB (dF4 K) (kI (aC4 a) (kI (dH5 (kI (tC (.ref w)) (kI (tC (.ref A)) (kI (tC (.ref B)) bR2)))) bR2))))) (kI (tAt K (aC4 a) f) bR2))) (rZ iR))) λ_ _ _ _ _ _ _=>False))) :
  GS Ex.no X st (bA7 iF a r iR n run ra c f):=.mk λΓ=>psW (h Γ) λED σV H ⟨σ,ok,o,e,k⟩=>by
 have e0:=e;clear e;obtain⟨⟨rs,F⟩,e1,f1⟩:=bind_some e0;clear e0;obtain⟨ds,e2,f2⟩:=bind_some f1;clear f1;obtain⟨⟨y,as'⟩,Y,e⟩:=bind_some f2;clear f2;dsimp only at e1 e2 Y e;split at Y
 case isFalse=>cases Y
 rename_i hn;refine⟨σ,ok,rs,F,e1,λvs H1 g r1 G _=>?_⟩;have hrs:=aH1 e2;subst hrs;refine⟨asV ds,y,as',aM7 (tR r1),by unfold asV;rw[a1a];exact hn,Y,?_⟩;cases y with
 | ok res=>
   cases res with
   | val d=>
     dsimp only at e;split at e;rename_i Z;cases e;intro v H' po nw;have I:=yH po;have J:=g.same I;exact k _ _ (J.put Z nw) ((G.trans (.same I)).put Z .val (.inl rfl))
     ·cases e
   | own d=>cases e
   | slot i=>cases e
 | ex c' fl=>
   cases fl with
   | none=>cases e
   | some fd=>
     obtain⟨f',d⟩:=fd;dsimp only at e;split at e
     ·rename_i hh;obtain⟨rfl,rfl,j,hE,L,nER,nOR,u,M⟩:=hh;cases e;intro x dd H' po xo;have I:=yH po;obtain⟨m,C,T,rfl,D,hc,t,dx,N,rfl,O,ry⟩:=xo;have:C=l:=by rw[hns]at t;cases t;rfl
      subst this;refine⟨m,C,T,rfl,D,D,true,.inl ⟨C,rfl,hty,hca⟩,?_⟩;rw[a3p rfl];have J:=g.same I;have lE:a < σV.length:=by
       have:=(a3a.mp hE).1;rw[g.len]at this;exact this
      have lO:r < σV.length:=by
       have:=jN u;rw[g.len]at this;exact this
      have hd:∀ {H2:Hp},kJ H' H2->(some dx=none\/∃ P fs,some dx=some P/\H2 P=some (.xd fs)):=λs=>.inr ⟨dx,_,rfl,s _ _ O⟩;have gE:(σV.set a (some (.ref m)))[a]? = some (some (V.ref m)):=a1c lE;refine⟨_,gE,m,C,some dx,.ref T,.ref R,true,rfl,D,hd (λ_ _ q=>q),hc,.inl ⟨R,rfl,hk1⟩,true,rfl,?_⟩;rw[a3p rfl];refine⟨_,gE,m,C,some dx,.ref T,.ty "ValueError",true,rfl,D,hd (λ_ _ q=>q),hc,.inr (.inl ⟨_,rfl,hk2⟩),?_⟩;have Q:((σV.set a (some (.ref m))).set r (some (V.bl true)))[a]? = some (some (V.ref m)):=by
       rw[a7a (a3d L)];exact gE
      have gO2:((σV.set a (some (.ref m))).set r (some (V.bl true)))[r]? = some (some (V.bl true)):=a1c (by rw[a5f];exact lO);refine⟨_,gO2,true,rfl,?_⟩;rw[a3p rfl];refine⟨_,Q,⟨by show 3<=sizeLine;decide,λp Z=>?_⟩⟩;have s2:kJ H' (upd H' p (.tup [.ref w,.ref A,.ref B])):=aX Z;refine⟨m,C,some dx,.ref T,.ref p,false,rfl,s2 _ _ D,hd s2,hc,.inr (.inr ⟨p,[w,A,B],rfl,aE,hk3⟩),false,rfl,?_⟩;have hy:(∃ i,N=.int i)\/∃ z,N=.str z:=by
       cases ry with
       | int i=>exact .inl ⟨i,rfl⟩
       | str z=>exact .inr ⟨z,rfl⟩
       | non=>exact j.elim
       | bl b=>exact j.elim
       | tup _ _=>exact j.elim
       | lst _ _=>exact j.elim
       | dic _ _ _=>exact j.elim
      refine⟨_,Q,m,C,dx,_,.ref T,N,rfl,s2 _ _ D,s2 _ _ O,hc,hf,by simp,hy,?_⟩;refine⟨by show 2<=sizeLine;decide,λq hq=>?_⟩;have S:kJ H1 (upd (upd H' p (.tup [.ref w,.ref A,.ref B])) q (.tup [.bl true,N])):=(I.trans s2).trans (aX hq);have rt:Rp (upd (upd H' p (.tup [.ref w,.ref A,.ref B])) q (.tup [.bl true,N])) (.tup [.bl true,d]) (.ref q):=.tup aE (.cons (.bl true) (.cons (ry.mono (.same (s2.trans (aX hq)))) .nil));have U:((F.set r (some ⟨.val,.bl true⟩)).set iR (some ⟨.val,.tup [.bl true,d]⟩))[a]? = some none:=by
       rw[a7a (a3d nER),a7a (a3d L)];exact hE
      refine k _ _ ?_ ?_;exact((((g.same S).shade' hE).put u (.bl true)).put M rt).shade' U;exact((((G.trans (.same S)).shade' hE).put u .val (.inl rfl)).put M .val (.inl rfl)).shade' U
     ·cases e
end Dv
namespace L2
open PySem PySem.Spec PyProof.Rows
end L2
namespace PySem
section
variable{κ:Type}[DecidableEq κ]
end
section
variable{prog:Program}{w:World}{A:Around}{κ:Type}[DecidableEq κ]{knd:KeyKind prog w κ}
end
end PySem
namespace L2
open PySem PySem.Spec PyProof.Rows
def bM0{X:Cx}{id U:String}{x y:Str}{p c pos a:Pos}{e:Expr}{es:List Expr}{t:TA}{r:List V->Hp->VK->Prop}
  (l:∀ pins s σ H vs us Q,Inv X pins σ H s->bG vs us->r vs H Q->wpAny (model X.prog X.w) X.A (call (.type U) us) (λu s1=>wpAny (model X.prog X.w) X.A (call (.builtin id) [u]) (EP X pins σ Q) X.xe s1) X.xe s)
  (m:Gl X x) (hm:X.mg x=none) (n:bootBuiltins x=some (.builtin id)) (d:Gl X y) (f:X.mg y=none) (g:bootBuiltins y=some (.type U)) (ha:PA X (e::es) t)
  (hn:x≠"__name__":=by decide) (i:(x==("__debug__":Str))=false:=by decide) (j:y≠"__name__":=by decide) (b:(y==("__debug__":Str))=false:=by decide)
  (o:starEach (e::es) X.env=(false,eval e X.env)::starEach es X.env:=by rfl) (k:(backTo a (starEach es X.env)).any (·.1)=false:=by rfl)
  (hs:starEach [.Call (.Name y c) (e::es) [] a] X.env=(false,eval (.Call (.Name y c) (e::es) [] a) X.env)::starEach [] X.env:=by rfl) :
  PE X (.Call (.Name x p) [.Call (.Name y c) (e::es) [] a] [] pos) (tCB r t):=by
 intro pins s σ H Q I h;refine a3z (jR I m hm n (PyProof.Rows.callWith_builtin1 ?_ hs (by rfl)) hn i);rw[hs]
 (show wpAny _ _ (spliced ((false,eval (.Call (.Name y c) (e::es) [] a) X.env)::backTo pos (starEach [] X.env))) _ _ s;refine Calls.spliced_cons (a3z (jR I d f g (a4e ?_ o k) j b)))
 exact thn (ha a pins s σ H _ I h) λus s1 ⟨vs,q,v,z,B⟩=>thn (l pins s1 σ q vs us Q v z B) λu s2 C=>Calls.spliced_nil C
def bM1{X:Cx}{pins:List (Addr×Obj)}{σ:St}{H:Hp}{s:Shared}{p:Addr}{b:Bool}{xs:List V}(I:Inv X pins σ H s)(a:X.calm=true)(h:dQ H p=some (b,xs)) :
  ∃ items:List Value,bG xs items/\Nonempty (Src X.prog X.w X.A s.heap p items.toArray.size λi v=>items.toArray[i]? = some v):=by
 cases b with
 | true=>
   obtain⟨its,r,⟨o,n,c,d,f,e⟩,_⟩:=I.list (dU h);exact⟨its,r,⟨Src.list (I.ok.hd a) ⟨o,c,d,n,e⟩⟩⟩
 | false=>
   obtain⟨its,r,q,_⟩:=I.tuple (cD h);exact⟨its,r,⟨Src.tup (I.ok.hd a) q⟩⟩
end L2
namespace Dv
open PySem L2 Mr
def bA8{H:Hp}{p:Addr}{o:HO}(h:H p=some o):upd H p o=H:=by
 funext b;by_cases a:b=p;subst a;rw[aE,h];rw[aD a]
end Dv
namespace L2
open PySem PySem.Spec PyProof.Rows Sx
theorem mM{prog:Program}{w:World}:∀ {k:List Int} {us:List Value},bG (k.map V.int) us->ItemsAre (intKind prog w) k us
 | [],_,.nil=>.nil
 | i::r,_,.cons h t=>by
   obtain⟨tk,rfl⟩:=h;exact .cons (by simp[intKind,Value.isInt]) (mM t)
def aB3{X:Cx}{pins:List (Addr×Obj)}{σ:St}{H:Hp}{s:Shared}{a:Addr}{k:List Int}(I:Inv X pins σ H s)(h:H a=some (.tup (k.map V.int))):pE X.prog X.w s.heap k a:=by
 obtain⟨its,r,⟨o,b,c,n,hd⟩,_⟩:=I.tuple (cD (bA h));exact⟨o,its.toArray,n,b,c,hd,by simpa using mM r⟩
def aH2:List V->Hp->VK->Prop:=λvs H Q=>∃ (p:Addr) (b:Bool) (ps:List Addr) (ks:List (List Int)),vs=[.ref p]/\dQ H p=some (b,ps.map V.ref)/\ps.length=ks.length/\(∀ (i:Nat) a k,ps[i]? = some a->ks[i]? = some k->H a=some (.tup (k.map V.int))) /\
 ks.length < 4000/\(srt ks).length < 64/\(2<=(srt ks).length->∀ k∈ks,k≠[]) /\
 ∀ r (c:List Addr),H r=none->c.length=(srt ks).length->(∀ (i:Nat) a k,c[i]? = some a->(srt ks)[i]? = some k->H a=some (.tup (k.map V.int)))->Q (.ref r) (upd H r (.lst (c.map V.ref)))
def yI{X:Cx}(hc:X.calm=true)(hu:X.A.units+8 < cLine):∀ pins s σ H vs us Q,Inv X pins σ H s->bG vs us->aH2 vs H Q ->
  wpAny (model X.prog X.w) X.A (call (.type "set") us) (λu s1=>wpAny (model X.prog X.w) X.A (call (.builtin "sorted") [u]) (EP X pins σ Q) X.xe s1) X.xe s:=by
 intro pins s σ H vs us Q I rv h;obtain⟨p,b,ps,ks,rfl,hH,hl,K,hn,h64,L,q⟩:=h;obtain⟨u,rfl,ru⟩:=rv.one;cases ru;obtain⟨its,r,⟨M⟩⟩:=bM1 I hc hH;have B:ps.length=its.length:=by simpa using r.length
 have alive:∀ a∈ps,a < s.heap.objs.size:=λa ha=>by
  obtain⟨i,hi,e⟩:=a5g ha;have n:i < ks.length:=by lia
  obtain⟨o,_,_,ho,_⟩:=aB3 I (K i a ks[i] (by rw[a0a hi,e]) (a0a n));exact a0b ho
 have T0:hZ X.prog X.w s.heap (· ∈ ps) ks its.toArray:=by
  refine⟨by rw[a9a];lia,λi v e=>?_⟩;rw[a9d]at e;have hi:i < ps.length:=by rw[B];exact(a3a.mp e).1
  have n:i < ks.length:=by lia
  obtain⟨v',e',O⟩:=r.get (i:=i) (x:=.ref ps[i]) (by rw[a4b,a0a hi];rfl);rw[e]at e';cases e';cases O;exact⟨ks[i],ps[i],a0a n,rfl,aB3 I (K i _ _ (a0a hi) (a0a n)),List.getElem_mem hi⟩
 have nS:¬ s.heap.objs.size∈ps:=λz=>absurd (alive _ z) (a0e _);have nI:¬ s.heap.objs.size+1∈ps:=λz=>absurd (alive _ z) (a3k.mpr (Nat.le_succ _));refine bL4 M (λA' ha hu'=>aZ4 (prog:=X.prog) (w:=X.w) (led:=eS X.w) (N:=(· ∈ ps)) (ks:=ks) (by lia) nS nI (a9c (a1k _)) hn) (λh' hS C=>?_) λh' tk ⟨T1,us,X1,_,hm⟩ d=>?_;refine⟨T0.stay λc ob _ e=>C c ob e,[],⟨_,#[],0,_,hS,⟨rfl,rfl,rfl⟩,rfl,?_,?_,rfl,rfl,rfl,λi e he=>by simp at he,.nil⟩,a6a _,λx=>by simp⟩;refine⟨⟨3,rfl⟩,a6a _,rfl,λi j a b _ e=>by simp[SetTable.fresh]at e,λi j e=>by simp[SetTable.fresh]at e,rfl,by simp[SetTable.fresh],λi h e=>by simp at e⟩;simp[SetTable.fresh];obtain⟨o,es,ep,t,Y⟩:=X1;have y:∀ x,x∈us↔x∈ks:=λx=>by
  rw[hm x,a4g (by rw[a9a];lia)]
 have pl:us.length=(srt ks).length:=((List.perm_ext_iff_of_nodup Y.nd (bA6 (vO ks))).mpr λx=>by rw[y x,nU]).length_eq;have hes:es.size=(srt ks).length:=by rw[← Y.len];exact pl
 have E:s.heap.objs.size < h'.objs.size:=a0b Y.ob;refine aB2 (s:={s with heap:=h',toks:=tk}) (I.ok.hd hc) Y (λa ha=>a4i (alive a ha) E) (by lia) (λh2 k P=>L (by lia) k ((y k).mp P)) y λh2 R D vs c hD S T m=>?_
 -- the addresses of what is told
 have hq:∃ qs:List Addr,vs=qs.map Value.ref/\qs.length=(srt ks).length/\∀ (i:Nat) a k,qs[i]? = some a->(srt ks)[i]? = some k->H a=some (.tup (k.map V.int)):=by
  have f:∀ v∈vs,∃ a,v=Value.ref a:=λv J=>by
   obtain⟨i,hi,e⟩:=a5g J;obtain⟨_,a,_,U,_⟩:=T.2 i v (by rw[a9d,a0a hi,e]);exact⟨a,U⟩
  have g:∀ vs:List Value,(∀ v∈vs,∃ a,v=Value.ref a)->∃ qs:List Addr,vs=qs.map Value.ref:=by
   intro vs
   induction vs with
   | nil=>intro _;exact⟨[],rfl⟩
   | cons v r W=>
     intro J;obtain⟨a,rfl⟩:=J v a4a;obtain⟨qs,rfl⟩:=W λx hx=>J x (a8a _ hx);exact⟨a::qs,rfl⟩
  obtain⟨qs,rfl⟩:=g vs f;have l1:qs.length=(srt ks).length:=by have:=T.1;simpa using this.symm
  refine⟨qs,rfl,l1,λi a k ea ek=>?_⟩;obtain⟨k',a',e1,U,e3,e4⟩:=T.2 i (.ref a) (by rw[a9d,a4b,ea];rfl);rw[ek]at e1;cases e1;cases U;obtain⟨j,hj,ej⟩:=a5g e4;have Z:j < ks.length:=by lia
  have F:=K j a ks[j] (by rw[a0a hj,ej]) (a0a Z);have t1:pE X.prog X.w h2 ks[j] a:=(aB3 I F).at λob hob=>m a ob (d a ob hob);rw[e3.inj t1];exact F
 obtain⟨qs,rfl,ql,qh⟩:=hq;have G:s.heap.objs.size<=D:=a8b (a7g E) hD;refine⟨.ref D,upd H D (.lst (qs.map V.ref)),?_,rfl,q D qs (I.hok.fresh G) ql qh⟩;refine I.laid (t':=R) (λb ob e=>m b ob (d b ob e)) G ⟨by rw[a1a,ql,a3O];lia,qs.map Value.ref,c,?_,S⟩;have vr:∀ l:List Addr,bG (l.map V.ref) (l.map Value.ref):=by
  intro l
  induction l with
  | nil=>exact .nil
  | cons a r W=>exact .cons rfl W
 exact vr qs
section
variable{X:Cx}{o e:Expr}{es:List Expr}{to:TE}{t:TA}{name:Str}{apos cpos:Pos}{id:String}{r:V->List V->Hp->VK->Prop}
end
theorem yJ:∀ (x y:List Int),HT.lexLt x y=tlt x y
 | [],[]=>rfl
 | [],_::_=>rfl
 | _::_,[]=>rfl
 | a::x,b::y=>by
   rw[HT.lexLt_cons,yJ x y];rfl
def dN9:R2:=λx y H Q=>(∃ i j,x=.int i/\y=.int j/\Q (.bl (decide (i < j))) H)\/∃ a b ns c,x=.ref a/\y=.ref b/\H a=some (.tup (ns.map V.int))/\H b=some (.tup (c.map V.int))/\Q (.bl (tlt ns c)) H
def bW7{X:Cx}(d:X.A.units < cLine):OpR X (compareOp .Lt) dN9:=by
 intro pins s σ H x y v u Q I rx c h;rcases h with⟨i,j,rfl,rfl,q⟩ | ⟨a,b,ns,ms,rfl,rfl,ha,e,q⟩;exact aP0 pins s σ H _ _ v u Q I rx c ⟨i,j,rfl,rfl,q⟩;exact cQ2 d pins s σ H _ _ v u Q I rx c ⟨a,b,ns,ms,rfl,rfl,SqT.of ha,SqT.of e,by rw[yJ];exact q⟩
end L2
namespace Dv
open PySem L2 Mr Sx
noncomputable def sO:List D->Option (List Int)
 | []=>some []
 | .int i::r=>(sO r).bind λl=>some (i::l)
 | _::_=>none
theorem pQ:∀ {l:List D} {zs:List Int},sO l=some zs->l=zs.map D.int
 | [],_,h=>by cases h;rfl
 | .int s::r,_,h=>by
   obtain⟨l,a,b⟩:=bind_some h;cases b;rw[pQ a];rfl
 | .non::_,_,h=>by cases h
 | .str _::_,_,h=>by cases h
 | .bl _::_,_,h=>by cases h
 | .tup _::_,_,h=>by cases h
 | .lst _::_,_,h=>by cases h
 | .dic _ _::_,_,h=>by cases h
def rS(zs:List Int):sO (zs.map D.int)=some zs:=by
 induction zs with
 | nil=>rfl
 | cons b r a=>show(sO (r.map D.int)).bind _=_;rw[a];rfl
noncomputable abbrev tI(k:List Int):D:=.tup (k.map D.int)
noncomputable def aM8:List D->Option (List (List Int))
 | []=>some []
 | .tup k::r=>(sO k).bind λa=>(aM8 r).bind λl=>some (a::l)
 | _::_=>none
theorem aH3:∀ {l:List D} {zs:List (List Int)},aM8 l=some zs->l=zs.map tI
 | [],_,h=>by cases h;rfl
 | .tup k::r,_,h=>by
   obtain⟨d,a,h⟩:=bind_some h;obtain⟨l,b,c⟩:=bind_some h;cases c;rw[aH3 b,pQ a];rfl
 | .non::_,_,h=>by cases h
 | .str _::_,_,h=>by cases h
 | .bl _::_,_,h=>by cases h
 | .int _::_,_,h=>by cases h
 | .lst _::_,_,h=>by cases h
 | .dic _ _::_,_,h=>by cases h
def bA9(zs:List (List Int)):aM8 (zs.map tI)=some zs:=by
 induction zs with
 | nil=>rfl
 | cons b r a=>show(sO (b.map D.int)).bind (λc=>(aM8 (r.map tI)).bind _)=_;rw[a,rS];rfl
def dL1{H:Hp}{k:List Int}{v:V}(h:Rp H (tI k) v):∃ a,v=.ref a/\H a=some (.tup (k.map V.int)):=by
 cases h with
 | tup h r=>rw[r.ints_inv]at h;exact⟨_,rfl,h⟩
theorem bW8{H:Hp}:∀ {ks:List (List Int)} {xs:List V},Rps H (ks.map tI) xs->∃ ps:List Addr,xs=ps.map V.ref/\ps.length=ks.length/\∀ (i:Nat) a k,ps[i]? = some a->ks[i]? = some k->H a=some (.tup (k.map V.int))
 | [],_,h=>by cases h;exact⟨[],rfl,rfl,λi a k e=>by simp at e⟩
 | k::ks,_,h=>by
   rw[a7e]at h;cases h with
   | cons a t=>
     obtain⟨p,rfl,d⟩:=dL1 a;obtain⟨ps,rfl,f,g⟩:=bW8 t;refine⟨p::ps,rfl,by simp[f],λi a j b c=>?_⟩;cases i with
     | zero=>simp at b c;subst b c;exact d
     | succ i=>exact g i a j (by simpa using b) (by simpa using c)
theorem bB0{H:Hp}:∀ {ks:List (List Int)} {ps:List Addr},ps.length=ks.length->(∀ (i:Nat) a k,ps[i]? = some a->ks[i]? = some k->H a=some (.tup (k.map V.int)))->Rps H (ks.map tI) (ps.map V.ref)
 | [],[],_,_=>.nil
 | [],_::_,h,_=>by simp at h
 | _::_,[],h,_=>by simp at h
 | k::ks,p::ps,h,b=>.cons (.tup (b 0 p k rfl rfl) (lP k)) (bB0 (by simpa using h) λi a c d e=>b (i+1) a c (by simpa using d) (by simpa using e))
open Classical in
noncomputable def mO:FN:=λa=>match a with
 | [d]=>(cM2 d).bind λx=>(aM8 x.2).bind λks=>if ks.length < 4000/\(srt ks).length < 64/\(2<=(srt ks).length->∀ k∈ks,k≠[])then some (.own (.lst ((srt ks).map tI)))else none
 | _=>none
def aB4:bT9 aH2 mO:=by
 intro H y vs Q res vw e k;unfold mO at e;split at e
 ·obtain⟨⟨b,l⟩,j,e⟩:=bind_some e;obtain⟨ks,d,e⟩:=bind_some e;dsimp only at d;split at e
  ·rename_i c;cases e;cases vw with
   | cons a t=>
     cases t;obtain⟨p,xs,rfl,m,f⟩:=cU9 a j;rw[aH3 d]at f;obtain⟨ps,rfl,n,o⟩:=bW8 f;refine⟨p,b,ps,ks,rfl,m,n,o,c.1,c.2.1,c.2.2,λr q g s u=>?_⟩;have h:kJ H (upd H r (.lst (q.map V.ref))):=aX g;exact k _ _ h ⟨r,rfl,g,_,aE,bB0 s λi a v w x=>h _ _ (u i a v w x)⟩
  ·cases e
 ·cases e
theorem dC1{ks:List (List Int)}{K:Res->Prop}:OK1 (mO [.lst (ks.map tI)]) K=((ks.length < 4000/\(srt ks).length < 64/\(2<=(srt ks).length->∀ k∈ks,k≠[]))/\K (.own (.lst ((srt ks).map tI)))):=by
 show OK1 ((aM8 (ks.map tI)).bind _) K=_;rw[bA9];show OK1 (if _ then _ else none) K=_;rw[aZ];rfl
theorem bM2{n:Nat}{σ:Sg}{a:DGs}{z:Str}{K:Sg->Prop}:OK1 (oZ n a (.str z) σ) K=(z.length=n/\OK1 (a (jT z) σ) K):=by
 show OK1 (if z.length=n then a (jT z) σ else none) K=_;rw[aZ]
noncomputable def ltA:F2:=λd e=>match d,e with
 | .int i,.int j=>some (.val (.bl (decide (i < j))))
 | .tup x,.tup y=>(sO x).bind λns=>(sO y).bind λa=>some (.val (.bl (tlt ns a)))
 | _,_=>none
def bB1:oX dN9 ltA:=by
 intro H l m x y Q res a b e k;unfold ltA at e;split at e;cases e;rw[bQ a,bQ b];exact .inl ⟨_,_,rfl,rfl,k _ _ (.refl _) (.bl _)⟩;obtain⟨ns,h,e⟩:=bind_some e;obtain⟨i,j,e⟩:=bind_some e;cases e;obtain⟨p,xs,rfl,c,d⟩:=eD a;obtain⟨q,ys,rfl,f,g⟩:=eD b;rw[pQ h]at d;rw[pQ j]at g;rw[d.ints_inv]at c;rw[g.ints_inv]at f;exact .inr ⟨p,q,ns,i,rfl,rfl,c,f,k _ _ (.refl _) (.bl _)⟩;cases e
theorem bB2{i j:Int}{K:Res->Prop}:OK1 (ltA (.int i) (.int j)) K=K (.val (.bl (decide (i < j)))):=rfl
theorem bW9{x y:List Int}{K:Res->Prop}:OK1 (ltA (tI x) (tI y)) K=K (.val (.bl (tlt x y))):=by
 show OK1 ((sO (x.map D.int)).bind λns=>(sO (y.map D.int)).bind λa=>_) K=_;rw[rS,rS];rfl
end Dv
namespace L2
def dC2{A:PySem.Around}{k:Nat}(a:Room k A):A.units+8 < PySem.cLine:=by have:=a.un;lia
end L2
namespace PySem.SeqAt
open PySem MeetsSeq MeetsSeq2 MeetsSeq3 SeqRoads2
end PySem.SeqAt
namespace L2
open PySem PySem.Spec PyProof.Rows Sx
def bM3{zs:List V}{us:List Value}(h:bG zs us){i:Nat}{x:V}(e:zs[i]? = some x):∃ u,us[i]? = some u/\cY x u:=by
 induction h generalizing i with
 | nil=>simp at e
 | cons a t b=>
   cases i with
   | zero=>simp at e;subst e;exact⟨_,rfl,a⟩
   | succ i=>exact b (by simpa using e)
end L2
namespace Dv
open PySem L2 Mr Sx
end Dv
namespace PySem
open Sx L2
section
variable{prog:Program}{w:World}{A:Around}{E:Value->Shared->Prop}{s:Shared}{S I:Addr}{led:Bool}{o:Obj}{es:Array (Int×Value)}{ep:Nat}{t:SetTable}
end
end PySem
namespace PySem
open Sx
open PySem.W PyProof.Rows
section
variable{prog:Program}{w:World}{A:Around}{E:Value->Shared->Prop}{s:Shared}{S:Addr}{led:Bool}{ks:List Int}
end
end PySem
namespace Sx
open PySem PySem.W PyProof.Rows
end Sx
namespace PySem
open Sx PySem.W PyProof.Rows
section
variable{prog:Program}{w:World}{A:Around}{E:Value->Shared->Prop}{s:Shared}{S:Addr}{ks:List Int}
end
end PySem
namespace L2
open PySem PySem.Spec PyProof.Rows Sx
end L2
namespace Dv
open PySem L2 Mr Sx
end Dv
namespace L2
open PySem PySem.Spec PyProof.Rows Sx
def bB3:V->List V->Hp->VK->Prop:=λx vs H Q=>∃ (l:Addr) (a:List Str) (z:Str),x=.ref l/\vs=[.str z]/\H l=some (.lst (a.map V.str))/\z∈a/\Q (.int (a.idxOf z:Nat)) H
def bB4{X:Cx}:MtR X "list.index" bB3:=by
 intro pins s σ H x vs v us Q I rx w h;obtain⟨l,a,z,rfl,rfl,A,B,q⟩:=h;cases rx;obtain⟨u,rfl,C⟩:=w.one;obtain⟨t,rfl⟩:=C;obtain⟨f,its,n,r,J,e⟩:=I.lstM A;have K:a.idxOf z < a.length:=List.idxOf_lt_length_iff.mpr B;have d:its.length=a.length:=by
  have:=r.length;simpa using this.symm
 have L:its.length < 2 ^ 62:=a9g (by rw[d];simpa using f) (by decide:sizeLine < 2 ^ 62);have at_:∀ m (hm:m < its.toArray.size),∃ (b:m < a.length) (c:Tok),its.toArray[m]=.str a[m] c:=λm hm=>by
  have g:m < its.length:=by simpa using hm
  have b:m < a.length:=by lia
  obtain⟨u,o,D⟩:=bM3 (i:=m) r (by rw[a4b,a0a b];rfl);obtain⟨c,rfl⟩:=D;rw[a0a g]at o;exact⟨b,c,by simpa using a5a o⟩
 refine a3K F.slot_list_index ⟨_,e,rfl⟩ F.entry_list_index (F.args_list_index_2 _ _) (MeetsSeq.list_index l its.toArray n (.str z t) (isZ z) (λy E=>?_) (a.idxOf z) (by simp;lia) (by lia) ?_ (λm hm j=>?_)) ⟨e,?_⟩;obtain⟨G,c,rfl⟩:=zB r y (by simpa using E);exact eqGives_str G z c t;obtain⟨b,c,k⟩:=at_ (a.idxOf z) (by simp;lia);rw[k];show(a[a.idxOf z]==z)=true;simp;obtain⟨b,c,k⟩:=at_ m hm;rw[k];show(a[m]==z)=false;have h:=List.not_of_lt_findIdx (p:=(· == z)) (xs:=a) j;simpa using h;exact⟨.int _,H,I.tok _,⟨_,rfl⟩,q⟩
end L2
namespace Dv
open PySem L2 Mr Sx
noncomputable def dG1:FM:=λd b=>match d,b with
 | .lst l,[.str z]=>(xP l).bind λa=>if z∈a then some (.lst l,.int (a.idxOf z:Nat))else none
 | _,_=>none
def cI7:dJ5 bB3 dG1:=by
 intro H d p m vs Q d' e ow r b k;unfold dG1 at b;split at b
 ·obtain⟨g,i,b⟩:=bind_some b;split at b
  ·rename_i j;cases b;obtain⟨xs,f,h⟩:=ow;have c:=h;rw[vE i]at c;have l:=c.strs_inv;subst l;cases r with
   | cons a t=>
     cases t;cases a;have q:=k (.lst (g.map V.str)) (.int (g.idxOf _:Nat)) (by rw[bA8 f];exact⟨_,f,h⟩) (.int _);rw[bA8 f]at q;exact⟨p,g,_,rfl,rfl,f,j,q⟩
  ·cases b
 ·cases b
theorem cI8{zs:List Str}{z:Str}{K:D×D->Prop}:OK1 (dG1 (.lst (zs.map D.str)) [.str z]) K=(z∈zs/\K (.lst (zs.map D.str),.int (zs.idxOf z:Nat))):=by
 show OK1 ((xP (zs.map D.str)).bind _) K=_;rw[xQ];show OK1 (if _ then _ else none) K=_;rw[aZ];rfl
end Dv
namespace L2
open PySem PySem.Spec PyProof.Rows Sx
def iA:fillsNumberSlot (.type "tuple") "mul"=pure false:=
 PySem.fillsNumberSlot_seq (id:="tuple.__mul__") (r:=some (.builtin "tuple.__rmul__")) a9i.lookup (by decide +kernel) F.slot_tuple_rmul.lookup (by decide +kernel)
def oW:seqRepeat? (.type "tuple")=pure (some (.builtin "tuple.__mul__")):=by
 unfold seqRepeat?;rw[PySem.seqSlot_of (T:="tuple") (name:="__mul__") (id:="tuple.__mul__") a9i.lookup (by decide +kernel),PySem.seqSlot_of (T:="tuple") (name:="__rmul__") (id:="tuple.__rmul__") F.slot_tuple_rmul.lookup (by decide +kernel)];rfl
def aH4(a:Int)(t:Tok)(l:Addr)(items:Array Value)(n:Nat)(b:Option Addr)(sl:Array (Option Value)) :
  Meets (Builtin.«int.__rmul__» ⟨[.int a t,.ref l],[]⟩) (λ_ R s=>s.heap.get? l=some {cls:=.type "tuple",dict:=b,data:=.seq items n,slots:=sl}/\R (.ok (.ret Value.notImplemented)) s):=
 .of_wp λprog w A R s h=>by obtain⟨c,g,d,tk,os⟩:=s;obtain⟨e,h⟩:=h;wp_walk;exact⟨_,rfl,h⟩
def bM4(l:Addr)(items:Array Value)(n:Nat)(u:Tok)(a:Option Addr)(sl:Array (Option Value)) :
  Meets (Builtin.«tuple.__mul__» ⟨[.ref l,.int 1 u],[]⟩) (λ_ R s=>s.heap.get? l=some {cls:=.type "tuple",dict:=a,data:=.seq items n,slots:=sl}/\R (.ok (.ret (Value.ref l))) {s with heap:=s.heap,toks:=s.toks}):=
 .of_wp λprog w A R s h=>by obtain⟨c,g,d,tk,os⟩:=s;obtain⟨b,h⟩:=h;have e:=AutoSeq1.idx_int;have f:=AutoSeq1.sub_tuple_tuple;wp_walk using a3F b;exact⟨_,rfl,h⟩
def bM5(l:Addr)(y:Value)(n:Nat)(u:Tok)(a:Option Addr)(sl:Array (Option Value)) :
  Meets (Builtin.«tuple.__mul__» ⟨[.ref l,.int 2 u],[]⟩) (λ_ R s=>s.heap.get? l=some {cls:=.type "tuple",dict:=a,data:=.seq #[y] n,slots:=sl}/\R (.ok (.ret (Value.ref s.heap.objs.size))) {s with heap:=s.heap.push {cls:=Value.type "tuple",data:=Data.seq #[y,y]},toks:=s.toks}):=
 .of_wp λprog w A R s h=>by obtain⟨c,g,d,tk,os⟩:=s;obtain⟨b,h⟩:=h;have e:=AutoSeq1.idx_int;have f:=AutoSeq1.sub_tuple_tuple;wp_walk using a3F b;exact⟨_,rfl,h⟩
def bM6{prog:Program}{w:World}{A:Around}{E:Value->Shared->Prop}{s:Shared}{l:Addr}{vs:Array Value}{u:Tok}{Q:Value->Shared->Prop}(c:IsTup s.heap l vs)(h:Q (.ref l) s):wpAny (model prog w) A (binaryOp .Mult (.ref l) (.int 1 u)) Q E s:=by
 obtain⟨⟨cls,d,data,sl⟩,a,b,k,hd⟩:=id c;simp only at b hd;subst b hd;exact wpAny_binaryOp_repeat_ref (T:="tuple") (U:="int") (by decide) ⟨_,a,rfl⟩ (λs'=>typeIs_int s' 1 u) iA F.fills_int_mul a6j oW F.slot_int_index.lookup
  (a3K a6j (typeIs_int s 1 u) F.entry_int_rmul (F.args_int_rmul_2 _ _) (aH4 1 u l vs k d sl)
   ⟨a,rfl,⟨_,a,rfl⟩,a3K a9i ⟨_,a,rfl⟩ F.entry_tuple_mul (F.args_tuple_mul_2 _ _) (bM4 l vs k u d sl) ⟨a,h⟩⟩)
def bM7{prog:Program}{w:World}{A:Around}{E:Value->Shared->Prop}{s:Shared}{l:Addr}{y:Value}{u:Tok}{Q:Value->Shared->Prop}(c:IsTup s.heap l #[y])(h:Q (.ref s.heap.objs.size) {s with heap:=s.heap.push {cls:=Value.type "tuple",data:=Data.seq #[y,y]},toks:=s.toks}):wpAny (model prog w) A (binaryOp .Mult (.ref l) (.int 2 u)) Q E s:=by
 obtain⟨⟨cls,d,data,sl⟩,a,b,k,hd⟩:=id c;simp only at b hd;subst b hd;exact wpAny_binaryOp_repeat_ref (T:="tuple") (U:="int") (by decide) ⟨_,a,rfl⟩ (λs'=>typeIs_int s' 2 u) iA F.fills_int_mul a6j oW F.slot_int_index.lookup
  (a3K a6j (typeIs_int s 2 u) F.entry_int_rmul (F.args_int_rmul_2 _ _) (aH4 2 u l #[y] k d sl)
   ⟨a,rfl,⟨_,a,rfl⟩,a3K a9i ⟨_,a,rfl⟩ F.entry_tuple_mul (F.args_tuple_mul_2 _ _) (bM5 l y k u d sl) ⟨a,h⟩⟩)
def dC3:R2:=λx y H Q=>∃ (p:Addr) (e:V),x=.ref p/\dQ H p=some (false,[e])/\((y=.int 1/\Q (.ref p) H)\/(y=.int 2/\∀ r,H r=none->Q (.ref r) (upd H r (.tup [e,e]))))
def cI9{X:Cx}:OpR X (binaryOp .Mult) dC3:=by
 intro pins s σ H x y v u Q I rx c h;obtain⟨p,e,rfl,f,g⟩:=h;cases rx;obtain⟨its,a,d,_⟩:=I.tuple (cD f);rcases g with⟨rfl,q⟩ | ⟨rfl,q⟩;obtain⟨t,rfl⟩:=c;exact bM6 d ⟨.ref p,H,I,rfl,q⟩;obtain⟨t,rfl⟩:=c;obtain⟨w,rfl,rw⟩:=a.one;refine bM7 (y:=w) d ?_;refine⟨.ref s.heap.objs.size,_,I.laid (t':=s.toks) (o:=.tup ([e]++[e])) (λb ob q=>a2a _ q) (a6a _) ?_,rfl,q _ (I.hok.fresh (a6a _))⟩;exact⟨(by decide:2<=sizeLine),_,a.append a,IsTup.new _ _,⟨_,a2b _ rfl,rfl⟩⟩
end L2
namespace Dv
open PySem L2 Mr Sx
noncomputable def dC4:F2:=λd e=>match d,e with
 | .tup [x],.int i=>if i=1 then some (.val (.tup [x]))else if i=2 then some (.val (.tup [x,x]))else none
 | d,e=>xC d e
def dC5:R2:=λx y H Q=>dC3 x y H Q\/cD9 x y H Q
def cJ0{X:Cx}:OpR X (binaryOp .Mult) dC5:=cI9.or aV2
def bM8:oX dC5 dC4:=by
 intro H g h x y Q res b c e k;unfold dC4 at e;split at e
 ·obtain⟨p,xs,rfl,d,i⟩:=eD b;obtain rfl:=bQ c;cases i with
  | cons a t=>
    cases t;refine .inl ⟨p,_,rfl,bA d,?_⟩;split at e;rename_i hi;subst hi;cases e;exact .inl ⟨rfl,k _ H (.refl _) (.tup d (.cons a .nil))⟩;split at e;rename_i hi;subst hi;cases e;exact .inr ⟨rfl,λr f=>k _ _ (aX f) (vB f (.cons a (.cons a .nil)))⟩;cases e
 ·exact .inr (aV3 H g h x y Q res b c e k)
theorem cJ1{x:D}{K:Res->Prop}:OK1 (dC4 (.tup [x]) (.int 1)) K=K (.val (.tup [x])):=rfl
theorem cJ2{x:D}{K:Res->Prop}:OK1 (dC4 (.tup [x]) (.int 2)) K=K (.val (.tup [x,x])):=rfl
end Dv
namespace Dv
open PySem L2 Mr
def dC6(C:MC):Prop:=∀ as (K a:Res->List Sl->Prop),(∀ r l,K r l->a r l)->C as K->C as a
structure GM1(E:Ex)(X:Cx)(st:Stmt)(m:MS):Prop where
 to:∀ Γ,PS X st (mTS Γ E m)
 mon:bD7 m
section
variable{X:Cx}{E:Ex}{st:Stmt}{ss bK:List Stmt}{r:DS}{a b m:MS}{pos:Pos}
def aH5:bD7 (RS r):=λ_ _ _ w q=>bI q w
def bX0{Γ:Gm}{D:Ends}{σV:St}{H:Hp}(h:mTS Γ E (RS r) D σV H):dTS Γ E r D σV H:=by
 obtain⟨σ,ok,q⟩:=h;obtain⟨o,e,q⟩:=oH.mp q;exact⟨σ,ok,o,e,q⟩
def dC7(h:GSs E X ss r):GM E X ss (RS r):=⟨λΓ=>cU2 (h.to Γ) λ_ _ _=>bX0,aH5⟩
def cJ3(h:GS E X st r):GM1 E X st (RS r):=⟨λΓ=>psW (h.to Γ) λ_ _ _=>bX0,aH5⟩
def sqM(b:MS)(Q:Out->Prop)(o:Out):Prop:=match o with
 | .nx a=>b a Q
 | o=>Q o
def dC8(a b:MS):MS:=λσ Q=>a σ (sqM b Q)
def aB5(e:bD7 a)(g:bD7 b):bD7 (dC8 a b):=λσ Q h w q=>e σ _ _ (λo q=>by
 cases o with
 | nx d=>exact g d _ _ w q
 | rt r σ'=>exact w _ q
 | bk σ'=>exact w _ q
 | ct σ'=>exact w _ q
 | ex c f σ'=>exact w _ q) q
def bB5(e:GM1 E X st a)(g:GM E X bK b):GM E X (st::bK) (dC8 a b) where
 to:=λΓ=>cU2 (aM (e.to Γ) (g.to Γ)) λD σV H ⟨σ,ok,q⟩=>⟨σ,ok,e.mon σ _ _ (λo q=>by
  cases o with
  | nx d=>exact λj k h i=>⟨d,h,g.mon d _ _ (λo q=>q.after i) q⟩
  | rt r σ'=>exact q
  | bk σ'=>exact q
  | ct σ'=>exact q
  | ex c f σ'=>exact q) q⟩
 mon:=aB5 e.mon g.mon
def bM9(i n:Nat)(C:MC)(b:DA):MS:=λσ Q=>OK1 (b σ) λx=>OK1 (qJ x.2 x.1) λas=>(as.length=n/\cM x.1=true)/\C as λy as'=>OK1 (dF5 i y (gT x.1 as' 0 x.2)) λa=>Q (.nx a)
def bN0{Γ:Gm}{i:Nat}{x:Res}{σ σ1 b:Sg}{σV:St}{H H1:Hp}{v:V}(c:StOk Γ H1 σ1 σV)(k:iD Γ H1 σ1 σV x v)(f:Step σ σV H σ1 σV H1)(l:Frh H x v)(h:dF5 i x σ1=some b) :
  StOk Γ H1 b (σV.set i (some v))/\Step σ σV H b (σV.set i (some v)) H1:=by
 cases x with
 | val d=>
   have a:(if eE σ1 i=true then some (σ1.set i (some ⟨.val,d⟩))else none)=some b:=h;split at a;rename_i g;cases a;exact⟨c.put g k,f.put g .val (.inl rfl)⟩;cases a
 | own d=>
   have a:(if eE σ1 i=true then some (σ1.set i (some ⟨.own,d⟩))else none)=some b:=h;split at a;rename_i g;cases a;obtain⟨p,rfl,m,n,o⟩:=k;exact⟨c.putOwn g m n o,f.put g .own (.inr ⟨rfl,λp e=>l _ p rfl e⟩)⟩;cases a
 | slot j=>cases h
def aH6{i n:Nat}{C:MC}{a:DA}(b:dC6 C):bD7 (bM9 i n C a):=λσ Q d w q=>bI q λx q=>bI q λas q=>⟨q.1,b _ _ _ (λy as' q=>bI q λc q=>w _ q) q.2⟩
def cJ4{i n:Nat}{C:MC}{e:DA}{f:XK}(g:dC6 C)(h:∀ Γ,PS X st (bD4 (aJ1 (bJ4 n C) [] f (dTA Γ e)) (rZ i))):GM1 E X st (bM9 i n C e) where
 to:=λΓ=>psW (h Γ) λD σV H ⟨σ,ok,q⟩=>by
  obtain⟨⟨rs,a⟩,j,q⟩:=oH.mp q;obtain⟨as,k,⟨l,hn⟩,q⟩:=oH.mp q;refine⟨σ,ok,rs,a,j,λvs m b o d p=>?_⟩;show bJ4 n C (vs++[]) m _ f;rw[a4f];obtain⟨r,c⟩:=xB k hn b o d p;refine⟨as,r,l,g _ _ _ (λy as' q v s po t=>?_) q⟩;obtain⟨u,w,x,z⟩:=c y as' v s po t;obtain⟨A,B,q⟩:=oH.mp q;obtain⟨F,G⟩:=bN0 u w x z B;exact q _ _ F G
 mon:=aH6 g
end
def cJ5{len:Nat}{m:MS}(hm:bD7 m):dC6 (dF6 len m):=λas K b w q=>hm _ _ _ (λo q=>by
 cases o with
 | nx σ=>exact w _ _ q
 | rt r σ=>obtain⟨a,e,q⟩:=q;exact⟨a,e,w _ _ q⟩
 | bk σ=>exact q
 | ct σ=>exact q
 | ex c f σ=>exact q) q
def aM9{C:MC}{K:W.Frag}{H:Hp}{a:Addr}{ns:List Int}(b:dC6 C)(c:aW1 K=true)(d:cR1 H)(f:SqL K H a (ns.map V.int))(h:C [⟨.val,.lst (ns.map D.int)⟩] λy _=>y=.val (.bl true)) :
  bJ4 1 C [.ref a] H (λv _=>v=.bl true) (λ_ _ _=>False):=
 ⟨_,cF4 c d f,rfl,b _ _ _ (λy as' e v H' po g=>by subst e;cases g;rfl) h⟩
noncomputable abbrev qP(q:Str×List Str):D:=.tup [.str q.1,.tup (q.2.map D.str)]
noncomputable abbrev qD(qs:List (Str×List Str)):D:=.tup (qs.map qP)
def dC9{c:Type}{vs:List c}{x y:c}(h:2=vs.length)(h0:vs[0]? = some x)(d:vs[1]? = some y):vs=[x,y]:=by
 match vs,h with
 | [a,b],_=>cases h0;cases d;rfl
def cJ6{H:Hp}{p:Addr}{i j m:Int}(b:H p=some (.lst [.int i,.int j])):ArgOk H [⟨.par,.lst [.int i,.int j]⟩,⟨.val,.int m⟩] [.ref p,.int m]:=by
 refine⟨rfl,λn s e=>?_,λn l s t q hn a c d g h f=>?_,λn s e=>?_⟩
 ·match n,e with
  | 0,e=>cases e;exact⟨_,rfl,p,rfl,_,b,lP [i,j]⟩
  | 1,e=>cases e;exact⟨_,rfl,.int m⟩
 ·match n,a,l,c with
  | 0,_,0,_=>exact hn rfl
  | 0,_,1,_=>cases f
  | 1,a,_,_=>cases a;cases d
 ·match n,e with
  | 0,e=>cases e;exact λz=>nomatch z
  | 1,e=>cases e;exact λz=>nomatch z
def cJ7{p c:Addr}{i j m:Int}(h:aU4 [⟨.par,.lst [.int i,.int j]⟩,⟨.val,.int m⟩] [.ref p,.int m] c):c=p:=by
 obtain⟨n,s,e,mt,a⟩:=h
 match n,e with
 | 0,_=>cases a;rfl
 | 1,_=>cases a
def bN1{H H':Hp}{p:Addr}{i j a j' m:Int}(b:H' p=some (.lst [.int a,.int j']))(hs:SameBut p H H'):PostOk [⟨.par,.lst [.int i,.int j]⟩,⟨.val,.int m⟩] [.ref p,.int m] H [⟨.par,.lst [.int a,.int j']⟩,⟨.val,.int m⟩] H':=by
 refine⟨λn s e mt=>?_,λc o e n=>hs c o (λz=>n ⟨0,_,rfl,rfl,by rw[z];rfl⟩) e,λc e=>?_⟩
 ·match n,e with
  | 0,e=>cases e;exact⟨_,_,rfl,rfl,rfl,p,rfl,_,b,lP [a,j']⟩
  | 1,e=>cases e;cases mt
 ·cases d:H c with
  | none=>rfl
  | some o=>
    by_cases z:c=p;subst z;rw[b]at e;cases e;rw[hs c o z d]at e;cases e
def bN2{H H':Hp}{p:Addr}{i j a j' m:Int}(po:PostOk [⟨.par,.lst [.int i,.int j]⟩,⟨.val,.int m⟩] [.ref p,.int m] H [⟨.par,.lst [.int a,.int j']⟩,⟨.val,.int m⟩] H'):bB H' p/\SameBut p H H':=by
 refine⟨?_,λc o n e=>po.fr c o e λz=>n (cJ7 z)⟩;obtain⟨s',v,d,_,f,g⟩:=po.rel 0 _ rfl rfl;cases d;cases f;obtain⟨q,h,xs,b,k⟩:=(cC (s:=⟨.par,.lst [.int a,.int j']⟩) (λz=>nomatch z)).mp g;cases h;rw[Rps.ints_inv (ns:=[a,j']) k]at b;exact⟨a,j',b⟩
end Dv
namespace Mr
open PySem L2
def Ne2(zs:List Str):Prop:=∃ x y r,zs=x::y::r/\x≠y
theorem Ne2.take{zs:List Str}(h:Ne2 zs){n:Nat}(hn:2<=n):Ne2 (zs.take n):=by
 obtain⟨x,y,r,rfl,e⟩:=h;obtain⟨m,rfl⟩:∃ m,n=m+2:=⟨n-2,by lia⟩;exact⟨x,y,r.take m,rfl,e⟩
def Ne2.other{zs:List Str}(h:Ne2 zs)(o:Str):∃ (k:Nat) (c:Str),zs[k]? = some c/\c≠o:=by
 obtain⟨x,y,r,rfl,e⟩:=h;by_cases a:x=o;exact⟨1,y,rfl,λz=>e (a.trans z.symm)⟩;exact⟨0,x,rfl,a⟩
def mP:Sps:=λ_ vs H Q _=>∃ (p:Addr) (m:Int),vs=[.ref p,.int m]/\bB H p/\m=6/\0 < m /\
 ∀ (r:Addr) (a:List Str) H',H r=none->H' r=some (.lst (a.map V.str))->a.length=m.toNat->(∀ z∈a,Shz z)/\Ne2 a->bB H' p->SameBut p H H'->Q (.ref r) H'
def dZ(H:Hp)(es:List V):Prop:=∀ e∈es,∃ (c:Addr) (cs:List Str),e=.ref c/\H c=some (.tup (cs.map V.str))/\(1<=cs.length/\cs.length<=10)/\fQ cs
def dZ.mono{H H':Hp}{es:List V}(h:dZ H es)(t:cW H H'):dZ H' es:=λe a=>by
 obtain⟨c,b,d,f,g⟩:=h e a;exact⟨c,b,d,t _ _ f,g⟩
def rT:Sps:=λ_ vs H Q _=>∃ (p q:Addr) (zs:List Str),vs=[.ref p,.ref q]/\bB H p/\H q=some (.lst (zs.map V.str))/\zs.length=6/\(fQ zs/\Ne2 zs) /\
 ∀ (r:Addr) (es:List V) H',H r=none->H' r=some (.lst es)->1<=es.length->es.length<=6->dZ H' es->bB H' p->SameBut p H H'->Q (.ref r) H'
def dD0(H:Hp)(r:Addr)(zs:List Str):Prop:=∃ es:List V,H r=some (.tup es)/\es.length=zs.length/\∀ (j:Nat) z,zs[j]? = some z->∃ (a c:Addr) (cs:List Str),es[j]? = some (.ref a)/\H a=some (.tup [.str z,.ref c])/\H c=some (.tup (cs.map V.str))/\(1<=cs.length/\cs.length<=10)/\fQ cs
def iB:Sps:=λ_ vs H Q _=>∃ (p:Addr) (k:Int),vs=[.ref p,.int k]/\bB H p/\0<=k/\k<=3 /\
 ∀ (r:Addr) (a:List Str) H',H r=none->dD0 H' r a->1<=a.length->a.length<=6->fQ a->bB H' p->SameBut p H H'->Q (.ref r) H'
def bD(H0:Hp)(g:Addr)(H:Hp)(n:Nat)(es:List V):Prop:=∀ e∈es,∃ (w:Addr) (ws:List Str),e=.ref w/\H w=some (.lst (ws.map V.str))/\(1<=ws.length/\ws.length<=n)/\fQ ws/\H0 w=none/\w≠g
end Mr
namespace Dv
open PySem L2 Mr
def Qs1(qs:List (Str×List Str)):Prop:=1<=qs.length/\qs.length<=6/\∀ q∈qs,Shz q.1/\(1<=q.2.length/\q.2.length<=10)/\fQ q.2
def cQ1:MC:=λas K=>∃ (a b k:Int),as=[⟨.par,.lst [.int a,.int b]⟩,⟨.val,.int k⟩]/\0<=k/\k<=3/\∀ c d e,Qs1 c->K (.val (qD c)) [⟨.par,.lst [.int d,.int e]⟩,⟨.val,.int k⟩]
def bX1:dC6 cQ1:=λas K i w ⟨a,b,k,e,h0,c,q⟩=>⟨a,b,k,e,h0,c,λd f g h=>w _ _ (q d f g h)⟩
theorem bB6{H:Hp}:∀ (zs:List Str) (es:List V),es.length=zs.length->(∀ (j:Nat) z,zs[j]? = some z->∃ (a c:Addr) (cs:List Str),es[j]? = some (.ref a)/\H a=some (.tup [.str z,.ref c])/\H c=some (.tup (cs.map V.str))/\(1<=cs.length/\cs.length<=10)/\fQ cs) ->
  ∃ qs:List (Str×List Str),qs.map Prod.fst=zs/\Rps H (qs.map qP) es/\∀ q∈qs,(1<=q.2.length/\q.2.length<=10)/\fQ q.2
 | [],[],_,_=>⟨[],rfl,.nil,λ_ h=>nomatch h⟩
 | z::zs,e::es,hl,h=>by
   obtain⟨a,c,cs,d,g,i,k,l⟩:=h 0 z rfl;obtain rfl:e=.ref a:=a5a d;obtain⟨qs,m,n,o⟩:=bB6 zs es (by simpa using hl) λj z p=>by
    obtain⟨a,c,cs,f⟩:=h (j+1) z (by simpa using p);exact⟨a,c,cs,by simpa using f⟩
   refine⟨(z,cs)::qs,by rw[a7e,m],.cons (.tup g (.cons (.str z) (.cons (.tup i (aE2 cs)) .nil))) n,λq b=>?_⟩;rcases a7b.mp b with rfl | b;exact⟨k,l⟩;exact o q b
def sP{K:W.Frag}(vs:List V)(H:Hp)(Q:L2.VK)(E:XK)(h:bJ4 2 cQ1 vs H Q E):iB K vs H Q E:=by
 obtain⟨as,c,L,a,b,k,rfl,o,t,q⟩:=h;obtain⟨M,u,v⟩:=c.rel 0 _ rfl;obtain⟨v1,w,y⟩:=c.rel 1 _ rfl;obtain rfl:=dC9 c.len u w;obtain⟨p,rfl,xs,g,i⟩:=(cC (s:=⟨.par,.lst [.int a,.int b]⟩) (λz=>nomatch z)).mp v;rw[Rps.ints_inv (ns:=[a,b]) i]at g;have d:Rp H (.int k) v1:=y;cases d;refine⟨p,k,rfl,⟨a,b,g⟩,o,t,λr j H' i ⟨es,A,B,C⟩ l1 N hs D e=>?_⟩;obtain⟨l,m,F,G⟩:=bB6 j es B C;obtain⟨I,J,f⟩:=D;have O:l.length=j.length:=by rw[← m,a1a]
 refine q l I J ⟨by lia,by lia,λx n=>⟨hs _ (by rw[← m];exact List.mem_map_of_mem n),G x n⟩⟩ (.ref r) H' (bN1 f e) (.tup A F)
end Dv
namespace Mr
open PySem L2 Dv
noncomputable def gH:DS:=(bR (cX 2 (aO dY (aO xC (dC (.int 7919)) (aG 1)) (dC (.int 11))))
 (bR (kO (dR (aO ltA (aG 1) (dCB kW (aB (aG 0) aQ)))) (cX 2 (aO ixD (aG 0) (aG 1))) (kO (dR (aO gtI (dCB kW (aB (aG 0) aQ)) (dC (.int 0)))) (cX 2 (aO dY (aG 2) (aO xC (aO aK9 (aO ixD (aG 0) (aO aK9 (aG 1) (dCB kW (aB (aG 0) aQ)))) (dC (.int 2147483629))) (dC (.int 69623))))) dS))
 (bR (cX 3 (aO dY (aO aK9 (aO dY (aO xC (aO aK9 (aG 2) (dC (.int 2147483629))) (dC (.int 48271))) (aO xC (dC (.int 40692)) (aG 1))) (dC (.int 2147483629))) (dC (.int 1))))
 (gR (sE (aB (dFz (aO xC (aG 2) (dCB cE4 (aB (aO geI (aG 2) (aO cW8 (dC (.int 10)) (dC (.int 18)))) aQ)))) (aB (dFz (aG 3)) aQ)))))))
noncomputable def cU:Dv.Run:=xA 4 gH
noncomputable def fE:DS:=(bR (kO (dR (aO gtI (aO ixD (aG 0) (dC (.int 0))) (dC (.int 0)))) (bR (cX 2 (aO aK9 (aO ixD (aG 0) (dC (.int 0))) (aG 1)))
 (bR (cF1 0 (dC (.int 0)) (aO cM5 (aO ixD (aG 0) (dC (.int 0))) (aG 1)))
 (gR (aG 2)))) dS)
 (bR (cX 3 (aO aK9 (aO xC (aO ixD (aG 0) (dC (.int 1))) (dC (.int 69623))) (dC (.int 2147483647))))
 (bR (cF1 0 (dC (.int 1)) (aO dY (aO aK9 (aO dY (aO xC (aG 3) (dC (.int 48271))) (dC (.int 30103))) (dC (.int 2147483629))) (dC (.int 1))))
 (gR (aO aK9 (aO cM5 (aO dY (aO xC (aG 3) (dC (.int 2147483647))) (aO ixD (aG 0) (dC (.int 1)))) (dC (.int 8191))) (aG 1))))))
noncomputable def aF:Dv.Run:=xA 4 fE
noncomputable def eI:DS:=(bR (cX 2 (dC (.str "abcdefghijklmnopqrstuvwxyz")))
 (bR (cX 3 (zM (aL6 "") (fT [12] (aN6 (aB (aT 2 aF (aB (aG 0) (aB (dC (.int 5)) aQ))) aQ)) (dgN 12) lT (aO ixD (aG 2) (aT 2 aF (aB (aG 0) (aB (dC (.int 26)) aQ)))))))
 (bR (cX 4 (aT 2 aF (aB (aG 0) (aB (aO dY (dCB kW (aB (aG 3) aQ)) (dC (.int 1))) aQ))))
 (bR (cX 5 (aT 2 aF (aB (aG 0) (aB (dC (.int 26)) aQ))))
 (bR (cX 6 (aT 2 aF (aB (aG 0) (aB (dC (.int 4)) aQ))))
 (bR (kO (dR (aO (eqD false) (aG 6) (dC (.int 2)))) (bR (cW3 (oZ 3 (cP (dgN 7) (cP (dgN 8) (cP (dgN 9) oY)))) (dFz (dSl (dSl (aG 2) (dP (aT 2 aF (aB (aG 0) (aB (dC (.int 24)) aQ)))) oG) oG (dP (dC (.int 3))))))
 (bR (cX 10 (sE (aB (dFz (aG 7)) (aB (dFz (aO dY (aG 7) (aG 8))) (aB (dFz (aG 8)) (aB (dFz (aO dY (aG 8) (aG 9))) aQ))))))
 (gR (dSl (aO dY (aG 10) (sE (aB (dFz (aG 9)) (aB (dFz (aO dY (aG 7) (aG 9))) (aB (dFz (aO dY (aO dY (aG 7) (aG 8)) (aG 9))) (aB (dFz (aO dY (aG 9) (aG 8))) aQ)))))) oG (dP (aG 1)))))) dS)
 (bR (cX 11 (sE aQ))
 (bR (qI (aN6 (aB (aG 1) aQ)) (dgN 12)
 (bR (cX 13 (aO dY (aO dY (dSl (aG 3) oG (dP (aG 4))) (aO ixD (aG 2) (aO aK9 (aO dY (aG 5) (aO xC (dC (.int 5)) (aG 12))) (dC (.int 26))))) (dSl (aG 3) (dP (aG 4)) oG)))
 (uW (sF "list" 11 cM3 (aB (dFz (aO dY (aG 13) (aO xC (dC (.str "z")) (dCB cE4 (aB (sD (aO (eqD false) (aG 6) (dC (.int 1))) (aO (eqD false) (aO aK9 (aG 12) (dC (.int 2))) (dC (.int 1)))) aQ))))) aQ)))))
 (bR (cX 14 (sE (aB (dC (.str "table")) (aB (dC (.str "tree")) (aB (dC (.str "none")) (aB (dC (.str "answer")) (aB (dC (.str "levels")) (aB (dC (.str "looks")) aQ))))))))
 (bR (cX 14 (aO dY (aG 14) (sE (aB (dC (.str "at")) (aB (dC (.str "count")) (aB (dC (.str "ears")) (aB (dC (.str "cover")) (aB (dC (.str "place")) aQ))))))))
 (bR (cX 13 (aO ixD (aG 14) (aT 2 aF (aB (aG 0) (aB (dC (.int 11)) aQ)))))
 (bR (kO (cB8 (dR (aO (eqD false) (aT 2 aF (aB (aG 0) (aB (dC (.int 4)) aQ))) (dC (.int 0)))) (dR (aO (inD true) (aG 13) (aG 11)))) (cF1 11 (aT 2 aF (aB (aG 0) (aB (aG 1) aQ))) (dFz (aG 13))) dS)
 (gR (aG 11))))))))))))))
noncomputable def eU:Dv.Run:=xA 15 eI
noncomputable def cR:DS:=(bR (cX 1 (sE aQ))
 (bR (qI (dIt (aG 0)) (oZ 2 (cP (dgN 2) (cP (dgN 3) oY)))
 (uW (zP "list" 1 cM4 (aB (fT [4] (dIt (aG 3)) (dgN 4) (dR (aO (inD true) (aG 4) (aG 1))) (dFz (aG 4))) aQ))))
 (gR (aG 1))))
noncomputable def cG:Dv.Run:=xA 5 cR
noncomputable def eJ:DS:=(bR (cX 2 (aT 2 aF (aB (aG 0) (aB (aG 1) aQ))))
 (bR (kO (dR (aO (eqD false) (aG 1) (dC (.int 12)))) (gR (aO ixD (sE (aB (dC (.int 0)) (aB (dC (.int 1)) (aB (dC (.int 2)) (aB (dC (.int 10)) (aB (dC (.int 11)) (aB (dC (.int 12)) (aB (dC (.int 21)) (aB (dC (.int 101)) (aB (dC (.int 111)) (aB (dC (.int 112)) (aB (dC (.int 121)) (aB (dC (.int 211)) aQ))))))))))))) (aG 2))) dS)
 (gR (aG 2))))
noncomputable def bY:Dv.Run:=xA 3 eJ
noncomputable def eK:DS:=(bR (cX 3 (aT 1 cG (aB (aG 1) aQ)))
 (bR (cX 4 (aO ixD (sE (aB (dC (.int 2)) (aB (dC (.int 3)) (aB (dC (.int 5)) (aB (dC (.int 12)) (aB (dC (.int 1000)) aQ)))))) (aT 2 aF (aB (aG 0) (aB (dC (.int 5)) aQ)))))
 (bR (cX 5 (fT [14] (aN6 (aB (aT 2 aF (aB (aG 0) (aB (dC (.int 6)) aQ))) aQ)) (dgN 14) lT (dFz (fT [15] (dIt (aG 3)) (dgN 15) lT (dFz (aT 2 bY (aB (aG 0) (aB (aG 4) aQ))))))))
 (bR (cX 6 (aO ixD (sE (aB (dC (.int 40)) (aB (dC (.int 40)) (aB (dC (.int 14)) (aB (dC (.int 7)) (aB (dC (.int 4)) (aB (dC (.int 3)) aQ))))))) (aO cD1 (dCB kW (aB (aG 1) aQ)) (dC (.int 1)))))
 (bR (cX 7 (dFz (aG 2)))
 (bR (cX 8 (sD (aO gtI (aG 2) (dC (.int 0))) (aO (eqD false) (aT 2 aF (aB (aG 0) (aB (dC (.int 2)) aQ))) (dC (.int 0)))))
 (bR (cX 9 (sE aQ))
 (bR (qI (dIt (aG 1)) (oZ 2 (cP (dgN 10) (cP (dgN 11) oY)))
 (bR (cX 12 (dC (.int 40)))
 (bR (kO (dR (aO gtI (aG 2) (dC (.int 0)))) (cX 12 (dCB zV (aB (dC (.int 40)) (aB (aG 7) aQ)))) dS)
 (bR (kO (cU8 (aG 8)) (cX 12 (dFz (aG 6))) dS)
 (bR (cX 13 (fT [16] (dIt (aG 5)) (dgN 16) lT (dCB bD9 (aB (fT [15] (dIt (aG 11)) (dgN 15) lT (aO ixD (aG 16) (sF "list" 3 dG1 (aB (dFz (aG 15)) aQ)))) aQ))))
 (bR (kO (dR (aO (eqD false) (aT 2 aF (aB (aG 0) (aB (dC (.int 6)) aQ))) (dC (.int 0)))) (cX 13 (sE aQ)) dS)
 (bR (qI (aN6 (aB (aT 2 aF (aB (aG 0) (aB (aO ixD (sE (aB (dFz (aO dY (aG 12) (dC (.int 1)))) (aB (dFz (aO dY (dCB zV (aB (aG 12) (aB (dC (.int 5)) aQ))) (dC (.int 1)))) aQ))) (aT 2 aF (aB (aG 0) (aB (dC (.int 2)) aQ)))) aQ))) aQ)) (dgN 14)
 (uW (sF "list" 13 cM3 (aB (dCB bD9 (aB (fT [15] (dIt (aG 11)) (dgN 15) lT (dFz (aT 2 bY (aB (aG 0) (aB (aG 4) aQ))))) aQ)) aQ))))
 (bR (cX 13 (dSl (dCB mO (aB (aG 13) aQ)) oG (dP (aG 12))))
 (bR (uW (sF "list" 9 cM3 (aB (dCB bD9 (aB (aG 13) aQ)) aQ)))
 (cX 7 (aO cM5 (aG 7) (dCB aV7 (aB (dC (.int 1)) (aB (dCB kW (aB (aG 13) aQ)) aQ))))))))))))))
 (gR (dCB bD9 (aB (aG 9) aQ)))))))))))
noncomputable def dM:Dv.Run:=xA 17 eK
noncomputable def fF:DS:=(gR (sD (zM (cE7 "int") (aG 0)) (sD (aT6 (zM (cE7 "bool") (aG 0))) (tD leI leI (dC (.int 0)) (aG 0) (dC (.int 999))))))
noncomputable def eL:Dv.Run:=xA 1 fF
noncomputable def jE:DS:=(gR (sD (aO (eqD false) (dCB kW (aB (aG 1) aQ)) (aG 0)) (dCB cX3 (aB (fT [2] (dIt (aG 1)) (dgN 2) lT (dFz (aT 1 eL (aB (aG 2) aQ)))) aQ))))
noncomputable def gJ:Dv.Run:=xA 3 jE
noncomputable def bN:DS:=(bR (qI (xS (aG 1)) (oZ 2 (cP (dgN 2) (cP (dgN 3) oY)))
 (bR (kO (aT5 (dR (aT 2 gJ (aB (aG 0) (aB (aG 3) aQ))))) (gR (aG 2)) dS)
 (kO (cB8 (dR (aO gtI (aG 2) (dC (.int 0)))) (aT5 (dR (aO ltA (aO ixD (aG 1) (aO cD1 (aG 2) (dC (.int 1)))) (aG 3))))) (gR (aG 2)) dS)))
 (gR (dC .non)))
noncomputable def bJ:Dv.Run:=xA 4 bN
noncomputable def dN:DS:=(bR (qI (xS (aG 0)) (oZ 2 (cP (dgN 2) (cP (dgN 3) oY)))
 (kO (dOr (dR (aO geI (aG 2) (dCB kW (aB (aG 1) aQ)))) (dR (aO (isD true) (aT 2 bJ (aB (dCB kW (aB (aO ixD (aG 3) (dC (.int 1))) aQ)) (aB (aO ixD (aG 1) (aG 2)) aQ))) (dC .non)))) (nM "BadHouse" "table" (aO ixD (aG 3) (dC (.int 0)))) dS))
 (bR (kO (dR (aO gtI (dCB kW (aB (aG 1) aQ)) (dCB kW (aB (aG 0) aQ)))) (nM "BadHouse" "table" (dC (.str ""))) dS)
 (gR (dC (.bl true)))))
noncomputable def eA:Dv.cM6:=dG0 4 dN
noncomputable def bS:DS:=(bR (qI (xS (aG 1)) (oZ 2 (cP (dgN 2) (cP (dgN 3) oY)))
 (bR (kO (dOr (dR (aO (eqD true) (dCB kW (aB (aG 3) aQ)) (dCB kW (aB (aG 0) aQ)))) (dR (aO (inD false) (dC (.bl true)) (fT [4] (dIt (aG 3)) (dgN 4) lT (cV3 (aO ltA (aG 4) (dC (.int 0))) (aO gtI (aG 4) (dC (.int 999)))))))) (gR (dC (.bl false))) dS)
 (kO (cB8 (dR (aO gtI (aG 2) (dC (.int 0)))) (aT5 (dR (aO ltA (aO ixD (aG 1) (aO cD1 (aG 2) (dC (.int 1)))) (aG 3))))) (gR (dC (.bl false))) dS)))
 (gR (dC (.bl true))))
noncomputable def bO:Dv.Run:=xA 5 bS
noncomputable def gK:DS:=(bR (qI (xS (aG 0)) (oZ 2 (cP (dgN 2) (cP (oZ 2 (cP (dgN 3) (cP (dgN 4) oY))) oY)))
 (kO (dOr (dR (aO geI (aG 2) (dCB kW (aB (aG 1) aQ)))) (aT5 (dR (aT 2 bO (aB (aG 4) (aB (aO ixD (aG 1) (aG 2)) aQ)))))) (gR (aG 3)) dS))
 (gR (aO ixD (sE (aB (dC .non) (aB (dC (.str "")) aQ))) (dCB cE4 (aB (aO gtI (dCB kW (aB (aG 1) aQ)) (dCB kW (aB (aG 0) aQ))) aQ)))))
noncomputable def fG:Dv.Run:=xA 5 gK
noncomputable def eM:DS:=(bR (cX 2 (dC .non))
 (bR (cX 3 (dC .non))
 (bR (bA7 3 4 5 2 2 eA (aB (aG 0) (aB (aG 1) aQ)) "BadHouse" "table")
 (bR (cX 6 (aT 2 fG (aB (aG 0) (aB (aG 1) aQ))))
 (bR (kO (dR (aO (isD false) (aG 6) (dC .non))) (gR (sD (aO (isD false) (aG 2) (dC .non)) (aO (isD false) (aG 3) (dC (.bl true))))) dS)
 (gR (aO (eqD false) (aG 2) (vT (aB (dC (.bl true)) (aB (dFz (aG 6)) aQ))))))))))
noncomputable def bZ:Dv.Run:=xA 7 eM
noncomputable def cH:DS:=(bR (cX 3 (dCB bD9 (aB (fT [8] (dIt (aG 1)) (dgN 8) lT (dFz (aT 2 aF (aB (aG 0) (aB (dC (.int 1000)) aQ))))) aQ)))
 (bR (cX 4 (aT 2 aF (aB (aG 0) (aB (dC (.int 5)) aQ))))
 (bR (cX 5 (aT 2 aF (aB (aG 0) (aB (aO dY (dCB kW (aB (aG 2) aQ)) (dC (.int 1))) aQ))))
 (bR (kO (dR (aO (eqD false) (aG 4) (dC (.int 0)))) (gR (aO dY (aO dY (dSl (aG 2) oG (dP (aG 5))) (vT (aB (dFz (aG 3)) aQ))) (dSl (aG 2) (dP (aG 5)) oG))) dS)
 (bR (kO (dR (aO (eqD false) (aG 4) (dC (.int 1)))) (bR (cX 3 (aO ixD (sE (aB (dFz (aO dY (aG 3) (vT (aB (dC (.int 7)) aQ)))) (aB (dFz (dSl (aG 3) oG (dP (zM dF7 (dC (.int 1)))))) aQ))) (aT 2 aF (aB (aG 0) (aB (dC (.int 2)) aQ)))))
 (gR (aO dY (aO dY (dSl (aG 2) oG (dP (aG 5))) (vT (aB (dFz (aG 3)) aQ))) (dSl (aG 2) (dP (aO dY (aG 5) (dC (.int 1)))) oG)))) dS)
 (bR (kO (dOr (dR (aO (eqD false) (aG 4) (dC (.int 2)))) (dR (aO ltA (dCB kW (aB (aG 2) aQ)) (dC (.int 2))))) (bR (cX 6 (aT 2 aF (aB (aG 0) (aB (dCB kW (aB (aG 1) aQ)) aQ))))
 (bR (cX 7 (aO ixD (sE (aB (zM dF7 (dC (.int 1))) (aB (dC (.int 1000)) (aB (aO cW8 (dC (.int 10)) (dC (.int 25))) aQ)))) (aT 2 aF (aB (aG 0) (aB (dC (.int 3)) aQ)))))
 (bR (cX 3 (aO dY (aO dY (dSl (aG 3) oG (dP (aG 6))) (vT (aB (dFz (aG 7)) aQ))) (dSl (aG 3) (dP (aO dY (aG 6) (dC (.int 1)))) oG)))
 (gR (aO dY (aO dY (dSl (aG 2) oG (dP (aG 5))) (vT (aB (dFz (aG 3)) aQ))) (dSl (aG 2) (dP (aO dY (aG 5) (dC (.int 1)))) oG)))))) dS)
 (bR (cX 5 (aT 2 aF (aB (aG 0) (aB (aO cD1 (dCB kW (aB (aG 2) aQ)) (dC (.int 1))) aQ))))
 (bR (kO (dR (aO (eqD false) (aG 4) (dC (.int 3)))) (gR (aO dY (aO dY (dSl (aG 2) oG (dP (aG 5))) (vT (aB (aO ixD (aG 2) (aO dY (aG 5) (dC (.int 1)))) (aB (aO ixD (aG 2) (aG 5)) aQ)))) (dSl (aG 2) (dP (aO dY (aG 5) (dC (.int 2)))) oG))) dS)
 (gR (aO dY (dSl (aG 2) oG (dP (aO dY (aG 5) (dC (.int 1))))) (dSl (aG 2) (dP (aG 5)) oG)))))))))))
noncomputable def cB:Dv.Run:=xA 9 cH
noncomputable def cS:DS:=(bR (cX 3 (aT 2 aF (aB (aG 0) (aB (dC (.int 5)) aQ))))
 (bR (kO (dR (aO (eqD false) (aG 3) (dC (.int 0)))) (gR (dSl (aG 2) oG (dP (aT 2 aF (aB (aG 0) (aB (aO dY (dCB kW (aB (aG 2) aQ)) (dC (.int 1))) aQ)))))) dS)
 (bR (kO (dR (aO (eqD false) (aG 3) (dC (.int 1)))) (gR (aO dY (aG 2) (aO dC4 (vT (aB (aO ixD (sE (aB (vT aQ) (aB (vT (aB (vT (aB (dC (.int 1)) aQ)) aQ)) (aB (vT (aB (vT (aB (dC (.int 2)) (aB (dC (.int 1)) aQ))) aQ)) aQ)))) (aT 2 aF (aB (aG 0) (aB (dC (.int 3)) aQ)))) aQ)) (aO dY (dC (.int 1)) (aT 2 aF (aB (aG 0) (aB (dC (.int 2)) aQ))))))) dS)
 (bR (kO (dR (aO (eqD false) (dCB kW (aB (aG 2) aQ)) (dC (.int 0)))) (gR (aG 2)) dS)
 (bR (cX 4 (aT 2 aF (aB (aG 0) (aB (dCB zV (aB (dCB kW (aB (aG 1) aQ)) (aB (dCB kW (aB (aG 2) aQ)) aQ))) aQ))))
 (bR (cX 5 (aT 3 cB (aB (aG 0) (aB (aO ixD (aO ixD (aG 1) (aG 4)) (dC (.int 1))) (aB (aO ixD (aG 2) (aG 4)) aQ)))))
 (gR (aO dY (aO dY (dSl (aG 2) oG (dP (aG 4))) (vT (aB (dFz (aG 5)) aQ))) (dSl (aG 2) (dP (aO dY (aG 4) (dC (.int 1)))) oG)))))))))
noncomputable def cI:Dv.Run:=xA 6 cS
def tS:MS:=(dC8 (RS (cX 1 (aT 2 cU (aB (aG 0) (aB (dC (.int 0)) aQ)))))
 (dC8 (bM9 2 2 cQ1 (aB (aG 1) (aB (dC (.int 3)) aQ)))
 (RS (bR (cX 3 (dCB bD9 (aB (fT [7] (dIt (aT 3 dM (aB (aT 2 cU (aB (aG 0) (aB (dC (.int 1)) aQ))) (aB (aG 2) (aB (dC (.int 3000)) aQ))))) (dgN 7) lT (dFz (dSl (aG 7) oG (dP (dC (.int 38)))))) aQ)))
 (bR (kO (aT5 (dR (aT 2 bZ (aB (aG 2) (aB (aG 3) aQ))))) (gR (dC (.bl false))) dS)
 (bR (qI (aN6 (aB (dC (.int 2)) (aB (dC (.int 5)) aQ))) (dgN 4)
 (bR (cX 1 (aT 2 cU (aB (aG 0) (aB (aG 4) aQ))))
 (bR (cX 5 (dFz (aG 3)))
 (bR (qI (aN6 (aB (aO dY (dC (.int 1)) (aT 2 aF (aB (aG 1) (aB (dC (.int 2)) aQ)))) aQ)) (dgN 6)
 (cX 5 (aT 3 cI (aB (aG 1) (aB (aG 2) (aB (aG 5) aQ))))))
 (bR (kO (aT5 (dR (aT 2 bZ (aB (aG 2) (aB (aG 5) aQ))))) (gR (dC (.bl false))) dS)
 (kO (aT5 (dR (aT 2 bZ (aB (aG 2) (aB (aG 3) aQ))))) (gR (dC (.bl false))) dS))))))
 (gR (dC (.bl true)))))))))
def rV:MC:=dF6 8 tS
def aB6:bD7 tS:=(aB5 aH5 (aB5 (aH6 bX1) aH5))
section
variable{P:Program}{w:World}{K:W.Frag}{mg:Str->Option Value}{base:Heap}{a:Adr}
set_option hygiene false in
local macro_rules | `(tactic| walk_at "k")=>`(tactic| (first | refine aE5 ?_ ?_ | refine aU1 ?_ | refine bB5 ?_ ?_)<;>repeat' first
 | (with_reducible show GE _ _ (aG _));exact cU3 (pv _)
 | (with_reducible show GA _ _ (aB _ _));refine cC1 ?_ ?_
 | (with_reducible show GE _ _ (dC (.int _)));exact ge_int
 | (with_reducible show GA _ _ aQ);exact cV7
 | (with_reducible show GSs _ _ _ (bR _ _));refine aE5 ?_ ?_
 | (with_reducible show GSs _ _ [_] _);refine aU1 ?_
 | (with_reducible show GE _ _ (aO dY _ _));refine qF cD7 cD8 ?_ ?_
 | (with_reducible show GS _ _ _ (gR _));refine cW1 ?_
 | (with_reducible show GE _ _ (dFz _));refine dJ4 ?_
 | (with_reducible show GE _ _ (aO ixD _ _));refine dJ7 ?_ ?_ (λ_ _=>rfl)
 | (with_reducible show GE _ _ (aT _ aF _));refine dX (λΓ=>aN (ok_law_take T) (hr.mono (by decide)) (by rfl) T.a0n T.a0l.kp (aR T) .nil bM (gA ?_ Γ))
 | (with_reducible show GS _ _ _ (kO _ _ _));refine dJ6 ?_ ?_ ?_
 | (with_reducible show GSs _ _ [] _);exact cC3
 | (with_reducible show GE _ _ (dCB kW _));refine zN cE0 (λΓ=>bE dE (by rfl) T.a2p eR (gA ?_ Γ))
 | (with_reducible show GO _ _ (dP _));refine cE2 ?_
 | (with_reducible show GO _ _ oG);exact cE1
 | (with_reducible show GE _ _ (dSl _ _ _));refine bJ5 ?_ ?_ ?_
 | (with_reducible show GE _ _ (sE _));refine cV9 ?_
 | (with_reducible show GE _ _ (dC (.str _)));exact cU5
 | (with_reducible show GE _ _ (vT _));refine cV8 ?_
 | (with_reducible show GT _ _ (dR (aO _ _ _)));refine lQ (bU0 hr.units) (aV9 (neg:=false)) ?_ ?_ (bL _)
 | (with_reducible show GI _ _ _ (dIt _));refine cW6 K (by rfl) ?_
 | (with_reducible show GE _ _ (dC (.bl _)));exact dI8
 | (with_reducible show GE _ _ (aO xC _ _));refine qF aV2 aV3 ?_ ?_
 | (with_reducible show GE _ _ (aO aK9 _ _));refine qF sT cD3 ?_ ?_
 | (with_reducible show bD5 _ [] _);exact bJ2
 | (with_reducible show GE _ _ (fT _ _ _ _ _));refine cC9 (bX (by decide)) (λΓ=>yZ (csc _ (by kernel_rfl)) (gI ?_ Γ) (λ_ _ _ _=>(aY nd rfl (Or.inl rfl) (.inr rfl))) (eZ (by decide)) (λ_ _ _ _=>?_) (λ_ _ _ _=>gE ?_ Γ))
 | (with_reducible show GT _ (.BoolOp _ _ _) _);refine GW.gt ?_
 | (with_reducible show GT _ _ (aT5 _));refine cV2 ?_
 | (with_reducible show GE _ _ (dC .non));exact cU6
 | (with_reducible show GT _ _ (dR (aO gtI _ _)));refine lQ aI6 aU9 ?_ ?_ (bL _)
 | (with_reducible show GE _ (.BoolOp _ [_] _) _);refine cV4 ?_
 | (with_reducible show GE _ _ (sD _ _));refine cV5 ?_ ?_
 | (with_reducible show GE _ _ (dCB bD9 _));refine zN cE6 (λΓ=>dB lF (by rfl) T.a1U gC (gA ?_ Γ))
 | (with_reducible show GI _ _ _ (aN6 _));refine cC6 (λΓ=>iG (by rfl) T.a1C (gA ?_ Γ)) len1
 | (with_reducible show GE _ _ (aO _ _ _));refine wV (bU0 hr.units) (aV9 (neg:=false)) ?_ ?_ (bL _)
 | (with_reducible show GT _ _ (dR (aO ltA _ _)));refine lQ (bW7 hr.units0) bB1 ?_ ?_ (bL _)
 | (with_reducible show GS _ _ _ (uW _));refine cC4 ?_
 | (with_reducible show GE _ _ (aO cD1 _ _));refine qF bQ9 cD2 ?_ ?_
 | (with_reducible show GI _ _ _ (xS _));refine cG9 K (λΓ=>cG7 K (by rfl) (by rfl) T.a2D sH (gA ?_ Γ))
 | (with_reducible show GW _ (.BoolOp .Or [_] _) _);refine cV0 ?_
 | (with_reducible show GW _ _ (dOr _ _));refine dJ1 ?_ ?_
 | (with_reducible show GE _ _ (dCB cE4 _));refine zN cE5 (λΓ=>dB aP3 (by rfl) T.a2U aG4 (gA ?_ Γ))
 | (with_reducible show GE _ _ (aO cM5 _ _));refine qF bJ8 cF2 ?_ ?_
 | (with_reducible show GS _ _ _ (cF1 _ _ _));refine cX5 (λΓ=>aC5 (gE ?_ Γ) (aO0 (pv _) (gE ?_ Γ) uA))
 | (with_reducible show GE _ _ (sF _ _ _ _));refine aT9 cE8 (λΓ=>hU K (by rfl) a4d a2f a3f eY (pv _) (gA ?_ Γ))
 | (with_reducible show GW _ (.BoolOp .And [_] _) _);refine cB9 ?_
 | (with_reducible show GW _ _ (cB8 _ _));refine cV1 ?_ ?_
 | (with_reducible show GS _ _ _ (qI _ _ _));refine oB (own:=[2,3]) (tE (cL (bX (by decide)) (cL (bX (by decide)) nF))) (λΓ=>gY a6f rfl (gI ?_ Γ) (jM (n:=2) K rfl rfl (cJ (aY nd rfl (Or.inl rfl)) (cJ (aY nd rfl (Or.inl rfl)) mW))) (gSs ?_ Γ))
 | (with_reducible show GE _ _ (aO gtI _ _));refine wV aI6 aU9 ?_ ?_ (bL _)
 | (with_reducible show GE _ _ (dCB zV _));refine zN bJ7 (λΓ=>bE (pV (by rfl)) (by rfl) T.a2S vF (gA ?_ Γ))
 | (with_reducible show GE _ _ (aT _ cU _));refine dX (λΓ=>aN (ok_law_box T) (hr.mono (by decide)) (by rfl) T.a2N T.a1R.kp (aY2 T) .nil bM (gA ?_ Γ))
 | (with_reducible show GE _ _ (aT _ bZ _));refine dX (λΓ=>aN (ok_law_right T) (hr.mono (by decide)) (by rfl) T.a2B T.a1t.kp (aA5 T) .nil bM (gA ?_ Γ))
 | (with_reducible show GE _ _ (aO cW8 _ _));refine qF cO9 cD4 ?_ ?_
 | (with_reducible show GT _ _ (dR (aO _ _ _)));refine lQ (aW0 hr.units) (bU1 (neg:=true)) ?_ ?_ (by with_unfolding_all rfl)
 | (with_reducible show GE _ _ (aT _ bY _));refine dX (λΓ=>aN (ok_law_value T) (hr.mono (by decide)) (by rfl) T.a2v T.a1s.kp (aA2 T) .nil bM (gA ?_ Γ))
 | (with_reducible show GT _ _ (dR (aO geI _ _)));refine lQ cP2 aV0 ?_ ?_ (bL _)
 | (with_reducible show GS _ _ _ (nM _ _ _));refine aX7 (c:="BadHouse") (f:="table") T.a2M T.a1Z T.a1S T.a2m (λΓ=>bI0 (cT1 T.a1Z T.a2z T.a2F F.excBase_ValueError (vI T) (hr.mono (by decide)) (by rfl) T.a2l (aA4 T) bM (gA ?_ Γ)))
 | (with_reducible show GE _ _ (aO _ _ _));refine wV bS9 (aV8 (neg:=false)) ?_ ?_ (bL _)
 | (with_reducible show GM _ _ _ (dC8 _ _));refine bB5 ?_ ?_
 | (with_reducible show GE _ _ (aO geI _ _));refine wV cP2 aV0 ?_ ?_ (bL _)
 | (with_reducible show GE _ _ (zM (aL6 _) _));refine cG5 (sep:="") K (λΓ=>hU K (by rfl) F.plainAttrs_str F.slot_str_join F.type_str_join (bK4 K (by rfl)) bQ6 (gA ?_ Γ))
 | (with_reducible show GS _ _ _ (cW3 _ _));refine cW4 (own:=[7,8,9]) (tE (cL (bX (by decide)) (cL (bX (by decide)) (cL (bX (by decide)) nF)))) (λΓ=>aC5 (gE ?_ Γ) (jM (n:=3) K rfl rfl (cJ (aY nd rfl (Or.inl rfl)) (cJ (aY nd rfl (Or.inl rfl)) (cJ (aY nd rfl (Or.inl rfl)) mW)))))
 | (with_reducible show GS _ _ _ (qI _ _ _));refine oB (own:=[12]) (bX (by decide)) (λΓ=>gY a6f rfl (gI ?_ Γ) (aY nd rfl (Or.inl rfl)) (gSs ?_ Γ))
 | (with_reducible show bD5 _ [_] _);refine bJ3 ?_
 | (with_reducible show GE _ _ (zP _ _ _ _));refine cC2 cF0 (λΓ=>hU K (by rfl) a4d F.slot_list_extend F.type_list_extend cE9 (pv _) (gA ?_ Γ))
 | (with_reducible show GE _ _ (aT _ cG _));refine dX (λΓ=>aN (ok_law_columns T) (hr.mono (by decide)) (by rfl) T.a2o T.a0X.kp (vG T) .nil bM (gA ?_ Γ))
 | (with_reducible show GS _ _ _ (cX _ (fT _ _ _ _ _)));refine tF (bX (by decide)) (λΓ=>jI nd rfl rfl (csc _ (by kernel_rfl)) (gI ?_ Γ) (λ_ _ _ _=>(aY nd rfl (Or.inl rfl) (.inr rfl))) (eZ (by decide)) (λ_ _ _ _=>?_) (λ_ _ _ _=>gE ?_ Γ) rfl)
 | (with_reducible show GE _ _ (sF _ _ _ _));refine aT9 cI7 (λΓ=>hU K (by rfl) a4d F.slot_list_index F.type_list_index bB4 (pv _) (gA ?_ Γ))
 | (with_reducible show GS _ _ _ (cX _ (fT _ _ _ _ _)));refine tF (bX (by decide)) (λΓ=>jI nd rfl rfl (csc _ (by kernel_rfl)) (gI ?_ Γ) (λ_ _ _ _=>(aY nd rfl (Or.inr rfl) (.inl rfl))) (eZ (by decide)) (λ_ _ _ _=>?_) (λ_ _ _ _=>gE ?_ Γ) rfl)
 | (with_reducible show GS _ _ _ (qI _ _ _));refine oB (own:=[14]) (bX (by decide)) (λΓ=>gY a6f rfl (gI ?_ Γ) (aY nd rfl (Or.inl rfl)) (gSs ?_ Γ))
 | (with_reducible show GE _ _ (dCB mO _));refine zN aB4 (λΓ=>bM0 (id:="sorted") (U:="set") (yI rfl (dC2 hr)) (by rfl) T.a2P aA1 (by rfl) T.a3l bL0 (gA ?_ Γ))
 | (with_reducible show GE _ _ (dCB aV7 _));refine zN bJ6 (λΓ=>bE (aP2 (by rfl)) (by rfl) T.a2Y bK9 (gA ?_ Γ))
 | (with_reducible show GS _ _ _ (qI _ _ _));refine oB (own:=[10,11]) (tE (cL (bX (by decide)) (cL (bX (by decide)) nF))) (λΓ=>gY a6f rfl (gI ?_ Γ) (jM (n:=2) K rfl rfl (cJ (aY nd rfl (Or.inl rfl)) (cJ (aY nd rfl (Or.inr rfl)) mW))) (gSs ?_ Γ))
 | (with_reducible show GE _ _ (zM (cE7 _) _));refine bU2 (c:="int") K (by decide) (λΓ=>bE (xE K (by rfl)) (by rfl) T.a0C cF (aA (gE ?_ Γ) (aA (yT (v:=.ty "int") (by rfl) T.a2U aG4 rfl) aI)))
 | (with_reducible show GE _ _ (zM (cE7 _) _));refine bU2 (c:="bool") K (by decide) (λΓ=>bE (xE K (by rfl)) (by rfl) T.a0C cF (aA (gE ?_ Γ) (aA (yT (v:=.ty "bool") (by rfl) T.a2V aY1 rfl) aI)))
 | (with_reducible show GE _ _ (aT6 _));refine cV6 ?_
 | (with_reducible show GE _ _ (tD _ _ _ _ _));refine bI5 cP1 aU8 cP1 aU8 ?_ ?_ ?_
 | (with_reducible show GE _ _ (aT _ eL _));refine dX (λΓ=>aN (ok_is_value T) (hr.mono (by decide)) (by rfl) T.a2L T.a1B.kp (aM0 T) .nil bM (gA ?_ Γ))
 | (with_reducible show GE _ _ (dCB cX3 _));refine zN cE3 (λΓ=>bE (aV6 K (by rfl) (by rfl)) (by rfl) T.a2X bK8 (gA ?_ Γ))
 | (with_reducible show GE _ _ (aT _ gJ _));refine dX (λΓ=>aN (ok_is_row T) (hr.mono (by decide)) (by rfl) T.a2Q T.a2q.kp (bL2 T) .nil bM (gA ?_ Γ))
 | (with_reducible show GE _ _ (aT _ bJ _));refine dX (λΓ=>aN (ok_first_wrong_row T) (hr.mono (by decide)) (by rfl) T.a1D T.a0A.kp (nP T) .nil bM (gA ?_ Γ))
 | (with_reducible show GT _ _ (dR (aO _ _ _)));refine lQ cA5 (aV8 (neg:=true)) ?_ ?_ (bL _)
 | (with_reducible show GS _ _ _ (qI _ _ _));refine oB (own:=[2,3]) (tE (cL (bX (by decide)) (cL (bX (by decide)) nF))) (λΓ=>gY PassesOwn.leaving rfl (gI ?_ Γ) (jM (n:=2) K rfl rfl (cJ (aY nd rfl (Or.inl rfl)) (cJ (aY nd rfl (Or.inl rfl)) mW))) (gSs ?_ Γ))
 | (with_reducible show GT _ _ (dR (aO _ _ _)));refine lQ (cX6 hr.units) (aV9 (neg:=true)) ?_ ?_ (bL _)
 | (with_reducible show GE _ _ (aO ltA _ _));refine wV (bW7 hr.units0) bB1 ?_ ?_ (bL _)
 | (with_reducible show GE _ _ (cV3 _ _));refine dJ2 ?_ ?_
 | (with_reducible show GT _ _ (dR (aO _ _ _)));refine lQ (cX7 hr.units) (bU1 (neg:=false)) ?_ ?_ (by with_unfolding_all rfl)
 | (with_reducible show GE _ _ (aT _ bO _));refine dX (λΓ=>aN (ok_law_rows_right T) (hr.mono (by decide)) (by rfl) T.a1G T.a0D.kp (pD T) .nil bM (gA ?_ Γ))
 | (with_reducible show GS _ _ _ (qI _ _ _));refine oB (own:=[2,3,4]) (tE (cL (bX (by decide)) (cL (tE (cL (bX (by decide)) (cL (bX (by decide)) nF))) nF))) (λΓ=>gY a6f rfl (gI ?_ Γ) (jM (n:=2) K rfl rfl (cJ (aY nd rfl (Or.inl rfl)) (cJ (jM (n:=2) K rfl rfl (cJ (aY nd rfl (Or.inl rfl)) (cJ (aY nd rfl (Or.inl rfl)) mW))) mW))) (gSs ?_ Γ))
 | (with_reducible show PSs _ [_] _);refine aV (bU nd rfl (Or.inl rfl) (bI1 (ok_look_house T) (hr.mono (by decide)) rfl T.a2u T.a1n.kp (xW T) (gA ?_ Γ)))
 | (with_reducible show PSs _ [_] _);exact aV (bU nd rfl (Or.inl rfl) (aP6 (aA (aN9 (pv _) (aN8 (bQ7 (bE (uR K rfl) (by rfl) T.a0C cF (aA (pv _) (aA (aP6 (aA (mT (v:=.ref a.BadQuestion) (by rfl) T.a2n rfl) (aA (mT (v:=.ref a.BadTable) (by rfl) T.a2J rfl) (aA (mT (v:=.ref a.NoRow) (by rfl) T.a2T rfl) aI)))) aI)))))) (aA (dI5 K rfl (pv _)) aI))))
 | (with_reducible show PSs _ (_::_) _);refine aM (bU nd rfl (Or.inl rfl) (aN9 (bE (uR K rfl) (by rfl) T.a0C cF (aA (pv _) (aA (mT (v:=.ref a.RowsError) (by rfl) T.a1M rfl) aI))) (aN8 (bE (uR K rfl) (by rfl) T.a0C cF (aA (pv _) (aA (yT (v:=.ty "ValueError") (by rfl) T.a2s rJ rfl) aI)))))) ?_
 | (with_reducible show GS _ _ _ (bA7 _ _ _ _ _ _ _ _ _));refine cI6 (c:="BadHouse") (f:="table") T.a2m T.a2H T.a2x T.a2w T.a2C T.a2G T.a1S (λΓ=>cT9 (P:=P) (w:=w) rfl rfl rfl rfl (λpins E=>?_) (dI7 K rfl nd rfl rfl (λ_ _=>(mT (v:=.ref a.BadHouse) (by rfl) T.a2l rfl)) (λ_ _=>?_) cT8))
 | (with_reducible show GE _ _ (aT _ fG _));refine dX (λΓ=>aN (ok_law_due T) (hr.mono (by decide)) (by rfl) T.a2O T.a1O.kp (aY3 T) .nil bM (gA ?_ Γ))
 | (with_reducible show GT _ _ (dR (aO _ _ _)));refine lQ bS9 (aV8 (neg:=false)) ?_ ?_ (bL _)
 | (with_reducible show GE _ _ (aO _ _ _));refine qF cJ0 bM8 ?_ ?_
 | (with_reducible show GE _ _ (aT _ cB _));refine dX (λΓ=>aN (ok_law_bad_rows T) (hr.mono (by decide)) (by rfl) T.a1Y T.a0M.kp (sJ T) .nil bM (gA ?_ Γ))
 | (with_reducible show GM1 _ _ _ (RS _));refine cJ3 ?_
 | (with_reducible show GM1 _ _ _ (bM9 _ _ _ _));refine cJ4 bX1 (λΓ=>bU nd rfl (Or.inl rfl) (aN a1W (hr.mono (by decide)) (by rfl) T.a1X T.a0Q.kp (sI T) .nil bM (gA ?_ Γ)))
 | (with_reducible show GE _ _ (aT _ dM _));refine dX (λΓ=>aN (ok_law_house T) (hr.mono (by decide)) (by rfl) T.a2A T.a1w.kp (aA3 T) .nil bM (gA ?_ Γ))
 | (with_reducible show GI _ _ _ (aN6 _));refine cC7 (λΓ=>aO4 (by rfl) T.a1C (gA ?_ Γ)) len2
 | (with_reducible show GE _ _ (aT _ cI _));refine dX (λΓ=>aN (ok_law_changed T) (hr.mono (by decide)) (by rfl) T.a2r T.a0Y.kp (vH T) .nil bM (gA ?_ Γ))
 | (with_reducible show GS _ _ _ (qI _ _ _));refine oB (own:=[6]) (bX (by decide)) (λΓ=>gY a6f rfl (gI ?_ Γ) (aY nd rfl (Or.inl rfl)) (gSs ?_ Γ))
 | (with_reducible show GS _ _ _ (qI _ _ _));refine oB (own:=[4]) (bX (by decide)) (λΓ=>gY a6f rfl (gI ?_ Γ) (aY nd rfl (Or.inl rfl)) (gSs ?_ Γ))
 | (with_reducible show GM _ _ _ (RS _));refine dC7 ?_
 | (with_reducible show GT _ _ (cU8 _));refine bI4 ?_ (λ_=>rfl)
 | (with_reducible show GE _ (.Name _ _) (dC _));exact bI3 (by rfl) T.a2K
 | (with_reducible show GS _ _ _ (cX _ _));refine aZ2 nd rfl (Or.inl rfl) ?_
 | (with_reducible show GS _ _ _ (cX _ _));refine aZ2 nd rfl (Or.inr rfl) ?_
 | (with_reducible show GE _ _ (zM _ _));refine dI9 cP0 cD5 ?_
 | (with_reducible show GT _ _ (dR _));refine cU7 ?_)
def ok_law_box(T:Txt K mg a):FnOk P w K mg base CX0 1 a.a2y a.a1A ["_law_script","_law_k"] (dsp 2 cU):=by
 refine dI T.a1R tN (by decide) gH (λcdv A outer s H E hr=>?_);have nd:=tN.nd;unfold gH;walk_at "k"
def ok_law_take(T:Txt K mg a):FnOk P w K mg base CX0 1 a.a1J a.a0V ["_law_box_here","_law_many"] (dsp 2 aF):=by
 refine dI T.a0l gW (by decide) fE (λcdv A outer s H E hr=>?_);have nd:=gW.nd;unfold fE;walk_at "k"
def yK(T:Txt K mg a):FnOk P w K mg base CX0 2 a.a1y a.a0L ["_law_box_here","_law_many"] (dsp 2 eU):=by
 refine dI T.a0W oP (by decide) eI (λcdv A outer s H E hr=>?_);have nd:=oP.nd;unfold eI;walk_at "k"
def ok_law_columns(T:Txt K mg a):FnOk P w K mg base CX0 1 a.a1v a.a0S ["_law_question_here"] (dsp 1 cG):=by
 refine dI T.a0X kB (by decide) cR (λcdv A outer s H E hr=>?_);have nd:=kB.nd;unfold cR;walk_at "k"
def ok_law_value(T:Txt K mg a):FnOk P w K mg base CX0 2 a.a1L a.a1p ["_law_box_here","_law_span"] (dsp 2 bY):=by
 refine dI T.a1s oR (by decide) eJ (λcdv A outer s H E hr=>?_);have nd:=oR.nd;unfold eJ;walk_at "k"
def ok_law_house(T:Txt K mg a):FnOk P w K mg base CX0 3 a.a1T a.a1l ["_law_box_here","_law_question_here","_law_ceiling"] (dsp 3 dM):=by
 refine dI T.a1w oS (by decide) eK (λcdv A outer s H E hr=>?_);have nd:=oS.nd;unfold eK;walk_at "k"
def ok_is_value(T:Txt K mg a):FnOk P w K mg base CX0 1 a.a0t a.a1x ["number"] (dsp 1 eL):=by
 refine dI T.a1B rK (by decide) fF (λcdv A outer s H E hr=>?_);have nd:=rK.nd;unfold fF;walk_at "k"
def ok_is_row(T:Txt K mg a):FnOk P w K mg base CX0 2 a.a0Z a.a1V ["width","row"] (dsp 2 gJ):=by
 refine dI T.a2q xV (by decide) jE (λcdv A outer s H E hr=>?_);have nd:=xV.nd;unfold jE;walk_at "k"
def ok_first_wrong_row(T:Txt K mg a):FnOk P w K mg base CX0 3 a.a0m a.a0w ["width","rows"] (dsp 2 bJ):=by
 refine dI T.a0A fM (by decide) bN (λcdv A outer s H E hr=>?_);have nd:=fM.nd;unfold bN;walk_at "k"
def ok_look_house(T:Txt K mg a):FnOk P w K mg base (CXo P w) 4 a.a0p a.a0U ["question","house"] (dK7 K 2 eA):=by
 refine cG8 T.a1n mJ (by decide) dN (λcdv A outer s H E hr=>?_);have nd:=mJ.nd;unfold dN;walk_at "k"
def ok_law_rows_right(T:Txt K mg a):FnOk P w K mg base CX0 1 a.a0O a.a0z ["_law_own","_law_rows"] (dsp 2 bO):=by
 refine dI T.a0D gG (by decide) bS (λcdv A outer s H E hr=>?_);have nd:=gG.nd;unfold bS;walk_at "k"
def ok_law_due(T:Txt K mg a):FnOk P w K mg base CX0 2 a.a2E a.a1z ["_law_question_here","_law_house_here"] (dsp 2 fG):=by
 refine dI T.a1O tO (by decide) gK (λcdv A outer s H E hr=>?_);have nd:=tO.nd;unfold gK;walk_at "k"
def ok_law_right(T:Txt K mg a):FnOk P w K mg base CX0 5 a.a1K a.a1q ["_law_question_here","_law_house_here"] (dsp 2 bZ):=by
 refine dI T.a1t oU (by decide) eM (λcdv A outer s H E hr=>?_);have nd:=oU.nd;unfold eM;walk_at "k"
def ok_law_bad_rows(T:Txt K mg a):FnOk P w K mg base CX0 2 a.a1m a.a0I ["_law_box_here","_law_own","_law_rows"] (dsp 3 cB):=by
 refine dI T.a0M jC (by decide) cH (λcdv A outer s H E hr=>?_);have nd:=jC.nd;unfold cH;walk_at "k"
def ok_law_changed(T:Txt K mg a):FnOk P w K mg base CX0 3 a.a1u a.a0R ["_law_box_here","_law_question_here","_law_house_here"] (dsp 3 cI):=by
 refine dI T.a0Y kD (by decide) cS (λcdv A outer s H E hr=>?_);have nd:=kD.nd;unfold cS;walk_at "k"
def dD1(T:Txt K mg a)(a1W:FnOk P w K mg base CX0 5 a.a0K a.a0u ["_law_box_here","_law_kind"] (bJ4 2 cQ1)):FnOk P w K mg base CX0 6 a.law a.a2R ["_law_script"] (bJ4 1 rV):=by
 refine aU6 T.a2W bW0 (by decide) tS aB6 (λcdv A outer s H E hr=>GM.to ?_);have nd:=bW0.nd;unfold tS;walk_at "k"
end
local macro_rules | `(tactic| walk_at "dx")=>do
 let l:=("bU3 jU jV jW xH lV lW aF2 xI lY lZ gU iW iX qN tH xJ qO xK oJ iY jX mB qQ mD oK oM tJ mE qR jY cY5 cY6 bU5 bB2 xO bU9 bV0 bV1 bV2 bK2 dA0 tK aX4 zZ bV4 aS bV8 aX6 dA5 dA6 kQ aX0 reduceIte".splitOn " ").toArray.map fun s=>Lean.mkIdent s.toName
 let m:=("dA7 bV9 dA8 dA9 dB0 Int.reducePow Int.reduceNeg Int.reduceLT Int.reduceLE Nat.reducePow Nat.reduceLT Int.reduceToNat Nat.reduceLeDiff aG1 iZ jA qV List.set_cons_zero List.set_cons_succ aE8 List.length_cons List.length_nil Nat.reduceAdd Nat.zero_add true_and Bool.true_and decide_eq_true_eq".splitOn " ").toArray.map fun s=>Lean.mkIdent s.toName
 `(tactic| simp only[$[↓$l:ident],*,$[$m:ident],*])
def sl2:(2<=sizeLine):=by decide
def aW{a b m:Int}(h:0 < m)(c:m < 18446744073709551616){K:Res->List Sl->Prop}(k:∀ d e f,0<=d->d < m->K (.val (.int d)) [⟨.par,.lst [.int e,.int f]⟩,⟨.val,.int m⟩]):CK aF [⟨.par,.lst [.int a,.int b]⟩,⟨.val,.int m⟩] K:=by
 unfold aF;rw[fJ];show RS fE [_,_,none,none] _;unfold fE;walk_at "dx";rw[dA9 h c];split;exact⟨h,True.intro,k _ _ _ (a8h _ (by lia)) (a1g _ h)⟩;exact⟨h,k _ _ _ (a8h _ (by lia)) (a1g _ h)⟩
def bB7{ns:List Int}{i:Int}(h0:0<=i)(a:i < (ns.length:Int)):∃ c,atI (ns.map D.int) i=some (.int c):=by
 obtain⟨c,b⟩:=lD (ys:=ns) h0 a;exact⟨c,by rw[nB,b];rfl⟩
def bB8{ns:List Int}{n:Int}(h0:0<=n)(e:n < 1000){K:Res->List Sl->Prop}(k:∀ a b,K (.own (.lst [.int a,.int b])) [⟨.val,.lst (ns.map D.int)⟩,⟨.val,.int n⟩]):CK cU [⟨.val,.lst (ns.map D.int)⟩,⟨.val,.int n⟩] K:=by
 unfold cU;rw[fJ];show RS gH [_,_,none,none] _;unfold gH;walk_at "dx";split;rename_i d;obtain⟨c,d⟩:=bB7 (ns:=ns) h0 (by simpa using d);rw[d];walk_at "dx";exact⟨sl2,k _ _⟩;split;rename_i d;refine⟨d,?_⟩;obtain⟨c,d⟩:=bB7 (ns:=ns) (i:=n % ((ns.map D.int).length:Int)) (a8h _ (by lia)) (by have:=a1g n d;simpa using this);rw[d];walk_at "dx";exact⟨sl2,k _ _⟩;exact⟨sl2,k _ _⟩
def jQ{lo:Int}{n i:Nat}{d:D}(h:(zR lo n)[i]? = some d):i < n/\d=.int (lo+i):=by
 unfold zR at h;rw[a4b]at h;cases e:(List.range n)[i]? with
 | none=>rw[e]at h;cases h
 | some k=>
   rw[e]at h;obtain⟨hi,a⟩:=a3a.mp e;rw[List.length_range]at hi;rw[List.getElem_range]at a;subst a;exact⟨hi,(a5a h).symm⟩
def gX(lo:Int)(n:Nat):(zR lo n).length=n:=by simp[zR]
def iM{a:Type}{l:List a}{i:Int}{c:a}(h:atI l i=some c):c∈l:=by
 unfold atI at h;obtain⟨j,_,b⟩:=bind_some h;exact a9b b
def Tx(z:Str):Prop:=z.length<=100/\∀ c∈z.cps.toList,c < 128
theorem dD2{z:Str}{lo hi:Option Int}{K:Res->Prop}:SK (.str z) lo hi K=(z.length<=sizeLine/\K (.val (.str (Txt.slice z lo hi)))):=by
 show OK1 (if _ then _ else none) K=_;rw[aZ];rfl
theorem cJ8{z:Str}{i:Int}{K:Res->Prop}:OK1 (xC (.str z) (.int i)) K=((z.length<=1000/\0<=i/\i<=1000)/\K (.val (.str (Txt.mul z i)))):=by
 unfold xC;dsimp only;rw[aZ];rfl
theorem aB7{i:Nat}{σ a:Sg}:lS [i] σ a=a.set i (σ[i]?.getD none):=rfl
def aH7:(Str.ofString "abcdefghijklmnopqrstuvwxyz").cps.toList.length=26:=by decide
def iN(z:Str):z.length=z.cps.toList.length:=by show z.cps.size=_;simp
def bB9(x y:Str):(x++y).cps.toList=x.cps.toList++y.cps.toList:=by show(x.cps++y.cps).toList=_;simp
theorem jF(x y:Str):(x++y).length=x.length+y.length:=by rw[iN,iN,iN,bB9,a6b]
def As(z:Str):Prop:=∀ c∈z.cps.toList,c < 128
def bC0{x y:Str}(b:As x)(d:As y):As (x++y):=by
 intro c a;rw[bB9]at a;rcases a0c.mp a with h | h;exact b c h;exact d c h
def pR{z:Str}(h:As z)(lo hi:Option Int):As (Txt.slice z lo hi):=by
 intro c a;unfold Txt.slice at a;split at a;exact h c a;simp only[List.mem_filterMap]at a;obtain⟨i,_,hi⟩:=a;exact h c (Array.mem_toList_iff.mpr (Array.mem_of_getElem? hi))
theorem slice_le(z:Str)(lo hi:Option Int):(Txt.slice z lo hi).length<=z.length:=Txt.slice_le z lo hi
def aB8{z:Str}(h:As z):eQ (.str z)=true:=by
 unfold eQ;rw[a5d];refine⟨?_,rfl⟩;show PyData.strOk z=true;unfold PyData.strOk;rw[← Array.all_toList,a1i];intro c a;have:=h c a;simp;lia
def aH8(d:D)(l:List D):eQ d=true->eQ (.lst l)=true->(pA d).depth<=59->eQ (.lst (d::l))=true:=by
 intro a b h;obtain⟨c,i⟩:=cQ a;obtain⟨e,f⟩:=cQ b;unfold eQ;rw[a5d,a3u];have g:(pA (.lst (d::l))).canLay0=((pA d).canLay0&&(pA (.lst l)).canLay0):=by
  simp only[pA,toPys,PyData.canLay0,PyData.canLayAll0]
 refine⟨by rw[g,c,e];rfl,?_⟩;simp only[pA,toPys,PyData.depth,PyData.depthAll]at f ⊢;lia
theorem aH9:∀ {zs:List Str},(∀ z∈zs,As z)->eQ (.lst (zs.map D.str))=true
 | [],_=>rfl
 | z::r,h=>aH8 _ _ (aB8 (h z a4a)) (aH9 λy a=>h y (a8a _ a)) (by show PyData.depth (.str z)<=59;simp[PyData.depth])
local macro_rules | `(tactic| walk_at "dx")=>do
 let l:=("bU3 jU jV jW xG xH lV aW2 lW lX aF2 xI aF3 lY aW3 qM vC lZ gU iW iX qN tH xJ qO xK oJ iY jX mB qQ zW mD oK oM tJ aF4 mE qR aF5 jY aW5 aW6 aW7 aW8 aW9 bU5 cY7 xL jO nK kP qW qX qY xN aF8 nQ aX2 zY fO dB8 bM2 xO cG2 cG4 bU9 bV1 tK zZ aL4 bV4 bV5 bK3 aG0 dF9 bV6 dD2 cJ8 aS qT qU xM aF7 aX0 aX1 bU7 bU8 reduceIte".splitOn " ").toArray.map fun s=>Lean.mkIdent s.toName
 let m:=("aB7 List.getElem?_cons_succ List.getElem?_cons_zero Option.getD_some bV9 Int.reducePow Int.reduceNeg Int.reduceLT Int.reduceLE Nat.reducePow Nat.reduceLT Int.reduceToNat Nat.reduceLeDiff aG1 rA aL5 rB iZ jA qV List.set_cons_zero List.set_cons_succ cM aE8 List.length_cons List.length_nil Nat.reduceAdd Nat.zero_add true_and and_true and_self Bool.not_false Bool.not_true Bool.false_eq_true Bool.true_and Bool.and_true Bool.or_false decide_eq_true_eq".splitOn " ").toArray.map fun s=>Lean.mkIdent s.toName
 `(tactic| simp only[$[↓$l:ident],*,$[$m:ident],*])
theorem bC1:∀ (zs:List Str),(∀ z∈zs,z.length<=1)->(zs.map (·.length)).sum<=zs.length
 | [],_=>by simp
 | z::r,h=>by
   have b:=h z a4a;have c:=bC1 r λy a=>h y (a8a _ a);simp only[List.map_cons,List.sum_cons,List.length_cons];lia
def bC2{e:Int}(b:0<=e)(d:e < 26):∃ c,atI (Str.ofString "abcdefghijklmnopqrstuvwxyz").cps.toList e=some c/\c < 128:=by
 obtain⟨c,a⟩:=lD (ys:=(Str.ofString "abcdefghijklmnopqrstuvwxyz").cps.toList) b (by rw[aH7];exact d);exact⟨c,a,aT2 c (iM a)⟩
def aI0{c:Nat}(h:c < 128):As ⟨#[c]⟩:=by
 intro x a;have:x=c:=by simpa using a
 subst this;exact h
def dL2{k:Int}(h0:0<=k)(l:k < 24):∃ (z:Str) (p q r:Nat),Txt.slice (Txt.slice (Str.ofString "abcdefghijklmnopqrstuvwxyz") (some k) none) none (some 3)=z/\z.length=3/\jT z=[.str ⟨#[p]⟩,.str ⟨#[q]⟩,.str ⟨#[r]⟩]/\p < 128/\q < 128/\r < 128:=by
 have c:(Str.ofString "abcdefghijklmnopqrstuvwxyz").length=26:=by decide
 have h:=aK0 (x:=Str.ofString "abcdefghijklmnopqrstuvwxyz") h0 (by rw[c];lia);have a:=pR (pR (z:=Str.ofString "abcdefghijklmnopqrstuvwxyz") aT2 (some k) none) none (some 3);have d:(Txt.slice (Str.ofString "abcdefghijklmnopqrstuvwxyz") (some k) none).length=26-k.toNat:=by
  rw[iN,h,a0h,aH7]
 have i:=bG6 (x:=Txt.slice (Str.ofString "abcdefghijklmnopqrstuvwxyz") (some k) none) (j:=3) (by decide) (by rw[d];lia);have b:=iN (Txt.slice (Txt.slice (Str.ofString "abcdefghijklmnopqrstuvwxyz") (some k) none) none (some 3));rw[i,a7d,← iN,d]at b;revert a b;generalize Txt.slice (Txt.slice (Str.ofString "abcdefghijklmnopqrstuvwxyz") (some k) none) none (some 3)=z;intro a b;have e:z.length=3:=by rw[b];show min 3 _=3;lia
 have f:=iN z;rw[e]at f;unfold As at a
 match g:z.cps.toList,f with
 | [p,q,r],_=>
   rw[g]at a;exact⟨z,p,q,r,rfl,e,by unfold jT;rw[g];rfl,a p (by simp),a q (by simp),a r (by simp)⟩
def tx1{c:Nat}(h:c < 128):Tx ⟨#[c]⟩:=⟨by show 1<=100;decide,aI0 h⟩
def aI1{x y:Str}{m n:Nat}(a:x.length<=m/\As x)(b:y.length<=n/\As y):(x++y).length<=m+n/\As (x++y):=⟨by rw[jF];lia,bC0 a.2 b.2⟩
theorem len1(c:Nat):Str.length ⟨#[c]⟩=1:=rfl
def bN3{e:Int}(h0:0<=e)(a:e < 11):∃ z:Str,atI ([D.str "table",D.str "tree",D.str "none",D.str "answer",D.str "levels",D.str "looks"]++[D.str "at",D.str "count",D.str "ears",D.str "cover",D.str "place"]) e=some (.str z)/\Tx z:=by
 have:e=0\/e=1\/e=2\/e=3\/e=4\/e=5\/e=6\/e=7\/e=8\/e=9\/e=10:=by lia
 rcases this with rfl | rfl | rfl | rfl | rfl | rfl | rfl | rfl | rfl | rfl | rfl<;>exact⟨_,rfl,by unfold Tx;decide⟩
def aB9(ys:List Str)(j:Nat)(z:Str):(ys.map D.str).set j (.str z)=(ys.set j z).map D.str:=by rw[List.map_set]
def dD3{n:Nat}{k:Int}(h0:0<=k)(a:k < n){K:Nat->Prop}(q:∀ j,j < n->K j):OK1 (ixN n k) K:=by
 obtain⟨m,rfl⟩:∃ m:Nat,k=m:=⟨k.toNat,by lia⟩;have e:ixN n (m:Int)=some m:=by
  unfold ixN;rw[a3p (by lia),a3p (by lia)];simp
 rw[e];exact q m (by lia)
def dD4{m:Int}(h:m=0\/m=1):(Txt.mul "z" m).length<=1/\As (Txt.mul "z" m):=by
 rcases h with rfl | rfl;exact⟨by decide,by unfold As;decide⟩;exact⟨by decide,by unfold As;decide⟩
def zm2(p:Prop)[Decidable p]:(if p then(1:Int)else 0)=0\/(if p then(1:Int)else 0)=1:=by
 split;exact .inr rfl;exact .inl rfl
def bX2{neg:Bool}{z:Str}{zs:List Str}(hz:As z)(h:∀ z∈zs,As z){K:Res->Prop}(k:K (.val (.bl (if neg=true then !zs.contains z else zs.contains z)))):OK1 (inD neg (.str z) (.lst (zs.map D.str))) K:=by
 show OK1 (if _ then _ else none) K;rw[aZ];refine⟨⟨aB8 hz,aH9 h⟩,?_⟩;have e:((zs.map D.str).any λy=>rX y (.str z))=zs.contains z:=by
  rw[List.any_map,List.contains_eq_any_beq];congr 1;funext y;show(y==z)=(z==y);rw[a8f,a3w,a3w,eq_comm]
 rw[e];exact k
def dD5{A B s t:Str}{c d:Nat}(h:c≠d):A++⟨#[c]⟩++B++s≠A++⟨#[d]⟩++B++t:=by
 intro e;have a:(A.cps++#[c]++B.cps++s.cps)[A.cps.size]? = (A.cps++#[d]++B.cps++t.cps)[A.cps.size]?:=a3H (λz:Str=>z.cps[A.cps.size]?) e;rw[a0j,a0j,a0j,a0j,Array.getElem?_append_right (a6a _),Array.getElem?_append_right (a6a _),Nat.sub_self]at a;rw[Array.getElem?_append_left (by simp),Array.getElem?_append_left (by simp)]at a;exact h (a5a a)
def cJ9{e:Int}(h0:0<=e)(f:e < 26){c d:Nat}(b:atI (Str.ofString "abcdefghijklmnopqrstuvwxyz").cps.toList ((e+5*(0+((0:Nat):Int))) % 26)=some c)(hd:atI (Str.ofString "abcdefghijklmnopqrstuvwxyz").cps.toList ((e+5*(0+((1:Nat):Int))) % 26)=some d):c≠d:=by
 have a:∀ n:Fin 26,atI (Str.ofString "abcdefghijklmnopqrstuvwxyz").cps.toList ((((n.1:Nat):Int)+5*(0+((0:Nat):Int))) % 26)≠atI (Str.ofString "abcdefghijklmnopqrstuvwxyz").cps.toList ((((n.1:Nat):Int)+5*(0+((1:Nat):Int))) % 26):=by decide
 obtain⟨n,rfl⟩:∃ n:Nat,e=n:=⟨e.toNat,by lia⟩;intro z;subst z;exact a ⟨n,by lia⟩ (b.trans hd.symm)
def cK0{ys:List Str}(h:Ne2 ys){w:Str}(a:ys.contains w=false)(j:Nat):Ne2 (ys.set j w):=by
 obtain⟨x,y,r,rfl,e⟩:=h;have b:w≠x:=λz=>by rw[z]at a;simp at a
 have c:w≠y:=λz=>by rw[z]at a;simp at a
 match j with
 | 0=>exact⟨w,y,r,rfl,c⟩
 | 1=>exact⟨x,w,r,rfl,b.symm⟩
 | j+2=>exact⟨x,y,r.set j w,rfl,e⟩
def bN4{a b:Int}{K:Res->List Sl->Prop}(k:∀ (zs:List Str) F G,zs.length=6->(∀ z∈zs,Tx z)/\Ne2 zs->K (.own (.lst (zs.map D.str))) [⟨.par,.lst [.int F,.int G]⟩,⟨.val,.int 6⟩]) :
  CK eU [⟨.par,.lst [.int a,.int b]⟩,⟨.val,.int 6⟩] K:=by
 unfold eU;rw[fJ];show RS eI [_,_,none,none,none,none,none,none,none,none,none,none,none,none,none] _;unfold eI;walk_at "dx";refine aW (by decide) (by decide) λn a1 b1 n0 n5=>?_;walk_at "dx";refine⟨by lia,by rw[gX];exact a8b (by lia:n.toNat<=5) (by decide),?_⟩;refine fD _ _ (λi acc τ=>i<=5/\∃ (zs:List Str) (F G:Int),acc=zs.map D.str/\zs.length=i/\(∀ z∈zs,z.length<=1/\As z)/\τ=[some ⟨.par,.lst [.int F,.int G]⟩,some ⟨.val,.int 6⟩,some ⟨.val,.str "abcdefghijklmnopqrstuvwxyz"⟩,none,none,none,none,none,none,none,none,none,none,none,none]) ⟨by lia,[],a1,b1,rfl,rfl,by simp,rfl⟩ ?_ ?_;rintro i d acc τ hd ⟨_,zs,F,G,rfl,hl,u,rfl⟩;obtain⟨hi,rfl⟩:=jQ hd;walk_at "dx";refine aW (by decide) (by decide) λe a2 b2 P Q=>?_;walk_at "dx";refine⟨by decide,?_⟩;obtain⟨c,L,M⟩:=bC2 P Q;rw[L];walk_at "dx";refine⟨_,rfl,by lia,zs++[⟨#[c]⟩],a2,b2,by rw[a1d];rfl,by rw[a6b,hl];rfl,?_,rfl⟩;intro z R;rcases a0c.mp R with h | h;exact u z h;rw[a3b]at h;subst h;exact⟨a6a 1,aI0 M⟩;rintro acc τ ⟨h5,zs,F,G,rfl,hl,u,rfl⟩;have hs:=bC1 zs λz h=>(u z h).1;rw[cG6];refine⟨by simp only[show(Str.ofString "").length=0 by decide];lia,?_⟩;have N:=zL (m:=128) (sep:=Str.ofString "") (by decide) zs λz h=>(u z h).2;have A:(Txt.join (Str.ofString "") zs).length<=5:=by
  refine a8b (bZ9 _ _) ?_;simp only[show(Str.ofString "").length=0 by decide];lia
 revert N A;generalize Txt.join (Str.ofString "") zs=x;intro N A;have S:x.length<=sizeLine:=a8b A (by decide);walk_at "dx";rw[cH7 S];walk_at "dx";refine aW (by lia) (by lia) λf a2 b2 k10 k11=>?_;walk_at "dx";refine aW (by lia) (by lia) λO a3 b3 T U=>?_;walk_at "dx";refine aW (by lia) (by lia) λk3 a4 b4 k30 k31=>?_;walk_at "dx";split;refine aW (by lia) (by lia) λk4 a5 b5 B C=>?_;walk_at "dx";obtain⟨z,p,q,r,e,V,es,W,X,Y⟩:=dL2 B C;rw[e,es];refine⟨by decide,a8b (slice_le _ _ _) (by decide),V,?_⟩;walk_at "dx";simp only[jF,len1];refine⟨by decide,by decide,by decide,by decide,by decide,by decide,by decide,by decide,by decide,?_⟩;have tp:=tx1 W;have tq:=tx1 X;have tr:=tx1 Y;have l1:∀ {c:Nat},c < 128->Str.length ⟨#[c]⟩<=1/\As ⟨#[c]⟩:=λh=>⟨a6a 1,aI0 h⟩;have Z:∀ {x:Str} {n:Nat},n<=100->x.length<=n/\As x->Tx x:=λhn h=>⟨a8b h.1 hn,h.2⟩;refine k [⟨#[p]⟩,⟨#[p]⟩++⟨#[q]⟩,⟨#[q]⟩,⟨#[q]⟩++⟨#[r]⟩,⟨#[r]⟩,⟨#[p]⟩++⟨#[r]⟩] _ _ rfl ⟨?_,_,_,_,rfl,λz=>absurd (a3H Str.length z) (by rw[jF,len1,len1];decide)⟩;intro z u;simp only[List.mem_cons,List.not_mem_nil,or_false]at u;rcases u with rfl | rfl | rfl | rfl | rfl | rfl;exact tp;exact Z (by decide) (aI1 (l1 W) (l1 X));exact tq;exact Z (by decide) (aI1 (l1 X) (l1 Y));exact tr;exact Z (by decide) (aI1 (l1 W) (l1 Y));refine⟨a2d _,?_⟩;refine nR (λi τ=>i<=6/\∃ (ys:List Str) (H o2:Option Sl),((H=none/\o2=none)\/∃ d e,H=some ⟨.val,d⟩/\o2=some ⟨.val,e⟩)/\ys.length=i/\((∀ y∈ys,Tx y)/\(∀ (j:Nat) y,ys[j]? = some y->∃ c t,y=Txt.slice x none (some f)++⟨#[c]⟩++Txt.slice x (some f) none++t/\atI (Str.ofString "abcdefghijklmnopqrstuvwxyz").cps.toList ((O+5*(0+(j:Int))) % 26)=some c))/\τ=[some ⟨.par,.lst [.int a4,.int b4]⟩,some ⟨.val,.int 6⟩,some ⟨.val,.str "abcdefghijklmnopqrstuvwxyz"⟩,some ⟨.val,.str x⟩,some ⟨.val,.int f⟩,some ⟨.val,.int O⟩,some ⟨.val,.int k3⟩,none,none,none,none,some ⟨.own,.lst (ys.map D.str)⟩,H,o2,none]) ⟨by lia,[],none,none,.inl ⟨rfl,rfl⟩,rfl,⟨by simp,by simp⟩,rfl⟩ ?_ ?_
 ·rintro i d τ hd ⟨_,ys,H,o2,ho,s,⟨g,o⟩,rfl⟩;obtain⟨hi,rfl⟩:=jQ hd;obtain⟨c,L,M⟩:=bC2 (e:=(O+5*(0+(i:Int))) % 26) (a8h _ (by decide)) (a1g _ (by decide));have l1:=slice_le x none (some f);have l2:=slice_le x (some f) none;have g1:=pR (z:=x) N none (some f);have g2:=pR (z:=x) N (some f) none;have sl:100<=sizeLine:=by decide
  have done:∀ (w:Str) (t:Str) ,(w.length<=20/\As w)->(t.length<=1/\As t)->Tx (w++t):=λw t hw ht=>by
   have:=aI1 hw ht;exact⟨by lia,this.2⟩
  have v:∀ t:Str,∀ (j:Nat) y,(ys++[Txt.slice x none (some f)++⟨#[c]⟩++Txt.slice x (some f) none++t])[j]? = some y->∃ c t,y=Txt.slice x none (some f)++⟨#[c]⟩++Txt.slice x (some f) none++t/\atI (Str.ofString "abcdefghijklmnopqrstuvwxyz").cps.toList ((O+5*(0+(j:Int))) % 26)=some c:=λt j y h=>by
   rcases Nat.lt_or_ge j ys.length with l | l;rw[a9f l]at h;exact o j y h;rw[a7f l]at h;have hj:j=i:=by
    have:=(a3a.mp h).1;simp only[List.length_cons,List.length_nil]at this;lia
   subst hj;rw[s,Nat.sub_self]at h;cases h;exact⟨c,t,rfl,L⟩
  rcases ho with⟨rfl,rfl⟩ | ⟨d,e,rfl,rfl⟩
  all_goals
   walk_at "dx";rw[L];walk_at "dx";have z1:=dD4 (zm2 ((0+(i:Int)) % 2=1));have z0:=dD4 (m:=0) (.inl rfl);have zi:=zm2 ((0+(i:Int)) % 2=1);have I:(Txt.slice x none (some f)++⟨#[c]⟩++Txt.slice x (some f) none).length<=20/\As (Txt.slice x none (some f)++⟨#[c]⟩++Txt.slice x (some f) none):=by
    refine⟨?_,bC0 (bC0 g1 (aI0 M)) g2⟩;rw[jF,jF,len1];lia
   simp only[jF,len1]at I ⊢;revert zi z1;generalize (if(0+(i:Int)) % 2=1 then(1:Int)else 0)=zz;intro z1 zi;refine⟨by lia,by decide,by lia,by lia,by lia,?_⟩;have J:(List.map D.str ys).length < sizeLine:=by rw[a1a];lia
   split;refine⟨⟨by decide,by lia,by lia⟩,by lia,J,_,.inl rfl,by lia,ys++[_],_,_,.inr ⟨_,_,rfl,rfl⟩,by rw[a6b,s];rfl,⟨?_,v _⟩,by rw[a1d];rfl⟩;intro y h;rcases a0c.mp h with h | h;exact g y h;rw[a3b]at h;subst h;exact done _ _ ⟨by simp only[jF,len1];exact I.1,I.2⟩ z1;refine⟨by decide,by lia,J,_,.inl rfl,by lia,ys++[_],_,_,.inr ⟨_,_,rfl,rfl⟩,by rw[a6b,s];rfl,⟨?_,v _⟩,by rw[a1d];rfl⟩;intro y h;rcases a0c.mp h with h | h;exact g y h;rw[a3b]at h;subst h;exact done _ _ ⟨by simp only[jF,len1];exact I.1,I.2⟩ z0
 ·rintro τ ⟨_,ys,H,o2,ho,s,⟨g,o⟩,rfl⟩;rw[gX]at s;have E:Ne2 ys:=by
   match ys,s,o with
   | y0::y1::r,_,o=>
     obtain⟨c0,t0,P,f0⟩:=o 0 y0 rfl;obtain⟨M,t1,Q,f1⟩:=o 1 y1 rfl;exact⟨y0,y1,r,rfl,by rw[P,Q];exact dD5 (cJ9 T U f0 f1)⟩
  have hya:∀ z∈ys,As z:=λz h=>(g z h).2;rcases ho with⟨rfl,rfl⟩ | ⟨d,e,rfl,rfl⟩
  all_goals
   walk_at "dx";refine⟨by decide,by decide,by decide,aW (by lia) (by lia) λk4 a5 b5 B C=>?_⟩;obtain⟨w,hw,tw⟩:=bN3 B C;walk_at "dx";rw[hw];walk_at "dx";refine aW (by lia) (by lia) λk5 a6 b6 k50 k51=>?_;walk_at "dx";split
   ·refine bX2 tw.2 hya ?_;walk_at "dx";split;rename_i hin;refine aW (by lia) (by lia) λk6 a7 b7 k60 k61=>?_;walk_at "dx";refine dD3 k60 (by rw[a1a,s];lia) λj hj=>?_;rw[aB9];refine k _ _ _ (by rw[a5f,s]) ⟨λz u=>?_,cK0 E (by simpa using hin) _⟩;rcases List.mem_or_eq_of_mem_set u with h | h;exact g z h;exact h ▸ tw;exact k _ _ _ s ⟨g,E⟩
   ·exact k _ _ _ s ⟨g,E⟩
def aN0{K:W.Frag}(vs:List V)(H:Hp)(Q:L2.VK)(E:XK)(h:mP K vs H Q E):dsp 2 eU vs H Q E:=by
 obtain⟨p,m,rfl,⟨i,j,q⟩,rfl,_,k⟩:=h;have r:=bN4 (a:=i) (b:=j) (K:=λres as'=>∃ c d f,c.length=6/\((∀ z∈c,Tx z)/\Ne2 c)/\res=.own (.lst (c.map D.str))/\as'=[⟨.par,.lst [.int d,.int f]⟩,⟨.val,.int 6⟩]) λc d f g l=>⟨c,d,f,g,l,rfl,rfl⟩;obtain⟨⟨res,as'⟩,e,c,d,f,g,l,s,t⟩:=oH.mp r;cases s;cases t;refine⟨_,_,_,cJ6 q,rfl,e,λv H' po u=>?_⟩;obtain⟨r,rfl,w,xs,o,n⟩:=u;rw[n.strs_inv]at o;obtain⟨x,y⟩:=bN2 po;exact k r c H' w o (by rw[g];rfl) l x y
open Sx
theorem tT{l:List D}{K:List D->Prop}:OK1 (wY (.tup l)) K=K l:=rfl
theorem bX3{l:List D}{K:List D->Prop}:OK1 (wY (.lst l)) K=K l:=rfl
theorem bX4{l:List D}{K:List D->Prop}:OK1 (dK8 (.tup l)) K=K l:=rfl
theorem tU{i:Nat}{σ:Sg}:bF [i] σ=σ.set i none:=rfl
theorem dD6{i j:Int}{K:Res->Prop}:OK1 (eqD true (.int i) (.int j)) K=K (.val (.bl (!decide (i=j)))):=by
 have h:OK1 (eqD false (.int i) (.int j)) (λr=>r=.val (.bl (decide (i=j)))):=by rw[aL4]
 unfold eqD at h ⊢;split at h
 ·rename_i a;rw[a3p a];have h':Res.val (.bl (if false=true then !rX (.int i) (.int j)else rX (.int i) (.int j)))=.val (.bl (decide (i=j))):=h;have e:rX (.int i) (.int j)=decide (i=j):=by simpa using h'
  show K (.val (.bl (if true=true then !rX (.int i) (.int j)else rX (.int i) (.int j))))=_;rw[a3p rfl,e]
 ·exact h.elim
noncomputable def ov(b:Bool)(d:D):Option Sl:=if b=true then some ⟨.val,d⟩else none
theorem yL{b:Bool}{d:D}{r:Sg}{s:Sl}{K:Sg->Prop}:Dv.PK 0 (ov b d::r) s K=K (some s::r):=by cases b<;>rfl
theorem cK1{l m:List D}{K:D×D->Prop}:OK1 (cM4 (.lst l) [.lst m]) K=(l.length+m.length<=sizeLine/\K (.lst (l++m),.non)):=by
 unfold cM4;dsimp only[cM2];show OK1 (if _ then _ else none) K=_;rw[aZ];rfl
theorem dD7{b:MS}{Q:Out->Prop}{σ:Sg}:sqM b Q (.nx σ)=b σ Q:=rfl
theorem bC3{σ:Sg}{c f:Str}{a:DE}{K:Out->Prop}:RS (nM c f a) σ K=RE a σ λx σ1=>OK1 (match x with | .val (.str n)=>some n | _=>none) λn=>cM0 n/\K (.ex c (some (f,.str n)) σ1):=by
 unfold RS RE nM;simp only[aH];congr 1;funext x;obtain⟨x,σ1⟩:=x;cases x with
 | val d=>
   cases d with
   | str n=>exact @aZ _ (cM0 n) (Classical.propDecidable _) _ _
   | _=>rfl
 | _=>rfl
theorem cK2{b:Bool}{K:Bool->Prop}:OK1 (dJ0 (.bl b)) K=K b:=rfl
noncomputable def wo(o:Option (List D)):Option Sl:=o.map λl=>⟨.own,.lst l⟩
theorem dD8{o:Option (List D)}{r:Sg}{s:Sl}{K:Sg->Prop}:Dv.PK 0 (wo o::r) s K=K (some s::r):=by cases o<;>rfl
local macro_rules | `(tactic| walk_at "dx")=>do
 let l:=("cK1 yL jU jV jW xG lV lW lX aF2 xI aF3 lY lZ gU iW iX qN qO xK oJ jX mB zW mD oM aF4 mE jY cF7 aW6 aW7 aW8 aW9 xL qS jO nK nQ zX fO tT aS aX1 bU7 bU8 reduceIte".splitOn " ").toArray.map fun s=>Lean.mkIdent s.toName
 let m:=("aB7 tU List.getElem?_cons_succ List.getElem?_cons_zero Option.getD_some Int.reducePow Int.reduceNeg Int.reduceLT Int.reduceLE Nat.reducePow Nat.reduceLT Int.reduceToNat Nat.reduceLeDiff aG1 rA aL5 rB iZ jA List.set_cons_zero List.set_cons_succ List.length_cons List.length_nil Nat.reduceAdd Nat.zero_add true_and and_true and_self Bool.false_eq_true Bool.true_and Bool.and_true".splitOn " ").toArray.map fun s=>Lean.mkIdent s.toName
 `(tactic| simp only[$[↓$l:ident],*,$[$m:ident],*])
def nV{a:Type}(f:a->D)(l:List a)(lo hi:Option Int):∃ l':List a,oF (l.map f) lo hi=l'.map f/\l'.length<=l.length/\∀ z∈l',z∈l:=by
 refine⟨(l.drop (HT.sIx (l.map f).length 0 lo)).take (HT.sIx (l.map f).length (l.map f).length hi-HT.sIx (l.map f).length 0 lo),?_,?_,λz b=>List.mem_of_mem_drop (a3e b)⟩;unfold oF;rw[a2k,List.map_drop];rw[a7d,a0h];lia
def aI2{a:Type}(f:a->D){l:List a}{i:Int}(h0:0<=i)(d:i < (l.length:Int)):∃ c,atI (l.map f) i=some (f c)/\c∈l:=by
 obtain⟨c,b⟩:=lD (ys:=l) h0 d;exact⟨c,by rw[nB,b];rfl,iM b⟩
def vP(l:List D)(a b:Option Int):(oF l a b).length<=l.length:=by
 unfold oF;rw[a7d,a0h];lia
def bC4{r:DT}{σ:Sg}{Q a:Bool->Sg->Prop}(h:RT r σ Q)(w:∀ b c,Q b c->a b c):RT r σ a:=bI h λx=>w x.1 x.2
def bC5{r:DE}{σ:Sg}{Q a:Res->Sg->Prop}(h:RE r σ Q)(w:∀ b c,Q b c->a b c):RE r σ a:=bI h λx=>w x.1 x.2
def rW{m:Type}{g:D->Sg->Option Sg}{ow:List Nat}{t:DT}{e:DE}{K:List D×Sg->Prop}(f:m->D)(u:m->D)(xs:List m){a:Sg}(l:Sg)(q:a=l)
  (hs:∀ x∈xs,OK1 (g (u x) l) λc=>RT t c λb h=>b=true/\RE e h λr j=>r=.val (f x)/\bF ow j=l) (k:K (xs.map f,l)):OK1 (yA ow g t e (xs.map u) a) K:=by
 subst q;refine fD _ _ (λi acc τ'=>acc=(xs.take i).map f/\τ'=a) ⟨rfl,rfl⟩ ?_ ?_;rintro i d acc τ' hd ⟨rfl,rfl⟩;rw[a4b]at hd;obtain⟨x,o,rfl⟩:=a5c.mp hd;refine bI (hs x (a9b o)) λc s=>bC4 s λb h n=>?_;obtain⟨rfl,n⟩:=n;rw[a3p rfl];refine bC5 n λr j p=>?_;exact⟨_,p.1,by rw[a7j,o,a1d];rfl,p.2⟩;rintro acc τ' ⟨rfl,rfl⟩;rw[a1a,List.take_length];exact k
def yM{n:Type}{g:D->Sg->Option Sg}{ow:List Nat}{t:DT}{e:DE}{K:List D×Sg->Prop}(p:n->Bool)(f:n->D)(u:n->D)(xs:List n){a:Sg}(j:Sg)(o:a=j)
  (hs:∀ x∈xs,OK1 (g (u x) j) λl=>RT t l λb c=>b=p x/\bF ow c=j/\RE e c λr m=>r=.val (f x)/\bF ow m=j) (k:K ((xs.filter p).map f,j)):OK1 (yA ow g t e (xs.map u) a) K:=by
 subst o;refine fD _ _ (λi acc τ'=>acc=((xs.take i).filter p).map f/\τ'=a) ⟨rfl,rfl⟩ ?_ ?_
 ·rintro i d acc τ' hd ⟨rfl,rfl⟩;rw[a4b]at hd;obtain⟨x,v,rfl⟩:=a5c.mp hd;refine bI (hs x (a9b v)) λl y=>bC4 y λb c s=>?_;obtain⟨rfl,s,z⟩:=s;have o:(xs.take (i+1)).filter p=(xs.take i).filter p++(if p x=true then[x]else[]):=by
   rw[a7j,v,List.filter_append];cases h:p x<;>simp[h]
  by_cases q:p x=true;rw[a3p q];refine bC5 z λr m w=>?_;exact⟨_,w.1,by rw[o,a3p q,a1d];rfl,w.2⟩;rw[a3q q];exact⟨by rw[o,a3q q,a4f],s⟩
 ·rintro acc τ' ⟨rfl,rfl⟩;rw[a1a,List.take_length];exact k
def kR{a:Type}{f:a->D}{l:List a}{i:Nat}{d:D}(h:(l.map f)[i]? = some d):∃ y,l[i]? = some y/\d=f y:=by
 rw[a4b]at h;obtain⟨y,e,rfl⟩:=a5c.mp h;exact⟨y,e,rfl⟩
def yN{a:Type}{l:List a}{i:Nat}{y:a}(h:l[i]? = some y):l.take i++[y]=l.take (i+1):=by
 rw[a7j,h];rfl
def dD9{c:Type}(f:c->D)(p:c->Bool)(l:List c){ow:List Nat}{g:DG}{e:DE}{K:List D×Sg->Prop}{a:Sg}
  (hs:∀ y∈l,OK1 (g (f y) a) λb=>RE e b λr j=>r=.val (.bl (p y))/\bF ow j=a) (k:K ((l.map p).map D.bl,a)):OK1 (yA ow g lT e (l.map f) a) K:=by
 refine fD _ _ (λi acc τ'=>acc=((l.take i).map p).map D.bl/\τ'=a) ⟨rfl,rfl⟩ ?_ ?_;rintro i d acc τ' hd ⟨rfl,rfl⟩;obtain⟨y,m,rfl⟩:=kR hd;refine bI (hs y (a9b m)) λb h=>?_;rw[qM,a3p rfl];refine bI h λr n=>⟨_,n.1,?_,n.2⟩;rw[← yN m,a1d,a1d];rfl;rintro acc τ' ⟨rfl,rfl⟩;rw[a1a,List.take_length];exact k
def dE0{a:Type}(p:a->Bool)(l:List a):(l.map p).all id=l.all p:=by rw[List.all_map];rfl
noncomputable def dA(qs:List (Str×List Str)):List Str:=qs.foldl (λacc q=>acc++q.2.filter λc=>!acc.contains c) []
def aN1(qs:List (Str×List Str))(q:Str×List Str):dA (qs++[q])=dA qs++q.2.filter λc=>!(dA qs).contains c:=by
 unfold dA;rw[List.foldl_append];rfl
def Qn(qs:List (Str×List Str)):Prop:=qs.length<=100/\∀ q∈qs,Tx q.1/\q.2.length<=100/\∀ z∈q.2,Tx z
def bC6{qs:List (Str×List Str)}{z:Str}(h:z∈dA qs):∃ q∈qs,z∈q.2:=by
 have a:∀ (l:List (Str×List Str)) (acc:List Str),z∈l.foldl (λacc q=>acc++q.2.filter λc=>!acc.contains c) acc->z∈acc\/∃ q∈l,z∈q.2:=by
  intro l
  induction l with
  | nil=>intro acc h;exact .inl h
  | cons q r b=>
    intro acc h;rcases b _ h with h | ⟨d,e,f⟩;rcases a0c.mp h with h | h;exact .inl h;exact .inr ⟨q,a4a,(List.mem_filter.mp h).1⟩;exact .inr ⟨d,a8a _ e,f⟩
 rcases a qs [] h with h | h;cases h;exact h
def yO{qs:List (Str×List Str)}{n:Nat}(h:∀ q∈qs,q.2.length<=n):(dA qs).length<=qs.length*n:=by
 have a:∀ (l:List (Str×List Str)) (acc:List Str),(∀ q∈l,q.2.length<=n)->(l.foldl (λacc q=>acc++q.2.filter λc=>!acc.contains c) acc).length<=acc.length+l.length*n:=by
  intro l
  induction l with
  | nil=>intro acc _;simp
  | cons q r b=>
    intro acc h;have d:=b (acc++q.2.filter λc=>!acc.contains c) λx e=>h x (a8a _ e);have f:=h q a4a;have g:=List.length_filter_le (λc=>!acc.contains c) q.2;rw[a6b]at d;rw[List.foldl_cons,a1h,Nat.succ_mul];lia
 have:=a qs [] h;rw[a5j,a3g]at this;exact this
def aN2{a:Type}{l:List a}{i:Nat}{y:a}(h:l[i]? = some y):l.take (i+1)=l.take i++[y]:=(yN h).symm
def aC0{qs:List (Str×List Str)}(l:Qn qs){Q:Out->Prop}(k:∀ b e f g,Q (.nx [some ⟨.val,qD qs⟩,some ⟨.own,.lst ((dA qs).map D.str)⟩,ov b f,ov e g,none])) :
  OK1 (bL3 (oZ 2 (cP (dgN 2) (cP (dgN 3) oY))) (uW (zP "list" 1 cM4 (aB (fT [4] (dIt (aG 3)) (dgN 4) (dR (aO (inD true) (aG 4) (aG 1))) (dFz (aG 4))) aQ))) (qs.map qP) [some ⟨.val,qD qs⟩,some ⟨.own,.lst []⟩,none,none,none]) Q:=by
 have sl:20000<=sizeLine:=by decide
 have s:∀ i,∀ z∈dA (qs.take i),As z:=λi z t=>by
  obtain⟨q,m,o⟩:=bC6 t;exact((l.2 q (a3e m)).2.2 z o).2
 have u:∀ i,(dA (qs.take i)).length<=10000:=λi=>by
  have m:=yO (qs:=qs.take i) (n:=100) λq h=>(l.2 q (a3e h)).2.1;have o:=l.1;have r:(qs.take i).length<=100:=by rw[a7d];lia
  have w:=Nat.mul_le_mul_right 100 r;lia
 refine nR (λi p=>∃ b e f g,p=[_,some ⟨.own,.lst ((dA (qs.take i)).map D.str)⟩,ov b f,ov e g,none]) ⟨false,false,.non,.non,rfl⟩ ?_ ?_
 ·rintro i d p hd ⟨b,e,f,g,rfl⟩;obtain⟨q,j,rfl⟩:=kR hd;have a:=l.2 q (a9b j);walk_at "dx";refine⟨a8b (by rw[a1a];exact a.2.1) (by decide),yM (λc=>!(dA (qs.take i)).contains c) D.str D.str q.2 [_,_,_,_,none] rfl (λc v=>?_) ?_⟩;walk_at "dx";refine bX2 (a.2.2 c v).2 (s i) ?_;walk_at "dx";walk_at "dx";refine⟨by
   rw[a1a,a1a];have m:=u i;have o:=List.length_filter_le (λc=>!(dA (qs.take i)).contains c) q.2;have r:=a.2.1;lia,_,.inl rfl,true,true,.str q.1,.tup (q.2.map D.str),?_⟩
  rw[aN2 j,aN1,a1d];rfl
 ·rintro p ⟨b,e,f,g,rfl⟩;rw[a1a,List.take_length];exact k b e f g
def aC1{qs:List (Str×List Str)}(a:Qn qs){K:Res->List Sl->Prop}(k:K (.own (.lst ((dA qs).map D.str))) [⟨.val,qD qs⟩]):CK cG [⟨.val,qD qs⟩] K:=by
 unfold cG;rw[fJ];show RS cR [_,none,none,none,none] _;unfold cR;walk_at "dx";refine⟨a2d _,aC0 a λb c d e=>?_⟩;walk_at "dx";exact k
local macro_rules | `(tactic| walk_at "dx")=>do
 let l:=("bU3 jU jV jW lV aW2 lW lX lY aW3 aW4 vC cF5 bK1 lZ gU iW iX xJ xK oJ iY jX mB qQ mD oK mE qR jY xL qS jO nK kP qW qX qY nQ zX fO bW9 aY0 aF9 dK2 bK2 aX3 vD aL4 dA3 tT bX4 dA4 aS qT qU kQ reduceIte".splitOn " ").toArray.map fun s=>Lean.mkIdent s.toName
 let m:=("aB7 tU List.getElem?_cons_succ List.getElem?_cons_zero Option.getD_some Int.reducePow Int.reduceNeg Int.reduceLT Int.reduceLE Nat.reducePow Nat.reduceLT Int.reduceToNat Nat.reduceLeDiff rA aL5 rB iZ jA List.set_cons_zero List.set_cons_succ cM List.length_cons List.length_nil Nat.reduceAdd Nat.zero_add true_and and_self Bool.not_false Bool.not_true Bool.false_eq_true Bool.true_and decide_eq_true_eq".splitOn " ").toArray.map fun s=>Lean.mkIdent s.toName
 `(tactic| simp only[$[↓$l:ident],*,$[$m:ident],*])
noncomputable def bN5(v:Int):Bool:=decide (0<=v/\v<=999)
def bN6{v:Int}{K:Res->List Sl->Prop}(k:K (.val (.bl (bN5 v))) [⟨.val,.int v⟩]):CK eL [⟨.val,.int v⟩] K:=by
 unfold eL;rw[fJ];show RS fF [_] _;unfold fF;have a:bN5 v=decide (0<=v/\v<=999):=rfl;walk_at "dx";simp only[show nD "int" "int"=true from rfl,show nD "int" "bool"=false from rfl,Bool.not_false,↓reduceIte];split
 ·rename_i h;have:decide (v<=999)=bN5 v:=by rw[a];exact decide_eq_decide.mpr ⟨λg=>⟨h,g⟩,λg=>g.2⟩
  rw[this];exact k
 ·rw[a,a3r (by lia)]at k;exact k
noncomputable def cK3(w:Nat)(r:List Int):Bool:=decide (r.length=w)&&r.all bN5
def dE1{w:Nat}{r:List Int}(c:r.length<=5000){K:Res->List Sl->Prop}(k:K (.val (.bl (cK3 w r))) [⟨.val,.int w⟩,⟨.val,tI r⟩]):CK gJ [⟨.val,.int w⟩,⟨.val,tI r⟩] K:=by
 unfold gJ;rw[fJ];show RS jE [_,_,none] _;unfold jE;have sl:10000<=sizeLine:=by decide
 have b:(r.map D.int).length=r.length:=a1a _;have a:cK3 w r=(decide (r.length=w)&&r.all bN5):=rfl;walk_at "dx";rw[b];split;rename_i h;rw[a,a3v (by lia),Bool.true_and]at k;refine⟨by lia,dD9 D.int bN5 r (λy d=>?_) ?_⟩;walk_at "dx";refine bN6 ?_;walk_at "dx";walk_at "dx";rw[dE0];exact k;rename_i h;rw[a,a3r (by lia),Bool.false_and]at k;exact k
noncomputable def mQ(w:Nat)(ks:List (List Int))(i:Nat):Bool:=!cK3 w (ks.getD i [])||(decide (0 < i) && !tlt (ks.getD (i-1) []) (ks.getD i []))
def Fw(w:Nat)(ks:List (List Int)):Option Nat->Prop
 | none=>∀ i,i < ks.length->mQ w ks i=false
 | some i=>i < ks.length/\mQ w ks i=true/\∀ j,j < i->mQ w ks j=false
def dE2{w:Nat}{ks:List (List Int)}:∀ {o p:Option Nat},Fw w ks o->Fw w ks p->o=p
 | none,none,_,_=>rfl
 | none,some j,h,g=>by have:=h j g.1;rw[g.2.1]at this;cases this
 | some i,none,g,h=>by have:=h i g.1;rw[g.2.1]at this;cases this
 | some i,some j,g,h=>by
   rcases Nat.lt_trichotomy i j with l | l | l;have:=h.2.2 i l;rw[g.2.1]at this;cases this;rw[l];have:=g.2.2 j l;rw[h.2.1]at this;cases this
noncomputable def ofO:Option Nat->D
 | none=>.non
 | some i=>.int i
def bC7{ks:List (List Int)}{i:Nat}{y:List Int}(h:ks[i]? = some y):ks.getD i []=y:=by rw[a8c,h];rfl
def mZ{a:Type}{l:List a}{j:Nat}(h:j < l.length):atI l (j:Int)=l[j]?:=by
 unfold atI;have e:ixN l.length (j:Int)=some j:=by
  unfold ixN;rw[a3p (by lia),a3p (by lia)];simp
 rw[e];rfl
def bC8{ks:List (List Int)}{i:Nat}(h0:0 < i)(h:i < ks.length):atI (ks.map tI) ((i:Int)-1)=some (tI (ks.getD (i-1) [])):=by
 have e:(i:Int)-1=((i-1:Nat):Int):=by lia
 rw[e,mZ (by rw[a1a];lia),a4b,a8c,a0a (by lia)];rfl
def bN7{w:Nat}{ks:List (List Int)}(x:ks.length<=5000)(t:∀ k∈ks,k.length<=5000){K:Res->List Sl->Prop}(k:∀ o,Fw w ks o->K (.val (ofO o)) [⟨.val,.int w⟩,⟨.val,.tup (ks.map tI)⟩]) :
  CK bJ [⟨.val,.int w⟩,⟨.val,.tup (ks.map tI)⟩] K:=by
 unfold bJ;rw[fJ];show RS bN [_,_,none,none] _;unfold bN;walk_at "dx";refine aA8 (λi τ=>(∀ j,j < i->mQ w ks j=false)/\∃ f o2:Option Sl,((f=none/\o2=none)\/∃ d e,f=some ⟨.val,d⟩/\o2=some ⟨.val,e⟩)/\τ=[some ⟨.val,.int w⟩,some ⟨.val,.tup (ks.map tI)⟩,f,o2]) ⟨λj h=>absurd h (a6e j),none,none,.inl ⟨rfl,rfl⟩,rfl⟩ ?_ ?_
 ·rintro i d τ hd ⟨c,f,o2,s,rfl⟩;obtain⟨z,p,rfl⟩:=dJ hd;obtain⟨y,q,rfl⟩:=kR p;have r:=a9b q;have a:i < ks.length:=(a3a.mp q).1;have u:=bC7 q;rcases s with⟨rfl,rfl⟩ | ⟨d,e,rfl,rfl⟩
  all_goals
   walk_at "dx";refine dE1 (t y r) ?_;have m:mQ w ks i=(!cK3 w y||(decide (0 < i) && !tlt (ks.getD (i-1) []) y)):=by unfold mQ;rw[u]
   have g:mQ w ks i=false->∀ j,j < i+1->mQ w ks j=false:=λh j v=>by
    rcases a2j (a0g v)with l | rfl;exact c j l;exact h
   walk_at "dx";split;rename_i h;exact .inr (.inl ⟨_,_,rfl,k (some i) ⟨a,by rw[m,h,Bool.true_or],c⟩⟩);rename_i h;rw[Bool.not_eq_true]at h;split
   ·rename_i h0;have b:0 < i:=by lia
    rw[bC8 b a];walk_at "dx";split;rename_i n;exact .inr (.inl ⟨_,_,rfl,k (some i) ⟨a,by rw[m,h,n,a3v b];rfl,c⟩⟩);rename_i n;rw[Bool.not_eq_true]at n;exact .inl ⟨_,.inl rfl,g (by rw[m,h,n,a3v b];rfl),_,_,.inr ⟨_,_,rfl,rfl⟩,rfl⟩
   ·rename_i h0;exact .inl ⟨_,.inl rfl,g (by rw[m,h,a3r (by lia)];rfl),_,_,.inr ⟨_,_,rfl,rfl⟩,rfl⟩
 ·rintro τ ⟨c,f,o2,s,rfl⟩;rw[cE,a1a]at c;exact k none c
def cK4:isD true .non .non=some (.val (.bl false)):=by unfold isD;simp
def cK5(i:Int):isD true (.int i) .non=some (.val (.bl true)):=by unfold isD;simp
def cK6:isD false .non .non=some (.val (.bl true)):=by unfold isD;simp
def cK7:isD false (.bl true) (.bl true)=some (.val (.bl true)):=by unfold isD;simp
theorem yP:∀ (bs:List Bool),eQ (.lst (bs.map D.bl))=true
 | []=>rfl
 | b::r=>aH8 _ _ rfl (yP r) (by show PyData.depth (.bool b)<=59;simp[PyData.depth])
theorem dE3(b:Bool):rX (.bl b) (.bl true)=b:=by cases b<;>rfl
def dE4{bs:List Bool}{K:Res->Prop}:OK1 (inD false (.bl true) (.lst (bs.map D.bl))) K=K (.val (.bl (bs.any id))):=by
 show OK1 (if eQ (.bl true)=true/\eQ (.lst (bs.map D.bl))=true then some (.val (.bl ((bs.map D.bl).any λy=>rX y (.bl true))))else none) K=_;rw[a3p ⟨rfl,yP bs⟩,List.any_map];show K (.val (.bl (bs.any λb=>rX (.bl b) (.bl true))))=_;simp only[dE3];rfl
def bN8{g:DG}{b:DS}{items:List D}{σ:Sg}(P:Nat->Sg->Prop){K:Out->Prop}(h0:P 0 σ)(hs:∀ i d σ,items[i]? = some d->P i σ->OK1 (g d σ) λσ1=>RS b σ1 λo=>(∃ a,(o=.nx a\/o=.ct a)/\P (i+1) a)\/(∃ x a,o=.rt x a/\K (.rt x a))\/(∃ c f a,o=.ex c f a/\K (.ex c f a)))(k:∀ σ',P items.length σ'->K (.nx σ')):OK1 (bL3 g b items σ) K:=by
 unfold bL3
 induction items generalizing P σ with
 | nil=>exact k σ h0
 | cons d r m=>
   show OK1 ((g d σ).bind _) K;rw[aH];refine bI (hs 0 d σ rfl h0) λσ1 n=>?_;show OK1 ((b σ1).bind _) K;rw[aH];refine bI n λo j=>?_;rcases j with⟨a,j | j,l⟩ | ⟨x,a,j,l⟩ | ⟨c,f,a,j,l⟩;subst j;exact m (λi=>P (i+1)) l (λi d σ e=>hs (i+1) d σ (by simpa using e)) (λσ' h=>k σ' (by simpa using h));subst j;exact m (λi=>P (i+1)) l (λi d σ e=>hs (i+1) d σ (by simpa using e)) (λσ' h=>k σ' (by simpa using h));subst j;exact l;subst j;exact l
def dQ5(as:List Sl)(K:RX->List Sl->Prop):Out->Prop
 | .nx σ=>K (.ok (.val .non)) (nG as σ)
 | .rt r σ=>OK1 (aU5 σ r) λa=>K (.ok a) (nG as σ)
 | .ex c f σ=>K (.ex c f) (nG as σ)
 | _=>False
def cK8{len:Nat}{b:DS}{as:List Sl}{K:RX×List Sl->Prop}:OK1 (dG0 len b as) K=RS b (ini len as) (dQ5 as λx y=>K (x,y)):=by
 unfold RS dG0;rw[aH];congr 1;funext o;cases o with
 | rt x s=>show OK1 ((aU5 s x).bind _) _=OK1 (aU5 s x) _;rw[aH];rfl
 | _=>rfl
theorem bC9(p:Int->Bool):∀ (y:List Int),(y.map λv=>!p v).any id = !y.all p
 | []=>rfl
 | v::r=>by
   have a:=bC9 p r;simp only[List.map_cons,List.any_cons,List.all_cons,a,Bool.not_and,id]
local macro_rules | `(tactic| walk_at "dx")=>do
 let l:=("bC3 yL bU3 jU jV jW lV lW lX lY aW3 cY2 aW4 cY3 lZ gU iW iX qN tH xJ qO iY jX mB qQ mD oK mE jY xL qS jO nK kP qW qX qY nQ zX fO bB2 bW9 aY0 aF9 bK2 dA0 tK aX3 vD zZ dD6 tT bX4 aS bV8 aX6 qT qU kQ reduceIte".splitOn " ").toArray.map fun s=>Lean.mkIdent s.toName
 let m:=("aB7 tU List.getElem?_cons_succ List.getElem?_cons_zero Option.getD_some Int.reducePow Int.reduceNeg Int.reduceLT Int.reduceLE Nat.reducePow Nat.reduceLT Int.reduceToNat Nat.reduceLeDiff rA aL5 rB iZ jA List.set_cons_zero List.set_cons_succ cM aE8 List.length_cons List.length_nil Nat.reduceAdd Nat.zero_add true_and and_true and_self Bool.not_false Bool.not_true Bool.false_eq_true Bool.true_and Bool.and_true decide_eq_true_eq".splitOn " ").toArray.map fun s=>Lean.mkIdent s.toName
 `(tactic| simp only[$[↓$l:ident],*,$[$m:ident],*])
noncomputable abbrev hT(ks:List (List Int)):D:=.tup (ks.map tI)
noncomputable abbrev hD(hs:List (List (List Int))):D:=.tup (hs.map hT)
def cK9(z:Str):isD false (.str z) .non=some (.val (.bl false)):=by unfold isD;simp
def vQ{cs:List Str}{ks:List (List Int)}(N:ks.length<=900)(G:∀ k∈ks,k.length<=900){K:Res->List Sl->Prop}(k:∀ b:Bool,(b=true↔Fw cs.length ks none)->K (.val (.bl b)) [⟨.val,.tup (cs.map D.str)⟩,⟨.val,hT ks⟩]) :
  CK bO [⟨.val,.tup (cs.map D.str)⟩,⟨.val,hT ks⟩] K:=by
 unfold bO;rw[fJ];show RS bS [_,_,none,none,none] _;unfold bS;have H:(cs.map D.str).length=cs.length:=a1a _;have sl:10000<=sizeLine:=by decide
 walk_at "dx";refine aA8 (λi s=>(∀ j,j < i->mQ cs.length ks j=false)/\∃ t u w x,s=[_,_,ov t w,ov u x,none]) ⟨λj h=>absurd h (a6e j),false,false,.non,.non,rfl⟩ ?_ ?_
 ·rintro i d s hd ⟨p,t,u,w,x,rfl⟩;obtain⟨O,A,rfl⟩:=dJ hd;obtain⟨y,B,rfl⟩:=kR A;have g:i < ks.length:=(a3a.mp B).1;have I:=bC7 B;have J:=G y (a9b B);have L:(y.map D.int).length=y.length:=a1a _;walk_at "dx";rw[L,H];have m:mQ cs.length ks i=(!cK3 cs.length y||(decide (0 < i) && !tlt (ks.getD (i-1) []) y)):=by unfold mQ;rw[I]
  have C:cK3 cs.length y=(decide (y.length=cs.length)&&y.all bN5):=rfl;have n:mQ cs.length ks i=false->∀ j,j < i+1->mQ cs.length ks j=false:=λh j M=>by
   rcases a2j (a0g M)with l | rfl;exact p j l;exact h
  have ret:mQ cs.length ks i=true->K (.val (.bl false)) [⟨.val,.tup (cs.map D.str)⟩,⟨.val,hT ks⟩]:=λh=>k false (Iff.intro (λz=>Bool.noConfusion z) λz=>absurd (z i g) (by rw[h];decide));split
  ·rename_i q;have a:y.length≠cs.length:=λe=>by rw[e]at q;simp at q
   exact .inr (.inl ⟨_,_,rfl,ret (by rw[m,C,a3r a];rfl)⟩)
  ·rename_i q;have a:y.length=cs.length:=by
    have a:((y.length:Nat):Int)=cs.length:=by simpa using q
    lia
   refine⟨by lia,dD9 D.int (λv=>!bN5 v) y (λv P=>?_) ?_⟩;have E:bN5 v=decide (0<=v/\v<=999):=rfl;walk_at "dx";split;rename_i o;rw[E,a3r (by lia)];rfl;rename_i o;by_cases F:999 < v;rw[E,a3v F,a3r (by lia)];rfl;rw[E,a3r F,a3v (by lia)];rfl;walk_at "dx";rw[dE4];walk_at "dx";rw[bC9];split;rename_i o;exact .inr (.inl ⟨_,_,rfl,ret (by rw[m,C,a3v a,Bool.true_and,o,Bool.true_or])⟩);rename_i o;have c:cK3 cs.length y=true:=by rw[C,a3v a,Bool.true_and];simpa using o
   split
   ·rename_i h0;have f:0 < i:=by lia
    rw[bC8 f g];walk_at "dx";split;rename_i r;exact .inr (.inl ⟨_,_,rfl,ret (by rw[m,c,r,a3v f];rfl)⟩);rename_i r;rw[Bool.not_eq_true]at r;exact .inl ⟨_,.inl rfl,n (by rw[m,c,r,a3v f];rfl),true,true,_,_,rfl⟩
   ·rename_i h0;exact .inl ⟨_,.inl rfl,n (by rw[m,c,a3r (by lia)];rfl),true,true,_,_,rfl⟩
 ·rintro s ⟨p,t,u,w,x,rfl⟩;rw[cE,a1a]at p;walk_at "dx";exact k true ⟨λ_=>p,λ_=>rfl⟩
def Hn(hs:List (List (List Int))):Prop:=∀ ks∈hs,ks.length<=900/\∀ r∈ks,r.length<=900
def Wr(qs:List (Str×List Str))(hs:List (List (List Int)))(i:Nat):Prop:=¬ (i < hs.length/\Fw (qs.getD i ("",[])).2.length (hs.getD i []) none)
def Dh(qs:List (Str×List Str))(hs:List (List (List Int)))(d:Option Str):Prop:=(∃ i,i < qs.length/\Wr qs hs i/\(∀ j,j < i->¬ Wr qs hs j)/\d=some (qs.getD i ("",[])).1) \/
 ((∀ j,j < qs.length->¬ Wr qs hs j)/\d=if qs.length < hs.length then some (Str.ofString "")else none)
def bX5{qs:List (Str×List Str)}{hs:List (List (List Int))}{d e:Option Str}(h:Dh qs hs d)(g:Dh qs hs e):d=e:=by
 rcases h with⟨i,a,b,c,rfl⟩ | ⟨a,rfl⟩
 ·rcases g with⟨j,g1,g2,g3,rfl⟩ | ⟨g1,_⟩;rcases Nat.lt_trichotomy i j with l | rfl | l;exact absurd b (g3 i l);rfl;exact absurd g2 (c j l);exact absurd b (g1 i a)
 ·rcases g with⟨j,g1,g2,g3,rfl⟩ | ⟨_,rfl⟩;exact absurd g2 (a j g1);rfl
noncomputable def rx:Option Str->RX
 | none=>.ok (.val (.bl true))
 | some n=>.ex "BadHouse" (some ("table",.str n))
def dL3{qs:List (Str×List Str)}{i:Nat}{q:Str×List Str}(h:qs[i]? = some q):qs.getD i ("",[])=q:=by rw[a8c,h];rfl
def dO0{hs:List (List (List Int))}{i:Nat}(h:i < hs.length):∃ ks,ks∈hs/\hs.getD i []=ks/\atI (hs.map hT) (i:Int)=some (hT ks):=by
 refine⟨hs[i],List.getElem_mem h,by rw[a8c,a0a h];rfl,?_⟩;rw[mZ (by rw[a1a];exact h),a4b,a0a h];rfl
def dL4{z:Str}(h:Tx z):cM0 z:=⟨h.1,λc a=>a4i (h.2 c a) (by decide)⟩
def cL0{qs:List (Str×List Str)}{hs:List (List (List Int))}(G:Qn qs)(z:Hn hs){K:RX×List Sl->Prop}(k:∀ d,Dh qs hs d->K (rx d,[⟨.val,qD qs⟩,⟨.val,hD hs⟩])):OK1 (eA [⟨.val,qD qs⟩,⟨.val,hD hs⟩]) K:=by
 unfold eA;rw[cK8];show RS dN [_,_,none,none] _;unfold dN;have A:(qs.map qP).length=qs.length:=a1a _;have B:(hs.map hT).length=hs.length:=a1a _;walk_at "dx";refine bN8 (λi n=>(∀ j,j < i->¬ Wr qs hs j)/\∃ p s t u,n=[_,_,ov p t,ov s u]) ⟨λj h=>absurd h (a6e _),false,false,.non,.non,rfl⟩ ?_ ?_
 ·rintro i d n hd ⟨c,p,s,t,u,rfl⟩;obtain⟨J,v,rfl⟩:=dJ hd;obtain⟨q,a,rfl⟩:=kR v;have x:i < qs.length:=(a3a.mp a).1;have b:=dL3 a;have C:=dL4 (G.2 q (a9b a)).1;rw[a3g];walk_at "dx";rw[B];have ret:Wr qs hs i->K (rx (some q.1),[⟨.val,qD qs⟩,⟨.val,hD hs⟩]):=λh=>k (some q.1) (.inl ⟨i,x,h,c,by rw[b]⟩);split;rename_i D;exact⟨C,.inr (.inr ⟨_,_,_,rfl,ret λh=>by have:=h.1;lia⟩)⟩;rename_i D;have e:i < hs.length:=by lia
  obtain⟨ks,f,g,y⟩:=dO0 e;rw[y];walk_at "dx";rw[a1a];refine bN7 (w:=q.2.length) (ks:=ks) (a8b (z ks f).1 (by decide)) (λr H=>a8b ((z ks f).2 r H) (by decide)) λo E=>?_;cases o with
  | none=>
    walk_at "dx";show OK1 (isD true .non .non) _;rw[cK4];walk_at "dx";refine .inl ⟨_,.inl rfl,λj I=>?_,true,true,_,_,rfl⟩;rcases a2j (a0g I)with l | rfl;exact c j l;exact λh=>h ⟨e,by rw[b,g];exact E⟩
  | some m=>
    walk_at "dx";show OK1 (isD true (.int m) .non) _;rw[cK5];walk_at "dx";exact⟨C,.inr (.inr ⟨_,_,_,rfl,ret λh=>by
     have F:=h.2;rw[b,g]at F;have:=dE2 F E;cases this⟩)⟩
 ·rintro n ⟨c,p,s,t,u,rfl⟩;rw[cE,A]at c;walk_at "dx";rw[B,A];split;rename_i D;exact⟨⟨by decide,by decide⟩,k (some "") (.inr ⟨c,by rw[a3p (by lia)]⟩)⟩;exact k none (.inr ⟨c,by rw[a3q (by lia)]⟩)
noncomputable def ofS:Option Str->D
 | none=>.non
 | some z=>.str z
def bX6{qs:List (Str×List Str)}{hs:List (List (List Int))}(F:Qn qs)(B:Hn hs){K:Res->List Sl->Prop}(k:∀ d,Dh qs hs d->K (.val (ofS d)) [⟨.val,qD qs⟩,⟨.val,hD hs⟩]):CK fG [⟨.val,qD qs⟩,⟨.val,hD hs⟩] K:=by
 unfold fG;rw[fJ];show RS gK [_,_,none,none,none] _;unfold gK;have C:(qs.map qP).length=qs.length:=a1a _;have D:(hs.map hT).length=hs.length:=a1a _;walk_at "dx";refine aA8 (λi r=>(∀ j,j < i->¬ Wr qs hs j)/\∃ s t u v w x,r=[_,_,ov s v,ov t w,ov u x]) ⟨λj h=>absurd h (a6e _),false,false,false,.non,.non,.non,rfl⟩ ?_ ?_
 ·rintro i d r hd ⟨c,s,t,u,v,w,x,rfl⟩;obtain⟨G,y,rfl⟩:=dJ hd;obtain⟨q,f,rfl⟩:=kR y;have z:i < qs.length:=(a3a.mp f).1;have a:=dL3 f;rw[a3g];walk_at "dx";rw[D];have ret:Wr qs hs i->K (.val (.str q.1)) [⟨.val,qD qs⟩,⟨.val,hD hs⟩]:=λh=>k (some q.1) (.inl ⟨i,z,h,c,by rw[a]⟩);split;rename_i p;exact .inr (.inl ⟨_,_,rfl,ret λh=>by have:=h.1;lia⟩);rename_i p;have g:i < hs.length:=by lia
  obtain⟨ks,m,n,A⟩:=dO0 g;rw[A];walk_at "dx";refine vQ (cs:=q.2) (ks:=ks) (B ks m).1 (B ks m).2 λb o=>?_;walk_at "dx";cases b with
  | false=>
    walk_at "dx";exact .inr (.inl ⟨_,_,rfl,ret λh=>by
     have e:=h.2;rw[a,n]at e;exact nomatch o.mpr e⟩)
  | true=>
    walk_at "dx";refine .inl ⟨_,.inl rfl,λj E=>?_,true,true,true,_,_,_,rfl⟩;rcases a2j (a0g E)with l | rfl;exact c j l;exact λh=>h ⟨g,by rw[a,n];exact o.mp rfl⟩
 ·rintro r ⟨c,s,t,u,v,w,x,rfl⟩;rw[cE,C]at c;walk_at "dx";rw[D,C];by_cases p:qs.length < hs.length
  ·have e:(qs.length:Int) < hs.length:=by lia
   have:=k (some "") (.inr ⟨c,by rw[a3p p]⟩);simp only[e,↓reduceIte];exact⟨by decide,this⟩
  ·have e:¬ (qs.length:Int) < hs.length:=by lia
   have:=k none (.inr ⟨c,by rw[a3q p]⟩);simp only[e,↓reduceIte];exact⟨by decide,this⟩
def cL1{g iE iO a n:Nat}{run:cM6}{k:DA}{c f:Str}{σ:Sg}{K:Out->Prop}{ds:List D}{σ1:Sg}(e:k σ=some (ds.map Res.val,σ1))(hn:ds.length=n)(h:OK1 (run (asV ds)) λy=>
  (y.1=.ok (.val (.bl true))/\eE σ1 g=true/\K (.nx (σ1.set g (some ⟨.val,.bl true⟩)))) \/
  (∃ m:Str,y.1=.ex c (some (f,.str m))/\(σ1[iE]? = some none/\iE≠iO/\iE≠a/\iO≠a/\eE σ1 iO=true/\eE (σ1.set iO (some ⟨.val,.bl true⟩)) a=true)/\K (.nx ((σ1.set iO (some ⟨.val,.bl true⟩)).set a (some ⟨.val,.tup [.bl true,.str m]⟩))))):RS (bA7 g iE iO a n run k c f) σ K:=by
 have l:∀ ds:List D,aM6 (ds.map Res.val)=some ds:=λds=>by
  induction ds with
  | nil=>rfl
  | cons d r o=>show(aM6 (r.map Res.val)).bind _=_;rw[o];rfl
 unfold RS bA7;rw[e];show OK1 ((aM6 (ds.map Res.val)).bind _) K;rw[l];show OK1 ((if ds.length=n then run (asV ds)else none).bind _) K;rw[a3p hn,aH];refine bI h ?_;rintro⟨y,as'⟩ (⟨b,i,j⟩ | ⟨m,b,i,j⟩);dsimp only at b;subst b;show OK1 (if eE σ1 g=true then _ else none) K;rw[a3p i];exact j;dsimp only at b;subst b;dsimp only;rw[a3p ⟨rfl,rfl,trivial,i⟩];exact j
local macro_rules | `(tactic| walk_at "dx")=>do
 let l:=("bU3 jU jV jW xH lV lW lX lY vC lZ gU qN tH bU4 qO xK oJ iY jX mB qQ mD oK oM tJ mE jY kP qW qX qY xN aF8 tK aL4 aS qT qU xM aF7 kQ reduceIte".splitOn " ").toArray.map fun s=>Lean.mkIdent s.toName
 let m:=("List.getElem?_cons_succ List.getElem?_cons_zero Int.reducePow Int.reduceNeg Int.reduceLT Int.reduceLE Nat.reducePow Nat.reduceLT Int.reduceToNat Nat.reduceLeDiff iZ jA qV List.set_cons_zero List.set_cons_succ cM aE8 List.length_cons List.length_nil Nat.reduceAdd Nat.zero_add true_and and_true and_self Bool.not_false Bool.false_eq_true Bool.true_and Bool.and_true decide_eq_true_eq".splitOn " ").toArray.map fun s=>Lean.mkIdent s.toName
 `(tactic| simp only[$[↓$l:ident],*,$[$m:ident],*])
def cL2{m:Str}(h:As m):eqD false (.tup [.bl true,.str m]) (.tup [.bl true,.str m])=some (.val (.bl true)):=by
 have e:rX (.tup [.bl true,.str m]) (.tup [.bl true,.str m])=true:=by
  show(true&&((m==m)&&true))=true;simp
 have c:eQ (.tup [.bl true,.str m])=true:=by
  have h0:=aB8 h;unfold eQ at h0 ⊢;rw[a5d]at h0 ⊢;refine⟨?_,rfl⟩;show(true&&(PyData.canLay0 (.str m)&&true))=true;rw[show PyData.canLay0 (.str m)=true from h0.1];rfl
 unfold eqD;rw[a3p ⟨c,c⟩,e];rfl
def dL5{qs:List (Str×List Str)}{hs:List (List (List Int))}(b:Qn qs){z:Str}(h:Dh qs hs (some z)):As z:=by
 rcases h with⟨i,c,_,_,e⟩ | ⟨_,e⟩;obtain⟨q,a⟩:∃ q,qs[i]? = some q:=⟨qs[i],a0a c⟩;rw[dL3 a]at e;cases e;exact(b.2 q (a9b a)).1.2;split at e;cases e;unfold As;decide;cases e
def vR{qs:List (Str×List Str)}{hs:List (List (List Int))}(b:Qn qs)(c:Hn hs){K:Res->List Sl->Prop}(k:K (.val (.bl true)) [⟨.val,qD qs⟩,⟨.val,hD hs⟩]):CK bZ [⟨.val,qD qs⟩,⟨.val,hD hs⟩] K:=by
 unfold bZ;rw[fJ];show RS eM [_,_,none,none,none,none,none] _;unfold eM;walk_at "dx";refine cL1 (ds:=[qD qs,hD hs]) (σ1:=[some ⟨.val,qD qs⟩,some ⟨.val,hD hs⟩,some ⟨.val,.non⟩,some ⟨.val,.non⟩,none,none,none]) rfl rfl ?_;refine cL0 b c λd hd=>?_;cases d with
 | none=>
   refine .inl ⟨rfl,rfl,?_⟩;walk_at "dx";refine bX6 b c λd' a=>?_;have:=bX5 hd a;subst this;walk_at "dx";show OK1 (isD false .non .non) _;rw[cK6];walk_at "dx";rw[cK7];exact k
 | some n=>
   refine .inr ⟨n,rfl,⟨rfl,by decide,by decide,by decide,rfl,rfl⟩,?_⟩;walk_at "dx";refine bX6 b c λd' a=>?_;have:=bX5 hd a;subst this;walk_at "dx";show OK1 (isD false (.str n) .non) _;rw[cK9];walk_at "dx";refine⟨sl2,?_⟩;show OK1 (eqD false (.tup [.bl true,.str n]) (.tup [.bl true,.str n])) _;rw[cL2 (dL5 b hd)];exact k
def cL3{e:Int}(h0:0<=e)(a:e < 12):∃ v:Int,atI [D.int 0,D.int 1,D.int 2,D.int 10,D.int 11,D.int 12,D.int 21,D.int 101,D.int 111,D.int 112,D.int 121,D.int 211] e=some (.int v):=by
 obtain⟨c,b⟩:=lD (ys:=[(0:Int),1,2,10,11,12,21,101,111,112,121,211]) h0 a;exact⟨c,by have:=nB (f:=D.int) (ys:=[(0:Int),1,2,10,11,12,21,101,111,112,121,211]) (i:=e);rw[b]at this;exact this⟩
def bD0{a b m:Int}(h:0 < m)(n:m<=1000){K:Res->List Sl->Prop}(k:∀ v g i,K (.val (.int v)) [⟨.par,.lst [.int g,.int i]⟩,⟨.val,.int m⟩]):CK bY [⟨.par,.lst [.int a,.int b]⟩,⟨.val,.int m⟩] K:=by
 unfold bY;rw[fJ];show RS eJ [_,_,none] _;unfold eJ;walk_at "dx";refine aW h (by lia) λd c f j o=>?_;walk_at "dx";split;rename_i hm;obtain⟨v,l⟩:=cL3 (e:=d) j (by lia);refine⟨by decide,?_⟩;rw[l];walk_at "dx";exact k v c f;exact k d c f
def bN9{e:Int}(h0:0<=e)(a:e < 5):∃ m:Int,atI [D.int 2,D.int 3,D.int 5,D.int 12,D.int 1000] e=some (.int m)/\0 < m/\m<=1000:=by
 have:e=0\/e=1\/e=2\/e=3\/e=4:=by lia
 rcases this with rfl | rfl | rfl | rfl | rfl<;>exact⟨_,rfl,by decide,by decide⟩
def bO0{n:Nat}(h0:1<=n)(a:n<=6):∃ m:Int,atI [D.int 40,D.int 40,D.int 14,D.int 7,D.int 4,D.int 3] ((n:Int)-1)=some (.int m)/\0<=m/\m<=40:=by
 have:n=1\/n=2\/n=3\/n=4\/n=5\/n=6:=by lia
 rcases this with rfl | rfl | rfl | rfl | rfl | rfl<;>exact⟨_,rfl,by decide,by decide⟩
local macro_rules | `(tactic| walk_at "dx")=>do
 let l:=("dD8 cK2 cI8 yL bU3 jU jV jW xG xH lV lW lX aF2 xI aF3 lY cY1 qM vC lZ gU iW iX qN tH xJ qO xK oJ cY4 iY jX mB zW mD oK oM tJ aF4 mE qR aF5 jY aW5 aW6 aW7 aW8 aW9 xL qS jO nK kP qW qX qY xN aF8 nQ zX aX2 zY fO dC1 xO aF9 bV0 bK2 tK aX4 vD dA2 bV3 aX5 aL4 bV5 bK3 aG0 dF9 bV6 tT bX3 aS qT qU xM aF7 kQ reduceIte".splitOn " ").toArray.map fun s=>Lean.mkIdent s.toName
 let m:=("aB7 tU List.getElem?_cons_succ List.getElem?_cons_zero Option.getD_some Int.reducePow Int.reduceNeg Int.reduceLT Int.reduceLE Nat.reducePow Nat.reduceLT Int.reduceToNat Nat.reduceLeDiff aG1 rA aL5 rB iZ jA qV List.set_cons_zero List.set_cons_succ cM aE8 List.length_cons List.length_nil Nat.reduceAdd Nat.zero_add true_and and_true and_self Bool.not_false Bool.not_true Bool.true_and Bool.and_true decide_eq_true_eq".splitOn " ").toArray.map fun s=>Lean.mkIdent s.toName
 `(tactic| simp only[$[↓$l:ident],*,$[$m:ident],*])
def dE5{qs:List (Str×List Str)}(h:Qs1 qs):Qn qs:=⟨a8b h.2.1 (by decide),λq a=>⟨(h.2.2 q a).1,a8b (h.2.2 q a).2.1.2 (by decide),(h.2.2 q a).2.2⟩⟩
def bD1{qs:List (Str×List Str)}{q:Str×List Str}(b:q∈qs){z:Str}(hz:z∈q.2):z∈dA qs:=by
 have a:∀ (l:List (Str×List Str)) (acc:List Str),(z∈acc\/∃ q∈l,z∈q.2)->z∈l.foldl (λacc q=>acc++q.2.filter λc=>!acc.contains c) acc:=by
  intro l
  induction l with
  | nil=>
    intro acc h;rcases h with h | ⟨q,h,_⟩;exact h;cases h
  | cons p r d=>
    intro acc h;refine d _ ?_;by_cases ha:z∈acc;exact .inl (a2g _ ha)
    ·rcases h with h | ⟨q,h,hz⟩;exact absurd h ha;rcases a7b.mp h with rfl | h;exact .inl (a2c _ (List.mem_filter.mpr ⟨hz,by simpa using ha⟩));exact .inr ⟨q,h,hz⟩
 exact a qs [] (.inr ⟨q,b,hz⟩)
theorem aI3(k:List Int):∀ (l:List (List Int)),(bA5 k l).length<=l.length+1
 | []=>a6a 1
 | x::r=>by
   have:=aI3 k r;unfold bA5;split;simp;split;simp;simp only[List.length_cons];lia
theorem bD2:∀ (l:List (List Int)),(srt l).length<=l.length
 | []=>a6a 0
 | k::r=>by
   have a:=bD2 r;have b:=aI3 k (srt r);show(bA5 k (srt r)).length<=r.length+1;lia
def cL4{ks:List (List Int)}{n:Nat}(h:∀ k∈ks,k.length=n)(g:2<=(srt ks).length):∀ k∈ks,k≠[]:=by
 rintro k i rfl;have d:n=0:=(h [] i).symm;have f:=vO ks
 match e:srt ks,g with
 | a::b::r,_=>
   rw[e]at f;have c:=(a2i.mp f).1 b a4a;have ha:=h a ((nU ks a).mp (by rw[e];simp));have j:=h b ((nU ks b).mp (by rw[e];simp));rw[a9e (ha.trans d),a9e (j.trans d)]at c;cases c
def tV{a b:DS}{σ:Sg}{Q:Out->Prop}(P:Sg->Prop)(d:RS a σ λo=>∃ c,o=.nx c/\P c)(e:∀ c,P c->RS b c Q):RS (bR a b) σ Q:=by
 rw[jX];refine bI d ?_;rintro o ⟨c,rfl,h⟩;exact e c h
noncomputable abbrev lI(vs:List Int):D:=.lst (vs.map D.int)
def drawn{y:Type}{f:y->D}{l:List y}{m:Int}(z:0 < m)(A:m<=1000){a b:Int}{s1 s2 q r s t u w c e g h j n:Option Sl}{K:List D×Sg->Prop}(k:∀ (vs:List Int) o p,vs.length=l.length->K (vs.map D.int,[some ⟨.par,.lst [.int o,.int p]⟩,s1,s2,q,some ⟨.val,.int m⟩,r,s,t,u,w,c,e,g,h,j,none,n])) :
  OK1 (yA [15] (dgN 15) lT (dFz (aT 2 bY (aB (aG 0) (aB (aG 4) aQ)))) (l.map f) [some ⟨.par,.lst [.int a,.int b]⟩,s1,s2,q,some ⟨.val,.int m⟩,r,s,t,u,w,c,e,g,h,j,none,n]) K:=by
 refine fD _ _ (λi acc τ=>∃ (vs:List Int) (o p:Int),acc=vs.map D.int/\vs.length=i/\τ=[some ⟨.par,.lst [.int o,.int p]⟩,s1,s2,q,some ⟨.val,.int m⟩,r,s,t,u,w,c,e,g,h,j,none,n]) ⟨[],a,b,rfl,rfl,rfl⟩ ?_ ?_;rintro i d acc τ hd ⟨vs,o,p,rfl,x,rfl⟩;walk_at "dx";refine bD0 z A λv B C=>?_;walk_at "dx";exact⟨_,rfl,vs++[v],B,C,by rw[a1d];rfl,by rw[a6b,x];rfl,rfl⟩;rintro acc τ ⟨vs,o,p,rfl,x,rfl⟩;exact k vs o p (by rw[x,a1a])
def cL5{L e:Int}(a:0<=L/\L<=40)(h0:0<=e)(b:e < 2):∃ c:Int,atI [D.int (L+1),D.int ((if 5 < L then 5 else L)+1)] e=some (.int c)/\0 < c/\c<=41:=by
 have:e=0\/e=1:=by lia
 rcases this with rfl | rfl;exact⟨_,rfl,by lia,by lia⟩;exact⟨_,rfl,by split<;>lia,by split<;>lia⟩
def bO1{a b:Int}{qs:List (Str×List Str)}(s:Qs1 qs){K:Res->List Sl->Prop}(k:∀ (hs:List (List (List Int))) F G,hs.length<=6->(∀ ks∈hs,ks.length<=45/\∀ r∈ks,r.length<=10)->K (.val (hD hs)) [⟨.par,.lst [.int F,.int G]⟩,⟨.val,qD qs⟩,⟨.val,.int 3000⟩]) :
  CK dM [⟨.par,.lst [.int a,.int b]⟩,⟨.val,qD qs⟩,⟨.val,.int 3000⟩] K:=by
 have sl:10000<=sizeLine:=by decide
 unfold dM;rw[fJ];show RS eK [_,_,_,none,none,none,none,none,none,none,none,none,none,none,none,none,none] _;unfold eK;walk_at "dx";refine aC1 (dE5 s) ?_;have hcl:(dA qs).length<=60:=by
  have h1:=yO (qs:=qs) (n:=10) λq h=>(s.2.2 q h).2.1.2;have h2:=Nat.mul_le_mul_right 10 s.2.1;lia
 walk_at "dx";refine⟨by decide,aW (by decide) (by decide) λn a1 b1 n0 n5=>?_⟩;obtain⟨m,hm,m0,m1⟩:=bN9 n0 n5;walk_at "dx";rw[hm];walk_at "dx";refine aW (by decide) (by decide) λn2 a2 b2 n20 n21=>?_;walk_at "dx";refine⟨by lia,by rw[gX];exact a8b (by lia:n2.toNat<=6) (by decide),?_⟩;refine fD _ _ (λi acc τ=>i<=6/\∃ (vss:List (List Int)) (F G:Int),acc=vss.map lI/\vss.length=i/\(∀ vs∈vss,vs.length=(dA qs).length)/\τ=[some ⟨.par,.lst [.int F,.int G]⟩,_,_,_,_,none,none,none,none,none,none,none,none,none,none,none,none]) ⟨by lia,[],a2,b2,rfl,rfl,by simp,rfl⟩ ?_ ?_;rintro i d acc τ hd ⟨_,vss,F,G,rfl,W,X,rfl⟩;obtain⟨hi,rfl⟩:=jQ hd;walk_at "dx";refine⟨by rw[a1a];lia,drawn m0 m1 λvs Y Z p=>?_⟩;walk_at "dx";refine⟨_,rfl,by lia,vss++[vs],Y,Z,by rw[a1d];rfl,by rw[a6b,W];rfl,?_,rfl⟩;intro y H;rcases a0c.mp H with h | h;exact X y h;rw[a3b.mp h];exact p;rintro acc τ ⟨_,vss,F,G,rfl,W,X,rfl⟩;rw[gX]at W;have lq:(qs.map qP).length=qs.length:=a1a _;walk_at "dx";rw[lq];obtain⟨o,hev,ev0,ev1⟩:=bO0 s.1 s.2.1;rw[hev];walk_at "dx";refine⟨by decide,aW (by decide) (by decide) λn3 Y Z n30 n31=>?_⟩;walk_at "dx";generalize decide (n3=0)=be;refine⟨a2d _,?_⟩;refine nR (λi τ=>i<=6/\∃ (hs:List (List (List Int))) (a b room:Int) (t u v e:Bool) (w x z f:D) (l:Option (List D)),0<=room/\hs.length=i/\(∀ ks∈hs,ks.length<=45/\∀ r∈ks,r.length<=10)/\τ=[some ⟨.par,.lst [.int a,.int b]⟩,some ⟨.val,qD qs⟩,some ⟨.val,.int 3000⟩,some ⟨.own,.lst ((dA qs).map D.str)⟩,some ⟨.val,.int m⟩,some ⟨.own,.lst (vss.map lI)⟩,some ⟨.val,.int o⟩,some ⟨.val,.int room⟩,some ⟨.val,.bl be⟩,some ⟨.own,.lst (hs.map hT)⟩,ov t w,ov u x,ov v z,wo l,ov e f,none,none]) ⟨a2d _,[],Y,Z,3000,false,false,false,false,.non,.non,.non,.non,none,by decide,rfl,(λks h=>nomatch h),rfl⟩ ?_ ?_
 ·rintro i d τ hd ⟨_,hs,a,b,room,t,u,v,e,w,x,z,f,l,r0,I,A,rfl⟩;obtain⟨q,J,rfl⟩:=kR hd;have hil:i < qs.length:=(a3a.mp J).1;have M:=a9b J;have hqq:=s.2.2 q M;have hq6:=s.2.1;simp only[qS,jO,nK,xL,jY,yL,qR,aF5,List.length_cons,List.length_nil,Nat.reduceAdd,true_and];refine tV (λτ=>τ=[some ⟨.par,.lst [.int a,.int b]⟩,some ⟨.val,qD qs⟩,some ⟨.val,.int 3000⟩,some ⟨.own,.lst ((dA qs).map D.str)⟩,some ⟨.val,.int m⟩,some ⟨.own,.lst (vss.map lI)⟩,some ⟨.val,.int o⟩,some ⟨.val,.int room⟩,some ⟨.val,.bl be⟩,some ⟨.own,.lst (hs.map hT)⟩,some ⟨.val,.str q.1⟩,some ⟨.val,.tup (q.2.map D.str)⟩,some ⟨.val,.int 40⟩,wo l,ov e f,none,none]) ?_ ?_;walk_at "dx";exact⟨_,rfl,rfl⟩
  rintro τ rfl;refine tV (λτ=>∃ L:Int,(0<=L/\L<=40)/\τ=[some ⟨.par,.lst [.int a,.int b]⟩,some ⟨.val,qD qs⟩,some ⟨.val,.int 3000⟩,some ⟨.own,.lst ((dA qs).map D.str)⟩,some ⟨.val,.int m⟩,some ⟨.own,.lst (vss.map lI)⟩,some ⟨.val,.int o⟩,some ⟨.val,.int room⟩,some ⟨.val,.bl be⟩,some ⟨.own,.lst (hs.map hT)⟩,some ⟨.val,.str q.1⟩,some ⟨.val,.tup (q.2.map D.str)⟩,some ⟨.val,.int L⟩,wo l,ov e f,none,none]) ?_ ?_;walk_at "dx";refine⟨_,rfl,_,?_,rfl⟩;split<;>lia
  rintro τ ⟨L0,N,rfl⟩;refine tV (λτ=>∃ L:Int,(0<=L/\L<=40)/\τ=[some ⟨.par,.lst [.int a,.int b]⟩,some ⟨.val,qD qs⟩,some ⟨.val,.int 3000⟩,some ⟨.own,.lst ((dA qs).map D.str)⟩,some ⟨.val,.int m⟩,some ⟨.own,.lst (vss.map lI)⟩,some ⟨.val,.int o⟩,some ⟨.val,.int room⟩,some ⟨.val,.bl be⟩,some ⟨.own,.lst (hs.map hT)⟩,some ⟨.val,.str q.1⟩,some ⟨.val,.tup (q.2.map D.str)⟩,some ⟨.val,.int L⟩,wo l,ov e f,none,none]) ?_ ?_;walk_at "dx";split;exact⟨_,rfl,_,⟨ev0,ev1⟩,rfl⟩;exact⟨_,rfl,_,N,rfl⟩
  rintro τ ⟨L,hL,rfl⟩;clear N;have hcq:(q.2.map D.str).length=q.2.length:=a1a _;refine tV (λτ=>∃ ks:List (List Int),ks.length<=5/\(∀ r∈ks,r.length=q.2.length)/\τ=[some ⟨.par,.lst [.int a,.int b]⟩,some ⟨.val,qD qs⟩,some ⟨.val,.int 3000⟩,some ⟨.own,.lst ((dA qs).map D.str)⟩,some ⟨.val,.int m⟩,some ⟨.own,.lst (vss.map lI)⟩,some ⟨.val,.int o⟩,some ⟨.val,.int room⟩,some ⟨.val,.bl be⟩,some ⟨.own,.lst (hs.map hT)⟩,some ⟨.val,.str q.1⟩,some ⟨.val,.tup (q.2.map D.str)⟩,some ⟨.val,.int L⟩,some ⟨.own,.lst (ks.map tI)⟩,ov e f,none,none]) ?_ ?_
  ·simp only[↓oM,↓xJ,↓fO,↓zX,↓jU,↓jV,↓jW,↓xG,↓lX,↓bX3,↓aF3,↓xI];walk_at "dx";refine⟨by rw[a1a];lia,rW (λvs=>tI (q.2.map λc=>vs.getD ((dA qs).idxOf c) 0)) lI vss [some ⟨.par,.lst [.int a,.int b]⟩,some ⟨.val,qD qs⟩,some ⟨.val,.int 3000⟩,some ⟨.own,.lst ((dA qs).map D.str)⟩,some ⟨.val,.int m⟩,some ⟨.lent,.lst (vss.map lI)⟩,some ⟨.val,.int o⟩,some ⟨.val,.int room⟩,some ⟨.val,.bl be⟩,some ⟨.own,.lst (hs.map hT)⟩,some ⟨.val,.str q.1⟩,some ⟨.val,.tup (q.2.map D.str)⟩,some ⟨.val,.int L⟩,wo l,ov e f,none,none] rfl (λvs hvs=>?_) ?_⟩;walk_at "dx";refine⟨by lia,rW (λc=>.int (vs.getD ((dA qs).idxOf c) 0)) D.str q.2 [some ⟨.par,.lst [.int a,.int b]⟩,some ⟨.val,qD qs⟩,some ⟨.val,.int 3000⟩,some ⟨.own,.lst ((dA qs).map D.str)⟩,some ⟨.val,.int m⟩,some ⟨.lent,.lst (vss.map lI)⟩,some ⟨.val,.int o⟩,some ⟨.val,.int room⟩,some ⟨.val,.bl be⟩,some ⟨.own,.lst (hs.map hT)⟩,some ⟨.val,.str q.1⟩,some ⟨.val,.tup (q.2.map D.str)⟩,some ⟨.val,.int L⟩,wo l,ov e f,none,some ⟨.val,lI vs⟩] rfl (λc B=>?_) ?_⟩;walk_at "dx";have O:=bD1 M B;refine⟨O,?_⟩;have hix:=List.idxOf_lt_length_iff.mpr O;have p:=X vs hvs;rw[mZ (by rw[a1a];lia),a4b,a0a (by lia),a8c,a0a (by lia)];rfl;walk_at "dx";show Res.val (.tup _)=Res.val (.tup ((q.2.map _).map D.int));rw[List.map_map];rfl;show Dv.PK 13 [some ⟨.par,.lst [.int a,.int b]⟩,some ⟨.val,qD qs⟩,some ⟨.val,.int 3000⟩,some ⟨.own,.lst ((dA qs).map D.str)⟩,some ⟨.val,.int m⟩,some ⟨.own,.lst (vss.map lI)⟩,some ⟨.val,.int o⟩,some ⟨.val,.int room⟩,some ⟨.val,.bl be⟩,some ⟨.own,.lst (hs.map hT)⟩,some ⟨.val,.str q.1⟩,some ⟨.val,.tup (q.2.map D.str)⟩,some ⟨.val,.int L⟩,wo l,ov e f,none,none] ⟨.own,.lst _⟩ _;walk_at "dx";refine⟨_,rfl,vss.map λvs=>q.2.map λc=>vs.getD ((dA qs).idxOf c) 0,by rw[a1a];lia,?_,by rw[List.map_map];rfl⟩;intro r C;obtain⟨vs,_,rfl⟩:=a3h.mp C;exact a1a _
  rintro τ ⟨ks0,P,Q,rfl⟩;refine tV (λτ=>∃ (ks:List (List Int)) (a b:Int),ks.length<=5/\(∀ r∈ks,r.length=q.2.length)/\τ=[some ⟨.par,.lst [.int a,.int b]⟩,some ⟨.val,qD qs⟩,some ⟨.val,.int 3000⟩,some ⟨.own,.lst ((dA qs).map D.str)⟩,some ⟨.val,.int m⟩,some ⟨.own,.lst (vss.map lI)⟩,some ⟨.val,.int o⟩,some ⟨.val,.int room⟩,some ⟨.val,.bl be⟩,some ⟨.own,.lst (hs.map hT)⟩,some ⟨.val,.str q.1⟩,some ⟨.val,.tup (q.2.map D.str)⟩,some ⟨.val,.int L⟩,some ⟨.own,.lst (ks.map tI)⟩,ov e f,none,none]) ?_ ?_;walk_at "dx";refine aW (by decide) (by decide) λn4 a4 b4 n40 n41=>?_;walk_at "dx";split;exact⟨a2d _,_,rfl,[],a4,b4,a2d _,(λr h=>nomatch h),rfl⟩;exact⟨_,rfl,ks0,a4,b4,P,Q,rfl⟩
  rintro τ ⟨ks1,a5,b5,R,S,rfl⟩;clear P Q;refine tV (λτ=>∃ (ks:List (List Int)) (a b:Int) (e:Bool) (f:D),ks.length<=45/\(∀ r∈ks,r.length=q.2.length)/\τ=[some ⟨.par,.lst [.int a,.int b]⟩,some ⟨.val,qD qs⟩,some ⟨.val,.int 3000⟩,some ⟨.own,.lst ((dA qs).map D.str)⟩,some ⟨.val,.int m⟩,some ⟨.own,.lst (vss.map lI)⟩,some ⟨.val,.int o⟩,some ⟨.val,.int room⟩,some ⟨.val,.bl be⟩,some ⟨.own,.lst (hs.map hT)⟩,some ⟨.val,.str q.1⟩,some ⟨.val,.tup (q.2.map D.str)⟩,some ⟨.val,.int L⟩,some ⟨.own,.lst (ks.map tI)⟩,ov e f,none,none]) ?_ ?_
  ·walk_at "dx";refine⟨by decide,aW (by decide) (by decide) λn6 a7 b7 n60 n61=>?_⟩;obtain⟨c,B,c0,c1⟩:=cL5 hL n60 n61;walk_at "dx";rw[B];walk_at "dx";refine aW c0 (by lia) λn7 a8 b8 n70 n71=>?_;walk_at "dx";refine⟨by lia,?_⟩;refine nR (λj τ=>j<=40/\∃ (ks:List (List Int)) (a b:Int) (e:Bool) (f:D),ks.length<=5+j/\(∀ r∈ks,r.length=q.2.length)/\τ=[some ⟨.par,.lst [.int a,.int b]⟩,some ⟨.val,qD qs⟩,some ⟨.val,.int 3000⟩,some ⟨.own,.lst ((dA qs).map D.str)⟩,some ⟨.val,.int m⟩,some ⟨.own,.lst (vss.map lI)⟩,some ⟨.val,.int o⟩,some ⟨.val,.int room⟩,some ⟨.val,.bl be⟩,some ⟨.own,.lst (hs.map hT)⟩,some ⟨.val,.str q.1⟩,some ⟨.val,.tup (q.2.map D.str)⟩,some ⟨.val,.int L⟩,some ⟨.own,.lst (ks.map tI)⟩,ov e f,none,none]) ⟨a2d _,ks1,a8,b8,e,f,R,S,rfl⟩ ?_ ?_;rintro j d τ hd ⟨_,ks,a,b,e,f,hk,C,rfl⟩;obtain⟨hj,rfl⟩:=jQ hd;walk_at "dx";refine⟨by lia,drawn m0 m1 λvs a9 b9 p=>?_⟩;walk_at "dx";refine⟨by rw[a1a];lia,_,.inl rfl,by lia,ks++[vs],a9,b9,true,_,by rw[a6b];simp;lia,?_,by rw[a1d];rfl⟩;intro y H;rcases a0c.mp H with h | h;exact C y h;rw[a3b.mp h];exact p;rintro τ ⟨hj,ks,a,b,e,f,hk,C,rfl⟩;exact⟨_,rfl,ks,a,b,e,f,by lia,C,rfl⟩
  rintro τ ⟨E,a6,b6,T,U,hk2,V,rfl⟩;clear R S;have hsl:=bD2 E;walk_at "dx";refine⟨⟨by lia,by lia,cL4 V⟩,?_⟩;obtain⟨g,e3,hl3,hm3⟩:=nV tI (srt E) none (some L);have l3:(g.map tI).length=g.length:=a1a _;rw[e3,l3];have B:0 < (if(g.length:Int) > 1 then(g.length:Int)else 1)/\(if(g.length:Int) > 1 then(g.length:Int)else 1)<=100:=by split<;>lia
  revert B;generalize (if(g.length:Int) > 1 then(g.length:Int)else 1)=c;intro B;refine⟨by rw[a1a];lia,⟨B.1,by lia⟩,_,.inl rfl,by lia,hs++[g],a6,b6,room / c,true,true,true,T,_,_,_,U,some (g.map tI),Int.ediv_nonneg r0 (by lia),by rw[a6b,I];rfl,?_,by rw[a1d];rfl⟩;intro y H;rcases a0c.mp H with h | h;exact A y h;rw[a3b.mp h];refine⟨by lia,λr C=>?_⟩;rw[V r ((nU E r).mp (hm3 r C))];exact hqq.2.1.2
 ·rintro τ ⟨h6,hs,a,b,room,t,u,v,e,w,x,z,f,l,r0,I,A,rfl⟩;walk_at "dx";exact k hs a b (by lia) A
local macro_rules | `(tactic| walk_at "dx")=>do
 let l:=("cJ1 cJ2 bU3 jU jV jW xH lV aW2 lW lX lY cY2 qM lZ gU iW iX qN tH xJ bU4 qO xK oJ iY jX mB qQ mD oK oM tJ mE qR jY xL kP qW qX qY xN aF8 zX fO bB2 xO cG3 aF9 bV2 dA1 tK aX3 vD bV3 aX5 aL4 bK3 aG0 dF9 tT bV7 aS aX6 qT qU xM aF7 kQ reduceIte".splitOn " ").toArray.map fun s=>Lean.mkIdent s.toName
 let m:=("aB7 tU List.getElem?_cons_succ List.getElem?_cons_zero Option.getD_some dB0 Int.reducePow Int.reduceNeg Int.reduceLT Int.reduceLE Nat.reducePow Nat.reduceLT Int.reduceToNat Nat.reduceLeDiff rA rB iZ jA qV List.set_cons_zero List.set_cons_succ cM aE8 List.length_cons List.length_nil Nat.reduceAdd Nat.zero_add true_and and_true and_self Bool.not_false Bool.true_and Bool.and_true decide_eq_true_eq".splitOn " ").toArray.map fun s=>Lean.mkIdent s.toName
 `(tactic| simp only[$[↓$l:ident],*,$[$m:ident],*])
def bD3{e:Type}(f:e->D)(l:List e)(y:e)(a b c d:Option Int):∃ l':List e,oF (l.map f) a b++[f y]++oF (l.map f) c d=l'.map f/\l'.length<=2*l.length+1/\∀ z∈l',z∈l\/z=y:=by
 obtain⟨p,g,n,i⟩:=nV f l a b;obtain⟨q,j,o,k⟩:=nV f l c d;refine⟨p++[y]++q,by rw[g,j,a1d,a1d];rfl,?_,λz m=>?_⟩;simp only[List.length_append,List.length_cons,List.length_nil];lia;rcases a0c.mp m with h | h;rcases a0c.mp h with h | h;exact .inl (i z h);exact .inr (a3b.mp h);exact .inl (k z h)
def bX7{a:Type}(f:a->D)(l:List a)(c:l.length<=3000){y:a}{P:a->Prop}(d:∀ z∈l,P z)(g:P y){p q r s:Option Int}{J:List D->Prop}(k:∀ b:List a,b.length<=2*l.length+1->(∀ z∈b,P z)->J (b.map f)) :
  1<=sizeLine/\(oF (l.map f) p q).length+1<=sizeLine/\(oF (l.map f) p q++[f y]).length+(oF (l.map f) r s).length<=sizeLine/\J (oF (l.map f) p q++[f y]++oF (l.map f) r s):=by
 have sl:10000<=sizeLine:=by decide
 have i:=vP (l.map f) p q;have j:=vP (l.map f) r s;rw[a1a]at i j;obtain⟨b,e,c,hm⟩:=bD3 f l y p q r s;refine⟨by lia,by lia,by simp only[List.length_append,List.length_cons,List.length_nil];lia,?_⟩;rw[e];refine k _ (by lia) λz m=>?_;rcases hm z m with h | rfl;exact d z h;exact g
def dE6{p q A B:Prop}[Decidable p][Decidable q](ha:A)(a:¬ p->¬ q->B):if p then A else if q then A else B:=by
 split;exact ha;split;exact ha;exact a (by assumption) (by assumption)
def aC2{a b:Int}{cs:List Str}{ks:List (List Int)}{n:Nat}(hn:n<=1000)(hc:1<=cs.length/\cs.length<=10)(hk:ks.length<=n)(g:∀ k∈ks,k.length<=30){K:Res->List Sl->Prop}
  (k:∀ (m:List (List Int)) x z,m.length<=2*n+2->(∀ k∈m,k.length<=30)->K (.val (hT m)) [⟨.par,.lst [.int x,.int z]⟩,⟨.val,.tup (cs.map D.str)⟩,⟨.val,hT ks⟩]) :
  CK cB [⟨.par,.lst [.int a,.int b]⟩,⟨.val,.tup (cs.map D.str)⟩,⟨.val,hT ks⟩] K:=by
 unfold cB;rw[fJ];show RS cH [_,_,_,none,none,none,none,none,none] _;unfold cH;have lk:(ks.map tI).length=ks.length:=a1a _;have lc:(cs.map D.str).length=cs.length:=a1a _;have sl:10000<=sizeLine:=by decide
 walk_at "dx";refine⟨by lia,?_⟩;refine fD _ _ (λj acc τ=>∃ (vs:List Int) (x z:Int),acc=vs.map D.int/\vs.length=j/\τ=[some ⟨.par,.lst [.int x,.int z]⟩,_,_,none,none,none,none,none,none]) ⟨[],a,b,rfl,rfl,rfl⟩ ?_ ?_;rintro j d acc τ hd ⟨vs,x,z,rfl,X,rfl⟩;walk_at "dx";refine aW (by decide) (by decide) λe F G Y Z=>?_;walk_at "dx";exact⟨_,rfl,vs++[e],F,G,by rw[a1d];rfl,by rw[a6b,X];rfl,rfl⟩;rintro acc τ ⟨vs,x,z,rfl,hv,rfl⟩;rw[a1a]at hv;walk_at "dx";refine aW (by decide) (by decide) λe a1 b1 Y Z=>?_;walk_at "dx";refine aW (by lia) (by lia) λe2 a2 b2 e20 e21=>?_;walk_at "dx";have o:∀ (y:List Int),y.length<=30->∀ (p q r s:Option Int) (a b:Int),1<=sizeLine/\(oF (ks.map tI) p q).length+1<=sizeLine/\(oF (ks.map tI) p q++[tI y]).length+(oF (ks.map tI) r s).length<=sizeLine/\K (.val (.tup (oF (ks.map tI) p q++[tI y]++oF (ks.map tI) r s))) [⟨.par,.lst [.int a,.int b]⟩,⟨.val,.tup (cs.map D.str)⟩,⟨.val,hT ks⟩]:=
  λy t p q r s a b=>bX7 tI ks (by lia) g t (J:=λl=>K (.val (.tup l)) _) λH h1 V=>k H a b (by lia) V
 split;exact o vs (by lia) _ _ _ _ a2 b2;split
 ·refine⟨by decide,by rw[a1a];lia,by decide,aW (by decide) (by decide) λc A B u C=>?_⟩;obtain⟨w,I,hl1,_⟩:=nV D.int vs none (some (-1));obtain⟨y,t,ly⟩:∃ y:List Int,atI [D.tup (vs.map D.int++[D.int 7]),D.tup (oF (vs.map D.int) none (some (-1)))] c=some (tI y)/\y.length<=30:=by
   have:c=0\/c=1:=by lia
   rcases this with rfl | rfl;exact⟨vs++[7],by show some _=some (D.tup ((vs++[7]).map D.int));rw[a1d];rfl,by rw[a6b];simp;lia⟩;exact⟨w,by rw[I];rfl,by lia⟩
  walk_at "dx";rw[t];walk_at "dx";exact o y ly _ _ _ _ A B
 ·refine dE6 ?_ λV hl2=>?_
  ·refine aW (by lia) (by lia) λc A B u C=>?_;walk_at "dx";refine⟨by decide,aW (by decide) (by decide) λE F G e40 e41=>?_⟩;obtain⟨v,L⟩:∃ v:Int,atI [D.int (-1),D.int 1000,D.int 10000000000000000000000000] E=some (.int v):=by
    have:E=0\/E=1\/E=2:=by lia
    rcases this with rfl | rfl | rfl<;>exact⟨_,rfl⟩
   walk_at "dx";rw[L];walk_at "dx";have M:=vP (vs.map D.int) none (some c);have N:=vP (vs.map D.int) (some (c+1)) none;rw[a1a]at M N;obtain⟨H,f,hl',_⟩:=bD3 D.int vs v none (some c) (some (c+1)) none;refine⟨by lia,by lia,by simp only[List.length_append,List.length_cons,List.length_nil];lia,?_⟩;rw[f];exact o H (by lia) _ _ _ _ F G
  ·have h2k:2<=ks.length:=by lia
   refine aW (by lia) (by lia) λc A B u C=>?_;obtain⟨r,hr,mr⟩:=aI2 tI (l:=ks) (i:=c) u (by lia);obtain⟨W,O,P⟩:=aI2 tI (l:=ks) (i:=c+1) (by lia) (by lia);walk_at "dx";have w:=λ(p q:Option Int)=>nV tI ks p q;split
   ·rw[O];walk_at "dx";rw[hr];walk_at "dx";obtain⟨l1,Q,M,R⟩:=w none (some c);obtain⟨l2,S,N,T⟩:=w (some (c+2)) none;rw[Q,S];have U:l1.map tI++[tI W,tI r]++l2.map tI=(l1++[W,r]++l2).map tI:=by rw[a1d,a1d];rfl
    rw[U];refine⟨by decide,by rw[a1a];lia,by rw[a6b,a1a,a1a];simp;lia,k _ A B (by rw[a6b,a6b];simp;lia) λy t=>?_⟩;rcases a0c.mp t with h | h;rcases a0c.mp h with h | h;exact g y (R y h);rcases a7b.mp h with rfl | h;exact g _ P;rw[a3b.mp h];exact g r mr;exact g y (T y h)
   ·obtain⟨l1,Q,M,R⟩:=w none (some (c+1));obtain⟨l2,S,N,T⟩:=w (some c) none;rw[Q,S];have U:l1.map tI++l2.map tI=(l1++l2).map tI:=by rw[a1d]
    rw[U];refine⟨by rw[a1a,a1a];lia,k _ A B (by rw[a6b];lia) λy t=>?_⟩;rcases a0c.mp t with h | h;exact g y (R y h);exact g y (T y h)
def Hb(n:Nat)(hs:List (List (List Int))):Prop:=hs.length<=n/\∀ ks∈hs,ks.length<=n/\∀ r∈ks,r.length<=30
def cL6{e:Int}(h0:0<=e)(a:e < 3):∃ ks:List (List Int),atI [D.tup [],D.tup [D.tup [D.int 1]],D.tup [D.tup [D.int 2,D.int 1]]] e=some (hT ks)/\ks.length<=1/\∀ r∈ks,r.length<=30:=by
 have:e=0\/e=1\/e=2:=by lia
 rcases this with rfl | rfl | rfl;exact⟨[],rfl,by decide,by decide⟩;exact⟨[[1]],rfl,by decide,by decide⟩;exact⟨[[2,1]],rfl,by decide,by decide⟩
def aN3{a b:Int}{qs:List (Str×List Str)}{hs:List (List (List Int))}{n:Nat}(hn:n<=1000)(E:Qs1 qs)(o:Hb n hs){K:Res->List Sl->Prop}
  (k:∀ (p:List (List (List Int))) G H,Hb (2*n+2) p->K (.val (hD p)) [⟨.par,.lst [.int G,.int H]⟩,⟨.val,qD qs⟩,⟨.val,hD hs⟩]) :
  CK cI [⟨.par,.lst [.int a,.int b]⟩,⟨.val,qD qs⟩,⟨.val,hD hs⟩] K:=by
 unfold cI;rw[fJ];show RS cS [_,_,_,none,none,none] _;unfold cS;have I:(qs.map qP).length=qs.length:=a1a _;have L:(hs.map hT).length=hs.length:=a1a _;have sl:10000<=sizeLine:=by decide
 have M:=o.1;have c:∀ ks∈hs,ks.length<=2*n+2/\∀ r∈ks,r.length<=30:=λks h=>⟨by have:=(o.2 ks h).1;lia,(o.2 ks h).2⟩;walk_at "dx";refine aW (by decide) (by decide) λe N O e0 e1=>?_;walk_at "dx";split;refine aW (by lia) (by lia) λs v x d g=>?_;walk_at "dx";obtain⟨l1,Q,g1,R⟩:=nV hT hs none (some s);rw[Q];exact k l1 v x ⟨by lia,λks h=>c ks (R ks h)⟩;split
 ·refine⟨by decide,by decide,by decide,by decide,by decide,by decide,?_⟩;refine aW (by decide) (by decide) λs v x d g=>?_;obtain⟨ks,j,kl,S⟩:=cL6 d g;walk_at "dx";rw[j];walk_at "dx";refine⟨by decide,aW (by decide) (by decide) λF t u T U=>?_⟩;have m:ks.length<=2*n+2/\∀ r∈ks,r.length<=30:=⟨by lia,S⟩;have:F=0\/F=1:=by lia
  rcases this with rfl | rfl
  ·walk_at "dx";rw[show(1:Int)+0=1 from rfl];walk_at "dx";have z:hs.map hT++[hT ks]=(hs++[ks]).map hT:=by rw[a1d];rfl
   rw[z];refine⟨by lia,k _ t u ⟨by rw[a6b];simp;lia,λy A=>?_⟩⟩;rcases a0c.mp A with h | h;exact c y h;rw[a3b.mp h];exact m
  ·walk_at "dx";rw[show(1:Int)+1=2 from rfl];walk_at "dx";have z:hs.map hT++[hT ks,hT ks]=(hs++[ks,ks]).map hT:=by rw[a1d];rfl
   rw[z];refine⟨by lia,k _ t u ⟨by rw[a6b];simp;lia,λy A=>?_⟩⟩;rcases a0c.mp A with h | h;exact c y h;rcases a7b.mp h with rfl | h;exact m;rw[a3b.mp h];exact m
 ·split;exact k hs N O ⟨by lia,c⟩;rename_i h0;have V:=E.1;rw[I,L];have f:0 < (if(hs.length:Int) < qs.length then(hs.length:Int)else qs.length)/\(if(hs.length:Int) < qs.length then(hs.length:Int)else qs.length)<=hs.length/\(if(hs.length:Int) < qs.length then(hs.length:Int)else qs.length)<=qs.length:=by split<;>lia
  revert f;generalize (if(hs.length:Int) < qs.length then(hs.length:Int)else qs.length)=w;intro f;refine aW f.1 (by lia) λs v x d g=>?_;obtain⟨q,B,W⟩:=aI2 qP (l:=qs) (i:=s) d (by lia);obtain⟨ks,j,mk⟩:=aI2 hT (l:=hs) (i:=s) d (by lia);walk_at "dx";rw[B];walk_at "dx";rw[j];walk_at "dx";refine aC2 (n:=n) hn (E.2.2 q W).2.1 (o.2 ks mk).1 (o.2 ks mk).2 λX t u C D=>?_;walk_at "dx";exact bX7 hT hs (by lia) (P:=λks=>ks.length<=2*n+2/\∀ r∈ks,r.length<=30) c ⟨C,D⟩ (J:=λl=>K (.val (.tup l)) _) λY h1 Z=>k Y t u ⟨by lia,Z⟩
local macro_rules | `(tactic| walk_at "dx")=>do
 let l:=("dD7 yL bU3 jU jV jW xG lV lW lX lY aW4 qM lZ gU iW iX xJ xK oJ iY jX mB qQ mD oK oM tJ aF4 mE qR aF5 jY xL kP qW qX qY cZ6 xN cZ7 cZ8 nQ zX aX2 zY cF8 fO xO aX5 bK3 aG0 dF9 tT bV7 aS qT qU cZ3 xM cZ4 cZ5 kQ reduceIte".splitOn " ").toArray.map fun s=>Lean.mkIdent s.toName
 let m:=("aB7 tU List.getElem?_cons_succ List.getElem?_cons_zero Option.getD_some Int.reducePow Int.reduceNeg Int.reduceLT Int.reduceLE Nat.reducePow Nat.reduceLT Int.reduceToNat Nat.reduceLeDiff rA aL5 rB List.set_cons_zero List.set_cons_succ cM aE8 List.length_cons List.length_nil Nat.reduceAdd Nat.zero_add true_and and_true and_self Bool.not_false Bool.not_true Bool.false_eq_true Bool.true_and Bool.and_true".splitOn " ").toArray.map fun s=>Lean.mkIdent s.toName
 `(tactic| simp only[$[↓$l:ident],*,$[$m:ident],*])
def cL7{as:List Sl}{K:Res->List Sl->Prop}{o:Out}(h:cZ2 as K o):dN6 as K o:=by
 cases o with
 | nx σ=>exact h
 | rt r σ=>exact oH.mp h
 | bk σ=>exact h
 | ct σ=>exact h
 | ex c f σ=>exact h
def dE7{a:Type}(f:a->D)(l:List a)(i:Nat):oF (l.map f) none (some (i:Int))=(l.take i).map f:=by
 unfold oF;rw[HT.sIx_none,HT.sIx_nat,List.drop_zero,Nat.sub_zero,← a2k,a1a,← List.take_eq_take_min]
noncomputable def bnd:Nat->Nat
 | 0=>45
 | 1=>92
 | _=>186
def bO2{i:Nat}(h:i < 2):2*bnd i+2<=bnd (i+1):=by
 have:i=0\/i=1:=by lia
 rcases this with rfl | rfl<;>decide
def bX8(i:Nat):bnd i<=186:=by
 unfold bnd;split<;>lia
def dL6{n m:Nat}{hs:List (List (List Int))}(h:Hb n hs)(w:n<=m):Hb m hs:=⟨a8b h.1 w,λks a=>⟨a8b (h.2 ks a).1 w,(h.2 ks a).2⟩⟩
def dE8{n:Nat}{hs:List (List (List Int))}(h:Hb n hs)(w:n<=900):Hn hs:=λks a=>⟨a8b (h.2 ks a).1 w,λr b=>a8b ((h.2 ks a).2 r b) (by decide)⟩
def bO3(ns:List Int)(hn:ns.length<=63):rV [⟨.val,.lst (ns.map D.int)⟩] λy _=>y=.val (.bl true):=by
 unfold rV dF6;refine aB6 _ _ _ (λo h=>cL7 h) ?_;show tS [_,none,none,none,none,none,none,none] _;unfold tS;show RS _ _ (sqM _ _);walk_at "dx";refine bB8 (by decide) (by decide) λa b=>?_;walk_at "dx";show(_/\_)/\cQ1 _ _;refine⟨⟨rfl,rfl⟩,a,b,3,rfl,by decide,by decide,λE F G l=>?_⟩;show RS _ [some ⟨.val,.lst (ns.map D.int)⟩,some ⟨.own,.lst [.int F,.int G]⟩,some ⟨.val,qD E⟩,none,none,none,none,none] _;have m:Qn E:=dE5 l;walk_at "dx";refine bB8 (by decide) (by decide) λR S=>?_;walk_at "dx";refine bO1 l λc T U s t=>?_;walk_at "dx";refine⟨by rw[a1a];exact a8b s (by decide),rW (λks=>hT (ks.take 38)) hT c [_,_,_,none,none,none,none,none] rfl (λks _=>?_) ?_⟩;walk_at "dx";rw[show oF (ks.map tI) none (some 38)=(ks.take 38).map tI from dE7 tI ks 38]
 have em:c.map (λks=>hT (ks.take 38))=(c.map λks=>ks.take 38).map hT:=by rw[List.map_map];rfl
 rw[em];have p:Hb 45 (c.map λks=>ks.take 38):=by
  refine⟨by rw[a1a];lia,λks H=>?_⟩;obtain⟨y,I,rfl⟩:=a3h.mp H;have:=t y I;exact⟨by rw[a7d];lia,λr J=>a8b (this.2 r (a3e J)) (by decide)⟩
 generalize (c.map λks=>ks.take 38)=hs at p ⊢;have q:=dE8 p (by decide);walk_at "dx";refine vR m q ?_;walk_at "dx";refine nR (λi τ=>i<=3/\∃ a b v w f x z g,τ=[_,some ⟨.own,.lst [.int a,.int b]⟩,_,_,ov v x,ov w z,ov f g,none]) ⟨by decide,F,G,false,false,false,.non,.non,.non,rfl⟩ ?_ ?_
 ·rintro i d τ hd ⟨_,a,b,v,w,f,x,z,g,rfl⟩;obtain⟨hi,rfl⟩:=jQ hd;have K:i < 3:=hi;walk_at "dx";refine bB8 (by lia) (by lia) λV W=>?_;walk_at "dx";refine aW (by decide) (by decide) λe L M X Y=>?_;walk_at "dx";refine⟨by lia,?_⟩;refine nR (λj τ=>j<=2/\∃ a b f g k,Hb (bnd j) k/\τ=[_,some ⟨.own,.lst [.int a,.int b]⟩,_,_,_,some ⟨.val,hD k⟩,ov f g,none]) ⟨by decide,L,M,f,g,hs,p,rfl⟩ ?_ ?_
  ·rintro j d τ hd ⟨_,a,b,f,g,k,A,rfl⟩;obtain⟨Z,rfl⟩:=jQ hd;have B:j < 2:=by lia
   have N:=bO2 B;have O:=bX8 j;walk_at "dx";refine aN3 (n:=bnd j) (by lia) l A λC P Q u=>?_;walk_at "dx";exact⟨_,.inl rfl,by lia,P,Q,true,_,C,dL6 u N,rfl⟩
  ·rintro τ ⟨_,a,b,f,g,k,A,rfl⟩;have O:=bX8 (zR 0 (1+e).toNat).length;walk_at "dx";refine vR m (dE8 A (by lia)) ?_;walk_at "dx";refine vR m q ?_;walk_at "dx";exact⟨_,.inl rfl,by lia,a,b,true,true,f,_,_,g,rfl⟩
 ·rintro τ ⟨_,a,b,v,w,f,x,z,g,rfl⟩;walk_at "dx"
end Mr
namespace Mr
open PySem L2
local macro_rules | `(tactic| walk_at "sx")=>do
 let l:=("pZ aQ6 bS0 bS1 bS2 uG aD1 aQ7 uE uF dF2 cR6 bR7 bF4 cR7 aQ5 bR8 bR9 aD2 uH aQ8 cR8 cR9 wG aQ9 lC aR0 aD7 aD5 bS6 bT1 bT2 cS4 bT0 aR3 bS7 aR4 aR5 reduceIte wH wI aR6 aR7 cT0".splitOn " ").toArray.map fun s=>Lean.mkIdent s.toName
 let m:=("dM8 List.set_cons_zero List.set_cons_succ bS5 cS3 Int.reducePow Int.reduceNeg Int.reduceLT Int.reduceLE Int.reduceAdd".splitOn " ").toArray.map fun s=>Lean.mkIdent s.toName
 `(tactic| simp only[$[↓$l:ident],*,$[$m:ident],*])
local macro_rules | `(tactic| walk_at "sy")=>do
 let l:=("aQ6 bS0 bS1 bS2 uG aD1 aQ7 uE uF dF2 cR6 bR7 bF4 cR7 aQ5 bR8 bR9 aD2 uH aQ8 cR8 cR9 wG aQ9 lC aR0 aD7 aD5 bS6 bT1 bT2 cS4 bT0 aR3 bS7 aR4 aR5 wH wI aR6 aR7 cT0".splitOn " ").toArray.map fun s=>Lean.mkIdent s.toName
 let m:=("dM8 List.set_cons_zero List.set_cons_succ bS5 cS3 Int.reducePow Int.reduceNeg Int.reduceLT Int.reduceLE Int.reduceAdd".splitOn " ").toArray.map fun s=>Lean.mkIdent s.toName
 `(tactic| simp only[$[↓$l:ident],*,$[$m:ident],*])
section
variable{P:Program}{w:World}{K:W.Frag}{mg:Str->Option Value}{base:Heap}{a:Adr}
def aP(T:Txt K mg a):FnOk P w K mg base CX0 1 a.a1J a.a0V ["_law_box_here","_law_many"] (zE K):=by
 refine T.a0l.ok gW (λvs H Q E h=>?_) (λcdv A outer s H vs Q E r h=>?_);obtain⟨p,m,rfl,_⟩:=h;rfl;obtain⟨p,m,rfl,⟨i,j,d⟩,c,l,k⟩:=h;have nd:=gW.nd;refine⟨_,(aM (mU (bP aI6 (iC vS (pv 0) aL (λ_ _=>rfl)) aL (bL _)) (aM (bU (i:=2) nd rfl (Or.inl rfl) (eO sT (iC vS (pv 0) aL (λ_ _=>rfl)) (pv 1)))
  (aM (aC5 (eO aO6 (iC vS (pv 0) aL (λ_ _=>rfl)) (pv 1)) (aO0 (pv 0) aL uA))
  (aV (kY (pv 2))))) eX)
  (aM (bU (i:=3) nd rfl (Or.inl rfl) (eO sT (eO aD4 (iC vS (pv 0) aL (λ_ _=>rfl)) aL) aL))
  (aM (aC5 (eO fW (eO sT (eO fW (eO aD4 (pv 3) aL) aL) aL) aL) (aO0 (pv 0) aL uA))
  (aV (kY (eO sT (eO aO6 (eO fW (eO aD4 (pv 3) aL) (iC vS (pv 0) aL (λ_ _=>rfl))) aL) (pv 1))))))),?_⟩
 rw[show cT ["_law_box_here","_law_many","_law_digit","_law_one"] [.ref p,.int m]=([some (.ref p),some (.int m),none,none]:St)from rfl];have f:ixF H (.ref p) (.int 0)=some (.int i):=dF (aK d) rfl;have n:ixF H (.ref p) (.int 1)=some (.int j):=dF (aK d) rfl;have t:∀ x,bE4 x 69623:=λx=>dI2 (by decide) (by decide);have cd:∀ x,cO6 x m:=λx=>⟨c,l⟩
 try walk_at "sx"
 rw[iL f]
 try walk_at "sx"
 refine sX (λq=>?_) (λq=>?_)
 ·rw[iL f,aR2 c]
  try walk_at "sx"
  rw[iL f,bZ8 (cd _)]
  try walk_at "sx"
  rw[aR1 (k:=0) (j:=0) d rfl];exact k _ _ (a8h _ (by lia)) (a1g _ c) ⟨_,_,aE⟩ λb o g e=>by rw[aD g];exact e
 ·rw[iL n]
  try walk_at "sx"
  rw[aR1 (k:=1) (j:=1) d rfl]
  try walk_at "sx"
  rw[iL (dF (aK aE) rfl)]
  try walk_at "sx"
  rw[aR2 c];exact k _ _ (a8h _ (by lia)) (a1g _ c) ⟨_,_,aE⟩ λb o g e=>by rw[aD g];exact e
def dO(T:Txt K mg a):FnOk P w K mg base CX0 2 a.a1P a.a1o ["_law_box_here","_law_things"] (wM K):=by
 refine T.a0q.ok oQ (λvs H Q E h=>?_) (λcdv A outer s H vs Q E W h=>?_);obtain⟨p,q,b,xs,rfl,_⟩:=h;rfl;obtain⟨p,q,b,xs,rfl,I,X,hx,k⟩:=h;have nd:=oQ.nd;refine⟨_,(aM (bU (i:=2) nd rfl (Or.inl rfl) (dB jL (by rfl) T.a2I (mH) (aA (pv 1) aI)))
  (aM (bU (i:=3) nd rfl (Or.inl rfl) (nX aI))
  (aM (bE3 a6f (bP aI6 (bE dE (by rfl) T.a2p (eR) (aA (pv 2) aI)) aL (bL _)) (aV (gL (hU K rfl a4d a2f a3f eY (pv 3) (aA (hU K rfl a4d F.slot_list_pop F.type_list_pop bF0 (pv 2) (aA (aN (aP T) (W.mono (by decide)) rfl T.a0n T.a0l.kp (aR T) .nil bM (aA (pv 0) (aA (bE dE (by rfl) T.a2p (eR) (aA (pv 2) aI)) aI))) aI)) aI)))))
  (aV (kY (pv 3)))))),?_⟩
 rw[show cT ["_law_box_here","_law_things","_law_left","_law_found"] [.ref p,.ref q]=([some (.ref p),some (.ref q),none,none]:St)from rfl]
 try walk_at "sx"
 refine up (pJ X) ?_;intro l u;have x:l≠p:=by obtain⟨i,j,e⟩:=I;exact(aC e u).symm
 refine⟨a2d _,λf v=>?_⟩;have g:l≠f:=aC aE v;have y:f≠p:=by obtain⟨i,j,e⟩:=I.upd (o:=.lst xs) u;exact(aC e v).symm
 have z:H f=none:=by rw[aD g.symm]at v;exact v
 refine cA3 (λm σ H2=>∃ zs fs,m=zs.length/\σ=[some (.ref p),some (.ref q),some (.ref l),some (.ref f)]/\H2 l=some (.lst zs)/\H2 f=some (.lst fs)/\(fs++zs).Perm xs/\bB H2 p/\SameBut p H H2) xs.length
  ⟨xs,[],rfl,rfl,by rw[aD g];exact aE,aE,by simpa using List.Perm.refl xs,(I.upd u).upd v,λb o _ e=>by
   rw[aD (aC (H:=upd H l (.lst xs)) (by rw[aD (aC e u)];exact e) v),aD (aC e u)];exact e⟩ ?_
 rintro m σ H2 N ⟨zs,fs,rfl,rfl,G,n,c,B,C⟩ Y;have U:fs.length+zs.length=xs.length:=by rw[← c.length_eq,a6b]
 try walk_at "sx"
 rw[cV (aK G)]
 try walk_at "sx"
 refine sX (λJ=>?_) (λJ=>?_)
 ·have L:0 < (zs.length:Int):=by simpa using J
  refine⟨N,λ_ _ h=>h,?_⟩;refine⟨tyL n,tyL G,?_⟩;rw[cV (aK G)];refine kU ⟨p,_,rfl,B,L,by lia,λd H3 Z d1 M r=>?_⟩;have O:=r l _ x G;have R:=r f _ y n;have V:=yV (cS7 Z d1);have t:d.toNat < zs.length:=V.2.1;have n63:=nW;refine⟨l,zs,d,d.toNat,zs[d.toNat],rfl,rfl,O,by lia,by have:zs.length<=1000:=by lia
                                                                                                                                                                                                                                                                               lia,V.1,a0a t,?_⟩
  refine⟨f,fs,_,rfl,rfl,by rw[aD g.symm];exact R,a9g (by lia:fs.length<=1000) (by decide),?_⟩;refine Y _ _ (zs.eraseIdx d.toNat).length (by rw[List.length_eraseIdx_of_lt t];lia) ⟨_,_,rfl,rfl,by rw[aD g,aE],aE,?_,?_,?_⟩;refine List.Perm.trans ?_ c;rw[List.append_assoc];exact List.Perm.append_left fs (sY zs _ t);obtain⟨i,j,e⟩:=M;exact⟨i,j,by rw[aD y.symm,aD x.symm];exact e⟩;intro b o D e;have e2:=r b o D (C b o D e);rw[aD (aC e z),aD (aC e u)];exact e2
 ·have S:zs=[]:=by
   have:¬ (0 < (zs.length:Int)):=by simpa using J
   exact a9e (by lia)
  subst S;exact k f fs H2 z n (by simpa using c) B C
def cO(T:Txt K mg a):FnOk P w K mg base CX0 3 a.a0E a.a0r ["_law_box_here","_law_names_here","_law_many"] (kK K):=by
 refine T.a0o.ok fB (λvs H Q E h=>?_) (λcdv A outer s H vs Q E i h=>?_);obtain⟨p,q,b,xs,m,rfl,_⟩:=h;rfl;obtain⟨p,q,b,xs,m,rfl,n,o,u,f,k⟩:=h;have nd:=fB.nd;refine⟨_,(aV (kY (dB lF (by rfl) T.a1U (gC) (aA (jH bS3 (aN (dO T) (i.mono (by decide)) rfl T.a0H T.a0q.kp (fC T) .nil bM (aA (pv 0) (aA (pv 1) aI))) mX (mY (pv 2))) aI)))),?_⟩;rw[show cT ["_law_box_here","_law_names_here","_law_many"] [.ref p,.ref q,.int m]=([some (.ref p),some (.ref q),some (.int m)]:St)from rfl]
 try walk_at "sx"
 refine kU ⟨p,q,b,xs,rfl,n,o,u,λr ys z i v j d e=>?_⟩
 try walk_at "sx"
 refine wN (aK v) λl g=>?_;refine up (zF (aK aE)) ?_;intro t c;rw[gN f];refine k t (ys.take m.toNat) _ ((e.upd g).none (d.upd g) (by rw[gN f]at c;exact c)) aE (by rw[a7d,j.length_eq]) (λy x=>j.mem_iff.mp (a3e x)) ?_ ?_;rw[gN f]at c;exact(d.upd g).upd c;rw[gN f]at c;exact(e.upd g).upd c
def mR(T:Txt K mg a):FnOk P w K mg base CX0 4 a.a0N a.a0B ["_law_box_here","_law_names_here"] (rT K):=by
 refine T.a0F.ok gD (λvs H Q E h=>?_) (λcdv A outer s H vs Q E R h=>?_);obtain⟨p,q,N,rfl,_⟩:=h;rfl;obtain⟨p,q,N,rfl,hb,hq,S,⟨hsh,hn2⟩,k⟩:=h;have nd:=gD.nd;refine⟨_,(aM (bU (i:=2) nd rfl (Or.inl rfl) (jH bS3 (pv 1) mX (mY (eO fW aL (aN (aP T) (R.mono (by decide)) rfl T.a0n T.a0l.kp (aR T) .nil bM (aA (pv 0) (aA aL aI)))))))
  (aM (bU (i:=3) nd rfl (Or.inl rfl) (nX aI))
  (aM (gY a6f rfl (iG rfl T.a1C (aA (eO fW aL (aN (aP T) (R.mono (by decide)) rfl T.a0n T.a0l.kp (aR T) .nil bM (aA (pv 0) (aA aL aI)))) aI)) (aY (i:=4) nd rfl (Or.inl rfl))
  (aV (gL (hU K rfl a4d a2f a3f eY (pv 3) (aA (aN (cO T) (R.mono (by decide)) rfl T.a0v T.a0o.kp (dL T) .nil bM (aA (pv 0) (aA (pv 2) (aA (eO fW aL (aN (aP T) (R.mono (by decide)) rfl T.a0n T.a0l.kp (aR T) .nil bM (aA (pv 0) (aA (bE (pV rfl) (by rfl) T.a2S (vF) (aA aL (aA (bE dE (by rfl) T.a2p (eR) (aA (pv 2) aI)) aI))) aI)))) aI)))) aI)))))
  (aV (kY (pv 3)))))),?_⟩
 rw[show cT ["_law_box_here","_law_names_here","_law_pool","_law_found","_law_k"] [.ref p,.ref q]=([some (.ref p),some (.ref q),none,none,none]:St)from rfl];have hqp:q≠p:=by obtain⟨i,j,e⟩:=hb;intro z;subst z;rw[hq]at e;exact absurd (a3H (λo=>match o with | some (HO.lst l)=>l.length | _=>0) e) (by simp[S])
 try walk_at "sx"
 refine kU ⟨p,6,rfl,hb,by decide,by decide,λO H1 d10 d11 n D=>?_⟩
 try walk_at "sx"
 refine wN (aK (D q _ hqp hq)) λb d=>?_;have F:pG (N.map V.str) none (some (1+O))=(N.take (1+O).toNat).map V.str:=by rw[gN (by lia),a2k]
 have g:(N.take (1+O).toNat).length=(1+O).toNat:=by rw[a7d,S];lia
 have U:fQ (N.take (1+O).toNat):=λz hz=>hsh z (a3e hz);rw[F];generalize N.take (1+O).toNat=pl at g U ⊢
 try walk_at "sx"
 refine⟨a2d _,λf W=>?_⟩;have hb2:bB (upd (upd H1 b (.lst (pl.map V.str))) f (.lst [])) p:=(n.upd d).upd W;have hs2:SameBut p H (upd (upd H1 b (.lst (pl.map V.str))) f (.lst [])):=(D.upd d).upd W;have t:f≠p:=(n.upd d).ne W;have u:b≠p:=n.ne d;have X:b≠f:=aC aE W;have Y:H f=none:=(D.upd d).none (n.upd d) W;refine kU ⟨p,6,rfl,hb2,by decide,by decide,λd2 H3 d20 d21 hb3 G=>?_⟩
 try walk_at "sx"
 refine⟨_,rfl,by lia,by lia,?_⟩;refine aD3 (P:=λ_=>True) jK (λi σ H2=>∃ (es:List V) (o4:Option V),σ=[some (V.ref p),some (V.ref q),some (V.ref b),some (V.ref f),o4]/\H2 f=some (.lst es)/\es.length=i/\dZ H2 es/\H2 b=some (.lst (pl.map V.str))/\bB H2 p/\SameBut p H H2)
  ⟨[],none,rfl,G f _ t aE,rfl,(λe he=>nomatch he),G b _ u (by rw[aD X];exact aE),hb3,hs2.trans G⟩ (λ_ _ _ _=>trivial) ?_ ?_
 ·rintro i x σ H2 hx ⟨es,o4,rfl,v,I,J,y,B,L⟩;have hi:=(jJ hx).1
  try walk_at "sx"
  refine⟨tyL v,?_⟩;rw[cV (aK y)]
  try walk_at "sx"
  refine kU ⟨p,_,rfl,B,by rw[a1a,g];lia,by lia,λd5 H5 d50 d51 Z m=>?_⟩
  try walk_at "sx"
  refine kU ⟨p,b,true,_,_,rfl,Z,aK (m b _ u y),by rw[a1a,g];lia,by lia,λr ys H6 R e6 hyl hym hb6 C=>?_⟩;obtain⟨cs,rfl,hcs⟩:=kM hym;have M:=C f _ t (m f _ t v);refine⟨f,es,_,rfl,rfl,M,a9g (by lia:es.length<=6) (by decide),?_⟩;have tx:cW H2 H6:=(m.tup B).trans (C.tup Z);refine⟨es++[.ref r],_,rfl,aE,by simp[I],?_,?_,hb6.put t,((L.trans m).trans C).put Y⟩;intro e he;rcases a0c.mp he with h | h;exact(J.mono (tx.trans (gP M))) e h;rw[a3b.mp h];refine⟨r,cs,rfl,gP M _ _ e6,?_,λc hc=>U c (hcs c hc)⟩;rw[a1a]at hyl;rw[a1a]at hyl;lia;rw[aD X];exact C b _ u (m b _ u y)
 ·rintro σ H2 ⟨es,o4,rfl,v,I,J,y,B,L⟩;rw[dW]at I
  try walk_at "sx"
  exact k f es H2 Y v (by lia) (by lia) J B L
def mS(T:Txt K mg a):FnOk P w K mg base CX0 4 a.a0P a.a0y ["_law_box_here","_law_names_here"] (rT K):=by
 refine T.a0G.ok gF (λvs H Q E h=>?_) (λcdv A outer s H vs Q E hr h=>?_);obtain⟨p,q,zs,rfl,_⟩:=h;rfl;obtain⟨p,q,zs,rfl,hb,hq,hl6,⟨hsh,hn2⟩,k⟩:=h;have nd:=gF.nd;refine⟨_,(aM (bU (i:=2) nd rfl (Or.inl rfl) (dB jL (by rfl) T.a2I (mH) (aA (jH bS3 (pv 1) mX (mY aL)) aI)))
  (aM (bU (i:=3) nd rfl (Or.inl rfl) (nX aI))
  (aM (gY a6f rfl (iG rfl T.a1C (aA (eO fW aL (aN (aP T) (hr.mono (by decide)) rfl T.a0n T.a0l.kp (aR T) .nil bM (aA (pv 0) (aA aL aI)))) aI)) (aY (i:=4) nd rfl (Or.inl rfl))
  (aM (bU (i:=5) nd rfl (Or.inl rfl) (nX aI))
  (aM (mU (bP aI6 (pv 4) aL (bL _)) (aM (bU (i:=6) nd rfl (Or.inl rfl) (iC vS (pv 3) (aN (aP T) (hr.mono (by decide)) rfl T.a0n T.a0l.kp (aR T) .nil bM (aA (pv 0) (aA (pv 4) aI))) (λ_ _=>rfl)))
  (aV (bU (i:=5) nd rfl (Or.inl rfl) (dB jL (by rfl) T.a2I (mH) (aA (aN (cO T) (hr.mono (by decide)) rfl T.a0v T.a0o.kp (dL T) .nil bM (aA (pv 0) (aA (pv 6) (aA (aN (aP T) (hr.mono (by decide)) rfl T.a0n T.a0l.kp (aR T) .nil bM (aA (pv 0) (aA (eO fW (bE (pV rfl) (by rfl) T.a2S (vF) (aA aL (aA (bE dE (by rfl) T.a2p (eR) (aA (pv 6) aI)) aI))) aL) aI))) aI)))) aI))))) eX)
  (aM (gY a6f rfl (iG rfl T.a1C (aA (aN (aP T) (hr.mono (by decide)) rfl T.a0n T.a0l.kp (aR T) .nil bM (aA (pv 0) (aA (eO bQ9 aL (bE dE (by rfl) T.a2p (eR) (aA (pv 5) aI))) aI))) aI)) (aY (i:=7) nd rfl (Or.inl rfl))
  (aV (mU (bP aI6 (bE dE (by rfl) T.a2p (eR) (aA (pv 2) aI)) aL (bL _)) (aV (gL (hU K rfl a4d a2f a3f eY (pv 5) (aA (cB0 K rfl a4d F.slot_list_pop F.type_list_pop cQ8 (pv 2)) aI)))) eX)))
  (aM (mU (bP (lH hr.units) (bE dE (by rfl) T.a2p (eR) (aA (pv 5) aI)) aL (bL _)) (aV (bU (i:=5) nd rfl (Or.inl rfl) (bE2 (bP (lH hr.units) (pv 4) aL (bL _)) (nX (aA (iC vS (pv 1) aL (λ_ _=>rfl)) aI)) (nX (aA (iC vS (iC vS (pv 3) aL (λ_ _=>rfl)) aL (λ_ _=>rfl)) aI))))) eX)
  (aM (mU (PW.pt (sR (bP cS6 (iC vS (pv 1) aL (λ_ _=>rfl)) (pv 5) (by with_unfolding_all rfl)) (pT (bP cS6 (iC vS (pv 1) aL (λ_ _=>rfl)) (pv 2) (by with_unfolding_all rfl))))) (aV (gL (hU K rfl a4d F.slot_list_remove F.type_list_remove aR8 (pv 2) (aA (iC vS (pv 1) aL (λ_ _=>rfl)) aI)))) eX)
  (aV (gL (hU K rfl a4d a2f a3f eY (pv 3) (aA (dB lF (by rfl) T.a1U (gC) (aA (aN (dO T) (hr.mono (by decide)) rfl T.a0H T.a0q.kp (fC T) .nil bM (aA (pv 0) (aA (pv 5) aI))) aI)) aI))))))))))
  (aV (kY (pv 3)))))),?_⟩
 rw[show cT ["_law_box_here","_law_names_here","_law_left","_law_found","_law_k","_law_own","_law_one","_law_j"] [.ref p,.ref q]=([some (.ref p),some (.ref q),none,none,none,none,none,none]:St)from rfl];have hqp:q≠p:=by obtain⟨i,j,e⟩:=hb;intro z;subst z;rw[hq]at e;exact absurd (a3H (λo=>match o with | some (HO.lst l)=>l.length | _=>0) e) (by simp[hl6])
 obtain⟨z0,zr,hz0⟩:∃ z0 zr,zs=z0::zr:=by
  cases zs with
  | nil=>cases hl6
  | cons z r=>exact⟨z,r,rfl⟩
 have hz0s:Shz z0:=hsh z0 (by rw[hz0];exact a4a);have at0:∀ H',H' q=some (.lst (zs.map V.str))->ixF H' (.ref q) (.int 0)=some (.str z0):=λH' e=>dF (aK e) (by rw[hz0];exact dF3)
 try walk_at "sx"
 refine wN (aK hq) λl0 D=>?_;refine up (pJ (aK aE)) ?_;intro l hl;have el:pG (zs.map V.str) none (some 6)=(zs.take 6).map V.str:=by rw[gN (by decide),a2k];rfl
 rw[el]at hl ⊢;have lsh:fQ (zs.take 6):=λz R=>hsh z (a3e R);have llen:(zs.take 6).length<=6:=by rw[a7d];lia
 generalize zs.take 6=g at hl lsh llen ⊢
 try walk_at "sx"
 refine⟨a2d _,λf hf=>?_⟩;have hb1:bB (upd (upd (upd H l0 (.lst (g.map V.str))) l (.lst (g.map V.str))) f (.lst [])) p:=((hb.upd D).upd hl).upd hf;have hs1:SameBut p H (upd (upd (upd H l0 (.lst (g.map V.str))) l (.lst (g.map V.str))) f (.lst [])):=((SameBut.refl.upd D).upd hl).upd hf;have S:f≠p:=((hb.upd D).upd hl).ne hf;have U:l≠p:=(hb.upd D).ne hl;have hlf:l≠f:=aC aE hf;have hlH:H l=none:=(SameBut.refl.upd D).none (hb.upd D) hl;have hf0:H f=none:=((SameBut.refl.upd D).upd hl).none ((hb.upd D).upd hl) hf;have hll:(upd (upd (upd H l0 (.lst (g.map V.str))) l (.lst (g.map V.str))) f (.lst [])) l=some (.lst (g.map V.str)):=by rw[aD hlf];exact aE
 have hff:(upd (upd (upd H l0 (.lst (g.map V.str))) l (.lst (g.map V.str))) f (.lst [])) f=some (.lst []):=aE;generalize upd (upd (upd H l0 (.lst (g.map V.str))) l (.lst (g.map V.str))) f (.lst [])=H1 at hb1 hs1 hll hff ⊢;refine kU ⟨p,6,rfl,hb1,by decide,by decide,λd2 H3 d20 d21 hb3 hs3=>?_⟩
 try walk_at "sx"
 refine⟨_,rfl,by lia,by lia,?_⟩;refine aD3 (P:=λ_=>True) jK (λi σ H2=>∃ (es:List V) (ls:List Str) (o4 o5 o6 o7:Option V),σ=[some (V.ref p),some (V.ref q),some (V.ref l),some (V.ref f),o4,o5,o6,o7]/\H2 f=some (.lst es)/\es.length=i/\dZ H2 es /\
   (∀ e,es[0]? = some e->∃ (c:Addr) (z:Str) (G:List Str),e=.ref c/\H2 c=some (.tup ((z::G).map V.str))/\Shz z)/\H2 l=some (.lst (ls.map V.str))/\fQ ls/\ls.length<=6/\bB H2 p/\SameBut p H H2)
  ⟨[],g,none,none,none,none,rfl,hs3 f _ S hff,rfl,(λe u=>nomatch u),(λe u=>by simp at u),hs3 l _ U hll,lsh,llen,hb3,hs1.trans hs3⟩ (λ_ _ _ _=>trivial) ?_ ?_
 ·rintro i x σ H2 hx ⟨es,ls,o4,o5,o6,o7,rfl,hfe,hel,hse,hfst,hle,hlsh,hll6,J,hs4⟩;obtain⟨hi,rfl⟩:=jJ hx;have hi6:i < 6:=by lia
  try walk_at "sy"
  rw[pZ]
  try walk_at "sy"
  refine⟨a2d _,λw0 b=>?_⟩
  try walk_at "sy"
  -- what an own list is: at w,texts ws
  refine iP (λσ' H'=>∃ (w:Addr) (ws:List Str) (I:Option V),σ'=[some (V.ref p),some (V.ref q),some (V.ref l),some (V.ref f),some (V.int (0+(i:Int))),some (V.ref w),I,o7]/\H w=none/\w≠l/\w≠f/\H' w=some (.lst (ws.map V.str))/\ws.length<=3/\fQ ws /\
   H' f=some (.lst es)/\dZ H' es/\(∀ e,es[0]? = some e->∃ (c:Addr) (z:Str) (G:List Str),e=.ref c/\H' c=some (.tup ((z::G).map V.str))/\Shz z)/\H' l=some (.lst (ls.map V.str))/\bB H' p/\SameBut p H H') ?_ ?_
  ·rintro σ' H5 ⟨w,ws,I,rfl,hwn,hwl,hwf,hww,hwlen,hwsh,hfe5,hse5,hfst5,hle5,hb5,hs5⟩;have hwp:w≠p:=by intro z;subst z;obtain⟨i',j',e'⟩:=hb;rw[hwn]at e';cases e'
   -- the row of the inner loop
   refine iP (λσ' H'=>∃ (ws' ls':List Str) (n:Option V),σ'=[some (V.ref p),some (V.ref q),some (V.ref l),some (V.ref f),some (V.int (0+(i:Int))),some (V.ref w),I,n]/\H' w=some (.lst (ws'.map V.str))/\ws'.length<=4/\fQ ws' /\
    H' f=some (.lst es)/\dZ H' es/\(∀ e,es[0]? = some e->∃ (c:Addr) (z:Str) (G:List Str),e=.ref c/\H' c=some (.tup ((z::G).map V.str))/\Shz z)/\H' l=some (.lst (ls'.map V.str))/\fQ ls'/\ls'.length<=6/\bB H' p/\SameBut p H H') ?_ ?_
   ·rintro σ' H6 ⟨ws',ls',n,rfl,hww6,hwlen6,hwsh6,M,hse6,L,N,hlsh6,hll6',W,m⟩
    -- none at all
    refine iP (λσ' H'=>∃ (w':Addr) (ws'':List Str),σ'=[some (V.ref p),some (V.ref q),some (V.ref l),some (V.ref f),some (V.int (0+(i:Int))),some (V.ref w'),I,n]/\H' w'=some (.lst (ws''.map V.str))/\1<=ws''.length/\ws''.length<=4/\fQ ws'' /\
     H' f=some (.lst es)/\dZ H' es/\(∀ e,es[0]? = some e->∃ (c:Addr) (z:Str) (G:List Str),e=.ref c/\H' c=some (.tup ((z::G).map V.str))/\Shz z)/\H' l=some (.lst (ls'.map V.str))/\w'≠l/\bB H' p/\SameBut p H H') ?_ ?_
    ·rintro σ' H7 ⟨w',ws'',rfl,hww7,hw1,hwlen7,hwsh7,hfe7,hse7,hfst7,B,hwl7,hb7,hs7⟩;have hq7:H7 q=some (.lst (zs.map V.str)):=hs7 q _ hqp hq
     -- the first name taken out
     refine iP (λσ' H'=>∃ (ls'':List Str),σ'=[some (V.ref p),some (V.ref q),some (V.ref l),some (V.ref f),some (V.int (0+(i:Int))),some (V.ref w'),I,n]/\H' w'=some (.lst (ws''.map V.str)) /\
      H' f=some (.lst es)/\dZ H' es/\(∀ e,es[0]? = some e->∃ (c:Addr) (z:Str) (G:List Str),e=.ref c/\H' c=some (.tup ((z::G).map V.str))/\Shz z)/\H' l=some (.lst (ls''.map V.str))/\fQ ls''/\ls''.length<=6/\bB H' p/\SameBut p H H') ?_ ?_
     ·rintro σ' H8 ⟨ls'',rfl,hww8,hfe8,hse8,hfst8,hle8,hlsh8,hll8,hb8,hs8⟩
      try walk_at "sx"
      refine⟨tyL hfe8,?_⟩;refine kU ⟨p,w',true,_,rfl,hb8,aK hww8,by rw[a1a];lia,λr ys H9 hr e9 hpm hb9 hs9=>?_⟩;refine up (zF (aK e9)) ?_;intro t ht;obtain⟨G,rfl,hcs⟩:=kM (zs:=ws'') λy hy=>hpm.mem_iff.mp hy;have cl:G.length=ws''.length:=by have:=hpm.length_eq;simpa using this
      have hf9:(upd H9 t (.tup (G.map V.str))) f=some (.lst es):=by
       have:=hs9 f _ S hfe8;rw[aD (aC this ht)];exact this
      refine⟨f,es,_,rfl,rfl,hf9,a9g (by lia:es.length<=6) (by decide),?_⟩;have tx:cW H8 (upd (upd H9 t (.tup (G.map V.str))) f (.lst (es++[.ref t]))):=((hs9.tup hb8).trans (fR ht)).trans (gP hf9);refine⟨es++[.ref t],ls'',_,_,_,_,rfl,aE,by simp[hel],?_,?_,?_,hlsh8,hll8,(hb9.upd ht).put S,((hs8.trans hs9).upd ht).put hf0⟩;intro e u;rcases a0c.mp u with h | h;exact(hse8.mono tx) e h;rw[a3b.mp h];exact⟨t,G,rfl,gP hf9 _ _ aE,by lia,λc hc=>hwsh7 c (hcs c hc)⟩
      ·intro e u;cases es with
       | nil=>
         have he':e=.ref t:=by simpa using u.symm
         cases G with
         | nil=>rw[a5j]at cl;lia
         | cons c cr=>exact⟨t,c,cr,he',gP hf9 _ _ aE,hwsh7 c (hcs c a4a)⟩
       | cons e1 er=>
         obtain⟨c,z,d,X,Y,Z⟩:=hfst8 e (by simpa using u);exact⟨c,z,d,X,tx _ _ Y,Z⟩
      ·rw[aD hlf];have:=hs9 l _ U hle8;rw[aD (aC this ht)];exact this
     ·intro C hC
      try walk_at "sx"
      rw[iL (at0 _ hq7)];refine⟨true,_,aK hww7,rfl,wJ _,?_⟩;have skip:C [some (V.ref p),some (V.ref q),some (V.ref l),some (V.ref f),some (V.int (0+(i:Int))),some (V.ref w'),I,n] H7:=hC _ _ ⟨ls',rfl,hww7,hfe7,hse7,hfst7,B,hlsh6,hll6',hb7,hs7⟩
      try walk_at "sx"
      refine sX (λ_=>?_) (λ_=>?_)
      ·rw[iL (at0 _ hq7)];refine⟨true,_,aK B,rfl,wJ _,?_⟩
       try walk_at "sx"
       refine sX (λhin=>?_) (λ_=>skip);refine⟨tyL B,?_⟩;rw[iL (at0 _ hq7)];refine⟨l,ls',z0,rfl,rfl,B,aD8 (by simpa using hin),λj hj=>?_⟩;refine hC _ _ ⟨ls'.eraseIdx j,rfl,by rw[aD hwl7];exact hww7,by rw[aD hlf.symm];exact hfe7,hse7.mono (gP B),?_,aE,λz R=>hlsh6 z (List.mem_of_mem_eraseIdx R),a8b (lA _ _) hll6',hb7.put U,hs7.put hlH⟩;intro e u;obtain⟨c,z,d,X,Y,Z⟩:=hfst7 e u;exact⟨c,z,d,X,gP B _ _ Y,Z⟩
      ·try refine cR2 ?_
       exact skip
    ·intro C hC
     try walk_at "sx"
     rw[cV (aK hww6)]
     try walk_at "sx"
     refine sX (λhc=>?_) (λhc=>?_)
     ·have fin:∀ (z:Str) (H':Hp),Shz z->H'=H6->1<=sizeLine/\∀ v,H' v=none->C [some (V.ref p),some (V.ref q),some (V.ref l),some (V.ref f),some (V.int (0+(i:Int))),some (V.ref v),I,n] (upd H' v (.lst [V.str z])):=λz H' R u=>by
       subst u;refine⟨by decide,λv hv=>hC _ _ ⟨v,[z],rfl,aE,a6a _,by show 1<=4;decide,(λy hy=>by rw[a3b.mp hy];exact R),?_,hse6.mono (fR hv),?_,?_,(aC N hv).symm,W.upd hv,m.upd hv⟩⟩;rw[aD (aC M hv)];exact M;intro e u;obtain⟨c,z,d,X,Y,Z⟩:=L e u;exact⟨c,z,d,X,fR hv _ _ Y,Z⟩;rw[aD (aC N hv)];exact N
      refine sX (λhk=>?_) (λhk=>?_);rw[iL (at0 _ (m q _ hqp hq))];exact fin z0 _ hz0s rfl;have hi0:0 < i:=by
       have:¬ ((0:Int)+(i:Int)=0):=by simpa using hk
       lia
      obtain⟨e0,er,hes⟩:∃ e0 er,es=e0::er:=by
       cases es with
       | nil=>rw[a5j]at hel;lia
       | cons e r=>exact⟨e,r,rfl⟩
      obtain⟨c,z,d,X,Y,Z⟩:=L e0 (by rw[hes];rfl);rw[iL (dF (aK M) (show atI es 0=some e0 by rw[hes];exact dF3))];rw[X,iL (dF (bA Y) (show atI ((z::d).map V.str) 0=some (V.str z)from dF3))];exact fin z _ Z rfl
     ·have hne:1<=ws'.length:=by
       have:¬ ((ws'.length:Int)=0):=by simpa using hc
       lia
      exact hC _ _ ⟨w,ws',rfl,hww6,hne,hwlen6,hwsh6,M,hse6,L,N,hwl,W,m⟩
   ·intro C hC
    try walk_at "sx"
    rw[cV (aK hww)]
    try walk_at "sx"
    refine kU ⟨p,_,rfl,hb5,by rw[a1a];lia,by lia,λd6 H6 d60 d61 W m=>?_⟩;rw[a1a]at d61;refine⟨_,rfl,by lia,by lia,?_⟩;have tx6:cW H5 H6:=m.tup hb5;refine aD3 (P:=λ_=>True) jK (λj σ H7=>∃ (ws' ls':List Str) (n:Option V),σ=[some (V.ref p),some (V.ref q),some (V.ref l),some (V.ref f),some (V.int (0+(i:Int))),some (V.ref w),I,n]/\H7 w=some (.lst (ws'.map V.str))/\ws'.length<=ws.length+j/\fQ ws' /\
      H7 f=some (.lst es)/\cW H6 H7/\H7 l=some (.lst (ls'.map V.str))/\fQ ls'/\ls'.length<=6/\bB H7 p/\SameBut p H H7)
     ⟨ws,ls,_,rfl,m w _ hwp hww,a6a _,hwsh,m f _ S hfe5,cW.refl _,m l _ U hle5,hlsh,hll6,W,hs5.trans m⟩ (λ_ _ _ _=>trivial) ?_ ?_
    ·rintro j y σ H7 hy ⟨ws',ls',n,rfl,g1,g2,g3,g4,g5,g6,g7,g8,g9,g10⟩;have hj:=(jJ hy).1
     try walk_at "sx"
     rw[cV (aK g6)]
     try walk_at "sx"
     refine sX (λhc=>?_) (λhc=>?_)
     ·have hpos:0 < ls'.length:=by
       have:0 < ((ls'.map V.str).length:Int):=by simpa using hc
       rw[a1a]at this;lia
      refine⟨tyL g1,tyL g6,?_⟩;have hlast:ls'[ls'.length-1]? = some ls'[ls'.length-1]:=a0a (by lia);refine⟨l,_,V.str ls'[ls'.length-1],rfl,rfl,g6,by rw[a1a,a4b,hlast];rfl,?_⟩;have g1':(upd H7 l (.lst (ls'.map V.str).dropLast)) w=some (.lst (ws'.map V.str)):=by rw[aD hwl];exact g1
      refine⟨w,_,_,rfl,rfl,g1',by rw[a1a];exact a9g (by lia:ws'.length<=10) (by decide),?_⟩;refine⟨ws'++[ls'[ls'.length-1]],ls'.dropLast,_,rfl,by rw[aE];simp,by simp;lia,?_,?_,?_,?_,?_,?_,?_,?_⟩;intro z R;rcases a0c.mp R with h | h;exact g3 z h;rw[a3b.mp h];exact g7 _ (List.getElem_mem _);rw[aD hwf.symm,aD hlf.symm];exact g4;exact(g5.trans (gP g6)).trans (gP g1');rw[aD hwl.symm,aE,List.map_dropLast];exact λz R=>g7 z (List.dropLast_subset _ R);rw[List.length_dropLast];lia;exact(g9.put U).put hwp;exact(g10.put hlH).put hwn
     ·exact⟨ws',ls',_,rfl,g1,by lia,g3,g4,g5,g6,g7,g8,g9,g10⟩
    ·rintro σ H7 ⟨ws',ls',n,rfl,g1,g2,g3,g4,g5,g6,g7,g8,g9,g10⟩;rw[dW]at g2
     try walk_at "sx"
     refine hC _ _ ⟨ws',ls',_,rfl,g1,by lia,g3,g4,hse5.mono (tx6.trans g5),?_,g6,g7,g8,g9,g10⟩;intro e u;obtain⟨c,z,d,X,Y,Z⟩:=hfst5 e u;exact⟨c,z,d,X,(tx6.trans g5) _ _ Y,Z⟩
  ·intro C hC;have hw0n:H w0=none:=hs4.none J b;have hfe':(upd H2 w0 (.lst [])) f=some (.lst es):=by rw[aD (aC hfe b)];exact hfe
   have hle':(upd H2 w0 (.lst [])) l=some (.lst (ls.map V.str)):=by rw[aD (aC hle b)];exact hle
   try walk_at "sx"
   refine sX (λhc=>?_) (λhc=>?_)
   ·have hi0:0 < i:=by
     have:(0:Int) < 0+(i:Int):=by simpa using hc
     lia
    refine kU ⟨p,_,rfl,J.upd b,by lia,by lia,λd5 H5 d50 d51 hb5 hs5=>?_⟩;obtain⟨e1,he1⟩:=lD (ys:=es) d50 (by lia);rw[iL (dF (aK (hs5 f _ S hfe')) he1)];obtain⟨c,G,rfl,hcc,hcl,hcsh⟩:=hse e1 (iM he1);have hc5:H5 c=some (.tup (G.map V.str)):=(hs5.tup (J.upd b)) _ _ (fR b _ _ hcc)
    try walk_at "sx"
    rw[cV (bA hc5)]
    try walk_at "sx"
    refine kU ⟨p,_,rfl,hb5,by rw[a1a];lia,by rw[a1a];lia,λd6 H6 d60 d61 W m=>?_⟩;rw[a1a]at d61;refine kU ⟨p,c,false,_,_,rfl,W,bA ((m.tup hb5) _ _ hc5),by rw[a1a];lia,d60,λr ys H7 hr e7 hyl hym hb7 hs7=>?_⟩;obtain⟨cs2,rfl,hcs2⟩:=kM hym;refine up (pJ (bA e7)) ?_;intro w hw;have O:SameBut p (upd H2 w0 (.lst [])) H7:=(hs5.trans m).trans hs7;have hs07:SameBut p H H7:=(hs4.upd b).trans O;have hwn:H w=none:=hs07.none hb7 hw;have hf7:=O f _ S hfe';have hl7:=O l _ U hle';have tx:cW H2 (upd H7 w (.lst (cs2.map V.str))):=((fR b).trans (O.tup (J.upd b))).trans (fR hw);refine hC _ _ ⟨w,cs2,_,rfl,hwn,(aC hl7 hw).symm,(aC hf7 hw).symm,aE,?_,λz R=>hcsh z (hcs2 z R),by rw[aD (aC hf7 hw)];exact hf7,hse.mono tx,?_,by rw[aD (aC hl7 hw)];exact hl7,hb7.upd hw,hs07.upd hw⟩;rw[a1a,a1a]at hyl;lia;intro e u;obtain⟨c',z,d,X,Y,Z⟩:=hfst e u;exact⟨c',z,d,X,tx _ _ Y,Z⟩
   ·refine hC _ _ ⟨w0,[],_,rfl,hw0n,(aC hle b).symm,(aC hfe b).symm,aE,a2d _,(λz R=>nomatch R),hfe',hse.mono (fR b),?_,hle',J.upd b,hs4.upd b⟩;intro e u;obtain⟨c',z,d,X,Y,Z⟩:=hfst e u;exact⟨c',z,d,X,fR b _ _ Y,Z⟩
 ·rintro σ H2 ⟨es,ls,o4,o5,o6,o7,rfl,hfe,hel,hse,hfst,hle,hlsh,hll6,J,hs4⟩;rw[dW]at hel
  try walk_at "sx"
  exact k f es H2 hf0 hfe (by lia) (by lia) hse J hs4
def kS(T:Txt K mg a):FnOk P w K mg base CX0 4 a.a0J a.a0s ["_law_box_here","_law_names_here"] (rT K):=by
 refine T.a0x.ok fL (λvs H Q E h=>?_) (λcdv A outer s H vs Q E X h=>?_);obtain⟨p,q,zs,rfl,_⟩:=h;rfl;obtain⟨p,q,zs,rfl,hb,hq,hl6,⟨hsh,hn2⟩,k⟩:=h;have nd:=fL.nd;refine⟨_,(aM (bU (i:=2) nd rfl (Or.inr rfl) (eO fW aL (aN (aP T) (X.mono (by decide)) rfl T.a0n T.a0l.kp (aR T) .nil bM (aA (pv 0) (aA aL aI)))))
  (aM (bU (i:=3) nd rfl (Or.inr rfl) (jH bS3 (pv 1) mX (mY (pv 2))))
  (aM (jI (i:=4) nd rfl rfl (csc [7] (by kernel_rfl)) (iG rfl T.a1C (aA (pv 2) aI)) (λ_ _ _ _=>(aY (i:=7) nd rfl (Or.inl rfl) (.inr rfl))) (eZ (by decide)) (λ_ _ _ _=>pH) (λ_ _ _ _=>(nX (aA (iC vS (pv 3) (pv 7) (λ_ _=>rfl)) (aA (iC vS (pv 3) (eO sT (eO fW (pv 7) aL) (pv 2)) (λ_ _=>rfl)) aI)))) rfl)
  (aM (mU (PW.pt (sR (bP aP0 (pv 2) aL (bL _)) (pT (bP (lH X.units) (aN (aP T) (X.mono (by decide)) rfl T.a0n T.a0l.kp (aR T) .nil bM (aA (pv 0) (aA aL aI))) aL (bL _))))) (aV (jI (i:=4) nd rfl rfl (csc [5] (by kernel_rfl)) (qB K rfl (pv 3)) (λ_ _ _ _=>(aY (i:=5) nd rfl (Or.inr rfl) (.inl rfl))) (eZ (by decide)) (λ_ _ _ _=>pH) (λ_ _ _ _=>(yZ (csc [8] (by kernel_rfl)) (qB K rfl (pv 3)) (λ_ _ _ _=>(aY (i:=8) nd rfl (Or.inl rfl) (.inr rfl))) (eZ (by decide)) (λ_ _ _ _=>(aC9 (bP (cS8 X.units) (pv 8) (pv 5) (bL _)))) (λ_ _ _ _=>(pv 8)))) rfl)) eX)
  (aM (mU (PW.pt (sR (bP aP0 (pv 2) aL (bL _)) (pT (bP (lH X.units) (aN (aP T) (X.mono (by decide)) rfl T.a0n T.a0l.kp (aR T) .nil bM (aA (pv 0) (aA aL aI))) aL (bL _))))) (aM (bU (i:=5) nd rfl (Or.inl rfl) (iC vS (pv 4) (aN (aP T) (X.mono (by decide)) rfl T.a0n T.a0l.kp (aR T) .nil bM (aA (pv 0) (aA (pv 2) aI))) (λ_ _=>rfl)))
  (aV (gL (hU K rfl a4d a2f a3f eY (pv 4) (aA (dB jL (by rfl) T.a2I (mH) (aA (aN (cO T) (X.mono (by decide)) rfl T.a0v T.a0o.kp (dL T) .nil bM (aA (pv 0) (aA (pv 5) (aA (eO fW aL (aN (aP T) (X.mono (by decide)) rfl T.a0n T.a0l.kp (aR T) .nil bM (aA (pv 0) (aA aL aI)))) aI)))) aI)) aI))))) eX)
  (aM (mU (PW.pt (sR (bP aP0 (pv 2) aL (bL _)) (sR (bP aP0 (bE dE (by rfl) T.a2p (eR) (aA (iC vS (pv 4) aL (λ_ _=>rfl)) aI)) aL (bL _)) (pT (bP (lH X.units) (aN (aP T) (X.mono (by decide)) rfl T.a0n T.a0l.kp (aR T) .nil bM (aA (pv 0) (aA aL aI))) aL (bL _)))))) (aV (gY a6f rfl (qB K rfl (jH bS3 (pv 4) mX (mY (eO fW aL (aN (aP T) (X.mono (by decide)) rfl T.a0n T.a0l.kp (aR T) .nil bM (aA (pv 0) (aA aL aI))))))) (aY (i:=6) nd rfl (Or.inl rfl))
  (aV (gL (hU K rfl a4d a2f a3f eY (pv 6) (aA (iC vS (pv 1) (pv 2) (λ_ _=>rfl)) aI)))))) eX)
  (aV (kY (yZ (csc [6] (by kernel_rfl)) (qB K rfl (aN (dO T) (X.mono (by decide)) rfl T.a0H T.a0q.kp (fC T) .nil bM (aA (pv 0) (aA (pv 4) aI)))) (λ_ _ _ _=>(aY (i:=6) nd rfl (Or.inl rfl) (.inr rfl))) (eZ (by decide)) (λ_ _ _ _=>pH) (λ_ _ _ _=>(dB lF (by rfl) T.a1U (gC) (aA (aN (dO T) (X.mono (by decide)) rfl T.a0H T.a0q.kp (fC T) .nil bM (aA (pv 0) (aA (pv 6) aI))) aI)))))))))))),?_⟩
 rw[show cT ["_law_box_here","_law_names_here","_law_many","_law_ring","_law_sets","_law_one","_law_own","_law_k","_law_column"] [.ref p,.ref q]=([some (.ref p),some (.ref q),none,none,none,none,none,none,none]:St)from rfl];have hqp:q≠p:=by obtain⟨i,j,e⟩:=hb;intro z;subst z;rw[hq]at e;exact absurd (a3H (λo=>match o with | some (HO.lst l)=>l.length | _=>0) e) (by simp[hl6])
 try walk_at "sy"
 rw[pZ]
 try walk_at "sy"
 refine kU ⟨p,4,rfl,hb,by decide,by decide,λd1 H1 d10 d11 hb1 hs1=>?_⟩
 try walk_at "sy"
 rw[pZ]
 try walk_at "sy"
 refine wN (aK (hs1 q _ hqp hq)) λg hg=>?_;have eg:pG (zs.map V.str) none (some (3+d1))=(zs.take (3+d1).toNat).map V.str:=by rw[gN (by lia),a2k]
 have glen:(zs.take (3+d1).toNat).length=(3+d1).toNat:=by rw[a7d,hl6];lia
 have gsh:fQ (zs.take (3+d1).toNat):=λz hz=>hsh z (a3e hz);have gn2:Ne2 (zs.take (3+d1).toNat):=hn2.take (by lia);rw[eg];generalize zs.take (3+d1).toNat=J at glen gsh gn2 ⊢;have hgp:g≠p:=hb1.ne hg;have hgq:g≠q:=(aC (hs1 q _ hqp hq) hg).symm;have hg0:H g=none:=hs1.none hb1 hg;have hb2:bB (upd H1 g (.lst (J.map V.str))) p:=hb1.upd hg;have hs2:SameBut p H (upd H1 g (.lst (J.map V.str))):=hs1.upd hg;have hgg:(upd H1 g (.lst (J.map V.str))) g=some (.lst (J.map V.str)):=aE;generalize upd H1 g (.lst (J.map V.str))=H2 at hb2 hs2 hgg ⊢;clear hb1 hs1 hg eg;have m0:3<=3+d1:=by lia
 have m6:3+d1<=6:=by lia
 generalize hmm:(3+d1:Int)=m at glen m0 m6 ⊢;clear hmm d10 d11 d1
 -- lists of own: each new,none the ring
 have mono:∀ {H' H'':Hp} {es:List V} {n:Nat},bD H g H' n es->(∀ w,H w=none->w≠g->∀ o,H' w=some o->H'' w=some o)->bD H g H'' n es:=λho hk e D=>by
  obtain⟨w,ws,L,Y,e3,e4,e5,e6⟩:=ho e D;exact⟨w,ws,L,hk w e5 e6 _ Y,e3,e4,e5,e6⟩
 have b:∀ {w:Addr},H w=none->w≠p:=λhw z=>by subst z;obtain⟨i',j',e'⟩:=hb;rw[hw]at e';cases e'
 have d:∀ {H' H'':Hp} {es:List V} {n:Nat},bD H g H' n es->SameBut p H' H''->bD H g H'' n es:=λho hs=>mono ho λw hw _ o e=>hs w o (b hw) e;have B:∀ {H':Hp} {es:List V} {n:Nat} {l:Addr} {o:HO},bD H g H' n es->H' l=none->bD H g (upd H' l o) n es:=λho f=>mono ho λw _ _ o e=>by rw[aD (aC e f)];exact e
 refine iP (λσ' H'=>∃ (s:Addr) (es:List V),σ'=[some (V.ref p),some (V.ref q),some (V.int m),some (V.ref g),some (V.ref s),none,none,none,none]/\H s=none/\s≠g/\H' s=some (.lst es)/\es.length=m.toNat/\bD H g H' 6 es/\H' g=some (.lst (J.map V.str))/\bB H' p/\SameBut p H H') ?_ ?_
 ·rintro σ' H3 ⟨s,es,rfl,F,hsg,G,hel,I,hg3,hb3,hs3⟩;refine iP (λσ' H'=>∃ (s:Addr) (es:List V),σ'=[some (V.ref p),some (V.ref q),some (V.int m),some (V.ref g),some (V.ref s),none,none,none,none]/\H s=none/\s≠g/\H' s=some (.lst es)/\es.length=m.toNat/\bD H g H' 6 es/\H' g=some (.lst (J.map V.str))/\bB H' p/\SameBut p H H') ?_ ?_
  ·clear F hsg G hel I hg3 hb3 hs3;rintro σ' H4 ⟨s,es,rfl,F,hsg,G,hel,I,hg4,hb4,hs4⟩;refine iP (λσ' H'=>∃ (es:List V) (o5:Option V),σ'=[some (V.ref p),some (V.ref q),some (V.int m),some (V.ref g),some (V.ref s),o5,none,none,none]/\H' s=some (.lst es)/\1<=es.length/\es.length<=6/\bD H g H' 6 es/\H' g=some (.lst (J.map V.str))/\bB H' p/\SameBut p H H') ?_ ?_
   ·clear G hel I hg4 hb4 hs4;rintro σ' H5 ⟨es,o5,rfl,G,hel1,hel6,I,hg5,Z,M⟩;refine iP (λσ' H'=>∃ (o6:Option V),σ'=[some (V.ref p),some (V.ref q),some (V.int m),some (V.ref g),some (V.ref s),o5,o6,none,none]/\H' s=some (.lst es)/\bD H g H' 10 es/\bB H' p/\SameBut p H H') ?_ ?_
    ·rintro σ' H6 ⟨o6,rfl,hse6,hol6,hb6,hs6⟩
     try walk_at "sx"
     refine kU ⟨p,s,true,es,rfl,hb6,aK hse6,by lia,λr ys H7 X e7 hpm hb7 U=>?_⟩;have hol7:bD H g H7 10 ys:=λe D=>(d hol6 U) e (hpm.mem_iff.mp D);refine up (pI (aK e7)) ?_;have hrp:r≠p:=hb6.ne X;refine uI (iK (xs:=ys)) (λi zs' H'=>zs'.length=i/\dZ H' zs'/\H' r=some (.lst ys)/\bD H g H' 10 ys/\bB H' p/\SameBut p H H') ⟨rfl,(λe D=>nomatch D),e7,hol7,hb7,hs6.trans U⟩ ?_ (by have:=hpm.length_eq;exact a8b (by lia:ys.length<=6) (by decide)) ?_ ?_;rintro i zs' H' ⟨h1,_,u,_⟩;exact⟨SqL.of u,by lia⟩
     ·rintro i x zs' H' N hx ⟨h1,h2,u,R,O,h6⟩ hN;have hxm:x∈ys:=a9b hx;obtain⟨w,ws,rfl,ww,wl,wsh,wn,wg⟩:=R x hxm
      try walk_at "sx"
      refine kU ⟨p,w,true,_,rfl,O,aK ww,by rw[a1a];lia,λr2 ys2 H8 hr2 e8 hpm2 hb8 hs8=>?_⟩;refine up (zF (aK e8)) ?_;intro t ht;obtain⟨cs,rfl,hcs⟩:=kM (zs:=ws) λy hy=>hpm2.mem_iff.mp hy;have cl:cs.length=ws.length:=by have:=hpm2.length_eq;simpa using this
      refine hN _ _ ⟨by simp[h1],?_,?_,B (d R hs8) ht,hb8.upd ht,(h6.trans hs8).upd ht⟩;intro e D;rcases a0c.mp D with h | h;exact(h2.mono ((hs8.tup O).trans (fR ht))) e h;rw[a3b.mp h];exact⟨t,cs,rfl,aE,by lia,λc hc=>wsh c (hcs c hc)⟩;have:=hs8 r _ hrp u;rw[aD (aC this ht)];exact this
     ·rintro zs' H' ⟨h1,h2,u,R,O,h6⟩ l f;have:=hpm.length_eq;exact k l zs' _ (h6.none O f) aE (by lia) (by lia) (h2.mono (fR f)) (O.upd f) (h6.upd f)
    ·intro C hC;have skip:∀ H',H'=H5->C [some (V.ref p),some (V.ref q),some (V.int m),some (V.ref g),some (V.ref s),o5,none,none,none] H':=λH' e=>by
      subst e;exact hC _ _ ⟨none,rfl,G,(λe D=>by obtain⟨w,ws,L,Y,e3,e4⟩:=I e D;exact⟨w,ws,L,Y,by lia,e4⟩),Z,M⟩
     try walk_at "sx"
     refine sX (λhm=>?_) (λ_=>?_)
     ·obtain⟨e0,er,hes⟩:∃ e0 er,es=e0::er:=by
       cases es with
       | nil=>rw[a5j]at hel1;lia
       | cons e r=>exact⟨e,r,rfl⟩
      obtain⟨w0,ws0,f1,f2,f3,f4,f5,f6⟩:=I e0 (by rw[hes];exact a4a);refine up (iL (dF (aK G) (show atI es 0=some e0 by rw[hes];exact dF3))) ?_;rw[f1,cV (aK f2)]
      try walk_at "sx"
      refine sX (λ_=>?_) (λ_=>?_)
      ·refine kU ⟨p,2,rfl,Z,by decide,by decide,λd6 H6 d60 d61 hb6 hs6=>?_⟩
       try walk_at "sx"
       have hol6:=d I hs6;have hse6:=hs6 s _ (b F) G;refine sX (λ_=>?_) (λ_=>?_)
       ·refine kU ⟨p,2,rfl,hb6,by decide,by decide,λd7 H7 d70 d71 hb7 U=>?_⟩
        try walk_at "sx"
        have hol7:=d hol6 U;have hse7:=U s _ (b F) hse6;refine wN (aK hse7) λc hc=>?_;have hcl:(pG es none (some (1+d7))).length<=2:=by rw[gN (by lia),a7d];lia
        have hcm:∀ e∈pG es none (some (1+d7)),e∈es:=λe D=>by rw[gN (by lia)]at D;exact a3e D
        refine up (pI (aK aE)) ?_;generalize pG es none (some (1+d7))=xs at hcl hcm ⊢;have hs57:SameBut p H H7:=(M.trans hs6).trans U;have hcn:H c=none:=hs57.none hb7 hc;have hcs:c≠s:=(aC hse7 hc).symm;have her:∀ e∈es,∃ w,e=V.ref w:=λe D=>by obtain⟨w,_,L,_⟩:=I e D;exact⟨w,L⟩
        have hm6:m < 6:=by simpa using hm
        obtain⟨z7,hz7⟩:=lD (ys:=zs) (i:=m) (by lia) (by lia);have hz7s:=hsh z7 (iM hz7);have hol7':bD H g (upd H7 c (.lst xs)) 6 es:=B hol7 hc;refine aD3 (iK (xs:=xs)) (λi σ H'=>∃ (o6:Option V),σ=[some (V.ref p),some (V.ref q),some (V.int m),some (V.ref g),some (V.ref s),o5,o6,none,none]/\H' s=some (.lst es)/\H' c=some (.lst xs)/\bD H g H' (6+i) es/\bB H' p/\SameBut p H H')
         ⟨none,rfl,by rw[aD hcs.symm];exact hse7,aE,hol7',hb7.upd hc,hs57.upd hc⟩ ?_ ?_ ?_
        ·rintro i σ H' ⟨o6,_,_,u,_⟩;exact SqL.of u
        ·rintro i x σ H' hx ⟨o6,rfl,h2,u,R,O,h6⟩;have hxm:x∈xs:=a9b hx;obtain⟨w,ws,rfl,ww,wl,wsh,wn,wg⟩:=R x (hcm x hxm);have hws:w≠s:=zG ww h2 (hcm _ hxm);have hwc:w≠c:=zG ww u hxm
         try walk_at "sx"
         refine⟨tyL ww,?_⟩;refine up (iL (dF (aK (h6 q _ hqp hq)) (show atI (zs.map V.str) m=some (V.str z7) by rw[nB,hz7];rfl))) ?_;refine⟨w,_,_,rfl,rfl,ww,by rw[a1a];exact a9g (by have:=(a3a.mp hx).1;lia:ws.length<=10) (by decide),?_⟩;refine⟨_,rfl,by rw[aD hws.symm];exact h2,by rw[aD hwc.symm];exact u,?_,O.put (b wn),h6.put wn⟩;intro e D;obtain⟨w',ws',L,Y,e3,e4,e5,e6⟩:=R e D;by_cases hww:w'=w;subst hww;rw[ww]at Y;refine⟨w',ws++[z7],L,by rw[aE];simp,by simp;lia,?_,e5,e6⟩;intro z hz;rcases a0c.mp hz with h | h;exact wsh z h;rw[a3b.mp h];exact hz7s;exact⟨w',ws',L,by rw[aD hww];exact Y,by lia,e4,e5,e6⟩
        ·rintro σ H' ⟨o6,rfl,h2,u,R,O,h6⟩;exact hC _ _ ⟨o6,rfl,h2,(λe D=>by obtain⟨w,ws,L,Y,e3,e4⟩:=R e D;exact⟨w,ws,L,Y,by lia,e4⟩),O,h6⟩
       ·exact hC _ _ ⟨none,rfl,hse6,(λe D=>by obtain⟨w,ws,L,Y,e3,e4⟩:=hol6 e D;exact⟨w,ws,L,Y,by lia,e4⟩),hb6,M.trans hs6⟩
      ·try refine cR2 ?_
       exact skip _ rfl
     ·try refine cR2 ?_
      exact skip _ rfl
   ·intro C hC;have skip:∀ H',bB H' p->SameBut p H4 H'->C [some (V.ref p),some (V.ref q),some (V.int m),some (V.ref g),some (V.ref s),none,none,none,none] H':=λH' hb' W=>
     hC _ _ ⟨es,none,rfl,W s _ (b F) G,by lia,by lia,d I W,W g _ hgp hg4,hb',hs4.trans W⟩
    try walk_at "sx"
    refine sX (λhm=>?_) (λ_=>?_)
    ·have hm6:m < 6:=by simpa using hm
     refine kU ⟨p,2,rfl,hb4,by decide,by decide,λd5 H5 d50 d51 Z M=>?_⟩
     try walk_at "sx"
     refine sX (λ_=>?_) (λ_=>skip _ Z M);refine kU ⟨p,m,rfl,Z,by lia,by lia,λd6 H6 d60 d61 hb6 hs6=>?_⟩;have hs56:=M.trans hs6;obtain⟨L,he1⟩:=lD (ys:=es) d60 (by lia);refine up (iL (dF (aK (hs56 s _ (b F) G)) he1)) ?_;obtain⟨w,ws,rfl,ww,wl,wsh,wn,wg⟩:=(d I hs56) L (iM he1)
     try walk_at "sx"
     refine⟨tyL (hs56 s _ (b F) G),?_⟩;refine kU ⟨p,2,rfl,hb6,by decide,by decide,λd7 H7 d70 d71 hb7 U=>?_⟩;have hs57:=hs56.trans U
     try walk_at "sx"
     refine kU ⟨p,w,true,_,_,rfl,hb7,aK (U w _ (b wn) ww),by rw[a1a];lia,by lia,λr ys H8 X e8 hyl hym hb8 hs8=>?_⟩;obtain⟨cs,rfl,hcs⟩:=kM hym;refine up (pJ (bA e8)) ?_;intro v hv;have S:=hs57.trans hs8;have hv0:H v=none:=(hs4.trans S).none hb8 hv;have hs9:(upd H8 v (.lst (cs.map V.str))) s=some (.lst es):=by
      have:=S s _ (b F) G;rw[aD (aC this hv)];exact this
     have hg9:H8 g=some (.lst (J.map V.str)):=S g _ hgp hg4;have hvs:v≠s:=(aC (S s _ (b F) G) hv).symm;refine⟨s,es,_,rfl,rfl,hs9,a9g (by lia:es.length<=6) (by decide),?_⟩;refine hC _ _ ⟨es++[.ref v],_,rfl,aE,by simp,by simp;lia,?_,?_,(hb8.upd hv).put (b F),((hs4.trans S).upd hv).put F⟩;intro e D;rcases a0c.mp D with h | h;obtain⟨w',ws',f1,f2,f3,f4,f5,f6⟩:=(B (d I S) hv) e h;have hne:w'≠s:=zG f2 hs9 (by rw[← f1];exact h);exact⟨w',ws',f1,by rw[aD hne];exact f2,f3,f4,f5,f6⟩;rw[a3b.mp h];refine⟨v,cs,rfl,by rw[aD hvs];exact aE,?_,λc hc=>wsh c (hcs c hc),hv0,(aC hg9 hv).symm⟩;rw[a1a,a1a]at hyl;lia;rw[aD hsg.symm,aD (aC hg9 hv)];exact hg9
    ·try refine cR2 ?_
     exact skip _ hb4 SameBut.refl
  ·intro C hC;have skip:∀ H',bB H' p->SameBut p H3 H'->C [some (V.ref p),some (V.ref q),some (V.int m),some (V.ref g),some (V.ref s),none,none,none,none] H':=λH' hb' W=>
    hC _ _ ⟨s,es,rfl,F,hsg,W s _ (b F) G,hel,d I W,W g _ hgp hg3,hb',hs3.trans W⟩
   try walk_at "sx"
   refine sX (λhm=>?_) (λ_=>?_)
   ·have hm6:m < 6:=by simpa using hm
    refine kU ⟨p,2,rfl,hb3,by decide,by decide,λd5 H5 d50 d51 Z M=>?_⟩
    try walk_at "sx"
    refine sX (λ_=>?_) (λ_=>skip _ Z M);have hg5:=M g _ hgp hg3;refine up (pI (aK hg5)) ?_;refine uI (iK (xs:=J.map V.str)) (λi ys H'=>ys.length=i/\bD H g H' 6 ys/\H' g=some (.lst (J.map V.str))/\bB H' p/\SameBut p H H') ⟨rfl,(λe D=>nomatch D),hg5,Z,hs3.trans M⟩ ?_ (by rw[a1a];exact a8b (by lia:J.length<=6) (by decide)) ?_ ?_;rintro i ys H' ⟨h1,_,u,_⟩;exact⟨SqL.of u,by lia⟩
    ·rintro i x ys H' N hx ⟨h1,h2,u,R,O⟩ hN;obtain⟨o,ho,rfl⟩:∃ o,o∈J/\V.str o=x:=by
      have:=a9b hx;exact a3h.mp this
     try walk_at "sx"
     refine up (pI (aK u)) ?_;refine uI (iK (xs:=J.map V.str)) (λj us H''=>∃ ws:List Str,us=ws.map V.str/\ws.length<=j/\(fQ ws/\∀ (k:Nat) c,k < j->J[k]? = some c->c≠o->1<=ws.length)/\H''=H') ⟨[],rfl,a6a _,⟨(λz hz=>nomatch hz),λk c hk=>absurd hk (a6e k)⟩,rfl⟩ ?_ (by rw[a1a];exact a8b (by lia:J.length<=6) (by decide)) ?_ ?_;rintro j us H'' ⟨ws,rfl,h,_,rfl⟩;exact⟨SqL.of u,by rw[a1a];exact h⟩
     ·rintro j y us H'' N2 hy ⟨ws,rfl,g1,g2,rfl⟩ hN2;obtain⟨c,hcj,rfl⟩:∃ c,J[j]? = some c/\V.str c=y:=by
       rw[a4b]at hy;obtain⟨c,L,Y⟩:=a5c.mp hy;exact⟨c,L,Y⟩
      have hc:c∈J:=a9b hcj
      try walk_at "sx"
      refine sX (λ_=>?_) (λhce=>?_);refine hN2 _ _ ⟨ws++[c],by simp,by simp;lia,⟨?_,λ_ _ _ _ _=>by simp⟩,rfl⟩;intro z hz;rcases a0c.mp hz with h | h;exact g2.1 z h;rw[a3b.mp h];exact gsh c hc;refine hN2 _ _ ⟨ws,rfl,by lia,⟨g2.1,λk c' hk L Y=>?_⟩,rfl⟩;rcases a2j (a0g hk)with l | rfl;exact g2.2 k c' l L Y;rw[hcj]at L;cases L;exact absurd (by simpa using hce) Y
     ·rintro us H'' ⟨ws,rfl,g1,g2,rfl⟩ l f;refine hN _ _ ⟨by simp[h1],?_,?_,R.upd f,O.upd f⟩;intro e D;rcases a0c.mp D with h | h;exact(B h2 f) e h;rw[a3b.mp h];rw[a1a]at g1;obtain⟨k,c,L,Y⟩:=gn2.other o;have g3:=g2.2 k c (by rw[a1a];exact(a3a.mp L).1) L Y;exact⟨l,ws,rfl,aE,by lia,g2.1,O.none R f,(aC u f).symm⟩;rw[aD (aC u f)];exact u
    ·rintro ys H' ⟨h1,h2,u,R,O⟩ l f
     try walk_at "sx"
     rw[a1a]at h1;exact hC _ _ ⟨l,ys,rfl,O.none R f,(aC u f).symm,aE,by lia,B h2 f,by rw[aD (aC u f)];exact u,R.upd f,O.upd f⟩
   ·try refine cR2 ?_
    exact skip _ hb3 SameBut.refl
 ·intro C hC
  try walk_at "sx"
  refine⟨m,rfl,by lia,by lia,?_⟩;refine uI (P:=λ_=>True) jK (λi ys H'=>ys.length=i/\bD H g H' 6 ys/\H' g=some (.lst (J.map V.str))/\bB H' p/\SameBut p H H') ⟨rfl,(λe D=>nomatch D),hgg,hb2,hs2⟩ ?_ (by rw[dW];exact a8b (by lia:m.toNat<=6) (by decide)) ?_ ?_;rintro i ys H' ⟨h1,_⟩;exact⟨trivial,by lia⟩
  ·rintro i x ys H' N hx ⟨h1,h2,u,R,O⟩ hN;obtain⟨hi,rfl⟩:=jJ hx
   try walk_at "sx"
   obtain⟨c1,hc1⟩:=lD (ys:=J) (i:=0+(i:Int)) (by lia) (by lia);refine up (iL (dF (aK u) (show atI (J.map V.str) (0+(i:Int))=some (V.str c1) by rw[nB,hc1];rfl))) ?_;rw[aR2 (by lia)];have hmod0:0<=(0+(i:Int)+1) % m:=a8h _ (by lia);have hmod1:(0+(i:Int)+1) % m < m:=a1g _ (by lia);obtain⟨c2,hc2⟩:=lD (ys:=J) (i:=(0+(i:Int)+1) % m) hmod0 (by lia);refine up (iL (dF (aK u) (show atI (J.map V.str) ((0+(i:Int)+1) % m)=some (V.str c2) by rw[nB,hc2];rfl))) ?_;refine⟨by show 2<=sizeLine;decide,λl f=>?_⟩;refine hN _ _ ⟨by simp[h1],?_,?_,R.upd f,O.upd f⟩;intro e D;rcases a0c.mp D with h | h;exact(B h2 f) e h;rw[a3b.mp h];refine⟨l,[c1,c2],rfl,aE,by show 1<=2/\2<=6;decide,?_,O.none R f,(aC u f).symm⟩;intro z hz;rcases a7b.mp hz with rfl | hz;exact gsh _ (iM hc1);rw[a3b.mp hz];exact gsh _ (iM hc2);rw[aD (aC u f)];exact u
  ·rintro ys H' ⟨h1,h2,u,R,O⟩ l f
   try walk_at "sx"
   rw[dW]at h1;exact hC _ _ ⟨l,ys,rfl,O.none R f,(aC u f).symm,aE,h1,B h2 f,by rw[aD (aC u f)];exact u,R.upd f,O.upd f⟩
def pF(T:Txt K mg a)(a1Q:FnOk P w K mg base CX0 2 a.a1y a.a0L ["_law_box_here","_law_many"] (mP K)):FnOk P w K mg base CX0 5 a.a0K a.a0u ["_law_box_here","_law_kind"] (iB K):=by
 refine T.a0Q.ok jB (λvs H Q E h=>?_) (λcdv A outer s H vs Q E e h=>?_);obtain⟨p,v,rfl,_⟩:=h;rfl;obtain⟨p,v,rfl,hb,k0,k3,k⟩:=h;have nd:=jB.nd;refine⟨_,(aM (cO4 (i:=2) (j:=3) rfl nd rfl rfl (by decide) rfl rfl (aA (aN a1Q (e.mono (by decide)) rfl T.a1N T.a0W.kp (rL T) .nil bM (aA (pv 0) (aA aL aI))) (aA (aN a1Q (e.mono (by decide)) rfl T.a1N T.a0W.kp (rL T) .nil bM (aA (pv 0) (aA aL aI))) aI)) rfl)
  (aM (mU (bP (lH e.units) (aN (aP T) (e.mono (by decide)) rfl T.a0n T.a0l.kp (aR T) .nil bM (aA (pv 0) (aA aL aI))) aL (bL _)) (aV (bU (i:=3) nd rfl (Or.inl rfl) (aN (dO T) (e.mono (by decide)) rfl T.a0H T.a0q.kp (fC T) .nil bM (aA (pv 0) (aA (pv 2) aI))))) eX)
  (aM (bU (i:=4) nd rfl (Or.inl rfl) (pv 1))
  (aM (mU (bP (lH e.units) (pv 1) aL (bL _)) (aV (bU (i:=4) nd rfl (Or.inl rfl) (aN (aP T) (e.mono (by decide)) rfl T.a0n T.a0l.kp (aR T) .nil bM (aA (pv 0) (aA aL aI))))) eX)
  (aM (mU (bP (lH e.units) (pv 4) aL (bL _)) (aV (bU (i:=5) nd rfl (Or.inl rfl) (aN (mR T) (e.mono (by decide)) rfl T.a1I T.a0F.kp (pB T) .nil bM (aA (pv 0) (aA (pv 2) aI))))) (aV (mU (bP (lH e.units) (pv 4) aL (bL _)) (aV (bU (i:=5) nd rfl (Or.inl rfl) (aN (mS T) (e.mono (by decide)) rfl T.a1H T.a0G.kp (pC T) .nil bM (aA (pv 0) (aA (pv 2) aI))))) (aV (bU (i:=5) nd rfl (Or.inl rfl) (aN (kS T) (e.mono (by decide)) rfl T.a1E T.a0x.kp (nO T) .nil bM (aA (pv 0) (aA (pv 2) aI))))))))
  (aV (kY (cA8 (T:="tuple") (U:="zip") (bH4 rfl) (by rfl) T.a1U gC (by rfl) T.a3m bL1 (aA (pv 3) (aA (pv 5) aI)))))))))),?_⟩
 rw[show cT ["_law_box_here","_law_kind","_law_columns_here","_law_tables","_law_way","_law_sets"] [.ref p,.int v]=([some (.ref p),some (.int v),none,none,none,none]:St)from rfl]
 try walk_at "sy"
 rw[pZ]
 try walk_at "sy"
 refine kU ⟨p,6,rfl,hb,by decide,by decide,λc G H1 hc e1 l1 ⟨q,n1⟩ I hs1=>?_⟩
 try walk_at "sy"
 refine kU ⟨p,6,rfl,I,by decide,by decide,λt ts H2 ht e2 l2 ⟨J,_⟩ hb2 L=>?_⟩
 try walk_at "sy"
 have l:c≠p:=hb.ne hc;have u:=L c _ l e1;have hb3:=hb2;have M:SameBut p H H2:=hs1.trans L;have et3:=e2;have n:t≠p:=I.ne ht;clear I hs1 hb2 L e1 e2
 try walk_at "sy"
 refine iP (λσ' H'=>∃ (t:Addr) (ts:List Str),σ'=[some (V.ref p),some (V.int v),some (V.ref c),some (V.ref t),none,none]/\H' t=some (.lst (ts.map V.str))/\t≠p/\ts.length=6/\fQ ts/\H' c=some (.lst (G.map V.str))/\bB H' p/\SameBut p H H') ?_ ?_
 ·clear n et3 hb3 M u;rintro σ' H4 ⟨t,ts,rfl,B,htp,l2,J,D,f,b⟩;rw[pZ]
  try walk_at "sy"
  refine iP (λσ' H'=>∃ wy:Int,σ'=[some (V.ref p),some (V.int v),some (V.ref c),some (V.ref t),some (V.int wy),none]/\H' t=some (.lst (ts.map V.str))/\H' c=some (.lst (G.map V.str))/\bB H' p/\SameBut p H H') ?_ ?_
  ·clear B D f b;rintro σ' H5 ⟨wy,rfl,B,D,m,o⟩;refine iP (λσ' H'=>∃ (s:Addr) (es:List V),σ'=[some (V.ref p),some (V.int v),some (V.ref c),some (V.ref t),some (V.int wy),some (V.ref s)]/\H' s=some (.lst es)/\1<=es.length/\es.length<=6/\dZ H' es/\H' t=some (.lst (ts.map V.str))/\bB H' p/\SameBut p H H') ?_ ?_
   ·clear B D m o;rintro σ' H6 ⟨s,es,rfl,hse,hel1,hel6,N,B,hb6,hs6⟩
    try walk_at "sx"
    refine⟨t,s,_,_,rfl,B,hse,λr us H' g e er ul uj=>?_⟩;rw[a1a]at ul;have hlen:(ts.take es.length).length=es.length:=by rw[a7d];lia
    refine k r (ts.take es.length) H' (hs6.none hb6 e) ⟨us.map V.ref,er,by rw[a1a,hlen];lia,λj z O=>?_⟩ (by lia) (by lia) (λz O=>J z (a3e O)) (hb6.same g) (hs6.same g);have hj:j < es.length:=by have:=(a3a.mp O).1;lia
    have hu:us[j]? = some us[j]:=a0a (by lia);obtain⟨x,y,hx,hy,hh⟩:=uj j _ hu;have hz':ts[j]? = some z:=by rw[List.getElem?_take,a3p hj]at O;exact O
    rw[a4b,hz']at hx;cases hx;obtain⟨cc,ccs,rfl,hcc,hccl⟩:=N y (a9b hy);exact⟨us[j],cc,ccs,by rw[a4b,hu];rfl,hh,g _ _ hcc,hccl⟩
   ·intro C R;have fin:∀ (r:Addr) (es:List V) (H':Hp),H' r=some (.lst es)->1<=es.length->es.length<=6->dZ H' es->bB H' p->SameBut p H5 H'->C [some (V.ref p),some (V.int v),some (V.ref c),some (V.ref t),some (V.int wy),some (V.ref r)] H':=λr es H' S W X Y Z F=>
     R _ _ ⟨r,es,rfl,S,W,X,Y,F t _ htp B,Z,o.trans F⟩
    try walk_at "sx"
    refine sX (λ_=>?_) (λ_=>?_);exact kU ⟨p,c,G,rfl,m,D,l1,⟨q,n1⟩,λr es H' _ S W X Y Z F=>fin r es H' S W X Y Z F⟩;refine sX (λ_=>?_) (λ_=>?_);exact kU ⟨p,c,G,rfl,m,D,l1,⟨q,n1⟩,λr es H' _ S W X Y Z F=>fin r es H' S W X Y Z F⟩;exact kU ⟨p,c,G,rfl,m,D,l1,⟨q,n1⟩,λr es H' _ S W X Y Z F=>fin r es H' S W X Y Z F⟩
  ·intro C R
   try walk_at "sx"
   refine sX (λ_=>?_) (λ_=>?_);refine kU ⟨p,3,rfl,f,by decide,by decide,λd H' d0 d1 hb' hs'=>?_⟩;exact R _ _ ⟨d,rfl,hs' t _ htp B,hs' c _ l D,hb',b.trans hs'⟩;exact R _ _ ⟨v,rfl,B,D,f,b⟩
 ·intro C R
  try walk_at "sx"
  refine kU ⟨p,4,rfl,hb3,by decide,by decide,λd H4 d0 d1 f b=>?_⟩
  try walk_at "sx"
  refine sX (λ_=>?_) (λ_=>?_)
  ·refine kU ⟨p,c,true,_,rfl,f,aK (b c _ l u),by rw[a1a];lia,λr ys H5 e e5 hpm m o=>?_⟩;obtain⟨us,rfl,hus⟩:=kM (zs:=G) λy hy=>hpm.mem_iff.mp hy;have ul:us.length=G.length:=by have:=hpm.length_eq;simpa using this
   exact R _ _ ⟨r,us,rfl,e5,f.ne e,by lia,λz O=>q z (hus z O),o c _ l (b c _ l u),m,(M.trans b).trans o⟩
  ·exact R _ _ ⟨t,ts,rfl,b t _ n et3,n,by lia,J,b c _ l u,f,M.trans b⟩
end
open Dv
noncomputable def adr:Adr:=⟨82,63,44,101,24,136,Hd.bO9,143,Hd.bP0,155,Hd.bP2,150,Hd.bP1,162,Hd.bP3,169,Hd.bP4,176,Hd.bP5,181,Hd.bP6,188,Hd.bP7,193,Hd.bP8,200,Hd.bP9,205,Hd.bQ0,110,Hd.bO5,115,Hd.bO6,122,Hd.bO7,79,Hd.cM7,129,Hd.bO8,229,Hd.bQ3,236,Hd.bQ4,243,Hd.bQ5,217,Hd.bQ1,224,Hd.bQ2,248,Hd.aC3⟩
def dQ6{K:W.Frag}{x q:Str}{s:Stmt}{f:Addr}{fd:FuncData}(m:Value)(c:Addr)(e:fd=W.fnOf x q (yX s) (iI s) (aJ s) .none .none .none m none (.ref c) .none)(l:K.lookup f=some ⟨.type "function",none,.func fd,#[]⟩)(d:W.codeIn K (.ref c) q=true)(k:W.keepIn K (.ref f)=true):Fun K x q s f fd:=⟨⟨_,_,_,_,_,_,_,_,_,e,l,d⟩,k⟩
def txt{P:Params}{h:Heap}{mg:Str->Option Value}(X:(Hd.KF P).In h)(G:h.Ns mainGlobals mg):Txt (Hd.KF P) mg adr:=by
 constructor<;>first | exact W.mg_of X G (by kernel_rfl) | exact W.mg_none_of X G (by kernel_rfl) | exact dQ6 _ _ rfl (by kernel_rfl) (by kernel_rfl) (by kernel_rfl) | exact⟨307,W.mg_of X G (by kernel_rfl)⟩ | kernel_rfl
def dE9{P:Program}{w:World}{mg:Str->Option Value}{base:Heap}(T:Txt (Hd.KF w.params) mg adr):FnOk P w (Hd.KF w.params) mg base CX0 6 248 Hd.aC3 ["_law_script"] (bJ4 1 rV):=
 dD1 T ((pF T ((@yK P w _ mg base _ T).imp aN0)).imp sP)
def bO4:W.WalkO Hd.Vw [] (W.XL Hd.Vw []) (W.InK Hd.KF) PySem.Challenge.rw_mostrows_k18_houses_let_by_and_refused.row.toRowW Hd.dG2 [] (λf vs=>PySem.call f vs):=by
 refine L2.bZ3 (l:=PySem.Challenge.rw_mostrows_k18_houses_let_by_and_refused) (K:=Hd.KF) (n:=63) (k:=6) (x:="_law_script") (CX:=λ_=>CX0) (sp:=λw=>bJ4 1 rV) rfl (by decide) (by kernel_rfl) ⟨rfl,by decide,by decide⟩ (λw h Y=>Y) (λw mg i h X G e=>?_) (λw _ a ns b c d=>aM9 (cJ5 aB6) (by kernel_rfl) c d (bO3 ns b)) λ_ _ _ _ _ z=>z;have T:=txt X G;have g:=T.a2Z.symm.trans e;cases g;exact⟨Hd.aC3,λs v=>.of_eq (by kernel_rfl),λbase _ _=>dE9 T⟩
end Mr
open PySem PySem.W PyProof.Rows
theorem PySem.Challenge.cw_mostrows_k18_houses_let_by_and_refused_holds : PySem.Challenge.rw_mostrows_k18_houses_let_by_and_refused.Holds :=
 Hd.dO2 Mr.bO4
#print axioms PySem.Challenge.cw_mostrows_k18_houses_let_by_and_refused_holds
