import PyProof.Rows.All
import Wide.All
import OpenK.AllK
import Wide.FinOn
import Lean
import PyProof.EqAt
import PyProof.EqKinds
import PyProof.TupleCall
import PyProof.StationsW
import PyProof.RulesAs
import PyProof.ExcClass2
import PyProof.Rows.Exc
import OpenK.KMake
import PyProof.InstStoreFacts
import OpenK.KCls
import PyProof.ExcArgsOwn
import PyProof.ExcAttrAll.ValueError
import PyProof.FitsInt
import PyProof.FString
import PyProof.FString4
import PyProof.StrLawsRepr
import PyProof.NsDelKeeps
import PyProof.NoPylong
import PyProof.FitsBits
import PyProof.Rows.RuleM_int
import PyProof.P3In
import PyProof.NeData
import PyProof.Draws
import PyProof.ZipIter
import PyProof.EnumMake
import PySem.SetOps
import PyProof.SetScanFacts
import PyProof.WalksMore
import PyProof.SetNew
import PyProof.SetKind
import PyProof.Rows.SetFrom
import PyProof.TupleKey
import PyProof.IsRules
import PyProof.SetRoads
import PyProof.ListMulRoad
import PyProof.Rows.ListMulArg
import PyProof.Rows.SumAny
import PySem.Challenge.RW_mostrows_k36_most_by_covers
set_option compiler.extract_closed false
set_option Elab.async false
set_option linter.all false
set_option maxRecDepth 100000
set_option maxHeartbeats 4000000
def a3W:=@PySem.wpAny_bind
def a3X:=@PySem.wpAny_pure
def a3Y:=@if_pos
def a3Z:=@if_neg
def a4k:=@decide_eq_false
def a4l:=@PySem.wpAny_holding
def a4m:=@PySem.wpAny_field
def a4n:=@PySem.wpAny_newObj_type
def a4o:=@decide_eq_true_eq
def a4p:=@beq_iff_eq
def a4q:=@if_false
def a4r:=@PySem.wpAny_call_entry
def a4s:=@if_true
def a4t:=@PySem.wpAny_seqItems
def a4u:=@congrArg
def a4v:=@PySem.codeAny_builtin
def a4w:=@PySem.wpAny_Call_Name_kw
def a4x:=@PySem.wpAny_mono
def a4y:=@PySem.wpAny_pyIter_tuple
def a4z:=@PySem.wpAny_setField
def a4A:=@PySem.wpAny_truthy_bool
def a4B:=@PySem.plainId_quiet
def a4C:=@decide_eq_true
def a4D:=@PySem.wpAny_typeOf
def a4E:=@PySem.wpAny_passesOwn
def a4F:=@bne_self_eq_false
def a4G:=@PySem.sizeLine_eq
def a4H:=@PySem.wpAny_getItem_str_slice
def a4I:=@PySem.wpAny_standAt
def a4J:=@PySem.wpAny_loadPart_at
def a4K:=@PySem.codeAny_mono
def a4L:=@PySem.builtinLookup_eq_fast
def a4M:=@PySem.codeAny_call_builtin
def a4N:=@PySem.wpAny_askSetting
def a4O:=@PySem.wpAny_attempt
def a4P:=@PySem.wpAny_loadPart'
def a4Q:=@PySem.wpAny_specialOf
def a4R:=@PySem.wpAny_updateSeq
def a4S:=@PySem.wpAny_rule
def a4T:=@PySem.call_meets
def a4U:=@PySem.wpAny_ite_split
def a4V:=@PySem.wpAny_setEntries_of
def a4W:=@PySem.putSet_of
def a4X:=@PySem.wpAny_load
def a4Y:=@PySem.wpAny_call
def a0a:=@List.getElem?_eq_getElem
def a1a:=@List.length_map
def a2a:=@PySem.Heap.get?_push_of_some
def a3a:=@List.getElem?_eq_some_iff
def a4a:=@Nat.le_refl
def a5a:=@Option.some.inj
def a6a:=@List.mem_cons_self
def a7a:=@List.mem_cons_of_mem
def a8a:=@List.size_toArray
def a9a:=@List.getElem?_set_ne
def a0b:=@PySem.Heap.get?_push_size
def a1b:=@Bool.false_ne_true
def a2b:=@PySem.Heap.lt_size
def a3b:=@List.mem_singleton
def a4b:=@List.mem_of_getElem?
def a5b:=@List.mem_cons
def a6b:=@List.getElem?_map
def a7b:=@Nat.lt_of_lt_of_le
def a8b:=@Nat.le_trans
def a9b:=@Array.getElem?_eq_getElem
def a0c:=@List.length_append
def a1c:=@List.mem_append
def a2c:=@List.getElem?_set_self
def a3c:=@List.mem_append_right
def a4c:=@PySem.Heap.get?_update_other
def a5c:=@Array.getElem?_toList
def a6c:=@List.getElem?_eq_none_iff
def a7c:=@Nat.zero_le
def a8c:=@List.getElem?_cons_succ
def a9c:=@PySem.Heap.get?_update_self
def a0d:=@Option.map_eq_some_iff
def a1d:=@Nat.ne_of_lt
def a2d:=@List.getElem?_toArray
def a3d:=@List.length_take
def a4d:=@PySem.F.plainAttrs_list
def a5d:=@Ne.symm
def a6d:=@Bool.and_eq_true
def a7d:=@PySem.PassesOwn.never
def a8d:=@Nat.lt_irrefl
def a9d:=@Array.length_toList
def a0e:=@Array.getElem?_eq_some_iff
def a1e:=@List.getD_eq_getElem?_getD
def a2e:=@List.map_append
def a3e:=@Nat.lt_succ_self
def a4e:=@PyProof.Rows.callWith_type1
def a5e:=@PyProof.Rows.slot_tuple_getitem
def a6e:=@List.map_cons
def a7e:=@List.eq_nil_of_length_eq_zero
def a8e:=@List.mem_range
def a9e:=@Classical.byContradiction
def a0f:=@PySem.Around.under_plainId
def a1f:=@List.mem_of_mem_take
def a2f:=@List.take_of_length_le
def a3f:=@PySem.F.slot_list_append
def a4f:=@PySem.F.type_list_append
def a5f:=@Bool.eq_iff_iff
def a6f:=@List.getElem?_append_right
def a7f:=@PySem.W.kia_one
def a8f:=@List.getElem?_append_left
def a9f:=@List.length_set
def a0g:=@Nat.not_lt_zero
def a1g:=@List.length_cons
def a2g:=@Nat.le_of_lt
def a3g:=@List.append_nil
def a4g:=@Int.emod_lt_of_pos
def a5g:=@PySem.F.plain_extend_loop
def a6g:=@Nat.zero_add
def a7g:=@List.getElem?_eq_none
def a8g:=@Nat.lt_of_le_of_lt
def a9g:=@List.mem_append_left
def a0h:=@PySem.Heap.size_push
def a1h:=@Nat.pow_succ
def a2h:=@PyProof.Rows.F.plain_set_update_loop
def a3h:=@List.filterMap_cons
def a4h:=@List.getElem_of_mem
def a5h:=@List.length_nil
def a6h:=@PySem.Heap.SameBut.update
def a7h:=@Int.emod_nonneg
def a8h:=@Array.getD_eq_getD_getElem?
def a9h:=@PySem.F.slot_tuple_iterator_next
def a0i:=@List.length_drop
def a1i:=@List.mem_map
def a2i:=@List.pairwise_cons
def a3i:=@List.ext_getElem?
def a4i:=@Nat.mul_comm
def a5i:=@PySem.mem_of_lookup
def a6i:=@List.lookup_cons
def a7i:=@Array.getElem?_eq_none
def a8i:=@Array.append_assoc
def a9i:=@PySem.Obj.data_mapFields
def a0j:=@Nat.ne_of_gt
def a1j:=@List.nodup_cons
def a2j:=@Nat.lt_trans
def a3j:=@Int.toNat_natCast
def a4j:=@Nat.le_of_lt_succ
def a5j:=@List.take_add_one
def a6j:=@Nat.le_of_not_lt
def a7j:=@Nat.lt_of_not_le
def a8j:=@List.all_eq_true
def a9j:=@List.map_take
def a0k:=@Nat.not_lt
def a1k:=@Nat.mul_assoc
namespace Hd
open PySem PySem.W
noncomputable def aT0(s:Stmt)(i:Nat):Stmt:=match s with
 | .ClassDef _ _ _ b _ _ _ _ _ _ _=>b.getD i (.Pass ⟨0,0,0,0⟩)
 | _=>.Pass ⟨0,0,0,0⟩
noncomputable def top(i:Nat):Stmt:=PySem.Challenge.pw_mostrows_k36_most_by_covers.main.body.getD i (.Pass ⟨0,0,0,0⟩)
noncomputable def kG(x q:Str)(s:Stmt)(m:Value)(c:Addr):FuncData:=match s with
 | .FunctionDef _ a b _ _ _ e _ _ _=>fnOf x q a b e .none .none .none m none (.ref c) .none
 | _=>default
noncomputable def dL4:DefRec:=match top 36 with
 | .FunctionDef n a b _ _ _ e _ _ p=>⟨n,a,b,e,p⟩
 | _=>⟨"",default,[],default,default⟩
noncomputable def kE(P:Params)(x:Str)(t:Tok)(v:Value):DictEntry:=⟨PyData.keyHash P x,.str x t,v⟩
noncomputable def kT(l:List Value):Obj:=⟨.type "tuple",none,.seq l.toArray 0,#[]⟩
noncomputable def kF(f:FuncData):Obj:=⟨.type "function",none,.func f,#[]⟩
noncomputable def cU6:=kG "__init__" "NoCover.__init__" (aT0 (top 2) 0) (.str "mostrows.errors" 187) 40
noncomputable def cU7:=kG "columns_of" "columns_of" (top 4) (.str "mostrows.questions" 232) 50
noncomputable def cU8:=kG "first_uncovered" "first_uncovered" (top 6) (.str "mostrows.covers" 240) 55
noncomputable def cU9:=kG "to_power" "to_power" (top 8) (.str "mostrows.powers" 248) 62
noncomputable def cV0:=kG "root" "root" (top 10) (.str "mostrows.bounds" 260) 69
noncomputable def cV1:=kG "look_cover" "look_cover" (top 11) (.str "mostrows.bounds" 260) 76
noncomputable def cV2:=kG "sizes_to_shares" "sizes_to_shares" (top 12) (.str "mostrows.bounds" 260) 83
noncomputable def cV3:=kG "most" "most" (top 13) (.str "mostrows.bounds" 260) 90
noncomputable def cV4:=kG "looks_fit" "looks_fit" (top 14) (.str "mostrows.bounds" 260) 97
noncomputable def bW0:=kG "_law_box" "_law_box" (top 16) (.str "law_mostrows_k36_most_by_covers" 313) 104
noncomputable def bW1:=kG "_law_take" "_law_take" (top 17) (.str "law_mostrows_k36_most_by_covers" 313) 111
noncomputable def bW2:=kG "_law_order" "_law_order" (top 18) (.str "law_mostrows_k36_most_by_covers" 313) 118
noncomputable def bW3:=kG "_law_names" "_law_names" (top 19) (.str "law_mostrows_k36_most_by_covers" 313) 123
noncomputable def bW4:=kG "_law_some_columns" "_law_some_columns" (top 20) (.str "law_mostrows_k36_most_by_covers" 313) 130
noncomputable def bW5:=kG "_law_any_tables" "_law_any_tables" (top 21) (.str "law_mostrows_k36_most_by_covers" 313) 137
noncomputable def bW6:=kG "_law_ear_tables" "_law_ear_tables" (top 22) (.str "law_mostrows_k36_most_by_covers" 313) 144
noncomputable def bW7:=kG "_law_ring_tables" "_law_ring_tables" (top 23) (.str "law_mostrows_k36_most_by_covers" 313) 149
noncomputable def bW8:=kG "_law_question" "_law_question" (top 24) (.str "law_mostrows_k36_most_by_covers" 313) 156
noncomputable def bW9:=kG "_law_columns" "_law_columns" (top 25) (.str "law_mostrows_k36_most_by_covers" 313) 161
noncomputable def bX0:=kG "_law_value" "_law_value" (top 26) (.str "law_mostrows_k36_most_by_covers" 313) 168
noncomputable def bX1:=kG "_law_house" "_law_house" (top 27) (.str "law_mostrows_k36_most_by_covers" 313) 173
noncomputable def bX2:=kG "_law_cover" "_law_cover" (top 28) (.str "law_mostrows_k36_most_by_covers" 313) 178
noncomputable def bX3:=kG "_law_power" "_law_power" (top 29) (.str "law_mostrows_k36_most_by_covers" 313) 185
noncomputable def bX4:=kG "_law_great_cover" "_law_great_cover" (top 30) (.str "law_mostrows_k36_most_by_covers" 313) 190
noncomputable def bX5:=kG "_law_product" "_law_product" (top 31) (.str "law_mostrows_k36_most_by_covers" 313) 197
noncomputable def bX6:=kG "_law_whole" "_law_whole" (top 32) (.str "law_mostrows_k36_most_by_covers" 313) 204
noncomputable def bX7:=kG "_law_truth" "_law_truth" (top 33) (.str "law_mostrows_k36_most_by_covers" 313) 211
noncomputable def bX8:=kG "_law_edge" "_law_edge" (top 34) (.str "law_mostrows_k36_most_by_covers" 313) 218
noncomputable def bX9:=kG "_law_right" "_law_right" (top 35) (.str "law_mostrows_k36_most_by_covers" 313) 225
noncomputable def aG2:=kG "law" "law" (top 36) (.str "law_mostrows_k36_most_by_covers" 313) 232
noncomputable def kC(x:Str)(a:Tok)(q:Str)(b c:Tok)(d e f:Int)(g:Addr)(h:Int)(i j k l:Addr)(m n:Int)(o:Tok):Obj:=⟨.type "code",none,.fields #[.str x a,.str q b,.str "/claim/cut.py" c,.int d 0,.int e 0,.int 0 0,.int 0 0,.int f 0,.ref g,.bool true,.int h 0,.ref i,.none,.ref j,.ref k,.ref l,.int m 0,.int n 0,.str "/claim/cut.py" o],#[]⟩
noncomputable def KF(P:Params):W.Frag:=[
(2,⟨.none,none,(.dict #[] 0),#[]⟩),
(3,⟨(.type "dict"),none,(.dict #[kE P "__name__" 165 (.str "law_mostrows_k36_most_by_covers" 313),kE P "__doc__" 166 .none,kE P "__package__" 167 .none,kE P "__loader__" 168 (.builtin "__main__.__loader__#opaque"),kE P "__spec__" 169 .none,kE P "__annotations__" 170 (.ref 6),kE P "__builtins__" 171 (.ref 4),kE P "__file__" 173 (.str "/claim/cut.py" 172),kE P "__cached__" 174 .none,kE P "RowsError" 206 (.ref 24),kE P "NoCover" 231 (.ref 44),kE P "columns_of" 239 (.ref 51),kE P "first_uncovered" 247 (.ref 56),kE P "to_power" 259 (.ref 63),kE P "root" 272 (.ref 70),kE P "look_cover" 281 (.ref 77),kE P "sizes_to_shares" 292 (.ref 84),kE P "most" 301 (.ref 91),kE P "looks_fit" 312 (.ref 98),kE P "_law_box" 324 (.ref 105),kE P "_law_take" 334 (.ref 112),kE P "_law_order" 344 (.ref 119),kE P "_law_names" 350 (.ref 124),kE P "_law_some_columns" 359 (.ref 131),kE P "_law_any_tables" 370 (.ref 138),kE P "_law_ear_tables" 384 (.ref 145),kE P "_law_ring_tables" 390 (.ref 150),kE P "_law_question" 402 (.ref 157),kE P "_law_columns" 408 (.ref 162),kE P "_law_value" 417 (.ref 169),kE P "_law_house" 423 (.ref 174),kE P "_law_cover" 429 (.ref 179),kE P "_law_power" 439 (.ref 186),kE P "_law_great_cover" 445 (.ref 191),kE P "_law_product" 457 (.ref 198),kE P "_law_whole" 464 (.ref 205),kE P "_law_truth" 472 (.ref 212),kE P "_law_edge" 482 (.ref 219),kE P "_law_right" 499 (.ref 226),kE P "law" 513 (.ref 233)] 40),#[]⟩),
(15,kT [(.type "ValueError")]),
(22,kT []),
(23,⟨(.type "dict"),none,(.dict #[kE P "__module__" 196 (.str "mostrows.errors" 187),kE P "__firstlineno__" 200 (.int 2 199),kE P "__static_attributes__" 201 (.ref 22),kE P "__weakref__" 203 (.ref 25),kE P "__doc__" 204 .none] 3),#[]⟩),
(24,⟨(.type "type"),none,(.cls ⟨"RowsError",[(.type "ValueError")],[(.ref 24),(.type "ValueError"),(.type "Exception"),(.type "BaseException"),(.type "object")],23,"RowsError",true,[],[(.ref 44)],false,none,false⟩),#[(some (.ref 15)),none,(some (.str "RowsError" 189)),(some (.str "RowsError" 197)),(some (.builtin "ValueError.__new__")),(some (.bool true))]⟩),
(25,⟨(.type "getset_descriptor"),none,(.fields #[(.str "__weakref__" 202),(.ref 24),(.builtin "ExceptionGroup.__weakref__"),.none]),#[]⟩),
(28,kT [(.ref 24)]),
(35,kT []),
(37,kT [(.str "self" 222),(.str "column" 223)]),
(38,kT []),
(40,kC "__init__" 219 "NoCover.__init__" 220 221 6 2 3 35 181 36 37 38 39 224 6 225),
(41,kF cU6),
(42,kT [(.str "column" 227)]),
(43,⟨(.type "dict"),none,(.dict #[kE P "__module__" 214 (.str "mostrows.errors" 187),kE P "__firstlineno__" 218 (.int 4 217),kE P "__init__" 226 (.ref 41),kE P "__static_attributes__" 228 (.ref 42),kE P "__doc__" 229 .none] 2),#[]⟩),
(44,⟨(.type "type"),none,(.cls ⟨"NoCover",[(.ref 24)],[(.ref 44),(.ref 24),(.type "ValueError"),(.type "Exception"),(.type "BaseException"),(.type "object")],43,"NoCover",true,[],[],false,none,false⟩),#[(some (.ref 28)),none,(some (.str "NoCover" 207)),(some (.str "NoCover" 215)),(some (.builtin "ValueError.__new__")),(some (.bool true))]⟩),
(47,kT []),
(50,⟨(.type "code"),none,(.fields #[(.str "columns_of" 234),(.str "columns_of" 235),(.str "/claim/cut.py" 236),(.int 10 0),(.int 1 0),(.int 0 0),(.int 0 0),(.int 3 0),(.ref 47),(.bool true),(.int 181 0),(.ref 48),.none,.none,.none,(.ref 49),(.int 237 0),(.int 10 0),(.str "/claim/cut.py" 238)]),#[]⟩),
(51,kF cU7),
(52,kT []),
(55,⟨(.type "code"),none,(.fields #[(.str "first_uncovered" 242),(.str "first_uncovered" 243),(.str "/claim/cut.py" 244),(.int 16 0),(.int 2 0),(.int 0 0),(.int 0 0),(.int 3 0),(.ref 52),(.bool true),(.int 181 0),(.ref 53),.none,.none,.none,(.ref 54),(.int 245 0),(.int 16 0),(.str "/claim/cut.py" 246)]),#[]⟩),
(56,kF cU8),
(57,kT []),
(59,kT [(.str "number" 253),(.str "power" 254),(.str "product" 255),(.str "step" 256)]),
(60,kT []),
(62,kC "to_power" 250 "to_power" 251 252 23 2 3 57 181 58 59 60 61 257 23 258),
(63,kF cU9),
(64,kT []),
(66,kT [(.str "number" 265),(.str "power" 266),(.str "above" 267),(.str "low" 268),(.str "middle" 269)]),
(67,kT []),
(69,kC "root" 262 "root" 263 264 29 2 3 64 181 65 66 67 68 270 29 271),
(70,kF cV0),
(71,kT []),
(73,kT [(.str "question" 276),(.str "shares" 277),(.str "column" 278)]),
(74,kT []),
(76,kC "look_cover" 273 "look_cover" 274 275 43 2 3 71 181 72 73 74 75 279 43 280),
(77,kF cV1),
(78,kT []),
(80,kT [(.str "house" 285),(.str "shares" 286),(.str "product" 287),(.str "rows" 288),(.str "number" 289)]),
(81,kT []),
(83,kC "sizes_to_shares" 282 "sizes_to_shares" 283 284 47 2 3 78 181 79 80 81 82 290 47 291),
(84,kF cV2),
(85,kT []),
(87,kT [(.str "question" 296),(.str "house" 297),(.str "shares" 298)]),
(88,kT []),
(90,kC "most" 293 "most" 294 295 52 3 3 85 181 86 87 88 89 299 52 300),
(91,kF cV3),
(92,kT []),
(94,kT [(.str "question" 305),(.str "house" 306),(.str "shares" 307),(.str "looks" 308),(.str "factor" 309)]),
(95,kT []),
(97,kC "looks_fit" 302 "looks_fit" 303 304 55 4 3 92 181 93 94 95 96 310 55 311),
(98,kF cV4),
(99,kT []),
(101,kT [(.str "_law_script" 318),(.str "_law_k" 319),(.str "_law_cell" 320),(.str "_law_seed" 321)]),
(102,kT []),
(104,kC "_law_box" 315 "_law_box" 316 317 60 2 3 99 181 100 101 102 103 322 60 323),
(105,kF bW0),
(106,kT []),
(108,kT [(.str "_law_box_here" 328),(.str "_law_many" 329),(.str "_law_digit" 330),(.str "_law_one" 331)]),
(109,kT []),
(111,kC "_law_take" 325 "_law_take" 326 327 68 2 3 106 181 107 108 109 110 332 68 333),
(112,kF bW1),
(113,kT []),
(115,kT [(.str "_law_box_here" 338),(.str "_law_things" 339),(.str "_law_left" 340),(.str "_law_found" 341)]),
(116,kT []),
(118,kC "_law_order" 335 "_law_order" 336 337 76 2 3 113 181 114 115 116 117 342 76 343),
(119,kF bW2),
(120,kT []),
(123,⟨(.type "code"),none,(.fields #[(.str "_law_names" 345),(.str "_law_names" 346),(.str "/claim/cut.py" 347),(.int 82 0),(.int 2 0),(.int 0 0),(.int 0 0),(.int 3 0),(.ref 120),(.bool true),(.int 181 0),(.ref 121),.none,.none,.none,(.ref 122),(.int 348 0),(.int 82 0),(.str "/claim/cut.py" 349)]),#[]⟩),
(124,kF bW3),
(125,kT []),
(127,kT [(.str "_law_box_here" 354),(.str "_law_names_here" 355),(.str "_law_many" 356)]),
(128,kT []),
(130,kC "_law_some_columns" 351 "_law_some_columns" 352 353 102 3 3 125 181 126 127 128 129 357 102 358),
(131,kF bW4),
(132,kT []),
(134,kT [(.str "_law_box_here" 363),(.str "_law_names_here" 364),(.str "_law_pool" 365),(.str "_law_found" 366),(.str "_law_k" 367)]),
(135,kT []),
(137,kC "_law_any_tables" 360 "_law_any_tables" 361 362 104 2 3 132 181 133 134 135 136 368 104 369),
(138,kF bW5),
(139,kT []),
(141,kT [(.str "_law_box_here" 374),(.str "_law_names_here" 375),(.str "_law_left" 376),(.str "_law_found" 377),(.str "_law_k" 378),(.str "_law_own" 379),(.str "_law_one" 380),(.str "_law_j" 381)]),
(142,kT []),
(144,kC "_law_ear_tables" 371 "_law_ear_tables" 372 373 110 2 3 139 181 140 141 142 143 382 110 383),
(145,kF bW6),
(146,kT []),
(149,⟨(.type "code"),none,(.fields #[(.str "_law_ring_tables" 385),(.str "_law_ring_tables" 386),(.str "/claim/cut.py" 387),(.int 127 0),(.int 2 0),(.int 0 0),(.int 0 0),(.int 3 0),(.ref 146),(.bool true),(.int 181 0),(.ref 147),.none,.none,.none,(.ref 148),(.int 388 0),(.int 127 0),(.str "/claim/cut.py" 389)]),#[]⟩),
(150,kF bW7),
(151,kT []),
(153,kT [(.str "_law_box_here" 394),(.str "_law_kind" 395),(.str "_law_columns_here" 396),(.str "_law_tables" 397),(.str "_law_way" 398),(.str "_law_sets" 399)]),
(154,kT []),
(156,kC "_law_question" 391 "_law_question" 392 393 140 2 3 151 181 152 153 154 155 400 140 401),
(157,kF bW8),
(158,kT []),
(161,⟨(.type "code"),none,(.fields #[(.str "_law_columns" 403),(.str "_law_columns" 404),(.str "/claim/cut.py" 405),(.int 154 0),(.int 1 0),(.int 0 0),(.int 0 0),(.int 3 0),(.ref 158),(.bool true),(.int 181 0),(.ref 159),.none,.none,.none,(.ref 160),(.int 406 0),(.int 154 0),(.str "/claim/cut.py" 407)]),#[]⟩),
(162,kF bW9),
(163,kT []),
(165,kT [(.str "_law_box_here" 412),(.str "_law_span" 413),(.str "_law_value_here" 414)]),
(166,kT []),
(168,kC "_law_value" 409 "_law_value" 410 411 159 2 3 163 181 164 165 166 167 415 159 416),
(169,kF bX0),
(170,kT []),
(173,⟨(.type "code"),none,(.fields #[(.str "_law_house" 418),(.str "_law_house" 419),(.str "/claim/cut.py" 420),(.int 164 0),(.int 3 0),(.int 0 0),(.int 0 0),(.int 3 0),(.ref 170),(.bool true),(.int 181 0),(.ref 171),.none,.none,.none,(.ref 172),(.int 421 0),(.int 164 0),(.str "/claim/cut.py" 422)]),#[]⟩),
(174,kF bX1),
(175,kT []),
(178,⟨(.type "code"),none,(.fields #[(.str "_law_cover" 424),(.str "_law_cover" 425),(.str "/claim/cut.py" 426),(.int 187 0),(.int 2 0),(.int 0 0),(.int 0 0),(.int 3 0),(.ref 175),(.bool true),(.int 181 0),(.ref 176),.none,.none,.none,(.ref 177),(.int 427 0),(.int 187 0),(.str "/claim/cut.py" 428)]),#[]⟩),
(179,kF bX2),
(180,kT []),
(182,kT [(.str "_law_number" 433),(.str "_law_times" 434),(.str "_law_found" 435),(.str "_law_k" 436)]),
(183,kT []),
(185,kC "_law_power" 430 "_law_power" 431 432 197 2 3 180 181 181 182 183 184 437 197 438),
(186,kF bX3),
(187,kT []),
(190,⟨(.type "code"),none,(.fields #[(.str "_law_great_cover" 440),(.str "_law_great_cover" 441),(.str "/claim/cut.py" 442),(.int 202 0),(.int 2 0),(.int 0 0),(.int 0 0),(.int 3 0),(.ref 187),(.bool true),(.int 181 0),(.ref 188),.none,.none,.none,(.ref 189),(.int 443 0),(.int 202 0),(.str "/claim/cut.py" 444)]),#[]⟩),
(191,kF bX4),
(192,kT []),
(194,kT [(.str "_law_house_here" 449),(.str "_law_numbers" 450),(.str "_law_found" 451),(.str "_law_rows" 452),(.str "_law_number" 453),(.str "_law_k" 454)]),
(195,kT []),
(197,kC "_law_product" 446 "_law_product" 447 448 207 2 3 192 181 193 194 195 196 455 207 456),
(198,kF bX5),
(199,kT []),
(201,kT [(.str "_law_found" 461)]),
(202,kT []),
(204,kC "_law_whole" 458 "_law_whole" 459 460 213 1 3 199 181 200 201 202 203 462 213 463),
(205,kF bX6),
(206,kT []),
(208,kT [(.str "_law_found" 468),(.str "_law_due" 469)]),
(209,kT []),
(211,kC "_law_truth" 465 "_law_truth" 466 467 215 2 3 206 181 207 208 209 210 470 215 471),
(212,kF bX7),
(213,kT []),
(215,kT [(.str "_law_number" 476),(.str "_law_power_here" 477),(.str "_law_step" 478),(.str "_law_found" 479)]),
(216,kT []),
(218,kC "_law_edge" 473 "_law_edge" 474 475 217 2 3 213 181 214 215 216 217 480 217 481),
(219,kF bX8),
(220,kT []),
(222,kT [(.str "_law_question_here" 486),(.str "_law_house_here" 487),(.str "_law_shares" 488),(.str "_law_drawn" 489),(.str "_law_parts" 490),(.str "_law_numbers" 491),(.str "_law_product_here" 492),(.str "_law_found" 493),(.str "_law_factor" 494),(.str "_law_edge_here" 495),(.str "_law_looks" 496)]),
(223,kT []),
(225,kC "_law_right" 483 "_law_right" 484 485 227 4 3 220 181 221 222 223 224 497 227 498),
(226,kF bX9),
(227,kT []),
(229,kT [(.str "_law_script" 503),(.str "_law_some" 504),(.str "_law_k" 505),(.str "_law_box_here" 506),(.str "_law_question_here" 507),(.str "_law_house_here" 508),(.str "_law_shares" 509),(.str "_law_drawn" 510)]),
(230,kT []),
(232,kC "law" 500 "law" 501 502 241 1 3 227 181 228 229 230 231 511 241 512),
(233,kF aG2)]
noncomputable def Vw:Program:=view PySem.Challenge.pw_mostrows_k36_most_by_covers [1,2,4,6,8,10,11,12,13,14,16,17,18,19,20,21,22,23,24,25,26,27,28,29,30,31,32,33,34,35,36]
def dS9:PySem.Challenge.rw_mostrows_k36_most_by_covers.wellSaid=true:=by kernel_rfl
def zV:LeftO PySem.Challenge.rw_mostrows_k36_most_by_covers.row.prog Vw [] (λs=>xlAt Vw [] s&&recOk (RowW.records PySem.Challenge.rw_mostrows_k36_most_by_covers.row.toRowW) s) (λs=>[2,3,15,22,23,24,25,28,35,37,38,40,41,42,43,44,47,50,51,52,55,56,57,59,60,62,63,64,66,67,69,70,71,73,74,76,77,78,80,81,83,84,85,87,88,90,91,92,94,95,97,98,99,101,102,104,105,106,108,109,111,112,113,115,116,118,119,120,123,124,125,127,128,130,131,132,134,135,137,138,139,141,142,144,145,146,149,150,151,153,154,156,157,158,161,162,163,165,166,168,169,170,173,174,175,178,179,180,182,183,185,186,187,190,191,192,194,195,197,198,199,201,202,204,205,206,208,209,211,212,213,215,216,218,219,220,222,223,225,226,227,229,230,232,233].map s.heap.get?) (λw=>(KF w.params).map λp=>some p.2) 2884:=λw=>by kernel_rfl
def dT0(h:WalkO Vw [] (XL Vw []) (InK KF) PySem.Challenge.rw_mostrows_k36_most_by_covers.row.toRowW dL4 [] (λf vs=>PySem.call f vs)):PySem.Challenge.rw_mostrows_k36_most_by_covers.Holds:=
 holds_law dS9 λe=>holds_open (d:=dL4) (kwd:=[]) zV (InK.of λ_=>by kernel_rfl) InK.keeps (λs e=>xl_of s (Bool.and_eq_true_iff.mp e).1) XL.keeps (by kernel_rfl) (by kernel_rfl) (by kernel_rfl) (λs e=>recFacts_of (Bool.and_eq_true_iff.mp e).2) (by kernel_rfl) e (by kernel_rfl) ⟨rfl,rfl,rfl,rfl,rfl,by decide +kernel⟩ (by w_witness2) h
end Hd
namespace L2
open PySem PySem.Spec PyProof.Rows
abbrev Key:=Sum Int Str
noncomputable def cV5:Key->Value->Bool
 | .inl k,v=>Value.isInt k v
 | .inr x,v=>Value.isStrOf x v
noncomputable def dT1(w:World):Key->Int
 | .inl k=>hashInt k
 | .inr x=>hashStr w x
def cJ:∀ {k:Key} {v:Value},cV5 k v=true->(∃ i t,k=Sum.inl i/\v=Value.int i t)\/(∃ x t,k=Sum.inr x/\v=Value.str x t)
 | .inl i,v,h=>by
   obtain⟨t,e⟩:=Value.isInt_shape (k:=i) (v:=v) h;exact .inl ⟨i,t,rfl,e⟩
 | .inr x,v,h=>by
   obtain⟨t,e⟩:=Value.isStrOf_shape (x:=x) (v:=v) h;exact .inr ⟨x,t,rfl,e⟩
def cV6(a b:Int):decide ((Sum.inl a:Key)=Sum.inl b)=(a==b):=by
 by_cases e:a=b;subst e;simp;have h:¬ (Sum.inl a:Key)=Sum.inl b:=λq=>e (Sum.inl.inj q);rw[a4k h];exact(beq_eq_false_iff_ne.mpr e).symm
def cV7(a b:Str):decide ((Sum.inr a:Key)=Sum.inr b)=decide (a=b):=by
 by_cases e:a=b;subst e;simp;have h:¬ (Sum.inr a:Key)=Sum.inr b:=λq=>e (Sum.inr.inj q);rw[a4k h,a4k e]
def cV8(a:Int)(b:Str):decide ((Sum.inl a:Key)=Sum.inr b)=false:=a4k (λq=>nomatch q)
def cV9(a:Str)(b:Int):decide ((Sum.inr a:Key)=Sum.inl b)=false:=a4k (λq=>nomatch q)
noncomputable def zY(prog:Program)(w:World):PySem.KeyKind prog w Key where
 is:=cV5
 hash:=dT1 w
 inj:=λv a b ha f=>by
  rcases cJ ha with⟨i,t,rfl,rfl⟩ | ⟨x,t,rfl,rfl⟩
  ·rcases cJ f with⟨j,u,rfl,e⟩ | ⟨y,u,rfl,e⟩
   ·injection e with c _;rw[c]
   ·exact nomatch e
  ·rcases cJ f with⟨j,u,rfl,e⟩ | ⟨y,u,rfl,e⟩;exact nomatch e;injection e with c _;rw[c]
 byValue:=λk v h=>by
  rcases cJ h with⟨i,t,rfl,rfl⟩ | ⟨x,t,rfl,rfl⟩<;>rfl
 pyHash:=λd h=>by
  rcases cJ d with⟨i,t,rfl,rfl⟩ | ⟨x,t,rfl,rfl⟩;exact wpAny_pyHash_int h;exact wpAny_pyHash_str h
 eqBool:=λg d h=>by
  rcases cJ g with⟨i,t,rfl,rfl⟩ | ⟨x,t,rfl,rfl⟩;rcases cJ d with⟨j,u,rfl,rfl⟩ | ⟨y,u,rfl,rfl⟩;rw[cV6]at h;exact wpAny_eqBool_int h;rw[cV8]at h;exact SeqAt.EqAt.int_str i t y u _ _ _ _ h;rcases cJ d with⟨j,u,rfl,rfl⟩ | ⟨y,u,rfl,rfl⟩;rw[cV9]at h;exact SeqAt.EqAt.str_int x t j u _ _ _ _ h;rw[cV7]at h;exact wpAny_eqBool_str h
 «strs»:=λk x t v h=>by
  rcases cJ h with⟨i,u,rfl,e⟩ | ⟨y,u,rfl,e⟩;exact nomatch e;injection e with c _
  subst c;cases v<;>rfl
inductive V where
 | non | bl (b:Bool) | int (i:Int) | str (x:Str) | byt (b:Array UInt8) | flt (b:UInt64) | ref (a:Addr) | ty (n:String)
 deriving DecidableEq
def dM:V->Value->Prop
 | .non,u=>u=Value.none
 | .bl b,u=>u=Value.bool b
 | .int i,u=>∃ t,u=Value.int i t
 | .str x,u=>∃ t,u=Value.str x t
 | .byt b,u=>∃ t,u=Value.bytes b t
 | .flt b,u=>∃ t,u=Value.float b t
 | .ref a,u=>u=Value.ref a
 | .ty n,u=>u=Value.type n
abbrev bN:List V->List Value->Prop:=Paired dM
theorem bN.length{xs:List V}{us:List Value}(r:bN xs us):xs.length=us.length:=Paired.length r
theorem bN.get:∀ {xs:List V} {us:List Value} {i:Nat} {x:V},bN xs us->xs[i]? = some x->∃ u,us[i]? = some u/\dM x u
 | _,_,_,_,.nil,e=>by simp at e
 | _,_,0,_,.cons r _,e=>by simp at e;subst e;exact⟨_,rfl,r⟩
 | _,_,i+1,x,.cons _ t,e=>by
   obtain⟨u,a,b⟩:=bN.get (i:=i) (x:=x) t (by simpa using e);exact⟨u,by simpa using a,b⟩
theorem bN.set{x:V}{u:Value}(r:dM x u):∀ {xs:List V} {us:List Value} (i:Nat),bN xs us->bN (xs.set i x) (us.set i u)
 | _,_,_,.nil=>.nil
 | _,_,0,.cons _ t=>.cons r t
 | _,_,i+1,.cons q t=>.cons q (bN.set r i t)
theorem bN.append:∀ {xs ys:List V} {us ws:List Value},bN xs us->bN ys ws->bN (xs++ys) (us++ws)
 | _,_,_,_,.nil,s=>s
 | _,_,_,_,.cons r t,s=>.cons r (bN.append t s)
theorem bN.take:∀ {xs:List V} {us:List Value} (n:Nat),bN xs us->bN (xs.take n) (us.take n)
 | _,_,0,_=>.nil
 | _,_,_+1,.nil=>.nil
 | _,_,n+1,.cons r t=>.cons r (bN.take n t)
theorem bN.drop:∀ {xs:List V} {us:List Value} (n:Nat),bN xs us->bN (xs.drop n) (us.drop n)
 | _,_,0,r=>r
 | _,_,_+1,.nil=>.nil
 | _,_,n+1,.cons _ t=>bN.drop n t
def dL5:Option V->Option Value->Prop
 | some v,some u=>dM v u
 | none,none=>True
 | _,_=>False
def KV{κ:Type}:List (κ×V)->List (κ×Value)->Prop:=Paired λ(p:κ×V) (q:κ×Value)=>p.1=q.1/\dM p.2 q.2
noncomputable def kV:Key->V
 | .inl i=>.int i
 | .inr x=>.str x
inductive HO where
 | lst (xs:List V)
 | tup (xs:List V)
 | dK (kvs:List (Key×V)) | dT (kvs:List (List Key×V))
 | set (S:Int->Bool) (n:Nat)
 | ins (C dx:Addr) (fs:List (Str×V))
 | own (x:Addr)
 | xd (fs:List (Str×V))
 | met (f x:Addr)
 | rng (lo hi:Int)
 | frz (o:Obj) (u:HO)
 | tbl (ps:Array Value)
 | ext (φ:Heap->Prop)
abbrev Hp:=Addr->Option HO
noncomputable def upd(H:Hp)(a:Addr)(o:HO):Hp:=λb=>if b=a then some o else H b
def aE{H:Hp}{a:Addr}{o:HO}:upd H a o a=some o:=by unfold upd;rw[a3Y rfl]
def aD{H:Hp}{a b:Addr}{o:HO}(h:b≠a):upd H a o b=H b:=by unfold upd;rw[a3Z h]
def cF8{H:Hp}{a:Addr}{o u:HO}:upd (upd H a o) a u=upd H a u:=by
 funext b;unfold upd;split<;>rfl
def aB{H:Hp}{a b:Addr}{o:HO}(h:H a=some o)(h':H b=none):a≠b:=by
 intro e;subst e;rw[h]at h';cases h'
def dQ4(h:Heap)(a:Addr):Prop:=∃ o,h.get? a=some o/\o.dict=none
section
variable(P:Program)(w:World)
def dD(H:Hp)(h:Heap)(a:Addr):HO->Prop
 | .lst xs=>xs.length<=sizeLine/\∃ (its:List Value) (n:Nat),bN xs its/\h.get? a=some {cls:=.type "list",data:=.seq its.toArray n}
 | .tup xs=>xs.length<=sizeLine/\∃ its:List Value,bN xs its/\IsTup h a its.toArray/\dQ4 h a
 | .dK kvs=>kvs.length<=sizeLine/\(a==sysModules)=false/\∃ vs,KV kvs vs/\h.DictOf (zY P w) a vs
 | .dT kvs=>kvs.length<=sizeLine/\(a==sysModules)=false/\∃ xs:List (List Key×Addr×Value),
   Paired (λ(p:List Key×V) (q:List Key×Addr×Value)=>p.1=q.1/\H q.2.1=some (.tup (p.1.map kV))/\dM p.2 q.2.2) kvs xs /\
   ∃ o es ep,h.get? a=some o/\o.ExactDict/\o.data=.dict es ep/\es.toList=xs.map (entryOfKey (tupleKind (zY P w)))/\(xs.map (·.1)).Nodup
 | .set S n=>h.SetOf (intKind P w) a S n
 | .ins C dx fs=>H dx=some (.own a)/\fs.length<=1000/\dx≠a/\h.get? a=some (W.instObj C dx) /\
   ∃ mA,h.Ns1 dx mA/\(∀ f,dL5 (fs.lookup f) (mA f))/\Within mA (fs.map (·.1))
 | .own _=>∃ o,h.get? a=some o
 | .xd fs=>∃ mA,h.Ns1 a mA/\∀ f,dL5 (fs.lookup f) (mA f)
 | .rng lo hi=>∃ t u v,h.get? a=some {cls:=.type "range",data:=.fields #[.int lo t,.int hi u,.int 1 v]}
 | .frz o u=>h.get? a=some o/\dD H h a u
 | .tbl ps=>h.get? a=some {cls:=.none,data:=.fields ps}
 | .met f x=>h.get? a=some (W.methodObj (.ref f) (.ref x))
 | .ext φ=>φ h/\(∃ o,h.get? a=some o)/\∀ b c:Heap,φ b->(∀ o,b.get? a=some o->c.get? a=some o)->φ c
def HOk(H:Hp)(h:Heap):Prop:=∀ a o,H a=some o->dD P w H h a o
end
section
variable{P:Program}{w:World}{H H':Hp}{h h':Heap}{a:Addr}{o:HO}
theorem dD.lt(x:dD P w H h a o):a < h.objs.size:=by
 cases o with
 | lst xs=>obtain⟨_,_,_,_,e⟩:=x;exact a2b e
 | tup xs=>obtain⟨_,_,_,p,_⟩:=x;exact p.lt
 | dK kvs=>obtain⟨_,_,_,_,o,_,_,e,_⟩:=x;exact a2b e
 | dT kvs=>obtain⟨_,_,_,_,o,_,_,e,_⟩:=x;exact a2b e
 | set S n=>obtain⟨o,_,_,_,e,_⟩:=x;exact a2b e
 | ins C dx fs=>obtain⟨_,_,_,e,_⟩:=x;exact a2b e
 | own y=>obtain⟨_,e⟩:=x;exact a2b e
 | xd fs=>obtain⟨_,⟨_,_,_,e,_⟩,_⟩:=x;exact a2b e
 | rng lo hi=>obtain⟨_,_,_,e⟩:=x;exact a2b e
 | frz ob u=>obtain⟨e,_⟩:=x;exact a2b e
 | tbl ps=>exact a2b (show h.get? a=some _ from x)
 | met f y=>exact a2b (show h.get? a=some _ from x)
 | ext φ=>obtain⟨_,⟨_,e⟩,_⟩:=x;exact a2b e
theorem Paired.mapP{c d:Type}{F G:c->d->Prop}:∀ {l₁:List c} {l₂:List d},Paired F l₁ l₂->(∀ a b,F a b->G a b)->Paired G l₁ l₂
 | _,_,.nil,_=>.nil
 | _,_,.cons r t,f=>.cons (f _ _ r) (Paired.mapP t f)
def dD.stay(x:dD P w H h a o)(k:∀ b u,(b=a\/H b=some (.own a))->h.get? b=some u->h'.get? b=some u)
  (j:∀ b,H b=some (.own a)->H' b=some (.own a)) (l:∀ b xs,H b=some (.tup xs)->H' b=some (.tup xs)):dD P w H' h' a o:=by
 induction o with
 | lst xs=>obtain⟨z,its,n,r,e⟩:=x;exact⟨z,its,n,r,k _ _ (.inl rfl) e⟩
 | tup xs=>obtain⟨z,its,r,⟨ob,e,c⟩,⟨g,i,m⟩⟩:=x;exact⟨z,its,r,⟨ob,k _ _ (.inl rfl) e,c⟩,⟨g,k _ _ (.inl rfl) i,m⟩⟩
 | dK kvs=>obtain⟨z,y,vs,r,ob,es,ep,e,c⟩:=x;exact⟨z,y,vs,r,ob,es,ep,k _ _ (.inl rfl) e,c⟩
 | dT kvs=>
   obtain⟨z,y,xs,r,ob,es,ep,e,c⟩:=x;exact⟨z,y,xs,Paired.mapP r λp q z=>⟨z.1,l _ _ z.2.1,z.2.2⟩,ob,es,ep,k _ _ (.inl rfl) e,c⟩
 | set S n=>obtain⟨ob,es,ep,t,e,c⟩:=x;exact⟨ob,es,ep,t,k _ _ (.inl rfl) e,c⟩
 | ins C dx fs=>
   obtain⟨d,z,ne,e,mA,⟨od,es,ep,i,c⟩,r⟩:=x;exact⟨j _ d,z,ne,k _ _ (.inl rfl) e,mA,⟨od,es,ep,k _ _ (.inr d) i,c⟩,r⟩
 | own y=>obtain⟨ob,e⟩:=x;exact⟨ob,k _ _ (.inl rfl) e⟩
 | xd fs=>obtain⟨mA,⟨od,es,ep,e,c⟩,r⟩:=x;exact⟨mA,⟨od,es,ep,k _ _ (.inl rfl) e,c⟩,r⟩
 | rng lo hi=>obtain⟨t,u,v,e⟩:=x;exact⟨t,u,v,k _ _ (.inl rfl) e⟩
 | frz ob u s=>obtain⟨e,q⟩:=x;exact⟨k _ _ (.inl rfl) e,s q⟩
 | tbl ps=>
   have e:h.get? a=some {cls:=.none,data:=.fields ps}:=x;show h'.get? a=some {cls:=.none,data:=.fields ps};exact k a _ (.inl rfl) e
 | met f y=>
   have e:h.get? a=some (W.methodObj (.ref f) (.ref y)):=x;show h'.get? a=some (W.methodObj (.ref f) (.ref y));exact k a _ (.inl rfl) e
 | ext φ=>obtain⟨p,⟨o,e⟩,st⟩:=x;exact⟨st _ _ p λo q=>k _ _ (.inl rfl) q,⟨o,k _ _ (.inl rfl) e⟩,st⟩
theorem HOk.lt(x:HOk P w H h)(e:H a=some o):a < h.objs.size:=(x a o e).lt
theorem HOk.fresh(x:HOk P w H h)(e:h.objs.size<=a):H a=none:=by
 cases q:H a with
 | none=>rfl
 | some u=>exact absurd (a7b (x.lt q) e) (a8d _)
def HOk.kept(x:HOk P w H h)(k:∀ b u,h.get? b=some u->h'.get? b=some u):HOk P w H h':=λa o e=>
 (x a o e).stay (λb u _ q=>k b u q) (λ_ q=>q) λ_ _ q=>q
def HOk.laid(x:HOk P w H h)(k:∀ b u,h.get? b=some u->h'.get? b=some u)(f:h.objs.size<=a)(new:dD P w (upd H a o) h' a o):HOk P w (upd H a o) h':=λb u e=>by
 have hn:=x.fresh f;by_cases d:b=a;subst d;rw[aE]at e;cases e;exact new;rw[aD d]at e;exact(x b u e).stay (λc v _ q=>k c v q) (λc q=>by rw[aD (aB q hn)];exact q) λc xs q=>by rw[aD (aB q hn)];exact q
end
def Rd(H:Hp)(a:Addr)(u:HO):Prop:=H a=some u\/∃ o,H a=some (.frz o u)
theorem Rd.ok{P:Program}{w:World}{H:Hp}{h:Heap}{a:Addr}{u:HO}(r:Rd H a u)(x:HOk P w H h):dD P w H h a u:=by
 rcases r with r | ⟨o,r⟩;exact x a u r;obtain⟨_,q⟩:=x a _ r;exact q
def Mut:Option HO->Prop
 | some (.lst _)=>True
 | some (.dK _)=>True
 | some (.dT _)=>True
 | some (.set _ _)=>True
 | some (.ins _ _ _)=>True
 | some (.ext _)=>True
 | _=>False
section
variable{P:Program}{w:World}{H:Hp}{h h':Heap}{x e:Addr}{o':HO}
def HOk.write(ok:HOk P w H h)(mu:Mut (H x))(l:e=x\/H e=some (.own x))(k:∀ b u,b≠e->h.get? b=some u->h'.get? b=some u)(j:∃ u,h'.get? e=some u)
  (new:dD P w (upd H x o') h' x o'):HOk P w (upd H x o') h':=λb u q=>by
 have d:∀ c y,H c=some (.own y)->c≠x:=λc y r z=>by subst z;rw[r]at mu;exact mu
 have f:∀ c xs,H c=some (.tup xs)->c≠x:=λc xs r z=>by subst z;rw[r]at mu;exact mu
 by_cases g:b=x;subst g;rw[aE]at q;cases q;exact new;rw[aD g]at q;by_cases a:b=e
 ·have m:H b=some (.own x):=by
   rcases l with z | z;exact absurd (a.trans z) g;rw[a];exact z
  rw[q]at m;cases m;obtain⟨v,n⟩:=j;exact⟨v,by rw[a];exact n⟩
 ·refine(ok b u q).stay (λc v i r=>k c v ?_ r) (λc r=>by rw[aD (d c b r)];exact r) λc xs r=>by rw[aD (f c xs r)];exact r
  rcases i with rfl | i;exact a;rintro rfl;rcases l with z | z;exact d c b i z;rw[i]at z;cases z;exact g rfl
end
structure Un(fs ex:List Addr)(H H':Hp)(h h':Heap):Prop where
 keep:∀ b o,h.get? b=some o->H b=none->b∉fs->b∉ex->h'.get? b=some o
 slot:∀ b o,h.get? b=some o->H b=none->b∈fs->b∉ex->∃ sl,h'.get? b=some {o with slots:=sl}
 free:∀ b o,h.get? b=some o->H b=none->b∉ex->H' b=none
 there:∀ b o,h.get? b=some o->b∉ex->∃ o',h'.get? b=some o'
 tups:∀ b xs,H b=some (.tup xs)->H' b=some (.tup xs)
 frzs:∀ b o u,H b=some (.frz o u)->H' b=some (.frz o u)
 tbls:∀ b ps,H b=some (.tbl ps)->∃ more,H' b=some (.tbl (ps++more))
section
variable{fs fs' ex ex':List Addr}{H H1 H2:Hp}{h h1 h2 h':Heap}{a x e:Addr}{o:HO}
def Un.any(u:Un fs ex H H1 h h1){b:Addr}{ob:Obj}(q:h.get? b=some ob)(n:H b=none)(a:b∉ex):∃ sl,h1.get? b=some {ob with slots:=sl}:=by
 by_cases c:b∈fs;exact u.slot b ob q n c a;exact⟨ob.slots,u.keep b ob q n c a⟩
def Un.kept(k:∀ b u,h.get? b=some u->h'.get? b=some u):Un fs ex H H h h':=
 ⟨λb ob q _ _ _=>k b ob q,λb ob q _ _ _=>⟨ob.slots,k b ob q⟩,λ_ _ _ n _=>n,λb ob q _=>⟨ob,k b ob q⟩,λ_ _ q=>q,λ_ _ _ q=>q,λ_ ps q=>⟨#[],by rw[q];simp⟩⟩
def Un.refl:Un fs ex H H h h:=Un.kept λ_ _ q=>q
def Un.laid(k:∀ b u,h.get? b=some u->h'.get? b=some u)(c:h.objs.size<=a)(hn:H a=none):Un fs ex H (upd H a o) h h' where
 keep:=λb u q _ _ _=>k b u q
 slot:=λb u q _ _ _=>⟨u.slots,k b u q⟩
 free:=λb u q n _=>by rw[aD (a1d (a7b (a2b q) c))];exact n
 there:=λb u q _=>⟨u,k b u q⟩
 tups:=λb xs q=>by rw[aD (aB q hn)];exact q
 frzs:=λb u xs q=>by rw[aD (aB q hn)];exact q
 tbls:=λb ps q=>⟨#[],by rw[aD (aB q hn),q];simp⟩
def Un.write(mu:Mut (H x))(g:e=x\/H e=some (.own x))(k:∀ b u,b≠e->h.get? b=some u->h'.get? b=some u)(c:∃ u,h'.get? e=some u):Un fs ex H (upd H x o) h h':=by
 have d:∀ b,H b=none->b≠x:=λb n z=>by subst z;rw[n]at mu;exact mu
 have f:∀ b,H b=none->b≠e:=λb n z=>by
  subst z;rcases g with r | r;exact d b n r;rw[n]at r;cases r
 have hm:∀ b u,H b=some u->¬ Mut (some u)->b≠x:=λb u q i z=>by subst z;rw[q]at mu;exact i mu
 refine⟨λb u q n _ _=>k b u (f b n) q,λb u q n _ _=>⟨u.slots,k b u (f b n) q⟩,λb u q n _=>by rw[aD (d b n)];exact n,λb u q _=>?_,
  λb xs q=>by rw[aD (hm b _ q λz=>z)];exact q,λb u xs q=>by rw[aD (hm b _ q λz=>z)];exact q,λb ps q=>⟨#[],by rw[aD (hm b _ q λz=>z),q];simp⟩⟩
 by_cases a:b=e;subst a;exact c;exact⟨u,k b u a q⟩
end
noncomputable def trk(h:Heap)(H:Hp):List Addr:=(List.range h.objs.size).filter λa=>(H a).isSome
noncomputable def bL4(h:Heap)(H:Hp):Heap:=W.hideAll h (trk h H)
def aT1(h:Heap)(H:Hp):(bL4 h H).objs.size=h.objs.size:=W.hideAll_size _ _
def bL5{h:Heap}{H:Hp}{b:Addr}{o:Obj}(e:h.get? b=some o)(n:H b=none):(bL4 h H).get? b=some o:=
 W.hideAll_get _ e λhm=>by
  have q:(H b).isSome=true:=(List.mem_filter.mp hm).2;rw[n]at q;simp at q
def cF9{h:Heap}{H:Hp}{b:Addr}{o:Obj}(e:(bL4 h H).get? b=some o):h.get? b=some o/\H b=none:=by
 have a:h.get? b=some o:=W.of_hideAll (trk h H) e;refine⟨a,?_⟩;cases q:H b with
 | none=>rfl
 | some x=>
   have hm:b∈trk h H:=List.mem_filter.mpr ⟨a8e.mpr (a2b a),by simp[q]⟩;have z:(bL4 h H).get? b=none:=W.hideAll_none (trk h H) hm;rw[z]at e;cases e
noncomputable def cG0(g h:Heap)(L:Addr):List (Addr×Obj):=(List.range h.objs.size).filterMap λa=>if a=L\/(g.get? a).isSome=true then none else(h.get? a).map λo=>(a,o)
noncomputable def cG(g h:Heap)(L d:Addr):List (Addr×Obj):=(cG0 g h L).filter λp=>decide (p.1≠d)
structure Mod(K:W.Frag)(mg:Str->Option Value)(base:Heap):Prop where
 kin:K.In base
 glob:base.Ns mainGlobals mg
 blt:∃ mb,base.Ns builtinsNs mb/\∀ x:Str,x≠"__name__"->mb x=bootBuiltins x
 nolimit:base.NoLimit
structure Cx where
 prog:Program
 w:World
 K:W.Frag
 mg:Str->Option Value
 base:Heap
 A:Around
 N:List Str
 s₀:Shared
 H₀:Hp
 env:Env
 outer:List Env
 stack:List Env
 ex:List Addr
 fn:Str->Bool
 calm:Bool
 pn:List (Addr×Obj)
 xe:Value->Shared->Prop
noncomputable def frs(l:List Env):List Addr:=l.filterMap (·.frame)
noncomputable abbrev Cx.fs(X:Cx):List Addr:=frs X.outer
def Vis(sc:Scope)(x:Str):Prop:=sc.names.lookup x=some .local\/sc.names.lookup x=some .cell\/sc.names.lookup x=some .free
def Loc(sc:Scope)(x:Str):Prop:=sc.names.lookup x=some .local\/sc.names.lookup x=some .cell
def dT2(env:Env)(h:Heap)(m:Str->Option Value)(x:Str)(u:Value):Prop:=
 (env.kindOf x=some .local/\m x=some u)\/((env.kindOf x=some .cell\/env.kindOf x=some .free)/\∃ c,env.cells.lookup x=some c/\h.IsCell c (some u))
structure Cx.Ok(X:Cx):Prop where
 mod:Mod X.K X.mg X.base
 kind:X.env.scope.kind=.function
 glob:X.env.globals=mainGlobals
 blt:X.env.builtins=builtinsNs
 above:X.s₀.heap.objs.size<=X.env.locals
 inj:∀ x y c,X.env.cells.lookup x=some c->X.env.cells.lookup y=some c->x=y
 has:∀ x,(X.env.kindOf x=some .cell\/X.env.kindOf x=some .free)->∃ c,X.env.cells.lookup x=some c
 cab:∀ x c,X.fn x=true->X.env.cells.lookup x=some c->X.s₀.heap.objs.size<=c
 hd:X.calm=true->X.A.handled=none
 frames:X.A.frames=some X.stack
 stk:X.stack=X.outer\/(X.stack=X.env::X.outer/\X.env.frame=some X.env.locals)
 exf:∀ b∈X.ex,b≠X.env.locals/\∀ x c,X.env.cells.lookup x=some c->c≠b
 bs:∀ b o,X.base.get? b=some o->X.s₀.heap.get? b=some o/\X.H₀ b=none
 bsz:X.base.objs.size<=X.s₀.heap.objs.size
 noex:∀ b o,X.base.get? b=some o->b∉X.ex
 exfs:∀ b∈X.ex,b∉X.fs
 funs:X.s₀.heap.FunFrames X.base X.outer
 frf:∀ b∈X.fs,X.H₀ b=none
structure Inv(X:Cx)(pins:List (Addr×Obj))(σ:List (Option V))(H:Hp)(s:Shared):Prop where
 ok:X.Ok
 os:s.os=X.s₀.os
 bare:AllBare s.gens
 base:Un X.fs X.ex X.H₀ H X.s₀.heap s.heap
 loc:∃ m,s.heap.Ns X.env.locals m/\∀ (i:Nat) (x:Str) (v:V),X.N[i]? = some x->σ[i]? = some (some v)->Vis X.env.scope x->∃ u,dM v u/\dT2 X.env s.heap m x u
 cell:∀ x c,X.env.cells.lookup x=some c->∃ v,s.heap.IsCell c v
 free:H X.env.locals=none
 freeC:∀ x c,X.env.cells.lookup x=some c->H c=none
 pin:∀ p∈X.pn++pins,s.heap.get? p.1=some p.2/\H p.1=none/\p.1≠X.env.locals/\p.1∉X.fs/\∀ v,p.2.data≠.cell v
 hok:HOk X.prog X.w H s.heap
 len:σ.length=X.N.length
section
variable{X:Cx}{pins:List (Addr×Obj)}{σ:List (Option V)}{H H':Hp}{s:Shared}{h':Heap}
def Cx.Ok.nofr(ok:X.Ok){b:Addr}{o:Obj}(e:X.base.get? b=some o):b∉X.fs:=λa=>by
 have:=(ok.funs.mem a).1;rw[e]at this;cases this
theorem Inv.bs(I:Inv X pins σ H s):∀ b o,X.base.get? b=some o->s.heap.get? b=some o/\H b=none:=λb o e=>
 ⟨I.base.keep b o (I.ok.bs b o e).1 (I.ok.bs b o e).2 (I.ok.nofr e) (I.ok.noex b o e),I.base.free b o (I.ok.bs b o e).1 (I.ok.bs b o e).2 (I.ok.noex b o e)⟩
def Inv.bk(I:Inv X pins σ H s):∀ b o,X.base.get? b=some o->s.heap.get? b=some o:=λb o e=>(I.bs b o e).1
theorem Inv.mod(I:Inv X pins σ H s):Mod X.K X.mg X.base:=I.ok.mod
def Inv.kIn(I:Inv X pins σ H s):X.K.In s.heap:=I.ok.mod.kin.keeps I.bk
theorem Inv.lt(I:Inv X pins σ H s):X.env.locals < s.heap.objs.size:=let ⟨_,hn,_⟩:=I.loc;hn.lt
theorem Inv.sz(I:Inv X pins σ H s):X.s₀.heap.objs.size<=s.heap.objs.size:=a8b I.ok.above (a2g I.lt)
def Inv.nofs(I:Inv X pins σ H s){a:Addr}(h:s.heap.objs.size<=a):a∉X.fs:=λb=>by
 obtain⟨_,o,c,_⟩:=I.ok.funs.mem b;exact absurd (a7b (a2b c) (a8b I.sz h)) (a8d _)
def Inv.cne(I:Inv X pins σ H s):∀ x c,X.env.cells.lookup x=some c->c≠X.env.locals:=λx c e z=>by
 obtain⟨v,o,d,hd⟩:=I.cell x c e;obtain⟨m,⟨o',es,ep,a,b,_⟩,_⟩:=I.loc;rw[z,a]at d;cases d;rw[b]at hd;cases hd
theorem Inv.funs(I:Inv X pins σ H s):s.heap.FunFrames X.base X.outer:=by
 have all:∀ (l:List Env),(∀ b∈frs l,b∈X.fs)->X.s₀.heap.FunFrames X.base l->s.heap.FunFrames X.base l:=by
  intro l
  induction l with
  | nil=>intro _ _;trivial
  | cons env r f=>
    intro hs hl;obtain⟨g,⟨L,o,a,hn,h,hd⟩,hr⟩:=hl;have c:L∈X.fs:=hs L (by unfold frs;rw[a3h,a];exact a6a);obtain⟨sl,e⟩:=I.base.slot L o h (I.ok.frf L c) c λz=>I.ok.exfs L z c;exact⟨g,⟨L,_,a,hn,e,hd⟩,f (λb d=>hs b (by unfold frs;rw[a3h,a];exact a7a _ d)) hr⟩
 exact all X.outer (λ_ d=>d) I.ok.funs
theorem Inv.stack(I:Inv X pins σ H s):s.heap.FunFrames X.base X.stack:=by
 rcases I.ok.stk with e | ⟨e,a⟩;rw[e];exact I.funs;rw[e];obtain⟨m,hn,_⟩:=I.loc;refine .cons (by rw[I.ok.kind];decide) a hn ?_ I.funs;exact Heap.get?_none_of_le (a8b I.ok.bsz I.ok.above)
def Inv.stkSub(I:Inv X pins σ H s):∀ b∈frs X.stack,b∈X.env.locals::X.fs:=λb a=>by
 rcases I.ok.stk with e | ⟨e,c⟩;rw[e]at a;exact a7a _ a;rw[e]at a;unfold frs at a;rw[a3h,c]at a;exact a
def Inv.stkFree(I:Inv X pins σ H s):∀ b∈frs X.stack,H b=none:=λb a=>by
 rcases a5b.mp (I.stkSub b a)with e | a;rw[e];exact I.free;obtain⟨_,o,c,_⟩:=I.ok.funs.mem a;exact I.base.free b o c (I.ok.frf b a) λz=>I.ok.exfs b z a
def Inv.step{g':Array GenState}{t':Nat}{d':Drawn}{ch:List Addr}(I:Inv X pins σ H s)
  (f:∀ b∈ch,(b∈X.ex\/X.s₀.heap.objs.size<=b)/\b≠X.env.locals/\(∀ x c,X.env.cells.lookup x=some c->c≠b)/\∀ p∈X.pn++pins,p.1≠b)
  (keep:∀ b o,b≠X.env.locals->b∉X.fs->b∉ch->s.heap.get? b=some o->H b=none->h'.get? b=some o)
  (slot:∀ b o,b≠X.env.locals->b∈X.fs->b∉ch->s.heap.get? b=some o->H b=none->∃ sl,h'.get? b=some {o with slots:=sl}) (free:∀ b o,b∉ch->s.heap.get? b=some o->H b=none->H' b=none)
  (there:∀ b o,b∉ch->s.heap.get? b=some o->∃ o',h'.get? b=some o')
  (tups:∀ b xs,H b=some (.tup xs)->H' b=some (.tup xs)) (frzs:∀ b o u,H b=some (.frz o u)->H' b=some (.frz o u)) (tbls:∀ b ps,H b=some (.tbl ps)->∃ more,H' b=some (.tbl (ps++more)))
  (ns:∀ m,s.heap.Ns X.env.locals m->h'.Ns X.env.locals m) (hok:HOk X.prog X.w H' h') (J:AllBare g') :
  Inv X pins σ H' {s with heap:=h',gens:=g',drawn:=d',toks:=t'}:=by
 have B:∀ b o,X.s₀.heap.get? b=some o->b≠X.env.locals:=λb o e=>a1d (a7b (a2b e) I.ok.above);have j:∀ b o,X.s₀.heap.get? b=some o->b∉X.ex->b∉ch:=λb o e a y=>by
  rcases(f b y).1 with z | z;exact a z;exact absurd (a7b (a2b e) z) (a8d _)
 have g:∀ x c,X.env.cells.lookup x=some c->∀ v,s.heap.IsCell c v->h'.IsCell c v:=λx c e v ⟨o,A,hd⟩=>by
  have h:c∉ch:=λz=>(f c z).2.2.1 x c e rfl;by_cases E:c∈X.fs;obtain⟨sl,q⟩:=slot c o (I.cne x c e) E h A (I.freeC x c e);exact⟨_,q,hd⟩;exact⟨o,keep c o (I.cne x c e) E h A (I.freeC x c e),hd⟩
 refine⟨I.ok,I.os,J,⟨λb o e n y a=>?_,λb o e n y a=>?_,λb o e n a=>?_,λb o e a=>?_,λb xs e=>tups b xs (I.base.tups b xs e),λb o xs e=>frzs b o xs (I.base.frzs b o xs e),λb ps e=>?_⟩,?_,λx c e=>?_,?_,λx c e=>?_,λp F=>?_,hok,I.len⟩;exact keep b o (B b o e) y (j b o e a) (I.base.keep b o e n y a) (I.base.free b o e n a);obtain⟨sl,t⟩:=I.base.slot b o e n y a;obtain⟨D,C⟩:=slot b _ (B b o e) y (j b o e a) t (I.base.free b o e n a);exact⟨D,C⟩;obtain⟨o',t⟩:=I.base.there b o e a;exact free b o' (j b o e a) t (I.base.free b o e n a);obtain⟨o',t⟩:=I.base.there b o e a;exact there b o' (j b o e a) t;obtain⟨m1,t⟩:=I.base.tbls b ps e;obtain⟨K,C⟩:=tbls b _ t;exact⟨m1++K,by rw[C,a8i]⟩;obtain⟨m,hn,hl⟩:=I.loc;refine⟨m,ns m hn,λi x v t C L=>?_⟩;obtain⟨u,r,l⟩:=hl i x v t C L;refine⟨u,r,?_⟩;rcases l with l | ⟨k,c,e,z⟩;exact .inl l;exact .inr ⟨k,c,e,g x c e _ z⟩;obtain⟨v,z⟩:=I.cell x c e;exact⟨v,g x c e v z⟩;obtain⟨m,⟨o,_,_,A,_⟩,_⟩:=I.loc;exact free _ o (λz=>(f _ z).2.1 rfl) A I.free;obtain⟨v,o,A,hd⟩:=I.cell x c e;exact free c o (λz=>(f c z).2.2.1 x c e rfl) A (I.freeC x c e);obtain⟨e,n,ne,G,d⟩:=I.pin p F;have h:p.1∉ch:=λz=>(f p.1 z).2.2.2 p F rfl;exact⟨keep p.1 p.2 ne G h e n,free p.1 p.2 h e n,ne,G,d⟩
def Inv.un{t':Nat}(I:Inv X pins σ H s)(u:Un X.fs [] H H' s.heap h')(hok:HOk X.prog X.w H' h'):Inv X pins σ H' {s with heap:=h',toks:=t'}:=by
 obtain⟨m,⟨o,es,ep,g,r⟩,_⟩:=id I.loc;obtain⟨sl,h⟩:=u.any g I.free (by simp);exact I.step (g':=s.gens) (d':=s.drawn) (ch:=[]) (λ_ z=>nomatch z) (λb o _ c _ e n=>u.keep b o e n c (by simp)) (λb o _ c _ e n=>u.slot b o e n c (by simp)) (λb o _ e n=>u.free b o e n (by simp)) (λb o _ e=>u.there b o e (by simp)) u.tups u.frzs u.tbls (λm' hm=>by
  obtain⟨o',d,f,a,i⟩:=hm;rw[g]at a;cases a;exact⟨_,d,f,h,i⟩) hok I.bare
def Inv.call{g':Array GenState}{t':Nat}{d':Drawn}{ch:List Addr}(I:Inv X pins σ H s)(u:Un (frs X.stack) ch H H' s.heap h')(hok:HOk X.prog X.w H' h')(k:AllBare g')
  (d:∀ b∈ch,(b∈X.ex\/X.s₀.heap.objs.size<=b)/\b≠X.env.locals/\(∀ x c,X.env.cells.lookup x=some c->c≠b)/\∀ p∈X.pn++pins,p.1≠b) :
  Inv X pins σ H' {s with heap:=h',gens:=g',drawn:=d',toks:=t'}:=by
 obtain⟨m,⟨o,es,ep,j,r⟩,_⟩:=id I.loc;obtain⟨sl,g⟩:=u.any j I.free λz=>(d _ z).2.1 rfl;exact I.step (ch:=ch) d (λb o g l a e n=>u.keep b o e n (λz=>(a5b.mp (I.stkSub b z)).elim g l) a) (λb o _ _ a e n=>u.any e n a) (λb o a e n=>u.free b o e n a) (λb o a e=>u.there b o e a) u.tups u.frzs u.tbls (λm' hm=>by
  obtain⟨o',h,i,f,q⟩:=hm;rw[j]at f;cases f;exact⟨_,h,i,g,q⟩) hok k
def Inv.turned{t':Nat}{it:Addr}(I:Inv X pins σ H s)(k:∀ b o,b≠it->s.heap.get? b=some o->h'.get? b=some o)(hn:H it=none)(f:it≠X.env.locals)
  (g:it∈X.ex\/X.s₀.heap.objs.size<=it) (h:∀ x c,X.env.cells.lookup x=some c->c≠it) (i:∀ p∈X.pn++pins,p.1≠it):Inv X pins σ H {s with heap:=h',toks:=t'}:=by
 have d:∀ b u,H b=some u->b≠it:=λb u e z=>by rw[z,hn]at e;cases e
 refine I.step (g':=s.gens) (d':=s.drawn) (ch:=[it]) (λb j=>?_) (λb o _ _ a e _=>k b o (λz=>a (by simp[z])) e) (λb o _ _ a e _=>⟨o.slots,k b o (λz=>a (by simp[z])) e⟩) (λ_ _ _ _ n=>n)
  (λb o a e=>⟨o,k b o (λz=>a (by simp[z])) e⟩) (λ_ _ e=>e) (λ_ _ _ e=>e) (λb ps e=>⟨#[],by rw[e];simp⟩) (λm hm=>?_) (λb u e=>?_) I.bare
 ·have e:b=it:=by simpa using j
  subst e;exact⟨g,f,h,i⟩
 ·obtain⟨o,es,ep,l,r⟩:=hm;exact⟨o,es,ep,k _ o (a5d f) l,r⟩
 ·refine(I.hok b u e).stay (λc v a q=>k c v ?_ q) (λ_ q=>q) λ_ _ q=>q;rcases a with z | z;rw[z];exact d b u e;exact d c _ z
def Inv.tok(I:Inv X pins σ H s)(t:Nat):Inv X pins σ H {s with toks:=t}:=I.un (h':=s.heap) (t':=t) Un.refl I.hok
theorem Inv.kept{t':Nat}(I:Inv X pins σ H s)(k:∀ b u,s.heap.get? b=some u->h'.get? b=some u):Inv X pins σ H {s with heap:=h',toks:=t'}:=I.un (Un.kept k) (I.hok.kept k)
theorem Inv.laid{a:Addr}{o:HO}{t':Nat}(I:Inv X pins σ H s)(k:∀ b u,s.heap.get? b=some u->h'.get? b=some u)(c:s.heap.objs.size<=a)(new:dD X.prog X.w (upd H a o) h' a o) :
  Inv X pins σ (upd H a o) {s with heap:=h',toks:=t'}:=I.un (Un.laid k c (I.hok.fresh c)) (I.hok.laid k c new)
theorem Inv.write{x e:Addr}{o:HO}{t':Nat}(I:Inv X pins σ H s)(mu:Mut (H x))(c:e=x\/H e=some (.own x))(k:∀ b u,b≠e->s.heap.get? b=some u->h'.get? b=some u)(a:∃ u,h'.get? e=some u)
  (new:dD X.prog X.w (upd H x o) h' x o):Inv X pins σ (upd H x o) {s with heap:=h',toks:=t'}:=I.un (Un.write mu c k a) (I.hok.write mu c k a new)
def Inv.weak{σ':List (Option V)}(I:Inv X pins σ H s)(hl:σ'.length=σ.length)(w:∀ (i:Nat) v,σ'[i]? = some (some v)->σ[i]? = some (some v)):Inv X pins σ' H s:=
 ⟨I.ok,I.os,I.bare,I.base,let ⟨m,hn,a⟩:=I.loc;⟨m,hn,λi x v b c d=>a i x v b (w i v c) d⟩,I.cell,I.free,I.freeC,I.pin,I.hok,hl.trans I.len⟩
def Inv.pins_of{a:List (Addr×Obj)}(I:Inv X pins σ H s)(h:∀ p∈a,s.heap.get? p.1=some p.2/\H p.1=none/\p.1≠X.env.locals/\p.1∉X.fs/\∀ v,p.2.data≠.cell v):Inv X a σ H s:=
 ⟨I.ok,I.os,I.bare,I.base,I.loc,I.cell,I.free,I.freeC,λp b=>(a1c.mp b).elim (λz=>I.pin p (a9g _ z)) (h p),I.hok,I.len⟩
def aG3{N:List Str}(c:N.Nodup){i j:Nat}{x:Str}(a:N[i]? = some x)(b:N[j]? = some x):i=j:=by
 obtain⟨f,d⟩:=a3a.mp a;obtain⟨g,e⟩:=a3a.mp b;exact(List.getElem_inj c).mp (d.trans e.symm)
def wJ{M:Model}{A:Around}{E:Value->Shared->Prop}{i:Nat}{x:Str}{v:V}{u:Value}{Q:Unit->Shared->Prop}(I:Inv X pins σ H s)(hN:X.N.Nodup)(hi:X.N[i]? = some x)(t:Loc X.env.scope x)(r:dM v u)
  (h:∀ s',Inv X pins (σ.set i (some v)) H s'->(∃ a,Heap.SameBut a s.heap s'.heap/\(a=X.env.locals\/X.env.cells.lookup x=some a))->Q () s') (hf:X.fn x=true\/X.env.scope.names.lookup x=some .local:=by first | exact .inl rfl | exact .inr rfl | assumption):wpAny M A (storeName X.env x u) Q E s:=by
 obtain⟨m,hn,hl⟩:=id I.loc;have L:(X.env.scope.kind==.class||(X.env.scope.kind==.module&&X.env.locals != X.env.globals))=false:=by rw[I.ok.kind];rfl
 have D:i < σ.length:=by rw[I.len];exact(a3a.mp hi).1
 have cne:=I.cne;have f:∀ {a:Addr} {h':Heap},(∃ o,s.heap.get? a=some o/\H a=none)->Heap.SameBut a s.heap h'->HOk X.prog X.w H h':=λ{a h'} ha hs b ob e=>by
  obtain⟨_,_,B⟩:=ha;refine(I.hok b ob e).stay (λc T l q=>(hs.2 c ?_).trans q) (λ_ q=>q) λ_ _ q=>q;rintro rfl;rcases l with rfl | l;rw[B]at e;cases e;rw[B]at l;cases l
 rcases t with F | F
 ·refine wpAny_storeName_local F hn (λh' W hs=>?_) L;obtain⟨oL,_,_,Y,_⟩:=id hn;refine h _ ⟨I.ok,I.os,I.bare,⟨λb o e n G t=>?_,λb o e n G t=>?_,I.base.free,λb o e t=>?_,I.base.tups,I.base.frzs,I.base.tbls⟩,⟨_,W,λj y Z g C e3=>?_⟩,λy c e=>?_,I.free,I.freeC,λp hp=>?_,f ⟨oL,Y,I.free⟩ hs,by simpa using I.len⟩ ⟨_,hs,.inl rfl⟩;exact(hs.2 b (a1d (a7b (a2b e) I.ok.above))).trans (I.base.keep b o e n G t);obtain⟨sl,g⟩:=I.base.slot b o e n G t;exact⟨sl,(hs.2 b (a1d (a7b (a2b e) I.ok.above))).trans g⟩;obtain⟨o',g⟩:=I.base.there b o e t;exact⟨o',(hs.2 b (a1d (a7b (a2b e) I.ok.above))).trans g⟩;by_cases J:j=i;subst J;rw[hi]at g;cases g;rw[a2c D]at C;cases C;exact⟨u,r,.inl ⟨F,by simp⟩⟩;rw[a9a (a5d J)]at C;obtain⟨u',r',q⟩:=hl j y Z g C e3;refine⟨u',r',?_⟩;rcases q with⟨k,e⟩ | ⟨k,c,e,z⟩;refine .inl ⟨k,?_⟩;have:y≠x:=λe=>J (aG3 hN g (e ▸ hi));simp[this,e];exact .inr ⟨k,c,e,z.sameBut hs (cne y c e)⟩;obtain⟨T,z⟩:=I.cell y c e;exact⟨T,z.sameBut hs (cne y c e)⟩;obtain⟨e,n,ne,nf,d⟩:=I.pin p hp;exact⟨(hs.2 p.1 ne).trans e,n,ne,nf,d⟩
 ·have K:X.fn x=true:=by
   rcases hf with z | z;exact z;rw[z]at F;cases F
  obtain⟨c,l⟩:=I.ok.has x (.inl F);obtain⟨T,z⟩:=I.cell x c l;refine wpAny_storeName_cell I.ok.kind F l z (λh' O hs=>?_);obtain⟨oc,P,R⟩:=id z;refine h {s with heap:=h'} ⟨I.ok,I.os,I.bare,⟨λb o e n G t=>?_,λb o e n G t=>?_,I.base.free,λb o e t=>?_,I.base.tups,I.base.frzs,I.base.tbls⟩,⟨m,hn.sameBut hs (a5d (cne x c l)),λj y Z g C e3=>?_⟩,λy U e=>?_,I.free,I.freeC,λp hp=>?_,f ⟨oc,P,I.freeC x c l⟩ hs,by simpa using I.len⟩ ⟨c,hs,.inr l⟩;exact(hs.2 b (a1d (a7b (a2b e) (I.ok.cab x c K l)))).trans (I.base.keep b o e n G t);obtain⟨sl,g⟩:=I.base.slot b o e n G t;exact⟨sl,(hs.2 b (a1d (a7b (a2b e) (I.ok.cab x c K l)))).trans g⟩;obtain⟨o',g⟩:=I.base.there b o e t;exact⟨o',(hs.2 b (a1d (a7b (a2b e) (I.ok.cab x c K l)))).trans g⟩;by_cases J:j=i;subst J;rw[hi]at g;cases g;rw[a2c D]at C;cases C;exact⟨u,r,.inr ⟨.inl F,c,l,O⟩⟩;rw[a9a (a5d J)]at C;obtain⟨u',r',q⟩:=hl j y Z g C e3;refine⟨u',r',?_⟩;rcases q with q | ⟨k,U,e,z'⟩;exact .inl q;refine .inr ⟨k,U,e,z'.sameBut hs ?_⟩;rintro rfl;exact J (aG3 hN g (I.ok.inj _ _ _ e l ▸ hi));by_cases S:U=c;subst S;exact⟨_,O⟩;obtain⟨w2,z2⟩:=I.cell y U e;exact⟨w2,z2.sameBut hs S⟩;obtain⟨e,n,ne,nf,d⟩:=I.pin p hp;refine⟨(hs.2 p.1 ?_).trans e,n,ne,nf,d⟩;intro q;rw[q,P]at e;have q':oc=p.2:=a5a e;exact d T (by rw[← q'];exact R)
def pR{M:Model}{A:Around}{E:Value->Shared->Prop}{i:Nat}{x:Str}{v:V}{u:Value}{Q:Unit->Shared->Prop}(I:Inv X pins σ H s)(a:X.N.Nodup)(hi:X.N[i]? = some x)(b:Loc X.env.scope x)(r:dM v u)
  (h:∀ s',Inv X pins (σ.set i (some v)) H s'->Q () s') (c:X.fn x=true\/X.env.scope.names.lookup x=some .local:=by first | exact .inl rfl | exact .inr rfl | assumption):wpAny M A (storeName X.env x u) Q E s:=
 wJ I a hi b r (λs' d _=>h s' d) c
def Inv.call'{s':Shared}{ch:List Addr}(I:Inv X pins σ H s)(d:s'.os=s.os)(u:Un (frs X.stack) ch H H' s.heap s'.heap)(hok:HOk X.prog X.w H' s'.heap)(f:AllBare s'.gens)
  (a:∀ b∈ch,(b∈X.ex\/X.s₀.heap.objs.size<=b)/\b≠X.env.locals/\(∀ x c,X.env.cells.lookup x=some c->c≠b)/\∀ p∈X.pn++pins,p.1≠b):Inv X pins σ H' s':=by
 obtain⟨h',g',d',t',o'⟩:=s';have e:o'=s.os:=d;subst e;exact I.call (g':=g') (t':=t') (d':=d') u hok f a
end
abbrev XK:=Value->Option Addr->Hp->Prop
abbrev St:=List (Option V)
abbrev VK:=V->Hp->Prop
abbrev TE:=St->Hp->VK->Prop
abbrev TT:=St->Hp->(Bool->Hp->Prop)->Prop
abbrev TA:=St->Hp->(List V->Hp->Prop)->Prop
structure Ends where
 nx:St->Hp->Prop
 rt:VK
 bk:St->Hp->Prop:=λ_ _=>False
 ct:St->Hp->Prop:=λ_ _=>False
abbrev TS:=Ends->St->Hp->Prop
def EP(X:Cx)(pins:List (Addr×Obj))(σ:St)(Q:VK)(u:Value)(s':Shared):Prop:=∃ v H',Inv X pins σ H' s'/\dM v u/\Q v H'
def TP(X:Cx)(pins:List (Addr×Obj))(σ:St)(Q:Bool->Hp->Prop)(b:Bool)(s':Shared):Prop:=∃ H',Inv X pins σ H' s'/\Q b H'
def AP(X:Cx)(pins:List (Addr×Obj))(σ:St)(Q:List V->Hp->Prop)(us:List Value)(s':Shared):Prop:=∃ vs H',Inv X pins σ H' s'/\bN vs us/\Q vs H'
def SP(X:Cx)(pins:List (Addr×Obj))(D:Ends)(f:Flow)(s':Shared):Prop:=
 match f with
 | .next=>∃ σ' H',Inv X pins σ' H' s'/\D.nx σ' H'
 | .brk=>∃ σ' H',Inv X pins σ' H' s'/\D.bk σ' H'
 | .cont=>∃ σ' H',Inv X pins σ' H' s'/\D.ct σ' H'
 | .ret u=>∃ v σ' H',Inv X pins σ' H' s'/\dM v u/\D.rt v H'
def PE(X:Cx)(e:Expr)(t:TE):Prop:=
 ∀ (pins:List (Addr×Obj)) (s:Shared) (σ:St) (H:Hp) (Q:VK),Inv X pins σ H s->t σ H Q->wpAny (model X.prog X.w) X.A (eval e X.env) (EP X pins σ Q) X.xe s
def PT(X:Cx)(e:Expr)(t:TT):Prop:=
 ∀ (pins:List (Addr×Obj)) (s:Shared) (σ:St) (H:Hp) (Q:Bool->Hp->Prop),Inv X pins σ H s->t σ H Q->wpAny (model X.prog X.w) X.A (isTrue e X.env (eval e X.env)) (TP X pins σ Q) X.xe s
def PW(X:Cx)(e:Expr)(t:TT):Prop:=
 ∀ (a:Sem Value) (pins:List (Addr×Obj)) (s:Shared) (σ:St) (H:Hp) (Q:Bool->Hp->Prop),Inv X pins σ H s->t σ H Q->wpAny (model X.prog X.w) X.A (isTrue e X.env a) (TP X pins σ Q) X.xe s
def PW.pt{X:Cx}{e:Expr}{t:TT}(h:PW X e t):PT X e t:=h _
def PA(X:Cx)(es:List Expr)(t:TA):Prop:=
 ∀ (a:Pos) (pins:List (Addr×Obj)) (s:Shared) (σ:St) (H:Hp) (Q:List V->Hp->Prop),Inv X pins σ H s->t σ H Q->wpAny (model X.prog X.w) X.A (spliced (backTo a (starEach es X.env))) (AP X pins σ Q) X.xe s
def PS(X:Cx)(st:Stmt)(t:TS):Prop:=
 ∀ (pins:List (Addr×Obj)) (s:Shared) (σ:St) (H:Hp) (D:Ends),Inv X pins σ H s->t D σ H->wpAny (model X.prog X.w) X.A (exec st X.env) (SP X pins D) X.xe s
def PSs(X:Cx)(st:List Stmt)(t:TS):Prop:=
 ∀ (pins:List (Addr×Obj)) (s:Shared) (σ:St) (H:Hp) (D:Ends),Inv X pins σ H s->t D σ H->wpAny (model X.prog X.w) X.A (execs st X.env) (SP X pins D) X.xe s
def thn{b:Type}{t:Sem b}{Q c:b->Shared->Prop}{M:Model}{A:Around}{E:Value->Shared->Prop}{s:Shared}(h:wpAny M A t Q E s)(d:∀ a s,Q a s->c a s):wpAny M A t c E s:=a4x h d λ_ _ x=>x
section
variable{X:Cx}
def bL6(i:Nat):TE:=λσ H Q=>∃ v,σ[i]? = some (some v)/\Q v H
def tC(v:V):TE:=λ_ H Q=>Q v H
def cW0{i:Nat}{x:Str}{pos:Pos}(g:X.N[i]? = some x)(j:Vis X.env.scope x)(hd:(x==("__debug__":Str))=false:=by decide)(d:(x==("__classdict__":Str))=false:=by decide):PE X (.Name x pos) (bL6 i):=by
 intro pins s σ H Q I h;obtain⟨v,e,h⟩:=h;obtain⟨m,hn,hl⟩:=I.loc;obtain⟨u,r,l⟩:=hl i x v g e j;have fin:EP X pins σ Q u s:=⟨v,H,I,r,h⟩;rcases l with⟨b,hm⟩ | ⟨b,c,f,a⟩;exact wpAny_Name (wpAny_loadName_local I.ok.kind b hn hm fin) hd;rcases b with b | b;exact wpAny_Name (wpAny_loadName_cell I.ok.kind b f a fin) hd;exact wpAny_Name (wpAny_loadName_free I.ok.kind b f a fin d) hd
def aM{i j pos}:PE X (.Constant (.int i) j pos) (tC (.int i)):=λ_ _ _ H _ I h=>wpAny_Constant_int ⟨.int i,H,I.tok _,⟨_,rfl⟩,h⟩
def dL6{b j pos}:PE X (.Constant (.bool b) j pos) (tC (.bl b)):=λ_ _ _ H _ I h=>Constant_bool ⟨.bl b,H,I,rfl,h⟩
def cW1{j pos}:PE X (.Constant .none j pos) (tC .non):=λ_ _ _ H _ I h=>Constant_none ⟨.non,H,I,rfl,h⟩
def bY0{x j pos}:PE X (.Constant (.str x) j pos) (tC (.str x)):=λ_ _ _ H _ I h=>Calls.Constant_str ⟨.str x,H,I.tok _,⟨_,rfl⟩,h⟩
def Gl(X:Cx)(x:Str):Prop:=X.env.kindOf x=some .globalImplicit
def zZ{E:Value->Shared->Prop}{pins:List (Addr×Obj)}{s:Shared}{σ:St}{H:Hp}{x:Str}{u:Value}{pos:Pos}{Q:Value->Shared->Prop}(I:Inv X pins σ H s)(a:Gl X x)(hm:X.mg x=some u)(h:Q u s)
  (hd:(x==("__debug__":Str))=false:=by decide):wpAny (model X.prog X.w) X.A (eval (.Name x pos) X.env) Q E s:=
 Calls.Name_function_global I.ok.kind a (Calls.loadGlobal_global (by rw[I.ok.glob];exact I.mod.glob.keeps I.bk) hm h) hd
def kR{E:Value->Shared->Prop}{pins:List (Addr×Obj)}{s:Shared}{σ:St}{H:Hp}{x:Str}{u:Value}{pos:Pos}{Q:Value->Shared->Prop}(I:Inv X pins σ H s)(a:Gl X x)(hm:X.mg x=none)(b:bootBuiltins x=some u)(h:Q u s)
  (hn:x≠"__name__":=by decide) (hd:(x==("__debug__":Str))=false:=by decide):wpAny (model X.prog X.w) X.A (eval (.Name x pos) X.env) Q E s:=by
 obtain⟨mb,c,d⟩:=I.mod.blt;exact Calls.Name_function_global I.ok.kind a (Calls.loadGlobal_builtin (by rw[I.ok.glob];exact I.mod.glob.keeps I.bk) hm (by rw[I.ok.blt];exact c.keeps I.bk) ((d x hn).trans b) h) hd
def aT2{x:Str}{v:V}{u:Value}{pos:Pos}(a:Gl X x)(hm:X.mg x=none)(b:bootBuiltins x=some u)(r:dM v u)(hn:x≠"__name__":=by decide)(hd:(x==("__debug__":Str))=false:=by decide):PE X (.Name x pos) (tC v):=
 λ_ _ _ H _ I h=>kR I a hm b ⟨v,H,I,r,h⟩ hn hd
variable{a b:Expr}{ta tb:TE}{pos:Pos}
def tB(t:TE):TT:=λσ H Q=>t σ H λx a=>∃ c,x=.bl c/\Q c a
def cW2{e:Expr}{t:TE}(h:PE X e t)(b:∀ a,isTrue e X.env a=(do let v ← a;standAt e.pos;holding [v] (truthy v)):=by intro _;rfl):PT X e (tB t):=by
 intro pins s σ H Q I c;refine isTrue_plain (thn (h pins s σ H _ I c) λv s1 Z0=>?_) (b _);obtain⟨x,f,g,i,j⟩:=Z0;obtain⟨d,rfl,q⟩:=j;cases i;exact a4A ⟨f,g,q⟩
variable{tA tB':TT}{cG:List Expr}
def dQ5(t u:TT):TT:=λσ H Q=>t σ H λc a=>if c=true then u σ a Q else Q false a
def tOr(t u:TT):TT:=λσ H Q=>t σ H λc a=>if c=true then Q true a else u σ a Q
def dT3(t:TT):TT:=λσ H Q=>t σ H λc a=>Q (!c) a
def qH(ha:PT X a tA):PW X (.BoolOp .And [a] pos) tA:=by
 intro b pins s σ H Q I h;refine isTrue_and (thn (ha pins s σ H Q I h) λc s1 e=>?_);cases c with
 | true=>exact isTrue_and_nil e
 | false=>exact e
def cW3(ha:PT X a tA):PW X (.BoolOp .Or [a] pos) tA:=by
 intro b pins s σ H Q I h;refine isTrue_or (thn (ha pins s σ H Q I h) λc s1 e=>?_);cases c with
 | false=>exact isTrue_or_nil e
 | true=>exact e
def tD(ha:PT X a tA)(g:PW X (.BoolOp .And (b::cG) pos) tB'):PW X (.BoolOp .And (a::b::cG) pos) (dQ5 tA tB'):=by
 intro i pins s σ H Q I h;refine isTrue_and (thn (ha pins s σ H _ I h) λc s1 Z0=>?_);obtain⟨d,e,f⟩:=Z0;cases c with
 | true=>exact g i pins s1 σ d Q e f
 | false=>exact⟨d,e,f⟩
def dL7(ha:PT X a tA)(g:PW X (.BoolOp .Or (b::cG) pos) tB'):PW X (.BoolOp .Or (a::b::cG) pos) (tOr tA tB'):=by
 intro i pins s σ H Q I h;refine isTrue_or (thn (ha pins s σ H _ I h) λc s1 Z0=>?_);obtain⟨d,e,f⟩:=Z0;cases c with
 | true=>exact⟨d,e,f⟩
 | false=>exact g i pins s1 σ d Q e f
def cW4(ha:PT X a tA):PT X (.UnaryOp .Not a pos) (dT3 tA):=by
 intro pins s σ H Q I h;exact isTrue_not (ha pins s σ H (λc b=>Q (!c) b) I h)
def dL8(ta tb:TE):TE:=λσ H Q=>ta σ H λx a=>∃ c,x=.bl c/\if c=true then tb σ a Q else Q (.bl false) a
def dL9(ta:TE):TE:=λσ H Q=>ta σ H λx a=>∃ c,x=.bl c/\Q (.bl (!c)) a
def cW5{op}{t:TE}(h:PE X a t):PE X (.BoolOp op [a] pos) t:=λpins s σ H Q I b=>BoolOp_one (h pins s σ H Q I b)
def cW6(ha:PE X a ta)(g:PE X (.BoolOp .And (b::cG) pos) tb):PE X (.BoolOp .And (a::b::cG) pos) (dL8 ta tb):=by
 intro pins s σ H Q I h;refine BoolOp_and (thn (ha pins s σ H _ I h) λv s1 Z0=>?_);obtain⟨x,e,f,i,d⟩:=Z0;obtain⟨c,rfl,d⟩:=d;cases i;refine a4A ?_;cases c with
 | true=>exact g pins s1 σ e Q f d
 | false=>exact⟨.bl false,e,f,rfl,d⟩
def cW7(ha:PE X a ta):PE X (.UnaryOp .Not a pos) (dL9 ta):=by
 intro pins s σ H Q I h;refine UnaryOp_ (thn (ha pins s σ H _ I h) λv s1 Z0=>?_);obtain⟨x,d,e,f,b⟩:=Z0;obtain⟨c,rfl,b⟩:=b;cases f;exact not_of (a4A ⟨.bl (!c),d,e,rfl,b⟩)
def tIf(t:TT)(ta tb:TE):TE:=λσ H Q=>t σ H λc a=>if c=true then ta σ a Q else tb σ a Q
def aG4{c:Expr}(i:PT X c tA)(ha:PE X a ta)(j:PE X b tb):PE X (.IfExp c a b pos) (tIf tA ta tb):=by
 intro pins s σ H Q I h;refine wpAny_IfExp (thn (i pins s σ H _ I h) λd s1 Z0=>?_);obtain⟨e,f,g⟩:=Z0;cases d with
 | true=>exact ha pins s1 σ e Q f g
 | false=>exact j pins s1 σ e Q f g
end
def SqL(K:W.Frag)(H:Hp)(a:Addr)(xs:List V):Prop:=
 Rd H a (.lst xs) \/
  ∃ (o:Obj) (its:Array Value) (n:Nat),K.lookup a=some o/\o.cls=.type "list"/\o.dict=none/\o.data=.seq its n/\its.size<=sizeLine/\bN xs its.toList
def SqT(K:W.Frag)(H:Hp)(a:Addr)(xs:List V):Prop:=
 Rd H a (.tup xs) \/
  ∃ (o:Obj) (its:Array Value) (n:Nat),K.lookup a=some o/\o.cls=.type "tuple"/\o.data=.seq its n/\its.size<=sizeLine/\bN xs its.toList
noncomputable def dT4:Value->Option V
 | .none=>some .non
 | .bool b=>some (.bl b)
 | .int i _=>some (.int i)
 | .str x _=>some (.str x)
 | .bytes b _=>some (.byt b)
 | .float b _=>some (.flt b)
 | .ref a=>some (.ref a)
 | .type n=>some (.ty n)
 | _=>none
def dM.abs{x:V}{u:Value}(r:dM x u):dT4 u=some x:=by
 cases x with
 | non=>cases r;rfl
 | bl _=>cases r;rfl
 | int _=>obtain⟨t,rfl⟩:=r;rfl
 | str _=>obtain⟨t,rfl⟩:=r;rfl
 | byt _=>obtain⟨t,rfl⟩:=r;rfl
 | flt _=>obtain⟨t,rfl⟩:=r;rfl
 | ref _=>cases r;rfl
 | ty _=>cases r;rfl
def dM.inj{x y:V}{u:Value}(r:dM x u)(q:dM y u):x=y:=a5a (r.abs.symm.trans q.abs)
theorem bN.inj:∀ {xs ys:List V} {us:List Value},bN xs us->bN ys us->xs=ys
 | _,_,_,.nil,.nil=>rfl
 | _,_,_,.cons r t,.cons a b=>by rw[r.inj a,bN.inj t b]
section
variable{X:Cx}{pins:List (Addr×Obj)}{σ:St}{H:Hp}{s:Shared}{a:Addr}{xs ys:List V}
def SqL.of{K:W.Frag}(h:H a=some (.lst xs)):SqL K H a xs:=.inl (.inl h)
def SqT.of{K:W.Frag}(h:H a=some (.tup xs)):SqT K H a xs:=.inl (.inl h)
def Inv.list(I:Inv X pins σ H s)(h:SqL X.K H a xs):∃ its:List Value,bN xs its/\PlainL s.heap a its.toArray/\xs.length<=sizeLine:=by
 rcases h with h | ⟨o,its,n,b,c,hd,hs,d,r⟩;obtain⟨z,its,n,r,e⟩:=h.ok I.hok;exact⟨its,r,⟨_,n,e,rfl,rfl,rfl⟩,z⟩;refine⟨its.toList,r,⟨o,n,I.kIn a o b,c,hd,by simpa using hs⟩,?_⟩;have e:=r.length;simp only[Array.length_toList]at e;lia
def Inv.tuple(I:Inv X pins σ H s)(h:SqT X.K H a xs):∃ its:List Value,bN xs its/\IsTup s.heap a its.toArray/\xs.length<=sizeLine:=by
 rcases h with h | ⟨o,its,n,b,c,hs,d,r⟩;obtain⟨z,its,r,p,_⟩:=h.ok I.hok;exact⟨its,r,p,z⟩;refine⟨its.toList,r,⟨o,I.kIn a o b,c,n,by simpa using hs⟩,?_⟩;have e:=r.length;simp only[Array.length_toList]at e;lia
def Inv.list_inj(I:Inv X pins σ H s)(h:SqL X.K H a xs)(h':SqL X.K H a ys):xs=ys:=by
 obtain⟨its,r,⟨o,n,e,_,_,d⟩,_⟩:=I.list h;obtain⟨b,f,⟨o',i,c,_,_,d'⟩,_⟩:=I.list h';rw[e]at c;cases c;rw[d]at d';injection d' with g _
 have:its=b:=by simpa using a4u Array.toList g
 subst this;exact r.inj f
def Inv.tuple_inj(I:Inv X pins σ H s)(h:SqT X.K H a xs)(h':SqT X.K H a ys):xs=ys:=by
 obtain⟨its,r,⟨o,e,_,n,d⟩,_⟩:=I.tuple h;obtain⟨b,f,⟨o',c,_,i,d'⟩,_⟩:=I.tuple h';rw[e]at c;cases c;rw[d]at d';injection d' with g _
 have:its=b:=by simpa using a4u Array.toList g
 subst this;exact r.inj f
end
noncomputable abbrev Cx.wish(X:Cx)(E:Value->Shared->Prop):Cx:={X with xe:=E}
noncomputable abbrev Cx.nox(X:Cx):Cx:=X.wish λ_ _=>False
theorem Cx.Ok.wish{X:Cx}(ok:X.Ok)(E:Value->Shared->Prop):(X.wish E).Ok:=
 ⟨ok.mod,ok.kind,ok.glob,ok.blt,ok.above,ok.inj,ok.has,ok.cab,ok.hd,ok.frames,ok.stk,ok.exf,ok.bs,ok.bsz,ok.noex,ok.exfs,ok.funs,ok.frf⟩
def Cx.Ok.unwish{X:Cx}{E:Value->Shared->Prop}(ok:(X.wish E).Ok):X.Ok:=
 ⟨ok.mod,ok.kind,ok.glob,ok.blt,ok.above,ok.inj,ok.has,ok.cab,ok.hd,ok.frames,ok.stk,ok.exf,ok.bs,ok.bsz,ok.noex,ok.exfs,ok.funs,ok.frf⟩
section
variable{X:Cx}{pins:List (Addr×Obj)}{σ:St}{H:Hp}{s:Shared}{E:Value->Shared->Prop}
theorem Inv.wish(I:Inv X pins σ H s)(E:Value->Shared->Prop):Inv (X.wish E) pins σ H s:=⟨I.ok.wish E,I.os,I.bare,I.base,I.loc,I.cell,I.free,I.freeC,I.pin,I.hok,I.len⟩
theorem Inv.unwish(I:Inv (X.wish E) pins σ H s):Inv X pins σ H s:=⟨I.ok.unwish,I.os,I.bare,I.base,I.loc,I.cell,I.free,I.freeC,I.pin,I.hok,I.len⟩
theorem SP.unwish{D:Ends}{f:Flow}{s':Shared}(h:SP (X.wish E) pins D f s'):SP X pins D f s':=by
 cases f with
 | next=>obtain⟨σ',H',I,q⟩:=h;exact⟨σ',H',I.unwish,q⟩
 | brk=>obtain⟨σ',H',I,q⟩:=h;exact⟨σ',H',I.unwish,q⟩
 | cont=>obtain⟨σ',H',I,q⟩:=h;exact⟨σ',H',I.unwish,q⟩
 | ret u=>obtain⟨v,σ',H',I,r,q⟩:=h;exact⟨v,σ',H',I.unwish,r,q⟩
theorem PSs.nox{st:List Stmt}{t:TS}(h:PSs X.nox st t):PSs X st t:=λpins s σ H D I a=>
 a4x (h pins s σ H D (I.wish _) a) (λ_ _ q=>q.unwish) λ_ _ z=>False.elim z
end
section
variable{X:Cx}{st:Stmt}{cG:List Stmt}{t u:TS}{e:Expr}{te:TE}{pos:Pos}
def cW8:TS:=λD σ H=>D.nx σ H
def dK0(t u:TS):TS:=λD σ H=>t {D with nx:=u D} σ H
def fR:PSs X [] cW8:=λ_ _ σ H _ I h=>wpAny_execs_nil ⟨σ,H,I,h⟩
def aO(a:PS X st t)(b:PSs X cG u):PSs X (st::cG) (dK0 t u):=by
 intro pins s σ H D I h;refine wpAny_execs_cons (thn (a pins s σ H {D with nx:=u D} I h) λf s1 q=>?_);cases f with
 | next=>
   obtain⟨σ',H',c,q⟩:=q;exact b pins s1 σ' H' D c q
 | ret v=>exact q
 | brk=>exact q
 | cont=>exact q
def bB(a:PS X st t):PSs X [st] t:=by
 intro pins s σ H D I h;refine wpAny_execs_cons (thn (a pins s σ H D I h) λf s1 q=>?_);cases f with
 | next=>exact wpAny_execs_nil q
 | ret v=>exact q
 | brk=>exact q
 | cont=>exact q
def Inv.quiet{pins:List (Addr×Obj)}{σ:St}{H:Hp}{s:Shared}(I:Inv X pins σ H s):interactive X.env=false:=by simp[interactive,I.ok.kind]
def cW9(te:TE):TS:=λD σ H=>te σ H λ_ a=>D.nx σ a
def iL(a:PE X e te)(hs:swapsWith e none pos.line X.env=pure false:=by rfl):PS X (.Expr e pos) (cW9 te):=by
 intro pins s σ H D I h;exact wpAny_Expr_any (thn (a pins s σ H _ I h) λv s1 ⟨x,b,c,f,d⟩=>⟨σ,b,c,d⟩) I.quiet hs
def dQ6(te:TE):TS:=λD σ H=>te σ H D.rt
def lN(a:PE X e te):PS X (.Return (some e) pos) (dQ6 te):=by
 intro pins s σ H D I h;exact wpAny_Return_some (thn (a pins s σ H _ I h) λv s1 ⟨x,b,c,d,f⟩=>⟨x,σ,b,c,d,f⟩)
def dQ7(c:TT)(t u:TS):TS:=λD σ H=>c σ H λb a=>if b=true then t D σ a else u D σ a
def nO{c:Expr}{a b:List Stmt}{e:TT}(j:PT X c e)(ha:PSs X a t)(k:PSs X b u):PS X (.If c a b pos) (dQ7 e t u):=by
 intro pins s σ H D I h;refine wpAny_If (thn (j pins s σ H _ I h) λd s1 Z0=>?_);obtain⟨f,g,i⟩:=Z0;cases d with
 | true=>exact ha pins s1 σ f D g i
 | false=>exact k pins s1 σ f D g i
end
abbrev TG:=V->St->Hp->(St->Hp->Prop)->Prop
abbrev TGs:=List V->St->Hp->(St->Hp->Prop)->Prop
def PG(X:Cx)(a:Expr)(t:TG):Prop:=
 ∀ (pins:List (Addr×Obj)) (s:Shared) (σ:St) (H:Hp) (v:V) (u:Value) (Q:St->Hp->Prop),Inv X pins σ H s->dM v u->t v σ H Q ->
   wpAny (model X.prog X.w) X.A (assign a X.env u) (λ_ s'=>∃ σ' H',Inv X pins σ' H' s'/\Q σ' H') X.xe s
def PGs(X:Cx)(ts:List Expr)(t:TGs):Prop:=
 ∀ (pins:List (Addr×Obj)) (s:Shared) (σ:St) (H:Hp) (vs:List V) (us:List Value) (Q:St->Hp->Prop),Inv X pins σ H s->bN vs us->t vs σ H Q ->
   wpAny (model X.prog X.w) X.A (assignInOrder ((assignEach ts X.env).map (·.2)) us) (λ_ s'=>∃ σ' H',Inv X pins σ' H' s'/\Q σ' H') X.xe s
abbrev nP:=V->V->V->Hp->(Hp->Prop)->Prop
def dQ8(X:Cx)(t:nP):Prop:=
 ∀ (pins:List (Addr×Obj)) (s:Shared) (σ:St) (H:Hp) (o i v:V) (ov a u:Value) (Q:Hp->Prop),Inv X pins σ H s->dM o ov->dM i a->dM v u->t o i v H Q ->
   wpAny (model X.prog X.w) X.A (setItem ov a u) (λ_ s'=>∃ H',Inv X pins σ H' s'/\Q H') X.xe s
section
variable{X:Cx}{pos:Pos}
def uN(i:Nat):TG:=λv σ H Q=>Q (σ.set i (some v)) H
def aP{i:Nat}{x:Str}(a:X.N.Nodup)(hi:X.N[i]? = some x)(b:Loc X.env.scope x)(c:X.fn x=true\/X.env.scope.names.lookup x=some .local:=by first | exact .inl rfl | exact .inr rfl | assumption):PG X (.Name x pos) (uN i):=by
 intro pins s σ H v u Q I r h;exact wpAny_assign_Name (pR I a hi b r (λs' d=>⟨_,H,d,h⟩) c)
def cX0:TGs:=λvs σ H Q=>vs=[]/\Q σ H
def aT3(t:TG)(u:TGs):TGs:=λvs σ H Q=>∃ v r,vs=v::r/\t v σ H λσ' H'=>u r σ' H' Q
def fS:PGs X [] cX0:=by
 intro pins s σ H vs us Q I r h;obtain⟨e,h⟩:=h;subst e;cases r;exact assignInOrder_nil ⟨σ,H,I,h⟩
def aW{e:Expr}{es:List Expr}{t:TG}{u:TGs}(b:PG X e t)(c:PGs X es u)
  (hs:(assignEach (e::es) X.env).map (·.2)=assign e X.env::(assignEach es X.env).map (·.2):=by rfl):PGs X (e::es) (aT3 t u):=by
 intro pins s σ H vs us Q I r h;obtain⟨v,k,d,h⟩:=h;subst d;cases r with
 | cons r f=>
   rw[hs];refine assignInOrder_cons (thn (b pins s σ H _ _ _ I r h) λ_ s1 Z0=>?_);obtain⟨a,g,i,j⟩:=Z0;exact c pins s1 a g _ _ Q i f j
def dT5(K:W.Frag)(n:Nat)(t:TGs):TG:=λv σ H Q=>∃ a xs,v=.ref a/\SqT K H a xs/\xs.length=n/\t xs σ H Q
def cX1{es:List Expr}{k:Nat}{t:TGs}{n:Nat}(g:X.calm=true)(h:PGs X es t)
  (hn:(assignEach es X.env).length=n:=by rfl) (c:(assignEach es X.env).findIdx? (·.1)=none:=by rfl):PG X (.Tuple es k pos) (dT5 X.K n t):=by
 intro pins s σ H v u Q I r d;obtain⟨a,xs,i,j,hl,d⟩:=d;subst i;cases r;obtain⟨its,f,l,q⟩:=I.tuple j;refine assign_Tuple_tuple (I.ok.hd g) l (by simp[hn,← hl,f.length]) c λh' m=>?_;have p:Inv X pins σ H {s with heap:=h'}:=I.kept (t':=s.toks) λb o e=>m b o (a1d (a2b e)) e;exact h pins _ σ H xs _ Q p (by simpa using f) d
def dM0(to ti:TE)(t:nP):TG:=λv σ H Q=>to σ H λo a=>ti σ a λi b=>t o i v b λc=>Q σ c
def aT4{o i:Expr}{to ti:TE}{t:nP}(b:PE X o to)(hi:PE X i ti)(hs:dQ8 X t)
  (ha:∀ v,assign (.Subscript o i pos) X.env v=(do
   let ov ← holding [v] (eval o X.env)
   let a ← holding [v,ov] (eval i X.env)
   standAt pos
   holding [v,ov,a] (setItem ov a v)
   release [v,ov,a] []):=by intro _;rfl):PG X (.Subscript o i pos) (dM0 to ti t):=by
 intro pins s σ H v u Q I r h;rw[ha];refine a3W (a4l (thn (b pins s σ H _ I h) λov s1 Z0=>?_));obtain⟨x,c,d,e,f⟩:=Z0;refine a3W (a4l (thn (hi pins s1 σ c _ d f) λa s2 ⟨y,g,j,k,l⟩=>?_));refine a3W (a4I (a3W (a4l (thn (hs pins s2 σ g x y v ov a u _ j e k r l) λ_ q ⟨m,n,p⟩=>?_))));exact wpAny_release ⟨σ,m,n,p⟩
def cG1(a:TE)(g:TG):TS:=λD σ H=>a σ H λx b=>g x σ b D.nx
def tE{tg e:Expr}{a:TE}{g:TG}(b:PE X e a)(c:PG X tg g)(hs:swapsWithSole [tg] e pos.line X.env=pure false:=by rfl)(d:swappedStores [tg] e X.env=pure none:=by rfl)
  (f:(assignEach [tg] X.env).map (·.2)=[assign tg X.env]:=by rfl):PS X (.Assign [tg] e pos) (cG1 a g):=by
 intro pins s σ H D I h;refine wpAny_Assign_stores (thn (b pins s σ H _ I h) λv s1 Z0=>?_) hs d;obtain⟨x,i,j,k,l⟩:=Z0;rw[f];exact thn (c pins s1 σ i x v _ j k l) λ_ s2 q=>q
def cR{i:Nat}{x:Str}{e:Expr}{b:TE}{a:Pos}(c:X.N.Nodup)(hi:X.N[i]? = some x)(d:Loc X.env.scope x)(f:PE X e b)(hs:swapsWith e (some (.Name x a)) pos.line X.env=pure false:=by rfl)(g:X.fn x=true\/X.env.scope.names.lookup x=some .local:=by first | exact .inl rfl | exact .inr rfl | assumption) :
  PS X (.Assign [.Name x a] e pos) (cG1 b (uN i)):=by
 intro pins s σ H D I h;refine wpAny_Assign_Name (thn (f pins s σ H _ I h) λv s1 Z0=>?_) hs;obtain⟨y,j,k,l,m⟩:=Z0;exact pR k c hi d l (λs2 n=>⟨_,j,n,m⟩) g
def dQ9(i j:Nat)(a:TA):TS:=λD σ H=>a σ H λvs b=>∃ v w,vs=[v,w]/\D.nx ((σ.set i (some v)).set j (some w)) b
def cX2{i j:Nat}{x y:Str}{a b:Expr}{u:TA}{g k pt:Pos}{kt l c}(G:X.calm=true)(z:X.N.Nodup)(hi:X.N[i]? = some x)(J:X.N[j]? = some y)(m:i≠j)
  (B:X.env.scope.names.lookup x=some .local) (C:X.env.scope.names.lookup y=some .local) (ha:PA X [a,b] u)
  (K:swappedStores [.Tuple [.Name x g,.Name y k] kt pt] (.Tuple [a,b] l c) X.env=pure (some [x,y]))
  (hs:swapsWithSole [.Tuple [.Name x g,.Name y k] kt pt] (.Tuple [a,b] l c) pos.line X.env=pure false:=by rfl) :
  PS X (.Assign [.Tuple [.Name x g,.Name y k] kt pt] (.Tuple [a,b] l c) pos) (dQ9 i j u):=by
 intro pins s σ H D I h;rw[exec_Assign_arm];refine a3W (a4I ?_);rw[hs];refine a3W (a3X ?_);rw[a3Z (by decide)];refine a3W (Tuple_ (thn (ha _ pins s σ H _ I h) λus s1 Z0=>?_));obtain⟨vs,E,L,M,n⟩:=Z0;obtain⟨v,w,O,n⟩:=n;subst O;obtain⟨d,f,rfl,P,r⟩:∃ d f,us=[d,f]/\dM v d/\dM w f:=by
  cases M with
  | cons p q=>
    cases q with
    | cons Q R=>
      cases R;exact⟨_,_,rfl,p,Q⟩
 refine a4n ?_ (by show 2<=sizeLine;decide);have S:Inv X pins σ E {s1 with heap:=s1.heap.push {cls:=.type "tuple",data:=.seq [d,f].toArray}}:=L.kept (t':=s1.toks) λb o e=>a2a _ e;rw[K];refine a3W (a3X ?_);show wpAny (model X.prog X.w) X.A (do rule "assign.swapped-stores";let items ← unpackItems (.ref s1.heap.objs.size) 2 none;assignInOrder [λv=>bindName X.env y v,λv=>bindName X.env x v] items.reverse;pure Flow.next) _ _ _;refine a3W (a4S (a3W (unpackItems_tuple (items:=#[d,f]) (I.ok.hd G) (IsTup.new s1.heap _) λh' t=>?_)));have T:=S.kept (h':=h') (t':=s1.toks) λb o e=>t b o (a1d (a2b e)) e;show wpAny _ _ (assignInOrder [λv=>bindName X.env y v,λv=>bindName X.env x v] [f,d] >>= λ_=>pure Flow.next) _ _ _;refine a3W (assignInOrder_cons (wpAny_bindName (pR T z J (.inl C) r (λs2 U=>?_) (.inr C))));refine assignInOrder_cons (wpAny_bindName (pR U z hi (.inl B) P (λV F=>assignInOrder_nil (a3X ?_)) (.inr B)));rw[List.set_comm _ _ (a5d m)]at F;exact⟨_,E,F,n⟩
end
section
variable{X:Cx}{pos:Pos}
def aG5(c:TT)(tb:TS):TS:=λD σ H=>∃ W:Nat->St->Hp->Prop,(∃ m,W m σ H)/\∀ m σ H,W m σ H ->
 c σ H λb a=>if b=true then ∃ N:St->Hp->Prop,(∀ σ' H',N σ' H'->∃ m',m' < m/\W m' σ' H')/\tb {D with nx:=N,ct:=N,bk:=D.nx} σ a else D.nx σ a
def aG6{c:Expr}{e:List Stmt}{m:TT}{tb:TS}(o:PassesOwn (model X.prog X.w) X.A X.env X.xe)(u:PT X c m)(x:PSs X e tb):PS X (.While c e [] pos) (aG5 m tb):=by
 intro pins s σ H D I h;obtain⟨W,⟨y,w0⟩,turn⟩:=h;refine wpAny_While (codeAny_whileLoop (λn s'=>∃ σ' H',Inv X pins σ' H' s'/\W n σ' H') ?_ y ⟨σ,H,I,w0⟩);rintro n s1 ⟨d,p,z,w1⟩;refine a4E o (thn (u pins s1 d p _ z (turn n d p w1)) λb s2 Z0=>?_);obtain⟨q,r,i⟩:=Z0;cases b with
 | true=>
   obtain⟨N,t,i⟩:=i;rw[a3Y rfl];refine a4E o (thn (x pins s2 d q _ r i) λf B j=>?_);cases f with
   | next=>
     obtain⟨a,g,k,n3⟩:=j;obtain⟨m',hm,l⟩:=t a g n3;exact⟨m',hm,a,g,k,l⟩
   | cont=>
     obtain⟨a,g,k,n3⟩:=j;obtain⟨m',hm,l⟩:=t a g n3;exact⟨m',hm,a,g,k,l⟩
   | brk=>exact j
   | ret v=>exact j
 | false=>
   rw[a3Z a1b];exact wpAny_execs_nil ⟨d,q,r,i⟩
end
structure It where
 go:Nat->Hp->Prop
 yld:Nat->Hp->V->Hp->Prop
 stop:Nat->Hp->Prop
def aT5(X:Cx)(pins:List (Addr×Obj))(H:Hp)(b:Addr):Prop:=
 H b=none/\b≠X.env.locals/\b∉X.fs/\(b∈X.ex\/X.s₀.heap.objs.size<=b)/\(∀ x c,X.env.cells.lookup x=some c->c≠b)/\∀ p∈X.pn++pins,p.1≠b
def Inv.fpOk{X:Cx}{pins:List (Addr×Obj)}{σ:St}{H H':Hp}{s:Shared}{b:Addr}(I:Inv X pins σ H s)(a:s.heap.objs.size<=b)(hn:H' b=none):aT5 X pins H' b:=by
 refine⟨hn,a0j (a7b I.lt a),I.nofs a,.inr (a8b I.sz a),λx c e z=>?_,λp d z=>?_⟩;obtain⟨v,q⟩:=I.cell x c e;exact absurd (a7b q.lt (by rw[z];exact a)) (a8d _);exact absurd (a7b (a2b (I.pin p d).1) (by rw[z];exact a)) (a8d _)
structure Turn(P:Program)(w:World)(K:W.Frag)(tg:Expr)(J:It)(fp:List Addr)(it:Addr)(tn:Nat->Heap->Prop):Prop where
 mem:it∈fp
 obj:∀ i h,tn i h->∀ b∈fp,∃ o,h.get? b=some o/\∀ v,o.data≠.cell v
 keep:∀ i h h',tn i h->(∀ b∈fp,∀ o,h.get? b=some o->h'.get? b=some o)->tn i h'
 item:∀ (X:Cx),X.prog=P->X.w=w->X.K=K->X.calm=true->∀ (i:Nat) (pins:List (Addr×Obj)) (s:Shared) (σ:St) (H:Hp) (E:Value->Shared->Prop),Inv X pins σ H s->(∀ b∈fp,aT5 X pins H b)->tn i s.heap->J.go i H ->
  wpAny (model P w) X.A (pyNext (.ref it)) (λr s1=>∃ u,r=some u /\
   wpAny (model P w) X.A (letOwnedTupleGo tg (.ref it) u) (λ_ s2=>∃ x H',Inv X pins σ H' s2/\dM x u/\J.yld i H x H'/\tn (i+1) s2.heap/\∀ b∈fp,H' b=none) E s1) E s
 done:∀ (X:Cx),X.prog=P->X.w=w->X.K=K->X.calm=true->∀ (i:Nat) (pins:List (Addr×Obj)) (s:Shared) (σ:St) (H:Hp) (E:Value->Shared->Prop),Inv X pins σ H s->(∀ b∈fp,aT5 X pins H b)->tn i s.heap->J.stop i H ->
  wpAny (model P w) X.A (pyNext (.ref it)) (λr s1=>r=none/\Inv X pins σ H s1) E s
 self:∀ (A:Around) (i:Nat) (s:Shared) (Q:Value->Shared->Prop) (E:Value->Shared->Prop),tn i s.heap->Q (.ref it) s->wpAny (model P w) A (pyIter (.ref it)) Q E s
abbrev TI:=St->Hp->(It->Hp->Prop)->Prop
def PIE(X:Cx)(pins:List (Addr×Obj))(σ:St)(tg:Expr)(R:It->Hp->Prop)(a:Value)(s2:Shared):Prop:=
 ∃ (it:Addr) (fp:List Addr) (tn:Nat->Heap->Prop) (J:It) (H':Hp),a=.ref it/\Inv X pins σ H' s2/\Turn X.prog X.w X.K tg J fp it tn/\tn 0 s2.heap/\(∀ b∈fp,aT5 X pins H' b)/\R J H'
def PI(X:Cx)(tg iter:Expr)(a:TI):Prop:=
 ∀ (pins:List (Addr×Obj)) (s:Shared) (σ:St) (H:Hp) (R:It->Hp->Prop),Inv X pins σ H s->a σ H R ->
   wpAny (model X.prog X.w) X.A (eval iter X.env) (λv s1=>wpAny (model X.prog X.w) X.A (pyIter v) (PIE X pins σ tg R) X.xe s1) X.xe s
def aT6{M:Model}{A:Around}{E:Value->Shared->Prop}{s:Shared}{tg:Expr}{it:Addr}{u:Value}{o:Obj}{n:String}{vs:Array Value}{Q:Unit->Shared->Prop}(b:s.heap.get? it=some o)(c:o.cls=.type n)(hd:o.data=.fields vs)
  (hn:["enumerate","zip","dict_itemiterator","dict_reverseitemiterator","odict_iterator","itertools.zip_longest","itertools.pairwise"].contains n=false) (a:Q () s):wpAny M A (letOwnedTupleGo tg (.ref it) u) Q E s:=by
 unfold letOwnedTupleGo;cases tg<;>first
  | exact a3X a
  | (cases u<;>first
    | exact a3X a
    | (refine a3W (a4X b ?_)
       rw[c,hd];show wpAny M A (if(["enumerate","zip","dict_itemiterator","dict_reverseitemiterator","odict_iterator","itertools.zip_longest","itertools.pairwise"].contains n&&vs[0]? == some (rawInt _))=true then _ else _) Q E s;rw[a3Z (by intro h;rw[hn,Bool.false_and]at h;cases h)];exact a3X a))
noncomputable def Itl(K:W.Frag)(a:Addr):It:=
 ⟨λi H=>∃ xs x,SqL K H a xs/\xs[i]? = some x,λi H x H'=>H'=H/\∀ xs,SqL K H a xs->xs[i]? = some x,λi H=>∃ xs,SqL K H a xs/\xs.length<=i⟩
noncomputable def Itt(K:W.Frag)(a:Addr):It:=
 ⟨λi H=>∃ xs x,SqT K H a xs/\xs[i]? = some x,λi H x H'=>H'=H/\∀ xs,SqT K H a xs->xs[i]? = some x,λi H=>∃ xs,SqT K H a xs/\xs.length<=i⟩
noncomputable def Itr(lo:Int)(n:Nat):It:=⟨λi _=>i < n,λi H x H'=>H'=H/\x=.int (lo+i),λi _=>n<=i⟩
def aT7{P:Program}{w:World}{K:W.Frag}{tg:Expr}(a it:Addr):Turn P w K tg (Itl K a) [it] it (λi h=>h.IsListIter it a i) where
 mem:=by simp
 obj:=λi h st b f=>by
  have e:b=it:=by simpa using f
  subst e;obtain⟨o,e,c,d⟩:=st;exact⟨o,e,λv z=>by rw[d]at z;cases z⟩
 keep:=λi h h' st k=>st.at λo e=>k it (by simp) o e
 item:=by
  intro X m n q G i pins s σ H E I j st r;subst m n q;obtain⟨xs,x,l,t⟩:=r;obtain⟨its,y,p,J⟩:=I.list l;obtain⟨u,L,M⟩:=y.get t;obtain⟨A,B,N,C,D,F⟩:=j it (by simp);refine wpAny_pyNext_list_item st p.isList (x:=u) (by simpa using L) λh' g O=>?_;have Q:Inv X pins σ H {s with heap:=h'}:=I.turned (t':=s.toks) (λb o f e=>(O.2 b f).trans e) A B C D F;obtain⟨o,e,c,d⟩:=id g;exact⟨u,rfl,aT6 (s:={s with heap:=h'}) e c d (by decide) ⟨x,H,Q,M,⟨rfl,λys R=>by rw[I.list_inj R l];exact t⟩,g,λb f=>(j b f).1⟩⟩
 done:=by
  intro X m n q G i pins s σ H E I j st r;subst m n q;obtain⟨xs,l,t⟩:=r;obtain⟨its,y,p,J⟩:=I.list l;obtain⟨A,B,N,C,D,F⟩:=j it (by simp);have hl:=y.length;exact wpAny_pyNext_list_end (I.ok.hd G) st p.isList (by simp;lia) λh' S=>⟨rfl,I.turned (t':=s.toks) (λb o f e=>S b o f e) A B C D F⟩
 self:=λ_ _ _ _ _ st h=>wpAny_pyIter_listiter st h
def aN2{P:Program}{w:World}{K:W.Frag}{tg:Expr}(a it:Addr):Turn P w K tg (Itt K a) [it] it (λi h=>h.IsTupleIter it a i) where
 mem:=by simp
 obj:=λi h st b f=>by
  have e:b=it:=by simpa using f
  subst e;obtain⟨o,e,c,d⟩:=st;exact⟨o,e,λv z=>by rw[d]at z;cases z⟩
 keep:=λi h h' st k=>st.at λo e=>k it (by simp) o e
 item:=by
  intro X m n q G i pins s σ H E I j st r;subst m n q;obtain⟨xs,x,l,t⟩:=r;obtain⟨its,y,p,J⟩:=I.tuple l;obtain⟨u,L,M⟩:=y.get t;obtain⟨A,B,N,C,D,F⟩:=j it (by simp);refine wpAny_pyNext_tuple_item st (show s.heap.IsTuple a its.toArray from p) (x:=u) (by simpa using L) λh' g O=>?_;have Q:Inv X pins σ H {s with heap:=h'}:=I.turned (t':=s.toks) (λb o f e=>(O.2 b f).trans e) A B C D F;obtain⟨o,e,c,d⟩:=id g;exact⟨u,rfl,aT6 (s:={s with heap:=h'}) e c d (by decide) ⟨x,H,Q,M,⟨rfl,λys R=>by rw[I.tuple_inj R l];exact t⟩,g,λb f=>(j b f).1⟩⟩
 done:=by
  intro X m n q G i pins s σ H E I j st r;subst m n q;obtain⟨xs,l,t⟩:=r;obtain⟨its,y,p,J⟩:=I.tuple l;obtain⟨A,B,N,C,D,F⟩:=j it (by simp);have hl:=y.length;exact wpAny_pyNext_tuple_end (I.ok.hd G) st (show s.heap.IsTuple a its.toArray from p) (by simp;lia) λh' S=>⟨rfl,I.turned (t':=s.toks) (λb o f e=>S b o f e) A B C D F⟩
 self:=λ_ _ _ _ _ st h=>wpAny_pyIter_tupleiter st h
def aN3{P:Program}{w:World}{K:W.Frag}{tg:Expr}(it:Addr)(lo:Int)(n:Nat):Turn P w K tg (Itr lo n) [it] it (λi h=>IsRangeIter h it (lo+(i:Nat)*1) ((n:Int)-(i:Nat)) 1) where
 mem:=by simp
 obj:=λi h st b a=>by
  have e:b=it:=by simpa using a
  subst e;exact⟨_,st,λv z=>by
   have y:Data.fields _=Data.cell v:=z;cases y⟩
 keep:=λi h h' st k=>k it (by simp) _ st
 item:=by
  intro X f g j l i pins s σ H E I d st m;subst f g j;obtain⟨p,q,A,r,u,x⟩:=d it (by simp);have W:=Walks.range (prog:=X.prog) (w:=X.w) (I.ok.hd l) it lo 1 n;refine W.item i s _ _ m st λv h' tk B c C=>?_;obtain⟨t,rfl⟩:=B;have D:Inv X pins σ H {s with heap:=h',toks:=tk}:=I.turned (λb o a e=>C b o (by simpa using a) e) p q r u x;refine⟨_,rfl,aT6 (s:={s with heap:=h',toks:=tk}) (n:="range_iterator") c rfl rfl (by decide) ⟨.int (lo+i),H,D,⟨t,?_⟩,⟨rfl,rfl⟩,c,λb a=>(d b a).1⟩⟩;rw[Int.mul_one]
 done:=by
  intro X f g j l i pins s σ H E I d st m;subst f g j;obtain⟨p,q,A,r,u,x⟩:=d it (by simp);exact wpAny_pyNext_range_end (I.ok.hd l) st (by have:n<=i:=m;lia) λh' F=>⟨rfl,I.turned (t':=s.toks) (λb o a e=>F b o a e) p q r u x⟩
 self:=λ_ _ _ _ _ st h=>wpAny_pyIter_rangeiter st h
section
variable{X:Cx}{tg:Expr}
def bL7{pins:List (Addr×Obj)}{σ:St}{H:Hp}{s:Shared}{R:It->Hp->Prop}{E:Value->Shared->Prop}{lo hi:Int}{t u v:Tok}{tk:Nat}(I:Inv X pins σ H s)(c:-(2 ^ 62)<=lo)(d:lo < 2 ^ 62)(f:-(2 ^ 62)<=hi)(g:hi < 2 ^ 62)
  (q:R (Itr lo (hi-lo).toNat) H):wpAny (model X.prog X.w) X.A (pyIter (.ref s.heap.objs.size)) (PIE X pins σ tg R) E {s with heap:=s.heap.push {cls:=.type "range",data:=.fields #[.int lo t,.int hi u,.int 1 v]},toks:=tk}:=by
 refine wpAny_pyIter_range (IsRange.new ..) (small_one c d f g) ?_;have a:Inv X pins σ H {s with heap:=s.heap.push {cls:=.type "range",data:=.fields #[.int lo t,.int hi u,.int 1 v]},toks:=tk}:=I.kept λb o e=>a2a _ e;refine⟨(s.heap.push {cls:=.type "range",data:=.fields #[.int lo t,.int hi u,.int 1 v]}).objs.size,[(s.heap.push {cls:=.type "range",data:=.fields #[.int lo t,.int hi u,.int 1 v]}).objs.size],_,_,H,rfl,
  a.kept (t':=tk) λb o e=>a2a _ e,aN3 _ lo (hi-lo).toNat,?_,λb h=>?_,q⟩
 ·have i:lo+((0:Nat):Int)*1=lo:=by simp
  have j:(((hi-lo).toNat:Nat):Int)-((0:Nat):Int)=Builtin.Range.rangeSize lo hi 1:=by rw[rangeSize_one];split<;>lia
  show IsRangeIter _ _ (lo+((0:Nat):Int)*1) ((((hi-lo).toNat:Nat):Int)-((0:Nat):Int)) 1;rw[i,j];exact a0b _ rfl
 ·have e:b=(s.heap.push {cls:=.type "range",data:=.fields #[.int lo t,.int hi u,.int 1 v]}).objs.size:=by simpa using h
  subst e;exact a.fpOk (a4a _) (a.hok.fresh (a4a _))
def cG2(a:TA):TI:=λσ H R=>a σ H λvs b=>∃ j:Int,vs=[.int j] /\ -(2 ^ 62)<=j/\j < 2 ^ 62/\R (Itr 0 j.toNat) b
def jF{a:Expr}{c:TA}{p pos:Pos}(d:Gl X "range")(hm:X.mg "range"=none)(ha:PA X [a] c)(hs:starEach [a] X.env=[(false,eval a X.env)]:=by rfl):PI X tg (.Call (.Name "range" p) [a] [] pos) (cG2 c):=by
 intro pins s σ H R I h;refine Call_ (kR I d hm boot_range (a4e (thn (ha pos pins s σ H _ I h) λus s1 Z0=>?_) hs rfl));obtain⟨vs,l,f,g,b⟩:=Z0;obtain⟨j,e,b,i,q⟩:=b;subst e;cases g with
 | cons r k=>
   cases k;obtain⟨t,rfl⟩:=r;exact call_range_1 (bL7 f (by lia) (by lia) b i (by simpa using q))
def cT9(b:TI)(g:TG)(tb:TS):TS:=λD σ H=>b σ H λJ c=>∃ W:Nat->Nat->St->Hp->Prop,(∃ m,W 0 m σ c)/\∀ i m σ H,W i m σ H ->
 (J.stop i H/\D.nx σ H)\/(J.go i H/\∃ N:St->Hp->Prop,(∀ σ' H',N σ' H'->∃ m',m' < m/\W (i+1) m' σ' H')/\∀ x H',J.yld i H x H'->g x σ H' λa d=>tb {D with nx:=N,ct:=N,bk:=D.nx} a d)
noncomputable def qI(fp:List Addr)(h:Heap):List (Addr×Obj):=fp.filterMap λb=>(h.get? b).map λo=>(b,o)
def jZ{fp:List Addr}{h:Heap}{b:Addr}{o:Obj}(a:b∈fp)(e:h.get? b=some o):(b,o)∈qI fp h:=List.mem_filterMap.mpr ⟨b,a,by rw[e];rfl⟩
def aT8{fp:List Addr}{h:Heap}{p:Addr×Obj}(a:p∈qI fp h):p.1∈fp/\h.get? p.1=some p.2:=by
 obtain⟨b,c,e⟩:=List.mem_filterMap.mp a;cases q:h.get? b with
 | none=>rw[q]at e;cases e
 | some o=>
   rw[q]at e;have d:(b,o)=p:=a5a e;subst d;exact⟨c,q⟩
def Inv.pinned{pins:List (Addr×Obj)}{σ:St}{H:Hp}{s:Shared}{fp:List Addr}(I:Inv X pins σ H s)(f:∀ b∈fp,aT5 X pins H b)(g:∀ b∈fp,∃ o,s.heap.get? b=some o/\∀ v,o.data≠.cell v):Inv X (pins++qI fp s.heap) σ H s:=
 I.pins_of λp h=>(a1c.mp h).elim (λz=>I.pin p (a3c _ z)) λz=>by
  obtain⟨a,e⟩:=aT8 z;obtain⟨i,j,k,_⟩:=f p.1 a;obtain⟨o,c,d⟩:=g p.1 a;rw[e]at c;cases c;exact⟨e,i,j,k,d⟩
def Inv.unpinned{pins pl:List (Addr×Obj)}{σ:St}{H:Hp}{s:Shared}(I:Inv X (pins++pl) σ H s):Inv X pins σ H s:=I.pins_of λp a=>I.pin p (a3c _ (a9g _ a))
def fG{iter:Expr}{q:List Stmt}{R:TI}{g:TG}{tb:TS}{pos:Pos}(B:PassesOwn (model X.prog X.w) X.A X.env X.xe)(S:X.calm=true)(hi:PI X tg iter R)(hg:PG X tg g)(c:PSs X q tb)
  (hs:∀ x,foldedSetIterable iter X.env x=pure x:=by intro _;rfl):PS X (.For tg iter q [] pos) (cT9 R g tb):=by
 intro pins s σ H D I h;refine wpAny_For (thn (hi pins s σ H _ I h) λv s1 h1=>thn h1 λitv s2 h2=>?_) hs;obtain⟨it,fp,tn,J,H2,e,I2,T,K,U,W,⟨m0,w0⟩,turn⟩:=h2;subst e
 -- V stays true of L t objects through L loop
 have j:∀ {H':Hp},(∀ b∈fp,H' b=none)->∀ b∈fp,aT5 X pins H' b:=λhn b c=>⟨hn b c,(U b c).2⟩;refine codeAny_forLoop_any (λn s'=>∃ i σ' H',Inv X pins σ' H' s'/\tn i s'.heap/\(∀ b∈fp,H' b=none)/\W i n σ' H') ?_ m0 ⟨0,σ,H2,I2,K,λb c=>(U b c).1,w0⟩;rintro n Y ⟨i,k,G,Z,C,E,w3⟩;rcases turn i n k G w3 with⟨stop,qn⟩ | ⟨go,N,hN,step⟩
 ·refine a4E B (thn (T.done X rfl rfl rfl S i pins Y k G X.xe Z (j E) C stop) λr s4 Z0=>?_);obtain⟨hr,I4⟩:=Z0;subst hr;exact wpAny_execs_nil ⟨k,G,I4,qn⟩
 ·refine a4E B (thn (T.item X rfl rfl rfl S i pins Y k G X.xe Z (j E) C go) λr s4 Z0=>?_);obtain⟨u,hr,h4⟩:=Z0;subst hr;refine a4E B (thn h4 λ_ s5 ⟨x,H5,I5,r5,y5,z,M⟩=>?_);have O:=I5.pinned (j M) (T.obj _ _ z);refine a4E B (thn (hg _ s5 k H5 x u _ O r5 (step x H5 y5)) λ_ s6 ⟨P,H6,I6,q6⟩=>?_);refine a4E B (thn (c _ s6 P H6 _ I6 q6) λf Q y=>?_);have again:∀ {a:St} {l:Hp},Inv X (pins++qI fp s5.heap) a l Q->N a l->∃ m,m < n/\∃ i σ' H',Inv X pins σ' H' Q/\tn i Q.heap/\(∀ b∈fp,H' b=none)/\W i m σ' H':=λ{a l} p F=>by
   obtain⟨m',hm,w7⟩:=hN a l F;refine⟨m',hm,i+1,a,l,p.unpinned,T.keep _ _ _ z λb c o e=>(p.pin (b,o) (a3c _ (a3c _ (jZ c e)))).1,λb c=>?_,w7⟩;obtain⟨o,e,d⟩:=T.obj _ _ z b c;exact(p.pin (b,o) (a3c _ (a3c _ (jZ c e)))).2.1
  cases f with
  | next=>obtain⟨a,l,p,F⟩:=y;exact again p F
  | cont=>obtain⟨a,l,p,F⟩:=y;exact again p F
  | brk=>obtain⟨a,l,p,y⟩:=y;exact⟨a,l,p.unpinned,y⟩
  | ret v=>obtain⟨x7,a,l,p,r7,y⟩:=y;exact⟨x7,a,l,p.unpinned,r7,y⟩
end
abbrev R2:=V->V->Hp->VK->Prop
def OpR(X:Cx)(f:Value->Value->Sem Value)(r:R2):Prop:=
 ∀ (pins:List (Addr×Obj)) (s:Shared) (σ:St) (H:Hp) (x y:V) (v u:Value) (Q:VK),Inv X pins σ H s->dM x v->dM y u->r x y H Q ->
   wpAny (model X.prog X.w) X.A (f v u) (EP X pins σ Q) X.xe s
def kP(X:Cx)(f:Value)(r:List V->Hp->VK->Prop):Prop:=
 ∀ (pins:List (Addr×Obj)) (s:Shared) (σ:St) (H:Hp) (xs:List V) (us:List Value) (Q:VK),Inv X pins σ H s->bN xs us->r xs H Q ->
   wpAny (model X.prog X.w) X.A (call f us) (EP X pins σ Q) X.xe s
def dT6(X:Cx)(r:V->Hp->(Bool->Hp->Prop)->Prop):Prop:=
 ∀ (pins:List (Addr×Obj)) (s:Shared) (σ:St) (H:Hp) (x:V) (v:Value) (Q:Bool->Hp->Prop),Inv X pins σ H s->dM x v->r x H Q ->
   wpAny (model X.prog X.w) X.A (truthy v) (TP X pins σ Q) X.xe s
def tOp(r:R2)(a tb:TE):TE:=λσ H Q=>a σ H λx b=>tb σ b λy c=>r x y c Q
def tUn(r:V->Hp->VK->Prop)(a:TE):TE:=λσ H Q=>a σ H λx b=>r x b Q
def rI(C:Int->Int->Prop)(g:Int->Int->V):R2:=λx y H Q=>∃ i j,x=.int i/\y=.int j/\C i j/\Q (g i j) H
def rI0(g:Int->Int->V):R2:=λx y H Q=>∃ i j,x=.int i/\y=.int j/\Q (g i j) H
section
variable{X:Cx}{a b c:Expr}{ta tb tc:TE}{pos:Pos}
def dM1(ha:PE X a ta)(i:PE X b tb){pins:List (Addr×Obj)}{s:Shared}{σ:St}{H:Hp}{R:V->V->Hp->Prop}(I:Inv X pins σ H s)
  (h:ta σ H λx g=>tb σ g λy c=>R x y c) {Q:Value->Shared->Prop} {f:Value->Value->Sem Value}
  (j:∀ v u s2 x y c,Inv X pins σ c s2->dM x v->dM y u->R x y c->wpAny (model X.prog X.w) X.A (f v u) Q X.xe s2) :
  wpAny (model X.prog X.w) X.A (eval a X.env) (λv d=>wpAny (model X.prog X.w) X.A (eval b X.env) (λu e=>wpAny (model X.prog X.w) X.A (f v u) Q X.xe e) X.xe d) X.xe s:=by
 refine thn (ha pins s σ H _ I h) λv s1 Z0=>?_;obtain⟨x,g,k,l,m⟩:=Z0;refine thn (i pins s1 σ g _ k m) λu s2 ⟨y,c,n,o,p⟩=>?_;exact j v u s2 x y c n l o p
def fH{c:Operator}{r:R2}(d:OpR X (binaryOp c) r)(ha:PE X a ta)(e:PE X b tb):PE X (.BinOp a c b pos) (tOp r ta tb):=by
 intro pins s σ H Q I h;exact wpAny_BinOp (dM1 ha e I h λv u s2 x y f g i j q=>d pins s2 σ f x y v u Q g i j q)
def opI{f:Value->Value->Sem Value}{C:Int->Int->Prop}{g:Int->Int->Int}
  (rule:∀ (i j:Int) (t u:Tok) (s:Shared) (Q:Value->Shared->Prop) (E:Value->Shared->Prop),C i j->Q (.int (g i j) s.toks) {s with toks:=s.toks+1}->wpAny (model X.prog X.w) X.A (f (.int i t) (.int j u)) Q E s) :
  OpR X f (rI C λi j=>.int (g i j)):=by
 intro pins s σ H x y v u Q I a b h;obtain⟨i,j,rfl,rfl,c,q⟩:=h;obtain⟨t,rfl⟩:=a;obtain⟨d,rfl⟩:=b;exact rule i j t d s _ _ c ⟨.int (g i j),H,I.tok _,⟨_,rfl⟩,q⟩
def dR0{f:Value->Value->Sem Value}{g:Int->Int->Int}
  (rule:∀ (i j:Int) (t u:Tok) (s:Shared) (Q:Value->Shared->Prop) (E:Value->Shared->Prop),Q (.int (g i j) s.toks) {s with toks:=s.toks+1}->wpAny (model X.prog X.w) X.A (f (.int i t) (.int j u)) Q E s) :
  OpR X f (rI0 λi j=>.int (g i j)):=by
 intro pins s σ H x y v u Q I a b h;obtain⟨i,j,rfl,rfl,q⟩:=h;obtain⟨t,rfl⟩:=a;obtain⟨c,rfl⟩:=b;exact rule i j t c s _ _ ⟨.int (g i j),H,I.tok _,⟨_,rfl⟩,q⟩
def dK1{f:Value->Value->Sem Value}{g:Int->Int->Bool}
  (rule:∀ (i j:Int) (t u:Tok) (s:Shared) (Q:Value->Shared->Prop) (E:Value->Shared->Prop),Q (.bool (g i j)) s->wpAny (model X.prog X.w) X.A (f (.int i t) (.int j u)) Q E s) :
  OpR X f (rI0 λi j=>.bl (g i j)):=by
 intro pins s σ H x y v u Q I a b h;obtain⟨i,j,rfl,rfl,q⟩:=h;obtain⟨t,rfl⟩:=a;obtain⟨c,rfl⟩:=b;exact rule i j t c s _ _ ⟨.bl (g i j),H,I,rfl,q⟩
def cX3(i j:Int):Prop:=0 < j/\j < 1073741824
def cU0(i j:Int):Prop:=0<=j/\j<=1000000/\i.natAbs < 2 ^ 64
def bL8(i j:Int):Prop:=(-(2 ^ 64) < i/\i < 2 ^ 64)\/(-(2 ^ 64) < j/\j < 2 ^ 64)
theorem bL8.ok{i j:Int}(h:bL8 i j):IntMulOk i j:=by
 rcases h with⟨a,b⟩ | ⟨a,b⟩;exact .of_left (intBits_le_64 a b);exact .of_right (intBits_le_64 a b)
def cX4:OpR X (binaryOp .Add) (rI0 λi j=>.int (i+j)):=dR0 λ_ _ _ _ _ _ _ q=>add_int q
def bY1:OpR X (binaryOp .Sub) (rI0 λi j=>.int (i-j)):=dR0 λ_ _ _ _ _ _ _ q=>sub_int q
def cX5:OpR X (binaryOp .Mult) (rI bL8 λi j=>.int (i*j)):=opI λ_ _ _ _ _ _ _ a q=>mul_int q a.ok
def aT9:OpR X (binaryOp .FloorDiv) (rI cX3 λi j=>.int (i / j)):=opI λi j _ _ _ _ _ a q=>by
 have b:(0:Int) < j:=a.1;have c:j < 1073741824:=a.2;exact floordiv_int (by lia) (by rw[Int.fdiv_eq_ediv_of_nonneg i (by lia)];exact q) (.inl (PyProof.noPylong_small (by lia)))
def tF:OpR X (binaryOp .Mod) (rI (λ_ j=>0 < j) λi j=>.int (i % j)):=opI λi j _ _ _ _ _ a q=>by
 have b:(0:Int) < j:=a;exact mod_int' (by lia) (by rw[Int.fmod_eq_emod_of_nonneg i (by lia)];exact q)
def cX6:OpR X (binaryOp .Pow) (rI cU0 λi j=>.int (i ^ j.toNat)):=opI λ_ _ _ _ _ _ _ a q=>pow_int_small a.1 a.2.1 a.2.2 q
end
noncomputable def cG3:V->V->Bool
 | .non,.non=>true | .non,.int _=>true | .int _,.non=>true | .non,.bl _=>true | .bl _,.non=>true | .non,.str _=>true | .str _,.non=>true
 | .int _,.int _=>true | .bl _,.bl _=>true | .str _,.str _=>true | .byt _,.byt _=>true
 | .int _,.str _=>true | .str _,.int _=>true | .bl _,.str _=>true | .str _,.bl _=>true
 | _,_=>false
def rEq:R2:=λx y H Q=>cG3 x y=true/\Q (.bl (decide (x=y))) H
def rNe:R2:=λx y H Q=>cG3 x y=true/\Q (.bl (!decide (x=y))) H
def aU0{i j:Int}:decide (V.int i=V.int j)=(i==j):=by
 rw[a5f];simp
def bY2{i j:Bool}:decide (V.bl i=V.bl j)=(i==j):=by
 rw[a5f];simp
def aU1{i j:Str}:decide (V.str i=V.str j)=(i==j):=by
 rw[a5f];simp
def aU2{i j:Array UInt8}:decide (V.byt i=V.byt j)=(i.toList==j.toList):=by
 rw[a5f];cases i;cases j;simp
section
variable{X:Cx}{a b c:Expr}{ta tb tc:TE}{pos:Pos}
def aZ{pins:List (Addr×Obj)}{σ:St}{H:Hp}{s:Shared}{Q:VK}{k a:Bool}(I:Inv X pins σ H s)(q:Q (.bl k) H)(e:k=a):EP X pins σ Q (.bool a) s:=by
 subst e;exact⟨.bl k,H,I,rfl,q⟩
def dM2:OpR X (compareOp .Eq) rEq:=by
 intro pins s σ H x y v u Q I c a h;obtain⟨hs,q⟩:=h;cases x with
 | non=>
   cases c;cases y with
   | non=>cases a;exact PySem.EqNone.eq_none_none (aZ I q (by simp))
   | bl j=>cases a;exact PySem.EqNone.eq_none_bool (aZ I q (by simp))
   | int j=>obtain⟨b,rfl⟩:=a;exact PySem.EqNone.eq_none_int (aZ I q (by simp))
   | str j=>obtain⟨b,rfl⟩:=a;exact PySem.EqNone.eq_none_str (aZ I q (by simp))
   | _=>exact absurd (show false=true from hs) a1b
 | bl i=>
   cases c;cases y with
   | non=>cases a;exact PySem.EqNone.eq_bool_none (aZ I q (by simp))
   | bl j=>cases a;exact eq_bool (aZ I q bY2)
   | str j=>obtain⟨b,rfl⟩:=a;exact PySem.EqMixed.eq_bool_str (aZ I q (by simp))
   | _=>exact absurd (show false=true from hs) a1b
 | int i=>
   obtain⟨t,rfl⟩:=c;cases y with
   | non=>cases a;exact PySem.EqNone.eq_int_none (aZ I q (by simp))
   | int j=>obtain⟨b,rfl⟩:=a;exact eq_int (aZ I q aU0)
   | str j=>obtain⟨b,rfl⟩:=a;exact PySem.EqMixed.eq_int_str (aZ I q (by simp))
   | _=>exact absurd (show false=true from hs) a1b
 | str i=>
   obtain⟨t,rfl⟩:=c;cases y with
   | non=>cases a;exact PySem.EqNone.eq_str_none (aZ I q (by simp))
   | bl j=>cases a;exact PySem.EqMixed.eq_str_bool (aZ I q (by simp))
   | int j=>obtain⟨b,rfl⟩:=a;exact PySem.EqMixed.eq_str_int (aZ I q (by simp))
   | str j=>obtain⟨b,rfl⟩:=a;exact eq_str (aZ I q aU1)
   | _=>exact absurd (show false=true from hs) a1b
 | byt i=>
   obtain⟨t,rfl⟩:=c;cases y with
   | byt j=>obtain⟨b,rfl⟩:=a;exact W.eq_bytes (aZ I q aU2)
   | _=>exact absurd (show false=true from hs) a1b
 | _=>cases y<;>exact absurd (show false=true from hs) a1b
def dM3:OpR X (compareOp .NotEq) rNe:=by
 intro pins s σ H x y v u Q I c a h;obtain⟨hs,q⟩:=h;cases x with
 | non=>
   cases c;cases y with
   | non=>cases a;exact PySem.EqNone.ne_none_none (aZ I q (by simp))
   | bl j=>cases a;exact PySem.EqNone.ne_none_bool (aZ I q (by simp))
   | int j=>obtain⟨b,rfl⟩:=a;exact PySem.EqNone.ne_none_int (aZ I q (by simp))
   | str j=>obtain⟨b,rfl⟩:=a;exact PySem.EqNone.ne_none_str (aZ I q (by simp))
   | _=>exact absurd (show false=true from hs) a1b
 | bl i=>
   cases c;cases y with
   | non=>cases a;exact PySem.EqNone.ne_bool_none (aZ I q (by simp))
   | bl j=>cases a;exact ne_bool (aZ I q (a4u not bY2))
   | str j=>obtain⟨b,rfl⟩:=a;exact PySem.EqMixed.ne_bool_str (aZ I q (by simp))
   | _=>exact absurd (show false=true from hs) a1b
 | int i=>
   obtain⟨t,rfl⟩:=c;cases y with
   | non=>cases a;exact PySem.EqNone.ne_int_none (aZ I q (by simp))
   | int j=>obtain⟨b,rfl⟩:=a;exact ne_int (aZ I q (a4u not aU0))
   | str j=>obtain⟨b,rfl⟩:=a;exact PySem.EqMixed.ne_int_str (aZ I q (by simp))
   | _=>exact absurd (show false=true from hs) a1b
 | str i=>
   obtain⟨t,rfl⟩:=c;cases y with
   | non=>cases a;exact PySem.EqNone.ne_str_none (aZ I q (by simp))
   | bl j=>cases a;exact PySem.EqMixed.ne_str_bool (aZ I q (by simp))
   | int j=>obtain⟨b,rfl⟩:=a;exact PySem.EqMixed.ne_str_int (aZ I q (by simp))
   | str j=>obtain⟨b,rfl⟩:=a;exact ne_str (aZ I q (a4u not aU1))
   | _=>exact absurd (show false=true from hs) a1b
 | byt i=>
   obtain⟨t,rfl⟩:=c;cases y with
   | byt j=>obtain⟨b,rfl⟩:=a;exact W.ne_bytes (aZ I q (a4u not aU2))
   | _=>exact absurd (show false=true from hs) a1b
 | _=>cases y<;>exact absurd (show false=true from hs) a1b
def aA0:OpR X (compareOp .Lt) (rI0 λi j=>.bl (decide (i < j))):=dK1 λ_ _ _ _ _ _ _ q=>lt_int q
def cG4:OpR X (compareOp .LtE) (rI0 λi j=>.bl (decide (i<=j))):=dK1 λ_ _ _ _ _ _ _ q=>le_int q
def aN4:OpR X (compareOp .Gt) (rI0 λi j=>.bl (decide (j < i))):=dK1 λ_ _ _ _ _ _ _ q=>gt_int q
def dM4:OpR X (compareOp .GtE) (rI0 λi j=>.bl (decide (j<=i))):=dK1 λ_ _ _ _ _ _ _ q=>ge_int q
def wK:OpR X (compareOp .In) (λx y H Q=>∃ i j,x=.str i/\y=.str j/\Q (.bl (!(Builtin.Str.occurrences j i 0 j.length 1).isEmpty)) H):=by
 intro pins s σ H x y v u Q I a b h;obtain⟨i,j,rfl,rfl,q⟩:=h;obtain⟨t,rfl⟩:=a;obtain⟨c,rfl⟩:=b;exact in_str (aZ I q rfl)
def cG5:OpR X (compareOp .IsNot) (λx y H Q=>y=.non/\Q (.bl (!decide (x=.non))) H):=by
 intro pins s σ H x y v u Q I a b h;obtain⟨rfl,q⟩:=h;cases b;refine isnot_none_gen (aZ I q ?_);cases x<;>first
  | (cases a;rfl)
  | (obtain⟨t,rfl⟩:=a;rfl)
def wL:OpR X (compareOp .NotIn) (λx y H Q=>∃ i j,x=.str i/\y=.str j/\Q (.bl (!(!(Builtin.Str.occurrences j i 0 j.length 1).isEmpty))) H):=by
 intro pins s σ H x y v u Q I a b h;obtain⟨i,j,rfl,rfl,q⟩:=h;obtain⟨t,rfl⟩:=a;obtain⟨c,rfl⟩:=b;exact notIn_str (aZ I q rfl)
def OpR.or{f:Value->Value->Sem Value}{r a:R2}(h:OpR X f r)(h':OpR X f a):OpR X f (λx y H Q=>r x y H Q\/a x y H Q):=by
 intro pins s σ H x y v u Q I b c q;rcases q with q | q;exact h pins s σ H x y v u Q I b c q;exact h' pins s σ H x y v u Q I b c q
def cE(b:Expr){a:CmpOp}(h:a≠.In:=by decide)(c:a≠.NotIn:=by decide):behindInMarks a b=false:=by
 have d:(a==CmpOp.In)=false:=by cases a<;>first | rfl | exact absurd rfl h
 have e:(a==CmpOp.NotIn)=false:=by cases a<;>first | rfl | exact absurd rfl c
 cases b<;>simp[behindInMarks,d,e]
def cG6{c:CmpOp}{r:R2}(d:OpR X (compareOp c) r)(ha:PE X a ta)(e:PE X b tb)(hm:behindInMarks c b=false):PE X (.Compare a [c] [b] pos) (tOp r ta tb):=by
 intro pins s σ H Q I h;exact wpAny_Compare1 (dM1 ha e I h λv u s2 x y f g i j q=>d pins s2 σ f x y v u Q g i j q) hm
def cG7(t:TE):TT:=λσ H Q=>t σ H λx H'=>∃ k,x=.bl k/\Q k H'
def bZ{d:CmpOp}{r:R2}(f:OpR X (compareOp d) r)(ha:PE X a ta)(g:PE X b tb)(hm:behindInMarks d b=false):PT X (.Compare a [d] [b] pos) (cG7 (tOp r ta tb)):=by
 intro pins s σ H Q I h;refine wpAny_isTrue_Compare1 (thn (ha pins s σ H _ I h) λv s1 ⟨x,i,j,l,m⟩=>thn (g pins s1 σ i _ j m) λu s2 ⟨y,n,o,p,q⟩=>
  thn (f pins s2 σ n x y v u _ o l p q) λc C ⟨z,t,w,A,k,e,B⟩=>?_) hm
 subst e;cases A;exact a4A ⟨t,w,B⟩
def bY3(r b:R2)(ta tb tc:TE):TE:=λσ H Q=>ta σ H λx c=>tb σ c λy d=>r x y d λz a=>∃ k,z=.bl k /\
 (if k=true then tc σ a λe f=>b y e f Q else Q (.bl false) a)
def bL9{g f:CmpOp}{r j:R2}(p:OpR X (compareOp g) r)(i:OpR X (compareOp f) j)(ha:PE X a ta)(q:PE X b tb)(t:PE X c tc)
  (hm:lastMarks [g,f] [b,c]=false:=by with_unfolding_all rfl):PT X (.Compare a [g,f] [b,c] pos) (cG7 (bY3 r j ta tb tc)):=by
 intro pins s σ H Q I h;refine isTrue_chain (thn (ha pins s σ H _ I h) λv s1 ⟨x,w,A,B,C⟩=>test_link (thn (q pins s1 σ w _ A C) λu s2 ⟨y,D,E,l,F⟩=>
  thn (p pins s2 σ D x y v u _ E B l F) λd G ⟨z,m,n,J,k,e,o⟩=>?_)) hm
 subst e;cases J;refine a4A ?_;cases k with
 | false=>
   obtain⟨k',K,L⟩:=o;cases K;exact ite_ff ⟨m,n,L⟩
 | true=>
   refine ite_tt (test_last (thn (t pins G σ m _ n o) λM N ⟨O,P,R,S,T⟩=>thn (i pins N σ P y O u M _ R l S T) λd' s5 Z0=>?_));obtain⟨z2,U,V,W,k2,Y,Z⟩:=Z0;subst Y;cases W;exact a4A ⟨U,V,Z⟩
def dR1(K:W.Frag)(x:V)(H:Hp)(k:Bool):Prop:=
 match x with
 | .non=>k=false
 | .bl b=>k=b
 | .int i=>k=(i != 0)
 | .str y=>y.length<=sizeLine/\k=((y.length:Int) != 0)
 | .byt y=>y.size<=sizeLine/\k=((y.size:Int) != 0)
 | .ref p=>(∃ xs,SqL K H p xs/\k = !xs.isEmpty)\/(∃ xs,SqT K H p xs/\k = !xs.isEmpty)\/∃ kvs,H p=some (.dK kvs)/\k = !kvs.isEmpty
 | _=>False
def aN5{κ:Type}{kvs:List (κ×V)}{vs:List (κ×Value)}(r:KV kvs vs):(!vs.isEmpty) = !kvs.isEmpty:=by
 cases r<;>rfl
def tG{xs:List V}{its:List Value}(r:bN xs its):(!its.toArray.isEmpty) = !xs.isEmpty:=by
 cases r<;>simp
def oH:(sizeLine:Nat) < 2 ^ 63:=by rw[a4G];decide
def cX7:dT6 X (λx H Q=>∃ k,dR1 X.K x H k/\Q k H):=by
 intro pins s σ H x v Q I d h;obtain⟨k,e,q⟩:=h;have hl:=oH;have hs:sizeLine=16777216:=a4G;cases x with
 | non=>
   cases d;have a:k=false:=e;subst a;exact truthy_none ⟨H,I,q⟩
 | bl b=>
   cases d;have a:k=b:=e;subst a;exact a4A ⟨H,I,q⟩
 | int i=>
   obtain⟨t,rfl⟩:=d;have a:k=(i != 0):=e;subst a;exact PySem.P.truthy_int ⟨H,I,q⟩
 | str y=>
   obtain⟨t,rfl⟩:=d;obtain⟨j,a⟩:y.length<=sizeLine/\k=((y.length:Int) != 0):=e;subst a;exact PySem.P.truthy_str (by lia) ⟨H,I.tok _,q⟩
 | byt y=>
   obtain⟨t,rfl⟩:=d;obtain⟨j,a⟩:y.size<=sizeLine/\k=((y.size:Int) != 0):=e;subst a;exact W.truthy_bytes (by lia) ⟨H,I.tok _,q⟩
 | ref p=>
   cases d;have a:(∃ xs,SqL X.K H p xs/\k = !xs.isEmpty)\/(∃ xs,SqT X.K H p xs/\k = !xs.isEmpty)\/∃ kvs,H p=some (.dK kvs)/\k = !kvs.isEmpty:=e;rcases a with⟨xs,f,a⟩ | ⟨xs,f,a⟩ | ⟨kvs,f,a⟩;subst a;obtain⟨its,r,pl,g⟩:=I.list f;have c:=r.length;exact wpAny_truthy_list pl.isList (by simp only[List.size_toArray];lia) ⟨H,I.tok _,by rw[tG r];exact q⟩;subst a;obtain⟨its,r,pl,g⟩:=I.tuple f;have c:=r.length;exact truthy_tuple pl (by simp only[List.size_toArray];lia) ⟨H,I.tok _,by rw[tG r];exact q⟩;subst a;obtain⟨g,l,vs,r,m⟩:kvs.length<=sizeLine/\(p==sysModules)=false/\∃ vs,KV kvs vs/\s.heap.DictOf (zY X.prog X.w) p vs:=I.hok p _ f;have c:kvs.length=vs.length:=Paired.length r;exact wpAny_truthy_dict l m (by lia) ⟨H,I.tok _,by rw[aN5 r];exact q⟩
 | _=>exact(show False from e).elim
def bM0(ha:PE X a ta)(c:∀ b,isTrue a X.env b=(do let v ← b;standAt a.pos;holding [v] (truthy v))) :
  PT X a (λσ H Q=>ta σ H λx H'=>∃ k,dR1 X.K x H' k/\Q k H'):=by
 intro pins s σ H Q I h;exact isTrue_plain (thn (ha pins s σ H _ I h) λv s1 ⟨x,d,e,f,g⟩=>cX7 pins s1 σ d x v Q e f g) (c _)
def aN6:OpR X (binaryOp .Add) (λx y H Q=>∃ i j,x=.str i/\y=.str j/\i.length+j.length<=sizeLine/\Q (.str (i++j)) H):=by
 intro pins s σ H x y v u Q I a b h;obtain⟨i,j,rfl,rfl,c,q⟩:=h;obtain⟨t,rfl⟩:=a;obtain⟨d,rfl⟩:=b;exact add_str (λd tk=>⟨.str (i++j),H,I.tok _,⟨_,rfl⟩,q⟩) c
def aA1{x:V}{us:List Value}(r:bN [x] us):∃ u,us=[u]/\dM x u:=by
 cases r with
 | cons a b=>cases b;exact⟨_,rfl,a⟩
def bM1{x y:V}{us:List Value}(r:bN [x,y] us):∃ u a,us=[u,a]/\dM x u/\dM y a:=by
 cases r with
 | cons b c=>
   cases c with
   | cons d e=>cases e;exact⟨_,_,rfl,b,d⟩
def aU3(b:X.calm=true):kP X (.builtin "max") (λxs H Q=>∃ i j,xs=[.int i,.int j]/\Q (.int (if j > i then j else i)) H):=by
 intro pins s σ H xs us Q I r h;obtain⟨i,j,rfl,q⟩:=h;obtain⟨u,c,rfl,⟨t,rfl⟩,⟨d,rfl⟩⟩:=bM1 r;refine max_two_ints (I.ok.hd b) λh' tk k=>⟨_,H,I.kept k,?_,q⟩;by_cases a:j > i;rw[a3Y a,a3Y a];exact⟨_,rfl⟩;rw[a3Z a,a3Z a];exact⟨_,rfl⟩
def qJ(b:X.calm=true):kP X (.builtin "min") (λxs H Q=>∃ i j,xs=[.int i,.int j]/\Q (.int (if j < i then j else i)) H):=by
 intro pins s σ H xs us Q I r h;obtain⟨i,j,rfl,q⟩:=h;obtain⟨u,c,rfl,⟨t,rfl⟩,⟨d,rfl⟩⟩:=bM1 r;refine min_two_ints (I.ok.hd b) λh' tk k=>⟨_,H,I.kept k,?_,q⟩;by_cases a:j < i;rw[a3Y a,a3Y a];exact⟨_,rfl⟩;rw[a3Z a,a3Z a];exact⟨_,rfl⟩
def aU4:kP X (.type "int") (λxs H Q=>(∃ i,xs=[.int i]/\Q (.int i) H)\/∃ k,xs=[.bl k]/\Q (.int (if k then 1 else 0)) H):=by
 intro pins s σ H xs us Q I r h;rcases h with⟨i,rfl,q⟩ | ⟨k,rfl,q⟩;obtain⟨u,rfl,t,rfl⟩:=aA1 r;exact call_int_int ⟨.int i,H,I,⟨_,rfl⟩,q⟩;obtain⟨u,rfl,a⟩:=aA1 r;cases a;exact call_int_bool ⟨.int (if k then 1 else 0),H,I.tok _,⟨_,rfl⟩,q⟩
end
structure ObjM(h:Heap)(x dx C:Addr)(mA:Str->Option Value):Prop where
 obj:h.get? x=some (W.instObj C dx)
 ns:h.Ns1 dx mA
 ne:dx≠x
def aU5{h:Heap}{dx:Addr}{mA:Str->Option Value}(n:h.Ns1 dx mA):∃ od,h.get? dx=some od/\∀ name,W.lookIn name od=some (mA name):=by
 obtain⟨o,es,ep,c,hd,d,_,hm⟩:=n;refine⟨o,c,λname=>?_⟩;have e:=hm name;unfold nsFind findBy at e;rw[← Array.find?_toList]at e;unfold W.lookIn;rw[hd];dsimp only;split;rename_i y q;rw[q]at e;exact a4u some e;rename_i q;rw[q]at e;have a:es.toList.any (·.refKey)=false:=by
  rw[List.any_eq_false];intro y f;obtain⟨z,t,b⟩:=d y (Array.mem_toList_iff.mp f);simp[DictEntry.refKey,b]
 have g:¬ es.toList.any (·.refKey)=true:=by rw[a];exact a1b
 rw[a3Z g];exact a4u some e
def ObjM.look{h:Heap}{x dx C:Addr}{mA:Str->Option Value}(I:ObjM h x dx C mA):∃ od,W.InstAt h x (W.instObj C dx) C (some od)/\∀ name,W.lookIn name od=some (mA name):=
 let ⟨od,a,hl⟩:=aU5 I.ns
 ⟨od,⟨I.obj,rfl,rfl,a⟩,hl⟩
section
variable{prog:Program}{w:World}{A:Around}{E:Value->Shared->Prop}{s:Shared}{K:W.Frag}{x dx C f:Addr}{mA:Str->Option Value}{name:Str}{v:Value}
end
section
variable{P:Program}{w:World}{H H':Hp}{h h':Heap}{a C dx:Addr}{fs fs':List (Str×V)}
def gO(hok:HOk P w H h)(e:H a=some (.ins C dx fs)):∃ mA,ObjM h a dx C mA/\(∀ f,dL5 (fs.lookup f) (mA f))/\Within mA (fs.map (·.1))/\fs.length<=1000/\H dx=some (.own a):=by
 obtain⟨d,z,ne,ob,mA,n,r,q⟩:=(show dD P w H h a (.ins C dx fs)from hok a _ e);exact⟨mA,⟨ob,n,ne⟩,r,q,z,d⟩
end
structure Cls(K:W.Frag)(C:Addr):Prop where
 pg:W.plainGet K C Str.empty=true
 hd:W.hasDictIn K C=true
 po:W.plainOver K C=true
 sa:W.findIn K (.ref C) "__setattr__"=some (some (.builtin "object.__setattr__"))
def Cls.get{K:W.Frag}{C:Addr}(c:Cls K C)(f:Str):W.plainGet K C f=true:=c.pg
section
variable{X:Cx}{pins:List (Addr×Obj)}{σ:St}{H:Hp}{s:Shared}{a C dx:Addr}{fs:List (Str×V)}{f:Str}{v:V}{A:Around}{E:Value->Shared->Prop}
end
section
variable{X:Cx}{o e value:Expr}{f:Str}{pos pos' tpos:Pos}{ta tv:TE}
end
section
variable{X:Cx}{pins:List (Addr×Obj)}{σ:St}{H:Hp}{s:Shared}{A:Around}{E:Value->Shared->Prop}{Q:Value->Shared->Prop}{c:Value}{b:Bool}
inductive TyOf(K:W.Frag)(H:Hp):V->Value->Prop where
 | non:TyOf K H .non (.type "NoneType")
 | bl (x:Bool):TyOf K H (.bl x) (.type "bool")
 | int (i:Int):TyOf K H (.int i) (.type "int")
 | str (x:Str):TyOf K H (.str x) (.type "str")
 | flt (x:UInt64):TyOf K H (.flt x) (.type "float")
 | lst {a:Addr} {xs:List V} (e:H a=some (.lst xs)):TyOf K H (.ref a) (.type "list")
 | frz {a:Addr} {o:Obj} {xs:List V} (e:H a=some (.frz o (.lst xs))):TyOf K H (.ref a) (.type "list")
 | tup {a:Addr} {xs:List V} (e:H a=some (.tup xs)):TyOf K H (.ref a) (.type "tuple")
 | dK {a:Addr} {kvs:List (Key×V)} (e:H a=some (.dK kvs)):TyOf K H (.ref a) (.type "dict")
 | dT {a:Addr} {kvs:List (List Key×V)} (e:H a=some (.dT kvs)):TyOf K H (.ref a) (.type "dict")
 | ins {a C dx:Addr} {fs:List (Str×V)} (e:H a=some (.ins C dx fs)) (cl:Cls K C) (ha:W.findIn K (.ref C) "__class__"=some (some (.builtin "object.__class__")))
   (hn:W.specialIn K (.builtin "object.__class__") "__get__"=some (some (.builtin "getset_descriptor.__get__"))) (htk:W.takesIn K (.builtin "object.__class__")=some true)
   (hm:W.mroIn K C (.type "object")=some true):TyOf K H (.ref a) (.ref C)
def aU6{x:V}{u t:Value}(I:Inv X pins σ H s)(d:dM x u)(ty:TyOf X.K H x t)(e:W.kitOne X.K t c=some b)(h:∀ tk,Q (.bool b) {s with toks:=tk}) :
  wpAny (model X.prog X.w) A (call (.builtin "isinstance") [u,c]) Q E s:=by
 cases ty with
 | non=>cases (show u=Value.none from d);exact a7f W.kitx_none I.kIn True.intro e (λz=>nomatch z) h
 | bl y=>cases (show u=Value.bool y from d);exact a7f W.kitx_bool I.kIn True.intro e (λz=>nomatch z) h
 | int i=>obtain⟨t,q⟩:=(show ∃ t,u=Value.int i t from d);cases q;exact a7f W.kitx_int I.kIn True.intro e (λz=>nomatch z) h
 | str y=>obtain⟨t,q⟩:=(show ∃ t,u=Value.str y t from d);cases q;exact a7f W.kitx_str I.kIn True.intro e (λz=>nomatch z) h
 | flt y=>obtain⟨t,q⟩:=(show ∃ t,u=Value.float y t from d);cases q;exact a7f W.kitx_float I.kIn True.intro e (λz=>nomatch z) h
 | @lst a xs f=>
   cases (show u=Value.ref a from d);obtain⟨_,_,n,_,g⟩:=(show dD X.prog X.w H s.heap a (.lst xs)from I.hok a _ f);exact a7f W.kitx_list I.kIn ⟨_,g,rfl⟩ e (λz=>nomatch z) h
 | @frz a ob xs f=>
   cases (show u=Value.ref a from d);obtain⟨_,_,_,n,_,g⟩:=(show dD X.prog X.w H s.heap a (.frz ob (.lst xs))from I.hok a _ f);exact a7f W.kitx_list I.kIn ⟨_,g,rfl⟩ e (λz=>nomatch z) h
 | @tup a xs f=>
   cases (show u=Value.ref a from d);obtain⟨_,_,_,p,_⟩:=(show dD X.prog X.w H s.heap a (.tup xs)from I.hok a _ f);obtain⟨o,g,j,_⟩:=p;exact a7f W.kitx_tuple I.kIn ⟨o,g,j⟩ e (λz=>nomatch z) h
 | @dK a kvs f=>
   cases (show u=Value.ref a from d);obtain⟨_,_,vs,_,p⟩:=(show dD X.prog X.w H s.heap a (.dK kvs)from I.hok a _ f);obtain⟨o,es,ep,g,j,_⟩:=p;exact a7f W.kitx_dict I.kIn ⟨o,g,j.1⟩ e (λz=>nomatch z) h
 | @dT a kvs f=>
   cases (show u=Value.ref a from d);obtain⟨_,_,xs,_,o,es,ep,g,j,_⟩:=(show dD X.prog X.w H s.heap a (.dT kvs)from I.hok a _ f);exact a7f W.kitx_dict I.kIn ⟨o,g,j.1⟩ e (λz=>nomatch z) h
 | @ins a C dx fs f cl ha hn htk hm=>
   cases (show u=Value.ref a from d);obtain⟨mA,O,_⟩:=gO I.hok f;obtain⟨od,J,_⟩:=O.look;exact a7f (W.kitx_own (cl.get _) cl.hd ha hn htk hm) I.kIn J e (λz=>nomatch z) h
end
structure Room(k:Nat)(A:Around):Prop where
 hd:A.handled=none
 dp:A.depth+3*k+5 < recursionLimit
 un:A.units+16*k+200 < cLine
def Room.mono{j k:Nat}{A:Around}(r:Room k A)(h:j<=k):Room j A:=⟨r.hd,by have:=r.dp;lia,by have:=r.un;lia⟩
theorem Room.deeper{k:Nat}{A:Around}(r:Room (k+1) A)(env:Env):Room k (A.deeper env):=
 ⟨r.hd,by have:=r.dp;show A.depth+1+3*k+5 < _;lia,by have:=r.un;show A.units+3+16*k+200 < _;lia⟩
def aN7{A:Around}{C:Addr}{us:List Value}{a:List (Str×Value)}:(A.under (.builtin "type.__call__" ⟨.ref C::us,a⟩)).depth=A.depth+1:=by
 first | rfl | simp[Around.under,Code.weight,Code.isCreation,Code.isGuard,Code.isCaller,Code.frames,Code.isFrame,guardIds]
def aN8{A:Around}{C:Addr}{us:List Value}{a:List (Str×Value)}:(A.under (.builtin "type.__call__" ⟨.ref C::us,a⟩)).units=A.units+1:=by
 first | rfl | simp[Around.under,Code.cUnits,Code.frames,Code.isFrame]
def Room.make{k:Nat}{A:Around}(r:Room (k+1) A)(C:Addr)(us:List Value)(a:List (Str×Value)):Room k (A.under (.builtin "type.__call__" ⟨.ref C::us,a⟩)):=
 ⟨r.hd,by have:=r.dp;rw[aN7];lia,by have:=r.un;rw[aN8];lia⟩
theorem Room.depth{k:Nat}{A:Around}(r:Room k A):A.depth < recursionLimit:=by have:=r.dp;lia
theorem Room.units{k:Nat}{A:Around}(r:Room k A):A.units+64 < cLine:=by have:=r.un;lia
def dM5:TA:=λ_ H Q=>Q [] H
def bM2(a:TE)(tr:TA):TA:=λσ H Q=>a σ H λx b=>tr σ b λxs c=>Q (x::xs) c
section
variable{X:Cx}{e:Expr}{es:List Expr}{te:TE}{t:TA}{pos:Pos}
def aJ:PA X [] dM5:=λ_ _ _ _ H Q I h=>Calls.spliced_nil ⟨[],H,I,.nil,h⟩
def aC(ha:PE X e te)(hr:PA X es t)(hs:starEach (e::es) X.env=(false,eval e X.env)::starEach es X.env:=by rfl):PA X (e::es) (bM2 te t):=by
 intro pos pins s σ H Q I h;rw[hs];show wpAny _ _ (spliced ((false,eval e X.env)::backTo pos (starEach es X.env))) _ _ s;refine Calls.spliced_cons (thn (ha pins s σ H _ I h) λu s1 Z0=>?_);obtain⟨x,a,b,c,d⟩:=Z0;exact thn (hr pos pins s1 σ a _ b d) λus s2 ⟨xs,f,g,i,j⟩=>⟨x::xs,f,g,.cons c i,j⟩
def dT7(t:TA):TE:=λσ H Q=>t σ H λxs a=>xs.length<=sizeLine/\∀ p,a p=none->Q (.ref p) (upd a p (.tup xs))
def dR2(t:TA):TE:=λσ H Q=>t σ H λxs a=>xs.length<=sizeLine/\∀ p,a p=none->Q (.ref p) (upd a p (.lst xs))
def cX8{d}(h:PA X es t):PE X (.Tuple es d pos) (dT7 t):=by
 intro pins s σ H Q I f;refine wpAny_Tuple_spliced (thn (h pos pins s σ H _ I f) λus s1 ⟨xs,a,c,r,z,q⟩=>⟨by rw[← r.length];exact z,?_⟩);have g:a s1.heap.objs.size=none:=c.hok.fresh (a4a _);refine⟨.ref s1.heap.objs.size,upd a s1.heap.objs.size (.tup xs),c.laid (t':=s1.toks) (λb u e=>a2a _ e) (a4a _) ?_,rfl,q _ g⟩;exact⟨z,us,r,⟨_,a0b _ rfl,rfl,_,rfl⟩,⟨_,a0b _ rfl,rfl⟩⟩
def oJ(h:PA X es t):PE X (.List es pos) (dR2 t):=by
 intro pins s σ H Q I d;refine wpAny_List_spliced (thn (h pos pins s σ H _ I d) λus s1 ⟨xs,a,c,r,z,q⟩=>⟨by rw[← r.length];exact z,?_⟩);have f:a s1.heap.objs.size=none:=c.hok.fresh (a4a _);refine⟨.ref s1.heap.objs.size,upd a s1.heap.objs.size (.lst xs),c.laid (t':=s1.toks) (λb u e=>a2a _ e) (a4a _) ?_,rfl,q _ f⟩;exact⟨z,us,0,r,a0b _ rfl⟩
end
abbrev Sp:=List V->Hp->VK->XK->Prop
abbrev CXT:=List Env->Hp->Shared->XK->Value->Shared->Prop
structure Env0(P:Program)(w:World)(K:W.Frag)(mg:Str->Option Value)(base:Heap)(A:Around)(outer:List Env)(s:Shared)(H:Hp):Prop where
 frames:A.frames=some outer
 mod:Mod K mg base
 bs:∀ b o,base.get? b=some o->s.heap.get? b=some o/\H b=none
 bsz:base.objs.size<=s.heap.objs.size
 funs:s.heap.FunFrames base outer
 frf:∀ b∈frs outer,H b=none
 hok:HOk P w H s.heap
 bare:AllBare s.gens
def CE(outer:List Env)(P:Program)(w:World)(H:Hp)(s:Shared)(Q:VK)(u:Value)(s':Shared):Prop:=
 ∃ v H',s'.os=s.os/\AllBare s'.gens/\Un (frs outer) [] H H' s.heap s'.heap/\HOk P w H' s'.heap/\dM v u/\Q v H'
def CR(CX:CXT)(outer:List Env)(P:Program)(w:World)(H:Hp)(s:Shared)(Q:VK)(E:XK)(r:Result)(s':Shared):Prop:=
 match r with
 | .ok (.ret u)=>CE outer P w H s Q u s'
 | .ok _=>False
 | .error e=>CX outer H s E e s'
structure FnOk(P:Program)(w:World)(K:W.Frag)(mg:Str->Option Value)(base:Heap)(CX:CXT)(k:Nat)(f:Addr)(fd:FuncData)(ps:List Str)(sp:Sp):Prop where
 len:∀ vs H Q E,sp vs H Q E->vs.length=ps.length
 run:∀ (A:Around) (outer:List Env) (s:Shared) (H:Hp) (args:Args) (us:List Value) (vs:List V) (Q:VK) (E:XK),Room k A->Env0 P w K mg base A outer s H->BindsTo s fd args (ps.zip us)->bN vs us->sp vs H Q E ->
  codeAny (model P w) A (.call (.ref f) args) (CR CX outer P w H s Q E) s
def FnOk.imp{P:Program}{w:World}{K:W.Frag}{mg:Str->Option Value}{base:Heap}{CX:CXT}{k:Nat}{f:Addr}{fd:FuncData}{ps:List Str}{sp a:Sp}(F:FnOk P w K mg base CX k f fd ps sp)
  (h:∀ vs H Q E,a vs H Q E->sp vs H Q E):FnOk P w K mg base CX k f fd ps a:=
 ⟨λvs H Q E q=>F.len vs H Q E (h _ _ _ _ q),λA outer s H args us vs Q E hr b c d hs=>F.run A outer s H args us vs Q E hr b c d (h _ _ _ _ hs)⟩
def Env0.make{P:Program}{w:World}{K:W.Frag}{mg:Str->Option Value}{base:Heap}{A:Around}{outer:List Env}{s:Shared}{H:Hp}(e:Env0 P w K mg base A outer s H)(C:Addr)(us:List Value)(a:List (Str×Value)) :
  Env0 P w K mg base (A.under (.builtin "type.__call__" ⟨.ref C::us,a⟩)) outer s H:=⟨by first | exact e.frames | (simpa[Around.under,Code.envs,Code.isFrame,pushEnvs]using e.frames),e.mod,e.bs,e.bsz,e.funs,e.frf,e.hok,e.bare⟩
section
variable{X:Cx}{pins:List (Addr×Obj)}{σ:St}{H:Hp}{s s':Shared}
def Inv.env0(I:Inv X pins σ H s):Env0 X.prog X.w X.K X.mg X.base X.A X.stack s H:=
 ⟨I.ok.frames,I.ok.mod,I.bs,a8b I.ok.bsz I.sz,I.stack,I.stkFree,I.hok,I.bare⟩
def Inv.after{Q:VK}{u:Value}(I:Inv X pins σ H s)(h:CE X.stack X.prog X.w H s Q u s'):EP X pins σ Q u s':=by
 obtain⟨v,H',os,bare,un,hok,r,q⟩:=h;obtain⟨c,g,d,t,a⟩:=s';obtain rfl:a=s.os:=os;exact⟨v,H',I.call (h':=c) (g':=g) (d':=d) (t':=t) (ch:=[]) un hok bare (λb z=>absurd z (by simp)),r,q⟩
end
def aN9(sp:Sp)(a:List V)(E:XK)(t:TA):TE:=λσ H Q=>t σ H λvs b=>sp (vs++a) b Q E
def cQ(K:W.Frag)(fd:FuncData)(ps:List Str)(ds:List Value):Prop:=
 ∀ (s:Shared) (us:List Value),K.In s.heap->(us++ds).length=ps.length->BindsTo s fd ⟨us,[]⟩ (ps.zip (us++ds))
def cQ.all{K:W.Frag}{fd:FuncData}{ps:List Str}(h:∀ us:List Value,us.length=ps.length->bindArgs fd ⟨us,[]⟩=pure (ps.zip us)):cQ K fd ps []:=λs us _ hl=>by
 rw[a3g]at hl ⊢;exact .of_eq (h us hl)
def wM(CX:CXT)(X:Cx)(E:XK):Prop:=∀ (pins:List (Addr×Obj)) (σ:St) (H:Hp) (s:Shared) (e:Value) (s':Shared),Inv X pins σ H s->CX X.stack H s E e s'->X.xe e s'
section
variable{X:Cx}{CX:CXT}{k:Nat}{f C:Addr}{fd:FuncData}{ps:List Str}{sp:Sp}{dvs:List V}{ds:List Value}{E:XK}{x m:Str}{p pos apos:Pos}{e o:Expr}{es:List Expr}{ta:TE}{t:TA}
def cX9{pins:List (Addr×Obj)}{σ:St}{H:Hp}{s:Shared}{Q:VK}{us:List Value}{vs:List V}(F:FnOk X.prog X.w X.K X.mg X.base CX k f fd ps sp)(hr:Room k X.A)(c:cQ X.K fd ps ds)(hd:bN dvs ds)(d:wM CX X E)
  (I:Inv X pins σ H s) (r:bN vs us) (h:sp (vs++dvs) H Q E):wpAny (model X.prog X.w) X.A (call (.ref f) us) (EP X pins σ Q) X.xe s:=by
 have b:bN (vs++dvs) (us++ds):=r.append hd;have hl:(us++ds).length=ps.length:=by rw[← b.length];exact F.len _ _ _ _ h
 refine a4Y (a4K (F.run X.A X.stack s H ⟨us,[]⟩ (us++ds) (vs++dvs) Q E hr I.env0 (c s us I.kIn hl) b h) λr s' a=>?_);cases r with
 | error e=>exact d pins σ H s e s' I a
 | ok g=>
   cases g with
   | ret u=>exact I.after a
   | next=>exact False.elim a
   | brk=>exact False.elim a
   | cont=>exact False.elim a
def aK(F:FnOk X.prog X.w X.K X.mg X.base CX k f fd ps sp)(hr:Room k X.A)(d:Gl X x)(hm:X.mg x=some (.ref f))(g:W.keepIn X.K (.ref f)=true)(i:cQ X.K fd ps ds)(hd:bN dvs ds)(j:wM CX X E)
  (ha:PA X (e::es) t) (a:(x==("__debug__":Str))=false:=by decide) (l:starEach (e::es) X.env=(false,eval e X.env)::starEach es X.env:=by rfl) (b:(backTo pos (starEach es X.env)).any (·.1)=false:=by rfl) :
  PE X (.Call (.Name x p) (e::es) [] pos) (aN9 sp dvs E t):=by
 intro pins s σ H Q I h;refine a4w (zZ I d hm ?_ a);refine W.callWith_K (h₀:=X.base) I.ok.mod.kin g (thn (ha pos pins s σ H _ I h) λus s1 ⟨vs,m,c,r,q⟩=>⟨c.kIn,?_⟩) l b;exact cX9 F hr i hd j c r q
end
def PK(X:Cx)(a:List Keyword)(t:TA):Prop:=
 ∀ (b:Pos) (pins:List (Addr×Obj)) (s:Shared) (σ:St) (H:Hp) (Q:List V->Hp->Prop),Inv X pins σ H s->t σ H Q->wpAny (model X.prog X.w) X.A (evalAll ((backToKw b (keywordEach a X.env)).map (·.2))) (AP X pins σ Q) X.xe s
section
variable{X:Cx}{CX:CXT}{k:Nat}{f C:Addr}{fd:FuncData}{ps ks:List Str}{sp:Sp}{E:XK}{x m:Str}{p pos apos kpos:Pos}{e o:Expr}{es:List Expr}{kws:List Keyword}{te ta:TE}{t tk:TA}{nm:Option Str}
variable{g:List Value->List Value->List Value}{gV:List V->List V->List V}
end
structure FnScope(N P:List Str)(sc:Scope):Prop where
 kind:sc.kind=.function
 co:sc.isCoroutine=false
 gen:sc.isGenerator=false
 nd:N.Nodup
 pre:N.take P.length=P
 par:∀ x∈P,sc.names.lookup x=some .local\/sc.names.lookup x=some .cell
 nofree:∀ y∈sc.names,y.2≠.free
theorem wN{kindOf:Str->Option NameKind}{x:Str}:∀ {binds:List (Str×Value)} {m:Str->Option Value},(∀ v,(x,v)∉binds)->bindL kindOf binds m x=m x
 | [],_,_=>rfl
 | (n,v)::r,m,h=>by
   unfold bindL;rw[wN λw a=>h w (a7a _ a)];split
   ·have:x≠n:=by rintro rfl;exact h v a6a
    simp[this]
   ·rfl
theorem wO{kindOf:Str->Option NameKind}{x:Str}:∀ {binds:List (Str×Value)} {m:Str->Option Value},(∀ v,(x,v)∉binds)->bindC kindOf binds m x=m x
 | [],_,_=>rfl
 | (n,v)::r,m,h=>by
   unfold bindC;rw[wO λw a=>h w (a7a _ a)];split;rfl
   ·have:x≠n:=by rintro rfl;exact h v a6a
    simp[this]
theorem wP{kindOf:Str->Option NameKind}{x:Str}{v:Value}:∀ {P:List Str} {vs:List Value} {i:Nat} {m:Str->Option Value},P.Nodup->P[i]? = some x->vs[i]? = some v->kindOf x=some .local ->
  bindL kindOf (P.zip vs) m x=some v
 | [],_,_,_,_,h,_,_=>by simp at h
 | _::_,[],_,_,_,_,h,_=>by simp at h
 | p::P,w::vs,0,m,nd,a,b,c=>by
   simp at a b;subst a;subst b;show bindL kindOf ((p,w)::P.zip vs) m p=_;unfold bindL;rw[wN λv d=>(a1j.mp nd).1 (List.of_mem_zip d).1,a3Y c];simp
 | p::P,w::vs,i+1,m,nd,a,b,c=>by
   show bindL kindOf ((p,w)::P.zip vs) m x=_;unfold bindL;exact wP (i:=i) (a1j.mp nd).2 (by simpa using a) (by simpa using b) c
theorem wQ{kindOf:Str->Option NameKind}{x:Str}{v:Value}:∀ {P:List Str} {vs:List Value} {i:Nat} {m:Str->Option Value},P.Nodup->P[i]? = some x->vs[i]? = some v->kindOf x≠some .local ->
  bindC kindOf (P.zip vs) m x=some v
 | [],_,_,_,_,h,_,_=>by simp at h
 | _::_,[],_,_,_,_,h,_=>by simp at h
 | p::P,w::vs,0,m,nd,a,b,c=>by
   simp at a b;subst a;subst b;show bindC kindOf ((p,w)::P.zip vs) m p=_;unfold bindC;rw[wO λv d=>(a1j.mp nd).1 (List.of_mem_zip d).1,a3Z c];simp
 | p::P,w::vs,i+1,m,nd,a,b,c=>by
   show bindC kindOf ((p,w)::P.zip vs) m x=_;unfold bindC;exact wQ (i:=i) (a1j.mp nd).2 (by simpa using a) (by simpa using b) c
noncomputable def dE(N:List Str)(vs:List V):St:=vs.map some++List.replicate (N.length-vs.length) none
noncomputable def zW(CX:CXT)(P:Program)(w:World)(K:W.Frag)(mg:Str->Option Value)(base:Heap)(N:List Str)(qual:Str)(scope:Scope)(f:Addr)(cd:Value)(A:Around)(outer:List Env)(s:Shared)(H:Hp)(E:XK):Cx where
 prog:=P
 w:=w
 K:=K
 mg:=mg
 base:=base
 A:=A.deeper (envOfC qual scope s.heap.objs.size f cd)
 N:=N
 s₀:=s
 H₀:=H
 env:=envOfC qual scope s.heap.objs.size f cd
 outer:=outer
 stack:=envOfC qual scope s.heap.objs.size f cd::outer
 ex:=[]
 calm:=true
 fn:=λ_=>true
 pn:=[]
 xe:=λe s'=>wpAny (model P w) (A.deeper (envOfC qual scope s.heap.objs.size f cd)) (leaving (envOfC qual scope s.heap.objs.size f cd) e) (λ_ a=>CX outer H s E e a) (λb a=>CX outer H s E b a) s'
def aG7{sc:Scope}{n:Nat}{x:Str}(h:sc.names.lookup x=some .cell):∃ c,(cellsFrom n sc.names []).lookup x=some c:=by
 have q:=W.cellsFrom_some sc.names n [] (.inl h);exact Option.isSome_iff_exists.mp q
def aU7{CX:CXT}{P:Program}{w:World}{K:W.Frag}{mg:Str->Option Value}{base:Heap}{N ps:List Str}{qual:Str}{scope:Scope}{f:Addr}{cd:Value}{A:Around}{outer:List Env}{s s1:Shared}{H:Hp}{E:XK}{us:List Value}{vs:List V}
  (S:FnScope N ps scope) (hd:A.handled=none) (g:Env0 P w K mg base A outer s H) (hl:vs.length=ps.length) (r:bN vs us)
  (x:InCallC s s.heap.objs.size (bindL (envOfC qual scope s.heap.objs.size f cd).kindOf (ps.zip us) λ_=>none) (cellsFrom (s.heap.objs.size+1) scope.names []) (bindC (envOfC qual scope s.heap.objs.size f cd).kindOf (ps.zip us) λ_=>none) s1) :
  Inv (zW CX P w K mg base N qual scope f cd A outer s H E) [] (dE N vs) H s1:=by
 have D:ps.length<=N.length:=by have:=a4u List.length S.pre;rw[a3d]at this;lia
 obtain⟨t,tk,rfl,B⟩:=x.done;have j:∀ b:Addr,b∉(zW CX P w K mg base N qual scope f cd A outer s H E).ex:=λb z=>absurd (show b∈([]:List Addr)from z) (by simp);refine⟨⟨g.mod,S.kind,rfl,rfl,a4a _,λy z c t d=>?_,λy l=>?_,λy c _ h=>?_,λ_=>hd,Around.frames_deeper g.frames,.inr ⟨rfl,rfl⟩,λb z=>absurd z (j b),g.bs,g.bsz,λb _ _=>j b,λb z=>absurd z (j b),g.funs,g.frf⟩,
  rfl,g.bare,Un.kept B,⟨_,x.toInCall.ns,λi y v t d G=>?_⟩,λy c h=>⟨_,x.cell y c h⟩,g.hok.fresh (a4a _),λy c h=>?_,λp m=>absurd (show p∈([]:List (Addr×Obj))from m) (by simp),g.hok.kept B,?_⟩
 ·exact name_of_addr x.apart (a5i t) (a5i d)
 ·have l:scope.names.lookup y=some .cell\/scope.names.lookup y=some .free:=l;rcases l with l | l;exact aG7 l;exact absurd rfl (S.nofree _ (a5i l))
 ·exact a2g (x.above y c (a5i h))
 ·have hi:i < vs.length:=by
   unfold dE at d;by_cases hi:i < vs.length;exact hi;rw[a6f (by simpa using hi)]at d;rw[List.getElem?_replicate]at d;split at d<;>cases d
  have ha:vs[i]? = some v:=by
   unfold dE at d;rw[a8f (by simpa using hi),a6b]at d;cases e:vs[i]? with
   | none=>rw[e]at d;cases d
   | some a=>rw[e]at d;cases d;rfl
  obtain⟨u,C,F⟩:=r.get ha;have m:ps[i]? = some y:=by
   rw[← S.pre,List.getElem?_take_of_lt (by lia)];exact t
  have o:ps.Nodup:=by rw[← S.pre];exact S.nd.sublist (List.take_sublist _ _)
  refine⟨u,F,?_⟩;rcases S.par y (a4b m)with k | k;exact .inl ⟨k,wP o m C k⟩;obtain⟨c,e⟩:=aG7 (n:=s.heap.objs.size+1) k;refine .inr ⟨.inl k,c,e,?_⟩;have q:=x.cell y c e;rw[wQ o m C (by show scope.names.lookup y≠_;rw[k];decide)]at q;exact q
 ·exact g.hok.fresh (a2g (x.above y c (a5i h)))
 ·unfold dE;show _=N.length;rw[a0c,a1a,List.length_replicate];lia
def cY0{CX:CXT}{P:Program}{w:World}{K:W.Frag}{mg:Str->Option Value}{base:Heap}{k:Nat}{f:Addr}{name qual:Str}{a:Arguments}{c:List Stmt}{scope:Scope}{p kV doc pm cdv ct oc:Value}{an od:Option Addr}
  {osl:Array (Option Value)} {N ps:List Str} {sp:Sp} (lk:K.lookup f=some ⟨oc,od,.func (W.fnOf name qual a c scope p kV doc pm an cdv ct),osl⟩) (j:W.codeIn K cdv qual=true) (S:FnScope N ps scope)
  (len:∀ vs H Q E,sp vs H Q E->vs.length=ps.length)
  (d:∀ (A:Around) (outer:List Env) (s:Shared) (H:Hp) (vs:List V) (Q:VK) (E:XK),Room k (A.deeper (envOfC qual scope s.heap.objs.size f cdv))->sp vs H Q E ->
   ∃ t,PSs (zW CX P w K mg base N qual scope f cdv A outer s H E) c t/\t {nx:=λ_ H'=>Q .non H',rt:=Q} (dE N vs) H) :
  FnOk P w K mg base CX (k+1) f (W.fnOf name qual a c scope p kV doc pm an cdv ct) ps sp:=by
 refine⟨len,λA outer s H args us vs Q E hr h B r i=>?_⟩;have hl:=len _ _ _ _ i;have z:K.In s.heap:=h.mod.kin.keeps λb o e=>(h.bs b o e).1;have l:s.heap.NoLimit:=h.mod.nolimit.keeps λb o e=>(h.bs b o e).1;have g:∀ y∈ps.zip us,scope.names.lookup y.1=some .local\/(scope.names.lookup y.1=some .cell/\((cellsFrom (s.heap.objs.size+1) scope.names []).lookup y.1).isSome=true):=λ⟨n,v⟩ C=>by
  rcases S.par n (List.of_mem_zip C).1 with q | q;exact .inl q;exact .inr ⟨q,W.cellsFrom_some _ _ _ (.inl q)⟩
 refine codeAny_call_function hr.depth (z _ _ lk) rfl S.co S.gen rfl (W.codeRec_of z j) (B _ _ _ _ ?_);refine wpAny_newFunctionEnv_cells S.kind g λenv D s1 x=>?_;subst D;refine⟨l.keeps x.toInCall.keep,codeAny_func ?_⟩;obtain⟨t,F,G⟩:=d A outer s H vs Q E (hr.deeper _) i;have I:Inv (zW CX P w K mg base N qual scope f cdv A outer s H E) [] (dE N vs) H s1:=aU7 S hr.hd h hl r x;refine a4x (F [] s1 (dE N vs) H _ I G) (λL s' hs=>?_) λe s' hs=>hs;have fin:∀ {σ':St} {H':Hp} {v:V} {u:Value},Inv (zW CX P w K mg base N qual scope f cdv A outer s H E) [] σ' H' s'->dM v u->Q v H'->CE outer P w H s Q u s':=
  λ{σ' H' v u} J m q=>⟨v,H',J.os,J.bare,J.base,J.hok,m,q⟩
 cases L with
 | ret u=>
   obtain⟨v,σ',H',J,m,q⟩:=hs;exact fin J m q
 | next=>
   obtain⟨σ',H',J,q⟩:=hs;exact fin (v:=V.non) (u:=Value.none) J rfl q
 | brk=>
   obtain⟨_,_,_,q⟩:=hs;exact False.elim q
 | cont=>
   obtain⟨_,_,_,q⟩:=hs;exact False.elim q
section
variable{X:Cx}{x:Str}{p pos:Pos}{e:Expr}{es:List Expr}{t:TA}{id T:String}{r:List V->Hp->VK->Prop}
def tCB(r:List V->Hp->VK->Prop)(t:TA):TE:=λσ H Q=>t σ H λvs a=>r vs a Q
def cH(c:kP X (.builtin id) r)(d:Gl X x)(hm:X.mg x=none)(f:bootBuiltins x=some (.builtin id))(ha:PA X (e::es) t)(hn:x≠"__name__":=by decide)(a:(x==("__debug__":Str))=false:=by decide)
  (g:starEach (e::es) X.env=(false,eval e X.env)::starEach es X.env:=by rfl) (b:(backTo pos (starEach es X.env)).any (·.1)=false:=by rfl):PE X (.Call (.Name x p) (e::es) [] pos) (tCB r t):=by
 intro pins s σ H Q I h;refine a4w (kR I d hm f ?_ hn a);exact PyProof.Rows.callWith_builtin1 (thn (ha pos pins s σ H _ I h) λus s1 ⟨vs,i,j,k,l⟩=>c pins s1 σ i vs us Q j k l) g b
def dN(c:kP X (.type T) r)(d:Gl X x)(hm:X.mg x=none)(f:bootBuiltins x=some (.type T))(ha:PA X (e::es) t)(hn:x≠"__name__":=by decide)(a:(x==("__debug__":Str))=false:=by decide)
  (g:starEach (e::es) X.env=(false,eval e X.env)::starEach es X.env:=by rfl) (b:(backTo pos (starEach es X.env)).any (·.1)=false:=by rfl):PE X (.Call (.Name x p) (e::es) [] pos) (tCB r t):=by
 intro pins s σ H Q I h;refine a4w (kR I d hm f ?_ hn a);exact a4e (thn (ha pos pins s σ H _ I h) λus s1 ⟨vs,i,j,k,l⟩=>c pins s1 σ i vs us Q j k l) g b
end
end L2
namespace HT
open PySem PyProof.Rows
section
open PySem.SeqAt
open PySem.AutoSeq1 (wpAny_loadPart')
open PySem.MeetsSeq PySem.MeetsSeq2 PySem.MeetsSeq3
end
section
variable{prog:Program}{w:World}{A:Around}{E:Value->Shared->Prop}{s:Shared}
def cat_tup{t b:Addr}{vs ws:List Value}{Q:Value->Shared->Prop}(l:IsTup s.heap t vs.toArray)(m:IsTup s.heap b ws.toArray)(h:vs≠[])
  (o:ws=[]->Q (.ref t) s) (p:ws≠[]->Q (.ref s.heap.objs.size) {s with heap:=s.heap.push {cls:=.type "tuple",data:=.seq (vs++ws).toArray}})
  (hsz:vs.length+ws.length<=sizeLine):wpAny (model prog w) A (binaryOp .Add (.ref t) (.ref b)) Q E s:=by
 obtain⟨⟨cls,i,data,sl⟩,f,j,n,hd⟩:=id l;obtain⟨⟨k,c,data2,sl2⟩,a,d,n2,hd2⟩:=id m;simp only at j hd d hd2;subst j hd d hd2;have e:vs.toArray++ws.toArray=(vs++ws).toArray:=by simp
 by_cases g:ws=[]
 ·exact concat_meets ⟨_,f,rfl⟩ ⟨_,a,rfl⟩ noFill_tuple_add seq_tuple_add F.slot_tuple_add F.entry_tuple_add (F.args_tuple_add_2 _ _)
   (tuple_addW1 t b vs.toArray ws.toArray n n2 i c sl sl2 (by simpa using h) (by simp[g])) ⟨f,a,o g⟩
 ·refine concat_meets ⟨_,f,rfl⟩ ⟨_,a,rfl⟩ noFill_tuple_add seq_tuple_add F.slot_tuple_add F.entry_tuple_add (F.args_tuple_add_2 _ _)
   (tuple_addW2 t b vs.toArray ws.toArray n n2 i c sl sl2 (by simpa using h) (by simpa using g) (by rw[List.size_toArray,List.size_toArray];exact hsz)) ⟨f,a,?_⟩
  rw[e];exact p g
noncomputable def sIx(n d:Nat):Option Int->Nat
 | none=>d
 | some v=>if v < 0 then(v+(n:Int)).toNat else min v.toNat n
def sIx_none(n d:Nat):sIx n d none=d:=rfl
def sIx_nat(n d k:Nat):sIx n d (some (k:Int))=min k n:=by
 show(if(k:Int) < 0 then((k:Int)+(n:Int)).toNat else min (k:Int).toNat n)=min k n;rw[a3Z (by lia),a3j]
def cY1(n d:Nat)(hd:d<=n)(o:Option Int):sIx n d o<=n:=by
 cases o with
 | none=>exact hd
 | some v=>
   show(if v < 0 then(v+(n:Int)).toNat else min v.toNat n)<=n;by_cases a:v < 0;rw[a3Y a];lia;rw[a3Z a];exact Nat.min_le_right _ _
def aU8(v:Int)(n d:Nat):(if v < 0 then max (v+(n:Int)) 0 else min v (n:Int))=((sIx n d (some v):Nat):Int):=by
 show(if v < 0 then max (v+(n:Int)) 0 else min v (n:Int))=(((if v < 0 then(v+(n:Int)).toNat else min v.toNat n):Nat):Int);by_cases a:v < 0;simp only[if_pos a];lia;simp only[if_neg a];lia
def aO0(lo hi:Option Int)(n:Nat):Builtin.Slice.sliceAdjust lo hi 1 (n:Int)=(((sIx n 0 lo:Nat):Int),((sIx n n hi:Nat):Int)):=by
 have a:¬ ((1:Int) < 0):=by lia
 unfold Builtin.Slice.sliceAdjust;simp only[a,if_false];refine Prod.ext ?_ ?_
 ·cases lo with
  | none=>rfl
  | some v=>exact aU8 v n 0
 ·cases hi with
  | none=>rfl
  | some v=>exact aU8 v n n
def aO1(i j:Nat):Builtin.Slice.slicePlaces (i:Int) (j:Int) 1=j-i:=by
 unfold Builtin.Slice.slicePlaces;have a:(1:Int) > 0:=by lia
 simp only[a,if_true,Int.ediv_one];split<;>lia
def tH{v:Value}{o:Option Int}{Q:Option Int->Shared->Prop}(p:IsPart v o)(h:Q o s):wpAny (model prog w) A (Builtin.Slice.slicePartIndex v) Q E s:=by
 cases p with
 | none=>exact slicePart_none h
 | int i t=>exact slicePart_int h
def iW{sl:Addr}{c d:Value}{lo hi:Option Int}{n:Nat}{Q:Int×Int×Nat->Shared->Prop}(hs:s.heap.IsSliceOf sl c d .none)(pl:IsPart c lo)(e:IsPart d hi)
  (h:Q (((sIx n 0 lo:Nat):Int),1,sIx n n hi-sIx n 0 lo) s):wpAny (model prog w) A (Builtin.Slice.sliceApplied (.ref sl) (pure (n:Int))) Q E s:=by
 obtain⟨os,a,f,b⟩:=id hs;unfold Builtin.Slice.sliceApplied Builtin.Slice.sliceFields;refine a3W (a3W (a4m a b (x:=c) rfl (a3W (a4m a b (x:=d) rfl (a3W (a4m a b (x:=.none) rfl (a3X ?_)))))));refine a3W (slicePart_none ?_);show wpAny _ _ (if((1:Int)==0)=true then _ else _) _ _ s;rw[a3Z (by decide)];refine a3W (tH pl (a3W (tH e (a3W (a3X ?_)))));show wpAny _ _ (match Builtin.Slice.sliceAdjust lo hi 1 (n:Int)with | (lo,hi)=>pure (lo,(1:Int),Builtin.Slice.slicePlaces lo hi 1)) _ _ s;rw[aO0 lo hi n];show wpAny _ _ (pure (((sIx n 0 lo:Nat):Int),(1:Int),Builtin.Slice.slicePlaces ((sIx n 0 lo:Nat):Int) ((sIx n n hi:Nat):Int) 1)) _ _ s;rw[aO1];exact a3X h
def bM3(xs:Array Value)(i k:Nat):((List.range k).filterMap λ(m:Nat)=>xs[((i:Int)+(m:Int)*1).toNat]?).toArray=((xs.toList.drop i).take k).toArray:=by
 have e:(λ(m:Nat)=>xs[((i:Int)+(m:Int)*1).toNat]?)=λm=>xs[i+m]?:=by
  funext m;have:((i:Int)+(m:Int)*1).toNat=i+m:=by lia
  rw[this]
 rw[e];have:=pick_run xs i k;rw[List.filterMap_map]at this;have a:((λx=>xs[x]?) ∘ λx=>i+x)=λm=>xs[i+m]?:=rfl;rw[a]at this;rw[this]
def getItem_tuple_cut{t sl:Addr}{items:Array Value}{g i:Value}{lo hi:Option Int}{Q:Value->Shared->Prop}(b:IsTup s.heap t items)(hs:s.heap.IsSliceOf sl g i .none)(pl:IsPart g lo)(j:IsPart i hi)
  (k:¬ (sIx items.size 0 lo=0/\sIx items.size items.size hi=items.size))
  (h:Q (.ref s.heap.objs.size) {s with heap:=s.heap.push {cls:=.type "tuple",data:=.seq ((items.toList.drop (sIx items.size 0 lo)).take (sIx items.size items.size hi-sIx items.size 0 lo)).toArray}})
  (hsz:items.size<=sizeLine):wpAny (model prog w) A (getItem (.ref t) (.ref sl)) Q E s:=by
 have a:sizeOk (.seq ((items.toList.drop (sIx items.size 0 lo)).take (sIx items.size items.size hi-sIx items.size 0 lo)).toArray):=by
  show((items.toList.drop (sIx items.size 0 lo)).take (sIx items.size items.size hi-sIx items.size 0 lo)).toArray.size<=sizeLine;rw[a8a,a3d,a0i,a9d];lia
 have n:sIx items.size items.size hi<=items.size:=cY1 _ _ (a4a _) hi;obtain⟨os,c,d,l⟩:=id hs;have e:s.TypeIs (.ref sl) "slice":=⟨os,c,d⟩;unfold getItem
 try with_reducible refine a4l ?_
 first | refine a3W (a3X ?_) | skip
 refine a3W (wpAny_sequenceKey b.typeIs (by decide) ?_);refine a3W (wpAny_callSpecial?_slot (name:=Str.ofString "__getitem__") b.typeIs a5e
  (a4r a5e b.typeIs entry_tuple_getitem ?_ (args_tuple_getitem _ _)))
 show wpAny _ _ (Builtin.Tuple.tupleItemsOf (.ref t) >>= _) _ _ s;refine a3W (tupleItemsOf_ b ?_);refine a3W (a4D e ?_);rw[a3Y (by decide)];refine a3W (iW hs pl j ?_);have f:¬ ((((sIx items.size 0 lo:Nat):Int)==0&&(1:Int)==1&&(sIx items.size items.size hi-sIx items.size 0 lo)==items.size)=true):=by
  intro q;rw[a6d,a6d]at q;have o:((sIx items.size 0 lo:Nat):Int)=0:=eq_of_beq q.1.1;have p:sIx items.size items.size hi-sIx items.size 0 lo=items.size:=eq_of_beq q.2;exact k ⟨by lia,by lia⟩
 show wpAny _ _ (if(((sIx items.size 0 lo:Nat):Int)==0&&(1:Int)==1&&(sIx items.size items.size hi-sIx items.size 0 lo)==items.size)=true then _ else _) _ _ s;rw[a3Z f,bM3]
 first
  | exact a3W (m:=Builtin.Tuple.tupleExact _) (a4n (a3X ⟨_,rfl,a3X h⟩) a)
  | exact a3W (m:=Builtin.Tuple.tupleExact _) (a4n (a3W (a3X (a3X ⟨_,rfl,a3X h⟩))) a)
  | exact a3W (a3W (m:=Builtin.Tuple.tupleExact _) (a4n (a3X (a3X ⟨_,rfl,a3X h⟩)) a))
  | exact a3W (a3W (m:=Builtin.Tuple.tupleExact _) (a4n (a3X ⟨_,rfl,a3X h⟩) a))
end
end HT
namespace L2
open PySem PySem.Spec PyProof.Rows
abbrev TO:=St->Hp->(Option Int->Hp->Prop)->Prop
def PO(X:Cx)(e:Option Expr)(t:TO):Prop:=
 ∀ (pins:List (Addr×Obj)) (s:Shared) (σ:St) (H:Hp) (Q:Option Int->Hp->Prop),Inv X pins σ H s->t σ H Q ->
   wpAny (model X.prog X.w) X.A (evalPart e X.env) (λu s'=>∃ o H',Inv X pins σ H' s'/\IsPart u o/\Q o H') X.xe s
def aU9:TO:=λ_ H Q=>Q none H
def cY2(t:TE):TO:=λσ H Q=>t σ H λx a=>∃ i,x=.int i/\Q (some i) a
def aO2{ns:List Int}:∀ {us:List Value},bN (ns.map V.int) us->IntsAre us ns:=by
 induction ns with
 | nil=>intro us r;rw[List.map_nil]at r;cases r;exact .nil
 | cons n ns a=>
   intro us r;rw[a6e]at r;cases r with
   | cons b c=>
     obtain⟨t,e⟩:=b;subst e;exact .cons n t (a c)
section
variable{X:Cx}{e:Expr}{te:TE}{lo hi:Option Expr}{tl th:TO}{pos p2:Pos}
def nQ:PO X none aU9:=by
 intro pins s σ H Q I h;rw[evalPart_none];exact a3X ⟨none,H,I,.none,h⟩
def nR(h:PE X e te):PO X (some e) (cY2 te):=by
 intro pins s σ H Q I a;rw[evalPart_some];refine thn (h pins s σ H _ I a) λu s1 Z0=>?_;obtain⟨x,b,c,d,f⟩:=Z0;obtain⟨i,rfl,q⟩:=f;obtain⟨t,rfl⟩:=d;exact⟨some i,b,c,.int i t,q⟩
def SlR(X:Cx)(r:V->Option Int->Option Int->Hp->VK->Prop):Prop:=
 ∀ (pins:List (Addr×Obj)) (s:Shared) (σ:St) (H:Hp) (x:V) (v a b:Value) (lo hi:Option Int) (sl:Addr) (Q:VK),Inv X pins σ H s->dM x v->s.heap.IsSliceOf sl a b .none->IsPart a lo->IsPart b hi->r x lo hi H Q ->
   ∃ T id,typeLookup (.type T) "__getitem__"=pure (some (.builtin id))/\s.TypeIs v T/\wpAny (model X.prog X.w) X.A (getItem v (.ref sl)) (EP X pins σ Q) X.xe s
def tSl(r:V->Option Int->Option Int->Hp->VK->Prop)(te:TE)(tl th:TO):TE:=λσ H Q=>te σ H λx a=>tl σ a λl b=>th σ b λu c=>r x l u c Q
def kA{r:V->Option Int->Option Int->Hp->VK->Prop}(hr:SlR X r)(g:PE X e te)(hl:PO X lo tl)(i:PO X hi th):PE X (.Subscript e (.Slice lo hi none p2) pos) (tSl r te tl th):=by
 intro pins s σ H Q I h;refine Subscript_ (thn (g pins s σ H _ I h) λv s1 Z0=>?_);obtain⟨x,j,k,m,n⟩:=Z0;refine wpAny_Slice (thn (hl pins s1 σ j _ k n) λc s2 ⟨l,o,p,pl,t⟩=>thn (i pins s2 σ o _ p t) λd a ⟨u,f,y,z,B⟩=>?_);rw[evalPart_none];refine a3X ?_;have C:Inv X pins σ f {a with heap:=a.heap.push {cls:=.type "slice",data:=.fields #[c,d,.none]}}:=y.kept (t':=a.toks) λb ob q=>a2a _ q;obtain⟨T,id,D,E,F⟩:=hr pins {a with heap:=a.heap.push {cls:=.type "slice",data:=.fields #[c,d,.none]}} σ f x v c d l u a.heap.objs.size Q C m (Heap.IsSliceOf.new ..) pl z B;show wpAny (model X.prog X.w) X.A (subscriptTail e (.Slice lo hi none p2) v (.ref a.heap.objs.size)) (EP X pins σ Q) X.xe {a with heap:=a.heap.push {cls:=.type "slice",data:=.fields #[c,d,.none]}};exact tail_any (ops:=[.ref a.heap.objs.size,v]) E D F (by with_unfolding_all rfl)
noncomputable def pS(xs:List V)(lo hi:Option Int):List V:=(xs.drop (HT.sIx xs.length 0 lo)).take (HT.sIx xs.length xs.length hi-HT.sIx xs.length 0 lo)
def qK(xs:List V)(lo hi:Option Int):(pS xs lo hi).length<=xs.length:=by
 unfold pS;rw[a3d,a0i];lia
def dT8(K:W.Frag):V->Option Int->Option Int->Hp->VK->Prop:=λx lo hi H Q=>∃ a xs,x=.ref a/\SqT K H a xs /\
 ¬ (HT.sIx xs.length 0 lo=0/\HT.sIx xs.length xs.length hi=xs.length)/\∀ p,H p=none->Q (.ref p) (upd H p (.tup (pS xs lo hi)))
def cY3:SlR X (dT8 X.K):=by
 intro pins s σ H x v k l lo hi sl Q I f hs pl g h;obtain⟨a,xs,rfl,i,j,q⟩:=h;cases f;obtain⟨its,r,d,e⟩:=I.tuple i;have c:its.toArray.size=xs.length:=by rw[a8a];exact r.length.symm
 refine⟨"tuple",_,a5e.lookup,d.typeIs,?_⟩;refine HT.getItem_tuple_cut d hs pl g (by rw[c];exact j) ?_ (by rw[c];exact e);rw[c];refine⟨.ref s.heap.objs.size,_,I.laid (t':=s.toks) (o:=.tup (pS xs lo hi)) (λb ob q=>a2a _ q) (a4a _) ?_,rfl,q _ (I.hok.fresh (a4a _))⟩;exact⟨a8b (qK xs lo hi) e,_,(r.drop (HT.sIx xs.length 0 lo)).take (HT.sIx xs.length xs.length hi-HT.sIx xs.length 0 lo),IsTup.new _ _,⟨_,a0b _ rfl,rfl⟩⟩
def dM6(K:W.Frag):R2:=λx y H Q=>∃ a b xs ys,x=.ref a/\y=.ref b/\SqT K H a xs/\SqT K H b ys/\xs≠[]/\xs.length+ys.length<=sizeLine /\
 (ys=[]->Q (.ref a) H)/\(ys≠[]->∀ p,H p=none->Q (.ref p) (upd H p (.tup (xs++ys))))
def bN.nil_iff{xs:List V}{us:List Value}(r:bN xs us):us=[]↔xs=[]:=by
 cases r with
 | nil=>simp
 | cons _ _=>simp
def cG8:OpR X (binaryOp .Add) (dM6 X.K):=by
 intro pins s σ H x y v u Q I g i h;obtain⟨a,b,xs,ys,rfl,rfl,ha,j,k,e,l,m⟩:=h;cases g;cases i;obtain⟨its,d,n,_⟩:=I.tuple ha;obtain⟨f,c,p2,_⟩:=I.tuple j;refine HT.cat_tup n p2 (λz=>k (d.nil_iff.mp z)) (λz=>⟨.ref a,H,I,rfl,l (c.nil_iff.mp z)⟩) (λz=>?_) (by rw[← d.length,← c.length];exact e);refine⟨.ref s.heap.objs.size,_,I.laid (t':=s.toks) (o:=.tup (xs++ys)) (λb ob q=>a2a _ q) (a4a _) ?_,rfl,m (λw=>z (c.nil_iff.mpr w)) _ (I.hok.fresh (a4a _))⟩;exact⟨by rw[a0c];exact e,_,d.append c,IsTup.new _ _,⟨_,a0b _ rfl,rfl⟩⟩
end
noncomputable def ixN(n:Nat)(i:Int):Option Nat:=if 0<=i then(if i < n then some i.toNat else none)else if -(n:Int)<=i then some (i+n).toNat else none
noncomputable def atI{α:Type}(xs:List α)(i:Int):Option α:=(ixN xs.length i).bind λj=>xs[j]?
def aA2{n:Nat}{i:Int}{j:Nat}(h:ixN n i=some j):seqIndex? i n=some j/\j < n /\ -(n:Int)<=i/\i < n:=by
 unfold ixN at h;by_cases h0:0<=i;rw[a3Y h0]at h;by_cases a:i < n;rw[a3Y a]at h;have e:i.toNat=j:=a5a h;exact⟨by rw[seqIndex_of h0 a,e],by lia,by lia,a⟩;rw[a3Z a]at h;cases h;rw[a3Z h0]at h;by_cases a:-(n:Int)<=i;rw[a3Y a]at h;have e:(i+n).toNat=j:=a5a h;exact⟨by rw[seqIndex_neg (by lia) a,e],by lia,a,by lia⟩;rw[a3Z a]at h;cases h
def uO{a:Type}{xs:List a}{i:Int}{v:a}(h:atI xs i=some v):∃ j,seqIndex? i xs.length=some j/\xs[j]? = some v/\j < xs.length /\ -(xs.length:Int)<=i/\i < xs.length:=by
 unfold atI at h;cases e:ixN xs.length i with
 | none=>rw[e]at h;cases h
 | some j=>
   rw[e]at h;obtain⟨b,c,d,f⟩:=aA2 e;exact⟨j,b,h,c,d,f⟩
def aV0{a:Type}{xs:List a}{j:Nat}{v:a}(h:xs[j]? = some v):atI xs (j:Int)=some v:=by
 have b:j < xs.length:=(a3a.mp h).1;have e:ixN xs.length (j:Int)=some j:=by
  unfold ixN;rw[a3Y (by lia),a3Y (by lia)];simp
 unfold atI;rw[e];exact h
def aV1(b:Expr):Prop:=∀ o i,subscripted b false o i=operate [o,i] (getItem o i)
def IxR(X:Cx)(r:R2):Prop:=
 ∀ (b a:Expr) (pins:List (Addr×Obj)) (s:Shared) (σ:St) (H:Hp) (x y:V) (v u:Value) (Q:VK),Inv X pins σ H s->dM x v->dM y u->r x y H Q ->
   subscripted a false v u=operate [v,u] (getItem v u)->wpAny (model X.prog X.w) X.A (subscriptTail b a v u) (EP X pins σ Q) X.xe s
def MtR(X:Cx)(id:String)(r:V->List V->Hp->VK->Prop):Prop:=
 ∀ (pins:List (Addr×Obj)) (s:Shared) (σ:St) (H:Hp) (x:V) (xs:List V) (v:Value) (us:List Value) (Q:VK),Inv X pins σ H s->dM x v->bN xs us->r x xs H Q ->
   wpAny (model X.prog X.w) X.A (call (.builtin id) (v::us)) (EP X pins σ Q) X.xe s
section
variable{X:Cx}{a b:Expr}{ta tb:TE}{pos:Pos}
def jC{r:R2}(hr:IxR X r)(ha:PE X a ta)(c:PE X b tb)(hs:aV1 b):PE X (.Subscript a b pos) (tOp r ta tb):=by
 intro pins s σ H Q I h;exact Subscript_ (dM1 ha c I h λv u s2 x y d e f g q=>hr a b pins s2 σ d x y v u Q e f g q (hs _ _))
def dT9(K:W.Frag):R2:=λx y H Q=>∃ p xs i v,x=.ref p/\y=.int i/\SqL K H p xs/\atI xs i=some v/\Q v H
def dU0(K:W.Frag):R2:=λx y H Q=>∃ p xs i v,x=.ref p/\y=.int i/\SqT K H p xs/\atI xs i=some v/\Q v H
def dU1:R2:=λx y H Q=>∃ z i c,x=.str z/\y=.int i/\z.length<=sizeLine/\atI z.cps.toList i=some c/\Q (.str ⟨#[c]⟩) H
def cG9:IxR X (dT9 X.K):=by
 intro b c pins s σ H x y v u Q I g k h hs;obtain⟨p,xs,i,z,rfl,rfl,l,m,q⟩:=h;cases g;obtain⟨t,rfl⟩:=k;obtain⟨its,r,pl,B⟩:=I.list l;obtain⟨j,a,n,C,o,A⟩:=uO m;obtain⟨w,f,d⟩:=r.get n;have hl:=r.length;have hn:=oH;have fin:EP X pins σ Q w s:=⟨z,H,I,d,q⟩;by_cases h0:0<=i
 ·have e:i.toNat=j:=by
   rw[seqIndex_of h0 A]at a;exact a5a a
  exact item_listR pl.isList h0 (by lia) (by rw[e];simpa using f) fin hs
 ·have e:(i+(its.toArray.size:Int)).toNat=j:=by
   rw[seqIndex_neg (by lia) o]at a;rw[a8a,← hl];exact a5a a
  exact subscriptTail_builtinR (x:=w) pl.isList.typeIs slot_list_getitem.lookup
   (wpAny_getItem_list_neg (Q:=λr s'=>r=w/\EP X pins σ Q r s') pl.isList (by lia) (by rw[a8a]<;>lia) (by lia) (by rw[e];simpa using f) ⟨rfl,fin⟩) hs
def cY4:IxR X (dU0 X.K):=by
 intro a b pins s σ H x y v u Q I d e h hs;obtain⟨p,xs,i,z,rfl,rfl,f,g,q⟩:=h;cases d;obtain⟨t,rfl⟩:=e;obtain⟨its,r,pl,n⟩:=I.tuple f;obtain⟨j,k,l,o,A,B⟩:=uO g;obtain⟨w,m,c⟩:=r.get l;have hl:=r.length;have hn:=oH;have fin:EP X pins σ Q w s:=⟨z,H,I,c,q⟩;exact subscriptTail_builtinR (x:=w) pl.typeIs slot_tuple_getitem.lookup
  (getItem_tuple (j:=j) (Q:=λr s'=>r=w/\EP X pins σ Q r s') pl (by lia) (by lia) (by rw[a8a,← hl];exact k) (by simpa using m) ⟨rfl,fin⟩) hs
def cY5:IxR X dU1:=by
 intro a b pins s σ H x y v u Q I e f h hs;obtain⟨z,i,c,rfl,rfl,p,g,q⟩:=h;obtain⟨t,rfl⟩:=e;obtain⟨r,rfl⟩:=f;obtain⟨j,d,k,w,l,m⟩:=uO g;have hl:z.cps.toList.length=z.length:=by simp[Str.length]
 rw[hl]at d l m;have hn:=oH;exact tail_any (typeIs_str s z t) slot_str_getitem.lookup (getItem_str (c:=c) (by
  have n:decide (i < -(2 ^ 63:Int))=false:=a4k (by lia);have o:decide (i ≥ 2 ^ 63)=false:=a4k (by lia);rw[n,o,Bool.or_false]) (by rw[d];simpa using k) ⟨.str ⟨#[c]⟩,H,I.tok _,⟨_,rfl⟩,q⟩) hs
def aO3(its:List Value)(n j:Nat)(u:Value):Obj.mapSeq (·.setIfInBounds j u) {cls:=.type "list",data:=.seq its.toArray n}={cls:=.type "list",data:=.seq (its.set j u).toArray n}:=by
 simp[Obj.mapSeq]
theorem Inv.lst{pins:List (Addr×Obj)}{σ:St}{H:Hp}{s:Shared}{p:Addr}{xs:List V}(I:Inv X pins σ H s)(h:H p=some (.lst xs)) :
  ∃ (its:List Value) (n:Nat),bN xs its/\s.heap.get? p=some {cls:=.type "list",data:=.seq its.toArray n}/\xs.length<=sizeLine:=by
 obtain⟨z,its,n,r,e⟩:=I.hok p _ h;exact⟨its,n,r,e,z⟩
def Inv.lstUpd{pins:List (Addr×Obj)}{σ:St}{H:Hp}{s:Shared}{p:Addr}{xs ys:List V}{its its':List Value}{n a:Nat}{f:Obj->Obj}(I:Inv X pins σ H s)(h:H p=some (.lst xs))
  (d:s.heap.get? p=some {cls:=.type "list",data:=.seq its.toArray n}) (c:f {cls:=.type "list",data:=.seq its.toArray n}={cls:=.type "list",data:=.seq its'.toArray a}) (r:bN ys its') (hz:ys.length<=sizeLine) (t:Nat) :
  Inv X pins σ (upd H p (.lst ys)) {s with heap:=s.heap.update p f,toks:=t}:=by
 have e:(s.heap.update p f).get? p=some {cls:=.type "list",data:=.seq its'.toArray a}:=by
  rw[a9c f d (by rw[c]<;>rfl),c]
 refine I.write (x:=p) (e:=p) (by rw[h];trivial) (.inl rfl) (λb u g q=>(a4c _ _ (a5d g)).trans q) ⟨_,e⟩ ?_;exact⟨hz,its',a,r,e⟩
def cH0:V->V->V->Hp->(Hp->Prop)->Prop:=λo i v H Q=>∃ p xs k j,o=.ref p/\i=.int k/\H p=some (.lst xs)/\ixN xs.length k=some j/\Q (upd H p (.lst (xs.set j v)))
def uP:dQ8 X cH0:=by
 intro pins s σ H o i v ov y u Q I l ri m h;obtain⟨p,xs,k,j,rfl,rfl,d,w,q⟩:=h;cases l;obtain⟨t,rfl⟩:=ri;obtain⟨its,n,r,b,x⟩:=I.lst d;obtain⟨a,z,e,f⟩:=aA2 w;have hl:=r.length;have hn:=oH;have g:Inv X pins σ (upd H p (.lst (xs.set j v))) {s with heap:=s.heap.update p (Obj.mapSeq (·.setIfInBounds j u))}:=
  I.lstUpd d b (aO3 its n j u) (r.set m j) (by rw[a9f];exact x) s.toks
 by_cases h0:0<=k
 ·have c:k.toNat=j:=by
   rw[seqIndex_of h0 f]at a;exact a5a a
  exact W.ki_setAt b h0 (by lia) (by rw[a8a,← hl];exact f) (by rw[c];exact⟨_,g,q⟩)
 ·have c:(k+(its.toArray.size:Int)).toNat=j:=by
   rw[seqIndex_neg (by lia) e]at a;rw[a8a,← hl];exact a5a a
  exact W.ki_setBack b (by lia) (by rw[a8a,← hl];exact e) (by lia) (by rw[c];exact⟨_,g,q⟩)
def wR(lo hi:Option Int)(n:Nat):(sliceBounds lo hi none n).1=((HT.sIx n 0 lo:Nat):Int)/\(sliceBounds lo hi none n).2.1=((HT.sIx n n hi:Nat):Int)/\(sliceBounds lo hi none n).2.2=1:=by
 refine⟨?_,?_,rfl⟩
 ·cases lo with
  | none=>simp[sliceBounds,HT.sIx]
  | some i=>
    simp only[sliceBounds,HT.sIx,Option.getD_none,show(1:Int) > 0 by decide,if_true];by_cases h:i < 0;simp only[h,if_true]<;>lia;simp only[h,if_false]<;>lia
 ·cases hi with
  | none=>simp[sliceBounds,HT.sIx]
  | some i=>
    simp only[sliceBounds,HT.sIx,Option.getD_none,show(1:Int) > 0 by decide,if_true];by_cases h:i < 0;simp only[h,if_true]<;>lia;simp only[h,if_false]<;>lia
def uQ(its:List Value)(lo hi:Option Int):slicePick its.toArray lo hi none=((its.drop (HT.sIx its.length 0 lo)).take (HT.sIx its.length its.length hi-HT.sIx its.length 0 lo)).toArray:=by
 obtain⟨a,b,c⟩:=wR lo hi its.toArray.size;unfold slicePick;rw[a,b,c];simp only[sliceRange_one,pick_run,List.size_toArray]<;>rfl
def dU2(K:W.Frag):V->Option Int->Option Int->Hp->VK->Prop:=λx lo hi H Q=>∃ a xs,x=.ref a/\SqL K H a xs/\∀ p,H p=none->Q (.ref p) (upd H p (.lst (pS xs lo hi)))
def cH1:SlR X (dU2 X.K):=by
 intro pins s σ H x v j k lo hi sl Q I e hs pl f h;obtain⟨a,xs,rfl,g,q⟩:=h;cases e;obtain⟨its,r,d,i⟩:=I.list g;have c:=r.length;refine⟨"list",_,slot_list_getitem.lookup,d.isList.typeIs,?_⟩;refine wpAny_getItem_list_slice d.isList hs pl f .none (by simp) ?_ (by rw[List.size_toArray]<;>lia);rw[uQ,← c];refine⟨.ref s.heap.objs.size,_,I.laid (t':=s.toks) (o:=.lst (pS xs lo hi)) (λb ob q=>a2a _ q) (a4a _) ?_,rfl,q _ (I.hok.fresh (a4a _))⟩;exact⟨a8b (qK xs lo hi) i,_,0,(r.drop (HT.sIx xs.length 0 lo)).take (HT.sIx xs.length xs.length hi-HT.sIx xs.length 0 lo),a0b _ rfl⟩
noncomputable def qL:V->Bool
 | .non=>true
 | .bl _=>true
 | .int _=>true
 | .str _=>true
 | _=>false
noncomputable def eqV:V->V->Bool
 | .non,.non=>true
 | .bl a,.bl b=>a==b
 | .bl a,.int b=>(if a then 1 else 0)==b
 | .int a,.bl b=>a==(if b then 1 else 0)
 | .int a,.int b=>a==b
 | .str a,.str b=>a==b
 | _,_=>false
def cY6{A:Around}{s:Shared}{y x:V}{u v:Value}(e:dM y u)(c:dM x v)(g:qL y=true)(f:qL x=true):SeqAt.EqAt A s u v (eqV y x):=by
 cases y with
 | non=>
   cases e;cases x with
   | non=>cases c;exact SeqAt.EqAt.same _
   | bl b=>cases c;exact SeqAt.EqAt.none_bool b
   | int b=>obtain⟨t,rfl⟩:=c;exact SeqAt.EqAt.none_int b t
   | str b=>obtain⟨t,rfl⟩:=c;exact SeqAt.EqAt.none_str b t
   | _=>exact absurd (show false=true from f) a1b
 | bl a=>
   cases e;cases x with
   | non=>cases c;exact SeqAt.EqAt.bool_none a
   | bl b=>cases c;exact SeqAt.EqAt.bool_bool a b
   | int b=>obtain⟨t,rfl⟩:=c;exact SeqAt.EqAt.bool_int a b t
   | str b=>obtain⟨t,rfl⟩:=c;exact SeqAt.EqAt.bool_str a b t
   | _=>exact absurd (show false=true from f) a1b
 | int a=>
   obtain⟨d,rfl⟩:=e;cases x with
   | non=>cases c;exact SeqAt.EqAt.int_none a d
   | bl b=>cases c;exact SeqAt.EqAt.int_bool a d b
   | int b=>obtain⟨t,rfl⟩:=c;exact SeqAt.EqAt.int_int a d b t
   | str b=>obtain⟨t,rfl⟩:=c;exact SeqAt.EqAt.int_str a d b t
   | _=>exact absurd (show false=true from f) a1b
 | str a=>
   obtain⟨d,rfl⟩:=e;cases x with
   | non=>cases c;exact SeqAt.EqAt.str_none a d
   | bl b=>cases c;exact SeqAt.EqAt.str_bool a d b
   | int b=>obtain⟨t,rfl⟩:=c;exact SeqAt.EqAt.str_int a d b t
   | str b=>obtain⟨t,rfl⟩:=c;exact SeqAt.EqAt.str_str a d b t
   | _=>exact absurd (show false=true from f) a1b
 | _=>exact absurd (show false=true from g) a1b
noncomputable def eqU(x:V)(u:Value):Bool:=match u with
 | .none=>eqV .non x
 | .bool b=>eqV (.bl b) x
 | .int i _=>eqV (.int i) x
 | .str z _=>eqV (.str z) x
 | _=>false
def bY4{x y:V}{u:Value}(r:dM y u)(f:qL y=true):eqU x u=eqV y x:=by
 cases y with
 | non=>cases r;rfl
 | bl b=>cases r;rfl
 | int i=>obtain⟨t,rfl⟩:=r;rfl
 | str z=>obtain⟨t,rfl⟩:=r;rfl
 | _=>exact absurd (show false=true from f) a1b
theorem aA3{x:V}:∀ {xs:List V} {us:List Value},bN xs us->xs.all qL=true->us.any (eqU x)=xs.any λy=>eqV y x
 | _,_,.nil,_=>rfl
 | y::xs,u::us,.cons r t,f=>by
   rw[List.all_cons,a6d]at f;rw[List.any_cons,List.any_cons,bY4 r f.1,aA3 t f.2]
theorem uR{A:Around}{s:Shared}{x:V}{v:Value}(b:dM x v)(c:qL x=true):∀ {xs:List V} {us:List Value},bN xs us->xs.all qL=true->∀ u∈us,SeqAt.EqAt A s u v (eqU x u)
 | _,_,.nil,_=>λu a=>by cases a
 | y::xs,u::us,.cons r t,f=>λd a=>by
   rw[List.all_cons,a6d]at f;rcases a5b.mp a with rfl | a;rw[bY4 r f.1];exact cY6 r b f.1 c;exact uR b c t f.2 d a
noncomputable def inV(x:V)(xs:List V):Bool:=xs.any λy=>eqV y x
def rIn(K:W.Frag)(neg:Bool):R2:=λx y H Q=>∃ p xs,y=.ref p/\(SqL K H p xs\/SqT K H p xs)/\qL x=true/\xs.all qL=true/\Q (.bl (if neg then !inV x xs else inV x xs)) H
def aV2:OpR X (compareOp .In) (rIn X.K false):=by
 intro pins s σ H x y v u Q I c e h;obtain⟨p,xs,rfl,a,d,fs,q⟩:=h;cases e;rcases a with a | a;obtain⟨its,r,pl,f⟩:=I.list a;refine SeqAt.in_listAt (eqU x) pl.isList (λw b=>uR c d r fs w (by simpa using b)) ⟨.bl _,H,I,rfl,?_⟩;rw[show its.toArray.any (eqU x)=its.any (eqU x) by simp,aA3 r fs];exact q;obtain⟨its,r,pl,f⟩:=I.tuple a;refine SeqAt.in_tupleAt (eqU x) pl (λw b=>uR c d r fs w (by simpa using b)) ⟨.bl _,H,I,rfl,?_⟩;rw[show its.toArray.any (eqU x)=its.any (eqU x) by simp,aA3 r fs];exact q
def oK:kP X (.builtin "len") (λxs H Q=>∃ p ys,xs=[.ref p]/\(SqL X.K H p ys\/SqT X.K H p ys)/\Q (.int ys.length) H):=by
 intro pins s σ H xs us Q I r h;obtain⟨p,ys,rfl,b,q⟩:=h;obtain⟨u,rfl,d⟩:=aA1 r;cases d;have hn:=oH;rcases b with b | b;obtain⟨its,c,pl,e⟩:=I.list b;have a:=c.length;exact Calls.call_len_list pl.isList (by simp only[List.size_toArray]<;>lia) ⟨.int ys.length,H,I.tok _,⟨s.toks+1,by rw[a8a,a]⟩,q⟩;obtain⟨its,c,pl,e⟩:=I.tuple b;have a:=c.length;exact len_tuple pl (by simp only[List.size_toArray]<;>lia) ⟨.int ys.length,H,I.tok _,⟨s.toks+1,by rw[a8a,a]⟩,q⟩
def wS:kP X (.builtin "len") (λxs H Q=>∃ z,xs=[.str z]/\z.length<=sizeLine/\Q (.int z.length) H):=by
 intro pins s σ H xs us Q I r h;obtain⟨z,rfl,a,q⟩:=h;obtain⟨u,rfl,t,rfl⟩:=aA1 r;have hn:=oH;exact len_str (by lia) ⟨.int z.length,H,I.tok _,⟨_,rfl⟩,q⟩
def oM:kP X (.type "list") (λxs H Q=>∃ p ys,xs=[.ref p]/\(SqL X.K H p ys\/SqT X.K H p ys)/\∀ l,H l=none->Q (.ref l) (upd H l (.lst ys))):=by
 intro pins s σ H xs us Q I r h;obtain⟨p,ys,rfl,d,q⟩:=h;obtain⟨u,rfl,k⟩:=aA1 r;cases k;have fin:∀ (its:List Value),bN ys its->ys.length<=sizeLine->∀ (h':Heap) (a:Nat),(∀ b o',s.heap.get? b=some o'->h'.get? b=some o') ->
   h'.get? s.heap.objs.size=some {cls:=.type "list",dict:=none,data:=.seq its.toArray a,slots:=#[]}->EP X pins σ Q (.ref s.heap.objs.size) {s with heap:=h'}:=λits c f h' a kp e=>
  ⟨.ref s.heap.objs.size,_,I.laid (t':=s.toks) kp (a4a _) (show dD X.prog X.w _ h' _ (.lst ys)from⟨f,its,a,c,e⟩),rfl,q _ (I.hok.fresh (a4a _))⟩
 rcases d with d | d;obtain⟨its,c,pl,f⟩:=I.list d;have g:=c.length;obtain⟨o,i,j,n,hd⟩:=pl.isList;exact call_list_seq p (.inl rfl) i j hd (λh' a kp e=>fin its c f h' a kp e) (by simp only[List.size_toArray]<;>lia);obtain⟨its,c,pl,f⟩:=I.tuple d;have g:=c.length;obtain⟨o,i,j,n,hd⟩:=pl;exact call_list_seq p (.inr rfl) i j hd (λh' a kp e=>fin its c f h' a kp e) (by simp only[List.size_toArray]<;>lia)
def lO:kP X (.type "tuple") (λxs H Q=>∃ p ys,xs=[.ref p]/\((SqL X.K H p ys/\∀ l,H l=none->Q (.ref l) (upd H l (.tup ys)))\/(SqT X.K H p ys/\Q (.ref p) H))):=by
 intro pins s σ H xs us Q I r h;obtain⟨p,ys,rfl,h⟩:=h;obtain⟨u,rfl,i⟩:=aA1 r;cases i;rcases h with⟨a,q⟩ | ⟨a,q⟩
 ·obtain⟨its,c,pl,d⟩:=I.list a;have f:=c.length;refine call_tuple_list pl.isList (λh' kp=>?_) (by simp only[List.size_toArray]<;>lia);have g:Inv X pins σ H {s with heap:=h'}:=I.kept (t':=s.toks) kp;have j:Inv X pins σ (upd H h'.objs.size (.tup ys)) {s with heap:=h'.push {cls:=.type "tuple",data:=.seq its.toArray}}:=
   g.laid (t':=s.toks) (λb o e=>a2a _ e) (a4a _) (show dD X.prog X.w _ _ _ (.tup ys)from⟨d,its,c,IsTup.new _ _,⟨_,a0b _ rfl,rfl⟩⟩)
  exact⟨.ref h'.objs.size,_,j,rfl,q _ (g.hok.fresh (a4a _))⟩
 ·obtain⟨its,c,pl,d⟩:=I.tuple a;exact call_tuple_same pl ⟨.ref p,H,I,rfl,q⟩
def tyV(K:W.Frag)(T:String)(x:V)(H:Hp):Prop:=match x with
 | .str _=>T="str"
 | .int _=>T="int"
 | .ref p=>(T="list"/\∃ xs,SqL K H p xs)\/(T="tuple"/\∃ o,K.lookup p=some o/\o.cls=.type "tuple"/\o.dict=none) \/
   (T="dict"/\((∃ kvs,H p=some (.dK kvs))\/∃ kvs,H p=some (.dT kvs)))\/(T="set"/\∃ S n,H p=some (.set S n))
 | _=>False
def bY5{pins:List (Addr×Obj)}{σ:St}{H:Hp}{s:Shared}{T:String}{x:V}{v:Value}(I:Inv X pins σ H s)(r:dM x v)(ty:tyV X.K T x H) :
  s.TypeIs v T/\∀ a,v=.ref a->∃ ob,s.heap.get? a=some ob/\ob.dict=none:=by
 cases x with
 | str z=>
   obtain⟨t,rfl⟩:=r;cases (show T="str" from ty);exact⟨typeIs_str s z t,λ_ e=>nomatch e⟩
 | int i=>
   obtain⟨t,rfl⟩:=r;cases (show T="int" from ty);exact⟨typeIs_int s i t,λ_ e=>nomatch e⟩
 | ref p=>
   cases r;rcases ty with⟨rfl,xs,f⟩ | ⟨rfl,o,b,g,hd⟩ | ⟨rfl,b⟩ | ⟨rfl,S,n,b⟩;obtain⟨its,_,pl,_⟩:=I.list f;refine⟨pl.isList.typeIs,λa e=>?_⟩;cases e;obtain⟨o,n,e,c,hd,_⟩:=pl;exact⟨o,e,hd⟩;refine⟨⟨o,I.kIn p o b,g⟩,λa e=>?_⟩;cases e;exact⟨o,I.kIn _ o b,hd⟩
   ·have z:∃ o,s.heap.get? p=some o/\o.ExactDict:=by
     rcases b with⟨kvs,b⟩ | ⟨kvs,b⟩;obtain⟨_,_,_,_,o,_,_,e,ex,_⟩:=I.hok p _ b;exact⟨o,e,ex⟩;obtain⟨_,_,_,_,o,_,_,e,ex,_⟩:=I.hok p _ b;exact⟨o,e,ex⟩
    obtain⟨o,e,ex⟩:=z;refine⟨⟨o,e,ex.1⟩,λa d=>?_⟩;cases d;exact⟨o,e,ex.2.1⟩
   ·obtain⟨o,_,_,_,e,ex,_⟩:=I.hok p _ b;refine⟨⟨o,e,ex.1⟩,λa d=>?_⟩;cases d;exact⟨o,e,ex.2.1⟩
 | _=>exact False.elim ty
def dK2(K:W.Frag)(T:String)(r:V->List V->Hp->VK->Prop)(to:TE):TE:=λσ H Q=>to σ H λx a=>tyV K T x a/\r x [] a Q
def tBM(K:W.Frag)(T:String)(r:V->List V->Hp->VK->Prop)(to:TE)(t:TA):TE:=λσ H Q=>to σ H λx a=>tyV K T x a/\t σ a λxs b=>r x xs b Q
variable{o e:Expr}{es:List Expr}{to:TE}{t:TA}{name:Str}{apos cpos:Pos}{T id:String}{r:V->List V->Hp->VK->Prop}
def cY7(f:PlainAttrs T)(slot:Slot T name id)(c:typeOf (.builtin id)=pure (.type "method_descriptor"))(hm:MtR X id r)(g:PE X o to)
  (a:attributeBase o name X.env (eval o X.env)=eval o X.env:=by rfl) (b:(apos.endLine==cpos.line)=true:=by rfl):PE X (.Call (.Attribute o name apos) [] [] cpos) (dK2 X.K T r to):=by
 intro pins s σ H Q I h;refine wpAny_Call_method0_late a b (thn (g pins s σ H _ I h) λv s1 Z0=>?_);obtain⟨x,i,d,e,ty,j⟩:=Z0;obtain⟨k,l⟩:=bY5 d e ty;exact⟨T,id,f,slot,c,k,l,Calls.callWith_builtin rfl (PySem.evalArgs_none (hm pins s1 σ i x [] v [] Q d e .nil j))⟩
def dM7(k:PlainAttrs T)(slot:Slot T name id)(f:typeOf (.builtin id)=pure (.type "method_descriptor"))(hm:MtR X id r)(l:PE X o to)(ha:PA X (e::es) t)
  (b:attributeBase o name X.env (eval o X.env)=eval o X.env:=by rfl)
  (d:((backTo cpos (starEach (e::es) X.env)).all (λx=>!x.1)&&(backToKw cpos (keywordEach [] X.env)).all (λx=>x.1.isSome)
   && decide ((e::es).length+([]:List Keyword).length+(if([]:List Keyword).isEmpty then 0 else 1) < 30))=true:=by rfl)
  (c:(apos.endLine==cpos.line)=true:=by rfl) (hs:starEach (e::es) X.env=(false,eval e X.env)::starEach es X.env:=by rfl) (a:(backTo cpos (starEach es X.env)).any (·.1)=false:=by rfl) :
  PE X (.Call (.Attribute o name apos) (e::es) [] cpos) (tBM X.K T r to t):=by
 intro pins s σ H Q I h;refine wpAny_Call_method_late b d c rfl (thn (l pins s σ H _ I h) λv s1 Z0=>?_);obtain⟨x,m,g,i,ty,n⟩:=Z0;obtain⟨p,q⟩:=bY5 g i ty;refine⟨T,id,k,slot,f,p,q,?_⟩;have j:=ha cpos pins s1 σ m _ g n;rw[hs]at j ⊢;refine Calls.callWith_builtin (by show(false||(backTo cpos (starEach es X.env)).any (·.1))=false;rw[a]<;>rfl) (Calls.evalArgs_plain ?_);exact thn j λus s2 ⟨vs,u,w,y,z⟩=>hm pins s2 σ u x vs v us Q w i y z
end
def MtM(X:Cx)(id:String)(r:V->List V->Hp->VK->Prop):Prop:=
 ∀ (pins:List (Addr×Obj)) (s:Shared) (σ:St) (H:Hp) (x:V) (xs:List V) (v:Value) (us:List Value) (Q:VK),Inv X pins σ H s->dM x v->bN xs us->r x xs H Q ->
   wpAny (model X.prog X.w) X.A (call (.builtin id) (v::us)) (EP X pins σ Q) X.xe s
def bN.one:∀ {x:V} {us:List Value},bN [x] us->∃ u,us=[u]/\dM x u
 | _,_,.cons r .nil=>⟨_,rfl,r⟩
def bN.two:∀ {x y:V} {us:List Value},bN [x,y] us->∃ u v,us=[u,v]/\dM x u/\dM y v
 | _,_,_,.cons r (.cons q .nil)=>⟨_,_,rfl,r,q⟩
def bN.zero:∀ {us:List Value},bN [] us->us=[]
 | _,.nil=>rfl
theorem bN.dropLast{xs:List V}{us:List Value}(h:bN xs us):bN xs.dropLast us.dropLast:=by
 induction h with
 | nil=>exact .nil
 | cons r t a=>
   cases t with
   | nil=>exact .nil
   | cons q b=>exact .cons r a
theorem bN.eraseIdx:∀ {xs:List V} {us:List Value} (i:Nat),bN xs us->bN (xs.eraseIdx i) (us.eraseIdx i)
 | _,_,_,.nil=>.nil
 | _,_,0,.cons _ t=>t
 | _,_,i+1,.cons r t=>.cons r (bN.eraseIdx i t)
def aO4{c:Type}(l:List c):l.eraseIdx (l.length-1)=l.dropLast:=by
 induction l with
 | nil=>rfl
 | cons a r d=>
   cases r with
   | nil=>rfl
   | cons b r=>
     have e:(a::b::r).length-1=((b::r).length-1)+1:=by
      have f:(a::b::r).length=r.length+2:=rfl;have g:(b::r).length=r.length+1:=rfl;lia
     rw[e,List.eraseIdx_cons_succ,d]
     all_goals rfl
theorem lP{a:Type}:∀ (l:List a) (i:Nat),(l.eraseIdx i).length<=l.length
 | [],_=>a4a _
 | _::_,0=>Nat.le_succ _
 | _::r,i+1=>Nat.succ_le_succ (lP r i)
section
variable{X:Cx}{pins:List (Addr×Obj)}{σ:St}{H:Hp}{s:Shared}{l b:Addr}{xs ys zs:List V}
def Inv.lset{its its':List Value}{n:Nat}{f:Array Value->Array Value}{t':Nat}(I:Inv X pins σ H s)(a:H l=some (.lst xs))
  (e:s.heap.get? l=some {cls:=.type "list",data:=.seq its.toArray n}) (b:f its.toArray=its'.toArray) (c:bN ys its') (hz:ys.length<=sizeLine) :
  Inv X pins σ (upd H l (.lst ys)) {s with heap:=s.heap.update l (Obj.mapSeq f),toks:=t'}:=by
 have q:=PySem.IsL.update e f;rw[b]at q;refine I.write (x:=l) (e:=l) (by rw[a];exact trivial) (.inl rfl) (λh u d g=>(a4c s.heap (Obj.mapSeq f) (a5d d)).trans g) ⟨_,q⟩ ?_;exact⟨hz,its',_,c,q⟩
def Inv.lnew{its:List Value}{t':Nat}(I:Inv X pins σ H s)(a:bN ys its)(hz:ys.length<=sizeLine) :
  Inv X pins σ (upd H s.heap.objs.size (.lst ys)) {s with heap:=s.heap.push {cls:=.type "list",data:=.seq its.toArray},toks:=t'}:=
 I.laid (λ_ _ q=>a2a _ q) (a4a _) ⟨hz,its,0,a,a0b _ rfl⟩
theorem Inv.fresh(I:Inv X pins σ H s):H s.heap.objs.size=none:=I.hok.fresh (a4a _)
def Inv.lstM(I:Inv X pins σ H s)(a:H l=some (.lst xs)):xs.length<=sizeLine/\∃ (its:List Value) (n:Nat),bN xs its/\xs.length=its.length/\s.heap.get? l=some {cls:=.type "list",data:=.seq its.toArray n}:=by
 obtain⟨z,its,n,r,e⟩:=I.hok l _ a;exact⟨z,its,n,r,r.length,e⟩
def aG8{n:Nat}(h:n<=sizeLine):Builtin.List.listTooLong n=false:=by
 unfold Builtin.List.listTooLong;exact a4k (by lia)
end
section
variable{X:Cx}
def aV3:V->List V->Hp->VK->Prop:=λx vs H Q=>∃ l xs y,x=.ref l/\vs=[y]/\H l=some (.lst xs)/\xs.length < sizeLine/\Q .non (upd H l (.lst (xs++[y])))
def fT:MtM X "list.append" aV3:=by
 intro pins s σ H x vs v us Q I b c h;obtain⟨l,xs,y,rfl,rfl,a,f,q⟩:=h;cases b;obtain⟨u,rfl,d⟩:=c.one;obtain⟨z,its,n,r,hl,e⟩:=I.lstM a;refine a4T F.slot_list_append ⟨_,e,rfl⟩ F.entry_list_append (F.args_list_append_2 _ _) (PySem.list_append l its.toArray n u (by rw[a8a];lia)) ⟨e,?_⟩;refine⟨.non,_,I.lset (its':=its++[u]) a e (by simp) (r.append (.cons d .nil)) ?_,rfl,q⟩;rw[a0c,List.length_singleton];lia
def cH2:V->List V->Hp->VK->Prop:=λx vs H Q=>∃ l b xs zs,x=.ref l/\vs=[.ref b]/\H l=some (.lst xs)/\H b=some (.lst zs)/\xs.length+zs.length<=sizeLine/\Q .non (upd H l (.lst (xs++zs)))
def cY8:MtM X "list.extend" cH2:=by
 intro pins s σ H x vs v us Q I g i h;obtain⟨l,b,xs,zs,rfl,rfl,f,j,t,q⟩:=h;cases g;obtain⟨u,rfl,k⟩:=i.one;cases k;obtain⟨z,its,n,r,hl,e⟩:=I.lstM f;obtain⟨w,a,n2,m,o,p⟩:=I.lstM j;have d:its.toArray.size+a.toArray.size<=sizeLine:=by rw[a8a,a8a];lia
 have c:¬ (!its.toArray.isEmpty&&Builtin.List.listTooLong (its.toArray.size+a.toArray.size))=true:=by
  rw[aG8 d,Bool.and_false];exact a1b
 refine a4T F.slot_list_extend ⟨_,e,rfl⟩ F.entry_list_extend (F.args_list_extend_2 _ _)
  (AutoSeq1.list_extend_list_list_0 l its.toArray n b a.toArray n2 c (by rw[a8a];lia) (by lia)) ⟨e,p,?_⟩
 refine⟨.non,_,I.lset (its':=its++a) f e (by simp) (r.append m) ?_,rfl,q⟩;rw[a0c];lia
def dU3:V->List V->Hp->VK->Prop:=λx vs H Q=>∃ l xs y,x=.ref l/\vs=[]/\H l=some (.lst xs)/\xs[xs.length-1]? = some y/\Q y (upd H l (.lst xs.dropLast))
def cY9:MtM X "list.pop" dU3:=by
 intro pins s σ H x vs v us Q I d f h;obtain⟨l,xs,y,rfl,rfl,c,g,q⟩:=h;cases d;have a:=f.zero;subst a;obtain⟨z,its,n,r,hl,e⟩:=I.lstM c;obtain⟨u,i,j⟩:=r.get g;have b:its.toArray[its.toArray.size-1]? = some u:=by
  show its.toArray[its.length-1]? = some u;rw[← a5c,← hl];exact i
 refine a4T F.slot_list_pop ⟨_,e,rfl⟩ F.entry_list_pop (F.args_list_pop_1 _) (MeetsSeq.list_pop_last l its.toArray n u b (by rw[a8a];lia)) ⟨e,?_⟩;refine⟨y,_,I.lset (its':=its.dropLast) c e ?_ r.dropLast ?_,j,q⟩;show its.toArray.eraseIdxIfInBounds (its.toArray.size-1)=its.dropLast.toArray;rw[a8a,List.eraseIdxIfInBounds_toArray,aO4];rw[List.length_dropLast];lia
def cZ0:V->List V->Hp->VK->Prop:=λx vs H Q=>∃ l xs i k y,x=.ref l/\vs=[.int i]/\H l=some (.lst xs) /\ -(2 ^ 63)<=i/\i < 2 ^ 63/\seqIndex? i xs.length=some k/\xs[k]? = some y/\Q y (upd H l (.lst (xs.eraseIdx k)))
def bM4:MtM X "list.pop" cZ0:=by
 intro pins s σ H x vs v us Q I c d h;obtain⟨l,xs,i,k,y,rfl,rfl,b,f,g,j,m,q⟩:=h;cases c;obtain⟨u,rfl,o⟩:=d.one;obtain⟨t,rfl⟩:=o;obtain⟨z,its,n,r,hl,e⟩:=I.lstM b;obtain⟨w,p,a⟩:=r.get m;refine a4T F.slot_list_pop ⟨_,e,rfl⟩ F.entry_list_pop (F.args_list_pop_2 _ _)
  (MeetsSeq.list_pop_at l its.toArray n i t k w (fitsIndex_both f g) (by rw[a8a,← hl];exact j) (by rw[← a5c];exact p) (by rw[a8a];lia)) ⟨e,?_⟩
 refine⟨y,_,I.lset (its':=its.eraseIdx k) b e ?_ (r.eraseIdx k) ?_,a,q⟩;show its.toArray.eraseIdxIfInBounds k=(its.eraseIdx k).toArray;rw[List.eraseIdxIfInBounds_toArray];have:=lP xs k;lia
def dU4:R2:=λx y H Q=>∃ l b xs zs,x=.ref l/\y=.ref b/\H l=some (.lst xs)/\H b=some (.lst zs)/\xs.length+zs.length<=sizeLine/\∀ p,H p=none->Q (.ref p) (upd H p (.lst (xs++zs)))
def cZ1:OpR X (binaryOp .Add) dU4:=by
 intro pins s σ H x y v u Q I c d h;obtain⟨l,b,xs,zs,rfl,rfl,f,g,o,q⟩:=h;cases c;cases d;obtain⟨z,its,n,r,hl,e⟩:=I.lstM f;obtain⟨p,a,n2,i,j,k⟩:=I.lstM g;refine PySem.P.add_list e k ?_ (by rw[a8a,a8a];lia);have m:its.toArray++a.toArray=(its++a).toArray:=by simp
 rw[m];exact⟨.ref _,_,I.lnew (t':=s.toks) (r.append i) (by rw[a0c];lia),rfl,q _ I.fresh⟩
end
section
variable{prog:Program}{w:World}{A:Around}{E:Value->Shared->Prop}{s:Shared}
set_option maxRecDepth 100000 in
end
section
variable{X:Cx}
end
end L2
namespace Att
open PySem PySem.W PySem.Calls PyProof.Rows
def qM{P:Params}{h:Heap}:∀ (ns:List Int) (vs:List Value),WellAll P h vs (ns.map WData.int)->IntsAre vs ns:=by
 intro ns
 induction ns with
 | nil=>
   intro vs w;rw[List.map_nil]at w;cases w;exact .nil
 | cons n ns c=>
   intro vs w;rw[a6e]at w;cases w with
   | cons a b=>
     cases a;exact .cons _ _ (c _ b)
def aV4{l:OpenLaw}{n:Nat}(hn:l.most=some n){P:Params}{h:Heap}{args:List WData}{vals:List Value}
  (b:l.row.toRowW.claim.pre args=true) (i:WellAll P h vals args) :
  ∃ a vs ns,vals=[Value.ref a]/\args=[WData.list (ns.map WData.int)]/\h.get? a=some {cls:=.type "list",data:=.seq vs.toArray}/\IntsAre vs ns/\ns.length<=n:=by
 have j:WShape.hasAll [] args [.list .int]=true:=(pre_splitW b).1;have k:l.pre.holds [] {args:=args}=true:=(pre_splitW b).2;obtain⟨d,r,rfl,m,o⟩:=hasAllW_cons j;obtain rfl:=hasAllW_nil o;obtain⟨xs,rfl,p⟩:=hasW_list m;obtain⟨ns,rfl⟩:=items_int p;have c:ns.length<=n:=by
  unfold OpenLaw.pre at k;have f:(WTm.not (.lt (.lit (.int (n:Int))) (.len (.arg 0)))).holds [] {args:=[.list (ns.map .int)]}=true:=by
   have f:=(holds_andW k).1;rw[hn]at f;exact f
  have g:=condW_of f (w_not (w_lt w_lit (w_len_list (w_arg rfl))));rw[a1a]at g;refine a6j λq=>?_;have s:(n:Int) < ((ns.length:Nat):Int):=by lia
  first
   | (rw[a4C s]at g;exact absurd g (by decide))
   | (simp at g;lia)
 cases i with
 | cons w1 t=>
   cases t;cases w1 with
   | list u e=>exact⟨_,_,ns,rfl,rfl,u,qM ns _ e,c⟩
def aV5(l:OpenLaw)(args:List WData):l.row.toRowW.claim.post args (.bool true) args=true:=
 postW_of (r:=l.row.toRowW) (X:=(true==true))
  (show WShape.has [] (.bool true) .bool=true by first | rfl | decide | simp[WShape.has,WShape.arms,WShape.armsAll])
  (show(WTm.eq .res (.lit (.bool true))).value [] {args:=args,res:=some (.bool true),after:=args}=some (.bool (true==true))from w_eq_bool (w_res rfl) w_lit) rfl
def attach_call{l:OpenLaw}{n:Nat}{q:Program}{c:List Str}{t:(Str->Option Value)->Heap->Prop}{u:World->Heap->Prop}{d:DefRec}
  (hn:l.most=some n) (k:d.params.defaults=[])
  (call:∀ (w:World) (s₀ b:Shared) (mg mb:Str->Option Value) (g:Addr) (o:Obj) (pm cd doc:Value) (a:Addr) (vs:List Value) (ns:List Int),
   Ground q c [] t w s₀ mg mb b.heap->u w b.heap ->
   b.heap.get? g=some o->o.data=.func (docDef d.name d.params d.body d.scope pm cd doc)->b.heap.CodeRec cd d.name->mg d.name=some (.ref g) ->
   b.heap.get? a=some {cls:=.type "list",data:=.seq vs.toArray}->IntsAre vs ns->ns.length<=n->b.gens=#[] ->
   codeAny (model l.prog w) callerA (.call (.ref g) ⟨[.ref a],[]⟩) (λr s'=>r=.ok (.ret (.bool true))/\OldK b.heap s'.heap/\s'.os=b.os/\AllBare s'.gens) b) :
  WalkO q c t u l.row.toRowW d [] (λf vs=>PySem.call f vs):=by
 intro w s₀ b mg mb G Y g o pm cd doc x kV y hd m hD p z args vals as h v A s B;obtain rfl:x=.none:=Dflts.none hD k;obtain rfl:kV=.none:=Dflts.noKw hD;obtain⟨a,vs,ns,rfl,rfl,i,e,j⟩:=aV4 hn h s;refine enter_call (a4K (call w s₀ b mg mb g o pm cd doc a vs ns G Y y (fd_plain hd) m p i e j z) λr s' C=>?_);obtain⟨rfl,D,E,F⟩:=C;exact⟨.inl ⟨.bool true,.bool true,[],rfl,λ_=>rfl,.bool true,aV5 l _,λ_=>⟨List.Pairwise.nil,λ_ hm=>(nomatch hm)⟩⟩,D,E,F⟩
section
variable{prog:Program}{w:World}{A:Around}{E:Value->Shared->Prop}{s:Shared}{K:Frag}
end
end Att
namespace L2
open PySem PySem.Spec PyProof.Rows
theorem wT:∀ {vs:List Value} {ns:List Int},IntsAre vs ns->bN (ns.map V.int) vs
 | _,_,.nil=>.nil
 | _,_,.cons n t h=>.cons ⟨t,rfl⟩ (wT h)
def cZ2(H:Hp):Prop:=∀ b,H b=none\/∃ o xs,H b=some (.frz o (.lst xs))
def bM5{P:Program}{w:World}{K:W.Frag}{mg mb:Str->Option Value}{CX:CXT}{k:Nat}{I a:Addr}{fd:FuncData}{x:Str}{sp:Sp}{c:Shared}{vs:List Value}{ns:List Int}
  (S:K.In c.heap) (y:c.heap.Ns mainGlobals mg) (g:c.heap.Ns builtinsNs mb) (J:∀ x:Str,x≠"__name__"->mb x=bootBuiltins x) (A:c.heap.NoLimit) (Z:c.gens=#[])
  (ha:c.heap.get? a=some {cls:=.type "list",data:=.seq vs.toArray}) (hi:IntsAre vs ns) (hl:ns.length<=sizeLine) (hr:Room k callerA)
  (F:∀ base:Heap,K.In base->base.Ns mainGlobals mg->FnOk P w K mg base CX k I fd [x] sp) (p:∀ (s:Shared) (u:Value),BindsTo s fd ⟨[u],[]⟩ [(x,u)])
  (L:∀ H:Hp,cZ2 H->SqL K H a (ns.map V.int)->sp [.ref a] H (λv _=>v=.bl true) λ_ _ _=>False)
  (M:∀ H e s',CX [] H c (λ_ _ _=>False) e s'->False) :
  codeAny (model P w) callerA (.call (.ref I) ⟨[.ref a],[]⟩) (λr s'=>r=.ok (.ret (.bool true))/\OldK c.heap s'.heap/\s'.os=c.os/\AllBare s'.gens) c:=by
 have T:=wT hi;have B:=hi.length
 -- from an abstract heap in N nothing but C i may be tracked
 have l:∀ H:Hp,cZ2 H->SqL K H a (ns.map V.int)->HOk P w H c.heap->(∀ b,H b≠none->b=a)->(H a≠none->K.lookup a=none) ->
   codeAny (model P w) callerA (.call (.ref I) ⟨[.ref a],[]⟩) (λr s'=>r=.ok (.ret (.bool true))/\OldK c.heap s'.heap/\s'.os=c.os/\AllBare s'.gens) c:=by
  intro H U hS hok X hK;have f:∀ {b:Addr} {o:Obj},c.heap.get? b=some o->H b=none->(bL4 c.heap H).get? b=some o:=λe n=>bL5 e n;have O:∀ {b:Addr} {o:Obj} {es:Array DictEntry} {ep:Nat},c.heap.get? b=some o->o.data=.dict es ep->H b=none:=λ{b o es ep} e d=>by
   cases q:H b with
   | none=>rfl
   | some u=>
     have Q:b=a:=X b (by rw[q];simp);subst Q;rw[ha]at e;cases e;have d':Data.seq vs.toArray _=Data.dict es ep:=d;cases d'
  have j:∀ {b:Addr} {m:Str->Option Value},c.heap.Ns b m->(bL4 c.heap H).Ns b m:=λ{b m} ⟨o,es,ep,e,d,r⟩=>⟨o,es,ep,f e (O e d),d,r⟩;have D:K.In (bL4 c.heap H):=λb o e=>f (S b o e) (by
   cases q:H b with
   | none=>rfl
   | some u=>
     have Q:b=a:=X b (by rw[q];simp);subst Q;rw[hK (by rw[q];simp)]at e;cases e)
  have hM:Mod K mg (bL4 c.heap H):=⟨D,j y,⟨mb,j g,J⟩,let ⟨mc,h1,h2⟩:=A;⟨mc,j h1,h2⟩⟩;have e0:Env0 P w K mg (bL4 c.heap H) callerA [] c H:=⟨rfl,hM,λb o e=>cF9 e,Nat.le_of_eq (aT1 _ _),trivial,λb g=>absurd (show b∈([]:List Addr)from g) (by simp),hok,.of_eq Z⟩;refine a4K ((F _ D (j y)).run callerA [] c H ⟨[.ref a],[]⟩ [.ref a] [.ref a] _ _ hr e0 (p c (.ref a)) (.cons rfl .nil) (L H U hS)) λr s' h=>?_;cases r with
  | error e=>exact(M H e s' h).elim
  | ok fl=>
    cases fl with
    | next=>exact False.elim h
    | brk=>exact False.elim h
    | cont=>exact False.elim h
    | ret u=>
      obtain⟨v,H',os,bare,un,E,r',q⟩:=h;have q':v=.bl true:=q;subst q';obtain rfl:u=Value.bool true:=r';refine⟨rfl,OldK.of_keep λb o e=>?_,os,bare⟩;cases q:H b with
      | none=>exact un.keep b o e q (by intro z;exact absurd (show b∈([]:List Addr)from z) (by simp)) (by simp)
      | some u=>
        rcases U b with z | ⟨ob,xs,z⟩;rw[q]at z;cases z;have z2:=un.frzs b ob _ z;obtain⟨Y,_⟩:=hok b _ z;obtain⟨e2,_⟩:=E b _ z2;rw[e]at Y;cases Y;exact e2
 cases R:K.lookup a with
 | some o=>
   -- C i is one of C t own objects
   have e:=S a o R;rw[ha]at e;cases e;refine l (λ_=>none) (λ_=>.inl rfl) (.inr ⟨_,vs.toArray,_,R,rfl,rfl,rfl,by rw[a8a,B];exact hl,by simpa using T⟩) (λb u z=>by have G:(none:Option HO)=some u:=z;cases G) (λb z=>absurd rfl z) λz=>absurd rfl z
 | none=>
   refine l (λb=>if b=a then some (.frz {cls:=.type "list",data:=.seq vs.toArray} (.lst (ns.map V.int)))else none) (λb=>?_) (.inl (.inr ⟨{cls:=.type "list",data:=.seq vs.toArray},a3Y rfl⟩)) (λb u z=>?_) (λb z=>?_) λ_=>R;by_cases g:b=a;exact .inr ⟨_,_,a3Y g⟩;exact .inl (a3Z g);by_cases g:b=a;have G:=(a3Y g).symm.trans z;cases G;subst g;exact⟨ha,by rw[a1a];exact hl,vs,_,T,ha⟩;have G:=(a3Z g).symm.trans z;cases G;by_cases g:b=a;exact g;exact absurd (a3Z g) z
def cH3{l:W.OpenLaw}{n k:Nat}{q:Program}{i:List Str}{E:(Str->Option Value)->Heap->Prop}{C:World->Heap->Prop}{d:DefRec}{K:Params->W.Frag}{CX:World->CXT}{sp:World->Sp}{x:Str}
  (hn:l.most=some n) (t:n<=sizeLine) (y:d.params.defaults=[]) (hr:Room k callerA)
  (I:∀ (w:World) (h:Heap),C w h->(K w.params).In h)
  (F:∀ (w:World) (mg:Str->Option Value) (r:Addr) (h:Heap),(K w.params).In h->h.Ns mainGlobals mg->mg d.name=some (.ref r) ->
   ∃ fd:FuncData,(∀ (s:Shared) (u:Value),BindsTo s fd ⟨[u],[]⟩ [(x,u)]) /\
     ∀ base:Heap,(K w.params).In base->base.Ns mainGlobals mg->FnOk l.prog w (K w.params) mg base (CX w) k r fd [x] (sp w))
  (z:∀ (w:World) (H:Hp) (a:Addr) (ns:List Int),ns.length<=n->cZ2 H->SqL (K w.params) H a (ns.map V.int)->sp w [.ref a] H (λv _=>v=.bl true) λ_ _ _=>False)
  (A:∀ (w:World) (H:Hp) (s:Shared) (e:Value) (s':Shared),CX w [] H s (λ_ _ _=>False) e s'->False) :
  W.WalkO q i E C l.row.toRowW d [] (λf vs=>PySem.call f vs):=by
 refine Att.attach_call hn y λw s₀ m mg mb r o pm cd doc a vs ns G Y Q hd J B p j c L=>?_;have D:=I w _ Y;obtain⟨fd,M,N⟩:=F w mg r _ D G.T.g B;exact bM5 D G.T.g G.T.b G.T.builtins G.T.nolimit L p j (a8b c t) hr N M (λH O P=>z w H a ns c O P) λH e s'=>A w H m e s'
noncomputable def aA4(s:Stmt):Arguments:=match s with
 | .FunctionDef _ a _ _ _ _ _ _ _ _=>a
 | _=>{posonlyargs:=[],args:=[],vararg:=none,kwonlyargs:=[],kw_defaults:=[],kwarg:=none,defaults:=[]}
noncomputable def jG(s:Stmt):List Stmt:=match s with
 | .FunctionDef _ _ b _ _ _ _ _ _ _=>b
 | _=>[]
noncomputable def aH(s:Stmt):Scope:=match s with
 | .FunctionDef _ _ _ _ _ _ sc _ _ _=>sc
 | _=>{kind:=.function,names:=[],isGenerator:=false,isCoroutine:=false}
abbrev CX0:CXT:=λ_ _ _ _ _ _=>False
abbrev E0:XK:=λ_ _ _=>False
def bF{X:Cx}:wM CX0 X E0:=λ_ _ _ _ _ _ _ h=>h.elim
structure Fun(K:W.Frag)(x qual:Str)(st:Stmt)(f:Addr)(fd:FuncData):Prop where
 ex:∃ (oc:Value) (od:Option Addr) (kV doc pm:Value) (an:Option Addr) (cdv ct:Value) (osl:Array (Option Value)),
  fd=W.fnOf x qual (aA4 st) (jG st) (aH st) .none kV doc pm an cdv ct/\K.lookup f=some ⟨oc,od,.func fd,osl⟩/\W.codeIn K cdv qual=true
 kp:W.keepIn K (.ref f)=true
section
variable{P:Program}{w:World}{K:W.Frag}{mg:Str->Option Value}{base:Heap}
theorem Fun.ok{x qual:Str}{st:Stmt}{f:Addr}{fd:FuncData}{N ps:List Str}{k:Nat}{sp:Sp}(F:Fun K x qual st f fd)(S:FnScope N ps (aH st))(len:∀ vs H Q E,sp vs H Q E->vs.length=ps.length)
  (a:∀ (cdv:Value) (A:Around) (outer:List Env) (s:Shared) (H:Hp) (vs:List V) (Q:VK) (E:XK),Room k (A.deeper (envOfC qual (aH st) s.heap.objs.size f cdv))->sp vs H Q E ->
   ∃ t,PSs (zW CX0 P w K mg base N qual (aH st) f cdv A outer s H E).nox (jG st) t/\t {nx:=λ_ H'=>Q .non H',rt:=Q} (dE N vs) H):FnOk P w K mg base CX0 (k+1) f fd ps sp:=by
 obtain⟨oc,od,kV,doc,pm,an,cdv,ct,osl,rfl,lk,b⟩:=F.ex;refine cY0 lk b S len λA outer s H vs Q E hr c=>?_;obtain⟨t,h,q⟩:=a cdv A outer s H vs Q E hr c;exact⟨t,h.nox,q⟩
def Fun.binds{x qual:Str}{st:Stmt}{f:Addr}{fd:FuncData}{ps:List Str}(F:Fun K x qual st f fd)
  (h:∀ (kV doc pm:Value) (an:Option Addr) (cdv ct:Value) (us:List Value),us.length=ps.length->bindArgs (W.fnOf x qual (aA4 st) (jG st) (aH st) .none kV doc pm an cdv ct) ⟨us,[]⟩=pure (ps.zip us)):cQ K fd ps []:=by
 obtain⟨oc,od,kV,doc,pm,an,cdv,ct,osl,rfl,lk,a⟩:=F.ex;exact .all (h kV doc pm an cdv ct)
end
section
variable{X:Cx}
def pv(i:Nat){x:Str}{pos:Pos}(b:X.N[i]? = some x:=by rfl)(c:Vis X.env.scope x:=by first | exact Or.inl rfl | exact Or.inr (Or.inl rfl) | exact Or.inr (Or.inr rfl))(hd:(x==("__debug__":Str))=false:=by decide)
  (a:(x==("__classdict__":Str))=false:=by decide):PE X (.Name x pos) (bL6 i):=cW0 b c hd a
end
def cZ3{A B:Prop}(h:B):if false=true then A else B:=by
 rw[a3Z a1b];exact h
def tJ{c A B:Prop}[Decidable c](a:c->A)(b:¬ c->B):if c then A else B:=by
 by_cases h:c;rw[a3Y h];exact a h;rw[a3Z h];exact b h
def nT(H H':Hp):Prop:=∀ b o,H b=some o->H' b=some o
def nT.refl(H:Hp):nT H H:=λ_ _ h=>h
def nT.trans{H d e:Hp}(a:nT H d)(b:nT d e):nT H e:=λc o h=>b c o (a c o h)
def aO5{scope:Scope}{env:Env}(h:∀ y∈scope.names,y.2=.free->∃ c,env.cells.lookup y.1=some c) :
  ∃ cl:List (Str×Addr),closureFor scope env=pure cl/\(∀ x c,cl.lookup x=some c->env.cells.lookup x=some c)/\∀ y∈scope.names,y.2=.free->∃ c,cl.lookup y.1=some c:=by
 have p:∀ (l:List (Str×NameKind)) (acc:List (Str×Addr)),(∀ y∈l,y.2=.free->∃ c,env.cells.lookup y.1=some c)->(∀ x c,acc.lookup x=some c->env.cells.lookup x=some c) ->
   ∃ cl:List (Str×Addr),((forIn l acc λ(x:Str×NameKind) (r:List (Str×Addr))=>if(x.2==NameKind.free)=true then do let a ← cellOf env x.1;pure (ForInStep.yield ((x.1,a)::r))else pure (ForInStep.yield r)):Sem (List (Str×Addr)))=pure cl /\
     (∀ x c,cl.lookup x=some c->env.cells.lookup x=some c)/\(∀ x c,acc.lookup x=some c->∃ d,cl.lookup x=some d)/\∀ y∈l,y.2=.free->∃ c,cl.lookup y.1=some c:=by
  intro l
  induction l with
  | nil=>intro acc _ ha;exact⟨acc,rfl,ha,λx c e=>⟨c,e⟩,λ_ b=>nomatch b⟩
  | cons y r s=>
    intro acc hl ha;obtain⟨n,k⟩:=y;rw[List.forIn_cons];by_cases i:(k==NameKind.free)=true
    ·have q:k=.free:=by simpa using i
     obtain⟨c,t⟩:=hl (n,k) a6a q;have u:cellOf env n=pure c:=by unfold cellOf;rw[t]
     obtain⟨cl,e,f,j,g⟩:=s ((n,c)::acc) (λy b=>hl y (a7a _ b)) (λx d e=>by
      rw[a6i]at e;split at e
      ·rename_i m;have:x=n:=by simpa using m
       cases e;rw[this];exact t
      ·exact ha x d e)
     have has:∃ d,cl.lookup n=some d:=j n c (by rw[a6i];simp);refine⟨cl,?_,f,λx d e=>?_,λy b o=>?_⟩;simp only[i,if_true,u];exact e
     ·by_cases m:x=n;subst m;exact has;exact j x d (by rw[a6i];have:(x==n)=false:=by simpa using m
                                                       rw[this];exact e)
     ·rcases a5b.mp b with rfl | b;exact has;exact g y b o
    ·obtain⟨cl,e,f,j,g⟩:=s acc (λy b=>hl y (a7a _ b)) ha;refine⟨cl,?_,f,j,λy b o=>?_⟩;simp only[i];exact e;rcases a5b.mp b with rfl | b;exact absurd (by simpa using o) i;exact g y b o
 obtain⟨cl,e,f,_,g⟩:=p scope.names [] h (λx c e=>nomatch e);refine⟨cl,?_,f,g⟩;unfold closureFor;simp only[bind_pure];exact e
def jH{a:Type}{x n:Str}{v:a}{r:List (Str×a)}(h:(x==n)=true):List.lookup x ((n,v)::r)=some v:=by rw[a6i,h]
def eO{a:Type}{x n:Str}{v:a}{r:List (Str×a)}(h:(x==n)=false):List.lookup x ((n,v)::r)=List.lookup x r:=by rw[a6i,h]
def bY6{scope:Scope}{env:Env}{x:Str}(h:(relabel scope env).names.lookup x=some .cell\/(relabel scope env).names.lookup x=some .free)(d:∀ y∈scope.names,y.2≠.cell) :
  (x,NameKind.free)∈scope.names:=by
 unfold relabel at h;dsimp only at h;revert h d;generalize scope.names=l;intro h d
 induction l with
 | nil=>rcases h with h | h<;>cases h
 | cons y r i=>
   obtain⟨n,k⟩:=y;rw[a6e]at h;dsimp only at h;have c:=λh=>i h λy j=>d y (a7a _ j);have f:k≠.cell:=d (n,k) a6a;by_cases e:(k==NameKind.free&&env.scope.kind==.function&&env.kindOf n==some .cell)=true
   ·have g:k=.free:=by
     simp only[Bool.and_eq_true,beq_iff_eq]at e;exact e.1.1
    rw[a3Y e]at h;cases b:x==n with
    | true=>
      have a:x=n:=by simpa using b
      subst a g;exact a6a
    | false=>
      rw[eO b]at h;exact a7a _ (c h)
   ·rw[a3Z e]at h;cases b:x==n with
    | true=>
      have a:x=n:=by simpa using b
      rw[jH b]at h;subst a;rcases h with h | h;exact absurd (a5a h) f
      ·rw[a5a h];exact a6a
    | false=>
      rw[eO b]at h;exact a7a _ (c h)
def lQ{scope:Scope}{env:Env}{x:Str}(h:(relabel scope env).names.lookup x=some .cell\/(relabel scope env).names.lookup x=some .free) :
  (x,NameKind.free)∈scope.names\/scope.names.lookup x=some .cell:=by
 unfold relabel at h;dsimp only at h;revert h;generalize scope.names=l;intro h
 induction l with
 | nil=>rcases h with h | h<;>cases h
 | cons y r e=>
   obtain⟨n,k⟩:=y;rw[a6e]at h;dsimp only at h;by_cases c:(k==NameKind.free&&env.scope.kind==.function&&env.kindOf n==some .cell)=true
   ·have d:k=.free:=by
     simp only[Bool.and_eq_true,beq_iff_eq]at c;exact c.1.1
    rw[a3Y c]at h;cases a:x==n with
    | true=>
      have b:x=n:=by simpa using a
      subst b d;exact .inl a6a
    | false=>
      rw[eO a]at h;rcases e h with z | z;exact .inl (a7a _ z)
      ·exact .inr (by rw[eO a];exact z)
   ·rw[a3Z c]at h;cases a:x==n with
    | true=>
      have b:x=n:=by simpa using a
      rw[jH a]at h;subst b;rcases h with h | h;exact .inr (by rw[jH a];exact h)
      ·rw[a5a h];exact .inl a6a
    | false=>
      rw[eO a]at h;rcases e h with z | z;exact .inl (a7a _ z);exact .inr (by rw[eO a];exact z)
theorem cU:∀ (names:List (Str×NameKind)) (n:Nat) (acc:List (Str×Addr)),cellsFrom n names acc=cellsFrom n names []++acc
 | [],n,acc=>rfl
 | (x,k)::r,n,acc=>by
   unfold cellsFrom;split;rw[cU r (n+1) ((x,n)::acc),cU r (n+1) [(x,n)],List.append_assoc];rfl;exact cU r n acc
theorem iM:∀ (names:List (Str×NameKind)) (n:Nat) (x:Str) (c:Addr),(x,c)∈cellsFrom n names []->(x,NameKind.cell)∈names
 | [],n,x,c,h=>nomatch h
 | (y,k)::r,n,x,c,h=>by
   unfold cellsFrom at h;split at h
   ·rename_i b;have a:k=.cell:=by simpa using b
    rw[cU]at h;rcases a1c.mp h with z | z;exact a7a _ (iM r _ x c z);have e:=a3b.mp z;cases e;rw[a];exact a6a
   ·exact a7a _ (iM r _ x c h)
theorem dO:∀ (names:List (Str×NameKind)) (n:Nat) (x:Str),(x,NameKind.cell)∈names->∃ c,(cellsFrom n names []).lookup x=some c
 | [],n,x,h=>nomatch h
 | (y,k)::r,n,x,h=>by
   have a:∀ m,(x,NameKind.cell)∈r->∃ c,(cellsFrom m r []).lookup x=some c:=λm hm=>dO r m x hm;unfold cellsFrom;split
   ·rename_i b;rw[cU,List.lookup_append];rcases a5b.mp h with z | z
    ·cases z;cases e:(cellsFrom (n+1) r []).lookup y with
     | some c=>exact⟨c,rfl⟩
     | none=>exact⟨n,by simp⟩
    ·obtain⟨c,d⟩:=a (n+1) z;exact⟨c,by rw[d];rfl⟩
   ·rename_i b;rcases a5b.mp h with z | z;cases z;exact absurd rfl b;exact a n z
def cH4{M:Model}{A:Around}{E:Value->Shared->Prop}{s:Shared}{scope:Scope}{globals:Addr}{cl:List (Str×Addr)}{qual:Str}{env:Env}{Q:Env->Shared->Prop}
  (c:Q (newEnv scope s.heap.objs.size globals (cellsFrom (s.heap.objs.size+1) scope.names cl) qual none .none (some env) builtinsNs) {s with heap:=pushCells (s.heap.push {cls:=.type "dict",data:=.dict #[]}) scope.names}) :
  wpAny M A (newFunctionEnv scope globals cl [] qual none .none (some env)) Q E s:=by
 simp only[newFunctionEnv,Option.isSome_some,if_true];refine a3W (wpAny_alloc ?_);refine a3W (wpAny_layCells _ (λb kind cells=>by cases a:kind==NameKind.cell<;>simp[a]) _ _ _ _ ?_);rw[show({s with heap:=s.heap.push {cls:=.type "dict",data:=.dict #[]}}:Shared).heap.objs.size=s.heap.objs.size+1 from a0h ..];refine a3W ?_;rw[List.forIn_nil];exact a3X (a3X c)
def uT{scope:Scope}{env:Env}{x:Str}(h:(relabel scope env).names.lookup x=some .local):scope.names.lookup x=some .local:=by
 unfold relabel at h;dsimp only at h;revert h;generalize scope.names=l;intro h
 induction l with
 | nil=>cases h
 | cons y r b=>
   obtain⟨n,k⟩:=y;rw[a6e]at h;dsimp only at h;by_cases c:(k==NameKind.free&&env.scope.kind==.function&&env.kindOf n==some .cell)=true
   ·rw[a3Y c]at h;cases a:x==n with
    | true=>rw[jH a]at h;cases h
    | false=>rw[eO a]at h ⊢;exact b h
   ·rw[a3Z c]at h;cases a:x==n with
    | true=>rw[jH a]at h ⊢;exact h
    | false=>rw[eO a]at h ⊢;exact b h
def Inv.adopt{X:Cx}{pins:List (Addr×Obj)}{σ:St}{H:Hp}{s:Shared}{a:Addr}{o:HO}(I:Inv X pins σ H s)(hn:H a=none)(g:X.s₀.heap.objs.size<=a)(h:a≠X.env.locals)
  (i:∀ x c,X.env.cells.lookup x=some c->c≠a) (j:∀ p∈X.pn++pins,p.1≠a) (new:dD X.prog X.w (upd H a o) s.heap a o):Inv X pins σ (upd H a o) s:=by
 have ne:∀ b u,H b=some u->b≠a:=λb u e=>aB e hn;refine⟨I.ok,I.os,I.bare,⟨I.base.keep,I.base.slot,λb ob q n k=>?_,I.base.there,λb xs q=>?_,λb ob u q=>?_,λb ps q=>?_⟩,I.loc,I.cell,?_,λx c e=>?_,λp d=>?_,λb u e=>?_,I.len⟩;rw[aD (a1d (a7b (a2b q) g))];exact I.base.free b ob q n k;have:=I.base.tups b xs q;rw[aD (ne b _ this)];exact this;have:=I.base.frzs b ob u q;rw[aD (ne b _ this)];exact this;obtain⟨m,this⟩:=I.base.tbls b ps q;exact⟨m,by rw[aD (ne b _ this)];exact this⟩;rw[aD (a5d h)];exact I.free;rw[aD (i x c e)];exact I.freeC x c e;obtain⟨e,n,r⟩:=I.pin p d;exact⟨e,by rw[aD (j p d)];exact n,r⟩;by_cases f:b=a;subst f;rw[aE]at e;cases e;exact new;rw[aD f]at e;exact(I.hok b u e).stay (λc v _ q=>q) (λc q=>by rw[aD (ne c _ q)];exact q) λc xs q=>by rw[aD (ne c _ q)];exact q
def aA5{prog:Program}{w:World}{A:Around}{R:Result->Shared->Prop}{s:Shared}{elt a iter:Expr}{l:List Expr}{scope:Scope}{pos:Pos}{it acc:Value}{env:Env}(I:Nat->Shared->Prop)
  (turn:∀ n s,I n s->wpAny (model prog w) A (pyNext it) (λr e=>match r with
   | none=>R (.ok .next) e
   | some v=>wpAny (model prog w) A (letOwnedTupleGo a it v) (λ_ f=>wpAny (model prog w) A (assign a env v) (λ_ i=>
     wpAny (model prog w) A (forIn l true λc r=>if r=true then do let ok ← isTrue c env (eval c env);pure (ForInStep.yield ok)else pure (ForInStep.yield r)) (λok g=>
      if ok=true then wpAny (model prog w) A (eval elt env) (λx j=>
       wpAny (model prog w) A (call (.builtin "list.append") [acc,x]) (λ_ k=>∃ m,m < n/\I m k) (λ_ _=>False) j) (λ_ _=>False) g
      else ∃ m,m < n/\I m g) (λ_ _=>False) i) (λ_ _=>False) f) (λ_ _=>False) e) (λ_ _=>False) s)
  (n:Nat) (h:I n s) :
  codeAny (model prog w) A (.compLoop (.ListComp elt [⟨a,iter,l,0⟩] scope pos) 0 it acc env) R s:=by
 refine codeAny_loop rfl I (λn s t=>?_) n h;show wpAny _ A ((compTurn (.ListComp elt [⟨a,iter,l,0⟩] scope pos) 0 it acc env).onRaise (λx=>do noteFrame x env;theTreesLotGoes x)) _ _ s;refine wpAny_noted ?_;rw[compTurn_list];refine a3W (a4I (a3W (a4x (turn n s t) (λr e d=>?_) λ_ _ h'=>h'.elim)));cases r with
 | none=>exact a3X d
 | some v=>
   refine a3W (a4x d (λ_ f d=>?_) λ_ _ h'=>h'.elim);refine a3W (a4x d (λ_ i o=>a3W (a4x o (λok g b=>?_) λ_ _ h'=>h'.elim)) λ_ _ h'=>h'.elim);cases ok with
   | true=>
     simp only[if_true]at b ⊢;refine a3W (a3W (a4x b (λx j p=>a3W (a4x p (λ_ k q=>a3X (a3X ⟨rfl,q⟩)) λ_ _ h'=>h'.elim)) λ_ _ h'=>h'.elim))
   | false=>
     simp only[Bool.false_eq_true,if_false]at b ⊢
     first
      | exact a3W (a3X (a3X ⟨rfl,b⟩))
      | exact a3X ⟨rfl,b⟩
noncomputable abbrev cxC(X:Cx)(scope:Scope)(cl:List (Str×Addr))(ex:List Addr)(s:Shared)(H:Hp):Cx:=
 {X with s₀:=s,H₀:=H,env:=compEnvC scope cl s.heap.objs.size X.env,outer:=X.stack,ex:=ex,fn:=λx=>scope.names.lookup x==some .cell,xe:=λ_ _=>False}
noncomputable def blank(own:List Nat)(σ:St):St:=own.foldl (λσ i=>σ.set i none) σ
theorem oN:∀ (own:List Nat) (σ:St),(blank own σ).length=σ.length
 | [],_=>rfl
 | i::r,σ=>(oN r (σ.set i none)).trans (by simp)
theorem nU:∀ (own:List Nat) (σ:St) (i:Nat) (v:V),(blank own σ)[i]? = some (some v)->i∉own/\σ[i]? = some (some v)
 | [],_,_,_,h=>⟨by simp,h⟩
 | j::r,σ,i,v,h=>by
   obtain⟨b,a⟩:=nU r (σ.set j none) i v h;by_cases e:i=j;subst e;rw[List.getElem?_set]at a;simp at a;rw[a9a (a5d e)]at a;exact⟨by simp[e,b],a⟩
def cH5(own:List Nat)(g:TG):Prop:=∀ x σ H Q,g x σ H Q->g x σ H λσ' H'=>Q σ' H'/\σ'.length=σ.length/\∀ i,i∉own->σ'[i]? = σ[i]?
def bM6(own:List Nat)(g:TGs):Prop:=∀ x σ H Q,g x σ H Q->g x σ H λσ' H'=>Q σ' H'/\σ'.length=σ.length/\∀ i,i∉own->σ'[i]? = σ[i]?
def bV{own:List Nat}{i:Nat}(h:i∈own):cH5 own (uN i):=λx σ H Q q=>
 ⟨q,by simp,λj a=>List.getElem?_set_ne (λe:i=j=>a (by rw[← e];exact h))⟩
def lR{own:List Nat}:bM6 own cX0:=λx σ H Q q=>⟨q.1,q.2,rfl,λ_ _=>rfl⟩
def dG{own:List Nat}{t:TG}{u:TGs}(k:cH5 own t)(l:bM6 own u)(mt:∀ x σ H Q h,(∀ a b,Q a b->h a b)->t x σ H Q->t x σ H h):bM6 own (aT3 t u):=by
 intro x σ H Q q;obtain⟨v,r,e,q⟩:=q;refine⟨v,r,e,mt _ _ _ _ _ (λd m g=>?_) (k _ _ _ _ q)⟩;obtain⟨g,l1,j⟩:=g;have:=l _ _ _ _ g;revert this;exact λthis=>by
  have f:u r d m (λσ' H'=>Q σ' H'/\σ'.length=d.length/\∀ i,i∉own->σ'[i]? = d[i]?):=this;rw[l1]at f;have n:(λ(σ':St) H'=>Q σ' H'/\σ'.length=σ.length/\∀ i,i∉own->σ'[i]? = d[i]?)=(λ(σ':St) H'=>Q σ' H'/\σ'.length=σ.length/\∀ i,i∉own->σ'[i]? = σ[i]?):=by
   funext σ' H';apply propext;constructor;rintro⟨a,b,c⟩;exact⟨a,b,λi hi=>(c i hi).trans (j i hi)⟩;rintro⟨a,b,c⟩;exact⟨a,b,λi hi=>(c i hi).trans (j i hi).symm⟩
  rw[← n];exact f
def cV{i:Nat}:∀ x σ H (Q c:St->Hp->Prop),(∀ a b,Q a b->c a b)->uN i x σ H Q->uN i x σ H c:=λ_ _ _ _ _ f q=>f _ _ q
def bK9(X:Cx)(a:List Expr)(t:TT):Prop:=
 ∀ (pins:List (Addr×Obj)) (s:Shared) (σ:St) (H:Hp) (Q:Bool->Hp->Prop),Inv X pins σ H s->t σ H Q ->
   wpAny (model X.prog X.w) X.A (forIn a true λc r=>if r=true then do let ok ← isTrue c X.env (eval c X.env);pure (ForInStep.yield ok)else pure (ForInStep.yield r)) (TP X pins σ Q) X.xe s
def cZ4:TT:=λ_ H Q=>Q true H
def pT{X:Cx}:bK9 X [] cZ4:=λ_ _ _ H _ I h=>wpAny_tests_nil ⟨H,I,h⟩
def aG9{X:Cx}{c:Expr}{t:TT}(h:PT X c t):bK9 X [c] t:=λpins s σ H Q I q=>wpAny_tests_one (h pins s σ H Q I q)
structure CompScope(X:Cx)(scope:Scope)(own:List Nat):Prop where
 kind:scope.kind=.function
 cells:∀ y∈scope.names,y.2=.cell->scope.names.lookup y.1=some .cell
 names:∀ y∈scope.names,y.2=.local->scope.names.lookup y.1=some .local
 free:∀ y∈scope.names,y.2=.free->X.env.kindOf y.1=some .cell\/X.env.kindOf y.1=some .free
 own:∀ i x,X.N[i]? = some x->(scope.names.lookup x=some .local\/scope.names.lookup x=some .cell)->i∈own
 calm:X.calm=true
def bY7(own:List Nat)(d:TI)(g:TG)(e:TT)(f:TE)(σ:St)(H:Hp)(F:List V->Hp->Prop):Prop:=
 d σ H λJ h=>∃ W:Nat->Nat->List V->Hp->Prop,(∃ m,W 0 m [] h)/\∀ i m ys H,W i m ys H->ys.length<=sizeLine /\
  ((J.stop i H/\F ys H)\/(J.go i H/\∀ x H',J.yld i H x H'->g x (blank own σ) H' λa j=>e a j λb c=>
    if b=true then f a c λv k=>∃ m',m' < m/\W (i+1) m' (ys++[v]) k else ∃ m',m' < m/\W (i+1) m' ys c))
def aO6(own:List Nat)(a:TI)(g:TG)(b:TT)(c:TE):TE:=λσ H Q=>bY7 own a g b c σ H λys H'=>∀ p,H' p=none->Q (.ref p) (upd H' p (.lst ys))
structure Stray(X:Cx)(pins:List (Addr×Obj))(H:Hp)(b:Addr):Prop where
 un:H b=none
 loc:b≠X.env.locals
 young:X.s₀.heap.objs.size<=b
 cell:∀ x c,X.env.cells.lookup x=some c->c≠b
 pin:∀ p∈X.pn++pins,p.1≠b
def Inv.stray{X:Cx}{pins:List (Addr×Obj)}{σ:St}{H H':Hp}{s:Shared}{b:Addr}(I:Inv X pins σ H s)(a:s.heap.objs.size<=b)(hn:H' b=none):Stray X pins H' b:=by
 obtain⟨c,d,g,h,e,f⟩:=I.fpOk a hn;exact⟨c,d,a8b I.sz a,e,f⟩
set_option maxHeartbeats 8000000 in
def aO7{X:Cx}{tg iter elt:Expr}{ifs:List Expr}{scope:Scope}{pos:Pos}{own:List Nat}{g:TG}{tt:TT}{te:TE}{use:Option (Value->Sem Unit)}{Qf:Value->Shared->Prop}
  (S:CompScope X scope own) (hg:∀ cl ex s H,PG (cxC X scope cl ex s H) tg g) (hG:cH5 own g)
  (ht:∀ cl ex s H,bK9 (cxC X scope cl ex s H) ifs tt) (he:∀ cl ex s H,PE (cxC X scope cl ex s H) elt te)
  {pins:List (Addr×Obj)} {a:Shared} {σ:St} {l:Hp} {F:List V->Hp->Prop} {cl:List (Str×Addr)} {J:It} {fp:List Addr} {it D:Addr} {tn:Nat->Heap->Prop} {h₁:Heap} {mC:Str->Option Value} {tk m0:Nat} {W:Nat->Nat->List V->Hp->Prop}
  (t:Inv X pins σ l a) (T:Turn X.prog X.w X.K tg J fp it tn) (N:∀ x c,cl.lookup x=some c->(X.env.cells.lookup x=some c/\scope.names.lookup x≠some .cell)\/(a.heap.objs.size < c/\scope.names.lookup x=some .cell/\h₁.IsCell c none)) (cl2:∀ y∈scope.names,y.2=.free\/y.2=.cell->∃ c,cl.lookup y.1=some c)
  (cl3:∀ x y c,cl.lookup x=some c->cl.lookup y=some c->x=y)
  (Q:∀ b∈fp,aT5 X pins l b) (M:∀ b∈fp,b < D) (E:D < a.heap.objs.size) (G:∀ b,b∈frs X.stack->b < D) (hbase:∀ b o,X.base.get? b=some o->b < D) (h:Stray X pins l D)
  (hD3:a.heap.get? D=some {cls:=.type "list",data:=.seq ([]:List Value).toArray}) (st3:tn 0 a.heap) (R:h₁.Ns a.heap.objs.size mC) (B:∀ b o,a.heap.get? b=some o->h₁.get? b=some o)
  (w0:W 0 m0 [] l) (turn:∀ i m ys H,W i m ys H->ys.length<=sizeLine /\
  ((J.stop i H/\F ys H)\/(J.go i H/\∀ x H',J.yld i H x H'->g x (blank own σ) H' λσ2 l=>tt σ2 l λb H3=>
    if b=true then te σ2 H3 λv P=>∃ m',m' < m/\W (i+1) m' (ys++[v]) P else ∃ m',m' < m/\W (i+1) m' ys H3)))
  (fin:∀ D C ys H' s' m,Inv X pins σ (upd H' D (.lst ys)) s'->H' D=none->s'.heap.Ns C m->Stray X pins (upd H' D (.lst ys)) C->F ys H' ->
   compPost (model X.prog X.w) X.A X.xe use Qf (.ref D) C (.ok .next) s') :
  codeAny (model X.prog X.w) X.A (.compLoop (.ListComp elt [⟨tg,iter,ifs,0⟩] scope pos) 0 (.ref it) (.ref D) (compEnvC scope cl a.heap.objs.size X.env))
   (compPost (model X.prog X.w) X.A X.xe use Qf (.ref D) a.heap.objs.size) {a with heap:=h₁,toks:=tk}:=by
 have cneD:∀ x c,cl.lookup x=some c->c≠D:=λx c q=>by
  rcases N x c q with z | z;exact h.cell x c z.1;exact(a1d (a2j E z.1)).symm
 have cneF:∀ b∈fp,∀ x c,cl.lookup x=some c->c≠b:=λb f x c q=>by
  rcases N x c q with z | z;exact(Q b f).2.2.2.2.1 x c z.1;exact(a1d (a2j (a2j (M b f) E) z.1)).symm
 have okY:(cxC X scope cl (D::fp) a l).Ok:=by
  refine⟨t.ok.mod,S.kind,t.ok.glob,t.ok.blt,a4a _,cl3,λx hk=>?_,λx c hf q=>?_,t.ok.hd,t.ok.frames,.inl rfl,λb f=>?_,λb o q=>?_,?_,λb o q f=>?_,λb f U=>?_,t.stack,t.stkFree⟩;rcases lQ hk with z | z;exact cl2 _ z (.inl rfl);exact cl2 _ (mem_of_lookup z) (.inr rfl)
  ·rcases N x c q with z | z
   ·have hf':scope.names.lookup x=some .cell:=by simpa using hf
    exact absurd hf' z.2
   ·exact a2g z.1
  ·constructor;show b≠a.heap.objs.size;rcases a5b.mp f with z | z;rw[z];exact a1d E;exact a1d (a2j (M b z) E);intro x c q;rcases a5b.mp f with z | z;rw[z];exact cneD x c q;exact cneF b z x c q
  ·exact t.bs b o q
  ·exact a8b t.ok.bsz t.sz
  ·rcases a5b.mp f with z | z;have:=hbase b o q;rw[z]at this;exact a8d _ this;rcases(Q b z).2.2.2.1 with y | y;exact t.ok.noex b o q y;exact a8d _ (a7b (a2b q) (a8b t.ok.bsz y))
  ·rcases a5b.mp f with z | z;have:=G b U;rw[z]at this;exact a8d _ this;rcases a5b.mp (t.stkSub b U)with y | y;exact(Q b z).2.1 y;exact(Q b z).2.2.1 y
 have IY:Inv (cxC X scope cl (D::fp) a l) pins (blank own σ) l {a with heap:=h₁,toks:=tk}:=by
  refine⟨okY,rfl,t.bare,Un.kept B,⟨_,R,λi x v e1 e2 e3=>?_⟩,λx c q=>?_,t.hok.fresh (a4a _),λx c q=>by
   rcases N x c q with z | z;exact t.freeC x c z.1;exact t.hok.fresh (a2g z.1),λp hp=>?_,t.hok.kept B,(oN own σ).trans t.len⟩
  ·obtain⟨hno,e2'⟩:=nU own σ i v e2;have hnl:¬ (relabel scope X.env).names.lookup x=some .local:=λz=>hno (S.own i x e1 (.inl (uT z)));have hnc:¬ scope.names.lookup x=some .cell:=λz=>hno (S.own i x e1 (.inr z));have hcf:(relabel scope X.env).names.lookup x=some .cell\/(relabel scope X.env).names.lookup x=some .free:=by
    rcases e3 with z | z | z;exact absurd z hnl;exact .inl z;exact .inr z
   have hmem:=(lQ hcf).resolve_right hnc;have Y:=S.free _ hmem rfl;obtain⟨m,hm,hl⟩:=t.loc;obtain⟨u,r,lk⟩:=hl i x v e1 e2' (by rcases Y with z | z;exact .inr (.inl z);exact .inr (.inr z));obtain⟨c,hc⟩:=cl2 _ hmem (.inl rfl);refine⟨u,r,.inr ⟨hcf,c,hc,?_⟩⟩;rcases lk with⟨z,_⟩ | ⟨_,c',hc',ic⟩;dsimp only at Y;rw[z]at Y;rcases Y with y | y<;>cases y;have:=((N _ c hc).resolve_right λz=>hnc z.2.1).1;dsimp only at this;rw[hc']at this;cases this;obtain⟨o,ho,hd⟩:=ic;exact⟨o,B _ _ ho,hd⟩
  ·rcases N x c q with z | z;obtain⟨v,o,ho,hd⟩:=t.cell x c z.1;exact⟨v,o,B _ _ ho,hd⟩;exact⟨_,z.2.2⟩
  ·obtain⟨q,n,ne,nf,d⟩:=t.pin p hp;refine⟨B _ _ q,n,a1d (a2b q),λf=>?_,d⟩;rcases a5b.mp (t.stkSub _ f)with y | y;exact ne y;exact nf y
 have DY:D≠a.heap.objs.size:=a1d E;have statY:∀ {H':Hp},(∀ b∈fp,H' b=none)->∀ b∈fp,aT5 (cxC X scope cl (D::fp) a l) pins H' b:=λhn b f=>by
  refine⟨hn b f,?_,?_,.inl (a7a _ f),cneF b f,(Q b f).2.2.2.2.2⟩;show b≠a.heap.objs.size;exact a1d (a2j (M b f) E);intro U;rcases a5b.mp (t.stkSub b U)with y | y;exact(Q b f).2.1 y;exact(Q b f).2.2.1 y
 have hDfp:D∉fp:=λz=>a8d _ (M D z);have hDstk:D∉frs X.stack:=λz=>a8d _ (G D z);have I:∀ {H':Hp} {o:Obj},(∀ b∈fp,H' b=none)->∀ b∈fp,aT5 (cxC X scope cl (D::fp) a l) (pins++[(D,o)]) H' b:=λ{H' o} fr b f=>by
  obtain⟨a1,a2,a3,a4,a5,a6⟩:=statY fr b f;refine⟨a1,a2,a3,a4,a5,λp hp z=>?_⟩;rcases a1c.mp hp with y | y;exact a6 p (a9g _ y) z;rcases a1c.mp y with y | y;exact a6 p (a3c _ y) z;have e:p=(D,o):=a3b.mp y;rw[e]at z;have z':D=b:=z;exact hDfp (by rw[z'];exact f)
 have pin2:∀ {H':Hp} {s':Shared} {its:Array Value} {k:Nat},Inv (cxC X scope cl (D::fp) a l) pins (blank own σ) H' s'->H' D=none->s'.heap.get? D=some {cls:=.type "list",data:=.seq its k} ->
   Inv (cxC X scope cl (D::fp) a l) (pins++[(D,{cls:=.type "list",data:=.seq its k})]) (blank own σ) H' s':=λ{H' s' its k} I4 D4 o4=>I4.pins_of λp hp=>by
  rcases a1c.mp hp with z | z;exact I4.pin p (a3c _ z);have e:p=(D,{cls:=.type "list",data:=.seq its k}):=a3b.mp z;subst e;exact⟨o4,D4,DY,hDstk,λv z=>by cases z⟩
 refine aA5 (λn s'=>∃ i ys H' its k,Inv (cxC X scope cl (D::fp) a l) pins (blank own σ) H' s'/\tn i s'.heap/\(∀ b∈fp,H' b=none)/\H' D=none /\
  s'.heap.get? D=some {cls:=.type "list",data:=.seq its k}/\bN ys its.toList/\W i n ys H') ?_ m0
  ⟨0,[],l,#[],_,IY,T.keep _ _ _ st3 λb f o q=>B b o q,λb f=>(Q b f).1,h.un,B _ _ hD3,.nil,w0⟩
 rintro n s4 ⟨i,ys,P,its,k,I4,st4,fr4,D4,o4,v4,w4⟩;obtain⟨hz,step⟩:=turn i n ys P w4;rcases step with⟨stop,qn⟩ | ⟨go,step⟩
 ·refine thn (T.done (cxC X scope cl (D::fp) a l) rfl rfl rfl S.calm i _ s4 (blank own σ) P (λ_ _=>False) (pin2 I4 D4 o4) (I fr4) st4 stop) λr s5 Z0=>?_;obtain⟨hr,I5⟩:=Z0;subst hr;have oD:s5.heap.get? D=some {cls:=.type "list",data:=.seq its k}:=(I5.pin (D,_) (a3c _ (a3c _ a6a))).1;have O:Inv (cxC X scope cl (D::fp) a l) pins (blank own σ) P s5:=I5.unpinned;have IX:Inv X pins σ P s5:=by
   refine t.call' (ch:=D::fp) O.os O.base O.hok O.bare λb f=>?_;rcases a5b.mp f with z | z;rw[z];exact⟨.inr h.young,h.loc,h.cell,h.pin⟩;obtain⟨a1,a2,a3,a4,a5,a6⟩:=Q b z;exact⟨a4,a2,a5,a6⟩
  obtain⟨m5,hm5,_⟩:=O.loc;have nC:P a.heap.objs.size=none:=O.free;have IX':Inv X pins σ (upd P D (.lst ys)) s5:=by
   refine IX.adopt D4 h.young h.loc h.cell h.pin ⟨hz,its.toList,k,v4,?_⟩;rw[oD]
  have strC:Stray X pins (upd P D (.lst ys)) a.heap.objs.size:=t.stray (a4a _) (by rw[aD (a5d DY)];exact nC);exact fin D _ ys P s5 m5 IX' D4 hm5 strC qn
 ·refine thn (T.item (cxC X scope cl (D::fp) a l) rfl rfl rfl S.calm i _ s4 (blank own σ) P (λ_ _=>False) (pin2 I4 D4 o4) (I fr4) st4 go) λr s5 Z0=>?_;obtain⟨u,hr,h5⟩:=Z0;subst hr;refine thn h5 λ_ s6 ⟨x,H6,I6,r6,y6,st6,fr6⟩=>?_;have I6':=I6.pinned (I fr6) (T.obj _ _ st6);refine thn (hg cl (D::fp) a l _ s6 (blank own σ) H6 x u _ I6' r6 (hG _ _ _ _ (step x H6 y6))) λ_ s7 ⟨σ7,H7,I7,⟨q7,l7,p7⟩⟩=>?_;refine thn (ht cl (D::fp) a l _ s7 σ7 H7 _ I7 q7) λb s8 ⟨H8,I8,q8⟩=>?_;have weak:∀ {Z:Hp} {s9:Shared},Inv (cxC X scope cl (D::fp) a l) ((pins++[(D,{cls:=.type "list",data:=.seq its k})])++qI fp s6.heap) σ7 Z s9 ->
    Inv (cxC X scope cl (D::fp) a l) ((pins++[(D,{cls:=.type "list",data:=.seq its k})])++qI fp s6.heap) (blank own σ) Z s9:=λI9=>
   I9.weak l7.symm λj v e=>by rw[p7 j (nU own σ j v e).1];exact e
  have tn9:∀ {Z:Hp} {s9:Shared},Inv (cxC X scope cl (D::fp) a l) ((pins++[(D,{cls:=.type "list",data:=.seq its k})])++qI fp s6.heap) (blank own σ) Z s9->tn (i+1) s9.heap/\∀ b∈fp,Z b=none:=λI9=>
   ⟨T.keep _ _ _ st6 λb f o q=>(I9.pin (b,o) (a3c _ (a3c _ (jZ f q)))).1,λb f=>by
    obtain⟨o,q,d⟩:=T.obj _ _ st6 b f;exact(I9.pin (b,o) (a3c _ (a3c _ (jZ f q)))).2.1⟩
  cases b with
  | true=>
    rw[a3Y rfl]at q8 ⊢;refine thn (he cl (D::fp) a l _ s8 σ7 H8 _ I8 q8) λy s9 Z0=>?_;obtain⟨v9,Z,I9,r9,m',hm',w9⟩:=Z0;have L:=weak I9;obtain⟨t9,f9⟩:=tn9 L;have p9:=L.pin (D,_) (a3c _ (a9g _ (a3c _ a6a)));have hlen:=v4.length;have hz':its.size<=sizeLine:=by rw[← a9d];lia
    refine append_at (hsz:=hz') p9.1 λh' hs' hD'=>?_;have I9u:Inv (cxC X scope cl (D::fp) a l) pins (blank own σ) Z s9:=L.unpinned.unpinned;have I10:Inv (cxC X scope cl (D::fp) a l) pins (blank own σ) Z {s9 with heap:=h'}:=
     I9u.turned (it:=D) (t':=s9.toks) (λb o f q=>(hs'.2 b f).trans q) p9.2.1 DY (.inl a6a) cneD h.pin
    refine⟨m',hm',i+1,ys++[v9],Z,its.push y,k+1,I10,T.keep _ _ _ t9 λb f o q=>(hs'.2 b λz=>hDfp (by rw[← z];exact f)).trans q,f9,p9.2.1,hD',?_,w9⟩;rw[Array.toList_push];exact v4.append (.cons r9 .nil)
  | false=>
    rw[a3Z a1b]at q8 ⊢;obtain⟨m',hm',w9⟩:=q8;have L:=weak I8;obtain⟨t9,f9⟩:=tn9 L;have p9:=L.pin (D,_) (a3c _ (a9g _ (a3c _ a6a)));exact⟨m',hm',i+1,ys,H8,its,k,L.unpinned.unpinned,t9,f9,p9.2.1,p9.1,v4,w9⟩
set_option maxHeartbeats 8000000 in
def wU{X:Cx}{tg iter elt:Expr}{B:List Expr}{scope:Scope}{pos E:Pos}{own:List Nat}{wi:TI}{g:TG}{tt:TT}{te:TE}{use:Option (Value->Sem Unit)}{Qf:Value->Shared->Prop}
  (S:CompScope X scope own) (hi:PI X tg iter wi) (hg:∀ cl ex s H,PG (cxC X scope cl ex s H) tg g) (hG:cH5 own g)
  (ht:∀ cl ex s H,bK9 (cxC X scope cl ex s H) B tt) (he:∀ cl ex s H,PE (cxC X scope cl ex s H) elt te)
  {pins:List (Addr×Obj)} {s:Shared} {σ:St} {H:Hp} {F:List V->Hp->Prop} (I:Inv X pins σ H s) (hw:bY7 own wi g tt te σ H F)
  (hs:∀ x,foldedSetIterable iter X.env x=pure x)
  (fin:∀ D C ys H' s' m,Inv X pins σ (upd H' D (.lst ys)) s'->H' D=none->s'.heap.Ns C m->Stray X pins (upd H' D (.lst ys)) C->F ys H' ->
   compPost (model X.prog X.w) X.A X.xe use Qf (.ref D) C (.ok .next) s') :
  wpAny (model X.prog X.w) X.A (comprehension (.ListComp elt [⟨tg,iter,B,0⟩] scope pos) scope X.env E (newList []) false (eval iter X.env) use) Qf X.xe s:=by
 obtain⟨cl,R,U,Y⟩:=aO5 (scope:=scope) (env:=X.env) λy P hf=>I.ok.has y.1 (S.free y P hf);refine wpAny_comprehension_free (use:=use) rfl hs R S.kind S.names (thn (hi pins s σ H _ I hw) λv s₁ h₁=>thn h₁ λitv a G=>?_);obtain⟨it,fp,tn,J,H2,e,r,T,t,f2,W,⟨m0,w0⟩,turn⟩:=G;subst e;refine a4n (cH4 ?_);dsimp only;have Z:(a.heap.push {cls:=.type "list",dict:=none,data:=.seq ([]:List Value).toArray}).objs.size=a.heap.objs.size+1:=a0h ..;have h:∀ b o,a.heap.get? b=some o->(a.heap.push {cls:=.type "list",dict:=none,data:=.seq ([]:List Value).toArray}).get? b=some o:=λb o q=>a2a _ q;have K:(a.heap.push {cls:=.type "list",dict:=none,data:=.seq ([]:List Value).toArray}).get? a.heap.objs.size=some {cls:=.type "list",dict:=none,data:=.seq ([]:List Value).toArray}:=a0b _ rfl;generalize hG3:a.heap.push {cls:=.type "list",dict:=none,data:=.seq ([]:List Value).toArray}=d at Z h K ⊢;have n:(d.push {cls:=.type "dict",data:=.dict #[]}).objs.size=d.objs.size+1:=a0h ..;have i:(pushCells (d.push {cls:=.type "dict",data:=.dict #[]}) scope.names).Ns d.objs.size (λ_=>none):=(Heap.Ns.new d (.type "dict")).keeps (pushCells_keeps _ _);have k:∀ b o,d.get? b=some o->(pushCells (d.push {cls:=.type "dict",data:=.dict #[]}) scope.names).get? b=some o:=λb o q=>pushCells_keeps _ _ b o (a2a _ q);have ok:=cellsFrom_ok scope.names (d.push {cls:=.type "dict",data:=.dict #[]}) (d.objs.size+1) [] ⟨λ_ _ hm=>(nomatch hm),List.Pairwise.nil⟩ (by rw[n];exact a4a _);rw[n]at ok;generalize pushCells (d.push {cls:=.type "dict",data:=.dict #[]}) scope.names=h₁ at i k ok ⊢;have I3:Inv X pins σ H2 {a with heap:=d}:=r.kept (t':=a.toks) h;have look:∀ x,(cellsFrom (d.objs.size+1) scope.names cl).lookup x=((cellsFrom (d.objs.size+1) scope.names []).lookup x).or (cl.lookup x):=λx=>by rw[cU,List.lookup_append]
 have L:∀ x c,(cellsFrom (d.objs.size+1) scope.names []).lookup x=some c->d.objs.size < c/\scope.names.lookup x=some .cell/\h₁.IsCell c none:=λx c q=>
  ⟨(ok.empty x c (mem_of_lookup q)).2,S.cells _ (iM _ _ x c (mem_of_lookup q)) rfl,(ok.empty x c (mem_of_lookup q)).1⟩
 have j:∀ x c,(cellsFrom (d.objs.size+1) scope.names cl).lookup x=some c->(X.env.cells.lookup x=some c/\scope.names.lookup x≠some .cell)\/(d.objs.size < c/\scope.names.lookup x=some .cell/\h₁.IsCell c none):=λx c q=>by
  rw[look]at q;cases e:(cellsFrom (d.objs.size+1) scope.names []).lookup x with
  | some M=>rw[e]at q;cases q;exact .inr (L x _ e)
  | none=>
    rw[e]at q;refine .inl ⟨U x c q,λz=>?_⟩;obtain⟨M,f⟩:=dO scope.names (d.objs.size+1) x (mem_of_lookup z);rw[e]at f;cases f
 have l:∀ x c,X.env.cells.lookup x=some c->c < d.objs.size:=λx c q=>by
  obtain⟨v,o,ho,hd⟩:=I3.cell x c q;exact a2b ho
 have p:=aO7 (iter:=iter) (elt:=elt) (pos:=pos) (use:=use) (Qf:=Qf) (tk:=a.toks) (h₁:=h₁) S hg hG ht he I3 T j (λy P hk=>by
   rw[look];rcases hk with z | z
   ·obtain⟨c,hc⟩:=Y y P z;cases e:(cellsFrom (d.objs.size+1) scope.names []).lookup y.1 with
    | some M=>exact⟨M,rfl⟩
    | none=>exact⟨c,hc⟩
   ·obtain⟨c,hc⟩:=dO scope.names (d.objs.size+1) y.1 (by rw[← z];exact P);exact⟨c,by rw[hc];rfl⟩) (λx y c q1 Q=>by
   rcases j x c q1 with N | N;rcases j y c Q with u | u;exact I3.ok.inj x y c N.1 u.1;exact absurd u.1 (a0k.mpr (a2g (l x c N.1)));rcases j y c Q with u | u;exact absurd N.1 (a0k.mpr (a2g (l y c u.1)));have m1:(cellsFrom (d.objs.size+1) scope.names []).lookup x=some c:=by
    obtain⟨M,f⟩:=dO scope.names (d.objs.size+1) x (mem_of_lookup N.2.1);rw[look,f]at q1;cases q1;exact f
   have m2:(cellsFrom (d.objs.size+1) scope.names []).lookup y=some c:=by
    obtain⟨M,f⟩:=dO scope.names (d.objs.size+1) y (mem_of_lookup u.2.1);rw[look,f]at Q;cases Q;exact f
   exact name_of_addr ok.apart (mem_of_lookup m1) (mem_of_lookup m2)) f2 (λb O=>by obtain⟨o,q,_⟩:=T.obj _ _ t b O;exact a2b q)
  (by show a.heap.objs.size < d.objs.size;lia) (λb O=>by
   rcases a5b.mp (r.stkSub b O)with z | z;rw[z];exact r.lt;exact a7j λhle=>r.nofs hle z)
  (λb o q=>a2b (r.bs b o q).1) (r.stray (a4a _) (r.hok.fresh (a4a _))) K (T.keep _ _ _ t λb O o q=>h b o q) i k w0 turn fin
 exact codeAny_compStart_list p (T.self _ 0 _ _ _ (T.keep _ _ _ t λb O o q=>k b o (h b o q)) p)
def uU{X:Cx}{tg iter elt:Expr}{a:List Expr}{scope:Scope}{pos:Pos}{own:List Nat}{d:TI}{g:TG}{f:TT}{h:TE}
  (S:CompScope X scope own) (hi:PI X tg iter d) (i:∀ cl ex s H,PG (cxC X scope cl ex s H) tg g) (j:cH5 own g)
  (k:∀ cl ex s H,bK9 (cxC X scope cl ex s H) a f) (l:∀ cl ex s H,PE (cxC X scope cl ex s H) elt h)
  (hs:∀ x,foldedSetIterable iter X.env x=pure x:=by intro _;rfl):PE X (.ListComp elt [⟨tg,iter,a,0⟩] scope pos) (aO6 own d g f h):=by
 intro pins s σ H Q I n;rw[eval_ListComp];refine wU (use:=none) S hi i j k l I n hs λD C ys H' s' m p hD hm str q=>?_;refine⟨m,hm,λh' c=>⟨.ref D,upd H' D (.lst ys),?_,rfl,q D hD⟩⟩;exact p.turned (it:=C) (t':=s'.toks) (λb o r e=>(c.2 b r).trans e) str.un str.loc (.inr str.young) str.cell str.pin
def fO{X:Cx}{i:Nat}{x:Str}{tg iter elt:Expr}{d:List Expr}{scope:Scope}{pos c f:Pos}{own:List Nat}{u:TI}{g:TG}{w:TT}{y:TE}
  (B:X.N.Nodup) (j:X.N[i]? = some x) (A:X.env.scope.names.lookup x=some .local)
  (S:CompScope X scope own) (hi:PI X tg iter u) (E:∀ cl ex s H,PG (cxC X scope cl ex s H) tg g) (F:cH5 own g)
  (G:∀ cl ex s H,bK9 (cxC X scope cl ex s H) d w) (J:∀ cl ex s H,PE (cxC X scope cl ex s H) elt y)
  (k:swapsWith (.ListComp elt [⟨tg,iter,d,0⟩] scope pos) (some (.Name x c)) f.line X.env=pure true)
  (hs:∀ x,foldedSetIterable iter X.env x=pure x:=by intro _;rfl) :
  PS X (.Assign [.Name x c] (.ListComp elt [⟨tg,iter,d,0⟩] scope pos) f) (λD σ H=>aO6 own u g w y σ H λv K=>D.nx (σ.set i (some v)) K):=by
 intro pins s σ H L I M;rw[exec_Assign_Name_used _ _ _ _ k];refine a3W (a4I (a3W ?_));show wpAny _ _ (do let _ ← comprehension (.ListComp elt [⟨tg,iter,d,0⟩] scope pos) scope X.env _ (newList []) false (eval iter X.env) (some (assign (.Name x c) X.env))) _ _ s;refine a3W (thn (wU (use:=some (assign (.Name x c) X.env)) (Qf:=λ_ s'=>SP X pins L .next s') S hi E F G J I M hs λD C ys H' s' m O hD hm str q=>?_) λ_ s' P=>a3X (a3X P));show wpAny _ _ (assign (.Name x c) X.env (.ref D)) _ _ s';refine wpAny_assign_Name (wJ (v:=.ref D) O B j (.inl A) (show dM (.ref D) (Value.ref D)from rfl) (λl n p=>?_) (.inr A));obtain⟨a,h,ha⟩:=p;have r:C≠a:=by
  rcases ha with z | z;rw[z];exact str.loc;exact a5d (str.cell x a z)
 refine⟨m,hm.sameBut h r,λh' t=>⟨_,_,?_,q D hD⟩⟩;exact n.turned (it:=C) (t':=l.toks) (λb o Q e=>(t.2 b Q).trans e) str.un str.loc (.inr str.young) str.cell str.pin
section
variable{X:Cx}
noncomputable def Its(x:Str):It:=⟨λi _=>∃ c,x.cps[i]? = some c,λi H v H'=>H'=H/\∃ c,x.cps[i]? = some c/\v=.str ⟨#[c]⟩,λi _=>x.cps[i]? = none⟩
def aH0{P:Program}{w:World}{K:W.Frag}{tg:Expr}(x:Str)(t:Tok)(it:Addr)(ty:String)(g:ty="str_ascii_iterator"\/ty="str_iterator"):Turn P w K tg (Its x) [it] it (λi h=>h.IsStrIter it ty x t i) where
 mem:=by simp
 obj:=λi h st b a=>by
  have e:b=it:=by simpa using a
  subst e;obtain⟨o,e,c,d⟩:=st;exact⟨o,e,λv z=>by rw[d]at z;cases z⟩
 keep:=λi h h' st k=>by
  obtain⟨o,e,c,d⟩:=st;exact⟨o,k it (by simp) o e,c,d⟩
 item:=by
  intro X u y A B i pins s σ H E I l st C;subst u y A;obtain⟨c,j⟩:=C;obtain⟨m,n,L,p,q,r⟩:=l it (by simp);rcases g with rfl | rfl;refine wpAny_pyNext_ascii_item st j λh' f D=>?_;have F:Inv X pins σ H {s with heap:=h',toks:=s.toks+1}:=I.turned (t':=s.toks+1) (λb o a e=>(D.2 b a).trans e) m n p q r;obtain⟨o,e,G,d⟩:=id f;exact⟨_,rfl,aT6 (s:={s with heap:=h',toks:=s.toks+1}) e G d (by decide) ⟨.str ⟨#[c]⟩,H,F,⟨_,rfl⟩,⟨rfl,c,j,rfl⟩,f,λb a=>(l b a).1⟩⟩;refine wpAny_pyNext_wide_item st j λh' f D=>?_;have F:Inv X pins σ H {s with heap:=h',toks:=s.toks+1}:=I.turned (t':=s.toks+1) (λb o a e=>(D.2 b a).trans e) m n p q r;obtain⟨o,e,G,d⟩:=id f;exact⟨_,rfl,aT6 (s:={s with heap:=h',toks:=s.toks+1}) e G d (by decide) ⟨.str ⟨#[c]⟩,H,F,⟨_,rfl⟩,⟨rfl,c,j,rfl⟩,f,λb a=>(l b a).1⟩⟩
 done:=by
  intro X u y A B i pins s σ H E I l st C;subst u y A;have j:x.cps[i]? = none:=C;obtain⟨m,n,L,p,q,r⟩:=l it (by simp);rcases g with rfl | rfl;exact wpAny_pyNext_ascii_end (I.ok.hd B) st j λh' J=>⟨rfl,I.turned (t':=s.toks) (λb o a e=>J b o a e) m n p q r⟩;exact wpAny_pyNext_wide_end (I.ok.hd B) st j λh' J=>⟨rfl,I.turned (t':=s.toks) (λb o a e=>J b o a e) m n p q r⟩
 self:=λ_ _ _ _ _ st h=>by
  rcases g with rfl | rfl;exact wpAny_pyIter_striter_ascii st h;exact wpAny_pyIter_striter_wide st h
def dU5:V->Option Int->Option Int->Hp->VK->Prop:=λx lo hi H Q=>∃ z,x=.str z/\z.length<=sizeLine/\Q (.str (Txt.slice z lo hi)) H
def cZ5:SlR X dU5:=by
 intro pins s σ H x v g m lo hi sl Q I e hs pl d h;obtain⟨z,rfl,f,q⟩:=h;obtain⟨t,rfl⟩:=e;refine⟨"str",_,F.slot_str_getitem.lookup,typeIs_str _ _ _,?_⟩;have fin:∀ b k,EP X pins σ Q (.str (Txt.slice z lo hi) b) {s with toks:=k}:=λb k=>⟨.str _,H,I.tok k,⟨b,rfl⟩,q⟩;have a:(Txt.slice z lo hi).length<=sizeLine:=a8b (Txt.slice_le z lo hi) f;cases pl with
 | none=>
   cases d with
   | none=>exact a4H (l:=none) (u:=none) (st:=none) hs rfl (post_val_or_str ⟨a,fin⟩)
   | int j c=>exact a4H (l:=none) (u:=some (j,c)) (st:=none) hs rfl (post_val_or_str ⟨a,fin⟩)
 | int i t1=>
   cases d with
   | none=>exact a4H (l:=some (i,t1)) (u:=none) (st:=none) hs rfl (post_val_or_str ⟨a,fin⟩)
   | int j c=>exact a4H (l:=some (i,t1)) (u:=some (j,c)) (st:=none) hs rfl (post_val_or_str ⟨a,fin⟩)
def aO8{ys:List Str}:∀ {us:List Value},bN (ys.map V.str) us->StrsAre us ys:=by
 induction ys with
 | nil=>intro us r;cases r;exact .nil
 | cons y r a=>
   intro us h;cases h with
   | cons b c=>
     obtain⟨t,rfl⟩:=b;exact .cons y t (a c)
def bM7(K:W.Frag):V->List V->Hp->VK->Prop:=λx vs H Q=>∃ b a ys,x=.str b/\vs=[.ref a]/\SqL K H a (ys.map V.str)/\(ys.map (·.length)).sum+ys.length*b.length<=16777216/\Q (.str (Txt.join b ys)) H
def cH6:MtR X "str.join" (bM7 X.K):=by
 intro pins s σ H x vs v us Q I b c h;obtain⟨d,a,ys,rfl,rfl,ha,e,q⟩:=h;obtain⟨t,rfl⟩:=b;obtain⟨u,rfl,f⟩:=c.one;cases f;obtain⟨its,r,p,_⟩:=I.list ha;exact join_list p.isList (by simpa using aO8 r) e λg k=>⟨.str _,H,I.tok k,⟨g,rfl⟩,q⟩
def aA6:kP X (.builtin "isinstance") (λxs H Q=>∃ x c t b,xs=[x,.ty c]/\TyOf X.K H x t/\W.kitOne X.K t (.type c)=some b/\Q (.bl b) H):=by
 intro pins s σ H xs us Q I r h;obtain⟨x,c,t,b,rfl,ty,e,q⟩:=h;obtain⟨u,d,rfl,f,a⟩:=bM1 r;cases (show d=Value.type c from a);exact aU6 I f ty e λtk=>⟨.bl b,H,I.tok tk,rfl,q⟩
end
structure Tag(Q:VK):Type where mk ::
def Ask(sp:Sp)(vs:List V)(H:Hp)(E:XK)(Q:VK)(_:Tag Q):Prop:=sp vs H Q E
section
variable{σ:St}{H:Hp}{Q:VK}{v x y:V}{n:Nat}{i j:Int}{a b:Bool}{D:Ends}
theorem aV6{r:St}:bL6 0 (some v::r) H Q=Q v H:=propext ⟨λZ1=>by obtain⟨_,e,q⟩:=Z1;cases e;exact q,λq=>⟨_,rfl,q⟩⟩
theorem aV7{o:Option V}{r:St}:bL6 (n+1) (o::r) H Q=bL6 n r H Q:=rfl
theorem dR3:tC v σ H Q=Q v H:=rfl
theorem cZ6{r:R2}{a tb:TE}:tOp r a tb σ H Q=a σ H λx b=>tb σ b λy c=>r x y c Q:=rfl
theorem bY8{g:Int->Int->V}:rI0 g (.int i) (.int j) H Q=Q (g i j) H:=propext ⟨λZ1=>by obtain⟨_,_,e,a,q⟩:=Z1;cases e;cases a;exact q,λq=>⟨_,_,rfl,rfl,q⟩⟩
theorem bM8{C:Int->Int->Prop}{g:Int->Int->V}(h:C i j):rI C g (.int i) (.int j) H Q=Q (g i j) H:=propext ⟨λZ1=>by obtain⟨_,_,e,a,_,q⟩:=Z1;cases e;cases a;exact q,λq=>⟨_,_,rfl,rfl,h,q⟩⟩
theorem cZ7{R:Bool->Prop}:(∃ k,V.bl a=V.bl k/\R k)=R a:=propext ⟨λZ1=>by obtain⟨_,e,q⟩:=Z1;cases e;exact q,λq=>⟨_,rfl,q⟩⟩
theorem aV8{t:TE}{R:Bool->Hp->Prop}:cG7 t σ H R=t σ H λx H'=>∃ k,x=.bl k/\R k H':=rfl
theorem bY9{t u:TT}{R:Bool->Hp->Prop}:dQ5 t u σ H R=t σ H λc H1=>if c=true then u σ H1 R else R false H1:=rfl
theorem bZ0{t:TT}{a tb:TE}:tIf t a tb σ H Q=t σ H λc b=>if c=true then a σ b Q else tb σ b Q:=rfl
theorem tK{t u:TS}:dK0 t u D σ H=t {D with nx:=u D} σ H:=rfl
theorem aV9:cW8 D σ H=D.nx σ H:=rfl
theorem aW0{a:TE}:cW9 a D σ H=a σ H λ_ H1=>D.nx σ H1:=rfl
theorem bZ1{a:TE}:dQ6 a D σ H=a σ H D.rt:=rfl
theorem bZ2{c:TT}{t u:TS}:dQ7 c t u D σ H=c σ H λb H1=>if b=true then t D σ H1 else u D σ H1:=rfl
theorem bZ3{a:TE}{g:TG}:cG1 a g D σ H=a σ H λx b=>g x σ b D.nx:=rfl
theorem aH1{R:St->Hp->Prop}:uN n v σ H R=R (σ.set n (some v)) H:=rfl
theorem aW1{to ti:TE}{t:nP}{R:St->Hp->Prop}:dM0 to ti t v σ H R=to σ H λo a=>ti σ a λi b=>t o i v b λc=>R σ c:=rfl
theorem bZ4{R:List V->Hp->Prop}:dM5 σ H R=R [] H:=rfl
theorem aW2{a:TE}{tr:TA}{R:List V->Hp->Prop}:bM2 a tr σ H R=a σ H λx b=>tr σ b λxs c=>R (x::xs) c:=rfl
theorem aW3{sp:Sp}{E:XK}{t:TA}:aN9 sp [] E t σ H Q=t σ H λvs a=>Ask sp vs a E Q ⟨⟩:=by
 unfold aN9 Ask;simp only[List.append_nil]
theorem cZ8{r:List V->Hp->VK->Prop}{t:TA}:tCB r t σ H Q=t σ H λvs a=>r vs a Q:=rfl
theorem cZ9{r:V->Option Int->Option Int->Hp->VK->Prop}{a:TE}{b c:TO}:tSl r a b c σ H Q=a σ H λx d=>b σ d λl e=>c σ e λu f=>r x l u f Q:=rfl
theorem wV{R:Option Int->Hp->Prop}:aU9 σ H R=R none H:=rfl
theorem aW4{t:TE}{R:Option Int->Hp->Prop}:cY2 t σ H R=t σ H λx H1=>∃ i,x=.int i/\R (some i) H1:=rfl
theorem wW{R:Int->Prop}:(∃ k,V.int i=V.int k/\R k)=R i:=propext ⟨λZ1=>by obtain⟨_,e,q⟩:=Z1;cases e;exact q,λq=>⟨_,rfl,q⟩⟩
theorem aW5{R:Bool->Hp->Prop}:cZ4 σ H R=R true H:=rfl
end
noncomputable def cY(H:Hp)(p:Addr):Option (Bool×List V):=match H p with
 | some (.lst xs)=>some (true,xs)
 | some (.tup xs)=>some (false,xs)
 | some (.frz _ (.lst xs))=>some (true,xs)
 | _=>none
def aL{H:Hp}{p:Addr}{xs:List V}(h:H p=some (.lst xs)):cY H p=some (true,xs):=by unfold cY;rw[h]
def bK{H:Hp}{p:Addr}{xs:List V}(h:H p=some (.tup xs)):cY H p=some (false,xs):=by unfold cY;rw[h]
def bM9{H:Hp}{p:Addr}{o:Obj}{xs:List V}(h:H p=some (.frz o (.lst xs))):cY H p=some (true,xs):=by unfold cY;rw[h]
def dQ{K:W.Frag}{H:Hp}{p:Addr}{xs:List V}(h:cY H p=some (true,xs)):SqL K H p xs:=by
 unfold cY at h;split at h;rename_i e;cases h;exact .inl (.inl e);cases h;rename_i o ys e;cases h;exact .inl (.inr ⟨o,e⟩);cases h
def cP{K:W.Frag}{H:Hp}{p:Addr}{xs:List V}(h:cY H p=some (false,xs)):SqT K H p xs:=by
 unfold cY at h;split at h;cases h;rename_i e;cases h;exact .inl (.inl e);cases h;cases h
noncomputable def ixF(H:Hp)(x y:V):Option V:=match x,y with
 | .ref p,.int i=>(cY H p).bind λq=>atI q.2 i
 | .str z,.int i=>if z.length<=sizeLine then(atI z.cps.toList i).map λc=>.str ⟨#[c]⟩else none
 | _,_=>none
noncomputable def dA0(H:Hp)(x:V):Option Nat:=match x with
 | .ref p=>(cY H p).map (·.2.length)
 | .str z=>if z.length<=sizeLine then some z.length else none
 | _=>none
def dM8:R2:=λx y H Q=>∃ v,ixF H x y=some v/\Q v H
section
variable{X:Cx}
def wI:IxR X dM8:=by
 intro a d pins s σ H x y v u Q I g j h hs;obtain⟨z,e,q⟩:=h;unfold ixF at e;split at e
 ·rename_i p i;cases f:cY H p with
  | none=>rw[f]at e;cases e
  | some w=>
    obtain⟨b,xs⟩:=w;rw[f]at e;cases b with
    | true=>exact cG9 a d pins s σ H _ _ v u Q I g j ⟨p,xs,i,z,rfl,rfl,dQ f,e,q⟩ hs
    | false=>exact cY4 a d pins s σ H _ _ v u Q I g j ⟨p,xs,i,z,rfl,rfl,cP f,e,q⟩ hs
 ·rename_i t i;split at e
  ·rename_i l;cases k:atI t.cps.toList i with
   | none=>rw[k]at e;cases e
   | some c=>
     rw[k]at e;cases e;exact cY5 a d pins s σ H _ _ v u Q I g j ⟨t,i,c,rfl,rfl,l,k,q⟩ hs
  ·cases e
 ·cases e
def bN0:List V->Hp->VK->Prop:=λxs H Q=>∃ x n,xs=[x]/\dA0 H x=some n/\Q (.int n) H
def dR:kP X (.builtin "len") bN0:=by
 intro pins s σ H xs us Q I r h;obtain⟨x,n,rfl,e,q⟩:=h;unfold dA0 at e;split at e
 ·rename_i p;cases a:cY H p with
  | none=>rw[a]at e;cases e
  | some w=>
    obtain⟨b,xs⟩:=w;rw[a]at e;cases e;cases b with
    | true=>exact oK pins s σ H _ us Q I r ⟨p,xs,rfl,.inl (dQ a),q⟩
    | false=>exact oK pins s σ H _ us Q I r ⟨p,xs,rfl,.inr (cP a),q⟩
 ·rename_i z;split at e;rename_i c;cases e;exact wS pins s σ H _ us Q I r ⟨z,rfl,c,q⟩;cases e
 ·cases e
def dM9:V->Option Int->Option Int->Hp->VK->Prop:=λx lo hi H Q=>match x with
 | .str z=>z.length<=sizeLine/\Q (.str (Txt.slice z lo hi)) H
 | .ref p=>(∃ xs,cY H p=some (true,xs)/\∀ r,H r=none->Q (.ref r) (upd H r (.lst (pS xs lo hi)))) \/
   ∃ xs,cY H p=some (false,xs)/\¬ (HT.sIx xs.length 0 lo=0/\HT.sIx xs.length xs.length hi=xs.length)/\∀ r,H r=none->Q (.ref r) (upd H r (.tup (pS xs lo hi)))
 | _=>False
def bZ5:SlR X dM9:=by
 intro pins s σ H x v a b lo hi sl Q I c hs pl d h;unfold dM9 at h;split at h;rename_i z;exact cZ5 pins s σ H _ v a b lo hi sl Q I c hs pl d ⟨z,rfl,h.1,h.2⟩;rename_i p;rcases h with⟨xs,e,q⟩ | ⟨xs,e,hw,q⟩;exact cH1 pins s σ H _ v a b lo hi sl Q I c hs pl d ⟨p,xs,rfl,dQ e,q⟩;exact cY3 pins s σ H _ v a b lo hi sl Q I c hs pl d ⟨p,xs,rfl,cP e,hw,q⟩;exact h.elim
def dN0(K:W.Frag)(b:TE):TI:=λσ H R=>b σ H λx a=>match x with
 | .str z=>R (Its z) a
 | .ref p=>(∃ xs,cY a p=some (true,xs)/\R (Itl K p) a)\/∃ xs,cY a p=some (false,xs)/\R (Itt K p) a
 | _=>False
def dA1{tg l:Expr}{j:TE}(hl:PE X l j):PI X tg l (dN0 X.K j):=by
 intro pins s σ H R I h;refine thn (hl pins s σ H _ I h) λv s1 Z0=>?_;obtain⟨x,g,c,k,f⟩:=Z0;split at f
 ·rename_i x;obtain⟨t,rfl⟩:=k;cases ha:x.cps.all (· < 128)with
  | true=>
    refine wpAny_pyIter_ascii ha ?_;refine⟨s1.heap.objs.size,[s1.heap.objs.size],_,_,g,rfl,c.kept (t':=s1.toks) λb o e=>a2a _ e,aH0 x t _ _ (.inl rfl),⟨_,a0b _ rfl,rfl,rfl⟩,λb d=>?_,f⟩;have e:b=s1.heap.objs.size:=by simpa using d
    subst e;exact c.fpOk (a4a _) (c.hok.fresh (a4a _))
  | false=>
    refine wpAny_pyIter_wide ha ?_;refine⟨s1.heap.objs.size,[s1.heap.objs.size],_,_,g,rfl,c.kept (t':=s1.toks) λb o e=>a2a _ e,aH0 x t _ _ (.inr rfl),⟨_,a0b _ rfl,rfl,rfl⟩,λb d=>?_,f⟩;have e:b=s1.heap.objs.size:=by simpa using d
    subst e;exact c.fpOk (a4a _) (c.hok.fresh (a4a _))
 ·rename_i a;cases k;rcases f with⟨xs,i,q⟩ | ⟨xs,i,q⟩
  ·obtain⟨its,m,p,n⟩:=c.list (dQ i);refine wpAny_pyIter_list p.isList ?_;refine⟨s1.heap.objs.size,[s1.heap.objs.size],_,_,g,rfl,c.kept (t':=s1.toks) λb o e=>a2a _ e,aT7 a _,⟨_,a0b _ rfl,rfl,rfl⟩,λb d=>?_,q⟩;have e:b=s1.heap.objs.size:=by simpa using d
   subst e;exact c.fpOk (a4a _) (c.hok.fresh (a4a _))
  ·obtain⟨its,m,p,n⟩:=c.tuple (cP i);refine a4y (show s1.heap.IsTuple a its.toArray from p) ?_;refine⟨s1.heap.objs.size,[s1.heap.objs.size],_,_,g,rfl,c.kept (t':=s1.toks) λb o e=>a2a _ e,aN2 a _,⟨_,a0b _ rfl,rfl,rfl⟩,λb d=>?_,q⟩;have e:b=s1.heap.objs.size:=by simpa using d
   subst e;exact c.fpOk (a4a _) (c.hok.fresh (a4a _))
 ·exact f.elim
noncomputable def bZ6(N:List Str)(sc scope:Scope)(own:List Nat):Bool:=
 (match scope.kind with | .function=>true | _=>false) &&
 scope.names.all (λy=>match y.2 with
  | .cell=>(match scope.names.lookup y.1 with | some .cell=>true | _=>false)
  | .local=>(match scope.names.lookup y.1 with | some .local=>true | _=>false)
  | .free=>(match sc.names.lookup y.1 with | some .cell=>true | some .free=>true | _=>false)
  | _=>true) &&
 (List.range N.length).all λi=>match N[i]? with
  | some x=>(match scope.names.lookup x with | some .local=>own.contains i | some .cell=>own.contains i | _=>true)
  | none=>true
def csc{scope:Scope}(own:List Nat)(h:bZ6 X.N X.env.scope scope own=true)(g:X.calm=true:=by rfl):CompScope X scope own:=by
 unfold bZ6 at h;rw[a6d,a6d]at h;obtain⟨⟨j,b⟩,d⟩:=h;rw[a8j]at b d;refine⟨?_,λy a e=>?_,λy a e=>?_,λy a e=>?_,λi x f c=>?_,g⟩;revert j;cases scope.kind<;>simp;have:=b y a;rw[e]at this;dsimp only at this;split at this;assumption;cases this;have:=b y a;rw[e]at this;dsimp only at this;split at this;assumption;cases this;have:=b y a;rw[e]at this;dsimp only at this;show X.env.scope.names.lookup y.1=some .cell\/X.env.scope.names.lookup y.1=some .free;split at this;rename_i q;exact .inl q;rename_i q;exact .inr q;cases this;have hi:i < X.N.length:=(a3a.mp f).1;have:=d i (a8e.mpr hi);rw[f]at this;dsimp only at this;rcases c with c | c<;>rw[c]at this<;>simpa using this
end
structure ItIs(J:It)(xs:List V)(P:Hp->Prop):Prop where
 go:∀ H i x,P H->xs[i]? = some x->J.go i H
 yld:∀ H i x y H',P H->xs[i]? = some x->J.yld i H y H'->H'=H/\y=x
 stop:∀ H i,P H->xs[i]? = none->J.stop i H
def jI{K:W.Frag}{a:Addr}{xs:List V}:ItIs (Itl K a) xs (λH=>SqL K H a xs) where
 go:=λH i x h e=>⟨xs,x,h,e⟩
 yld:=λH i x y H' h e ⟨b,c⟩=>⟨b,by have:=c xs h;rw[e]at this;exact(a5a this).symm⟩
 stop:=λH i h e=>⟨xs,h,a6c.mp e⟩
def bN1{K:W.Frag}{a:Addr}{xs:List V}:ItIs (Itt K a) xs (λH=>SqT K H a xs) where
 go:=λH i x h e=>⟨xs,x,h,e⟩
 yld:=λH i x y H' h e ⟨b,c⟩=>⟨b,by have:=c xs h;rw[e]at this;exact(a5a this).symm⟩
 stop:=λH i h e=>⟨xs,h,a6c.mp e⟩
noncomputable def cH7(lo:Int)(n:Nat):List V:=(List.range n).map λ(i:Nat)=>V.int (lo+(i:Int))
def kB{lo:Int}{n i:Nat}{x:V}(h:(cH7 lo n)[i]? = some x):i < n/\x=.int (lo+i):=by
 unfold cH7 at h;rw[a6b]at h;cases e:(List.range n)[i]? with
 | none=>rw[e]at h;cases h
 | some k=>
   rw[e]at h;obtain⟨hi,a⟩:=a3a.mp e;rw[List.length_range]at hi;rw[List.getElem_range]at a;subst a;exact⟨hi,(a5a h).symm⟩
def eK(lo:Int)(n:Nat):(cH7 lo n).length=n:=by simp[cH7]
def lS{lo:Int}{n:Nat}{P:Hp->Prop}:ItIs (Itr lo n) (cH7 lo n) P where
 go:=λH i x _ e=>(kB e).1
 yld:=λH i x y H' _ e ⟨a,b⟩=>⟨a,by rw[(kB e).2];exact b⟩
 stop:=λH i _ e=>by
  have:=a6c.mp e;rw[eK]at this;exact this
noncomputable def eP(x:Str):List V:=x.cps.toList.map λc=>.str ⟨#[c]⟩
def fJ(x:Str):(eP x).length=x.length:=by simp[eP,Str.length]
def bN2{x:Str}{P:Hp->Prop}:ItIs (Its x) (eP x) P where
 go:=λH i v _ e=>by
  unfold eP at e;rw[a6b]at e;cases q:x.cps.toList[i]? with
  | none=>rw[q]at e;cases e
  | some c=>exact⟨c,by simpa using q⟩
 yld:=λH i v y H' _ e ⟨b,c,d,f⟩=>⟨b,by
  unfold eP at e;rw[a6b]at e;have q:x.cps.toList[i]? = some c:=by simpa using d
  rw[q]at e;cases e;exact f⟩
 stop:=λH i _ e=>by
  have a:=a6c.mp e;rw[fJ]at a;show x.cps[i]? = none;rw[Array.getElem?_eq_none_iff];exact a
def uV{J:It}{xs:List V}{P:Hp->Prop}(w:ItIs J xs P){own:List Nat}{g:TG}{l:TT}{n:TE}{σ:St}{o:Hp}{F:List V->Hp->Prop}(Pv:Nat->List V->Hp->Prop)(h0:Pv 0 [] o)
  (r:∀ i ys H,Pv i ys H->P H/\ys.length<=i) (hn:xs.length<=sizeLine)
  (step:∀ i x ys H (N:List V->Hp->Prop),xs[i]? = some x->Pv i ys H->(∀ a H',Pv (i+1) a H'->N a H')->g x (blank own σ) H λc j=>l c j λb f=>if b=true then n c f λv d=>N (ys++[v]) d else N ys f)
  (fin:∀ ys H,Pv xs.length ys H->F ys H) :
  ∃ W:Nat->Nat->List V->Hp->Prop,(∃ m,W 0 m [] o)/\∀ i m ys H,W i m ys H->ys.length<=sizeLine /\
  ((J.stop i H/\F ys H)\/(J.go i H/\∀ x H',J.yld i H x H'->g x (blank own σ) H' λc j=>l c j λb f=>
    if b=true then n c f λv d=>∃ m',m' < m/\W (i+1) m' (ys++[v]) d else ∃ m',m' < m/\W (i+1) m' ys f)):=by
 refine⟨λi m ys H=>m=xs.length-i/\i<=xs.length/\Pv i ys H,⟨xs.length,by simp,a7c _,h0⟩,?_⟩;rintro i m ys H ⟨rfl,hi,p⟩;obtain⟨k,hl⟩:=r i ys H p;refine⟨by lia,?_⟩;by_cases h:i < xs.length;have e:xs[i]? = some xs[i]:=a0a h;refine .inr ⟨w.go H i _ k e,λx H' y=>?_⟩;obtain⟨rfl,rfl⟩:=w.yld H i _ x H' k e y;exact step i _ ys H' (λa d=>∃ m',m' < xs.length-i/\m'=xs.length-(i+1)/\i+1<=xs.length/\Pv (i+1) a d) e p λa d q=>⟨xs.length-(i+1),by lia,rfl,h,q⟩;have e:i=xs.length:=by lia
 subst e;exact .inl ⟨w.stop H _ k (a6c.mpr (a4a _)),fin ys H p⟩
def aH2{J:It}{xs:List V}{P:Hp->Prop}(w:ItIs J xs P){g:TG}{tb:TS}{D:Ends}{σ:St}{H:Hp}(Pv:Nat->St->Hp->Prop)(h0:Pv 0 σ H)(d:∀ i σ H,Pv i σ H->P H)
  (hs:∀ i x σ H,xs[i]? = some x->Pv i σ H->g x σ H λa c=>tb {D with nx:=Pv (i+1),ct:=Pv (i+1),bk:=D.nx} a c) (hd:∀ σ H,Pv xs.length σ H->D.nx σ H) :
  ∃ W:Nat->Nat->St->Hp->Prop,(∃ m,W 0 m σ H)/\∀ i m σ H,W i m σ H ->
    (J.stop i H/\D.nx σ H)\/(J.go i H/\∃ N:St->Hp->Prop,(∀ σ' H',N σ' H'->∃ m',m' < m/\W (i+1) m' σ' H')/\∀ x H',J.yld i H x H'->g x σ H' λa c=>tb {D with nx:=N,ct:=N,bk:=D.nx} a c):=by
 refine⟨λi m σ H=>m=xs.length-i/\i<=xs.length/\Pv i σ H,⟨xs.length,by simp,a7c _,h0⟩,?_⟩;rintro i m σ H ⟨rfl,hi,p⟩;have q:=d i σ H p;by_cases b:i < xs.length;have e:xs[i]? = some xs[i]:=a0a b;refine .inr ⟨w.go H i _ q e,Pv (i+1),λσ' H' f=>⟨xs.length-(i+1),by lia,rfl,b,f⟩,λx H' y=>?_⟩;obtain⟨rfl,rfl⟩:=w.yld H i _ x H' q e y;exact hs i _ σ _ e p;have e:i=xs.length:=by lia
 subst e;exact .inl ⟨w.stop H _ q (a6c.mpr (a4a _)),hd σ H p⟩
section
variable{σ:St}{H:Hp}{Q:VK}{z:Str}{p q:Addr}{xs ys:List V}{i j:Int}{b:Bool}{v x y:V}
def bN3(h:z.length<=sizeLine):dA0 H (.str z)=some z.length:=by show(if z.length<=sizeLine then some z.length else none)=_;rw[a3Y h]
def uW(h:cY H p=some (b,xs)):dA0 H (.ref p)=some xs.length:=by show(cY H p).map (·.2.length)=_;rw[h];rfl
def dA2{n:Nat}(h:dA0 H x=some n):bN0 [x] H Q=Q (.int n) H:=
 propext ⟨λZ1=>by obtain⟨a,b,e,f,q⟩:=Z1;cases e;rw[h]at f;cases f;exact q,λq=>⟨_,n,rfl,h,q⟩⟩
def dH(h:cY H p=some (b,xs)):bN0 [.ref p] H Q=Q (.int xs.length) H:=dA2 (uW h)
def jJ(h:ixF H x y=some v):dM8 x y H Q=Q v H:=propext ⟨λZ1=>by obtain⟨_,e,q⟩:=Z1;rw[h]at e;cases e;exact q,λq=>⟨v,h,q⟩⟩
def dS(h:cY H p=some (b,xs))(e:atI xs i=some v):ixF H (.ref p) (.int i)=some v:=by show(cY H p).bind (λq=>atI q.2 i)=_;rw[h];exact e
def cH8{c:Nat}(h:z.length<=sizeLine)(e:atI z.cps.toList i=some c):ixF H (.str z) (.int i)=some (.str ⟨#[c]⟩):=by
 show(if z.length<=sizeLine then(atI z.cps.toList i).map λc=>V.str ⟨#[c]⟩else none)=_;rw[a3Y h,e];rfl
end
def dN1{i j:Int}(a:-(2 ^ 64) < j)(b:j < 2 ^ 64):bL8 i j:=.inr ⟨a,b⟩
section
variable{σ:St}{H:Hp}{Q:VK}{p:Addr}{xs:List V}{k:Int}{j:Nat}{v:V}
def aW6{R:Hp->Prop}(h:H p=some (.lst xs))(e:ixN xs.length k=some j):cH0 (.ref p) (.int k) v H R=R (upd H p (.lst (xs.set j v))):=
 propext ⟨λZ1=>by obtain⟨d,ys,f,j',b,c,h',a,q⟩:=Z1;cases b;cases c;rw[h]at h';cases h';rw[e]at a;cases a;exact q,λq=>⟨p,xs,k,j,rfl,rfl,h,e,q⟩⟩
theorem bZ7{i j:Int}(a:-(2 ^ 64) < j)(b:j < 2 ^ 64):bL8 i j=True:=eq_true (.inr ⟨a,b⟩)
theorem dA3{i j:Int}(a:0 < j)(b:j < 1073741824):cX3 i j=True:=eq_true ⟨a,b⟩
def lL{sp:Sp}{vs:List V}{E:XK}{t:Tag Q}(h:sp vs H Q E):Ask sp vs H E Q t:=h
def lT{a:Type}{ys:List a}{i:Int}(h0:0<=i)(b:i < ys.length):∃ c,atI ys i=some c:=by
 obtain⟨n,rfl⟩:=Int.eq_ofNat_of_zero_le h0;have hn:n < ys.length:=by lia
 exact⟨ys[n],aV0 (a0a hn)⟩
def jK{a:Type}{ys:List a}{i:Int}{c:a}(h:atI ys i=some c):c∈ys:=by
 obtain⟨j,_,b,_⟩:=uO h;exact a4b b
end
end L2
namespace L2
open PySem
def aW7{i j:Int}{g:Int->Int->V}{H:Hp}{Q:VK}(h:0 < j):rI (λ_ j=>0 < j) g (.int i) (.int j) H Q=Q (g i j) H:=bM8 h
def cH9{i j:Int}{g:Int->Int->V}{H:Hp}{Q:VK}(h:cX3 i j):rI cX3 g (.int i) (.int j) H Q=Q (g i j) H:=bM8 h
theorem bZ8{t:TA}{σ:St}{H:Hp}{Q:VK}:dR2 t σ H Q=t σ H λxs a=>xs.length<=sizeLine/\∀ p,a p=none->Q (.ref p) (upd a p (.lst xs)):=rfl
theorem dA4{K:W.Frag}{T:String}{r:V->List V->Hp->VK->Prop}{to:TE}{t:TA}{σ:St}{H:Hp}{Q:VK}:tBM K T r to t σ H Q=to σ H λx a=>tyV K T x a/\t σ a λxs b=>r x xs b Q:=rfl
def lB{a b:Type}{f:a->b}{ys:List a}{i:Int}:atI (ys.map f) i=(atI ys i).map f:=by
 unfold atI;rw[a1a];cases ixN ys.length i with
 | none=>rfl
 | some j=>simp
def bE{H:Hp}{p:Addr}{o:HO}(h:H p=none):nT H (upd H p o):=λb u e=>by rw[aD (aB e h)];exact e
def dN2(own:List Nat)(g:TG)(d:TT)(e:TE)(σ:St)(J:It)(f:Hp)(F:List V->Hp->Prop):Prop:=
 ∃ W:Nat->Nat->List V->Hp->Prop,(∃ m,W 0 m [] f)/\∀ i m ys H,W i m ys H->ys.length<=sizeLine /\
   ((J.stop i H/\F ys H)\/(J.go i H/\∀ x H',J.yld i H x H'->g x (blank own σ) H' λa h=>d a h λb c=>
     if b=true then e a c λv j=>∃ m',m' < m/\W (i+1) m' (ys++[v]) j else ∃ m',m' < m/\W (i+1) m' ys c))
def dU6(g:TG)(tb:TS)(D:Ends)(σ:St)(J:It)(b:Hp):Prop:=∃ W:Nat->Nat->St->Hp->Prop,(∃ m,W 0 m σ b)/\∀ i m σ H,W i m σ H ->
 (J.stop i H/\D.nx σ H)\/(J.go i H/\∃ N:St->Hp->Prop,(∀ σ' H',N σ' H'->∃ m',m' < m/\W (i+1) m' σ' H')/\∀ x H',J.yld i H x H'->g x σ H' λa c=>tb {D with nx:=N,ct:=N,bk:=D.nx} a c)
theorem aW8{own:List Nat}{a:TI}{g:TG}{b:TT}{c:TE}{σ:St}{H:Hp}{Q:VK}:aO6 own a g b c σ H Q=a σ H λJ d=>dN2 own g b c σ J d λys H'=>∀ p,H' p=none->Q (.ref p) (upd H' p (.lst ys)):=rfl
theorem bZ9{a:TI}{g:TG}{tb:TS}{D:Ends}{σ:St}{H:Hp}:cT9 a g tb D σ H=a σ H λJ H1=>dU6 g tb D σ J H1:=rfl
def dA5(K:W.Frag)(x:V)(a:Hp)(R:It->Hp->Prop):Prop:=match x with
 | .str z=>R (Its z) a
 | .ref p=>(∃ xs,cY a p=some (true,xs)/\R (Itl K p) a)\/∃ xs,cY a p=some (false,xs)/\R (Itt K p) a
 | _=>False
theorem aW9{K:W.Frag}{a:TE}{σ:St}{H:Hp}{R:It->Hp->Prop}:dN0 K a σ H R=a σ H λx b=>dA5 K x b R:=rfl
def pU{K:W.Frag}{p:Addr}{xs:List V}{H:Hp}{R:It->Hp->Prop}(h:cY H p=some (true,xs)):dA5 K (.ref p) H R=R (Itl K p) H:=
 propext ⟨λq=>by
  rcases q with⟨_,_,q⟩ | ⟨_,e,_⟩;exact q;rw[h]at e;exact(nomatch e),λq=>.inl ⟨xs,h,q⟩⟩
theorem aX0{a:TA}{σ:St}{H:Hp}{R:It->Hp->Prop}:cG2 a σ H R=a σ H λvs H1=>∃ j:Int,vs=[.int j] /\ -(2 ^ 62)<=j/\j < 2 ^ 62/\R (Itr 0 j.toNat) H1:=rfl
theorem wX{σ:St}:blank [] σ=σ:=rfl
theorem wY{i:Nat}{r:List Nat}{σ:St}:blank (i::r) σ=blank r (σ.set i none):=rfl
def bN4{i j:Int}:decide (V.int i=V.int j)=decide (i=j):=by
 by_cases h:i=j;subst h;simp;rw[a4k h,a4k λe=>h (V.int.inj e)]
def bN5{i j:Str}:decide (V.str i=V.str j)=decide (i=j):=by
 by_cases h:i=j;subst h;simp;rw[a4k h,a4k λe=>h (V.str.inj e)]
def cI0(sep:Str)(ys:List Str):(Txt.join sep ys).length<=(ys.map (·.length)).sum+ys.length*sep.length:=by
 show(Builtin.Str.glued sep ys).length<=_;rw[StrLaws.glued_eq_join];exact StrLaws.join_length_le sep ys
end L2
namespace L2
def up{p q:Prop}(h:p=q)(a:q):p:=by rw[h];exact a
def bN6{K:PySem.W.Frag}{t:String}:PySem.W.kitOne K (.type t) (.type t)=some true:=by
 unfold PySem.W.kitOne;rw[a3Y (by simp)]
open PySem PySem.Spec PyProof.Rows
section
variable{prog:Program}{w:World}{A:Around}{E:Value->Shared->Prop}
theorem qN{it:Addr}{x:Str}{t:Tok}{ty:String}(f:ty="str_ascii_iterator"\/ty="str_iterator"):∀ (n i:Nat) (s:Shared) (Q:List Value->Shared->Prop),s.heap.IsStrIter it ty x t i->i+n<=x.length ->
  (∀ h' tk us,h'.IsStrIter it ty x t (i+n)->Heap.SameBut it s.heap h'->bN (((eP x).drop i).take n) us->Q us {s with heap:=h',toks:=tk})->wpAny (model prog w) A (draw (.ref it) n) Q E s
 | 0,i,s,Q,hit,_,j=>by
   show wpAny _ _ (pure []) Q E s;exact a3X (by simpa using j s.heap s.toks [] hit (Heap.SameBut.refl ..) (by simpa using(.nil:bN [] [])))
 | n+1,i,s,Q,hit,hle,j=>by
   have g:i < x.cps.size:=by have:x.length=x.cps.size:=rfl;lia
   have k:x.cps[i]? = some x.cps[i]:=by simp[g]
   have hd:(eP x).drop i=V.str ⟨#[x.cps[i]]⟩::(eP x).drop (i+1):=by
    rw[List.drop_eq_getElem_cons (by rw[fJ];exact g)];congr 1;simp[eP]
   show wpAny _ _ (pyNext (.ref it) >>= _) Q E s;have go:∀ b,b.IsStrIter it ty x t (i+1)->Heap.SameBut it s.heap b ->
     wpAny (model prog w) A (match (some (Value.str ⟨#[x.cps[i]]⟩ s.toks))with | none=>pure [] | some v=>do return v::(← holding [v] (draw (.ref it) n))) Q E {s with heap:=b,toks:=s.toks+1}:=λb a c=>by
    refine a3W (a4l (qN f n (i+1) _ _ a (by lia) λh tk us d e l=>a3X ?_));refine j h tk _ (by rw[show i+(n+1)=i+1+n by lia];exact d) (c.trans e) ?_;rw[hd,List.take_succ_cons];exact .cons ⟨_,rfl⟩ l
   rcases f with rfl | rfl;exact a3W (wpAny_pyNext_ascii_item hit k λb a c=>go b a c);exact a3W (wpAny_pyNext_wide_item hit k λb a c=>go b a c)
def uX{s:Shared}{x:Str}{t:Tok}{targets:List (Bool×(Value->Sem Unit))}{Q:Unit->Shared->Prop}(hh:A.handled=none)
  (hn:targets.length=x.length) (hstar:targets.findIdx? (·.1)=none)
  (h:∀ h' tk us,Heap.ExtBut s.heap.objs.size s.heap h'->bN (eP x) us->wpAny (model prog w) A (assignInOrder (targets.map (·.2)) us) Q E {s with heap:=h',toks:=tk}) :
  wpAny (model prog w) A (unpack (.str x t) targets) Q E s:=by
 unfold unpack;rw[hn,hstar];refine a3W (a4l ?_);unfold unpackItems;refine a3W ?_;unfold notIterableAtAll;refine a3W (a4Q (typeIs_str _ _ _) F.slot_str_iter.lookup ?_);refine a3X ?_;simp only[Bool.false_eq_true,if_false];have go:∀ ty,(ty="str_ascii_iterator"\/ty="str_iterator")->wpAny (model prog w) A (do
   let items ← holding [Value.ref s.heap.objs.size] (draw (.ref s.heap.objs.size) x.length)
   if items.length < x.length then
    rule "unpack.too-few";raiseError "ValueError" s!"not enough values to unpack (expected {x.length}, got {items.length})"
   if(← holding items (pyNext (.ref s.heap.objs.size))).isSome then
    rule "unpack.too-many";raiseError "ValueError" s!"too many values to unpack (expected {x.length})"
   return items:Sem (List Value)) (λus s'=>wpAny (model prog w) A (assignInOrder (targets.map (·.2)) us) Q E s') E {s with heap:=s.heap.push {cls:=.type ty,data:=.fields #[.str x t,.int 0 0]}}:=by
  intro ty hty;refine a3W (a4l (qN (it:=s.heap.objs.size) (x:=x) (t:=t) hty x.length 0 _ _ ⟨_,a0b _ rfl,rfl,rfl⟩ (by lia) λh₁ tk us hit₁ hs₁ hv=>?_));have hv':bN (eP x) us:=by
   have e:((eP x).drop 0).take x.length=eP x:=by
    rw[List.drop_zero];exact a2f (by rw[fJ];exact a4a _)
   rw[e]at hv;exact hv
  have hl:us.length=x.length:=by rw[← hv'.length,fJ]
  rw[a3Z (by lia)];have hend:x.cps[x.length]? = none:=by simp[Str.length]
  rw[a6g]at hit₁;have fin:∀ h₂,Heap.ExtBut s.heap.objs.size h₁ h₂->wpAny (model prog w) A (do
    if(none:Option Value).isSome then
     rule "unpack.too-many";raiseError "ValueError" s!"too many values to unpack (expected {x.length})"
    return us:Sem (List Value)) (λus s'=>wpAny (model prog w) A (assignInOrder (targets.map (·.2)) us) Q E s') E {s with heap:=h₂,toks:=tk}:=by
   intro h₂ he₂;simp only[Option.isSome_none,Bool.false_eq_true,if_false];exact a3X (h h₂ tk us (λb o hb e=>he₂ b o hb (hs₁.extBut b o hb (a2a _ e))) hv')
  rcases hty with rfl | rfl;exact a3W (a4l (wpAny_pyNext_ascii_end hh hit₁ hend λh₂ he₂=>fin h₂ he₂));exact a3W (a4l (wpAny_pyNext_wide_end hh hit₁ hend λh₂ he₂=>fin h₂ he₂))
 cases ha:x.cps.all (· < 128)with
 | true=>exact a3W (a4l (wpAny_pyIter_ascii ha (go _ (.inl rfl))))
 | false=>exact a3W (a4l (wpAny_pyIter_wide ha (go _ (.inr rfl))))
end
section
variable{X:Cx}{pos:Pos}
def wZ(K:W.Frag)(n:Nat)(t:TGs):TG:=λv σ H Q=>match v with
 | .str z=>z.length=n/\t (eP z) σ H Q
 | .ref a=>∃ xs,cY H a=some (false,xs)/\xs.length=n/\t xs σ H Q
 | _=>False
def cI1{es:List Expr}{k:Nat}{t:TGs}{n:Nat}(f:X.calm=true)(h:PGs X es t)
  (hn:(assignEach es X.env).length=n:=by rfl) (d:(assignEach es X.env).findIdx? (·.1)=none:=by rfl):PG X (.Tuple es k pos) (wZ X.K n t):=by
 intro pins s σ H v u Q I r c;unfold wZ at c;split at c;rename_i z;obtain⟨hl,c⟩:=c;obtain⟨tk,rfl⟩:=r;rw[assign_Tuple];refine a3W (a4I (uX (I.ok.hd f) (hn.trans hl.symm) d λh' tk us g i=>?_));have j:Inv X pins σ H {s with heap:=h',toks:=tk}:=I.kept λb o e=>g b o (a1d (a2b e)) e;exact h pins _ σ H _ _ Q j i c;rename_i a;obtain⟨xs,l,hl,c⟩:=c;exact cX1 (k:=k) (pos:=pos) f h hn d pins s σ H _ u Q I r ⟨a,xs,rfl,cP l,hl,c⟩;exact c.elim
end
section
variable{X:Cx}
def cA0:List V->Hp->VK->Prop:=λxs H Q=>∃ p b ys,xs=[.ref p]/\cY H p=some (b,ys)/\∀ l,H l=none->Q (.ref l) (upd H l (.lst ys))
def kD:kP X (.type "list") cA0:=by
 intro pins s σ H xs us Q I r h;obtain⟨p,b,ys,rfl,a,q⟩:=h;cases b with
 | true=>exact oM pins s σ H _ us Q I r ⟨p,ys,rfl,.inl (dQ a),q⟩
 | false=>exact oM pins s σ H _ us Q I r ⟨p,ys,rfl,.inr (cP a),q⟩
def cI2:List V->Hp->VK->Prop:=λxs H Q=>∃ p b ys,xs=[.ref p]/\cY H p=some (b,ys)/\if b=true then ∀ l,H l=none->Q (.ref l) (upd H l (.tup ys))else Q (.ref p) H
def lU:kP X (.type "tuple") cI2:=by
 intro pins s σ H xs us Q I r h;obtain⟨p,b,ys,rfl,a,q⟩:=h;cases b with
 | true=>exact lO pins s σ H _ us Q I r ⟨p,ys,rfl,.inl ⟨dQ a,by simpa using q⟩⟩
 | false=>exact lO pins s σ H _ us Q I r ⟨p,ys,rfl,.inr ⟨cP a,by simpa using q⟩⟩
def bN7:R2:=λx y H Q=>match x,y with
 | .int i,.int j=>bL8 i j/\Q (.int (i*j)) H
 | .str z,.int i=>z.length<=1000/\0<=i/\i<=1000/\∀ y:Str,y.length<=z.length*i.toNat->y=Txt.mul z i->Q (.str y) H
 | _,_=>False
def cI3(z:Str)(i:Int)(h0:0<=i):(Txt.mul z i).length<=z.length*i.toNat:=by
 unfold Txt.mul;by_cases b:i < 1;rw[a3Y b];exact a7c _;rw[a3Z b];by_cases c:(i==1||z.length==0)=true
 ·rw[a3Y c];have:1<=i.toNat:=by lia
  calc z.length=z.length*1:=by rw[Nat.mul_one]
   _<=z.length*i.toNat:=Nat.mul_le_mul_left _ this
 ·rw[a3Z c];have a:∀ (k:Nat) (acc:Array Nat),((List.replicate k z.cps).foldl (· ++ ·) acc).size=acc.size+k*z.cps.size:=by
   intro k
   induction k with
   | zero=>intro acc;simp
   | succ k d=>
     intro acc;rw[List.replicate_succ,List.foldl_cons,d,Array.size_append,Nat.succ_mul];lia
  show((List.replicate i.toNat z.cps).foldl (· ++ ·) #[]).size<=_;rw[a];show 0+_<=_;rw[a6g,a4i];exact a4a _
def aH3:OpR X (binaryOp .Mult) bN7:=by
 intro pins s σ H x y v u Q I a b h;unfold bN7 at h;split at h;exact cX5 pins s σ H _ _ v u Q I a b ⟨_,_,rfl,rfl,h.1,h.2⟩
 ·rename_i z i;obtain⟨d,e,j,q⟩:=h;obtain⟨t,rfl⟩:=a;obtain⟨c,rfl⟩:=b;have f:z.length*i.toNat<=1000*1000:=Nat.mul_le_mul d (by lia);refine SB.mul ⟨?_,λha g=>?_,λha g=>?_⟩ λc k=>⟨.str _,H,I.tok k,⟨c,rfl⟩,q _ (cI3 z i e) rfl⟩;rw[a4k (by lia),a4k (by lia)];rfl
  ·have l:(1000:Int)<=(2 ^ 63-1) / i:=by
    rw[Int.le_ediv_iff_mul_le (by lia)];lia
   lia
  ·unfold Builtin.Str.tooLong;exact a4k (by rw[a4G];lia)
 ·exact h.elim
def dR4(neg:Bool):R2:=λx y H Q=>match y with
 | .str j=>(match x with | .str i=>Q (.bl (if neg then(Builtin.Str.occurrences j i 0 j.length 1).isEmpty else !(Builtin.Str.occurrences j i 0 j.length 1).isEmpty)) H | _=>False)
 | .ref p=>∃ b xs,cY H p=some (b,xs)/\qL x=true/\xs.all qL=true/\Q (.bl (if neg then !inV x xs else inV x xs)) H
 | _=>False
def dA6:OpR X (compareOp .In) (dR4 false):=by
 intro pins s σ H x y v u Q I a c h;unfold dR4 at h;split at h;split at h;exact wK pins s σ H _ _ v u Q I a c ⟨_,_,rfl,rfl,by simpa using h⟩;exact h.elim;rename_i p;obtain⟨b,xs,d,e,f,q⟩:=h;exact aV2 pins s σ H _ _ v u Q I a c ⟨p,xs,rfl,by cases b;exact .inr (cP d);exact .inl (dQ d),e,f,q⟩;exact h.elim
end
def cI4{c:TT}{tb:TS}{D:Ends}{σ:St}{H:Hp}(Pv:Nat->St->Hp->Prop)(a:Nat)(h0:Pv a σ H)
  (step:∀ m σ H (N:St->Hp->Prop),Pv m σ H->(∀ σ' H' m',m' < m->Pv m' σ' H'->N σ' H')->c σ H λb d=>if b=true then ∃ M:St->Hp->Prop,(∀ σ' H',M σ' H'->N σ' H')/\tb {D with nx:=M,ct:=M,bk:=D.nx} σ d else D.nx σ d):aG5 c tb D σ H:=by
 refine⟨Pv,⟨a,h0⟩,λm σ H p=>?_⟩;exact step m σ H (λσ' H'=>∃ m',m' < m/\Pv m' σ' H') p λσ' H' m' hm q=>⟨m',hm,q⟩
section
variable{H:Hp}{Q:VK}{i j:Int}{p:Addr}{b:Bool}{xs:List V}
theorem aH4(h:bL8 i j):bN7 (.int i) (.int j) H Q=Q (.int (i*j)) H:=propext ⟨λq=>q.2,λq=>⟨h,q⟩⟩
def pV(h:cY H p=some (b,xs)):cA0 [.ref p] H Q=∀ l,H l=none->Q (.ref l) (upd H l (.lst xs)):=
 propext ⟨λZ1=>by obtain⟨_,_,_,e,h',q⟩:=Z1;cases e;rw[h]at h';cases h';exact q,λq=>⟨p,b,xs,rfl,h,q⟩⟩
def dA7{n:Nat}{d:Int}(h0:0<=d)(a:d < n):ixN n d=some d.toNat:=by unfold ixN;rw[a3Y h0,a3Y a]
def tyL{K:W.Frag}(h:H p=some (.lst xs)):tyV K "list" (.ref p) H:=.inl ⟨rfl,_,SqL.of h⟩
end
end L2
namespace L2
theorem tL{a:Type}:∀ (l:List a) (i:Nat) (h:i < l.length),(l[i]::l.eraseIdx i).Perm l
 | [],i,h=>absurd h (a0g _)
 | x::r,0,_=>by simpa using List.Perm.refl _
 | x::r,i+1,h=>by
   have b:=tL r i (by simpa using h);simp only[List.getElem_cons_succ,List.eraseIdx_cons_succ];exact(List.Perm.swap x _ _).trans (b.cons x)
open PySem
def bN8{x:Str}{j:Int}(h0:0<=j)(a:j<=x.length):(Txt.slice x none (some j)).cps.toList=x.cps.toList.take j.toNat:=by
 have e:=PySem.StrLaws.sliceText_to (x:=x) (j:=j) ⟨h0,by simpa[Str.length]using a⟩;have b:Txt.slice x none (some j)=_:=e;rw[b];simp
def aO9{x:Str}{i:Int}(h0:0<=i)(b:i<=x.length):(Txt.slice x (some i) none).cps.toList=x.cps.toList.drop i.toNat:=by
 have a:i<=x.cps.toList.length:=by simpa[Str.length]using b
 have e:=PySem.StrLaws.sliceText_from (x:=x) (i:=i) ⟨h0,a⟩;have c:Txt.slice x (some i) none=_:=e;rw[c];show(x.cps.toList.drop i.toNat).take _=_;exact a2f (by rw[a0i];lia)
def jL(x:Str):x.length=x.cps.toList.length:=by simp[Str.length]
def iN{xs:List V}{m:Int}(h0:0<=m):pS xs none (some m)=xs.take m.toNat:=by
 unfold pS;obtain⟨n,rfl⟩:=Int.eq_ofNat_of_zero_le h0;rw[HT.sIx_none,HT.sIx_nat,List.drop_zero,Nat.sub_zero];rw[a3j];by_cases h:n<=xs.length;rw[Nat.min_eq_left h];rw[Nat.min_eq_right (by lia),a2f (a4a _),a2f (by lia)]
def xA(zs:List Str):(zs.map V.str).all qL=true:=by
 rw[List.all_map,a8j];intro z _;rfl
open PySem.Spec PyProof.Rows
inductive Dt where
 | non | int (i:Int) | str (x:Str) | tup (l:List Dt)
noncomputable instance:DecidableEq Dt:=λ_ _=>Classical.propDecidable _
mutual
inductive Rep(H:Hp):Dt->V->Prop
 | non:Rep H .non .non
 | int (i:Int):Rep H (.int i) (.int i)
 | str (x:Str):Rep H (.str x) (.str x)
 | tup {l:List Dt} {p:Addr} {xs:List V}:H p=some (.tup xs)->Reps H l xs->Rep H (.tup l) (.ref p)
inductive Reps(H:Hp):List Dt->List V->Prop
 | nil:Reps H [] []
 | cons {d:Dt} {r:List Dt} {x:V} {xs:List V}:Rep H d x->Reps H r xs->Reps H (d::r) (x::xs)
end
def dI(H H':Hp):Prop:=∀ p xs,H p=some (.tup xs)->H' p=some (.tup xs)
def dI.refl(H:Hp):dI H H:=λ_ _ h=>h
def dI.trans{H c d:Hp}(a:dI H c)(b:dI c d):dI H d:=λp xs h=>b p xs (a p xs h)
theorem dI.upd{H:Hp}{p:Addr}{o:HO}(h:∀ xs,H p≠some (.tup xs)):dI H (L2.upd H p o):=λq xs e=>by
 have:q≠p:=λz=>h xs (by rw[← z];exact e);rw[aD this];exact e
mutual
theorem Rep.inj{H:Hp}:∀ {d e:Dt} {x:V},Rep H d x->Rep H e x->d=e
 | _,_,_,.non,h=>by cases h;rfl
 | _,_,_,.int i,h=>by cases h;rfl
 | _,_,_,.str x,h=>by cases h;rfl
 | _,_,_,.tup h r,h'=>by
   cases h' with
   | tup a b=>
     rw[h]at a;cases a;rw[Reps.inj r b]
theorem Reps.inj{H:Hp}:∀ {l m:List Dt} {xs:List V},Reps H l xs->Reps H m xs->l=m
 | _,_,_,.nil,h=>by cases h;rfl
 | _,_,_,.cons a r,h=>by
   cases h with
   | cons a2 b=>rw[Rep.inj a a2,Reps.inj r b]
end
theorem Reps.length{H:Hp}:∀ {l:List Dt} {xs:List V},Reps H l xs->l.length=xs.length
 | _,_,.nil=>rfl
 | _,_,.cons _ r=>by simp[Reps.length r]
theorem Reps.get{H:Hp}:∀ {l:List Dt} {xs:List V} {i:Nat} {d:Dt},Reps H l xs->l[i]? = some d->∃ x,xs[i]? = some x/\Rep H d x
 | _,_,_,_,.nil,h=>by simp at h
 | _,_,0,_,.cons a r,h=>by simp at h;subst h;exact⟨_,rfl,a⟩
 | _,_,i+1,_,.cons a r,h=>by
   obtain⟨x,e,q⟩:=Reps.get (i:=i) r (by simpa using h);exact⟨x,by simpa using e,q⟩
mutual
def Dt.dep:Dt->Nat
 | .tup l=>Dt.deps l+1
 | _=>0
def Dt.deps:List Dt->Nat
 | []=>0
 | d::r=>max d.dep (Dt.deps r)
end
theorem uY:∀ {l:List Dt} {i:Nat} {d:Dt},l[i]? = some d->d.dep<=Dt.deps l
 | [],_,_,h=>by simp at h
 | e::r,0,d,h=>by
   simp at h;subst h;unfold Dt.deps;exact Nat.le_max_left _ _
 | e::r,i+1,d,h=>by
   have:=uY (l:=r) (i:=i) (d:=d) (by simpa using h);unfold Dt.deps;exact a8b this (Nat.le_max_right _ _)
def iO(l m:List Dt):((List.range (min l.length m.length)).all (λj=>decide (l[j]? = m[j]?))&&l.length==m.length)=decide (l=m):=by
 rw[a5f,a6d,a8j,a4o,a4p];constructor;rintro⟨a,b⟩;apply a3i;intro j;by_cases c:j < l.length;have:=a j (a8e.mpr (by lia));exact of_decide_eq_true this;rw[a6c.mpr (by lia),a6c.mpr (by lia)];rintro rfl;exact⟨λj _=>a4C rfl,rfl⟩
section
variable{X:Cx}{pins:List (Addr×Obj)}{σ:St}{H:Hp}{s:Shared}
def bN9(I:Inv X pins σ H s):∀ (n:Nat) {A:Around} {k D:Dt} {x y:V} {u v:Value},A.units+n < cLine->k.dep<=n->Rep H k x->Rep H D y->dM x u->dM y v->SeqAt.EqAt A s u v (decide (k=D)):=by
 intro n
 induction n with
 | zero=>
   intro A k D x y u v T hd F d g a;have b:A.units < cLine:=by lia
   cases F with
   | non=>
     cases g;cases d with
     | non=>cases a;rw[a4C rfl];exact SeqAt.EqAt.same _
     | int i=>obtain⟨t,rfl⟩:=a;rw[a4k (λz=>nomatch z)];exact SeqAt.EqAt.none_int _ _
     | str i=>obtain⟨t,rfl⟩:=a;rw[a4k (λz=>nomatch z)];exact SeqAt.EqAt.none_str _ _
     | tup h r=>
       cases a;rw[a4k (λz=>nomatch z)];obtain⟨its,_,f,_⟩:=I.tuple (SqT.of h);exact SeqAt.EqAt.none_tuple f b
   | int i=>
     obtain⟨t,rfl⟩:=g;cases d with
     | non=>cases a;rw[a4k (λz=>nomatch z)];exact SeqAt.EqAt.int_none _ _
     | int j=>
       obtain⟨o,rfl⟩:=a;have e:decide (Dt.int i=Dt.int j)=(i==j):=by
        rw[a5f,a4o,a4p];exact⟨λz=>by cases z;rfl,λz=>by rw[z]⟩
       rw[e];exact SeqAt.EqAt.int_int _ _ _ _
     | str j=>obtain⟨o,rfl⟩:=a;rw[a4k (λz=>nomatch z)];exact SeqAt.EqAt.int_str _ _ _ _
     | tup h r=>
       cases a;rw[a4k (λz=>nomatch z)];obtain⟨its,_,f,_⟩:=I.tuple (SqT.of h);exact SeqAt.EqAt.int_tuple _ _ f b
   | str i=>
     obtain⟨t,rfl⟩:=g;cases d with
     | non=>cases a;rw[a4k (λz=>nomatch z)];exact SeqAt.EqAt.str_none _ _
     | int j=>obtain⟨o,rfl⟩:=a;rw[a4k (λz=>nomatch z)];exact SeqAt.EqAt.str_int _ _ _ _
     | str j=>
       obtain⟨o,rfl⟩:=a;have e:decide (Dt.str i=Dt.str j)=(i==j):=by
        rw[a5f,a4o,a4p];exact⟨λz=>by cases z;rfl,λz=>by rw[z]⟩
       rw[e];exact SeqAt.EqAt.str_str _ _ _ _
     | tup h r=>
       cases a;rw[a4k (λz=>nomatch z)];obtain⟨its,_,f,_⟩:=I.tuple (SqT.of h);exact SeqAt.EqAt.str_tuple _ _ f b
   | tup h r=>unfold Dt.dep at hd;lia
 | succ n E=>
   intro A k D x y u v T hd F d g a;have b:A.units < cLine:=by lia
   cases F with
   | non=>exact E (by lia) (a7c _) .non d g a
   | int i=>exact E (by lia) (a7c _) (.int i) d g a
   | str i=>exact E (by lia) (a7c _) (.str i) d g a
   | @tup l p xs h r=>
     cases g;obtain⟨its,Q,f,_⟩:=I.tuple (SqT.of h);cases d with
     | non=>cases a;rw[a4k (λz=>nomatch z)];exact SeqAt.EqAt.tuple_none f b
     | int j=>obtain⟨o,rfl⟩:=a;rw[a4k (λz=>nomatch z)];exact SeqAt.EqAt.tuple_int _ _ f b
     | str j=>obtain⟨o,rfl⟩:=a;rw[a4k (λz=>nomatch z)];exact SeqAt.EqAt.tuple_str _ _ f b
     | @tup m q ys G d=>
       cases a;obtain⟨c,w,J,_⟩:=I.tuple (SqT.of G);by_cases B:p=q;subst B;rw[h]at G;cases G;rw[Reps.inj r d,a4C rfl];exact SeqAt.EqAt.same _
       ·have K:Dt.deps l<=n:=by unfold Dt.dep at hd;lia
        have U:its.length=l.length:=by rw[← Q.length,r.length]
        have W:c.length=m.length:=by rw[← w.length,d.length]
        have C:=SeqAt.RcAt.tuples (A:=A) (e:=λj=>decide (l[j]? = m[j]?)) f J b λj Y L=>by
         have M:j < its.length:=by simpa using Y
         have N:j < c.length:=by simpa using L
         have hl:l[j]? = some l[j]:=a0a (by lia);have hm:m[j]? = some m[j]:=a0a (by lia);obtain⟨x',ex,Z⟩:=r.get hl;obtain⟨y',ey,ry⟩:=d.get hm;obtain⟨u',R,O⟩:=Q.get ex;obtain⟨v',S,P⟩:=w.get ey;have:=E (A:=A.in1) (by show A.units+1+n < cLine;lia) (a8b (uY hl) K) Z ry O P;have g1:its.toArray[j]=u':=by
          rw[a0a M]at R;simpa using R
         have g2:c.toArray[j]=v':=by
          rw[a0a N]at S;simpa using S
         rw[g1,g2];have e3:decide (l[j]? = m[j]?)=decide (l[j]=m[j]):=by rw[hl,hm];simp
         rw[e3];exact this
        have e4:((List.range (min its.toArray.size c.toArray.size)).all (λj=>decide (l[j]? = m[j]?))&&its.toArray.size==c.toArray.size)=decide (Dt.tup l=Dt.tup m):=by
         rw[a8a,a8a,U,W,iO];rw[a5f,a4o,a4o];exact⟨λz=>by rw[z],λz=>by cases z;rfl⟩
        rw[e4]at C;exact SeqAt.EqAt.of_refs B C
end
section
variable{X:Cx}{pins:List (Addr×Obj)}{σ:St}{H:Hp}{s:Shared}
def lV(I:Inv X pins σ H s){A:Around}{l m:List Dt}{xs ys:List V}{its a:List Value}(B:A.units+64 < cLine)(hd:Dt.deps l<=60)(g:Reps H l xs)(h:Reps H m ys)(i:bN xs its)(k:bN ys a) :
  ∀ j (n:j < its.toArray.size) (o:j < a.toArray.size),SeqAt.EqAt A.in1 s its.toArray[j] a.toArray[j] (decide (l[j]? = m[j]?)):=by
 intro j n o;have C:its.length=l.length:=by rw[← i.length,g.length]
 have D:a.length=m.length:=by rw[← k.length,h.length]
 have b:j < its.length:=by simpa using n
 have c:j < a.length:=by simpa using o
 have hl:l[j]? = some l[j]:=a0a (by lia);have hm:m[j]? = some m[j]:=a0a (by lia);obtain⟨E,ex,r⟩:=g.get hl;obtain⟨F,t,u⟩:=h.get hm;obtain⟨v,p,d⟩:=i.get ex;obtain⟨w,q,e⟩:=k.get t;have f:=bN9 I 60 (A:=A.in1) (by show A.units+1+60 < cLine;lia) (a8b (uY hl) hd) r u d e;have x:its.toArray[j]=v:=by
  rw[a0a b]at p;simpa using p
 have y:a.toArray[j]=w:=by
  rw[a0a c]at q;simpa using q
 rw[x,y];have z:decide (l[j]? = m[j]?)=decide (l[j]=m[j]):=by rw[hl,hm];simp
 rw[z];exact f
def cU1(neg:Bool):R2:=λx y H Q=>match x,y with
 | .ref p,.ref q=>∃ b xs ys l m,cY H p=some (b,xs)/\cY H q=some (b,ys)/\Reps H l xs/\Reps H m ys/\Dt.deps l<=60/\Q (.bl (if neg then !decide (l=m)else decide (l=m))) H
 | _,_=>cG3 x y=true/\Q (.bl (if neg then !decide (x=y)else decide (x=y))) H
def aH5{l m:List Dt}(h:l.length=m.length):(List.range l.length).all (λj=>decide (l[j]? = m[j]?))=decide (l=m):=by
 have:=iO l m;rw[h,Nat.min_self]at this;rw[h,← this];simp
def lW(n:X.A.units+64 < cLine):OpR X (compareOp .Eq) (cU1 false):=by
 intro pins s σ H x y v u Q I o r h;unfold cU1 at h;split at h
 ·rename_i p q;obtain⟨b,xs,ys,l,m,t,w,e,f,hd,q⟩:=h;cases o;cases r;have j:Q (.bl (decide (l=m))) H:=by simpa using q
  cases b with
  | true=>
    obtain⟨its,c,g,_⟩:=I.list (dQ t);obtain⟨a,d,i,_⟩:=I.list (dQ w);have k:its.length=l.length:=by rw[← c.length,e.length]
    have B:a.length=m.length:=by rw[← d.length,f.length]
    by_cases hs:l.length=m.length;refine SeqAt.eq_listAt g.isList i.isList (by simp only[List.size_toArray];lia) (by lia) (lV I n hd e f c d) (aZ I j ?_);rw[a8a,k,aH5 hs];refine SeqAt.eq_list_lengthsAt g.isList i.isList (by simp only[List.size_toArray,bne_iff_ne];lia) (by lia) (aZ I j ?_);exact a4k λz=>hs (by rw[z])
  | false=>
    obtain⟨its,c,g,_⟩:=I.tuple (cP t);obtain⟨a,d,i,_⟩:=I.tuple (cP w);have k:its.length=l.length:=by rw[← c.length,e.length]
    have B:a.length=m.length:=by rw[← d.length,f.length]
    refine SeqAt.eq_tupleAt g i (by lia) (lV I n hd e f c d) (aZ I j ?_);rw[a8a,a8a,k,B,iO]
 ·exact dM2 pins s σ H _ _ v u Q I o r ⟨h.1,by simpa using h.2⟩
def dA8(n:X.A.units+64 < cLine):OpR X (compareOp .NotEq) (cU1 true):=by
 intro pins s σ H x y v u Q I o r h;unfold cU1 at h;split at h
 ·rename_i p q;obtain⟨b,xs,ys,l,m,t,w,e,f,hd,q⟩:=h;cases o;cases r;have j:Q (.bl (!decide (l=m))) H:=by simpa using q
  cases b with
  | true=>
    obtain⟨its,c,g,_⟩:=I.list (dQ t);obtain⟨a,d,i,_⟩:=I.list (dQ w);have k:its.length=l.length:=by rw[← c.length,e.length]
    have B:a.length=m.length:=by rw[← d.length,f.length]
    by_cases hs:l.length=m.length;refine SeqAt.RcNeAt.lists g.isList i.isList (by simp only[List.size_toArray];lia) (by lia) (lV I n hd e f c d) _ _ _ _ (aZ I j ?_);rw[a8a,k,aH5 hs];refine SeqAt.RcNeAt.lists_lengths g.isList i.isList (by simp only[List.size_toArray,bne_iff_ne];lia) (by lia) _ _ _ _ (aZ I j ?_);rw[a4k λz=>hs (by rw[z])];rfl
  | false=>
    obtain⟨its,c,g,_⟩:=I.tuple (cP t);obtain⟨a,d,i,_⟩:=I.tuple (cP w);have k:its.length=l.length:=by rw[← c.length,e.length]
    have B:a.length=m.length:=by rw[← d.length,f.length]
    refine SeqAt.RcNeAt.tuples g i (by lia) (lV I n hd e f c d) _ _ _ _ (aZ I j ?_);rw[a8a,a8a,k,B,iO]
 ·exact dM3 pins s σ H _ _ v u Q I o r ⟨h.1,by simpa using h.2⟩
theorem aX1{i j:Int}{Q:VK}:cU1 false (.int i) (.int j) H Q=Q (.bl (decide (i=j))) H:=by
 show(cG3 _ _=true/\_)=_;rw[show cG3 (.int i) (.int j)=true from rfl,← bN4];simp
theorem aX2{i j:Str}{Q:VK}:cU1 true (.str i) (.str j) H Q=Q (.bl (!decide (i=j))) H:=by
 show(cG3 _ _=true/\_)=_;rw[show cG3 (.str i) (.str j)=true from rfl,← bN5];simp
end
section
variable{X:Cx}
def cI5{prog:Program}{w:World}{A:Around}{E:Value->Shared->Prop}{s:Shared}{t b:Addr}{ws:List Value}{Q:Value->Shared->Prop}(h:IsTup s.heap t ([]:List Value).toArray)(i:IsTup s.heap b ws.toArray)
  (j:Q (.ref b) s):wpAny (model prog w) A (binaryOp .Add (.ref t) (.ref b)) Q E s:=by
 obtain⟨⟨cls,k,data,sl⟩,e,f,n,hd⟩:=id h;obtain⟨⟨g,d,data2,sl2⟩,a,c,n2,hd2⟩:=id i;simp only at f hd c hd2;subst f hd c hd2;exact concat_meets ⟨_,e,rfl⟩ ⟨_,a,rfl⟩ noFill_tuple_add seq_tuple_add F.slot_tuple_add F.entry_tuple_add (F.args_tuple_add_2 _ _)
   (tuple_addW0 t b ([]:List Value).toArray ws.toArray n n2 k d sl sl2 (by simp)) ⟨e,a,j⟩
def bO0:R2:=λx y H Q=>match x,y with
 | .int i,.int j=>Q (.int (i+j)) H
 | .str a,.str b=>a.length+b.length<=sizeLine/\Q (.str (a++b)) H
 | .ref p,.ref q=>(∃ xs ys,H p=some (.lst xs)/\H q=some (.lst ys)/\xs.length+ys.length<=sizeLine/\∀ r,H r=none->Q (.ref r) (upd H r (.lst (xs++ys)))) \/
   ∃ xs ys,cY H p=some (false,xs)/\cY H q=some (false,ys)/\xs.length+ys.length<=sizeLine/\(xs=[]->Q (.ref q) H)/\(xs≠[]->ys=[]->Q (.ref p) H)/\(xs≠[]->ys≠[]->∀ r,H r=none->Q (.ref r) (upd H r (.tup (xs++ys))))
 | _,_=>False
def gY:OpR X (binaryOp .Add) bO0:=by
 intro pins s σ H x y v u Q I a b h;unfold bO0 at h;split at h;exact cX4 pins s σ H _ _ v u Q I a b ⟨_,_,rfl,rfl,h⟩;exact aN6 pins s σ H _ _ v u Q I a b ⟨_,_,rfl,rfl,h.1,h.2⟩;rename_i p q;rcases h with⟨xs,ys,d,f,g,q⟩ | ⟨xs,ys,d,f,g,j,k,l⟩;exact cZ1 pins s σ H _ _ v u Q I a b ⟨_,_,xs,ys,rfl,rfl,d,f,g,q⟩;by_cases c:xs=[];cases a;cases b;obtain⟨its,m,n,_⟩:=I.tuple (cP d);obtain⟨i,r,o,_⟩:=I.tuple (cP f);have e:its=[]:=m.nil_iff.mpr c;subst e;exact cI5 n o ⟨.ref q,H,I,rfl,j c⟩;exact cG8 pins s σ H _ _ v u Q I a b ⟨p,q,xs,ys,rfl,rfl,cP d,cP f,c,g,k c,l c⟩;exact h.elim
theorem aH6{i j:Int}{H:Hp}{Q:VK}:bO0 (.int i) (.int j) H Q=Q (.int (i+j)) H:=rfl
def dN3(neg:Bool):R2:=λx y H Q=>match y with
 | .non=>Q (.bl (if neg then !decide (x=.non)else decide (x=.non))) H
 | .bl b=>(match x with | .bl a=>Q (.bl (if neg then !decide (a=b)else decide (a=b))) H | _=>False)
 | _=>False
end
section
variable{X:Cx}
def cI6:OpR X (compareOp .IsNot) (dN3 true):=by
 intro pins s σ H x y v u Q I c d h;unfold dN3 at h;split at h;exact cG5 pins s σ H _ _ v u Q I c d ⟨rfl,by simpa using h⟩;split at h;rename_i b a;cases c;cases d;exact isnot_bool (aZ I h (by cases a<;>cases b<;>rfl));exact h.elim;exact h.elim
def cI7:V->List V->Hp->VK->Prop:=λx vs H Q=>∃ (l:Addr) (zs:List Str) (z:Str),x=.ref l/\vs=[.str z]/\H l=some (.lst (zs.map V.str))/\z∈zs/\∀ j,zs[j]? = some z->Q .non (upd H l (.lst ((zs.eraseIdx j).map V.str)))
theorem aA7:∀ {zs:List Str} {us:List Value},bN (zs.map V.str) us->∀ u∈us,∃ z t,u=.str z t
 | [],_,.nil=>λu a=>nomatch a
 | z::r,_,.cons b c=>λu a=>by
   rcases a5b.mp a with e | e;obtain⟨t,q⟩:=b;exact⟨z,t,e.trans q⟩;exact aA7 c u e
noncomputable def isZ(z:Str):Value->Bool
 | .str y _=>y==z
 | _=>false
theorem xB{a b:Type}(f:a->b):∀ (l:List a) (i:Nat),(l.map f).eraseIdx i=(l.eraseIdx i).map f
 | [],i=>by simp
 | x::r,0=>by simp
 | x::r,i+1=>by simp[xB f r i]
def aX3:MtM X "list.remove" cI7:=by
 intro pins s σ H x vs v us Q I C D h;obtain⟨l,zs,z,rfl,rfl,o,E,q⟩:=h;cases C;obtain⟨u,rfl,G⟩:=D.one;obtain⟨t,rfl⟩:=G;obtain⟨a,its,n,r,hl,e⟩:=I.lstM o;have b:zs.idxOf z < zs.length:=List.idxOf_lt_length_of_mem E;have A:its.length=zs.length:=by rw[← hl,a1a]
 have c:∀ (i:Nat) (hi:i < its.toArray.size) (d:i < zs.length),isZ z its.toArray[i]=(zs[i]==z):=λi hi d=>by
  obtain⟨w,B,g⟩:=r.get (i:=i) (x:=V.str zs[i]) (by rw[a6b,a0a d];rfl);obtain⟨j,rfl⟩:=g;have:its.toArray[i]=Value.str zs[i] j:=by
   have J:its[i]? = some its[i]:=a0a (by simpa using hi);rw[J]at B;simpa using B
  rw[this];rfl
 refine a4T F.slot_list_remove ⟨_,e,rfl⟩ F.entry_list_remove (F.args_list_remove_2 _ _)
  (MeetsSeq.list_remove l its.toArray n (.str z t) (isZ z) (λy K=>?_) (zs.idxOf z) (by simp only[List.size_toArray];lia) ?_ (λm hm f=>?_) (by simp only[List.size_toArray];rw[← hl];exact a)) ⟨e,?_⟩
 ·obtain⟨L,j,rfl⟩:=aA7 r y (by simpa using K);exact eqGives_str L z j t
 ·rw[c _ _ b];simp
 ·have k:m < zs.length:=by simp only[List.size_toArray]at hm;lia
  rw[c m hm k];have:=List.not_of_lt_findIdx (p:=(· == z)) (xs:=zs) (i:=m) f;exact this
 ·refine⟨.non,_,I.lset (its':=its.eraseIdx (zs.idxOf z)) o e ?_ ?_ ?_,rfl,q (zs.idxOf z) ?_⟩;show its.toArray.eraseIdxIfInBounds _=(its.eraseIdx _).toArray;rw[List.eraseIdxIfInBounds_toArray];have:=r.eraseIdx (zs.idxOf z);rwa[xB]at this;have:=lP zs (zs.idxOf z);rw[a1a];rw[a1a]at a;lia;rw[a0a b];simp
end
section
variable{prog:Program}{w:World}{A:Around}{E:Value->Shared->Prop}{s:Shared}
def bO1{a:Addr}{o:Obj}{Q:Option Obj->Shared->Prop}(b:s.heap.get? a=some o)(h:Q (some o) s):wpAny (model prog w) A (loadIfAlive a) Q E s:=λΓ p _=>by
 unfold loadIfAlive;rw[Sem.wp_loadIfAlive,b];simpa using h
def aP0(h:Heap)(z TI TO T:Addr)(b:Bool):Prop:=h.get? z=some {cls:=.type "zip",dict:=none,data:=.fields #[rawInt T,.bool b,.bool false,.ref TI,.ref TO],slots:=#[]}
def aP0.heap{h:Heap}{z TI TO T:Addr}{b:Bool}(hz:aP0 h z TI TO T b):h.get? z=some {cls:=.type "zip",dict:=none,data:=.fields #[rawInt T,.bool b,.bool false,.ref TI,.ref TO],slots:=#[]}:=hz
def xC{z TI TO T:Addr}{b:Bool}{o:Obj}{Q:Bool->Shared->Prop}(hz:aP0 s.heap z TI TO T b)(e:s.heap.get? T=some o)
  (h:∀ h',aP0 h' z TI TO T true->Heap.SameBut z s.heap h'->Q false {s with heap:=h'}):wpAny (model prog w) A (Builtin.SmallTypes.ownedTupleIsFree (.ref z)) Q E s:=by
 unfold Builtin.SmallTypes.ownedTupleIsFree;refine a3W (a4m hz.heap rfl (x:=rawInt T) rfl ?_);show wpAny _ _ (loadIfAlive (T:Int).toNat >>= _) _ _ _;refine a3W (bO1 (a:=(T:Int).toNat) (by rw[a3j];exact e) ?_);show wpAny _ _ (if(some o).isNone=true then _ else _) _ _ _;rw[a3Z (by simp)]
 try (refine a3W (a3X ?_))
 show wpAny _ _ (field (.ref z) 1 >>= _) _ _ _;refine a3W (a4m hz.heap rfl (x:=.bool b) rfl ?_);cases b with
 | true=>
   rw[a3Z (by decide)]
   try (refine a3W (a3X ?_))
   exact a3X (h s.heap hz (Heap.SameBut.refl _ _))
 | false=>
   rw[a3Y (by decide)];refine a3W (wpAny_setField_rec hz.heap (by simp) λh' c d=>?_);exact a3X (h h' c d)
def aX4{z TI TO i1 i2 l1 l2 T:Addr}{u:Bool}{o:Obj}{k l:Nat}{xs ys:Array Value}{x y:Value}{Q:Value->Shared->Prop}(D:ZipApart z TI TO i1 i2 l1 l2)
  (hz:aP0 s.heap z TI TO T u) (B:s.heap.get? T=some o) (m:IsPair s.heap TI (.ref i1) (.ref i2))
  (C:s.heap.IsListIter i1 l1 k) (F:s.heap.IsListIter i2 l2 l) (n:s.heap.IsList l1 xs) (p:s.heap.IsList l2 ys) (G:xs[k]? = some x) (H:ys[l]? = some y)
  (I:∀ h',aP0 h' z TI TO T true->h'.IsListIter i1 l1 (k+1)->h'.IsListIter i2 l2 (l+1)->IsPair h' s.heap.objs.size x y->h'.objs.size=s.heap.objs.size+1 ->
   (∀ c o,c≠z->c≠i1->c≠i2->s.heap.get? c=some o->h'.get? c=some o)->Q (.ref s.heap.objs.size) {s with heap:=h'}) :
  wpAny (model prog w) A (Builtin.«zip.__next__» ⟨[.ref z],[]⟩) (λfin s'=>∃ v,fin=.done (.ret v)/\Q v s') E s:=by
 (show wpAny _ _ (field (.ref z) 2 >>= _) _ _ _;refine a3W (a4m hz.heap rfl (x:=.bool false) rfl ?_))
 (show wpAny _ _ (field (.ref z) 3 >>= _) _ _ _;refine a3W (a4m hz.heap rfl (x:=.ref TI) rfl ?_))
 refine a3W (a4t m rfl ?_)
 (show wpAny _ _ (Builtin.SmallTypes.ownedTupleIsFree (.ref z) >>= _) _ _ _;refine a3W (xC hz B λq g a=>?_))
 rw[a3Z (by decide)]
 try (refine a3W (a3X ?_))
 refine a3W ?_;simp only[List.forIn_toArray,List.forIn_cons,List.forIn_nil];refine a3W (a3W (a4l ?_))
 (show wpAny _ _ (Builtin.SmallTypes.nextOf (.ref i1) >>= _) _ _ _;refine a3W (wpAny_nextOf_list_item (C.extBut a.extBut D.i1z) (n.extBut a.extBut D.l1z) G λr h b=>a3X (a3X ?_)))
 refine a3W (a3W (a4l ?_))
 (show wpAny _ _ (Builtin.SmallTypes.nextOf (.ref i2) >>= _) _ _ _;refine a3W (wpAny_nextOf_list_item ((F.extBut a.extBut D.i2z).extBut b.extBut D.i12.symm) ((p.extBut a.extBut D.l2z).extBut b.extBut D.l2i1) H λd i f=>a3X (a3X (a3X ?_))))
 refine a3W (wpAny_newTuple (hsz:=by show 2<=sizeLine;decide) ?_);have hsz:d.objs.size=s.heap.objs.size:=by rw[f.1,b.1,a.1]
 have j:aP0 d z TI TO T true:=f.extBut _ _ D.i2z.symm (b.extBut _ _ D.i1z.symm g);have up:∀ c o,d.get? c=some o->(d.push {cls:=.type "tuple",data:=.seq #[x,y]}).get? c=some o:=λc o e=>a2a _ e;refine a3X ⟨_,rfl,?_⟩;show Q (.ref d.objs.size) _;have t:IsPair (d.push {cls:=.type "tuple",data:=.seq #[x,y]}) d.objs.size x y:=a0b _ rfl;rw[hsz]at t ⊢;exact I _ (up _ _ j) ((h.extBut f.extBut D.i12).at λo e=>up _ o e) (i.at λo e=>up _ o e) t (by rw[a0h,hsz]) λc o J K L e=>up c o (f.extBut _ _ L (b.extBut _ _ K (a.extBut _ _ J e)))
def bO2{z TI TO i1 i2 l1 l2 T:Addr}{H:Bool}{o:Obj}{k l:Nat}{xs ys:Array Value}{Q:Fin->Shared->Prop}(B:A.handled=none)(D:ZipApart z TI TO i1 i2 l1 l2)
  (hz:aP0 s.heap z TI TO T H) (I:s.heap.get? T=some o) (m:IsPair s.heap TI (.ref i1) (.ref i2))
  (C:s.heap.IsListIter i1 l1 k) (J:s.heap.IsListIter i2 l2 l) (g:s.heap.IsList l1 xs) (n:s.heap.IsList l2 ys) (i:xs[k]? = none\/ys[l]? = none)
  (F:∀ h' e,(∀ c o,c≠z->c≠i1->c≠i2->s.heap.get? c=some o->h'.get? c=some o)->(∃ o,h'.get? e=some o/\o.cls=.type "StopIteration")->E (.ref e) {s with heap:=h'}) :
  wpAny (model prog w) A (Builtin.«zip.__next__» ⟨[.ref z],[]⟩) Q E s:=by
 (show wpAny _ _ (field (.ref z) 2 >>= _) _ _ _;refine a3W (a4m hz.heap rfl (x:=.bool false) rfl ?_))
 (show wpAny _ _ (field (.ref z) 3 >>= _) _ _ _;refine a3W (a4m hz.heap rfl (x:=.ref TI) rfl ?_))
 refine a3W (a4t m rfl ?_)
 (show wpAny _ _ (Builtin.SmallTypes.ownedTupleIsFree (.ref z) >>= _) _ _ _;refine a3W (xC hz I λG p a=>?_))
 rw[a3Z (by decide)]
 try (refine a3W (a3X ?_))
 refine a3W ?_;simp only[List.forIn_toArray,List.forIn_cons,List.forIn_nil];refine a3W (a3W (a4l ?_))
 (show wpAny _ _ (Builtin.SmallTypes.nextOf (.ref i1) >>= _) _ _ _)
 cases r:xs[k]? with
 | none=>
   refine a3W (wpAny_nextOf_list_end B (C.extBut a.extBut D.i1z) (g.extBut a.extBut D.l1z) r λd e b t=>F d e (λc o u v _ q=>b _ _ v (a.extBut _ _ u q)) t)
 | some x=>
   have K:ys[l]? = none:=by
    rcases i with h | h;rw[r]at h;exact(nomatch h);exact h
   refine a3W (wpAny_nextOf_list_item (C.extBut a.extBut D.i1z) (g.extBut a.extBut D.l1z) r λd y b=>a3X (a3X ?_));refine a3W (a3W (a4l ?_))
   (show wpAny _ _ (Builtin.SmallTypes.nextOf (.ref i2) >>= _) _ _ _)
   refine a3W (wpAny_nextOf_list_end B ((J.extBut a.extBut D.i2z).extBut b.extBut D.i12.symm) ((n.extBut a.extBut D.l2z).extBut b.extBut D.l2i1) K λj e f t=>?_);exact F j e (λc o u v L q=>f _ _ L (b.extBut _ _ v (a.extBut _ _ u q))) t
def aP1{z TI TO i1 i2 l1 l2 T:Addr}{h:Bool}{o:Obj}{b d:Nat}{xs ys:Array Value}{x y:Value}{Q:Option Value->Shared->Prop}(D:ZipApart z TI TO i1 i2 l1 l2)
  (hz:aP0 s.heap z TI TO T h) (i:s.heap.get? T=some o) (e:IsPair s.heap TI (.ref i1) (.ref i2))
  (j:s.heap.IsListIter i1 l1 b) (k:s.heap.IsListIter i2 l2 d) (f:s.heap.IsList l1 xs) (g:s.heap.IsList l2 ys) (l:xs[b]? = some x) (m:ys[d]? = some y)
  (n:∀ h',aP0 h' z TI TO T true->h'.IsListIter i1 l1 (b+1)->h'.IsListIter i2 l2 (d+1)->IsPair h' s.heap.objs.size x y->h'.objs.size=s.heap.objs.size+1 ->
   (∀ c o,c≠z->c≠i1->c≠i2->s.heap.get? c=some o->h'.get? c=some o)->Q (some (.ref s.heap.objs.size)) {s with heap:=h'}) :
  wpAny (model prog w) A (pyNext (.ref z)) Q E s:=by
 have a:s.TypeIs (.ref z) "zip":=⟨_,hz,rfl⟩
 (unfold pyNext;refine a3W (a4O (wpAny_callSpecial?_slot (name:=Str.ofString "__next__") a F.slot_zip_next ?_)))
 exact a4r F.slot_zip_next a F.entry_zip_next (aX4 D hz i e j k f g l m λh' a1 a3 a4 a5 a6 a7=>a3X (n h' a1 a3 a4 a5 a6 a7)) (F.args_zip_next_1 _)
def aX5{z TI TO i1 i2 l1 l2 T:Addr}{k:Bool}{o:Obj}{i j:Nat}{xs ys:Array Value}{Q:Option Value->Shared->Prop}(l:A.handled=none)(D:ZipApart z TI TO i1 i2 l1 l2)
  (hz:aP0 s.heap z TI TO T k) (m:s.heap.get? T=some o) (f:IsPair s.heap TI (.ref i1) (.ref i2))
  (n:s.heap.IsListIter i1 l1 i) (p:s.heap.IsListIter i2 l2 j) (g:s.heap.IsList l1 xs) (h:s.heap.IsList l2 ys) (a:xs[i]? = none\/ys[j]? = none)
  (q:∀ h',(∀ c o,c≠z->c≠i1->c≠i2->s.heap.get? c=some o->h'.get? c=some o)->Q none {s with heap:=h'}):wpAny (model prog w) A (pyNext (.ref z)) Q E s:=by
 have d:s.TypeIs (.ref z) "zip":=⟨_,hz,rfl⟩
 (unfold pyNext;refine a3W (a4O (wpAny_callSpecial?_slot (name:=Str.ofString "__next__") d F.slot_zip_next ?_)))
 refine a4r F.slot_zip_next d F.entry_zip_next (bO2 l D hz m f n p g h a λh' e r t=>?_) (F.args_zip_next_1 _);obtain⟨o,u,v⟩:=t;exact a3W (wpAny_isInstance (T:="StopIteration") (b:=true) ⟨o,u,v⟩ isSubtype_stop (a3X (q _ r)))
end
noncomputable abbrev gX(acc:Array Value)(c:Nat):Obj:={cls:=.type "list",dict:=none,data:=.seq acc c,slots:=#[]}
structure LoopJ(prog:Program)(w:World)(A:Around)(I S:Addr)(n:Nat)(J:Nat->Array Value->Heap->Prop)(K:Array Value->Heap->Prop):Prop where
 item:∀ i acc (s:Shared) (c:Nat) (Q:Option Value->Shared->Prop) (E:Value->Shared->Prop),i < n->J i acc s.heap->s.heap.get? S=some (gX acc c) ->
  (∀ v h' tk,J (i+1) (acc.push v) h'->h'.get? S=some (gX acc c)->Q (some v) {s with heap:=h',toks:=tk})->wpAny (model prog w) A (pyNext (.ref I)) Q E s
 done:∀ acc (s:Shared) (c:Nat) (Q:Option Value->Shared->Prop) (E:Value->Shared->Prop),J n acc s.heap->s.heap.get? S=some (gX acc c) ->
  (∀ h' tk,K acc h'->h'.get? S=some (gX acc c)->Q none {s with heap:=h',toks:=tk})->wpAny (model prog w) A (pyNext (.ref I)) Q E s
 frame:∀ i acc h h',J i acc h->h'.objs.size=h.objs.size->(∀ b o,b≠S->h.get? b=some o->h'.get? b=some o)->J i acc h'
section
variable{prog:Program}{w:World}{A:Around}{E:Value->Shared->Prop}{I S:Addr}{n:Nat}{J:Nat->Array Value->Heap->Prop}{K:Array Value->Heap->Prop}{R:Result->Shared->Prop}
def bO3(L:LoopJ prog w A.in1 I S n J K)(hn:n<=sizeLine)(res:Value):∀ (k i:Nat) (s:Shared) (acc:Array Value) (c:Nat),n-i=k->i<=n->J i acc s.heap->acc.size=i->s.heap.get? S=some (gX acc c) ->
  (∀ h' tk a j,K a h'->a.size=n->h'.get? S=some (gX a j)->R (.ok (.ret res)) {s with heap:=h',toks:=tk})->codeAny (model prog w) A (.builtin "list.extend.loop" ⟨[.ref S,.ref I,res],[]⟩) R s:=by
 intro k
 induction k with
 | zero=>
   intro i s acc c x hi l ha m p;obtain rfl:i=n:=by lia
   (refine a4v F.entry_extend_loop ?_;rw[a0f a5g _])
   (show wpAny _ A.in1 (pyNext (.ref I) >>= _) _ _ s;refine a3W (L.done acc s c _ _ l m λh' tk q d=>?_))
   exact a3X (p h' tk acc c q ha d)
 | succ k y=>
   intro i s acc c x hi l ha m p;have f:i < n:=by lia
   (refine a4v F.entry_extend_loop ?_;rw[a0f a5g _])
   (show wpAny _ A.in1 (pyNext (.ref I) >>= _) _ _ s;refine a3W (L.item i acc s c _ _ f l m λv h' tk r d=>?_))
   (show wpAny _ A.in1 (updateSeq S (·.push v) >>= _) _ _ _;refine a3W ?_)
   refine a4R d rfl (a3X ⟨a4B a5g _,y (i+1) _ (acc.push v) (c+1) (by lia) f ?_ (by rw[Array.size_push,ha]) ?_ ?_⟩) (by rw[ha];lia) (by show(acc.push v).size<=sizeLine+1;rw[Array.size_push,ha];lia);exact L.frame _ _ _ _ r (Heap.size_update ..) λb o z e=>(a4c _ _ (a5d z)).trans e;rw[a9c _ d rfl];simp[Obj.mapSeq];intro t g a j q u h;exact p t g a j q u h
def cI8(L:LoopJ prog w A.in1 I S n J K)(hn:n<=sizeLine)(res:Value){s:Shared}{c:Nat}{T:String}(p:s.TypeIs (.ref I) T)(i:S≠I)(q:(Value.type T==Value.type "list")=false)(r:(Value.type T==Value.type "tuple")=false)
  (self:∀ Q:Value->Shared->Prop,Q (.ref I) s->wpAny (model prog w) A.in1 (pyIter (.ref I)) Q (λe s'=>R (.error e) s') s)
  (hint:∀ Q:Bool->Shared->Prop,(∀ b,Q b s)->wpAny (model prog w) A.in1 (Builtin.List.listLengthHint (.ref I)) Q (λe s'=>R (.error e) s') s)
  (k:J 0 #[] s.heap) (j:s.heap.get? S=some (gX #[] c)) (l:∀ h' tk a h,K a h'->a.size=n->h'.get? S=some (gX a h)->R (.ok (.ret res)) {s with heap:=h',toks:=tk}) :
  wpAny (model prog w) A.in1 (Builtin.List.listExtendWith (.ref S) (.ref I) res) (λfin s'=>match fin with | .done f=>R (.ok f) s' | .again h=>h.quiet=true/\codeAny (model prog w) A h R s') (λe s'=>R (.error e) s') s:=by
 unfold Builtin.List.listExtendWith;refine a3W (a4D p ?_);have t:Builtin.List.listSameRef (.ref S) (.ref I)=false:=by simp[Builtin.List.listSameRef,i]
 rw[a3Z (by rw[t,q,r];decide)];refine a3W (self _ (a3W (a4l (hint _ λb=>?_))));refine a4U (λ_=>?_) (λ_=>a3X ⟨a4B a5g _,bO3 L hn res n 0 s #[] c rfl (a7c _) k rfl j l⟩)
 (refine a3W (a4S ?_);refine a3W ?_)
 (show wpAny _ _ (updateSeq S (·.push .none) >>= λ_=>updateSeq S (·.pop)) _ _ _;refine a3W (a4R j rfl ?_))
 have d:(s.heap.update S (Obj.mapSeq (·.push Value.none))).get? S=some (gX #[.none] (c+1)):=by
  rw[a9c _ j rfl];simp[Obj.mapSeq]
 refine a4R (hz:=by seq_fits) d rfl ?_;have g:((s.heap.update S (Obj.mapSeq (·.push Value.none))).update S (Obj.mapSeq (·.pop))).get? S=some (gX #[] (c+2)):=by
  rw[a9c _ d rfl];simp[Obj.mapSeq]
 refine a3X ⟨a4B a5g _,bO3 L hn res n 0 _ #[] (c+2) rfl (a7c _) (L.frame _ _ _ _ k ?_ λb o m e=>?_) rfl g l⟩;exact(Heap.size_update ..).trans (Heap.size_update ..);exact(a4c _ _ (a5d m)).trans ((a4c _ _ (a5d m)).trans e)
end
def aX6:typeLookup (.type "zip") "__len__"=pure none:=by(rw[typeLookup_type,a4L];kernel_rfl)
def aP2:typeLookup (.type "zip") "__length_hint__"=pure none:=by(rw[typeLookup_type,a4L];kernel_rfl)
section
variable{prog:Program}{w:World}{A:Around}{E:Value->Shared->Prop}{s:Shared}{I:Addr}{Q:Bool->Shared->Prop}
def bO4(a:s.TypeIs (.ref I) "zip")(h:∀ b,Q b s):wpAny (model prog w) A (Builtin.List.listLengthHint (.ref I)) Q E s:=by
 unfold Builtin.List.listLengthHint;refine a3W (a4Q a aX6 ?_)
 (show wpAny _ A (specialOf (Value.ref I) (Str.ofString "__length_hint__") >>= _) _ _ _;refine a3W (a4Q a aP2 ?_))
 exact a3X (h _)
end
def cI9{X:Cx}{T U:String}{x y:Str}{p c pos a:Pos}{e:Expr}{es:List Expr}{t:TA}{r:List V->Hp->VK->Prop}
  (l:∀ pins s σ H vs us Q,Inv X pins σ H s->bN vs us->r vs H Q->wpAny (model X.prog X.w) X.A (call (.type U) us) (λu s1=>wpAny (model X.prog X.w) X.A (call (.type T) [u]) (EP X pins σ Q) X.xe s1) X.xe s)
  (m:Gl X x) (hm:X.mg x=none) (n:bootBuiltins x=some (.type T)) (d:Gl X y) (f:X.mg y=none) (g:bootBuiltins y=some (.type U)) (ha:PA X (e::es) t)
  (hn:x≠"__name__":=by decide) (i:(x==("__debug__":Str))=false:=by decide) (j:y≠"__name__":=by decide) (b:(y==("__debug__":Str))=false:=by decide)
  (o:starEach (e::es) X.env=(false,eval e X.env)::starEach es X.env:=by rfl) (k:(backTo a (starEach es X.env)).any (·.1)=false:=by rfl)
  (hs:starEach [.Call (.Name y c) (e::es) [] a] X.env=(false,eval (.Call (.Name y c) (e::es) [] a) X.env)::starEach [] X.env:=by rfl) :
  PE X (.Call (.Name x p) [.Call (.Name y c) (e::es) [] a] [] pos) (tCB r t):=by
 intro pins s σ H Q I h;refine a4w (kR I m hm n ?_ hn i);refine a4e ?_ hs (by rfl);rw[hs]
 (show wpAny _ _ (spliced ((false,eval (.Call (.Name y c) (e::es) [] a) X.env)::backTo pos (starEach [] X.env))) _ _ s;refine Calls.spliced_cons ?_)
 refine a4w (kR I d f g ?_ j b);refine a4e ?_ o k;exact thn (ha a pins s σ H _ I h) λus s1 ⟨vs,q,v,z,B⟩=>thn (l pins s1 σ q vs us Q v z B) λu s2 C=>Calls.spliced_nil C
theorem Inv.adoptAll{X:Cx}{pins:List (Addr×Obj)}{σ:St}{s:Shared}:∀ (ps:List (Addr×List V)) {H:Hp},Inv X pins σ H s->(∀ p∈ps,Stray X pins H p.1)->(ps.map (·.1)).Nodup ->
  (∀ p∈ps,p.2.length<=sizeLine/\∃ its:List Value,bN p.2 its/\IsTup s.heap p.1 its.toArray/\dQ4 s.heap p.1) ->
  ∃ H',Inv X pins σ H' s/\nT H H'/\(∀ p∈ps,H' p.1=some (.tup p.2))/\∀ b,(∀ p∈ps,p.1≠b)->H' b=H b
 | [],H,I,_,_,_=>⟨H,I,nT.refl H,(λp l=>absurd l (by simp)),λb _=>rfl⟩
 | p::ps,H,I,hs,e,j=>by
   obtain⟨a,xs⟩:=p;have st:=hs (a,xs) a6a;obtain⟨m,its,n,o⟩:=j (a,xs) a6a;have r:Inv X pins σ (upd H a (.tup xs)) s:=I.adopt st.un st.young st.loc st.cell st.pin ⟨m,its,n,o⟩;rw[a6e,a1j]at e;have h:∀ q∈ps,q.1≠a:=λq c z=>e.1 (a1i.mpr ⟨q,c,z⟩);obtain⟨H',t,d,i,f⟩:=Inv.adoptAll ps r (λq c=>by
    have g:=hs q (a7a _ c);exact⟨by rw[aD (h q c)];exact g.un,g.loc,g.young,g.cell,g.pin⟩) e.2 (λq c=>j q (a7a _ c))
   refine⟨H',t,(bE st.un).trans d,λq c=>?_,λb k=>?_⟩;rcases a5b.mp c with rfl | c;exact d a _ aE;exact i q c;rw[f b λq c=>k q (a7a _ c),aD λz=>k (a,xs) a6a z.symm]
section
variable{prog:Program}{w:World}{A:Around}{E:Value->Shared->Prop}{s:Shared}
end
section
variable{X:Cx}
end
structure ZJ(h0:Heap)(l1 l2:Addr)(xs ys:Array Value)(i:Nat)(acc:Array Value)(h:Heap):Prop where
 keep:∀ b o,h0.get? b=some o->h.get? b=some o
 st:(i=0/\IsZip h (h0.objs.size+4) (h0.objs.size+2) (h0.objs.size+3) .none)\/∃ T b o,aP0 h (h0.objs.size+4) (h0.objs.size+2) (h0.objs.size+3) T b/\h.get? T=some o/\h0.objs.size+6<=T
 ti:IsPair h (h0.objs.size+2) (.ref h0.objs.size) (.ref (h0.objs.size+1))
 to:∃ a b,IsPair h (h0.objs.size+3) a b
 i1:h.IsListIter h0.objs.size l1 i
 i2:h.IsListIter (h0.objs.size+1) l2 i
 sz:h0.objs.size+6<=h.objs.size
 len:acc.size=i
 got:∀ j,j < i->∃ T x y,acc[j]? = some (.ref T)/\xs[j]? = some x/\ys[j]? = some y/\IsPair h T x y/\h0.objs.size+6<=T
 nd:acc.toList.Nodup
structure ZK(h0:Heap)(xs ys:Array Value)(acc:Array Value)(h:Heap):Prop where
 keep:∀ b o,h0.get? b=some o->h.get? b=some o
 got:∀ j,j < min xs.size ys.size->∃ T x y,acc[j]? = some (.ref T)/\xs[j]? = some x/\ys[j]? = some y/\IsPair h T x y/\h0.objs.size+6<=T
 nd:acc.toList.Nodup
section
variable{prog:Program}{w:World}{A:Around}{E:Value->Shared->Prop}{s:Shared}
def aX7{N l1 l2:Addr}(a:l1 < N)(b:l2 < N):ZipApart (N+4) (N+2) (N+3) N (N+1) l1 l2:=by
 constructor<;>(unfold Addr at *;lia)
def aP3{acc:Array Value}{v:Value}(h:acc.toList.Nodup)(hn:∀ j:Nat,acc[j]? ≠ some v):(acc.push v).toList.Nodup:=by
 rw[Array.toList_push,List.nodup_append];refine⟨h,by simp,λa ha b d e=>?_⟩;have c:=a3b.mp d;subst c e;obtain⟨j,f,e⟩:=a4h ha;exact hn j (by rw[← a5c,a0a f,e])
def bO5{h0:Heap}{l1 l2:Addr}{xs ys:Array Value}(hh:A.handled=none)(p:h0.IsList l1 xs)(q:h0.IsList l2 ys) :
  LoopJ prog w A (h0.objs.size+4) (h0.objs.size+5) (min xs.size ys.size) (ZJ h0 l1 l2 xs ys) (ZK h0 xs ys):=by
 have Q:l1 < h0.objs.size:=by obtain⟨_,e,_⟩:=p;exact a2b e
 have R:l2 < h0.objs.size:=by obtain⟨_,e,_⟩:=q;exact a2b e
 have D:=aX7 Q R;have r:∀ {b:Addr} {o:Obj},h0.get? b=some o->b≠h0.objs.size+4/\b≠h0.objs.size+3/\b≠h0.objs.size/\b≠h0.objs.size+1/\b≠h0.objs.size+5:=λe=>by
  have:=a2b e;unfold Addr at *;lia
 refine⟨λi acc s' c Q' E' hi J S f=>?_,λacc s' c Q' E' J S f=>?_,λi acc h h' J g B=>?_⟩
 ·have U:xs[i]? = some xs[i]:=a9b (by lia);have V:ys[i]? = some ys[i]:=a9b (by lia);have F:s'.heap.IsList l1 xs:=p.at λo e=>J.keep _ o e;have L2:s'.heap.IsList l2 ys:=q.at λo e=>J.keep _ o e;have sz:=J.sz
  -- what the next state holds
  have G:∀ h':Heap,((∃ T b o,aP0 h' (h0.objs.size+4) (h0.objs.size+2) (h0.objs.size+3) T b/\h'.get? T=some o/\h0.objs.size+6<=T))->(∃ a b,IsPair h' (h0.objs.size+3) a b)->h'.IsListIter h0.objs.size l1 (i+1)->h'.IsListIter (h0.objs.size+1) l2 (i+1)->IsPair h' s'.heap.objs.size xs[i] ys[i] ->
    h'.objs.size=s'.heap.objs.size+1->(∀ c o,c≠h0.objs.size+4->c≠h0.objs.size+3->c≠h0.objs.size->c≠h0.objs.size+1->s'.heap.get? c=some o->h'.get? c=some o) ->
    ZJ h0 l1 l2 xs ys (i+1) (acc.push (.ref s'.heap.objs.size)) h':=by
   intro h' z1 z2 z3 z4 z5 z6 k;have W:∀ T,h0.objs.size+6<=T->T≠h0.objs.size+4/\T≠h0.objs.size+3/\T≠h0.objs.size/\T≠h0.objs.size+1:=λT s=>by unfold Addr at *;lia
   refine⟨λb o e=>?_,.inr z1,?_,z2,z3,z4,by unfold Addr at *;lia,by rw[Array.size_push,J.len],λj C=>?_,aP3 J.nd λj e=>?_⟩;obtain⟨H,I,K,L,_⟩:=r e;exact k b o H I K L (J.keep b o e);exact k _ _ (by unfold Addr at *;lia) (by unfold Addr at *;lia) (by unfold Addr at *;lia) (by unfold Addr at *;lia) J.ti;by_cases M:j=i;subst M;exact⟨s'.heap.objs.size,_,_,by rw[Array.getElem?_push,J.len,a3Y rfl],U,V,z5,sz⟩;obtain⟨T,x,y,t,N,O,u,E⟩:=J.got j (by lia);obtain⟨H,I,K,L⟩:=W T E;exact⟨T,x,y,by rw[Array.getElem?_push,J.len,a3Z M];exact t,N,O,k _ _ H I K L u,E⟩;by_cases C:j < i
   ·obtain⟨T,x,y,t,_,_,u,_⟩:=J.got j C;rw[t]at e;have eT:T=s'.heap.objs.size:=by cases e;rfl
    have:=a2b u;rw[eT]at this;exact a8d _ this
   ·rw[a7i (by rw[J.len];lia)]at e;cases e
  have sS:∀ h':Heap,(∀ c o,c≠h0.objs.size+4->c≠h0.objs.size+3->c≠h0.objs.size->c≠h0.objs.size+1->s'.heap.get? c=some o->h'.get? c=some o)->h'.get? (h0.objs.size+5)=some (gX acc c):=λh' k=>
   k _ _ (by unfold Addr at *;lia) (by unfold Addr at *;lia) (by unfold Addr at *;lia) (by unfold Addr at *;lia) S
  rcases J.st with⟨rfl,g⟩ | ⟨T,b,o,g,s,l⟩;obtain⟨a,b,d⟩:=J.to;refine wpAny_pyNext_zip_item D g J.ti d J.i1 J.i2 F L2 U V λh' a1 a2 a3 a4 a5 a6 a7=>?_;exact f _ h' s'.toks (G h' ⟨_,false,_,a1,a5,sz⟩ ⟨_,_,a2⟩ a3 a4 a5 a6 a7) (sS h' a7);obtain⟨a,b',d⟩:=J.to;refine aP1 D g s J.ti J.i1 J.i2 F L2 U V λh' a1 a3 a4 a5 a6 a7=>?_;have P:∀ c o,c≠h0.objs.size+4->c≠h0.objs.size+3->c≠h0.objs.size->c≠h0.objs.size+1->s'.heap.get? c=some o->h'.get? c=some o:=λc o X _ Y Z e=>a7 c o X Y Z e;have hT':h'.get? T=some o:=a7 T o (by unfold Addr at *;lia) (by unfold Addr at *;lia) (by unfold Addr at *;lia) s;exact f _ h' s'.toks (G h' ⟨T,true,o,a1,hT',l⟩ ⟨a,b',a7 _ _ (by unfold Addr at *;lia) (by unfold Addr at *;lia) (by unfold Addr at *;lia) d⟩ a3 a4 a5 a6 P) (sS h' P)
 ·have F:s'.heap.IsList l1 xs:=p.at λo e=>J.keep _ o e;have L2:s'.heap.IsList l2 ys:=q.at λo e=>J.keep _ o e;have n:xs[min xs.size ys.size]? = none\/ys[min xs.size ys.size]? = none:=by
   by_cases h:xs.size<=ys.size;exact .inl (a7i (by lia));exact .inr (a7i (by lia))
  have fin:∀ h':Heap,(∀ c o,c≠h0.objs.size+4->c≠h0.objs.size+3->c≠h0.objs.size->c≠h0.objs.size+1->s'.heap.get? c=some o->h'.get? c=some o)->ZK h0 xs ys acc h'/\h'.get? (h0.objs.size+5)=some (gX acc c):=λh' k=>by
   refine⟨⟨λb o e=>?_,λj C=>?_,J.nd⟩,k _ _ (by unfold Addr at *;lia) (by unfold Addr at *;lia) (by unfold Addr at *;lia) (by unfold Addr at *;lia) S⟩;obtain⟨H,I,K,L,_⟩:=r e;exact k b o H I K L (J.keep b o e);obtain⟨T,x,y,t,N,O,u,E⟩:=J.got j C;exact⟨T,x,y,t,N,O,k _ _ (by unfold Addr at *;lia) (by unfold Addr at *;lia) (by unfold Addr at *;lia) (by unfold Addr at *;lia) u,E⟩
  rcases J.st with⟨_,g⟩ | ⟨T,b,o,g,s,l⟩;obtain⟨a,b,d⟩:=J.to;exact wpAny_pyNext_zip_end hh D g J.ti d J.i1 J.i2 F L2 n λh' B=>f h' s'.toks (fin h' B).1 (fin h' B).2;refine aX5 hh D g s J.ti J.i1 J.i2 F L2 n λh' B=>?_;have:=fin h' λc o X _ Y Z e=>B c o X Y Z e;exact f h' s'.toks this.1 this.2
 ·have m:∀ {b:Addr} {o:Obj},b≠h0.objs.size+5->h.get? b=some o->h'.get? b=some o:=λhb e=>B _ _ hb e;refine⟨λb o e=>m (r e).2.2.2.2 (J.keep b o e),?_,m (by unfold Addr at *;lia) J.ti,?_,J.i1.at λo e=>m (by unfold Addr at *;lia) e,J.i2.at λo e=>m (by unfold Addr at *;lia) e,by rw[g];exact J.sz,J.len,λj C=>?_,J.nd⟩;rcases J.st with⟨z,v⟩ | ⟨T,b,o,v,s,l⟩;exact .inl ⟨z,m (by unfold Addr at *;lia) v⟩;exact .inr ⟨T,b,o,m (by unfold Addr at *;lia) v,m (by unfold Addr at *;lia) s,l⟩;obtain⟨a,b,d⟩:=J.to;exact⟨a,b,m (by unfold Addr at *;lia) d⟩;obtain⟨T,x,y,t,N,O,u,E⟩:=J.got j C;exact⟨T,x,y,t,N,O,m (by unfold Addr at *;lia) u,E⟩
end
section
variable{prog:Program}{w:World}{A:Around}{E:Value->Shared->Prop}{s:Shared}
def aA8{h0:Heap}{l1 l2:Addr}{xs ys:Array Value}{Q:List Value->Shared->Prop}(q:A.handled=none)(h:h0.IsList l1 xs)(i:h0.IsList l2 ys)(hn:min xs.size ys.size<=sizeLine)
  (hz:IsZip s.heap (h0.objs.size+4) (h0.objs.size+2) (h0.objs.size+3) .none) (ti:IsPair s.heap (h0.objs.size+2) (.ref h0.objs.size) (.ref (h0.objs.size+1))) (to:IsPair s.heap (h0.objs.size+3) .none .none)
  (i1:s.heap.IsListIter h0.objs.size l1 0) (i2:s.heap.IsListIter (h0.objs.size+1) l2 0) (hsz:s.heap.objs.size=h0.objs.size+5) (r:∀ b o,h0.get? b=some o->s.heap.get? b=some o)
  (t:∀ h' tk acc,ZK h0 xs ys acc h'->acc.size=min xs.size ys.size->Q acc.toList {s with heap:=h',toks:=tk}):wpAny (model prog w) A (collect (.ref (h0.objs.size+4))) Q E s:=by
 have k:∀ R:Result->Shared->Prop,(∀ h' tk acc c,ZK h0 xs ys acc h'->acc.size=min xs.size ys.size->h'.get? (h0.objs.size+5)=some (gX acc c)->R (.ok (.ret (.ref (h0.objs.size+5)))) {s with heap:=h',toks:=tk}) ->
   codeAny (model prog w) A (.builtin "proto.collect" ⟨[.ref (h0.objs.size+4)],[]⟩) R s:=by
  intro R u
  (refine a4v F.entry_proto_collect ?_;rw[a0f F.plain_proto_collect _])
  (show wpAny _ A.in1 (newList [] >>= λl=>again (.builtin "list.__iadd__" ⟨[l,.ref (h0.objs.size+4)],[]⟩)) _ _ s;refine a3W (a4n ?_))
  (refine a3X ⟨a4B F.plain_list_iadd _,a4v F.entry_list_iadd ?_⟩;rw[a0f F.plain_list_iadd _])
  have v:(s.heap.push (gX #[] 0)).get? (h0.objs.size+5)=some (gX #[] 0):=by rw[← hsz];exact a0b _ rfl
  have up:∀ b o,s.heap.get? b=some o->(s.heap.push (gX #[] 0)).get? b=some o:=λb o e=>a2a _ e;have x:(s.heap.push (gX #[] 0)).objs.size=h0.objs.size+6:=by rw[a0h,hsz]
  have d:IsZip (s.heap.push (gX #[] 0)) (h0.objs.size+4) (h0.objs.size+2) (h0.objs.size+3) .none:=up _ _ hz
  (show wpAny _ A.in1 (Builtin.List.listExtendWith (.ref s.heap.objs.size) (.ref (h0.objs.size+4)) (.ref s.heap.objs.size)) _ _ {s with heap:=s.heap.push (gX #[] 0)})
  rw[hsz];have p:Shared.TypeIs {s with heap:=s.heap.push (gX #[] 0)} (.ref (h0.objs.size+4)) "zip":=⟨_,d,rfl⟩;exact cI8 (R:=R) (bO5 (A:=A.in1) q h i) hn (.ref (h0.objs.size+5)) (s:={s with heap:=s.heap.push (gX #[] 0)}) (c:=0) p (by unfold Addr at *;lia) (by decide) (by decide)
   (λy m=>wpAny_pyIter_zip d m) (λy m=>bO4 p m) ⟨λb o e=>up b o (r b o e),.inl ⟨rfl,d⟩,up _ _ ti,⟨_,_,up _ _ to⟩,i1.at λo e=>up _ o e,i2.at λo e=>up _ o e,by rw[x];exact a4a _,rfl,λj z=>absurd z (a0g _),by simp⟩ v
   λh' tk g B n a f=>u h' tk g B n a f
 (unfold collect;refine a3W (wpAny_runValue (k _ λh' tk acc c n a f=>?_)))
 (show wpAny _ A (load (h0.objs.size+5) >>= _) _ _ _;refine a3W (a4X f ?_))
 exact a3X (t h' tk acc n a)
def aA9{h0:Heap}{l1 l2:Addr}{xs ys:Array Value}{Q:Value->Shared->Prop}(k:A.handled=none)(f:h0.IsList l1 xs)(g:h0.IsList l2 ys)(hn:min xs.size ys.size<=sizeLine)
  (hz:IsZip s.heap (h0.objs.size+4) (h0.objs.size+2) (h0.objs.size+3) .none) (ti:IsPair s.heap (h0.objs.size+2) (.ref h0.objs.size) (.ref (h0.objs.size+1))) (to:IsPair s.heap (h0.objs.size+3) .none .none)
  (i1:s.heap.IsListIter h0.objs.size l1 0) (i2:s.heap.IsListIter (h0.objs.size+1) l2 0) (hsz:s.heap.objs.size=h0.objs.size+5) (l:∀ b o,h0.get? b=some o->s.heap.get? b=some o)
  (m:∀ h' tk acc,ZK h0 xs ys acc h'->acc.size=min xs.size ys.size->Q (.ref h'.objs.size) {s with heap:=h'.push {cls:=.type "tuple",data:=.seq acc},toks:=tk}) :
  wpAny (model prog w) A (call (.type "tuple") [.ref (h0.objs.size+4)]) Q E s:=by
 refine callType_codes (Q₁:=λobj a=>a.TypeIs obj "tuple"/\Q obj a) F.called_tuple (F.typeCall_tuple_1 _) F.entry_object_init ?_ λobj a c=>
  ⟨c.1,F.args_object_init_2 obj _,object_init_meets F.called_tuple.init.lookup F.called_tuple.made (by decide) prog w A.in1 _ a ⟨c.1,rfl,c.2⟩⟩
 refine codeAny_of_tree ?_
 (show wpAny _ A.in1.in1 (do checkBuiltinCall "tuple.__new__" ⟨[.type "tuple",.ref (h0.objs.size+4)],[]⟩;again (.builtin "tuple.__new__" ⟨[.type "tuple",.ref (h0.objs.size+4)],[]⟩)) _ _ s)
 (refine a3W (wpAny_of_eq (F.newCall_tuple_1 _) (a3X ⟨a4B F.plain_tuple_new _,a4v F.entry_tuple_new ?_⟩));rw[a0f F.plain_tuple_new _])
 have j:=sub_tuple_self;have h:=init_tuple_lookup;have n:=madeHere_tuple;have i:s.TypeIs (.ref (h0.objs.size+4)) "zip":=⟨_,hz,rfl⟩
 wp_walk using a4D i,aA8 (A:=A.in1.in1) k f g hn hz ti to i1 i2 hsz l
 intro h' tk acc p d
 (show wpAny _ _ (Builtin.Tuple.tupleExact acc.toList.toArray >>= λv=>ret v) _ _ _;unfold Builtin.Tuple.tupleExact)
 refine a3W (a4n ?_ (by show acc.toList.toArray.size<=sizeLine;simp only[Array.toArray_toList];rw[d];exact hn));have e:acc.toList.toArray=acc:=by simp
 rw[e];exact a3X ⟨⟨_,a0b _ rfl,rfl⟩,m h' tk acc p d⟩
end
section
variable{X:Cx}
def cJ0:List V->Hp->VK->Prop:=λvs H Q=>∃ p q xs ys,vs=[.ref p,.ref q]/\H p=some (.lst xs)/\H q=some (.lst ys) /\
 ∀ r (ts:List Addr) H',nT H H'->H r=none->H' r=some (.tup (ts.map V.ref))->ts.length=min xs.length ys.length->(∀ (j:Nat) t,ts[j]? = some t->∃ x y,xs[j]? = some x/\ys[j]? = some y/\H' t=some (.tup [x,y]))->Q (.ref r) H'
def bO6(hc:X.calm=true):∀ pins s σ H vs us Q,Inv X pins σ H s->bN vs us->cJ0 vs H Q ->
  wpAny (model X.prog X.w) X.A (call (.type "zip") us) (λu s1=>wpAny (model X.prog X.w) X.A (call (.type "tuple") [u]) (EP X pins σ Q) X.xe s1) X.xe s:=by
 intro pins s σ H vs us Q I rv h;obtain⟨p,q,xs,ys,rfl,hp,hq,q⟩:=h;obtain⟨u,v,rfl,E,R⟩:=rv.two;cases E;cases R;obtain⟨z1,its1,n1,r1,len1,e1⟩:=I.lstM hp;obtain⟨z2,its2,n2,r2,len2,e2⟩:=I.lstM hq;have F:s.heap.IsList p its1.toArray:=⟨_,e1,rfl,_,rfl⟩;have G:s.heap.IsList _ its2.toArray:=⟨_,e2,rfl,_,rfl⟩;refine call_zip_2 F G λS hz U W Y Z hsz hk=>?_;have hn:min its1.toArray.size its2.toArray.size<=sizeLine:=by simp only[List.size_toArray];lia
 refine aA9 (h0:=s.heap) (s:={s with heap:=S}) (I.ok.hd hc) F G hn hz U W Y Z hsz hk λh' tk acc hK J=>?_;have hacc':acc.size=min its1.length its2.length:=by simpa using J
 -- the addresses of the pairs
 let ts:List Addr:=(List.range acc.size).map λj=>match (acc[j]?:Option Value)with | some (Value.ref T)=>T | _=>(0:Nat)
 have K:ts.length=min xs.length ys.length:=by simp only[ts,List.length_map,List.length_range];lia
 have g:∀ j,j < acc.size->∃ T x y,ts[j]? = some T/\acc[j]? = some (.ref T)/\its1[j]? = some x/\its2[j]? = some y/\IsPair h' T x y/\s.heap.objs.size+6<=T:=λj f=>by
  obtain⟨T,x,y,m,O,P,g4,g5⟩:=hK.got j (by simp only[List.size_toArray];lia);refine⟨T,x,y,?_,m,by simpa using O,by simpa using P,g4,g5⟩;simp only[ts];rw[a6b,List.getElem?_range f,Option.map_some,m]
 let ps:List (Addr×List V):=(List.range acc.size).map λj=>(ts[j]?.getD 0,[xs[j]?.getD .non,ys[j]?.getD .non])
 have I1:Inv X pins σ H {s with heap:=h',toks:=tk}:=I.kept hK.keep;have L:∀ pr∈ps,∃ j T x y u v,j < acc.size/\pr=(T,[x,y])/\ts[j]? = some T/\xs[j]? = some x/\ys[j]? = some y/\its1[j]? = some u/\its2[j]? = some v/\dM x u/\dM y v/\IsPair h' T u v/\s.heap.objs.size+6<=T:=λpr c=>by
  obtain⟨j,f,rfl⟩:=a1i.mp c;have a:=a8e.mp f;obtain⟨T,u,v,B,m,O,P,g4,g5⟩:=g j a;have C:xs[j]? = some xs[j]:=a0a (by lia);have D:ys[j]? = some ys[j]:=a0a (by lia);obtain⟨u',gu,E⟩:=r1.get C;obtain⟨v',gv,n⟩:=r2.get D;rw[O]at gu;cases gu;rw[P]at gv;cases gv;exact⟨j,T,xs[j],ys[j],_,_,a,by rw[B,C,D];rfl,B,C,D,O,P,E,n,g4,g5⟩
 have hnd:(ps.map (·.1)).Nodup:=by
  have:ps.map (·.1)=(List.range acc.size).map λj=>ts[j]?.getD 0:=by simp only[ps,List.map_map];rfl
  rw[this];refine List.pairwise_map.mpr ?_;refine List.Pairwise.imp_of_mem ?_ List.nodup_range;intro i j hi f hne e;have M:=a8e.mp hi;have a:=a8e.mp f;obtain⟨T,_,_,B,m,_⟩:=g i M;obtain⟨T',_,_,g0',g1',_⟩:=g j a;rw[B,g0']at e;have e':T=T':=e;subst e';have S:acc.toList[i]? = acc.toList[j]?:=by rw[a5c,a5c,m,g1']
  exact hne ((List.getElem?_inj (by rw[a9d];exact M) hK.nd).mp S)
 obtain⟨H',I2,d,hat,hoth⟩:=Inv.adoptAll ps I1 (λpr c=>by
   obtain⟨j,T,x,y,u,v,_,rfl,_,_,_,_,_,_,_,hT,hge⟩:=L pr c;exact I.stray (by unfold Addr at *;lia) (I.hok.fresh (by unfold Addr at *;lia))) hnd (λpr c=>by
   obtain⟨j,T,x,y,u,v,_,rfl,_,_,_,_,_,E,n,hT,hge⟩:=L pr c;exact⟨by show 2<=sizeLine;decide,[u,v],.cons E (.cons n .nil),⟨_,hT,rfl,_,rfl⟩,⟨_,hT,rfl⟩⟩)
 have k:H' h'.objs.size=none:=I2.hok.fresh (a4a _);have tv:bN (ts.map V.ref) acc.toList:=by
  have ea:acc.toList=ts.map Value.ref:=by
   apply a3i;intro j;by_cases f:j < acc.size;obtain⟨T,x,y,B,m,_⟩:=g j f;rw[a5c,m,a6b,B];rfl;rw[a6c.mpr (by rw[a9d];lia),a6c.mpr (by simp only[ts,List.length_map,List.length_range];lia)]
  rw[ea];generalize ts=l
  induction l with
  | nil=>exact .nil
  | cons t r ih=>exact .cons rfl ih
 refine⟨.ref h'.objs.size,upd H' h'.objs.size (.tup (ts.map V.ref)),I2.laid (t':=tk) (λb o e=>a2a _ e) (a4a _) ⟨by rw[a1a,K];lia,acc.toList,tv,⟨_,a0b _ rfl,rfl,0,by show Data.seq acc 0=Data.seq acc.toList.toArray 0;rw[Array.toArray_toList]⟩,⟨_,a0b _ rfl,rfl⟩⟩,rfl,?_⟩;refine q _ ts _ (d.trans (bE k)) ?_ aE K λj t f=>?_
 ·cases e:H h'.objs.size with
  | none=>rfl
  | some o=>rw[d _ _ e]at k;cases k
 ·have a:j < acc.size:=by
   have:=(a3a.mp f).1;simp only[ts,List.length_map,List.length_range]at this;exact this
  have N:(ts[j]?.getD 0,[xs[j]?.getD .non,ys[j]?.getD .non])∈ps:=a1i.mpr ⟨j,a8e.mpr a,rfl⟩;have C:xs[j]? = some xs[j]:=a0a (by lia);have D:ys[j]? = some ys[j]:=a0a (by lia);have:=hat _ N;rw[f,C,D]at this;have z:H' t=some (.tup [xs[j],ys[j]]):=this;exact⟨xs[j],ys[j],C,D,bE k _ _ z⟩
end
def lX{own:List Nat}{K:W.Frag}{n:Nat}{t:TGs}(a:bM6 own t):cH5 own (wZ K n t):=λx σ H Q q=>by
 unfold wZ at q ⊢;split at q;exact⟨q.1,a _ _ _ _ q.2⟩;obtain⟨xs,b,c,d⟩:=q;exact⟨xs,b,c,a _ _ _ _ d⟩;exact q.elim
noncomputable def qO(t c:String):Bool:=t==c||(t=="bool"&&c=="int")
def bO7{K:W.Frag}{t c:String}(a:t="NoneType"\/t="int"\/t="bool"\/t="str"\/t="list"\/t="tuple")(b:c="int"\/c="bool"\/c="str"\/c="list"\/c="tuple"):W.kitOne K (.type t) (.type c)=some (qO t c):=by
 rcases a with rfl | rfl | rfl | rfl | rfl | rfl<;>rcases b with rfl | rfl | rfl | rfl | rfl<;>first | exact bN6 | rfl | (unfold W.kitOne;decide +kernel) | (unfold W.kitOne;rfl)
end L2
namespace Mr
open PySem L2 PyProof.Rows
abbrev Sps:=W.Frag->Sp
def bG(H:Hp)(p:Addr):Prop:=∃ i j:Int,H p=some (.lst [.int i,.int j])
def SameBut(p:Addr)(H H':Hp):Prop:=∀ b o,b≠p->H b=some o->H' b=some o
theorem bG.upd{H:Hp}{p q:Addr}{o:HO}(h:bG H p)(a:H q=none):bG (L2.upd H q o) p:=by
 obtain⟨i,j,e⟩:=h;exact⟨i,j,by rw[aD (aB e a)];exact e⟩
def bG.put{H:Hp}{p q:Addr}{o:HO}(h:bG H p)(a:q≠p):bG (L2.upd H q o) p:=by
 obtain⟨i,j,e⟩:=h;exact⟨i,j,by rw[aD a.symm];exact e⟩
def bG.same{H H':Hp}{p:Addr}(h:bG H p)(s:nT H H'):bG H' p:=by
 obtain⟨i,j,e⟩:=h;exact⟨i,j,s _ _ e⟩
def bG.ne{H:Hp}{p q:Addr}(h:bG H p)(a:H q=none):q≠p:=by
 obtain⟨i,j,e⟩:=h;exact(aB e a).symm
theorem SameBut.upd{H a:Hp}{p q:Addr}{o:HO}(h:SameBut p H a)(c:a q=none):SameBut p H (L2.upd a q o):=λb u d e=>by
 have:=h b u d e;rw[aD (aB this c)];exact this
def SameBut.put{H a:Hp}{p q:Addr}{o:HO}(h:SameBut p H a)(c:H q=none):SameBut p H (L2.upd a q o):=λb u d e=>by
 rw[aD (aB e c)];exact h b u d e
def SameBut.trans{p:Addr}{H a c:Hp}(h:SameBut p H a)(h':SameBut p a c):SameBut p H c:=λb u d e=>h' b u d (h b u d e)
def SameBut.same{p:Addr}{H a c:Hp}(h:SameBut p H a)(h':nT a c):SameBut p H c:=λb u d e=>h' b u (h b u d e)
def SameBut.refl{p:Addr}{H:Hp}:SameBut p H H:=λ_ _ _ e=>e
theorem SameBut.none{p q:Addr}{H H':Hp}(h:SameBut p H H')(b:bG H' p)(a:H' q=Option.none):H q=Option.none:=by
 cases e:H q with
 | none=>rfl
 | some o=>
   by_cases z:q=p;subst z;obtain⟨i,j,c⟩:=b;rw[c]at a;cases a;rw[h q o z e]at a;cases a
def SameBut.tup{p:Addr}{H H':Hp}(h:SameBut p H H')(a:bG H p):dI H H':=λq xs e=>by
 refine h q _ (λz=>?_) e;subst z;obtain⟨i,j,b⟩:=a;rw[b]at e;cases e
def aB0:Sps:=λ_ vs H Q _=>∃ (p:Addr) (m:Int),vs=[.ref p,.int m]/\bG H p/\0 < m/\m < 1073741824 /\
 ∀ (d:Int) H',0<=d->d < m->bG H' p->SameBut p H H'->Q (.int d) H'
def xD:Sps:=λ_ vs H Q _=>∃ (p q:Addr) (b:Bool) (xs:List V),vs=[.ref p,.ref q]/\bG H p/\cY H q=some (b,xs)/\xs.length<=1000 /\
 ∀ (r:Addr) (ys:List V) H',H r=none->H' r=some (.lst ys)->ys.Perm xs->bG H' p->SameBut p H H'->Q (.ref r) H'
def Shz(z:Str):Prop:=z.length<=100/\∀ c∈z.cps.toList,c < 128
def lC:Sps:=λ_ vs H Q _=>∃ (p q:Addr) (b:Bool) (xs:List V) (m:Int),vs=[.ref p,.ref q,.int m]/\bG H p/\cY H q=some (b,xs)/\xs.length<=1000/\0<=m /\
 ∀ (r:Addr) (ys:List V) H',H r=none->H' r=some (.tup ys)->ys.length=min m.toNat xs.length->(∀ y∈ys,y∈xs)->bG H' p->SameBut p H H'->Q (.ref r) H'
def gP(zs:List Str):Prop:=∀ z∈zs,Shz z
inductive Tr where
 | leaf (z:Str) | node (l r:Tr)
end Mr
namespace L2
open PySem PyProof.Rows
def aB1{H:Hp}{Q:VK}{p:Addr}{xs:List V}(h:cY H p=some (true,xs)):cI2 [.ref p] H Q=∀ l,H l=none->Q (.ref l) (upd H l (.tup xs)):=
 propext ⟨λZ1=>by obtain⟨_,_,_,e,h',q⟩:=Z1;cases e;rw[h]at h';cases h';simpa using q,λq=>⟨p,true,xs,rfl,h,by simpa using q⟩⟩
def xE{H:Hp}{Q:VK}{p:Addr}{xs:List V}{lo hi:Option Int}(h:cY H p=some (true,xs))(q:∀ r,H r=none->Q (.ref r) (upd H r (.lst (pS xs lo hi)))):dM9 (.ref p) lo hi H Q:=Or.inl ⟨xs,h,q⟩
theorem dR5{i j:Int}:(if j < i then j else i)=min i j:=by
 by_cases h:j < i;rw[a3Y h];lia;rw[a3Z h];lia
theorem dA9{i j:Int}{R:Int->Int->Prop}:(∃ a b,[V.int i,V.int j]=[V.int a,V.int b]/\R a b)=R i j:=
 propext ⟨λZ1=>by obtain⟨a,b,e,q⟩:=Z1;cases e;exact q,λq=>⟨i,j,rfl,q⟩⟩
end L2
namespace L2
open PySem
def jM{t u:TS}{D:Ends}{σ:St}{H:Hp}(M:St->Hp->Prop)(a:∀ σ' H',M σ' H'->u D σ' H')(b:∀ C:St->Hp->Prop,(∀ σ' H',M σ' H'->C σ' H')->t {D with nx:=C} σ H):dK0 t u D σ H:=b (u D) a
theorem lD{zs:List Str}:∀ {ys:List V},(∀ y∈ys,y∈zs.map V.str)->∃ a:List Str,ys=a.map V.str/\∀ c∈a,c∈zs
 | [],_=>⟨[],rfl,λ_ h=>nomatch h⟩
 | y::r,h=>by
   obtain⟨z,d,e⟩:=a1i.mp (h y a6a);obtain⟨a,f,g⟩:=lD (ys:=r) λu i=>h u (a7a _ i);refine⟨z::a,by rw[a6e,← f,e],λc b=>?_⟩;rcases a5b.mp b with rfl | b;exact d;exact g c b
def iP{H:Hp}{f:Addr}{es:List V}{o:HO}(h:H f=some (.lst es)):dI H (upd H f o):=dI.upd λxs e=>by rw[h]at e;cases e
def gQ{H:Hp}{f:Addr}{o:HO}(h:H f=none):dI H (upd H f o):=dI.upd λxs e=>by rw[h]at e;cases e
theorem aH7{z:Str}:∀ {zs:List Str},inV (.str z) (zs.map V.str)=true->z∈zs
 | [],h=>by simp[inV]at h
 | y::r,h=>by
   unfold inV at h;rw[a6e,List.any_cons,Bool.or_eq_true]at h;rcases h with h | h
   ·have:y=z:=by simpa[eqV]using h
    rw[this];exact a6a
   ·exact a7a _ (aH7 h)
end L2
namespace L2
def dK3{a:Type}{x:a}{r:List a}:atI (x::r) 0=some x:=aV0 (j:=0) (by simp)
theorem cA1{K:PySem.W.Frag}{T:String}{r:V->List V->Hp->VK->Prop}{to:TE}{σ:St}{H:Hp}{Q:VK}:dK2 K T r to σ H Q=to σ H λx a=>tyV K T x a/\r x [] a Q:=rfl
end L2
namespace Mr
open PySem L2
def aB2{H:Hp}{w s:Addr}{ws:List Str}{es:List V}(c:H w=some (.lst (ws.map V.str)))(b:H s=some (.lst es)){a:Addr}(ha:V.ref a∈es):w≠s:=by
 intro z;subst z;rw[c]at b;cases b;obtain⟨z,_,e⟩:=a1i.mp ha;cases e
end Mr
namespace L2
open PySem
def qQ{X:Cx}(K:W.Frag)(b:X.K=K){tg l:Expr}{a:TE}(hl:PE X l a):PI X tg l (dN0 K a):=by rw[← b];exact dA1 hl
def dU{X:Cx}{pos:Pos}(K:W.Frag)(b:X.K=K){es:List Expr}{k:Nat}{t:TGs}{n:Nat}(c:X.calm=true)(h:PGs X es t)
  (hn:(assignEach es X.env).length=n:=by rfl) (a:(assignEach es X.env).findIdx? (·.1)=none:=by rfl):PG X (.Tuple es k pos) (wZ K n t):=by rw[← b];exact cI1 c h hn a
section
variable{X:Cx}{o e:Expr}{es:List Expr}{to:TE}{t:TA}{name:Str}{apos cpos:Pos}{T id:String}{r:V->List V->Hp->VK->Prop}
def aX8(K:W.Frag)(d:X.K=K)(e:PlainAttrs T)(slot:Slot T name id)(c:typeOf (.builtin id)=pure (.type "method_descriptor"))(hm:MtR X id r)(f:PE X o to)
  (a:attributeBase o name X.env (eval o X.env)=eval o X.env:=by rfl) (b:(apos.endLine==cpos.line)=true:=by rfl):PE X (.Call (.Attribute o name apos) [] [] cpos) (dK2 K T r to):=by rw[← d];exact cY7 e slot c hm f a b
def iX(K:W.Frag)(g:X.K=K)(h:PlainAttrs T)(slot:Slot T name id)(f:typeOf (.builtin id)=pure (.type "method_descriptor"))(hm:MtR X id r)(i:PE X o to)(ha:PA X (e::es) t)
  (b:attributeBase o name X.env (eval o X.env)=eval o X.env:=by rfl)
  (d:((backTo cpos (starEach (e::es) X.env)).all (λx=>!x.1)&&(backToKw cpos (keywordEach [] X.env)).all (λx=>x.1.isSome)&&decide ((e::es).length+([]:List Keyword).length+(if([]:List Keyword).isEmpty then 0 else 1) < 30))=true:=by rfl)
  (c:(apos.endLine==cpos.line)=true:=by rfl) (hs:starEach (e::es) X.env=(false,eval e X.env)::starEach es X.env:=by rfl) (a:(backTo cpos (starEach es X.env)).any (·.1)=false:=by rfl) :
  PE X (.Call (.Attribute o name apos) (e::es) [] cpos) (tBM K T r to t):=by rw[← g];exact dM7 h slot f hm i ha b d c hs a
end
theorem cA2{i j:Nat}{a:TA}{D:Ends}{σ:St}{H:Hp}:dQ9 i j a D σ H=a σ H λvs H1=>∃ v w,vs=[v,w]/\D.nx ((σ.set i (some v)).set j (some w)) H1:=rfl
theorem cA3{a b:V}{R:V->V->Prop}:(∃ v w,[a,b]=[v,w]/\R v w)=R a b:=propext ⟨λZ1=>by obtain⟨_,_,e,q⟩:=Z1;cases e;exact q,λq=>⟨a,b,rfl,q⟩⟩
end L2
namespace Mr
open PySem L2
end Mr
namespace L2
open PySem
section
variable{H:Hp}{Q:VK}{p q:Addr}{xs:List V}
end
end L2
namespace L2
end L2
namespace Mr
open PySem L2
open PyProof.Rows
section
variable{p q f l sp:Addr}{t:Tr}{v:V}{es ls:List V}{zs:List Str}{H0 H H':Hp}{fs:List V}
end
end Mr
namespace Mr
open PySem L2
def Ne2(zs:List Str):Prop:=∃ x y r,zs=x::y::r/\x≠y
theorem Ne2.take{zs:List Str}(h:Ne2 zs){n:Nat}(hn:2<=n):Ne2 (zs.take n):=by
 obtain⟨x,y,r,rfl,e⟩:=h;obtain⟨m,rfl⟩:∃ m,n=m+2:=⟨n-2,by lia⟩;exact⟨x,y,r.take m,rfl,e⟩
def Ne2.other{zs:List Str}(h:Ne2 zs)(o:Str):∃ (k:Nat) (c:Str),zs[k]? = some c/\c≠o:=by
 obtain⟨x,y,r,rfl,e⟩:=h;by_cases a:x=o;exact⟨1,y,rfl,λz=>e (a.trans z.symm)⟩;exact⟨0,x,rfl,a⟩
def lY:Sps:=λ_ vs H Q _=>∃ (p:Addr) (m:Int),vs=[.ref p,.int m]/\bG H p/\m=6/\0 < m /\
 ∀ (r:Addr) (zs:List Str) H',H r=none->H' r=some (.lst (zs.map V.str))->zs.length=m.toNat->(∀ z∈zs,Shz z)/\Ne2 zs->bG H' p->SameBut p H H'->Q (.ref r) H'
def eL(H:Hp)(es:List V):Prop:=∀ e∈es,∃ (c:Addr) (cs:List Str),e=.ref c/\H c=some (.tup (cs.map V.str))/\(1<=cs.length/\cs.length<=10)/\gP cs
def eL.mono{H H':Hp}{es:List V}(h:eL H es)(t:dI H H'):eL H' es:=λe a=>by
 obtain⟨c,b,d,f,g⟩:=h e a;exact⟨c,b,d,t _ _ f,g⟩
def qR:Sps:=λ_ vs H Q _=>∃ (p q:Addr) (zs:List Str),vs=[.ref p,.ref q]/\bG H p/\H q=some (.lst (zs.map V.str))/\zs.length=6/\(gP zs/\Ne2 zs) /\
 ∀ (r:Addr) (es:List V) H',H r=none->H' r=some (.lst es)->1<=es.length->es.length<=6->eL H' es->bG H' p->SameBut p H H'->Q (.ref r) H'
def dB0(H:Hp)(r:Addr)(zs:List Str):Prop:=∃ es:List V,H r=some (.tup es)/\es.length=zs.length/\∀ (j:Nat) z,zs[j]? = some z->∃ (a c:Addr) (cs:List Str),es[j]? = some (.ref a)/\H a=some (.tup [.str z,.ref c])/\H c=some (.tup (cs.map V.str))/\(1<=cs.length/\cs.length<=10)/\gP cs
def iY:Sps:=λ_ vs H Q _=>∃ (p:Addr) (k:Int),vs=[.ref p,.int k]/\bG H p/\0<=k/\k<=3 /\
 ∀ (r:Addr) (zs:List Str) H',H r=none->dB0 H' r zs->1<=zs.length->zs.length<=6->gP zs->bG H' p->SameBut p H H'->Q (.ref r) H'
def bI(H0:Hp)(g:Addr)(H:Hp)(n:Nat)(es:List V):Prop:=∀ e∈es,∃ (w:Addr) (ws:List Str),e=.ref w/\H w=some (.lst (ws.map V.str))/\(1<=ws.length/\ws.length<=n)/\gP ws/\H0 w=none/\w≠g
end Mr
namespace L2
open PySem
structure Noted(fs:List Addr)(e T:Addr)(oe:Obj)(old:Addr->Prop)(h h':Heap):Prop where
 keep:∀ b o,b≠e->¬ old b->b∉fs->h.get? b=some o->h'.get? b=some o
 slot:∀ b o,b≠e->¬ old b->h.get? b=some o->∃ sl,h'.get? b=some {o with slots:=sl}
 there:∀ b o,h.get? b=some o->∃ o',h'.get? b=some o'
 exc:h'.get? e=some (oe.mapFields (·.setIfInBounds 1 (.ref T)))
 new:h.objs.size<=T
 tb:∃ oT ts,h'.get? T=some oT/\oT.data=.fields ts/\ts[3]? = some .none
section
variable{M:Model}{A:Around}{E:Value->Shared->Prop}{s:Shared}
def aH8{base:Heap}{env:Env}{outer:List Env}{L e:Addr}{oe:Obj}{vs:Array Value}{l:Value}{g:Bool}{Q:Unit->Shared->Prop}
  (B:A.frames=some (env::outer)) (hl:s.heap.FunFrames base (env::outer)) (N:env.frame=some L) (I:s.heap.get? e=some oe) (hd:oe.data=.fields vs) (hsz:1 < vs.size)
  (h:∀ (h':Heap) (T:Addr),Noted ((env::outer).filterMap (·.frame)) e T oe (λ_=>False) s.heap h'->Q () {s with heap:=h'}) :
  wpAny M A (do let a ← frameOf env;let pl ← entryPlaceOf L g;let b ← EntryCells.newEntry l a .none (rawInt L) .none pl;setField (.ref e) 1 b) (λ_ s'=>wpAny M A (setFlight (.ref e) none) Q E s') E s:=by
 have C:e∉(env::outer).filterMap (·.frame):=λhm=>by
  obtain⟨_,o,J,D⟩:=hl.mem hm;rw[I]at J;cases J;exact D vs hd
 refine a3W (wpAny_frameOf_fun B hl N λc i=>?_);refine a3W (wpAny_entryPlaceOf λpl F=>?_);unfold EntryCells.newEntry newFields;refine a3W (a4n ?_ (F.sizeOk5 _ _ _ _ _));have n:c.get? e=some oe:=(i.2.1 e C).trans I;generalize p:({cls:=.type "traceback",dict:=none,data:=.fields ([l,.ref L,.none,rawInt L,.none]++(if pl.isEmpty then List.replicate 6 Value.none else pl)).toArray}:Obj)=d;have r:(c.push d).get? e=some oe:=a2a _ n;have t:c.objs.size≠e:=a0j (a2b n);refine a4z r hd hsz ?_;have u:=a9i hd (·.setIfInBounds 1 (Value.ref c.objs.size));have v:=a9c (Obj.mapFields (·.setIfInBounds 1 (Value.ref c.objs.size))) r (Obj.isFreed_of_fields u);have w:((c.push d).update e (Obj.mapFields (·.setIfInBounds 1 (Value.ref c.objs.size)))).get? c.objs.size=some d:=by
  rw[a4c _ _ (a5d t)];exact a0b c (by rw[← p];rfl)
 have k:∃ ts:Array Value,d.data=.fields ts/\3 < ts.size:=⟨_,by rw[← p],by simp only[List.size_toArray,List.length_append,List.length_cons,List.length_nil];lia⟩;obtain⟨ts,k,K⟩:=k;unfold setFlight;refine a3W (a4m v u (x:=.ref c.objs.size) (by simp[hsz]) ?_);rw[a3Y (show(Value.ref c.objs.size != Value.none)=true from by simp)];refine a4z w k K (h _ c.objs.size ?_);have y:=a9i k (·.setIfInBounds 3 ((none:Option Addr).elim Value.none λf=>rawInt f));have kp:∀ b o,b≠e->c.get? b=some o->(((c.push d).update e (Obj.mapFields (·.setIfInBounds 1 (Value.ref c.objs.size)))).update c.objs.size (Obj.mapFields (·.setIfInBounds 3 ((none:Option Addr).elim Value.none λf=>rawInt f)))).get? b=some o:=λb o j m=>by
  have G:c.objs.size≠b:=a0j (a2b m);rw[a4c _ _ G,a4c _ _ (a5d j)];exact a2a _ m
 have ex:(((c.push d).update e (Obj.mapFields (·.setIfInBounds 1 (Value.ref c.objs.size)))).update c.objs.size (Obj.mapFields (·.setIfInBounds 3 ((none:Option Addr).elim Value.none λf=>rawInt f)))).get? e=some (oe.mapFields (·.setIfInBounds 1 (Value.ref c.objs.size))):=by
  rw[a4c _ _ t];exact v
 refine⟨λb o j _ H m=>kp b o j ((i.2.1 b H).trans m),λb o j _ m=>?_,λb o m=>?_,ex,?_,?_⟩;obtain⟨sl,q⟩:=i.2.2 b o m;exact⟨sl,kp b _ j q⟩;by_cases z:b=e;exact⟨_,by rw[z];exact ex⟩;obtain⟨sl,q⟩:=i.2.2 b o m;exact⟨_,kp b _ z q⟩;show s.heap.objs.size<=c.objs.size;rw[i.1];exact a4a _;refine⟨_,_,a9c _ w (Obj.isFreed_of_fields y),y,?_⟩;simp[K]
def cJ1{base:Heap}{env:Env}{outer:List Env}{L e:Addr}{oe:Obj}{vs:Array Value}{Q:Unit->Shared->Prop}
  (j:A.frames=some (env::outer)) (hl:s.heap.FunFrames base (env::outer)) (r:env.frame=some L) (m:s.heap.get? e=some oe) (hd:oe.data=.fields vs)
  (d:vs[1]? = some .none\/∃ T oT ts,vs[1]? = some (.ref T)/\T≠e/\s.heap.get? T=some oT/\oT.data=.fields ts/\ts[3]? = some .none)
  (h:∀ (h':Heap) (T:Addr),Noted ((env::outer).filterMap (·.frame)) e T oe (λb=>vs[1]? = some (.ref b)) s.heap h'->Q () {s with heap:=h'}) :
  wpAny M A (noteFrame (.ref e) env) (λ_ s'=>wpAny M A (setFlight (.ref e) none) Q E s') E s:=by
 have k:1 < vs.size:=by
  rcases d with q | ⟨_,_,_,q,_⟩<;>exact(a0e.mp q).1
 unfold noteFrame;simp only[r];rcases d with d | ⟨T,oT,ts,d,t,p,c,v⟩;refine a3W (a4m m hd d ?_);rw[a3Z (by decide)];exact aH8 j hl r m hd k λh' T n=>h h' T ⟨λb o x _ y z=>n.keep b o x (λq=>q) y z,λb o x _ z=>n.slot b o x (λq=>q) z,n.there,n.exc,n.new,n.tb⟩;refine a3W (a4m m hd d ?_);rw[a3Y (show(Value.ref T != Value.none)=true from by simp)];refine a3W (a4m p c v ?_);rw[a3Z (show ¬ ((Value.none==rawInt L)=true)from by simp[rawInt])];refine a3W (a4z p c (a0e.mp v).1 ?_);have u:=a9i c (·.setIfInBounds 3 Value.none);have self:=a9c (Obj.mapFields (·.setIfInBounds 3 Value.none)) p (Obj.isFreed_of_fields u);have a:∀ b,b≠T->(s.heap.update T (Obj.mapFields (·.setIfInBounds 3 Value.none))).get? b=s.heap.get? b:=λb f=>a4c _ _ (a5d f);have l:∀ b o,s.heap.get? b=some o->(∀ vs,o.data≠.fields vs)->b≠T:=λb o f g q=>by
  rw[q,p]at f;cases f;exact g ts c
 refine aH8 (s:={s with heap:=s.heap.update T (Obj.mapFields (·.setIfInBounds 3 Value.none))}) j (hl.of_keeps λb o f g=>⟨o,(a b (l b o f g)).trans f,rfl⟩) r ((a e (a5d t)).trans m) hd k λh' B n=>h h' B ⟨λb o x y z q=>?_,λb o x y q=>?_,λb o q=>?_,n.exc,?_,n.tb⟩;have i:b≠T:=λw=>y (by rw[w];exact d);exact n.keep b o x (λq=>q) z ((a b i).trans q);have i:b≠T:=λw=>y (by rw[w];exact d);exact n.slot b o x (λq=>q) ((a b i).trans q);by_cases i:b=T;rw[i];exact n.there T _ self;exact n.there b o ((a b i).trans q);have:=n.new;rw[Heap.size_after_update]at this;exact this
end
open PySem.Spec PyProof.Rows
noncomputable def exo(e:Addr)(C:Value)(d:Option Addr)(tb:Value):HO:=.ext λh=>∃ o vs,h.get? e=some o/\o.cls=C/\o.dict=d/\o.data=.fields vs/\5 < vs.size/\vs[1]? = some tb
section
variable{P:Program}{w:World}{H:Hp}{h:Heap}{e:Addr}{C:Value}{d:Option Addr}{tb:Value}
def aH9{o:Obj}{vs:Array Value}(a:h.get? e=some o)(c:o.cls=C)(hd:o.dict=d)(f:o.data=.fields vs)(hs:5 < vs.size)(b:vs[1]? = some tb):dD P w H h e (exo e C d tb):=
 ⟨⟨o,vs,a,c,hd,f,hs,b⟩,⟨o,a⟩,λb i ⟨o,vs,g,r⟩ k=>⟨o,vs,k o g,r⟩⟩
def cA4(x:dD P w H h e (exo e C d tb)):∃ o vs,h.get? e=some o/\o.cls=C/\o.dict=d/\o.data=.fields vs/\5 < vs.size/\vs[1]? = some tb:=x.1
end
def CXo(P:Program)(w:World):CXT:=λouter H s E x s'=>∃ (e C:Addr) (d:Option Addr) (H':Hp) (T:Addr),
 x=.ref e/\s'.os=s.os/\AllBare s'.gens/\Un (frs outer) [] H H' s.heap s'.heap/\HOk P w H' s'.heap/\H' e=some (exo e (.ref C) d (.ref T))/\s.heap.objs.size<=T/\H' T=none/\T≠e /\
 (∃ oT ts,s'.heap.get? T=some oT/\oT.data=.fields ts/\ts[3]? = some .none)/\∀ a,E (.ref e) d (upd H' e (exo e (.ref C) d (.ref a)))
def lZ{o:Obj}(f:Array Value->Array Value):(o.mapFields f).cls=o.cls:=Obj.cls_mapFields _ _
def kS{o:Obj}(f:Array Value->Array Value):(o.mapFields f).dict=o.dict:=by
 obtain⟨c,d,dt,sl⟩:=o;cases dt<;>rfl
section
variable{X:Cx}{pins:List (Addr×Obj)}{σ:St}{H:Hp}{s:Shared}
def aX9{e T:Addr}{oe:Obj}{vs:Array Value}{old:Addr->Prop}{h':Heap}{C:Value}{d:Option Addr}{tb:Value}(I:Inv X pins σ H s)(m:H e=some (exo e C d tb))(p:s.heap.get? e=some oe)(t:oe.cls=C)(i:oe.dict=d)(hd:oe.data=.fields vs)(hs:5 < vs.size)
  (h:∀ b,old b->H b=none) (n:Noted (frs X.stack) e T oe old s.heap h'):HOk X.prog X.w (upd H e (exo e C d (.ref T))) h':=λb u q=>by
 by_cases j:b=e
 ·subst j;rw[aE]at q;cases q;have k:(vs.setIfInBounds 1 (Value.ref T))[1]? = some (.ref T):=by
   have:1 < vs.size:=by lia
   simp[this]
  refine aH9 n.exc ((lZ _).trans t) ((kS _).trans i) (a9i hd _) (by simpa using hs) k
 ·rw[aD j]at q;have g:∀ c y,H c=some (.own y)->c≠e:=λc y r z=>by rw[z,m]at r;cases r
  refine(I.hok b u q).stay (λc v a r=>?_) (λc r=>by rw[aD (g c b r)];exact r) λc xs r=>by rw[aD (λz=>by rw[z,m]at r;cases r)];exact r
  have x:∃ o,H c=some o:=by
   rcases a with rfl | a;exact⟨u,q⟩;exact⟨_,a⟩
  obtain⟨o',f⟩:=x;have l:c≠e:=by
   rcases a with rfl | a;exact j;exact g c b a
  refine n.keep c v l (λz=>?_) (λz=>?_) r;rw[h c z]at f;cases f;rw[I.stkFree c z]at f;cases f
def bO8{e T:Addr}{oe:Obj}{old:Addr->Prop}{h':Heap}{C:Value}{d:Option Addr}{tb:Value}(I:Inv X pins σ H s)(hex:X.ex=[])(k:X.stack=X.env::X.outer)(l:X.env.frame=some X.env.locals)(i:H e=some (exo e C d tb))
  (g:∀ b,old b->X.s₀.heap.objs.size<=b) (n:Noted (frs X.stack) e T oe old s.heap h'):Un X.fs [] X.H₀ (upd H e (exo e C d (.ref T))) X.s₀.heap h':=by
 have B:=I.base;rw[hex]at B;have j:∀ b o,X.s₀.heap.get? b=some o->¬ old b:=λb o q z=>absurd (a7b (a2b q) (g b z)) (a8d _);have ne:∀ b,H b=none->b≠e:=λb q z=>by rw[z,i]at q;cases q
 have m:∀ b o,X.s₀.heap.get? b=some o->b∉X.fs->b∉frs X.stack:=λb o q f z=>by
  rcases a5b.mp (I.stkSub b z)with r | r;exact absurd (a7b (a2b q) (by rw[r];exact I.ok.above)) (a8d _);exact f r
 have tr:∀ b u,H b=some u->(∀ x,u≠.ext x)->(upd H e (exo e C d (.ref T))) b=some u:=λb u q a=>by
  rw[aD (λz=>by rw[z,i]at q;exact a _ (a5a q).symm)];exact q
 refine⟨λb o q c f a=>?_,λb o q c f a=>?_,λb o q c a=>?_,λb o q a=>?_,λb xs q=>tr b _ (B.tups b xs q) (λx z=>nomatch z),λb o u q=>tr b _ (B.frzs b o u q) (λx z=>nomatch z),λb ps q=>?_⟩;exact n.keep b o (ne b (B.free b o q c a)) (j b o q) (m b o q f) (B.keep b o q c f a);obtain⟨sl,r⟩:=B.slot b o q c f a;obtain⟨h,p⟩:=n.slot b _ (ne b (B.free b o q c a)) (j b o q) r;exact⟨h,p⟩;rw[aD (ne b (B.free b o q c a))];exact B.free b o q c a;obtain⟨o',r⟩:=B.there b o q a;exact n.there b o' r;obtain⟨more,r⟩:=B.tbls b ps q;exact⟨more,tr b _ r (λx z=>nomatch z)⟩
end
section
variable{P:Program}{w:World}{K:W.Frag}{mg:Str->Option Value}{base:Heap}{N:List Str}{qual:Str}{scope:Scope}{f:Addr}{cd:Value}{A:Around}{outer:List Env}{s:Shared}{H:Hp}{E:XK}
def aY0{pins:List (Addr×Obj)}{σ:St}{H1:Hp}{s1:Shared}{e C:Addr}{d:Option Addr}{tb:Value}(I:Inv (zW (CXo P w) P w K mg base N qual scope f cd A outer s H E) pins σ H1 s1)
  (j:H1 e=some (exo e (.ref C) d tb)) (o:tb=.none\/∃ T oT ts,tb=.ref T/\T≠e/\s1.heap.get? T=some oT/\oT.data=.fields ts/\ts[3]? = some .none)
  (g:∀ b,tb=.ref b->s.heap.objs.size<=b/\H1 b=none) (p:∀ T,E (.ref e) d (upd H1 e (exo e (.ref C) d (.ref T)))) :
  (zW (CXo P w) P w K mg base N qual scope f cd A outer s H E).xe (.ref e) s1:=by
 obtain⟨oe,vs,h,q,k,hd,hs,l⟩:=cA4 (I.hok e _ j);show wpAny (model P w) (A.deeper (envOfC qual scope s.heap.objs.size f cd)) (leaving (envOfC qual scope s.heap.objs.size f cd) (.ref e)) _ _ s1;unfold leaving;have m:vs[1]? = some .none\/∃ T oT ts,vs[1]? = some (.ref T)/\T≠e/\s1.heap.get? T=some oT/\oT.data=.fields ts/\ts[3]? = some .none:=by
  rcases o with rfl | ⟨T,oT,ts,rfl,r⟩;exact .inl l;exact .inr ⟨T,oT,ts,l,r⟩
 have a:∀ b,vs[1]? = some (.ref b)->s.heap.objs.size<=b/\H1 b=none:=λb z=>by
  rw[l]at z;exact g b (a5a z)
 refine a3W (cJ1 (L:=s.heap.objs.size) (base:=base) I.ok.frames I.stack rfl h hd m λh' T n=>?_);have c:H1 T=none:=I.hok.fresh n.new;have i:T≠e:=λz=>by rw[z,j]at c;cases c
 refine⟨e,C,d,upd H1 e (exo e (.ref C) d (.ref T)),T,rfl,I.os,I.bare,bO8 I rfl rfl rfl j (λb z=>(a b z).1) n,aX9 I j h q k hd hs (λb z=>(a b z).2) n,aE,a8b I.sz n.new,by rw[aD i];exact c,i,?_,λt=>by rw[cF8];exact p t⟩;obtain⟨oT,ts,u,v,x⟩:=n.tb;exact⟨oT,ts,u,v,x⟩
def bO9{pins:List (Addr×Obj)}{σ:St}{a:Hp}{s1:Shared}{e C:Addr}{d:Option Addr}(I:Inv (zW (CXo P w) P w K mg base N qual scope f cd A outer s H E) pins σ a s1)
  (c:a e=some (exo e (.ref C) d .none)) (g:∀ T,E (.ref e) d (upd a e (exo e (.ref C) d (.ref T)))):(zW (CXo P w) P w K mg base N qual scope f cd A outer s H E).xe (.ref e) s1:=
 aY0 I c (.inl rfl) (λb z=>nomatch z) g
def Fun.okX{x:Str}{st:Stmt}{fd:FuncData}{ps:List Str}{k:Nat}{sp:Sp}(F:Fun K x qual st f fd)(S:FnScope N ps (aH st))(len:∀ vs H Q E,sp vs H Q E->vs.length=ps.length)
  (a:∀ (cdv:Value) (A:Around) (outer:List Env) (s:Shared) (H:Hp) (vs:List V) (Q:VK) (E:XK),Room k (A.deeper (envOfC qual (aH st) s.heap.objs.size f cdv))->sp vs H Q E ->
   ∃ t,PSs (zW (CXo P w) P w K mg base N qual (aH st) f cdv A outer s H E) (jG st) t/\t {nx:=λ_ H'=>Q .non H',rt:=Q} (dE N vs) H):FnOk P w K mg base (CXo P w) (k+1) f fd ps sp:=by
 obtain⟨oc,od,kV,doc,pm,an,cdv,ct,osl,rfl,lk,b⟩:=F.ex;exact cY0 lk b S len λA outer s H vs Q E hr c=>a cdv A outer s H vs Q E hr c
end
end L2
namespace PySem
noncomputable abbrev dN4(cG:List Value):Obj:={cls:=.type "tuple",data:=.seq cG.toArray}
noncomputable abbrev dR6(C p:Addr):Obj:={cls:=.ref C,data:=.fields #[.ref p,.none,.none,.none,.bool false,.none]}
noncomputable abbrev aY1(h:Heap)(C:Addr)(cG:List Value):Heap:=(h.push (dN4 cG)).push (dR6 C h.objs.size)
def jN{h:Heap}{C b:Addr}{cG:List Value}{o:Obj}(e:h.get? b=some o):(aY1 h C cG).get? b=some o:=a2a _ (a2a _ e)
def xF{h:Heap}{C:Addr}{cG:List Value}:(aY1 h C cG).get? (h.objs.size+1)=some (dR6 C h.objs.size):=by heap_get
def aP4{h:Heap}{C:Addr}{cG:List Value}:Heap.MadeExcOf h (aY1 h C cG) (h.objs.size+1) (.ref C) cG:=
 ⟨λ_ _ e=>jN e,Heap.get?_none_of_le (Nat.le_succ _),_,xF,Heap.get?_none_of_le (a4a _),a2a _ (Heap.get?_push_at rfl rfl)⟩
section
variable{prog:Program}{w:World}{E:Value->Shared->Prop}{A:Around}{os:OsState}{h:Heap}{t:Nat}{g:Array GenState}{d:Drawn}{cG:List Value}{fI:Addr}{oI:Obj}{mN:Str->Option Value}
 {nm q:Str} {B newId initId:String} {C N:Addr} {bs bm bmB sub:List Value} {hdct ab:Bool} {sn:List Str} {col:Option Bool} {dd:Option Addr} {k0 k1 k2 k3 k5:Option Value}
def mB{Q:Fin->Shared->Prop}(F:ExcBaseFacts B newId initId bmB)(T:OwnTail h bmB bm)(a:h.get? C=some (excClassObj nm q C N bs bm hdct sn sub ab col dd k0 k1 k2 k3 k5 newId))(hn:h.Ns N mN)
  (hi:mN "__init__"=some (.ref fI)) (f:h.get? fI=some oI) (i:oI.cls=.type "function") (j:∀ h' e,Heap.MadeExcOf h h' e (.ref C) cG->wpAny (model prog w) A (call (.ref fI) (.ref e::cG)) (λr s'=>r=.none/\Q (.done (.ret (.ref e))) s') E ⟨h',g,d,t,os⟩)
  (hrest:cG.length<=sizeLine):wpAny (model prog w) A (Builtin.«type.__call__» ⟨.ref C::cG,[]⟩) Q E ⟨h,g,d,t,os⟩:=by
 have b:=j _ _ (aP4 (h:=h) (C:=C) (cG:=cG));have cls:=jN (C:=C) (cG:=cG) a;have fn:=jN (C:=C) (cG:=cG) f;have names:(aY1 h C cG).Ns N mN:=by obtain⟨o,es,ep,e,r⟩:=hn;exact⟨o,es,ep,jN e,r⟩
 have c:=T.keeps (h':=aY1 h C cG) λ_ _ e=>jN e;have own:(Value.ref C::bm).contains (.ref C)=true:=by simp
 repeat (first | (with_reducible refine wpAny_madeBy_exc a ?_) | (with_reducible refine a4J a ?_) | wp_step)
 refine codeAny_call_builtin_code (Code.quiet_builtin _ F.quiet) (wpAny_check_new_subT F T a (codeAny_exc_new_subT F T a ?_ hrest));show wpAny _ _ _ _ _ _;unfold isInstance
 repeat (first | (with_reducible refine wpAny_isSubtype_exc cls ?_;rw[own]) | (with_reducible refine a4J xF ?_) | wp_step)
 show wpAny _ _ (typeLookup (.ref C) _) _ _ _;refine wpAny_typeLookup_tail cls names c F.mroIs F.init.lookup ?_;rw[hi];refine a4l (a3W ?_);unfold bindSpecial;refine a3W (a4D (T:="function") ⟨_,fn,i⟩ ?_);rw[a3Y (by decide)];refine a3X (a3W (a4x b (λr s' hr=>?_) λ_ _ x=>x));obtain⟨rfl,z⟩:=hr;wp_walk;exact z
def uZ{Q:Value->Shared->Prop}(F:ExcBaseFacts B newId initId bmB)(T:OwnTail h bmB bm)(a:h.get? C=some (excClassObj nm q C N bs bm hdct sn sub ab col dd k0 k1 k2 k3 k5 newId))(hn:h.Ns N mN)
  (hi:mN "__init__"=some (.ref fI)) (b:h.get? fI=some oI) (c:oI.cls=.type "function") (f:∀ h' e,Heap.MadeExcOf h h' e (.ref C) cG->wpAny (model prog w) (A.under (.builtin "type.__call__" ⟨.ref C::cG,[]⟩)) (call (.ref fI) (.ref e::cG)) (λr s'=>r=.none/\Q (.ref e) s') E ⟨h',g,d,t,os⟩)
  (hrest:cG.length<=sizeLine):wpAny (model prog w) A (call (.ref C) cG) Q E ⟨h,g,d,t,os⟩:=by
 have i:=tc_bind (.ref C);have j:=tc_lookup;have ty:(⟨h,g,d,t,os⟩:Shared).TypeIs (.ref C) "type":=⟨_,a,rfl⟩;refine a4Y (codeAny_of_tree (show wpAny _ _ (callAny (.ref C) _) _ _ _ from ?_))
 repeat (any_goals (first | (with_reducible refine a4J a ?_) | assumption | wp_step))
 exact⟨rfl,codeAny_call_builtin_at (Code.quiet_builtin _ (by decide +kernel)) entry_typeCall (wpAny_check_type_call_sub a (mB (hrest:=hrest) F T a hn hi b c f))⟩
end
end PySem
namespace L2
open PySem PySem.Spec PyProof.Rows
section
variable{P:Program}{w:World}{H:Hp}{h:Heap}{a:Addr}{o:HO}
def dD.there(x:dD P w H h a o):∃ ob,h.get? a=some ob:=by
 cases o with
 | lst xs=>obtain⟨_,_,_,_,e⟩:=x;exact⟨_,e⟩
 | tup xs=>obtain⟨_,_,_,⟨ob,e,_⟩,_⟩:=x;exact⟨ob,e⟩
 | dK kvs=>obtain⟨_,_,_,_,o,_,_,e,_⟩:=x;exact⟨_,e⟩
 | dT kvs=>obtain⟨_,_,_,_,o,_,_,e,_⟩:=x;exact⟨_,e⟩
 | set S n=>obtain⟨o,_,_,_,e,_⟩:=x;exact⟨_,e⟩
 | ins C dx fs=>obtain⟨_,_,_,e,_⟩:=x;exact⟨_,e⟩
 | own y=>exact x
 | xd fs=>obtain⟨_,⟨_,_,_,e,_⟩,_⟩:=x;exact⟨_,e⟩
 | rng lo hi=>obtain⟨_,_,_,e⟩:=x;exact⟨_,e⟩
 | frz ob u=>obtain⟨e,_⟩:=x;exact⟨_,e⟩
 | tbl ps=>exact⟨_,(show h.get? a=some _ from x)⟩
 | met f y=>exact⟨_,(show h.get? a=some _ from x)⟩
 | ext φ=>obtain⟨_,e,_⟩:=x;exact e
def HOk.none_of(x:HOk P w H h)(e:h.get? a=none):H a=none:=by
 cases q:H a with
 | none=>rfl
 | some u=>
   obtain⟨ob,r⟩:=(x a u q).there;rw[e]at r;cases r
end
section
variable{X:Cx}{pins:List (Addr×Obj)}{σ:St}{H:Hp}{s:Shared}
def Inv.laidN{a:Addr}{o:HO}{h':Heap}{t':Nat}(I:Inv X pins σ H s)(k:∀ b u,s.heap.get? b=some u->h'.get? b=some u)(d:s.heap.get? a=none)(new:dD X.prog X.w (upd H a o) h' a o):Inv X pins σ (upd H a o) {s with heap:=h',toks:=t'}:=by
 have hn:H a=none:=I.hok.none_of d;refine I.un ⟨λb u q _ _ _=>k b u q,λb u q _ _ _=>⟨u.slots,k b u q⟩,λb u q n _=>by rw[aD (λz=>by rw[z,d]at q;cases q)];exact n,λb u q _=>⟨u,k b u q⟩,
  λb xs q=>by rw[aD (aB q hn)];exact q,λb u xs q=>by rw[aD (aB q hn)];exact q,λb ps q=>⟨#[],by rw[aD (aB q hn),q];simp⟩⟩ λb u e=>?_
 by_cases f:b=a;subst f;rw[aE]at e;cases e;exact new;rw[aD f]at e;exact(I.hok b u e).stay (λc v _ q=>k c v q) (λc q=>by rw[aD (aB q hn)];exact q) λc xs q=>by rw[aD (aB q hn)];exact q
end
noncomputable def aS7(K:W.Frag)(C f:Addr)(b:List Value)(a:String):Bool:=match K.lookup C with
 | some ⟨.type "type",_,.cls c,l⟩=>match c.mro,l.toList with
   | .ref D::r,[_,_,_,_,some (.builtin n),_]=>D==C&&n==a && !c.hasDel&&W.tailIn K b r&&W.nsOkIn K c.ns&&W.nsIn K c.ns "__init__"==some (some (.ref f))
   | _,_=>false
 | _=>false
def aP5{K:W.Frag}{h:Heap}{N:Addr}{m:Str->Option Value}{n:Str}{v:Value}(X:K.In h)(G:h.Ns N m)(e:W.nsIn K N n=some (some v)):m n=some v:=by
 obtain⟨o,es,ep,a,hd,_,b⟩:=G;unfold W.nsIn at e;split at e;rename_i q;have:=X _ _ q;rw[a]at this;cases this;cases hd;split at e;rename_i c;cases e;rw[← b];unfold nsFind findBy;rw[← Array.find?_toList,c];rfl;split at e<;>cases e;cases e
def aB3{K:W.Frag}{h:Heap}{C f:Addr}{d:List Value}{a:String}(X:K.In h)(q:aS7 K C f d a=true) :
  ∃ bm N p r bs e s sub t c u i j k m o mN,h.get? C=some (excClassObj p r C N bs bm e s sub t c u i j k m o a)/\h.Ns N mN/\mN "__init__"=some (.ref f)/\OwnTail h d bm:=by
 unfold aS7 at q;split at q
 ·rename_i u cd sl w;split at q
  ·rename_i D bm i j k m n o hm hs;simp only[Bool.and_eq_true,beq_iff_eq,Bool.not_eq_true']at q;obtain⟨⟨⟨⟨⟨x,y⟩,b⟩,z⟩,hok⟩,g⟩:=q;subst x;subst y;obtain⟨p,bs,mro,ns,r,hd,s,sub,t,c,A⟩:=cd;dsimp only at hm b hok g;subst hm;subst b;have v:sl=#[i,j,k,m,some (.builtin n),o]:=by
    obtain⟨l⟩:=sl;simp only at hs;rw[hs]
   subst v;have G:=Heap.Ns.of_isNs (W.isNs_of_in X hok);exact⟨bm,ns,p,r,bs,hd,s,sub,t,c,u,i,j,k,m,o,_,X _ _ w,G,aP5 X G g,W.tail_of_in X z⟩
  ·cases q
 ·cases q
section
variable{X:Cx}{CX:CXT}{k:Nat}{f C:Addr}{fd:FuncData}{ps:List Str}{sp:Sp}{E:XK}{x:Str}{p pos:Pos}{e:Expr}{es:List Expr}{t:TA}{B newId initId:String}{bmB:List Value}
def cJ2{pins:List (Addr×Obj)}{σ:St}{H:Hp}{s:Shared}{Q:VK}{us:List Value}{vs:List V}(M:aS7 X.K C f bmB newId=true)(m:W.isFn X.K (.ref f)=true)(FB:ExcBaseFacts B newId initId bmB)(F:FnOk X.prog X.w X.K X.mg X.base CX k f fd ps sp)(hr:Room (k+1) X.A)(z:cQ X.K fd ps [])
  (D:wM CX X E) (I:Inv X pins σ H s) (r:bN vs us) (hz:vs.length<=1000) (h:∀ a,H a=none->sp (.ref a::vs) (upd H a (exo a (.ref C) none .none)) (λv G=>v=.non/\Q (.ref a) G) E) :
  wpAny (model X.prog X.w) X.A (call (.ref C) us) (EP X pins σ Q) X.xe s:=by
 obtain⟨bm,N,nm,qn,bs,t,sn,sub,ab,J,dd,k0,k1,k2,k3,k5,mN,L,O,hi,T⟩:=aB3 I.kIn M;obtain⟨oI,n,o⟩:∃ oI,s.heap.get? f=some oI/\oI.cls=.type "function":=by
  have q:=a4p.mp m;unfold W.typeIn at q;obtain⟨oI,a,b⟩:=a0d.mp q;exact⟨oI,I.kIn _ _ a,b⟩
 have hl:us.length=vs.length:=r.length.symm;obtain⟨hh,g,d,tk,os⟩:=s;refine uZ FB T L O hi n o (λh' a hm=>?_) (by rw[hl];exact a8b hz (by decide));obtain⟨tp,p,P,R⟩:=hm.there;have hn:H a=none:=I.hok.none_of hm.new;have l:Inv X pins σ (upd H a (exo a (.ref C) none .none)) ⟨h',g,d,tk,os⟩:=I.laidN (t':=tk) hm.keeps hm.new (aH9 p rfl rfl rfl (by show 5 < 6;decide) rfl);have x:=h a hn;have y:bN (V.ref a::vs) (Value.ref a::us):=.cons rfl r;have i:(Value.ref a::us++[]).length=ps.length:=by
  have e:=y.length;rw[F.len _ _ _ _ x]at e;rw[a3g];exact e.symm
 have j:=z ⟨h',g,d,tk,os⟩ (Value.ref a::us) l.kIn i;rw[a3g]at j;refine a4Y (a4K (F.run _ X.stack _ _ ⟨Value.ref a::us,[]⟩ (Value.ref a::us) _ _ E (hr.make C us []) (l.env0.make C us []) j y x) λr s' c=>?_);cases r with
 | error e=>exact D pins σ _ _ e s' l c
 | ok S=>
   cases S with
   | ret u=>
     obtain⟨v,H',U,Y,Z,q3⟩:=l.after c;subst Z;exact⟨Y,⟨V.ref a,H',U,rfl,q3⟩⟩
   | next=>exact False.elim c
   | brk=>exact False.elim c
   | cont=>exact False.elim c
def dR7(C:Addr)(sp:Sp)(E:XK)(t:TA):TE:=λσ H Q=>t σ H λvs b=>vs.length<=1000/\∀ a,b a=none->sp (.ref a::vs) (upd b a (exo a (.ref C) none .none)) (λv c=>v=.non/\Q (.ref a) c) E
def dB1(M:aS7 X.K C f bmB newId=true)(a:W.isFn X.K (.ref f)=true)(b:W.keepIn X.K (.ref C)=true)(FB:ExcBaseFacts B newId initId bmB)(F:FnOk X.prog X.w X.K X.mg X.base CX k f fd ps sp)(hr:Room (k+1) X.A)(i:Gl X x)(hm:X.mg x=some (.ref C))(j:cQ X.K fd ps [])(l:wM CX X E)
  (ha:PA X (e::es) t) (c:(x==("__debug__":Str))=false:=by decide) (m:starEach (e::es) X.env=(false,eval e X.env)::starEach es X.env:=by rfl) (d:(backTo pos (starEach es X.env)).any (·.1)=false:=by rfl) :
  PE X (.Call (.Name x p) (e::es) [] pos) (dR7 C sp E t):=by
 intro pins s σ H Q I h;refine a4w (zZ I i hm ?_ c);refine W.callWith_K (h₀:=X.base) I.ok.mod.kin b (thn (ha pos pins s σ H _ I h) λus s1 ⟨vs,n,g,r,q⟩=>⟨g.kIn,?_⟩) m d;exact cJ2 M a FB F hr j l g r q.1 q.2
end
end L2
namespace L2
open PySem
section
variable{M:Model}{A:Around}{E:Value->Shared->Prop}{env:Env}
variable{nm q:Str}{C N:Addr}{bs bm:List Value}{hdct:Bool}{sn:List Str}{sub:List Value}{ab:Bool}{col:Option Bool}{dd:Option Addr}{k0 k1 k2 k3 k5:Option Value}{newId:String}
end
open PyProof.Rows
section
variable{prog:Program}{w:World}{A:Around}{E:Value->Shared->Prop}{h:Heap}{g:Array GenState}{d:Drawn}{t:Nat}{os:OsState}
variable{nm q:Str}{C N:Addr}{bs bm bmB:List Value}{hdct:Bool}{sn:List Str}{sub:List Value}{ab:Bool}{col:Option Bool}{dd:Option Addr}{k0 k1 k2 k3 k5:Option Value}{B newId initId:String}
def cJ3(F:ExcBaseFacts B newId initId bmB)(T:OwnTail h bmB bm){e:Addr}{oe:Obj}{vs:Array Value}{cG:List Value}{Q:Value->Shared->Prop}
  (i:h.get? C=some (excClassObj nm q C N bs bm hdct sn sub ab col dd k0 k1 k2 k3 k5 newId)) (c:h.get? e=some oe) (a:oe.cls=.ref C) (hd:oe.data=.fields vs) (hs:0 < vs.size)
  (f:Q .none ⟨(h.push {cls:=.type "tuple",data:=.seq cG.toArray}).update e (Obj.mapFields (·.setIfInBounds 0 (.ref h.objs.size))),g,d,t,os⟩) (hrest:cG.length<=sizeLine) :
  wpAny (model prog w) A (call (.builtin initId) (.ref e::cG)) Q E ⟨h,g,d,t,os⟩:=by
 refine a4Y (a4M F.init.plain F.initEntry (wpAny_check_init_subT F T i c a ?_));unfold Builtin.«BaseException.__init__»;dsimp only;rw[a3Z (by simp)];unfold newTuple Builtin.BaseException.bexcPut;have h0:vs[0]? = some vs[0]:=a9b hs;have b:=a2a (h:=h) {cls:=.type "tuple",data:=.seq cG.toArray} c;refine a3W (a4n ?_ (by show cG.toArray.size<=sizeLine;rw[a8a];exact hrest));refine a3W (a3W (a4m b hd h0 (a3W (a4z b hd hs ?_))));split;refine wpAny_letGo ?_;exact a3X f;refine a3X ?_;exact a3X f
end
open PySem.W PySem.Spec PySem.Builtin PySem.Builtin.ObjectAttr
noncomputable def mD(a:List Value):List Value->Bool
 | []=>a==[]
 | v::r=>(v::r)==a||(match v with | .ref _=>mD a r | _=>false)
theorem qS(self:Value){a:List Value}(b:refuseLoop self "__setattr__" a=pure ()):∀ {l:List Value},mD a l=true->refuseLoop self "__setattr__" l=pure ()
 | [],e=>by rw[show([]:List Value)=a from(a4p.mp e).symm];exact b
 | v::r,e=>by
   unfold mD at e;rcases Bool.or_eq_true_iff.mp e with q | q;rw[a4p.mp q];exact b;split at q;rw[refuseLoop_ref];exact qS self b q;cases q
theorem aI0{a:List Value}{T:String}(b:a.contains (.type T)=true):∀ {l:List Value},mD a l=true->l.contains (.type T)=true
 | [],e=>by rw[show([]:List Value)=a from(a4p.mp e).symm];exact b
 | v::r,e=>by
   unfold mD at e;rcases Bool.or_eq_true_iff.mp e with q | q;rw[a4p.mp q];exact b;split at q;rw[List.contains_cons,aI0 b q,Bool.or_true];cases q
section
variable{prog:Program}{w:World}{A:Around}{E:Value->Shared->Prop}{s:Shared}{K:Frag}{x C:Addr}{ox:Obj}{name:Str}{v:Value}{cd:ClassData}{bmB:List Value}{B:String}{Q:Unit->Shared->Prop}{R:Result->Shared->Prop}
def dB2{tk:Tok}(X:K.In s.heap)(I:InstAt s.heap x ox C none)(f:∃ vs,ox.data=.fields vs)(t:clsIn K C=some cd)(hr:mD bmB cd.mro=true)(i:StoreFacts B bmB "object.__setattr__" "object")
  (L:findIn K (.ref C) name=some none) (M:cd.hasDict=true)
  (h:∀ h' dx tk,s.heap.objs.size<=dx->h'.get? x=some {ox with dict:=some dx}->h'.Ns1 dx (λy=>if y=name then some v else none)->(∀ b o,b≠x->s.heap.get? b=some o->h'.get? b=some o)->R (.ok (.ret .none)) {s with heap:=h',toks:=tk}) :
  codeAny (model prog w) A (.call (.builtin "object.__setattr__") ⟨[.ref x,.str name tk,v],[]⟩) R s:=by
 have j:=aI0 (T:="object") i.hasOwner hr;have ne:cd.mro.isEmpty=false:=by cases q:cd.mro with | nil=>rw[q]at j;cases j | cons _ _=>rfl
 have sub:Looks (model prog w) s.heap (isInstance (.ref x) (.type "object")) true:=I.type.andThen (looks_mroIn X (by unfold mroIn;rw[t,Option.bind_some,a3Z (by rw[ne];decide),j]));have hm:Looks (model prog w) s.heap (mroOf (.ref C)) cd.mro:=(looks_clsIn X t).andThen .now;refine a4M i.slot.plain i.entry (@check_slot (model prog w) _ _ s "object.__setattr__" "object" "__setattr__" (.ref x) [.str name tk,v] [] _ i.kind i.split sub (i.args (.ref x) (.str name tk) v) ?_);rw[osa_eq,refuse_eq];refine a3W (a3W (I.type.here (a3W (hm.here ?_))));rw[qS _ (i.passes (.ref x)) hr];refine a3X (a3W (I.type.here (a3W ((looks_findIn X L).here (a3W ?_)))));refine a3X (a:=none) ?_;dsimp only;obtain⟨vs,f⟩:=f;obtain⟨r,k,hn,l⟩:=I;obtain⟨oc,u,N,osl⟩:=ox;dsimp only at k l f;subst k;subst f;cases u with
 | some dx=>exact l.elim
 | none=>
   refine a3W (a3X (a3W (a3W (wpAny_loadPart r (a3W ((looks_clsIn X t).here ?_))))));rw[M];obtain⟨c,g,d,S,os⟩:=s;dsimp only at r h;show wpAny (model prog w) A.in1 (do
    let d ← alloc {cls:=Value.type "dict",data:=Data.dict #[]}
    update x λo=>{cls:=o.cls,dict:=some d,data:=o.data,slots:=o.slots}
    dictMade (Value.ref C) x d) _ _ _
   have m:(c.push {cls:=.type "dict",data:=.dict #[]}).get? x=some {cls:=Value.ref C,data:=Data.fields vs,slots:=osl}:=a2a _ r;have n:x≠c.objs.size:=a1d (a2b r);refine a3W (wpAny_alloc' ?_);refine a3W (wpAny_update' m ?_);refine a3X ?_;have z:((c.push {cls:=.type "dict",data:=.dict #[]}).update x λo=>{cls:=o.cls,dict:=some c.objs.size,data:=o.data,slots:=o.slots}).get? c.objs.size=some {cls:=.type "dict",data:=.dict #[]}:=
    (Heap.get?_update_ne _ _ _ _ n.symm).trans (Heap.get?_push_at rfl rfl)
   have D:((c.push {cls:=.type "dict",data:=.dict #[]}).update x λo=>{cls:=o.cls,dict:=some c.objs.size,data:=o.data,slots:=o.slots}).Ns c.objs.size (λ_=>none):=⟨_,#[],_,z,rfl,λe O=>absurd O (by simp),λ_=>rfl⟩;show wpAny _ _ (storeInDict c.objs.size (.str name tk) name v) _ _ _;unfold storeInDict newKeyGuard;refine a3W (a3X (a3W (wpAny_nsSet1 (Heap.Ns1.of_empty D) λh' p hs=>?_)));obtain⟨U,P,Q,E,F,G⟩:=p.count (Within.cons name v Within.nil);refine a3W (wpAny_lookBehind E (by rw[F];exact pastItsLine_dict (a8b G (by rw[a1g,a5h,a4G];lia))) ?_)
   wp_walk
   refine h h' c.objs.size _ (a4a _) ?_ p λb o H J=>?_;refine(hs.2 x n).trans (a9c _ m rfl);exact(hs.2 b (a1d (a2b J))).trans ((Heap.get?_update_ne _ _ _ _ H).trans (a2a _ J))
def bP0(X:K.In s.heap)(I:InstAt s.heap x ox C none)(a:∃ vs,ox.data=.fields vs)(hs:findIn K (.ref C) "__setattr__"=some (some (.builtin "object.__setattr__")))(c:clsIn K C=some cd)(hr:mD bmB cd.mro=true)(d:StoreFacts B bmB "object.__setattr__" "object")
  (e:findIn K (.ref C) name=some none) (f:cd.hasDict=true)
  (h:∀ h' dx tk,s.heap.objs.size<=dx->h'.get? x=some {ox with dict:=some dx}->h'.Ns1 dx (λy=>if y=name then some v else none)->(∀ b o,b≠x->s.heap.get? b=some o->h'.get? b=some o)->Q () {s with heap:=h',toks:=tk}) :
  wpAny (model prog w) A (setAttr (.ref x) name v) Q E s:=set_plain X I hs (dB2 (s:={s with toks:=s.toks+1}) X I a c hr d e f h)
end
end L2
namespace L2
open PySem PySem.W PySem.Spec PyProof.Rows
section
variable{prog:Program}{w:World}{A:Around}{E:Value->Shared->Prop}{s:Shared}{K:Frag}{x C:Addr}{ox:Obj}{od:Option Obj}{name:Str}{expr:Bool}{v:Value}{Q:Value->Shared->Prop}{B:String}
end
section
variable{M:Model}{A:Around}{E:Value->Shared->Prop}{s:Shared}
variable{K:Frag}{e C D:Addr}{oe:Obj}{Q:Bool->Shared->Prop}
end
section
variable{prog:Program}{w:World}{A:Around}{E:Value->Shared->Prop}{s:Shared}{K:Frag}{x C:Addr}{ox:Obj}{od:Option Obj}{B:String}
end
end L2
namespace L2
open PySem PySem.Spec PyProof.Rows
noncomputable def bmV:List Value:=[.type "ValueError",.type "Exception",.type "BaseException",.type "object"]
noncomputable def bP1(K:W.Frag)(C:Addr):Bool:=W.findIn K (.ref C) "__getattribute__"==some (some (.builtin "BaseException.__getattribute__"))&&W.findIn K (.ref C) "__getattr__"==some none &&
 W.findIn K (.ref C) "__setattr__"==some (some (.builtin "object.__setattr__"))&&W.mroIn K C (.type "BaseException")==some true&&W.mroIn K C (.type "object")==some true &&
 W.findIn K (.ref C) "__class__"==some (some (.builtin "object.__class__"))&&W.specialIn K (.builtin "object.__class__") "__get__"==some (some (.builtin "getset_descriptor.__get__"))&&W.takesIn K (.builtin "object.__class__")==some true &&
 (W.clsIn K C).any λcd=>mD bmV cd.mro&&cd.hasDict
structure ExcC(K:W.Frag)(C:Addr):Prop where
 ga:W.findIn K (.ref C) "__getattribute__"=some (some (.builtin "BaseException.__getattribute__"))
 gt:W.findIn K (.ref C) "__getattr__"=some none
 sa:W.findIn K (.ref C) "__setattr__"=some (some (.builtin "object.__setattr__"))
 bx:W.mroIn K C (.type "BaseException")=some true
 ob:W.mroIn K C (.type "object")=some true
 cl:W.findIn K (.ref C) "__class__"=some (some (.builtin "object.__class__"))
 gn:W.specialIn K (.builtin "object.__class__") "__get__"=some (some (.builtin "getset_descriptor.__get__"))
 tk:W.takesIn K (.builtin "object.__class__")=some true
 cd:∃ cd,W.clsIn K C=some cd/\mD bmV cd.mro=true/\cd.hasDict=true
def ExcC.of{K:W.Frag}{C:Addr}(h:bP1 K C=true):ExcC K C:=by
 unfold bP1 at h;simp only[Bool.and_eq_true,beq_iff_eq]at h;obtain⟨⟨⟨⟨⟨⟨⟨⟨c,d⟩,e⟩,f⟩,g⟩,i⟩,j⟩,k⟩,l⟩:=h;obtain⟨cd,a,b⟩:=W.any_some l;rw[a6d]at b;exact⟨c,d,e,f,g,i,j,k,cd,a,b.1,b.2⟩
def aB4{P:Program}{w:World}{H:Hp}{h:Heap}{e:Addr}{C:Value}{d:Option Addr}{tb:Value}(hok:HOk P w H h)(a:H e=some (exo e C d tb)):∃ o vs,h.get? e=some o/\o.cls=C/\o.dict=d/\o.data=.fields vs/\5 < vs.size/\vs[1]? = some tb:=cA4 (hok e _ a)
def aY2{P:Program}{w:World}{H:Hp}{h:Heap}{e C:Addr}{tb:Value}(hok:HOk P w H h)(c:H e=some (exo e (.ref C) none tb)):∃ oe vs,W.InstAt h e oe C none/\oe.dict=none/\oe.data=.fields vs/\5 < vs.size/\vs[1]? = some tb:=by
 obtain⟨o,vs,d,f,a,b,g,i⟩:=aB4 hok c;exact⟨o,vs,⟨d,f,by unfold W.notCls;rw[b],by rw[a];trivial⟩,a,b,g,i⟩
section
variable{X:Cx}{o e value:Expr}{to te tv:TE}{f:Str}{pos pos' apos:Pos}
def sAt(K:W.Frag)(to tv:TE)(f:Str):TS:=λD σ H=>tv σ H λy a=>to σ a λv H2=>∃ (e C:Addr) (tb:Value),v=.ref e/\H2 e=some (exo e (.ref C) none tb)/\bP1 K C=true/\W.findIn K (.ref C) f=some none /\
 ∀ dx,H2 dx=none->dx≠e->D.nx σ (upd (upd H2 e (exo e (.ref C) (some dx) tb)) dx (.xd [(f,y)]))
def dN5(K:W.Frag)(B:X.K=K)(l:PE X o to)(E:PE X value tv)(hs:swapsWith value (some (.Attribute o f pos')) pos.line X.env=pure false:=by rfl):PS X (.Assign [.Attribute o f pos'] value pos) (sAt K to tv f):=by
 subst B;intro pins s σ H D I h;refine plainObj_wpAny_Assign_Attribute (thn (E pins s σ H _ I h) λu s1 ⟨y,G,L,M,q⟩=>thn (l pins s1 σ G _ L q) λov s2 Z0=>?_) hs;obtain⟨x,m,d,N,e,C,tb,ex,t,O,hn,P⟩:=Z0;subst ex;obtain rfl:ov=Value.ref e:=N;have w:=ExcC.of O;obtain⟨oe,vs,J,j1,A,Q,R⟩:=aY2 d.hok t;obtain⟨cd,S,T,U⟩:=w.cd;refine bP0 d.kIn J ⟨vs,A⟩ w.sa S T F.store_ValueError hn U λh' dx tk a i n r=>?_;have j:dx≠e:=λz=>by rw[z]at a;exact absurd (a7b (a2b J.at_) a) (a8d _)
 have k:m dx=none:=d.hok.fresh a;have V:Inv X pins σ (upd m e (exo e (.ref C) (some dx) tb)) {s2 with heap:=h',toks:=tk}:=
  d.write (t':=tk) (o:=exo e (.ref C) (some dx) tb) (by rw[t];trivial) (.inl rfl) r ⟨_,i⟩ (aH9 i J.cls rfl A Q R)
 have Y:Inv X pins σ (upd (upd m e (exo e (.ref C) (some dx) tb)) dx (.xd [(f,y)])) {s2 with heap:=h',toks:=tk}:=by
  have lt:∀ {b:Addr} {o:Obj},s2.heap.get? b=some o->b≠dx:=λq=>a1d (a7b (a2b q) a);refine V.adopt (by rw[aD j];exact k) (a8b d.sz a) (a0j (a7b d.lt a)) (λx c q=>?_) (λp Z=>lt (d.pin p Z).1) ⟨_,n,λg=>?_⟩;obtain⟨v,o,l,_⟩:=d.cell x c q;exact lt l;by_cases z:g=f;subst z;simp only[List.lookup,beq_self_eq_true,if_true];exact M;have zb:(g==f)=false:=by simpa using z
  simp only[List.lookup,zb,if_neg z];trivial
 exact⟨σ,_,Y,P dx k j⟩
end
def vA(h:Heap)(C:Addr):Prop:=∃ bm N d e bs b f sub g c i j k l m n a,h.get? C=some (excClassObj d e C N bs bm b f sub g c i j k l m n a)/\bm.contains (.type "BaseException")=true
def aY3{K:W.Frag}{h:Heap}{C f:Addr}{a:String}(X:K.In h)(q:aS7 K C f bmV a=true):vA h C:=by
 obtain⟨d,N,e,g,bs,b,i,sub,j,c,k,l,m,n,o,p,s,r,_,_,T⟩:=aB3 X q;exact⟨d,N,e,g,bs,b,i,sub,j,c,k,l,m,n,o,p,a,r,T.hasType (by decide +kernel)⟩
def cJ4{K:W.Frag}{h:Heap}{C:Addr}{d:List Value}{a:String}(X:K.In h)(q:W.excIn K C d a=true) :
  ∃ bm N o p bs e r sub s c t g i j k m mN,h.get? C=some (excClassObj o p C N bs bm e r sub s c t g i j k m a)/\h.Ns N mN/\mN "__init__"=none/\OwnTail h d bm:=by
 unfold W.excIn at q;split at q
 ·rename_i t cd sl v;split at q
  ·rename_i D bm g i j k n m hm hs;simp only[Bool.and_eq_true,beq_iff_eq,Bool.not_eq_true']at q;obtain⟨⟨⟨⟨⟨w,x⟩,b⟩,y⟩,hok⟩,f⟩:=q;subst w;subst x;obtain⟨o,bs,mro,ns,p,hd,r,sub,s,c,z⟩:=cd;dsimp only at hm b hok f;subst hm;subst b;have u:sl=#[g,i,j,k,some (.builtin n),m]:=by
    obtain⟨l⟩:=sl;simp only at hs;rw[hs]
   subst u;exact⟨bm,ns,o,p,bs,hd,r,sub,s,c,t,g,i,j,k,m,_,X _ _ v,.of_isNs (W.isNs_of_in X hok),W.nsMap_none_of_in X hok f,W.tail_of_in X y⟩
  ·cases q
 ·cases q
def exR(K:W.Frag)(C:Addr):Prop:=(∃ a,aS7 K C a bmV "ValueError.__new__"=true)\/W.excIn K C bmV "ValueError.__new__"=true
def aP6{K:W.Frag}{h:Heap}{C:Addr}(X:K.In h)(q:exR K C):vA h C:=by
 rcases q with⟨f,q⟩ | q;exact aY3 X q;obtain⟨c,N,d,e,bs,a,g,sub,i,b,j,k,l,m,n,o,r,p,_,_,T⟩:=cJ4 X q;exact⟨c,N,d,e,bs,a,g,sub,i,b,j,k,l,m,n,o,_,p,T.hasType (by decide +kernel)⟩
def xG{M:Model}{A:Around}{E:Value->Shared->Prop}{env:Env}{s:Shared}{x:Sem Value}{Q:Flow->Shared->Prop}(l:A.handled=none)
  (h:wpAny M A x (λv s1=>∃ (e C:Addr) (oe:Obj) (vs:Array Value),v=.ref e/\vA s1.heap C/\s1.heap.get? e=some oe/\oe.cls=.ref C/\oe.data=.fields vs/\vs[1]? = some .none/\E (.ref e) s1) E s):wpAny M A (raiseStmt env (some x) none) Q E s:=by
 unfold raiseStmt;refine a3W (a4x h (λv s1 m=>?_) λ_ _ x=>x);obtain⟨e,C,oe,vs,rfl,⟨n,N,q,r,bs,j,t,sub,u,o,w,y,z,B,D,F,c,k,a⟩,he,b,hd,f,p⟩:=m;obtain⟨G,g,d,tk,os⟩:=s1;have i:(Value.ref C::n).contains (.type "BaseException")=true:=by rw[List.contains_cons,a,Bool.or_true]
 repeat (first | (with_reducible refine a4J he ?_;rw[b]) | with_reducible refine a4J k ?_ | (with_reducible refine wpAny_isSubtype_exc k ?_;rw[i]) | with_reducible refine a4m he hd f ?_ | wp_step)
 exact wpAny_raiseNew_none l p
section
variable{P:Program}{w:World}{K:W.Frag}{mg:Str->Option Value}{base:Heap}{N:List Str}{qual:Str}{scope:Scope}{f:Addr}{cd:Value}{A:Around}{outer:List Env}{s:Shared}{H:Hp}{E:XK}{x:Expr}{te:TE}{pos:Pos}
def cA5(K:W.Frag)(E:XK)(te:TE):TS:=λD σ H=>te σ H λv H1=>∃ (e C:Addr) (d:Option Addr),v=.ref e/\H1 e=some (exo e (.ref C) d .none)/\exR K C/\∀ T,E (.ref e) d (upd H1 e (exo e (.ref C) d (.ref T)))
def bP2(c:PE (zW (CXo P w) P w K mg base N qual scope f cd A outer s H E) x te):PS (zW (CXo P w) P w K mg base N qual scope f cd A outer s H E) (.Raise (some x) none pos) (cA5 K E te):=by
 intro pins g σ i D I h;rw[arm_exec_Raise];refine a3W (a4I ?_);show wpAny _ _ (raiseStmt _ (some (do let v ← eval x _;standAt pos;pure v)) none) _ _ _;refine xG (I.ok.hd rfl) (a3W (thn (c pins g σ i _ I h) λu s1 ⟨v,n,a,j,e,C,d,k,b,l,m⟩=>a3W (a4I (a3X ?_))));subst k;obtain rfl:u=Value.ref e:=j;obtain⟨oe,vs,a1,a2,a3,a4,a5,a6⟩:=aB4 a.hok b;exact⟨e,C,oe,vs,rfl,aP6 a.kIn l,a1,a2,a4,a6,bO9 a b m⟩
end
section
variable{X:Cx}{C:Addr}{x:Str}{p pos:Pos}{e:Expr}{es:List Expr}{t:TA}
end
section
variable{X:Cx}{R:Str}{CR:Addr}{rp apos pos:Pos}{a:Expr}{as:List Expr}{t:TA}
noncomputable def vB(K:W.Frag)(CR:Addr):Bool:=W.specialIn K (.ref CR) "__getattribute__"==some (some (.builtin "type.__getattribute__"))&&W.readsIn K CR (.type "type") &&
 (match W.findCls K (.ref CR) (.type "type") "__init__" with | some (.val (.builtin i))=>i=="ValueError.__init__" | _=>false)
def dB3(K:W.Frag)(t:TA):TE:=λσ H Q=>t σ H λvs H1=>∃ (e C a:Addr) (tb:Value) (z:Str),vs=[.ref e,.str z]/\H1 e=some (exo e (.ref C) none tb)/\aS7 K C a bmV "ValueError.__new__"=true/\Q .non H1
def cJ5(K:W.Frag)(J:X.K=K)(l:vB K CR=true)(L:Gl X R)(hm:X.mg R=some (.ref CR))(ha:PA X (a::as) t)(m:(R==("__debug__":Str))=false:=by decide)
  (n:starEach (a::as) X.env=(false,eval a X.env)::starEach as X.env:=by rfl) (p:(backTo pos (starEach as X.env)).any (·.1)=false:=by rfl) {pl:Sem Bool}
  (M:eval (.Call (.Attribute (.Name R rp) "__init__" apos) (a::as) [] pos) X.env=(do
   let ov ← eval (.Name R rp) X.env
   standAt apos.atName
   let (f,first) ← holding [ov] (getMethod ov "__init__" pl)
   callWith pos f first (backTo pos (starEach (a::as) X.env)) (backToKw pos (keywordEach [] X.env))):=by rfl) :
  PE X (.Call (.Attribute (.Name R rp) "__init__" apos) (a::as) [] pos) (dB3 K t):=by
 subst J;intro pins s σ H Q I h;unfold vB at l;simp only[Bool.and_eq_true,beq_iff_eq]at l;obtain⟨⟨O,P⟩,r⟩:=l;have S:W.findCls X.K (.ref CR) (.type "type") "__init__"=some (.val (.builtin "ValueError.__init__")):=by
  split at r;rename_i i q;rw[q,a4p.mp r];cases r
 refine W.methodCall_KW (pl:=pl) (zZ I L hm ?_ m) M;refine W.method_cls I.kIn O (W.cls_value I.kIn P S (by decide +kernel) ?_);have U:=I.tok (s.toks+1);have B:=ha pos pins _ σ H _ U h;rw[n]at B ⊢;refine Calls.callWith_builtin (by show(false||(backTo pos (starEach as X.env)).any (·.1))=false;rw[p]<;>rfl) (Calls.evalArgs_plain ?_);refine thn B λus s2 Z0=>?_;obtain⟨vs,v,w,V,e,C,fI,tb,z,Y,y,Z,q2⟩:=Z0;subst Y;obtain⟨u,D,rfl,ru,rw'⟩:=bM1 V;obtain rfl:u=Value.ref e:=ru;obtain⟨bm,N,nm,qn,bs,E,sn,sub,ab,col,dd,k0,k1,k2,k3,k5,mN,hC,_,_,T⟩:=aB3 w.kIn Z;obtain⟨oe,ves,a1,a2,a3,a4,a5,a6⟩:=aB4 w.hok y;obtain⟨j,g,d,tk,os⟩:=s2;have eq:upd v e (exo e (.ref C) none tb)=v:=by
  funext b;by_cases q:b=e;rw[q,aE,y];rw[aD q]
 have k:=a9i a4 (·.setIfInBounds 0 (.ref j.objs.size));have A:(j.push {cls:=.type "tuple",data:=.seq [D].toArray}).get? e=some oe:=a2a _ a1;have c:=a9c (Obj.mapFields (·.setIfInBounds 0 (.ref j.objs.size))) A (Obj.isFreed_of_fields k);refine cJ3 F.excBase_ValueError T hC a1 a2 a4 (by lia) ?_ (by show 1<=sizeLine;decide);have G:=w.write (t':=tk) (x:=e) (e:=e) (o:=exo e (.ref C) none tb) (h':=(j.push {cls:=.type "tuple",data:=.seq [D].toArray}).update e (Obj.mapFields (·.setIfInBounds 0 (.ref j.objs.size)))) (by rw[y];trivial) (.inl rfl)
  (λb u hb q=>by rw[a4c _ _ (a5d hb)];exact a2a _ q) ⟨_,c⟩ (aH9 c ((lZ _).trans a2) ((kS _).trans a3) k (by simpa using a5) (by simpa using a6))
 rw[eq]at G;exact⟨.non,v,G,rfl,q2⟩
end
def xH(z:Str):(Str.empty++z).length=z.length:=by
 rw[Str.length_append];show 0+z.length=z.length;lia
section
variable{X:Cx}{e:Expr}{te:TE}{z1:Str}{j:Nat}{p p' pos:Pos}
def dR8(te:TE):TE:=λσ H Q=>te σ H λv a=>∃ z:Str,v=.str z/\z.length<=1000/\(∀ c∈z.cps.toList,c < 16 ^ 8)/\∀ z:Str,Q (.str z) a
def dB4(f:PE X e te)(hz:z1.length<=1000:=by decide):PE X (.JoinedStr [.Constant (.str z1) j p,.FormattedValue e 114 none p'] pos) (dR8 te):=by
 intro pins s σ H Q I h;refine wpAny_JoinedStr ?_;show wpAny _ _ (eval (.Constant (.str z1) j p) X.env) _ _ s;refine Calls.Constant_str ⟨z1,_,rfl,by rw[xH];exact a8b hz (by decide),?_⟩;show wpAny _ _ (eval (.FormattedValue e 114 none p') X.env) _ _ _;refine wpAny_FormattedValue_repr (thn (f pins _ σ H _ (I.tok _) h) λu s1 Z0=>?_);obtain⟨v,c,d,g,z,i,hl,k,q⟩:=Z0;subst i;obtain⟨t,rfl⟩:=g;have hr:=PySem.StrLaws.reprText_len z k;have a:(reprText z).length<=sizeLine:=a8b (by lia:_<=20000) (by decide);have b:(Str.empty++z1++reprText z).length<=sizeLine:=by
  rw[Str.length_append,xH];exact a8b (by lia:_<=20000) (by decide)
 refine pyReprObj_str (wpAny_formatField_str ⟨_,_,rfl,b,b,.str _,c,(d.tok _).tok _,⟨_,rfl⟩,q _⟩ ⟨_,_,rfl,b,b,.str _,c,((d.tok _).tok _).tok _,⟨_,rfl⟩,q _⟩ a) a
end
section
variable{X:Cx}{pins pins':List (Addr×Obj)}{σ:St}{H:Hp}{s:Shared}{E:Value->Shared->Prop}{e:Value}
end
section
variable{X:Cx}{CX:CXT}{k:Nat}{f:Addr}{fd:FuncData}{ps:List Str}{sp:Sp}{E:St->XK}{x:Str}{p pos:Pos}{e:Expr}{es:List Expr}{t:TA}{pins0:List (Addr×Obj)}
end
section
variable{X:Cx}{pins:List (Addr×Obj)}{σ:St}{H:Hp}{s:Shared}{T:Addr}{oT:Obj}
end
abbrev TH:=Addr->Addr->Option Addr->Addr->TS
section
variable{X:Cx}{t:Expr}{tt:TE}{n:Str}{i:Nat}{b0:Stmt}{body:List Stmt}{ts:TS}{pos:Pos}{cG:List ExceptHandler}{th:TH}
end
section
variable{κ:Type}[DecidableEq κ]
end
section
variable{P:Program}{w:World}{H:Hp}{h:Heap}{a:Addr}
end
section
variable{X:Cx}{pins:List (Addr×Obj)}{σ:St}{H:Hp}{s:Shared}{a:Addr}{y v:V}{u r:Value}{o:Option V}{A:Around}{E:Value->Shared->Prop}
end
section
variable{X:Cx}{pins:List (Addr×Obj)}{σ:St}{H:Hp}{s:Shared}{a:Addr}{kvs:List (Key×V)}{k:Key}{u:Value}{A:Around}{E:Value->Shared->Prop}
end
section
variable{X:Cx}{o i e value:Expr}{pos pos' tpos:Pos}{td ty tv:TE}
end
section
variable{X:Cx}{pos:Pos}
end
section
variable{X:Cx}{pins:List (Addr×Obj)}{σ:St}{H:Hp}{s:Shared}{a:Addr}{y d:V}{u r:Value}{o:Option V}{A:Around}{E:Value->Shared->Prop}
end
section
variable{X:Cx}{o e f:Expr}{apos cpos:Pos}{td ty tx:TE}
end
section
variable{X:Cx}{pins:List (Addr×Obj)}{σ:St}{H:Hp}{s:Shared}{a:Addr}{kvs:List (Key×V)}{A:Around}{E:Value->Shared->Prop}
end
section
variable{X:Cx}{pins:List (Addr×Obj)}{σ:St}{H:Hp}{s:Shared}{a:Addr}{y:V}{u:Value}{A:Around}{E:Value->Shared->Prop}
end
section
variable{X:Cx}
end
section
variable{K:W.Frag}{t:TA}{te to tv:TE}{f:Str}{σ:St}{H:Hp}{Q:VK}{D:Ends}{sp:Sp}{C:Addr}{E:XK}{Ex:St->XK}{tb:(St->XK)->TS}{th:TH}{i:Nat}{ts:TS}
theorem aY4:dB3 K t σ H Q=t σ H λvs H1=>∃ (e C a:Addr) (tb:Value) (z:Str),vs=[.ref e,.str z]/\H1 e=some (exo e (.ref C) none tb)/\aS7 K C a bmV "ValueError.__new__"=true/\Q .non H1:=rfl
theorem cA6:dR8 te σ H Q=te σ H λv H1=>∃ z:Str,v=.str z/\z.length<=1000/\(∀ c∈z.cps.toList,c < 16 ^ 8)/\∀ z:Str,Q (.str z) H1:=rfl
theorem cA7:sAt K to tv f D σ H=tv σ H λy a=>to σ a λv H2=>∃ (e C:Addr) (tb:Value),v=.ref e/\H2 e=some (exo e (.ref C) none tb)/\bP1 K C=true/\W.findIn K (.ref C) f=some none/\∀ dx,H2 dx=none->dx≠e->D.nx σ (upd (upd H2 e (exo e (.ref C) (some dx) tb)) dx (.xd [(f,y)])):=rfl
end
end L2
namespace Mr
open PySem L2 PyProof.Rows
def dN6(z:Str):Prop:=z.length<=100/\∀ c∈z.cps.toList,c < 16 ^ 8
def spS(f:Str):Sps:=λK vs H Q _=>∃ (e C a:Addr) (z:Str),vs=[.ref e,.str z]/\H e=some (exo e (.ref C) none .none)/\bP1 K C=true/\aS7 K C a bmV "ValueError.__new__"=true/\W.findIn K (.ref C) f=some none/\dN6 z /\
 ∀ dx,H dx=none->dx≠e->Q .non (upd (upd H e (exo e (.ref C) (some dx) .none)) dx (.xd [(f,.str z)]))
def xI:Sps:=spS "column"
end Mr
namespace Mr
open PySem L2
def aY5{H:Hp}{e dx:Addr}{c d f x:HO}(g:H e=none)(hd:H dx=none):nT H (upd (upd (upd (upd H e c) e d) dx x) e f):=λb o q=>by
 have a:b≠e:=aB q g;have h:b≠dx:=aB q hd;rw[aD a,aD h,aD a,aD a];exact q
def cJ6{H:Hp}{e dx:Addr}{b c d x:HO}(a:dx≠e):(upd (upd (upd (upd H e b) e c) dx x) e d) dx=some x:=by rw[aD a,aE]
def dB5{H:Hp}{e dx:Addr}{c b x:HO}(a:dx≠e):(upd (upd (upd H e c) e b) dx x) e=some b:=by rw[aD a.symm,aE]
def aY6{H:Hp}{e dx:Addr}{o:HO}(a:dx≠e)(h:(upd H e o) dx=none):H dx=none:=by rw[aD a]at h;exact h
section
variable{K:W.Frag}{H:Hp}{C t D0 D1 D2 D3:Addr}{b0 b1 b2 b3:Bool}
end
end Mr
namespace L2
open PySem PySem.Spec PyProof.Rows
section
variable{X:Cx}
end
section
variable{t tk tv td ty tx:TE}{r:List (TE×TE)}{σ:St}{H:Hp}{Q:VK}{R:List (V×V)->Hp->Prop}
end
end L2
namespace Mr
open PySem L2 PyProof.Rows
theorem tM{m:Nat}{sep:Str}(hs:∀ c∈sep.cps.toList,c < m):∀ zs:List Str,(∀ z∈zs,∀ c∈z.cps.toList,c < m)->∀ c∈(Str.join sep zs).cps.toList,c < m
 | [],_=>λc a=>by simp[Str.join,Str.empty]at a
 | [x],h=>λc a=>h x a6a c a
 | x::y::r,h=>λc a=>by
   have b:=tM hs (y::r) λz d=>h z (a7a _ d);have e:(Str.join sep (x::y::r)).cps.toList=x.cps.toList++sep.cps.toList++(Str.join sep (y::r)).cps.toList:=by
    show(x++sep++Str.join sep (y::r)).cps.toList=_;rw[Str.cps_append,Str.cps_append,Array.toList_append,Array.toList_append]
   rw[e]at a;rcases a1c.mp a with a | a;rcases a1c.mp a with a | a;exact h x a6a c a;exact hs c a;exact b c a
def aB5{m:Nat}{sep:Str}(hs:∀ c∈sep.cps.toList,c < m)(zs:List Str)(h:∀ z∈zs,∀ c∈z.cps.toList,c < m):∀ c∈(Txt.join sep zs).cps.toList,c < m:=by
 show ∀ c∈(Builtin.Str.glued sep zs).cps.toList,c < m;rw[StrLaws.glued_eq_join];exact tM hs zs h
def aY7:∀ c∈(Str.ofString "abcdefghijklmnopqrstuvwxyz").cps.toList,c < 128:=by decide
end Mr
namespace Dv
open PySem L2
inductive D where
 | non | bl (b:Bool) | int (i:Int) | str (x:Str) | tup (l:List D) | lst (l:List D) | dic (ks vs:List D)
noncomputable instance:DecidableEq D:=λ_ _=>Classical.propDecidable _
noncomputable instance:Inhabited D:=⟨.non⟩
noncomputable def dR9:Key->D
 | .inl i=>.int i
 | .inr x=>.str x
def dB6:HO->List D->List V->Prop
 | .dK kvs,ks,ws=>ks=kvs.map (λa=>dR9 a.1)/\ws=kvs.map (·.2)
 | .dT kvs,ks,ws=>ks=kvs.map (λa=>D.tup (a.1.map dR9))/\ws=kvs.map (·.2)
 | _,_,_=>False
mutual
inductive Rp(H:Hp):D->V->Prop
 | non:Rp H .non .non
 | bl (b:Bool):Rp H (.bl b) (.bl b)
 | int (i:Int):Rp H (.int i) (.int i)
 | str (x:Str):Rp H (.str x) (.str x)
 | tup {l:List D} {p:Addr} {xs:List V}:H p=some (.tup xs)->Rps H l xs->Rp H (.tup l) (.ref p)
 | lst {l:List D} {p:Addr} {xs:List V} {o:Obj}:H p=some (.frz o (.lst xs))->Rps H l xs->Rp H (.lst l) (.ref p)
 | dic {ks vs:List D} {p:Addr} {o:Obj} {u:HO} {ws:List V}:H p=some (.frz o u)->dB6 u ks ws->Rps H vs ws->Rp H (.dic ks vs) (.ref p)
inductive Rps(H:Hp):List D->List V->Prop
 | nil:Rps H [] []
 | cons {d:D} {r:List D} {x:V} {xs:List V}:Rp H d x->Rps H r xs->Rps H (d::r) (x::xs)
end
structure Ext(H H':Hp):Prop where
 tup:∀ p xs,H p=some (.tup xs)->H' p=some (.tup xs)
 frz:∀ p o u,H p=some (.frz o u)->H' p=some (.frz o u)
def Ext.same{H H':Hp}(h:nT H H'):Ext H H':=⟨λp xs e=>h p _ e,λp o u e=>h p _ e⟩
mutual
theorem Rp.mono{H H':Hp}(a:Ext H H'):∀ {d:D} {x:V},Rp H d x->Rp H' d x
 | _,_,.non=>.non
 | _,_,.bl b=>.bl b
 | _,_,.int i=>.int i
 | _,_,.str x=>.str x
 | _,_,.tup h r=>.tup (a.tup _ _ h) (Rps.mono a r)
 | _,_,.lst h r=>.lst (a.frz _ _ _ h) (Rps.mono a r)
 | _,_,.dic h k r=>.dic (a.frz _ _ _ h) k (Rps.mono a r)
theorem Rps.mono{H H':Hp}(b:Ext H H'):∀ {l:List D} {xs:List V},Rps H l xs->Rps H' l xs
 | _,_,.nil=>.nil
 | _,_,.cons a r=>.cons (Rp.mono b a) (Rps.mono b r)
end
section
variable{H:Hp}
theorem Rps.length:∀ {l:List D} {xs:List V},Rps H l xs->l.length=xs.length
 | _,_,.nil=>rfl
 | _,_,.cons _ r=>by simp[Rps.length r]
theorem Rps.get:∀ {l:List D} {xs:List V} {i:Nat} {d:D},Rps H l xs->l[i]? = some d->∃ x,xs[i]? = some x/\Rp H d x
 | _,_,_,_,.nil,h=>by simp at h
 | _,_,0,_,.cons a r,h=>by simp at h;subst h;exact⟨_,rfl,a⟩
 | _,_,i+1,_,.cons a r,h=>by
   obtain⟨x,e,q⟩:=Rps.get (i:=i) r (by simpa using h);exact⟨x,by simpa using e,q⟩
theorem Rps.append:∀ {l m:List D} {xs ys:List V},Rps H l xs->Rps H m ys->Rps H (l++m) (xs++ys)
 | _,_,_,_,.nil,h=>h
 | _,_,_,_,.cons a r,h=>.cons a (Rps.append r h)
theorem Rps.take:∀ {l:List D} {xs:List V} (n:Nat),Rps H l xs->Rps H (l.take n) (xs.take n)
 | _,_,0,_=>.nil
 | _,_,_+1,.nil=>.nil
 | _,_,n+1,.cons a r=>.cons a (Rps.take n r)
theorem Rps.drop:∀ {l:List D} {xs:List V} (n:Nat),Rps H l xs->Rps H (l.drop n) (xs.drop n)
 | _,_,0,r=>r
 | _,_,_+1,.nil=>.nil
 | _,_,n+1,.cons _ r=>Rps.drop n r
theorem Rps.set:∀ {l:List D} {xs:List V} {d:D} {x:V} (i:Nat),Rps H l xs->Rp H d x->Rps H (l.set i d) (xs.set i x)
 | _,_,_,_,_,.nil,_=>.nil
 | _,_,_,_,0,.cons _ r,q=>.cons q r
 | _,_,_,_,i+1,.cons a r,q=>.cons a (Rps.set i r q)
theorem mE:∀ ns:List Int,Rps H (ns.map D.int) (ns.map V.int)
 | []=>.nil
 | n::r=>.cons (.int n) (mE r)
theorem aI1:∀ ns:List Str,Rps H (ns.map D.str) (ns.map V.str)
 | []=>.nil
 | n::r=>.cons (.str n) (aI1 r)
theorem Rps.ints_inv:∀ {ns:List Int} {xs:List V},Rps H (ns.map D.int) xs->xs=ns.map V.int
 | [],_,h=>by cases h;rfl
 | n::r,_,h=>by
   rw[a6e]at h;cases h with
   | cons a t=>cases a;rw[Rps.ints_inv t];rfl
theorem Rps.strs_inv:∀ {ns:List Str} {xs:List V},Rps H (ns.map D.str) xs->xs=ns.map V.str
 | [],_,h=>by cases h;rfl
 | n::r,_,h=>by
   rw[a6e]at h;cases h with
   | cons a t=>cases a;rw[Rps.strs_inv t];rfl
end
inductive Md where
 | val | own | par | lent
 deriving DecidableEq
noncomputable def Md.mt:Md->Bool
 | .own=>true
 | .par=>true
 | _=>false
structure Sl where
 m:Md
 d:D
abbrev Sg:=List (Option Sl)
def dW(H:Hp)(d:D)(p:Addr):Prop:=match d with
 | .lst l=>∃ xs,H p=some (.lst xs)/\Rps H l xs
 | .dic ks vs=>∃ u ws,H p=some u/\dB6 u ks ws/\Rps H vs ws
 | _=>False
theorem dW.mono{H H':Hp}{d:D}{p:Addr}(h:dW H d p)(e:Ext H H')(c:∀ o,H p=some o->H' p=some o):dW H' d p:=by
 unfold dW at h ⊢;split at h;obtain⟨xs,a,b⟩:=h;exact⟨xs,c _ a,b.mono e⟩;obtain⟨u,ws,a,b,f⟩:=h;exact⟨u,ws,c _ a,b,f.mono e⟩;exact h.elim
def dW.obj{H:Hp}{d:D}{p:Addr}(h:dW H d p):∃ o,H p=some o/\(∀ xs,o≠.tup xs)/\∀ ob u,o≠.frz ob u:=by
 unfold dW at h;split at h;obtain⟨xs,a,b⟩:=h;exact⟨_,a,⟨λ_ z=>(by cases z),λ_ _ z=>(by cases z)⟩⟩;obtain⟨u,ws,a,b,c⟩:=h;refine⟨_,a,λ_ z=>?_,λ_ _ z=>?_⟩<;>(subst z;exact b);exact h.elim
def bP3(H:Hp)(s:Sl)(v:V):Prop:=match s.m with
 | .val=>Rp H s.d v
 | _=>∃ p,v=.ref p/\dW H s.d p
def cO{H:Hp}{s:Sl}{v:V}(h:s.m≠.val):bP3 H s v↔∃ p,v=.ref p/\dW H s.d p:=by
 obtain⟨m,d⟩:=s;cases m with
 | val=>exact absurd rfl h
 | own=>exact Iff.rfl
 | par=>exact Iff.rfl
 | lent=>exact Iff.rfl
def Vw(H:Hp)(d:D)(v:V):Prop:=Rp H d v\/∃ p,v=.ref p/\dW H d p
def bP3.vw{H:Hp}{s:Sl}{v:V}(h:bP3 H s v):Vw H s.d v:=by
 by_cases e:s.m=.val;obtain⟨m,d⟩:=s;cases e;exact .inl h;exact .inr ((cO e).mp h)
inductive Vws(H:Hp):List D->List V->Prop
 | nil:Vws H [] []
 | cons {d:D} {r:List D} {x:V} {xs:List V}:Vw H d x->Vws H r xs->Vws H (d::r) (x::xs)
def nV(σ:Sg)(σV:St)(a:Addr):Prop:=∃ (i:Nat) (s:Sl),σ[i]? = some (some s)/\s.m.mt=true/\σV[i]? = some (some (.ref a))
def bL0(σ:Sg)(σV:St)(a:Addr):Prop:=∃ (i:Nat) (s:Sl),σ[i]? = some (some s)/\s.m≠.val/\σV[i]? = some (some (.ref a))
def nV.nv{σ:Sg}{σV:St}{a:Addr}(h:nV σ σV a):bL0 σ σV a:=by
 obtain⟨i,s,c,b,d⟩:=h;exact⟨i,s,c,λz=>(by rw[z]at b;cases b),d⟩
structure Gm where
 H₀:Hp
 pr:Addr->Prop
structure StOk(Γ:Gm)(H:Hp)(σ:Sg)(σV:St):Prop where
 rel:∀ (i:Nat) s,σ[i]? = some (some s)->∃ v,σV[i]? = some (some v)/\bP3 H s v
 dis:∀ (i j:Nat) s t p,i≠j->σ[i]? = some (some s)->σ[j]? = some (some t)->s.m.mt=true->t.m≠.val->σV[i]? = some (some (.ref p))->σV[j]? = some (some (.ref p))->False
 own:∀ (i:Nat) s p,σ[i]? = some (some s)->s.m=.own->σV[i]? = some (some (.ref p))->Γ.H₀ p=none
 par:∀ (i:Nat) s p,σ[i]? = some (some s)->s.m=.par->σV[i]? = some (some (.ref p))->Γ.pr p
 keep:∀ a o,Γ.H₀ a=some o->¬ Γ.pr a->H a=some o
 dom:∀ a,H a=none->Γ.H₀ a=none
 len:σ.length=σV.length
structure Step(σ:Sg)(σV:St)(H:Hp)(σ':Sg)(σV':St)(H':Hp):Prop where
 fr:∀ a o,H a=some o->¬ nV σ σV a->H' a=some o
 dom:∀ a,H' a=none->H a=none
 mu:∀ a,nV σ' σV' a->nV σ σV a\/H a=none
 nv:∀ a,bL0 σ' σV' a->bL0 σ σV a\/H a=none
 kp:∀ (i:Nat) s,σ[i]? = some (some s)->∃ s',σ'[i]? = some (some s')
 fix:∀ (i:Nat) s,σ[i]? = some (some s)->(s.m=.par\/s.m=.lent)->∃ s',σ'[i]? = some (some s')/\s'.m=s.m/\(s.m=.lent->s'.d=s.d)/\σV'[i]? = σV[i]?
 lt:∀ (i:Nat) s',σ'[i]? = some (some s')->s'.m=.lent->∃ s,σ[i]? = some (some s)/\s.m=.lent
section
variable{σ σ1 σ2:Sg}{σV σV1 σV2:St}{H H1 H2:Hp}{Γ:Gm}
def Step.refl:Step σ σV H σ σV H:=⟨λ_ _ h _=>h,λ_ h=>h,λ_ h=>.inl h,λ_ h=>.inl h,λi s h=>⟨s,h⟩,λi s h _=>⟨s,h,rfl,λ_=>rfl,rfl⟩,λi s h m=>⟨s,h,m⟩⟩
theorem Step.trans(a:Step σ σV H σ1 σV1 H1)(b:Step σ1 σV1 H1 σ2 σV2 H2):Step σ σV H σ2 σV2 H2 where
 fr:=λc o h n=>b.fr c o (a.fr c o h n) λz=>by
  rcases a.mu c z with q | q;exact n q;rw[h]at q;cases q
 dom:=λc h=>a.dom c (b.dom c h)
 mu:=λc h=>by
  rcases b.mu c h with q | q;exact a.mu c q;exact .inr (a.dom c q)
 nv:=λc h=>by
  rcases b.nv c h with q | q;exact a.nv c q;exact .inr (a.dom c q)
 kp:=λi s h=>by
  obtain⟨s1,d⟩:=a.kp i s h;exact b.kp i s1 d
 fix:=λi s h hm=>by
  obtain⟨s1,d,m1,e,f⟩:=a.fix i s h hm;obtain⟨s2,g,j,k,l⟩:=b.fix i s1 d (by rw[m1];exact hm);exact⟨s2,g,j.trans m1,λz=>(k (m1.trans z)).trans (e z),l.trans f⟩
 lt:=λi s h m=>by
  obtain⟨s1,d,m1⟩:=b.lt i s h m;exact a.lt i s1 d m1
def StOk.mutObj(ok:StOk Γ H σ σV){a:Addr}(h:bL0 σ σV a):∃ o,H a=some o/\(∀ xs,o≠.tup xs)/\∀ ob u,o≠.frz ob u:=by
 obtain⟨i,s,b,c,d⟩:=h;obtain⟨v,e,r⟩:=ok.rel i s b;rw[d]at e;cases e;obtain⟨p,e,q⟩:=(cO c).mp r;cases e;exact q.obj
def Step.ext(st:Step σ σV H σ1 σV1 H1)(ok:StOk Γ H σ σV):Ext H H1:=by
 refine⟨λp xs h=>st.fr p _ h λz=>?_,λp o u h=>st.fr p _ h λz=>?_⟩;obtain⟨o,e,n,_⟩:=ok.mutObj z.nv;rw[h]at e;cases e;exact n _ rfl;obtain⟨o,e,_,n⟩:=ok.mutObj z.nv;rw[h]at e;cases e;exact n _ _ rfl
theorem bP3.mono{s:Sl}{v:V}(r:bP3 H s v)(e:Ext H H1)(b:∀ p o,v=.ref p->s.m≠.val->H p=some o->H1 p=some o):bP3 H1 s v:=by
 by_cases q:s.m=.val;obtain⟨m,d⟩:=s;cases q;exact Rp.mono e r;obtain⟨p,a,c⟩:=(cO q).mp r;exact(cO q).mpr ⟨p,a,c.mono e λo=>b p o a q⟩
theorem StOk.same(ok:StOk Γ H σ σV)(h:nT H H1):StOk Γ H1 σ σV:=
 ⟨λi s e=>by
  obtain⟨v,b,r⟩:=ok.rel i s e;exact⟨v,b,r.mono (.same h) λp o _ _ q=>h p o q⟩,ok.dis,ok.own,ok.par,λa o e n=>h a o (ok.keep a o e n),λa e=>ok.dom a (by
  cases q:H a with
  | none=>rfl
  | some o=>rw[h a o q]at e;cases e),ok.len⟩
def aY8(h:nT H H1){a:Addr}(e:H1 a=none):H a=none:=by
 cases q:H a with
 | none=>rfl
 | some o=>rw[h a o q]at e;cases e
def Step.same(h:nT H H1):Step σ σV H σ σV H1:=⟨λa o e _=>h a o e,λa e=>aY8 h e,λ_ h=>.inl h,λ_ h=>.inl h,λi s h=>⟨s,h⟩,λi s h _=>⟨s,h,rfl,λ_=>rfl,rfl⟩,λi s h m=>⟨s,h,m⟩⟩
end
inductive Res where
 | val (d:D) | own (d:D) | slot (i:Nat)
def jD(Γ:Gm)(H:Hp)(σ:Sg)(σV:St)(r:Res)(v:V):Prop:=match r with
 | .val d=>Rp H d v
 | .own d=>∃ p,v=.ref p/\dW H d p/\¬ bL0 σ σV p/\Γ.H₀ p=none
 | .slot i=>σV[i]? = some (some v)/\∃ s,σ[i]? = some (some s)
noncomputable def rd(σ:Sg):Res->Option D
 | .val d=>some d
 | .own d=>some d
 | .slot i=>match σ[i]? with
   | some (some s)=>some s.d
   | _=>none
section
variable{σ σ1:Sg}{σV σV1:St}{H H1:Hp}{Γ:Gm}{r:Res}{v:V}{d:D}
theorem jD.vw(ok:StOk Γ H σ σV)(h:jD Γ H σ σV r v)(e:rd σ r=some d):Vw H d v:=by
 cases r with
 | val d'=>cases e;exact .inl h
 | own d'=>cases e;obtain⟨p,a,b,_⟩:=h;exact .inr ⟨p,a,b⟩
 | slot i=>
   obtain⟨f,s,c⟩:=h;have g:some s.d=some d:=by
    have:rd σ (.slot i)=some s.d:=by show(match σ[i]? with | some (some s)=>some s.d | _=>none)=_;rw[c]
    rw[← this];exact e
   cases g;obtain⟨w,a,b⟩:=ok.rel i s c;rw[f]at a;cases a;exact b.vw
def jD.step(ok:StOk Γ H σ σV)(h:jD Γ H σ σV r v)(st:Step σ σV H σ1 σV H1):jD Γ H1 σ1 σV r v:=by
 cases r with
 | val d=>exact Rp.mono (st.ext ok) h
 | own d=>
   obtain⟨p,c,a,b,e⟩:=h;obtain⟨o,f,_⟩:=a.obj;refine⟨p,c,a.mono (st.ext ok) λo h=>st.fr p o h λz=>b z.nv,λz=>?_,e⟩;rcases st.nv p z with q | q;exact b q;rw[f]at q;cases q
 | slot i=>
   obtain⟨g,s,j⟩:=h;exact⟨g,st.kp i s j⟩
end
abbrev DE:=Sg->Option (Res×Sg)
abbrev DT:=Sg->Option (Bool×Sg)
abbrev DA:=Sg->Option (List Res×Sg)
inductive ResOks(Γ:Gm)(H:Hp)(σ:Sg)(σV:St):List Res->List V->Prop
 | nil:ResOks Γ H σ σV [] []
 | cons {r:Res} {rs:List Res} {v:V} {vs:List V}:jD Γ H σ σV r v->ResOks Γ H σ σV rs vs->(∀ d p,r=.own d->v=.ref p->∀ (j:Nat) d',rs[j]? = some (.own d')->vs[j]? ≠ some (.ref p))->ResOks Γ H σ σV (r::rs) (v::vs)
def Frh(H:Hp)(r:Res)(v:V):Prop:=∀ d p,r=.own d->v=.ref p->H p=none
def fU{H:Hp}{d:D}{v:V}:Frh H (.val d) v:=λ_ _ e=>nomatch e
def Frh.back{H c:Hp}{r:Res}{v:V}{σ b:Sg}{σV a:St}(f:Frh c r v)(st:Step σ σV H b a c):Frh H r v:=λd p e g=>st.dom p (f d p e g)
def dTE(Γ:Gm)(r:DE):TE:=λσV H Q=>∃ σ,StOk Γ H σ σV/\∃ res σ',r σ=some (res,σ') /\
 ∀ v H',StOk Γ H' σ' σV->jD Γ H' σ' σV res v->Step σ σV H σ' σV H'->Frh H res v->Q v H'
def peW{X:Cx}{e:Expr}{t t':TE}(h:PE X e t)(w:∀ σ H Q,t' σ H Q->t σ H Q):PE X e t':=λpins s σ H Q I q=>h pins s σ H Q I (w σ H Q q)
def ptW{X:Cx}{e:Expr}{t t':TT}(h:PT X e t)(w:∀ σ H Q,t' σ H Q->t σ H Q):PT X e t':=λpins s σ H Q I q=>h pins s σ H Q I (w σ H Q q)
def pwW{X:Cx}{e:Expr}{t t':TT}(h:PW X e t)(w:∀ σ H Q,t' σ H Q->t σ H Q):PW X e t':=λa pins s σ H Q I q=>h a pins s σ H Q I (w σ H Q q)
def paW{X:Cx}{e:List Expr}{t t':TA}(h:PA X e t)(w:∀ σ H Q,t' σ H Q->t σ H Q):PA X e t':=λa pins s σ H Q I q=>h a pins s σ H Q I (w σ H Q q)
def psW{X:Cx}{e:Stmt}{t t':TS}(h:PS X e t)(w:∀ D σ H,t' D σ H->t D σ H):PS X e t':=λpins s σ H D I q=>h pins s σ H D I (w D σ H q)
def dB7{X:Cx}{e:List Stmt}{t t':TS}(h:PSs X e t)(w:∀ D σ H,t' D σ H->t D σ H):PSs X e t':=λpins s σ H D I q=>h pins s σ H D I (w D σ H q)
structure GE(X:Cx)(e:Expr)(r:DE):Prop where
 to:∀ Γ,PE X e (dTE Γ r)
def dTT(Γ:Gm)(r:DT):TT:=λσV H Q=>∃ σ,StOk Γ H σ σV/\∃ b σ',r σ=some (b,σ')/\∀ H',StOk Γ H' σ' σV->Step σ σV H σ' σV H'->Q b H'
structure GT(X:Cx)(e:Expr)(r:DT):Prop where
 to:∀ Γ,PT X e (dTT Γ r)
structure GW(X:Cx)(e:Expr)(r:DT):Prop where
 to:∀ Γ,PW X e (dTT Γ r)
def GW.gt{X:Cx}{e:Expr}{r:DT}(h:GW X e r):GT X e r:=.mk λΓ=>(h.to Γ).pt
def dU7(H:Hp)(rs:List Res)(vs:List V):Prop:=∀ (j:Nat) d p,rs[j]? = some (.own d)->vs[j]? = some (.ref p)->H p=none
def dTA(Γ:Gm)(r:DA):TA:=λσV H Q=>∃ σ,StOk Γ H σ σV/\∃ rs σ',r σ=some (rs,σ')/\∀ vs H',StOk Γ H' σ' σV->ResOks Γ H' σ' σV rs vs->Step σ σV H σ' σV H'->dU7 H rs vs->Q vs H'
structure GA(X:Cx)(es:List Expr)(r:DA):Prop where
 to:∀ Γ,PA X es (dTA Γ r)
noncomputable def aF(i:Nat):DE:=λσ=>match σ[i]? with
 | some (some s)=>some (if s.m=.val then .val s.d else .slot i,σ)
 | _=>none
def dB8{X:Cx}{e:Expr}{i:Nat}(h:PE X e (bL6 i)):GE X e (aF i):=.mk λΓ=>peW h λσV H Q ⟨σ,ok,res,σ',e,k⟩=>by
 unfold aF at e;split at e;rename_i s hs;cases e;obtain⟨v,a,r⟩:=ok.rel i s hs;refine⟨v,a,k v H ok ?_ .refl (by split<;>exact λ_ _ e=>nomatch e)⟩;by_cases hm:s.m=.val;rw[a3Y hm];obtain⟨m,d⟩:=s;cases hm;exact r;rw[a3Z hm];exact⟨a,s,hs⟩;cases e
noncomputable def dC(d:D):DE:=λσ=>some (.val d,σ)
def dK4{X:Cx}{e:Expr}{v:V}{d:D}(h:PE X e (tC v))(hr:∀ H,Rp H d v):GE X e (dC d):=.mk λΓ=>peW h λσV H Q ⟨σ,ok,res,σ',e,k⟩=>by
 cases e;exact k v H ok (hr H) .refl fU
def ge_int{X:Cx}{i:Int}{j pos}:GE X (.Constant (.int i) j pos) (dC (.int i)):=dK4 aM λ_=>.int i
def dN7{X:Cx}{i:Bool}{j pos}:GE X (.Constant (.bool i) j pos) (dC (.bl i)):=dK4 dL6 λ_=>.bl i
def dB9{X:Cx}{i:Str}{j pos}:GE X (.Constant (.str i) j pos) (dC (.str i)):=dK4 bY0 λ_=>.str i
def dC0{X:Cx}{j pos}:GE X (.Constant .none j pos) (dC .non):=dK4 cW1 λ_=>.non
def xJ(H H':Hp)(r:Res)(v:V):Prop:=match r with
 | .val d=>Rp H' d v
 | .own d=>∃ p,v=.ref p/\H p=none/\dW H' d p
 | .slot _=>False
def xJ.frh{H H':Hp}{r:Res}{v:V}(h:xJ H H' r v):Frh H r v:=λd p a b=>by
 subst a b;obtain⟨q,e,c,_⟩:=h;cases e;exact c
def xJ.res{Γ:Gm}{H H':Hp}{σ:Sg}{σV:St}{r:Res}{v:V}(h:xJ H H' r v)(ok:StOk Γ H σ σV):jD Γ H' σ σV r v:=by
 cases r with
 | val d=>exact h
 | own d=>
   obtain⟨p,b,a,c⟩:=h;refine⟨p,b,c,λz=>?_,ok.dom p a⟩;obtain⟨o,e,_⟩:=ok.mutObj z;rw[a]at e;cases e
 | slot i=>exact h.elim
abbrev F1:=D->Option Res
abbrev F2:=D->D->Option Res
abbrev FN:=List D->Option Res
def dK5(a:V->Hp->VK->Prop)(f:F1):Prop:=∀ H d x Q res,Vw H d x->f d=some res->(∀ v H',nT H H'->xJ H H' res v->Q v H')->a x H Q
def pW(c:R2)(f:F2):Prop:=∀ H a b x y Q res,Vw H a x->Vw H b y->f a b=some res->(∀ v H',nT H H'->xJ H H' res v->Q v H')->c x y H Q
def cA8(b:List V->Hp->VK->Prop)(f:FN):Prop:=∀ H a vs Q res,Vws H a vs->f a=some res->(∀ v H',nT H H'->xJ H H' res v->Q v H')->b vs H Q
noncomputable def aB6(f:F1)(a:DE):DE:=λσ=>(a σ).bind λx=>(rd x.2 x.1).bind λd=>(f d).bind λr=>some (r,x.2)
noncomputable def aR(f:F2)(a b:DE):DE:=λσ=>(a σ).bind λx=>(b x.2).bind λy=>(rd y.2 x.1).bind λd=>(rd y.2 y.1).bind λe=>(f d e).bind λr=>some (r,y.2)
def bind_some{c d:Type}{o:Option c}{f:c->Option d}{b:d}(h:o.bind f=some b):∃ a,o=some a/\f a=some b:=by
 cases o with
 | none=>cases h
 | some a=>exact⟨a,rfl,h⟩
def pX{Γ:Gm}{l:R2}{f:F2}(q:pW l f){m n:DE}{σV:St}{H:Hp}{Q:VK}(h:dTE Γ (aR f m n) σV H Q):tOp l (dTE Γ m) (dTE Γ n) σV H Q:=by
 obtain⟨σ,ok,res,σ',e,k⟩:=h;obtain⟨⟨x,c⟩,s,e⟩:=bind_some e;obtain⟨⟨y,i⟩,t,e⟩:=bind_some e;obtain⟨u,w,e⟩:=bind_some e;obtain⟨z,A,e⟩:=bind_some e;obtain⟨r,B,e⟩:=bind_some e;cases e;refine⟨σ,ok,x,c,s,λC I d D g _=>⟨c,d,y,i,t,λE F a G b _=>?_⟩⟩;have j:=D.step d b;refine q F u z C E Q _ (j.vw a w) (G.vw a A) B λv H' o p=>?_;exact k v H' (a.same o) (p.res a) ((g.trans b).trans (.same o)) (p.frh.back (g.trans b))
def aI2{Γ:Gm}{d:V->Hp->VK->Prop}{f:F1}(l:dK5 d f){g:DE}{σV:St}{H:Hp}{Q:VK}(h:dTE Γ (aB6 f g) σV H Q):tUn d (dTE Γ g) σV H Q:=by
 obtain⟨σ,ok,res,σ',e,k⟩:=h;obtain⟨⟨x,c⟩,m,e⟩:=bind_some e;obtain⟨n,o,e⟩:=bind_some e;obtain⟨r,p,e⟩:=bind_some e;cases e;refine⟨σ,ok,x,c,m,λq s a t b _=>?_⟩;refine l s n q Q _ (t.vw a o) p λv H' i j=>?_;exact k v H' (a.same i) (j.res a) (b.trans (.same i)) (j.frh.back b)
section
variable{X:Cx}{a b:Expr}{ra rb:DE}{pos:Pos}
def tN{c:Operator}{d:R2}{f:F2}(e:OpR X (binaryOp c) d)(g:pW d f)(ha:GE X a ra)(h:GE X b rb):GE X (.BinOp a c b pos) (aR f ra rb):=
 .mk λΓ=>peW (fH e (ha.to Γ) (h.to Γ)) λ_ _ _=>pX g
def xK{c:CmpOp}{d:R2}{f:F2}(e:OpR X (compareOp c) d)(g:pW d f)(ha:GE X a ra)(h:GE X b rb)(hm:behindInMarks c b=false):GE X (.Compare a [c] [b] pos) (aR f ra rb):=
 .mk λΓ=>peW (cG6 e (ha.to Γ) (h.to Γ) hm) λ_ _ _=>pX g
noncomputable def eQ(r:DE):DT:=λσ=>(r σ).bind λx=>(rd x.2 x.1).bind λd=>match d with
 | .bl b=>some (b,x.2)
 | _=>none
def vC{r:DE}{σ σ':Sg}{b:Bool}(h:eQ r σ=some (b,σ')):∃ x,r σ=some (x,σ')/\rd σ' x=some (.bl b):=by
 obtain⟨⟨x,c⟩,f,e⟩:=bind_some h;obtain⟨d,a,e⟩:=bind_some e;dsimp only at e a;split at e;cases e;exact⟨x,f,a⟩;cases e
def xL{H:Hp}{b:Bool}{v:V}(h:Vw H (.bl b) v):v=.bl b:=by
 rcases h with h | ⟨p,_,h⟩;cases h;rfl;exact h.elim
def vD{Γ:Gm}{r:DE}{σV:St}{H:Hp}{Q:Bool->Hp->Prop}(h:dTT Γ (eQ r) σV H Q):dTE Γ r σV H (λx H'=>∃ k,x=.bl k/\Q k H'):=by
 obtain⟨σ,ok,b,σ',e,k⟩:=h;obtain⟨x,c,d⟩:=vC e;refine⟨σ,ok,x,σ',c,λv H' a f st _=>⟨b,xL (f.vw a d),k H' a st⟩⟩
def qT{c:CmpOp}{d:R2}{f:F2}(e:OpR X (compareOp c) d)(g:pW d f)(ha:GE X a ra)(i:GE X b rb)(hm:behindInMarks c b=false):GT X (.Compare a [c] [b] pos) (eQ (aR f ra rb)):=
 .mk λΓ=>ptW (bZ e (ha.to Γ) (i.to Γ) hm) λσ H Q h=>pX g (vD h)
def dC1{e:Expr}{r:DE}(h:GE X e r)(b:∀ a,isTrue e X.env a=(do let v ← a;standAt e.pos;holding [v] (truthy v)):=by intro _;rfl):GT X e (eQ r):=
 .mk λΓ=>ptW (cW2 (h.to Γ) b) λ_ _ _ h=>vD h
noncomputable def dN8:D->Option Bool
 | .non=>some false
 | .bl b=>some b
 | .int i=>some (i != 0)
 | .str x=>if x.length<=sizeLine then some ((x.length:Int) != 0)else none
 | .lst l=>some (!l.isEmpty)
 | .tup l=>some (!l.isEmpty)
 | _=>none
noncomputable def dC2(r:DE):DT:=λσ=>(r σ).bind λx=>(rd x.2 x.1).bind λd=>(dN8 d).bind λb=>some (b,x.2)
end
def fV{H:Hp}{l:List D}{v:V}(h:Vw H (.tup l) v):∃ p xs,v=.ref p/\H p=some (.tup xs)/\Rps H l xs:=by
 rcases h with h | ⟨p,_,h⟩
 ·cases h with
  | tup h r=>exact⟨_,_,rfl,h,r⟩
 ·exact h.elim
def gZ{H:Hp}{l:List D}{v:V}(h:Vw H (.lst l) v):∃ p xs,v=.ref p/\cY H p=some (true,xs)/\Rps H l xs:=by
 rcases h with h | ⟨p,e,xs,h,r⟩
 ·cases h with
  | lst h r=>exact⟨_,_,rfl,bM9 h,r⟩
 ·exact⟨p,xs,e,aL h,r⟩
def cS{H:Hp}{i:Int}{v:V}(h:Vw H (.int i) v):v=.int i:=by
 rcases h with h | ⟨p,_,h⟩;cases h;rfl;exact h.elim
def jO{H:Hp}{i:Str}{v:V}(h:Vw H (.str i) v):v=.str i:=by
 rcases h with h | ⟨p,_,h⟩;cases h;rfl;exact h.elim
def aY9{H:Hp}{v:V}(h:Vw H .non v):v=.non:=by
 rcases h with h | ⟨p,_,h⟩;cases h;rfl;exact h.elim
noncomputable def bL1:D->Option (Bool×List D)
 | .lst l=>some (true,l)
 | .tup l=>some (false,l)
 | _=>none
def cA9{H:Hp}{d:D}{v:V}{b:Bool}{l:List D}(h:Vw H d v)(e:bL1 d=some (b,l)):∃ p xs,v=.ref p/\cY H p=some (b,xs)/\Rps H l xs:=by
 cases d with
 | lst a=>cases e;exact gZ h
 | tup a=>cases e;obtain⟨p,xs,c,f,g⟩:=fV h;exact⟨p,xs,c,bK f,g⟩
 | _=>cases e
section
variable{X:Cx}{a b:Expr}{ra rb:DE}{pos:Pos}
def bP4(ha:GE X a ra)(o:∀ f,isTrue a X.env f=(do let v ← f;standAt a.pos;holding [v] (truthy v))):GT X a (dC2 ra):=.mk λΓ=>ptW (bM0 (ha.to Γ) o) λσV H Q ⟨σ,ok,b,σ',e,k⟩=>by
 obtain⟨⟨x,q⟩,r,e⟩:=bind_some e;obtain⟨d,s,e⟩:=bind_some e;obtain⟨t,g,e⟩:=bind_some e;cases e;refine⟨σ,ok,x,_,r,λv H' j u st _=>⟨b,?_,k H' j st⟩⟩;have vw:=u.vw j s;cases d with
 | non=>cases g;rw[aY9 vw];rfl
 | bl c=>cases g;rw[xL vw];rfl
 | int i=>cases g;rw[cS vw];rfl
 | str z=>
   rw[jO vw];have h:(if z.length<=sizeLine then some ((z.length:Int) != 0)else none)=some b:=g;split at h;rename_i w;cases h;exact⟨w,rfl⟩;cases h
 | lst l=>
   cases g;obtain⟨p,xs,rfl,m,n⟩:=gZ vw;refine .inl ⟨xs,dQ m,?_⟩;have:=n.length;cases l<;>cases xs<;>simp_all
 | tup l=>
   cases g;obtain⟨p,xs,rfl,m,n⟩:=fV vw;refine .inr (.inl ⟨xs,cP (bK m),?_⟩);have:=n.length;cases l<;>cases xs<;>simp_all
 | dic ks vs=>cases g
variable{tA tB:DT}{cG:List Expr}
noncomputable def dC3(t u:DT):DT:=λσ=>(t σ).bind λx=>if x.1=true then u x.2 else some (false,x.2)
noncomputable def dOr(t u:DT):DT:=λσ=>(t σ).bind λx=>if x.1=true then some (true,x.2)else u x.2
noncomputable def bP5(t:DT):DT:=λσ=>(t σ).bind λx=>some (!x.1,x.2)
def cJ7(ha:GT X a tA):GW X (.BoolOp .And [a] pos) tA:=.mk λΓ=>qH (ha.to Γ)
def dC4(ha:GT X a tA):GW X (.BoolOp .Or [a] pos) tA:=.mk λΓ=>cW3 (ha.to Γ)
def dC5(ha:GT X a tA)(l:GW X (.BoolOp .And (b::cG) pos) tB):GW X (.BoolOp .And (a::b::cG) pos) (dC3 tA tB):=.mk λΓ=>pwW (tD (ha.to Γ) (l.to Γ)) λσV H Q ⟨σ,ok,c,σ',e,k⟩=>by
 obtain⟨⟨x,d⟩,m,e⟩:=bind_some e;refine⟨σ,ok,x,d,m,λn f g=>?_⟩;dsimp only at e;split at e;rename_i h;rw[a3Y h];exact⟨d,f,c,σ',e,λo i j=>k o i (g.trans j)⟩;rename_i h;rw[a3Z h];cases e;exact k n f g
def dN9(ha:GT X a tA)(l:GW X (.BoolOp .Or (b::cG) pos) tB):GW X (.BoolOp .Or (a::b::cG) pos) (dOr tA tB):=.mk λΓ=>pwW (dL7 (ha.to Γ) (l.to Γ)) λσV H Q ⟨σ,ok,c,σ',e,k⟩=>by
 obtain⟨⟨x,d⟩,m,e⟩:=bind_some e;refine⟨σ,ok,x,d,m,λn f g=>?_⟩;dsimp only at e;split at e;rename_i h;rw[a3Y h];cases e;exact k n f g;rename_i h;rw[a3Z h];exact⟨d,f,c,σ',e,λo i j=>k o i (g.trans j)⟩
def dC6(ha:GT X a tA):GT X (.UnaryOp .Not a pos) (bP5 tA):=.mk λΓ=>ptW (cW4 (ha.to Γ)) λσV H Q ⟨σ,ok,c,σ',e,k⟩=>by
 obtain⟨⟨x,f⟩,g,e⟩:=bind_some e;cases e;exact⟨σ,ok,x,_,g,λh b d=>k h b d⟩
noncomputable def xM(t u:DE):DE:=λσ=>(eQ t σ).bind λx=>if x.1=true then u x.2 else some (.val (.bl false),x.2)
noncomputable def aZ0(t:DE):DE:=λσ=>(eQ t σ).bind λx=>some (.val (.bl (!x.1)),x.2)
def dC7{op}{r:DE}(h:GE X a r):GE X (.BoolOp op [a] pos) r:=.mk λΓ=>cW5 (h.to Γ)
def dC8(ha:GE X a ra)(l:GE X (.BoolOp .And (b::cG) pos) rb):GE X (.BoolOp .And (a::b::cG) pos) (xM ra rb):=.mk λΓ=>peW (cW6 (ha.to Γ) (l.to Γ)) λσV H Q ⟨σ,ok,c,σ',e,k⟩=>by
 obtain⟨⟨x,g⟩,m,e⟩:=bind_some e;obtain⟨y,n,o⟩:=vC m;refine⟨σ,ok,y,g,n,λv p d q f _=>⟨x,xL (q.vw d o),?_⟩⟩;dsimp only at e;split at e;rename_i h;rw[a3Y h];exact⟨g,d,c,σ',e,λr s i t j u=>k r s i t (f.trans j) (u.back f)⟩;rename_i h;rw[a3Z h];cases e;exact k _ p d (.bl false) f fU
def dC9(ha:GE X a ra):GE X (.UnaryOp .Not a pos) (aZ0 ra):=.mk λΓ=>peW (cW7 (ha.to Γ)) λσV H Q ⟨σ,ok,c,σ',e,k⟩=>by
 obtain⟨⟨x,f⟩,g,e⟩:=bind_some e;obtain⟨y,h,i⟩:=vC g;cases e;exact⟨σ,ok,y,_,h,λv j b l d _=>⟨x,xL (l.vw b i),k _ j b (.bl _) d fU⟩⟩
noncomputable def dIf(t:DT)(ra rb:DE):DE:=λσ=>(t σ).bind λx=>if x.1=true then ra x.2 else rb x.2
def dO0{c:Expr}(p:GT X c tA)(ha:GE X a ra)(q:GE X b rb):GE X (.IfExp c a b pos) (dIf tA ra rb):=.mk λΓ=>peW (aG4 (p.to Γ) (ha.to Γ) (q.to Γ)) λσV H Q ⟨σ,ok,r,σ',e,k⟩=>by
 obtain⟨⟨x,f⟩,s,e⟩:=bind_some e;refine⟨σ,ok,x,f,s,λt i d=>?_⟩;dsimp only at e;split at e;rename_i j;rw[a3Y j];exact⟨f,i,r,σ',e,λl m g n h o=>k l m g n (d.trans h) (o.back d)⟩;rename_i j;rw[a3Z j];exact⟨f,i,r,σ',e,λl m g n h o=>k l m g n (d.trans h) (o.back d)⟩
noncomputable def xN(f g:F2)(ra rb a:DE):DE:=λσ=>(ra σ).bind λx=>(rb x.2).bind λy=>(rd y.2 x.1).bind λd=>(rd y.2 y.1).bind λe=>match f d e with
 | some (.val (.bl true))=>(a y.2).bind λz=>(rd z.2 y.1).bind λe=>(rd z.2 z.1).bind λh=>(g e h).bind λr=>some (r,z.2)
 | some (.val (.bl false))=>some (.val (.bl false),y.2)
 | _=>none
def aP7{Γ:Gm}{F l:R2}{f g:F2}(G:pW F f)(u:pW l g){ra rb I:DE}{σV:St}{H:Hp}{Q:VK}(h:dTE Γ (xN f g ra rb I) σV H Q):bY3 F l (dTE Γ ra) (dTE Γ rb) (dTE Γ I) σV H Q:=by
 obtain⟨σ,ok,res,σ',e,k⟩:=h;obtain⟨⟨x,m⟩,P,e⟩:=bind_some e;obtain⟨⟨y,n⟩,R,e⟩:=bind_some e;obtain⟨J,K,e⟩:=bind_some e;obtain⟨L,M,e⟩:=bind_some e;refine⟨σ,ok,x,m,P,λN H1 o S d _=>⟨m,o,y,n,R,λw O a A b _=>?_⟩⟩;have p:=S.step o b;dsimp only at e;split at e;rename_i B;obtain⟨⟨z,T⟩,U,e⟩:=bind_some e;obtain⟨C,V,e⟩:=bind_some e;obtain⟨W,X,e⟩:=bind_some e;obtain⟨r,Y,e⟩:=bind_some e;cases e;refine G O J L N w _ _ (p.vw a K) (A.vw a M) B λv H' i D=>?_;have q:=a.same i;cases D;refine⟨true,rfl,?_⟩;rw[a3Y rfl];refine⟨n,q,z,_,U,λZ H4 c r4 j _=>?_⟩;have E:=(A.step a (.same i)).step q j;refine u H4 C W w Z Q _ (E.vw c V) (r4.vw c X) Y λv H' s t=>?_;exact k v H' (c.same s) (t.res c) ((((d.trans b).trans (.same i)).trans j).trans (.same s)) (t.frh.back (((d.trans b).trans (.same i)).trans j));rename_i B;cases e;refine G O J L N w _ _ (p.vw a K) (A.vw a M) B λv H' i D=>?_;cases D;refine⟨false,rfl,?_⟩;rw[a3Z a1b];exact k _ H' (a.same i) (.bl false) ((d.trans b).trans (.same i)) fU;cases e
def bP6{c:Expr}{l:DE}{i d:CmpOp}{m e:R2}{f g:F2}(n:OpR X (compareOp i) m)(o:pW m f)(j:OpR X (compareOp d) e)(k:pW e g)(ha:GE X a ra)(p:GE X b rb)(q:GE X c l)
  (hm:lastMarks [i,d] [b,c]=false:=by with_unfolding_all rfl):GT X (.Compare a [i,d] [b,c] pos) (eQ (xN f g ra rb l)):=.mk λΓ=>ptW (bL9 n j (ha.to Γ) (p.to Γ) (q.to Γ) hm) λ_ _ _ h=>aP7 o k (vD h)
end
def Fz:HO->Prop
 | .lst _=>True
 | .dK _=>True
 | .dT _=>True
 | _=>False
def cJ8{X:Cx}{pins:List (Addr×Obj)}{σ:St}{H:Hp}{s:Shared}{p:Addr}{u:HO}(I:Inv X pins σ H s)(h:H p=some u)(d:Fz u):∃ o,Inv X pins σ (upd H p (.frz o u)) s:=by
 have nt:∀ b xs,H b=some (.tup xs)->b≠p:=λb xs e z=>by subst z;rw[h]at e;cases e;exact d
 have j:∀ b o x,H b=some (.frz o x)->b≠p:=λb o x e z=>by subst z;rw[h]at e;cases e;exact d
 have no:∀ b x,H b=some (.own x)->b≠p:=λb x e z=>by subst z;rw[h]at e;cases e;exact d
 have r:∀ b x,H b=some (.tbl x)->b≠p:=λb x e z=>by subst z;rw[h]at e;cases e;exact d
 have f:∀ b,H b=none->b≠p:=λb e z=>by subst z;rw[h]at e;cases e
 obtain⟨o,t⟩:∃ o,s.heap.get? p=some o:=by
  have:=I.hok p u h;have l:=this.lt;cases q:s.heap.get? p with
  | some o=>exact⟨o,rfl⟩
  | none=>
    cases u with
    | lst xs=>obtain⟨_,_,_,_,e⟩:=this;rw[q]at e;cases e
    | dK kvs=>obtain⟨_,_,_,_,ob,_,_,e,_⟩:=this;rw[q]at e;cases e
    | dT kvs=>obtain⟨_,_,_,_,ob,_,_,e,_⟩:=this;rw[q]at e;cases e
    | _=>exact d.elim
 have st:∀ a x,dD X.prog X.w H s.heap a x->dD X.prog X.w (upd H p (.frz o u)) s.heap a x:=λa x k=>
  k.stay (λ_ _ _ e=>e) (λb e=>by rw[aD (no b _ e)];exact e) λb xs e=>by rw[aD (nt b _ e)];exact e
 refine⟨o,{I with base:=?_,free:=?_,freeC:=?_,pin:=?_,hok:=?_}⟩
 ·exact⟨I.base.keep,I.base.slot,λb ob q n v=>by
    have:=I.base.free b ob q n v;rw[aD (f b this)];exact this,I.base.there,λb xs e=>by
    have:=I.base.tups b xs e;rw[aD (nt b _ this)];exact this,λb ob x e=>by
    have:=I.base.frzs b ob x e;rw[aD (j b _ _ this)];exact this,λb ps e=>by
    obtain⟨m,g⟩:=I.base.tbls b ps e;exact⟨m,by rw[aD (r b _ g)];exact g⟩⟩
 ·rw[aD (f _ I.free)];exact I.free
 ·intro x c e;rw[aD (f _ (I.freeC x c e))];exact I.freeC x c e
 ·intro q y;obtain⟨A,i,B⟩:=I.pin q y;exact⟨A,by rw[aD (f _ i)];exact i,B⟩
 ·intro a x e;by_cases ha:a=p;subst ha;rw[aE]at e;cases e;exact⟨t,st a u (I.hok a u h)⟩;rw[aD ha]at e;exact st a x (I.hok a x e)
def tFz(t:TE):TE:=λσ H Q=>t σ H λv H1=>Q v H1\/∃ p u,v=.ref p/\H1 p=some u/\Fz u/\∀ o,Q v (upd H1 p (.frz o u))
def dO1{X:Cx}{e:Expr}{t:TE}(h:PE X e t):PE X e (tFz t):=λpins s σ H Q I q=>
 thn (h pins s σ H _ I q) λu s1 ⟨v,d,b,c,a⟩=>by
  rcases a with a | ⟨p,x,j,f,g,a⟩;exact⟨v,d,b,c,a⟩;obtain⟨o,i⟩:=cJ8 b f g;exact⟨v,_,i,c,a o⟩
def aZ1{H:Hp}{d:D}{p:Addr}(h:dW H d p):∃ u,H p=some u/\Fz u/\∀ o H',Ext H H'->H' p=some (.frz o u)->Rp H' d (.ref p):=by
 unfold dW at h;split at h;obtain⟨xs,b,a⟩:=h;exact⟨_,b,True.intro,λo H' x e=>.lst e (a.mono x)⟩
 ·obtain⟨u,ws,b,a,c⟩:=h;refine⟨u,b,?_,λo H' x e=>.dic e a (c.mono x)⟩;cases u with
  | dK _=>exact True.intro
  | dT _=>exact True.intro
  | _=>exact a.elim
 ·exact h.elim
def aZ2{H:Hp}{p:Addr}{u:HO}{o:Obj}(h:H p=some u)(a:Fz u):Ext H (upd H p (.frz o u)):=
 ⟨λb xs e=>by rw[aD (λz=>by subst z;rw[h]at e;cases e;exact a)];exact e,λb ob x e=>by rw[aD (λz=>by subst z;rw[h]at e;cases e;exact a)];exact e⟩
noncomputable def dS0(σ:Sg):Res->Option (D×Sg)
 | .val d=>some (d,σ)
 | .own d=>some (d,σ)
 | .slot i=>match σ[i]? with
   | some (some s)=>if s.m=.own then some (s.d,σ.set i (some ⟨.val,s.d⟩))else if s.m=.val then some (s.d,σ)else none
   | _=>none
noncomputable def dFz(r:DE):DE:=λσ=>(r σ).bind λx=>(dS0 x.2 x.1).bind λy=>some (.val y.1,y.2)
def bH{a:Type}{l:List a}{i j:Nat}{x y:a}(h:(l.set i x)[j]? = some y):(j=i/\y=x/\i < l.length)\/(j≠i/\l[j]? = some y):=by
 rw[List.getElem?_set]at h;split at h;rename_i e;split at h;cases h;exact .inl ⟨e.symm,rfl,by assumption⟩;cases h;rename_i e;exact .inr ⟨λz=>e z.symm,h⟩
def dO2{X:Cx}{e:Expr}{r:DE}(h:GE X e r):GE X e (dFz r):=.mk λΓ=>peW (dO1 (h.to Γ)) λσV H Q ⟨σ,ok,res,σ',e,k⟩=>by
 obtain⟨⟨x,σ1⟩,U,e⟩:=bind_some e;obtain⟨⟨d,L⟩,C,e⟩:=bind_some e;cases e;refine⟨σ,ok,x,σ1,U,λv S b A c V=>?_⟩;dsimp only at C;cases x with
 | val d'=>cases C;exact .inl (k v S b A c fU)
 | own d'=>
   cases C;obtain⟨p,rfl,M,W,Y⟩:=A;obtain⟨u,F,G,N⟩:=aZ1 M;have hn:H p=none:=V _ p rfl rfl;refine .inr ⟨p,u,rfl,F,G,λo=>?_⟩;have x:=aZ2 (o:=o) F G;refine k _ _ ⟨λi s e=>?_,b.dis,b.own,b.par,λa ob e n=>?_,λa e=>?_,b.len⟩ (N o _ x aE) ⟨λa ob e n=>?_,λa e=>?_,c.mu,c.nv,c.kp,c.fix,c.lt⟩ fU;obtain⟨w,D,B⟩:=b.rel i s e;refine⟨w,D,B.mono x λq ob O m C=>?_⟩;rw[aD (λz=>W ⟨i,s,e,m,by rw[D,O,z]⟩)];exact C;rw[aD (λz=>by subst z;rw[Y]at e;cases e)];exact b.keep a ob e n;by_cases z:a=p;subst z;rw[aE]at e;cases e;rw[aD z]at e;exact b.dom a e;rw[aD (λz=>by subst z;rw[hn]at e;cases e)];exact c.fr a ob e n;by_cases z:a=p;subst z;rw[aE]at e;cases e;rw[aD z]at e;exact c.dom a e
 | slot i=>
   obtain⟨A,s,hs⟩:=A;have g:(match σ1[i]? with | some (some s)=>if s.m=.own then some (s.d,σ1.set i (some ⟨.val,s.d⟩))else if s.m=.val then some (s.d,σ1)else none | _=>none)=some (d,L):=C;rw[hs]at g;dsimp only at g;obtain⟨w,D,B⟩:=b.rel i s hs;rw[A]at D;cases D;split at g
   ·rename_i hm;cases g;obtain⟨m,d⟩:=s;cases hm;obtain⟨p,rfl,M⟩:=(cO (s:=⟨.own,d⟩) (λz=>nomatch z)).mp B;obtain⟨u,F,G,N⟩:=aZ1 M;refine .inr ⟨p,u,rfl,F,G,λo=>?_⟩;have x:=aZ2 (o:=o) F G;have T:=N o _ x aE;have Z:i < σ1.length:=(a3a.mp hs).1;have pm:nV σ1 σV p:=⟨i,_,hs,rfl,A⟩;have sub:∀ (j:Nat) t,(σ1.set i (some ⟨.val,d⟩))[j]? = some (some t)->t.m≠.val->j≠i/\σ1[j]? = some (some t):=λj t f hm=>by
     rcases bH f with⟨_,z,_⟩ | z;cases z;exact absurd rfl hm;exact z
    have I:∀ t:Sl,t.m.mt=true->t.m≠.val:=λt h z=>by rw[z]at h;cases h
    refine k _ _ ⟨λj t f=>?_,λj l t E q n f el m m'=>?_,λj t q f m=>?_,λj t q f m=>?_,λa ob e n=>?_,λa e=>?_,?_⟩ T
     ⟨λa ob e n=>?_,λa e=>?_,λa ⟨j,t,f,m,P⟩=>?_,λa ⟨j,t,f,m,P⟩=>?_,λj t f=>?_,λj t f m=>?_,λj t f m=>c.lt j t (sub j t f (by rw[m];exact λz=>nomatch z)).2 m⟩ fU
    ·rcases bH f with⟨z,K,_⟩ | ⟨z,K⟩;cases K;rw[z];exact⟨_,A,T⟩;obtain⟨w,D,R⟩:=b.rel j t K;refine⟨w,D,R.mono x λq ob O m C=>?_⟩;rw[aD (λy=>b.dis i j _ t p (a5d z) hs K rfl m A (by rw[D,O,y]))];exact C
    ·exact b.dis j l t E q n (sub j t f (I t m)).2 (sub l E el m').2 m m'
    ·exact b.own j t q (sub j t f (by rw[m];exact λz=>nomatch z)).2 m
    ·exact b.par j t q (sub j t f (by rw[m];exact λz=>nomatch z)).2 m
    ·have hp:=b.own i _ p hs rfl A;rw[aD (λz=>by subst z;rw[hp]at e;cases e)];exact b.keep a ob e n
    ·by_cases z:a=p;subst z;rw[aE]at e;cases e;rw[aD z]at e;exact b.dom a e
    ·rw[a9f];exact b.len
    ·by_cases z:a=p;subst z;rcases c.mu a pm with y | y;exact absurd y n;rw[e]at y;cases y;rw[aD z];exact c.fr a ob e n
    ·by_cases z:a=p;subst z;rw[aE]at e;cases e;rw[aD z]at e;exact c.dom a e
    ·exact c.mu a ⟨j,t,(sub j t f (I t m)).2,m,P⟩
    ·exact c.nv a ⟨j,t,(sub j t f m).2,m,P⟩
    ·obtain⟨E,J⟩:=c.kp j t f;by_cases z:j=i;subst z;exact⟨_,by rw[a2c Z]⟩;exact⟨E,by rw[a9a (a5d z)];exact J⟩
    ·obtain⟨E,J,h⟩:=c.fix j t f m;refine⟨E,?_,h⟩;rw[a9a (λz=>?_)];exact J;subst z;rw[hs]at J;cases J;rcases m with m | m;have:=h.1;rw[m]at this;cases this;have:=h.1;rw[m]at this;cases this
   ·split at g;rename_i hm;cases g;obtain⟨m,d⟩:=s;cases hm;exact .inl (k v S b B c fU);cases g
noncomputable def aT:DA:=λσ=>some ([],σ)
noncomputable def aA(r:DE)(rs:DA):DA:=λσ=>(r σ).bind λx=>(rs x.2).bind λy=>some (x.1::y.1,y.2)
noncomputable def rds(σ:Sg):List Res->Option (List D)
 | []=>some []
 | r::rs=>(rd σ r).bind λd=>(rds σ rs).bind λa=>some (d::a)
noncomputable def vals:List Res->Option (List D)
 | []=>some []
 | .val d::rs=>(vals rs).bind λa=>some (d::a)
 | _=>none
theorem vE{Γ:Gm}{H:Hp}{σ:Sg}{σV:St}(ok:StOk Γ H σ σV):∀ {rs:List Res} {vs:List V} {a:List D},ResOks Γ H σ σV rs vs->rds σ rs=some a->Vws H a vs
 | _,_,_,.nil,e=>by cases e;exact .nil
 | _,_,_,.cons h t _,e=>by
   obtain⟨d,b,e⟩:=bind_some e;obtain⟨a,c,e⟩:=bind_some e;cases e;exact .cons (h.vw ok b) (vE ok t c)
theorem pY{Γ:Gm}{H:Hp}{σ:Sg}{σV:St}:∀ {rs:List Res} {vs:List V} {a:List D},ResOks Γ H σ σV rs vs->vals rs=some a->Rps H a vs
 | _,_,_,.nil,e=>by cases e;exact .nil
 | .val d::_,_,_,.cons h t _,e=>by
   obtain⟨a,b,e⟩:=bind_some e;cases e;exact .cons h (pY t b)
 | .own d::_,_,_,.cons h t _,e=>by cases e
 | .slot d::_,_,_,.cons h t _,e=>by cases e
section
variable{X:Cx}{e:Expr}{es:List Expr}{r:DE}{rs:DA}{pos:Pos}
def dD0:GA X [] aT:=.mk λΓ=>paW aJ λσV H Q ⟨σ,ok,res,σ',e,k⟩=>by
 cases e;exact k [] H ok .nil .refl (λj d p e=>by simp at e)
def cJ9(ha:GE X e r)(hr:GA X es rs)(hs:starEach (e::es) X.env=(false,eval e X.env)::starEach es X.env:=by kernel_rfl):GA X (e::es) (aA r rs):=.mk λΓ=>paW (aC (ha.to Γ) (hr.to Γ) hs) λσV H Q ⟨σ,ok,res,σ',e,k⟩=>by
 obtain⟨⟨x,a⟩,n,e⟩:=bind_some e;obtain⟨⟨ys,s⟩,t,e⟩:=bind_some e;cases e;refine⟨σ,ok,x,a,n,λv D b l c u=>⟨a,b,ys,_,t,λvs w i y f m=>?_⟩⟩;refine k (v::vs) w i (.cons (l.step b f) y λd p g h j d' z A=>?_) (c.trans f) λj d p g h=>?_;subst g h;obtain⟨q,B,ow,_⟩:=l;cases B;obtain⟨o,C,_⟩:=ow.obj;have:=m j d' p z A;rw[C]at this;cases this;cases j with
 | zero=>simp at g h;subst g h;exact u d p rfl rfl
 | succ j=>exact c.dom p (m j d p (by simpa using g) (by simpa using h))
noncomputable def dCB(f:FN)(a:DA):DE:=λσ=>(a σ).bind λx=>(rds x.2 x.1).bind λb=>(f b).bind λr=>some (r,x.2)
def aB7{c:List V->Hp->VK->Prop}{f:FN}{d:DA}(j:cA8 c f)(h:∀ Γ,PE X e (tCB c (dTA Γ d))):GE X e (dCB f d):=.mk λΓ=>peW (h Γ) λσV H Q ⟨σ,ok,res,σ',e,k⟩=>by
 obtain⟨⟨x,l⟩,m,e⟩:=bind_some e;obtain⟨n,o,e⟩:=bind_some e;obtain⟨r,p,e⟩:=bind_some e;cases e;refine⟨σ,ok,x,_,m,λvs q a s b t=>?_⟩;refine j q n vs Q _ (vE a s o) p λv H' g i=>?_;exact k v H' (a.same g) (i.res a) (b.trans (.same g)) (i.frh.back b)
noncomputable def cK0(b:DA):DE:=λσ=>(b σ).bind λx=>(vals x.1).bind λa=>if a.length<=sizeLine then some (.val (.tup a),x.2)else none
noncomputable def pZ(b:DA):DE:=λσ=>(b σ).bind λx=>(vals x.1).bind λa=>if a.length<=sizeLine then some (.own (.lst a),x.2)else none
def dD1{g}(h:GA X es rs):GE X (.Tuple es g pos) (cK0 rs):=.mk λΓ=>peW (cX8 (h.to Γ)) λσV H Q ⟨σ,ok,res,σ',e,k⟩=>by
 obtain⟨⟨x,i⟩,j,e⟩:=bind_some e;obtain⟨o,l,e⟩:=bind_some e;dsimp only at e;split at e;rename_i hl;cases e;refine⟨σ,ok,x,_,j,λvs d a m b q=>?_⟩;have f:=pY m l;refine⟨by rw[← f.length];exact hl,λp n=>?_⟩;have c:nT d (upd d p (.tup vs)):=bE n;exact k _ _ (a.same c) (.tup aE (f.mono (.same c))) (b.trans (.same c)) fU;cases e
def dD2(h:GA X es rs):GE X (.List es pos) (pZ rs):=.mk λΓ=>peW (oJ (h.to Γ)) λσV H Q ⟨σ,ok,res,σ',e,k⟩=>by
 obtain⟨⟨x,j⟩,l,e⟩:=bind_some e;obtain⟨m,n,e⟩:=bind_some e;dsimp only at e;split at e;rename_i hl;cases e;refine⟨σ,ok,x,_,l,λvs c a o b q=>?_⟩;have f:=pY o n;refine⟨by rw[← f.length];exact hl,λp g=>?_⟩;have d:nT c (upd c p (.lst vs)):=bE g;have i:xJ c (upd c p (.lst vs)) (.own (.lst m)) (.ref p):=⟨p,rfl,g,vs,aE,f.mono (.same d)⟩;exact k _ _ (a.same d) (i.res a) (b.trans (.same d)) (i.frh.back b);cases e
end
section
variable{Γ:Gm}{H:Hp}{σ:Sg}{σV:St}{i:Nat}{s:Sl}{p:Addr}{o':HO}{d':D}
def StOk.ownAt(ok:StOk Γ H σ σV)(hs:σ[i]? = some (some s))(hm:s.m≠.val):∃ p,σV[i]? = some (some (.ref p))/\dW H s.d p:=by
 obtain⟨v,e,r⟩:=ok.rel i s hs;obtain⟨p,rfl,a⟩:=(cO hm).mp r;exact⟨p,e,a⟩
def hU{m:Md}(h:m.mt=true):m≠.val:=λz=>by rw[z]at h;cases h
def dW.ext{d:D}(h:dW H d p):Ext H (upd H p o'):=by
 obtain⟨o,e,n1,n2⟩:=h.obj;exact⟨λb xs q=>by rw[aD (λz=>by subst z;rw[e]at q;cases q;exact n1 _ rfl)];exact q,λb ob x q=>by rw[aD (λz=>by subst z;rw[e]at q;cases q;exact n2 _ _ rfl)];exact q⟩
def StOk.write(ok:StOk Γ H σ σV)(hs:σ[i]? = some (some s))(hm:s.m.mt=true)(g:σV[i]? = some (some (.ref p)))(ow:dW (upd H p o') d' p) :
  StOk Γ (upd H p o') (σ.set i (some ⟨s.m,d'⟩)) σV/\Step σ σV H (σ.set i (some ⟨s.m,d'⟩)) σV (upd H p o'):=by
 obtain⟨I,u,k⟩:=ok.ownAt hs (hU hm);rw[g]at u;cases u;have x:Ext H (upd H p o'):=k.ext;have v:i < σ.length:=(a3a.mp hs).1;have back:∀ (j:Nat) t,(σ.set i (some ⟨s.m,d'⟩))[j]? = some (some t)->∃ t',σ[j]? = some (some t')/\t'.m=t.m:=λj t b=>by
  rcases bH b with⟨z,f,_⟩ | ⟨z,f⟩;cases f;subst z;exact⟨s,hs,rfl⟩;exact⟨t,f,rfl⟩
 refine⟨⟨λj t b=>?_,λj l t t' q n b B m m'=>?_,λj t q b m=>?_,λj t q b m=>?_,λa ob e n=>?_,λa e=>?_,by rw[a9f];exact ok.len⟩,
  ⟨λa ob e n=>?_,λa e=>?_,λa ⟨j,t,b,m,o⟩=>?_,λa ⟨j,t,b,m,o⟩=>?_,λj t b=>?_,λj t b m=>?_,λj t b m=>?_⟩⟩
 ·rcases bH b with⟨z,f,_⟩ | ⟨z,f⟩;cases f;subst z;exact⟨_,g,(cO (s:=⟨s.m,d'⟩) (hU hm)).mpr ⟨p,rfl,ow⟩⟩;obtain⟨w,A,r⟩:=ok.rel j t f;refine⟨w,A,r.mono x λq ob C m D=>?_⟩;rw[aD (λy=>ok.dis i j _ t p (a5d z) hs f hm m g (by rw[A,C,y]))];exact D
 ·obtain⟨c,d,m1⟩:=back j t b;obtain⟨E,F,G⟩:=back l t' B;exact ok.dis j l c E q n d F (by rw[m1];exact m) (by rw[G];exact m')
 ·obtain⟨c,d,m1⟩:=back j t b;exact ok.own j c q d (m1.trans m)
 ·obtain⟨c,d,m1⟩:=back j t b;exact ok.par j c q d (m1.trans m)
 ·have:a≠p:=λz=>by
   subst z;cases h:s.m with
   | own=>rw[ok.own i s a hs h g]at e;cases e
   | par=>exact n (ok.par i s a hs h g)
   | val=>rw[h]at hm;cases hm
   | lent=>rw[h]at hm;cases hm
  rw[aD this];exact ok.keep a ob e n
 ·by_cases z:a=p;subst z;rw[aE]at e;cases e;rw[aD z]at e;exact ok.dom a e
 ·rw[aD (λz=>n ⟨i,s,hs,hm,by rw[z];exact g⟩)];exact e
 ·by_cases z:a=p;subst z;rw[aE]at e;cases e;rw[aD z]at e;exact e
 ·obtain⟨c,d,m1⟩:=back j t b;exact .inl ⟨j,c,d,by rw[m1];exact m,o⟩
 ·obtain⟨c,d,m1⟩:=back j t b;exact .inl ⟨j,c,d,by rw[m1];exact m,o⟩
 ·by_cases z:j=i;subst z;exact⟨_,by rw[a2c v]⟩;exact⟨t,by rw[a9a (a5d z)];exact b⟩
 ·by_cases z:j=i;subst z;rw[hs]at b;cases b;exact⟨⟨s.m,d'⟩,by rw[a2c v],rfl,λq=>(by rw[q]at hm;cases hm),rfl⟩;exact⟨t,by rw[a9a (a5d z)];exact b,rfl,λ_=>rfl,rfl⟩
 ·obtain⟨c,d,m1⟩:=back j t b;exact⟨c,d,m1.trans m⟩
end
abbrev FM:=D->List D->Option (D×D)
def dO3(r:V->List V->Hp->VK->Prop)(f:FM):Prop:=∀ H d p a vs Q d' e,dW H d p->Rps H a vs->f d a=some (d',e)->(∀ o' v,dW (upd H p o') d' p->Rp (upd H p o') e v->Q v (upd H p o'))->r (.ref p) vs H Q
def dS1(r:V->List V->Hp->VK->Prop)(f:FM):Prop:=∀ H d p a vs Q d' e,dW H d p->Vws H a vs->f d a=some (d',e)->(∀ o' v,dW (upd H p o') d' p->Rp (upd H p o') e v->Q v (upd H p o'))->r (.ref p) vs H Q
noncomputable def bP7(f:FM)(i:Nat)(a:List D)(σ:Sg):Option (Res×Sg):=match σ[i]? with
 | some (some s)=>if s.m.mt=true then(f s.d a).bind λy=>some (.val y.2,σ.set i (some ⟨s.m,y.1⟩))else none
 | _=>none
noncomputable def tyD(T:String):D->Bool
 | .lst _=>T=="list"
 | .dic _ _=>T=="dict"
 | _=>false
noncomputable def aB8(T:String)(i:Nat)(σ:Sg):Bool:=match σ[i]? with
 | some (some s)=>decide (s.m≠.val)&&tyD T s.d
 | _=>false
noncomputable def qU(T:String)(i:Nat)(f:FM)(a:DA):DE:=λσ=>if aB8 T i σ=true then(a σ).bind λx=>(vals x.1).bind λb=>bP7 f i b x.2 else none
noncomputable def xO(T:String)(i:Nat)(f:FM)(a:DA):DE:=λσ=>if aB8 T i σ=true then(a σ).bind λx=>(rds x.2 x.1).bind λb=>bP7 f i b x.2 else none
def dD3{K:W.Frag}{T:String}{H:Hp}{d:D}{p:Addr}(h:dW H d p)(e:tyD T d=true):tyV K T (.ref p) H:=by
 unfold dW at h;split at h;obtain⟨xs,a,_⟩:=h;exact .inl ⟨by simpa[tyD]using e,xs,SqL.of a⟩
 ·obtain⟨u,ws,a,b,_⟩:=h;refine .inr (.inr (.inl ⟨by simpa[tyD]using e,?_⟩));cases u with
  | dK kvs=>exact .inl ⟨kvs,a⟩
  | dT kvs=>exact .inr ⟨kvs,a⟩
  | _=>exact b.elim
 ·exact h.elim
def mF{f:FM}{i:Nat}{a:List D}{σ σ':Sg}{res:Res}(h:bP7 f i a σ=some (res,σ')):∃ s d' e,σ[i]? = some (some s)/\s.m.mt=true/\f s.d a=some (d',e)/\res=.val e/\σ'=σ.set i (some ⟨s.m,d'⟩):=by
 unfold bP7 at h;split at h;rename_i s hs;split at h;rename_i hm;obtain⟨⟨d',e⟩,b,c⟩:=bind_some h;cases c;exact⟨s,d',e,hs,hm,b,rfl,rfl⟩;cases h;cases h
def vF{T:String}{i:Nat}{σ:Sg}(h:aB8 T i σ=true):∃ s,σ[i]? = some (some s)/\s.m≠.val/\tyD T s.d=true:=by
 unfold aB8 at h;split at h;rename_i s hs;rw[a6d,a4o]at h;exact⟨s,hs,h.1,h.2⟩;cases h
section
variable{X:Cx}{e:Expr}{ra:DA}{K:W.Frag}{T:String}{r:V->List V->Hp->VK->Prop}{f:FM}{i:Nat}
def aZ3(u:dO3 r f)(h:∀ Γ,PE X e (tBM K T r (bL6 i) (dTA Γ ra))):GE X e (qU T i f ra):=.mk λΓ=>peW (h Γ) λσV H Q ⟨σ,ok,res,σ',e,k⟩=>by
 unfold qU at e;split at e;rename_i hn;obtain⟨⟨x,c⟩,w,e⟩:=bind_some e;obtain⟨z,A,e⟩:=bind_some e;obtain⟨s,d',y,hs,hm,B,rfl,rfl⟩:=mF e;obtain⟨F,g,j,l⟩:=vF hn;obtain⟨p,ep,ow⟩:=ok.ownAt g j;refine⟨_,ep,dD3 ow l,σ,ok,x,c,w,λvs C a D m G=>?_⟩;obtain⟨I,b,n⟩:=a.ownAt hs (hU hm);rw[ep]at b;cases b;refine u C s.d p z vs Q d' y n (pY D A) B λo' v o E=>?_;obtain⟨q,t⟩:=a.write hs hm ep o;exact k v _ q E (m.trans t) fU;cases e
def cK1(u:dS1 r f)(h:∀ Γ,PE X e (tBM K T r (bL6 i) (dTA Γ ra))):GE X e (xO T i f ra):=.mk λΓ=>peW (h Γ) λσV H Q ⟨σ,ok,res,σ',e,k⟩=>by
 unfold xO at e;split at e;rename_i hn;obtain⟨⟨x,c⟩,w,e⟩:=bind_some e;obtain⟨z,A,e⟩:=bind_some e;obtain⟨s,d',y,hs,hm,B,rfl,rfl⟩:=mF e;obtain⟨F,g,j,l⟩:=vF hn;obtain⟨p,ep,ow⟩:=ok.ownAt g j;refine⟨_,ep,dD3 ow l,σ,ok,x,c,w,λvs C a D m G=>?_⟩;obtain⟨I,b,n⟩:=a.ownAt hs (hU hm);rw[ep]at b;cases b;refine u C s.d p z vs Q d' y n (vE a D A) B λo' v o E=>?_;obtain⟨q,t⟩:=a.write hs hm ep o;exact k v _ q E (m.trans t) fU;cases e
end
inductive Out where
 | nx (σ:Sg) | rt (r:Res) (σ:Sg) | bk (σ:Sg) | ct (σ:Sg) | ex (c:Str) (f:Option (Str×D)) (σ:Sg)
abbrev DS:=Sg->Option Out
structure Ex where
 ok:Hp->Str->Option (Str×D)->Value->Option Addr->Prop
 to:St->XK
noncomputable def Ex.no:Ex:=⟨λ_ _ _ _ _=>False,λ_ _ _ _=>False⟩
def xP(Γ:Gm)(E:Ex)(σ:Sg)(σV:St)(H:Hp)(o:Out)(D:Ends):Prop:=match o with
 | .nx σ'=>∀ σV' H',StOk Γ H' σ' σV'->Step σ σV H σ' σV' H'->D.nx σV' H'
 | .rt r σ'=>∀ v σV' H',StOk Γ H' σ' σV'->jD Γ H' σ' σV' r v->Step σ σV H σ' σV' H'->D.rt v H'
 | .bk σ'=>∀ σV' H',StOk Γ H' σ' σV'->Step σ σV H σ' σV' H'->D.bk σV' H'
 | .ct σ'=>∀ σV' H',StOk Γ H' σ' σV'->Step σ σV H σ' σV' H'->D.ct σV' H'
 | .ex c f σ'=>∀ x d σV' H',StOk Γ H' σ' σV'->E.ok H' c f x d->Step σ σV H σ' σV' H'->E.to σV' x d H'
def dTS(Γ:Gm)(E:Ex)(r:DS):TS:=λD σV H=>∃ σ,StOk Γ H σ σV/\∃ o,r σ=some o/\xP Γ E σ σV H o D
structure GS(E:Ex)(X:Cx)(s:Stmt)(r:DS):Prop where
 to:∀ Γ,PS X s (dTS Γ E r)
structure GSs(E:Ex)(X:Cx)(s:List Stmt)(r:DS):Prop where
 to:∀ Γ,PSs X s (dTS Γ E r)
def xP.after{Γ:Gm}{E:Ex}{σ b:Sg}{σV a:St}{H e:Hp}{o:Out}{D:Ends}(h:xP Γ E σ σV H o D)(st:Step σ σV H b a e):xP Γ E b a e o D:=by
 cases o with
 | nx σ'=>exact λσV' H' ok s=>h σV' H' ok (st.trans s)
 | rt r σ'=>exact λv σV' H' ok q s=>h v σV' H' ok q (st.trans s)
 | bk σ'=>exact λσV' H' ok s=>h σV' H' ok (st.trans s)
 | ct σ'=>exact λσV' H' ok s=>h σV' H' ok (st.trans s)
 | ex c f σ'=>exact λx d σV' H' ok q s=>h x d σV' H' ok q (st.trans s)
noncomputable def hV:DS:=λσ=>some (.nx σ)
noncomputable def bM(a b:DS):DS:=λσ=>(a σ).bind λo=>match o with
 | .nx c=>b c
 | o=>some o
noncomputable def nW(r:DE):DS:=λσ=>(r σ).bind λx=>some (.nx x.2)
noncomputable def jE(r:DE):DS:=λσ=>(r σ).bind λx=>some (.rt x.1 x.2)
noncomputable def pJ(c:DT)(a b:DS):DS:=λσ=>(c σ).bind λx=>if x.1=true then a x.2 else b x.2
section
variable{X:Cx}{E:Ex}{st:Stmt}{cG:List Stmt}{a b:DS}{pos:Pos}{e:Expr}{r:DE}
def cK2:GSs E X [] hV:=.mk λΓ=>dB7 fR λD σV H ⟨σ,ok,o,e,k⟩=>by
 cases e;exact k σV H ok .refl
def aZ4(h:GS E X st a):GSs E X [st] a:=.mk λΓ=>bB (h.to Γ)
def bP8{Γ:Gm}{E:Ex}{D:Ends}{σV:St}{H:Hp}(h:dTS Γ E (bM a b) D σV H):dK0 (dTS Γ E a) (dTS Γ E b) D σV H:=by
 obtain⟨σ,ok,o,e,k⟩:=h;obtain⟨j,m,e⟩:=bind_some e;refine⟨σ,ok,j,m,?_⟩;cases j with
 | nx d=>exact λl n g i=>⟨d,g,o,e,k.after i⟩
 | rt r σ'=>cases e;exact k
 | bk σ'=>cases e;exact k
 | ct σ'=>cases e;exact k
 | ex c f σ'=>cases e;exact k
def aI3(c:GS E X st a)(d:GSs E X cG b):GSs E X (st::cG) (bM a b):=.mk λΓ=>dB7 (aO (c.to Γ) (d.to Γ)) λ_ _ _=>bP8
def cK3(d:GE X e r)(hs:swapsWith e none pos.line X.env=pure false:=by rfl):GS E X (.Expr e pos) (nW r):=.mk λΓ=>psW (iL (d.to Γ) hs) λD σV H ⟨σ,ok,o,e,k⟩=>by
 obtain⟨⟨x,a⟩,f,e⟩:=bind_some e;cases e;exact⟨σ,ok,x,a,f,λv g b h c _=>k σV g b c⟩
def dD4(d:GE X e r):GS E X (.Return (some e) pos) (jE r):=.mk λΓ=>psW (lN (d.to Γ)) λD σV H ⟨σ,ok,o,e,k⟩=>by
 obtain⟨⟨x,a⟩,f,e⟩:=bind_some e;cases e;exact⟨σ,ok,x,a,f,λv g b h c _=>k v σV g b h c⟩
def dO4{c:Expr}{l m:List Stmt}{t:DT}(i:GT X c t)(ha:GSs E X l a)(j:GSs E X m b):GS E X (.If c l m pos) (pJ t a b):=.mk λΓ=>psW (nO (i.to Γ) (ha.to Γ) (j.to Γ)) λD σV H ⟨σ,ok,o,e,k⟩=>by
 obtain⟨⟨x,d⟩,n,e⟩:=bind_some e;refine⟨σ,ok,x,d,n,λp f g=>?_⟩;dsimp only at e;split at e;rename_i h;rw[a3Y h];exact⟨d,f,o,e,k.after g⟩;rename_i h;rw[a3Z h];exact⟨d,f,o,e,k.after g⟩
end
noncomputable def iQ(σ:Sg)(i:Nat):Bool:=match σ[i]? with
 | some none=>true
 | some (some s)=>decide (s.m=.val)||decide (s.m=.own)
 | none=>false
def mG{σ:Sg}{i:Nat}(h:iQ σ i=true):i < σ.length:=by
 unfold iQ at h;split at h;rename_i e;exact(a3a.mp e).1;rename_i e;exact(a3a.mp e).1;cases h
def bP9{σ:Sg}{i:Nat}{s:Sl}(h:iQ σ i=true)(hs:σ[i]? = some (some s)):s.m=.val\/s.m=.own:=by
 unfold iQ at h;rw[hs]at h;simpa using h
section
variable{Γ:Gm}{H H0:Hp}{σ σ0:Sg}{σV σV0:St}{i:Nat}{d:D}{v:V}
def StOk.put(ok:StOk Γ H σ σV)(h:iQ σ i=true)(r:Rp H d v):StOk Γ H (σ.set i (some ⟨.val,d⟩)) (σV.set i (some v)) where
 rel:=λj t c=>by
  rcases bH c with⟨z,a,_⟩ | ⟨z,a⟩;cases a;subst z;exact⟨v,by rw[a2c (by rw[← ok.len];exact mG h)],r⟩;obtain⟨w,k,f⟩:=ok.rel j t a;exact⟨w,by rw[a9a (a5d z)];exact k,f⟩
 dis:=λj l t o q n c p m m' b e=>by
  rcases bH c with⟨z,a,_⟩ | ⟨z,a⟩;cases a;cases m;rcases bH p with⟨y,g,_⟩ | ⟨y,g⟩;cases g;exact m' rfl;rw[a9a (a5d z)]at b;rw[a9a (a5d y)]at e;exact ok.dis j l t o q n a g m m' b e
 own:=λj t q c m b=>by
  rcases bH c with⟨z,a,_⟩ | ⟨z,a⟩;cases a;cases m;rw[a9a (a5d z)]at b;exact ok.own j t q a m b
 par:=λj t q c m b=>by
  rcases bH c with⟨z,a,_⟩ | ⟨z,a⟩;cases a;cases m;rw[a9a (a5d z)]at b;exact ok.par j t q a m b
 keep:=ok.keep
 dom:=ok.dom
 len:=by rw[a9f,a9f];exact ok.len
def Step.put(st:Step σ0 σV0 H0 σ σV H)(s:iQ σ i=true)(m:Md)(hm:m=.val\/m=.own/\∀ p,v=.ref p->H0 p=none):Step σ0 σV0 H0 (σ.set i (some ⟨m,d⟩)) (σV.set i (some v)) H:=by
 have b:m≠.lent:=by rcases hm with rfl | ⟨rfl,_⟩<;>exact λz=>nomatch z
 have u:=mG s;have h:∀ t,σ[i]? = some (some t)->t.m≠.par/\t.m≠.lent:=λt e=>by
  rcases bP9 s e with z | z<;>(rw[z];exact⟨(λy=>by cases y),(λy=>by cases y)⟩)
 refine⟨st.fr,st.dom,λa ⟨j,t,f,mt,g⟩=>?_,λa ⟨j,t,f,nv,g⟩=>?_,λj t f=>?_,λj t f k=>?_,λj t f k=>?_⟩
 ·rcases bH f with⟨z,c,_⟩ | ⟨z,c⟩;cases c;subst z;rcases hm with rfl | ⟨_,q⟩;cases mt;have:=a3a.mp g;obtain⟨hl,l⟩:=this;rw[List.getElem_set_self]at l;exact .inr (q a (a5a l));rw[a9a (a5d z)]at g;exact st.mu a ⟨j,t,c,mt,g⟩
 ·rcases bH f with⟨z,c,_⟩ | ⟨z,c⟩;cases c;subst z;rcases hm with rfl | ⟨_,q⟩;exact absurd rfl nv;have:=a3a.mp g;obtain⟨hl,l⟩:=this;rw[List.getElem_set_self]at l;exact .inr (q a (a5a l));rw[a9a (a5d z)]at g;exact st.nv a ⟨j,t,c,nv,g⟩
 ·obtain⟨n,o⟩:=st.kp j t f;by_cases z:j=i;subst z;exact⟨_,by rw[a2c u]⟩;exact⟨n,by rw[a9a (a5d z)];exact o⟩
 ·obtain⟨n,o,r,w,x⟩:=st.fix j t f k;have z:j≠i:=λz=>by
   subst z;obtain⟨n1,n2⟩:=h n o;rcases k with m1 | m1;exact n1 (r.trans m1);exact n2 (r.trans m1)
  exact⟨n,by rw[a9a (a5d z)];exact o,r,w,by rw[a9a (a5d z)];exact x⟩
 ·rcases bH f with⟨z,c,_⟩ | ⟨z,c⟩;cases c;exact absurd k b;exact st.lt j t c k
def StOk.putOwn{p:Addr}(ok:StOk Γ H σ σV)(g:iQ σ i=true)(ow:dW H d p)(hn:¬ bL0 σ σV p)(h0:Γ.H₀ p=none):StOk Γ H (σ.set i (some ⟨.own,d⟩)) (σV.set i (some (.ref p))) where
 rel:=λj t e=>by
  rcases bH e with⟨z,c,_⟩ | ⟨z,c⟩;cases c;subst z;exact⟨.ref p,by rw[a2c (by rw[← ok.len];exact mG g)],p,rfl,ow⟩;obtain⟨w,s,h⟩:=ok.rel j t c;exact⟨w,by rw[a9a (a5d z)];exact s,h⟩
 dis:=λj l t k q n e o m m' a b=>by
  have r:i < σV.length:=by rw[← ok.len];exact mG g
  rcases bH e with⟨z,c,_⟩ | ⟨z,c⟩;subst z;rw[a2c r]at a;have a:=a5a (a5a a);cases a;rcases bH o with⟨y,f,_⟩ | ⟨y,f⟩;exact n y.symm;rw[a9a (a5d y)]at b;exact hn ⟨l,k,f,m',b⟩;rw[a9a (a5d z)]at a;rcases bH o with⟨y,f,_⟩ | ⟨y,f⟩;subst y;rw[a2c r]at b;have b:=a5a (a5a b);cases b;exact hn ⟨j,t,c,hU m,a⟩;rw[a9a (a5d y)]at b;exact ok.dis j l t k q n c f m m' a b
 own:=λj t q e m a=>by
  rcases bH e with⟨z,c,_⟩ | ⟨z,c⟩;subst z;rw[a2c (by rw[← ok.len];exact mG g)]at a;have a:=a5a (a5a a);cases a;exact h0;rw[a9a (a5d z)]at a;exact ok.own j t q c m a
 par:=λj t q e m a=>by
  rcases bH e with⟨z,c,_⟩ | ⟨z,c⟩;cases c;cases m;rw[a9a (a5d z)]at a;exact ok.par j t q c m a
 keep:=ok.keep
 dom:=ok.dom
 len:=by rw[a9f,a9f];exact ok.len
end
noncomputable def dK6(i:Nat)(r:Res)(σ:Sg):Option Sg:=match r with
 | .val d=>if iQ σ i=true then some (σ.set i (some ⟨.val,d⟩))else none
 | .own d=>if iQ σ i=true then some (σ.set i (some ⟨.own,d⟩))else none
 | .slot _=>none
noncomputable def cF(i:Nat)(r:DE):DS:=λσ=>(r σ).bind λx=>(dK6 i x.1 x.2).bind λa=>some (.nx a)
def aI4{Γ:Gm}{E:Ex}{i:Nat}{r:DE}{D:Ends}{σV:St}{H:Hp}(h:dTS Γ E (cF i r) D σV H):dTE Γ r σV H (λx n=>D.nx (σV.set i (some x)) n):=by
 obtain⟨σ,ok,o,e,k⟩:=h;obtain⟨⟨x,b⟩,s,e⟩:=bind_some e;obtain⟨c,m,e⟩:=bind_some e;cases e;refine⟨σ,ok,x,b,s,λv n f q g t=>?_⟩;cases x with
 | val d=>
   have a:(if iQ b i=true then some (b.set i (some ⟨.val,d⟩))else none)=some c:=m;split at a;rename_i l;cases a;exact k _ _ (f.put l q) (g.put l .val (.inl rfl));cases a
 | own d=>
   have a:(if iQ b i=true then some (b.set i (some ⟨.own,d⟩))else none)=some c:=m;split at a;rename_i l;cases a;obtain⟨p,rfl,u,w,y⟩:=q;exact k _ _ (f.putOwn l u w y) (g.put l .own (.inr ⟨rfl,λp e=>t _ p rfl e⟩));cases a
 | slot j=>cases m
def dD5{X:Cx}{E:Ex}{i:Nat}{st:Stmt}{r:DE}(h:∀ Γ,PS X st (cG1 (dTE Γ r) (uN i))):GS E X st (cF i r):=.mk λΓ=>psW (h Γ) λ_ _ _ h=>aI4 h
noncomputable def kU(x:Str):List D:=x.cps.toList.map λc=>.str ⟨#[c]⟩
def xQ{H:Hp}(x:Str):Rps H (kU x) (eP x):=by
 unfold kU eP
 induction x.cps.toList with
 | nil=>exact .nil
 | cons a r b=>exact .cons (.str _) b
abbrev DG:=D->Sg->Option Sg
abbrev DGs:=List D->Sg->Option Sg
def aZ5(own:List Nat)(g:TG)(e:DG):Prop:=∀ Γ H b a c σ σV d v σ' Q,StOk Γ H σ σV->Step b a c σ σV H->Rp H d v->e d σ=some σ' ->
 (∀ σV',StOk Γ H σ' σV'->Step b a c σ' σV' H->σV'.length=σV.length->(∀ i,i∉own->σV'[i]? = σV[i]? /\ σ'[i]? = σ[i]?)->Q σV' H)->g v σV H Q
def bQ0(own:List Nat)(g:TGs)(e:DGs):Prop:=∀ Γ H b a c σ σV d vs σ' Q,StOk Γ H σ σV->Step b a c σ σV H->Rps H d vs->e d σ=some σ' ->
 (∀ σV',StOk Γ H σ' σV'->Step b a c σ' σV' H->σV'.length=σV.length->(∀ i,i∉own->σV'[i]? = σV[i]? /\ σ'[i]? = σ[i]?)->Q σV' H)->g vs σV H Q
noncomputable def dgN(i:Nat):DG:=λd σ=>if iQ σ i=true then some (σ.set i (some ⟨.val,d⟩))else none
noncomputable def dX:DGs:=λa σ=>if a.isEmpty then some σ else none
noncomputable def aN(g:DG)(b:DGs):DGs:=λc σ=>match c with
 | d::r=>(g d σ).bind λa=>b r a
 | []=>none
noncomputable def dY(n:Nat)(a:DGs):DG:=λd σ=>match d with
 | .tup l=>if l.length=n then a l σ else none
 | .str z=>if z.length=n then a (kU z) σ else none
 | _=>none
def aU{own:List Nat}{i:Nat}(h:i∈own):aZ5 own (uN i) (dgN i):=by
 intro Γ H c a g σ σV d v σ' Q ok st r e k;unfold dgN at e;split at e;rename_i b;cases e;refine k _ (ok.put b r) (st.put b .val (.inl rfl)) (by simp) λj f=>?_;have:i≠j:=λz=>f (by rw[← z];exact h);exact⟨a9a this,a9a this⟩;cases e
def fW{own:List Nat}:bQ0 own cX0 dX:=by
 intro Γ H b a c σ σV d vs σ' Q ok st r e k;unfold dX at e;cases r with
 | nil=>cases e;exact⟨rfl,k _ ok st rfl λ_ _=>⟨rfl,rfl⟩⟩
 | cons _ _=>cases e
def aX{own:List Nat}{g:TG}{p:DG}{q:TGs}{c:DGs}(w:aZ5 own g p)(x:bQ0 own q c):bQ0 own (aT3 g q) (aN p c):=by
 intro Γ H d b s σ σV z vs σ' Q ok st r e k;cases r with
 | nil=>cases e
 | cons a t=>
   obtain⟨f,y,e⟩:=bind_some e;refine⟨_,_,rfl,w Γ H d b s σ σV _ _ f _ ok st a y λh l m l1 u=>?_⟩;refine x Γ H d b s f h _ _ σ' _ l m t e λj n o l2 v=>?_;exact k j n o (l2.trans l1) λi hi=>⟨(v i hi).1.trans (u i hi).1,(v i hi).2.trans (u i hi).2⟩
def jP{own:List Nat}{K:W.Frag}{n:Nat}{g:TGs}{a:DGs}(h:bQ0 own g a):aZ5 own (wZ K n g) (dY n a):=by
 intro Γ H f b i σ σV d v σ' Q ok st r e k;cases d with
 | tup l=>
   have c:(if l.length=n then a l σ else none)=some σ':=e;split at c;rename_i hl;obtain⟨p,xs,rfl,m,j⟩:=fV (.inl r);exact⟨xs,bK m,by rw[← j.length];exact hl,h Γ H f b i σ σV l xs σ' Q ok st j c k⟩;cases c
 | str z=>
   have c:(if z.length=n then a (kU z) σ else none)=some σ':=e;split at c;rename_i hl;cases r;exact⟨hl,h Γ H f b i σ σV _ _ σ' Q ok st (xQ z) c k⟩;cases c
 | _=>cases e
noncomputable def bQ1(g:DG)(r:DE):DS:=λσ=>(r σ).bind λx=>match x.1 with
 | .val d=>(g d x.2).bind λa=>some (.nx a)
 | _=>none
def aZ6{X:Cx}{E:Ex}{own:List Nat}{st:Stmt}{r:DE}{g:TG}{m:DG}(p:aZ5 own g m)(h:∀ Γ,PS X st (cG1 (dTE Γ r) g)):GS E X st (bQ1 m r):=.mk λΓ=>psW (h Γ) λD σV H ⟨σ,ok,o,e,k⟩=>by
 obtain⟨⟨x,a⟩,q,e⟩:=bind_some e;refine⟨σ,ok,x,a,q,λv n c s f u=>?_⟩;cases x with
 | val d=>
   obtain⟨i,t,e⟩:=bind_some e;cases e;exact p Γ n σ σV H a σV d v i _ c f s t λb j l _ _=>k b n j l
 | own d=>cases e
 | slot d=>cases e
noncomputable def lend(i:Nat)(σ:Sg):Sg:=match σ[i]? with
 | some (some s)=>if s.m.mt=true then σ.set i (some ⟨.lent,s.d⟩)else σ
 | _=>σ
noncomputable def unl(i:Nat)(a σ:Sg):Sg:=match a[i]?,σ[i]? with
 | some (some s0),some (some s)=>if s0.m.mt=true then σ.set i (some ⟨s0.m,s.d⟩)else σ
 | _,_=>σ
noncomputable def lendO(l:Option Nat)(σ:Sg):Sg:=match l with
 | some i=>lend i σ
 | none=>σ
noncomputable def aB9(l:Option Nat)(a σ:Sg):Sg:=match l with
 | some i=>unl i a σ
 | none=>σ
section
variable{Γ:Gm}{H H1 H2:Hp}{σ σ1 σ2:Sg}{σV σV2:St}{i:Nat}{s:Sl}
def vG(hs:σ[i]? = some (some s))(hm:s.m.mt=true):lend i σ=σ.set i (some ⟨.lent,s.d⟩):=by
 unfold lend;rw[hs];simp only[hm,if_true]
def aC0(h:∀ s,σ[i]? = some (some s)->s.m.mt=false):lend i σ=σ:=by
 unfold lend;split;rename_i s hs;rw[a3Z (by rw[h s hs];exact a1b)];rfl
theorem StOk.lend(ok:StOk Γ H σ σV):StOk Γ H (lend i σ) σV:=by
 by_cases f:∃ s,σ[i]? = some (some s)/\s.m.mt=true
 ·obtain⟨s,hs,hm⟩:=f;rw[vG hs hm];obtain⟨p,ep,ow⟩:=ok.ownAt hs (hU hm);have back:∀ (j:Nat) t,(σ.set i (some ⟨.lent,s.d⟩))[j]? = some (some t)->(j=i/\t=⟨.lent,s.d⟩)\/(j≠i/\σ[j]? = some (some t)):=λj t a=>by
   rcases bH a with⟨z,h,_⟩ | z;cases h;exact .inl ⟨z,rfl⟩;exact .inr z
  refine⟨λj t a=>?_,λj l t g q n a k m m' b c=>?_,λj t q a m b=>?_,λj t q a m b=>?_,ok.keep,ok.dom,by rw[a9f];exact ok.len⟩;rcases back j t a with⟨rfl,rfl⟩ | ⟨_,z⟩;exact⟨_,ep,p,rfl,ow⟩;exact ok.rel j t z;rcases back j t a with⟨rfl,rfl⟩ | ⟨_,z⟩;cases m;rcases back l g k with⟨rfl,rfl⟩ | ⟨_,y⟩;exact ok.dis j l t s q n z hs m (hU hm) b c;exact ok.dis j l t g q n z y m m' b c;rcases back j t a with⟨rfl,rfl⟩ | ⟨_,z⟩;cases m;exact ok.own j t q z m b;rcases back j t a with⟨rfl,rfl⟩ | ⟨_,z⟩;cases m;exact ok.par j t q z m b
 ·rw[aC0 λs hs=>by
   cases e:s.m.mt with
   | false=>rfl
   | true=>exact absurd ⟨s,hs,e⟩ f]
  exact ok
def dD6(ok:StOk Γ H1 σ1 σV)(c:StOk Γ H2 σ2 σV2)(st:Step (lend i σ1) σV H1 σ2 σV2 H2):StOk Γ H2 (unl i σ1 σ2) σV2/\Step σ1 σV H1 (unl i σ1 σ2) σV2 H2:=by
 by_cases P:∃ s,σ1[i]? = some (some s)/\s.m.mt=true
 ·obtain⟨s,hs,hm⟩:=P;have U:i < σ1.length:=(a3a.mp hs).1;rw[vG hs hm]at st;have J:(σ1.set i (some ⟨.lent,s.d⟩))[i]? = some (some ⟨.lent,s.d⟩):=by rw[a2c U]
  obtain⟨s2,I,V,Z,Q⟩:=st.fix i _ J (.inr rfl);have B:s2.m=.lent:=V;have C:i < σ2.length:=(a3a.mp I).1;have K:unl i σ1 σ2=σ2.set i (some ⟨s.m,s2.d⟩):=by unfold unl;rw[hs,I];simp only[hm,if_true]
  rw[K];obtain⟨p,ep,ow⟩:=ok.ownAt hs (hU hm);have f:σV2[i]? = some (some (.ref p)):=Q.trans ep;obtain⟨p',R,L⟩:=c.ownAt I (by rw[B];exact λz=>nomatch z);rw[f]at R;cases R;have D:∀ (j:Nat) t,j≠i->σ2[j]? = some (some t)->t.m=.lent->σV2[j]? ≠ some (some (.ref p)):=λj t x b M e=>by
   obtain⟨E,A,F⟩:=st.lt j t b M;rw[a9a (a5d x)]at A;have W:(σ1.set i (some ⟨.lent,s.d⟩))[j]? = some (some E):=by rw[a9a (a5d x)];exact A
   obtain⟨_,_,_,_,X⟩:=st.fix j E W (.inr F);rw[X]at e;exact ok.dis i j s E p (a5d x) hs A hm (by rw[F];exact λz=>nomatch z) ep e
  have r:∀ (j:Nat) t,j≠i->σ2[j]? = some (some t)->t.m≠.val->σV2[j]? ≠ some (some (.ref p)):=λj t x b M e=>by
   by_cases hl:t.m=.lent;exact D j t x b hl e;have N:t.m.mt=true:=by
    cases q:t.m with
    | val=>exact absurd q M
    | own=>rfl
    | par=>rfl
    | lent=>exact absurd q hl
   exact c.dis j i t s2 p x b I N (by rw[B];exact λz=>nomatch z) e f
  have back:∀ (j:Nat) t,(σ2.set i (some ⟨s.m,s2.d⟩))[j]? = some (some t)->(j=i/\t=⟨s.m,s2.d⟩)\/(j≠i/\σ2[j]? = some (some t)):=λj t b=>by
   rcases bH b with⟨z,v,_⟩ | z;cases v;exact .inl ⟨z,rfl⟩;exact .inr z
  have sub:∀ a,nV (σ1.set i (some ⟨.lent,s.d⟩)) σV a->nV σ1 σV a:=λa ⟨j,t,b,m,k⟩=>by
   rcases bH b with⟨z,v,_⟩ | ⟨z,v⟩;cases v;cases m;exact⟨j,t,v,m,k⟩
  have G:∀ a,bL0 (σ1.set i (some ⟨.lent,s.d⟩)) σV a->bL0 σ1 σV a:=λa ⟨j,t,b,m,k⟩=>by
   rcases bH b with⟨z,v,_⟩ | ⟨z,v⟩;subst z;exact⟨j,s,hs,hU hm,k⟩;exact⟨j,t,v,m,k⟩
  constructor
  ·refine⟨λj t b=>?_,λj l t w q n b S m m' g u=>?_,λj t q b m g=>?_,λj t q b m g=>?_,c.keep,c.dom,by rw[a9f];exact c.len⟩;rcases back j t b with⟨rfl,rfl⟩ | ⟨_,z⟩;exact⟨_,f,(cO (s:=⟨s.m,s2.d⟩) (hU hm)).mpr ⟨p,rfl,L⟩⟩;exact c.rel j t z
   ·rcases back j t b with⟨rfl,rfl⟩ | ⟨zn,z⟩;rw[f]at g;have g:=a5a (a5a g);cases g;rcases back l w S with⟨rfl,rfl⟩ | ⟨T,y⟩;exact n rfl;exact r l w T y m' u;rcases back l w S with⟨rfl,rfl⟩ | ⟨T,y⟩;rw[f]at u;have u:=a5a (a5a u);cases u;exact r j t zn z (hU m) g;exact c.dis j l t w q n z y m m' g u
   ·rcases back j t b with⟨rfl,rfl⟩ | ⟨_,z⟩;rw[f]at g;have g:=a5a (a5a g);cases g;exact ok.own j s p hs m ep;exact c.own j t q z m g
   ·rcases back j t b with⟨rfl,rfl⟩ | ⟨_,z⟩;rw[f]at g;have g:=a5a (a5a g);cases g;exact ok.par j s p hs m ep;exact c.par j t q z m g
  ·refine⟨λa o e n=>st.fr a o e λz=>n (sub a z),st.dom,λa ⟨j,t,b,m,k⟩=>?_,λa ⟨j,t,b,m,k⟩=>?_,λj t b=>?_,λj t b m=>?_,λj t b m=>?_⟩;rcases back j t b with⟨rfl,rfl⟩ | ⟨_,z⟩;rw[f]at k;have k:=a5a (a5a k);cases k;exact .inl ⟨j,s,hs,hm,ep⟩;rcases st.mu a ⟨j,t,z,m,k⟩with y | y;exact .inl (sub a y);exact .inr y;rcases back j t b with⟨rfl,rfl⟩ | ⟨_,z⟩;rw[f]at k;have k:=a5a (a5a k);cases k;exact .inl ⟨j,s,hs,hU hm,ep⟩;rcases st.nv a ⟨j,t,z,m,k⟩with y | y;exact .inl (G a y);exact .inr y;by_cases z:j=i;subst z;exact⟨_,by rw[a2c C]⟩;obtain⟨w,O⟩:=st.kp j t (by rw[a9a (a5d z)];exact b);exact⟨w,by rw[a9a (a5d z)];exact O⟩;by_cases z:j=i;subst z;rw[hs]at b;cases b;refine⟨⟨s.m,s2.d⟩,by rw[a2c C],rfl,λq=>?_,Q⟩;rw[q]at hm;cases hm;obtain⟨w,O,h⟩:=st.fix j t (by rw[a9a (a5d z)];exact b) m;exact⟨w,by rw[a9a (a5d z)];exact O,h⟩;rcases back j t b with⟨rfl,rfl⟩ | ⟨zn,z⟩;have m':s.m=.lent:=m;rw[m']at hm;cases hm;obtain⟨E,A,m1⟩:=st.lt j t z m;rw[a9a (a5d zn)]at A;exact⟨E,A,m1⟩
 ·have H:∀ s,σ1[i]? = some (some s)->s.m.mt=false:=λs hs=>by
   cases e:s.m.mt with
   | false=>rfl
   | true=>exact absurd ⟨s,hs,e⟩ P
  rw[aC0 H]at st;have K:unl i σ1 σ2=σ2:=by
   unfold unl;split;rename_i Y s' h0 h';rw[a3Z (by rw[H Y h0];exact a1b)];rfl
  rw[K];exact⟨c,st⟩
theorem StOk.lendO{l:Option Nat}(ok:StOk Γ H σ σV):StOk Γ H (lendO l σ) σV:=by
 cases l with
 | none=>exact ok
 | some i=>exact ok.lend
def lE{l:Option Nat}(ok:StOk Γ H1 σ1 σV)(a:StOk Γ H2 σ2 σV2)(st:Step (lendO l σ1) σV H1 σ2 σV2 H2):StOk Γ H2 (aB9 l σ1 σ2) σV2/\Step σ1 σV H1 (aB9 l σ1 σ2) σV2 H2:=by
 cases l with
 | none=>exact⟨a,st⟩
 | some i=>exact dD6 ok a st
def aZ7{l:Option Nat}{r:Res}{v:V}(st:Step (lendO l σ1) σV H1 σ2 σV2 H2)(h:jD Γ H2 σ2 σV2 r v):jD Γ H2 (aB9 l σ1 σ2) σV2 r v:=by
 cases l with
 | none=>exact h
 | some i=>
   show jD Γ H2 (unl i σ1 σ2) σV2 r v;have a:Step (lend i σ1) σV H1 σ2 σV2 H2:=st;unfold unl;split
   ·rename_i g s' h0 h';split
    ·rename_i hm;cases r with
     | val d=>exact h
     | own d=>
       obtain⟨p,b,c,k,n⟩:=h;refine⟨p,b,c,λ⟨j,t,o,m,e⟩=>k ?_,n⟩;rcases bH o with⟨z,f,_⟩ | ⟨z,f⟩;subst z;rw[vG h0 hm]at a;obtain⟨q,s,u,_⟩:=a.fix j ⟨.lent,g.d⟩ (by rw[a2c (a3a.mp h0).1]) (.inr rfl);exact⟨j,q,s,by rw[u];exact λz=>(by cases z),e⟩
       ·exact⟨j,t,f,m,e⟩
     | slot j=>
       obtain⟨b,t,c⟩:=h;refine⟨b,?_⟩;by_cases z:j=i;subst z;exact⟨_,by rw[a2c (a3a.mp h').1]⟩
       ·exact⟨t,by rw[a9a (a5d z)];exact c⟩
    ·exact h
   ·exact h
end
structure ItD(J:It)(items:List D)(P:Hp->Prop):Prop where
 go:∀ H i d,P H->items[i]? = some d->J.go i H
 yld:∀ H i d y H',P H->items[i]? = some d->J.yld i H y H'->nT H H'/\Rp H' d y
 stop:∀ H,P H->J.stop items.length H
def aI5{J:It}{xs:List V}{P:Hp->Prop}{items:List D}(w:ItIs J xs P):ItD J items (λH=>P H/\Rps H items xs) where
 go:=λH i d ⟨h,r⟩ e=>by
  obtain⟨x,ex,_⟩:=r.get e;exact w.go H i x h ex
 yld:=λH i d y H' ⟨h,r⟩ e q=>by
  obtain⟨x,ex,a⟩:=r.get e;obtain⟨rfl,rfl⟩:=w.yld H i x y H' h ex q;exact⟨.refl _,a⟩
 stop:=λH ⟨h,r⟩=>by
  refine w.stop H _ h ?_;have:=r.length;rw[a6c];lia
abbrev DI:=Sg->Option (List D×Option Nat×Sg)
def dTI(Γ:Gm)(ri:DI):TI:=λσV H R=>∃ σ,StOk Γ H σ σV/\∃ items l a,ri σ=some (items,l,a)/\∀ J c P,StOk Γ c a σV->Step σ σV H a σV c->ItD J items P ->
 (∀ d b e,Step (lendO l a) σV c d b e->P e)->R J c
structure GI(X:Cx)(tg iter:Expr)(ri:DI):Prop where
 to:∀ Γ,PI X tg iter (dTI Γ ri)
def piW{X:Cx}{tg e:Expr}{t t':TI}(h:PI X tg e t)(w:∀ σ H Q,t' σ H Q->t σ H Q):PI X tg e t':=λpins s σ H Q I q=>h pins s σ H Q I (w σ H Q q)
noncomputable def tO:D->Option (List D)
 | .lst l=>some l
 | .tup l=>some l
 | .str x=>some (kU x)
 | _=>none
noncomputable def dIt(r:DE):DI:=λσ=>(r σ).bind λx=>(rd x.2 x.1).bind λd=>(tO d).bind λl=>some (l,(match x.1 with | .slot i=>some i | _=>none),x.2)
def fP{H a:Hp}{p:Addr}{o:HO}(h:H p=some o)(b:a p=some o):cY a p=cY H p:=by unfold cY;rw[h,b]
def mH{Γ:Gm}{g:Hp}{a:Sg}{σV:St}{x:Res}{v:V}{d:D}{items:List D}(A:StOk Γ g a σV)(h:jD Γ g a σV x v)(N:rd a x=some d)(H:tO d=some items)(vw:Vw g d v) :
  ∀ p b xs,v=.ref p->cY g p=some (b,xs)->Rps g items xs->∀ B k C,Step (lendO (match x with | .slot i=>some i | _=>none) a) σV g B k C->cY C p=some (b,xs)/\Rps C items xs:=by
 intro p b xs r u hr B k C l;have ext:Ext g C:=l.ext (Γ:=Γ) A.lendO;refine⟨?_,hr.mono ext⟩;cases x with
 | val d'=>
   cases N;subst r;cases d with
   | tup I=>obtain⟨_,_,e,f,_⟩:=fV vw;cases e;rw[fP f (ext.tup _ _ f)];exact u
   | lst I=>
     cases h with
     | lst f _=>rw[fP f (ext.frz _ _ _ f)];exact u
   | dic ks vs=>cases H
   | str z=>cases h
   | _=>cases H
 | own d'=>
   obtain⟨q,O,ow,S,_⟩:=h;rw[r]at O;cases O;obtain⟨o,E,_⟩:=ow.obj;rw[fP E (l.fr p o E (λz=>S z.nv))];exact u
 | slot i=>
   obtain⟨h,s,hs⟩:=h;have c:StOk Γ g a σV:=A;by_cases hm:s.m=.val
   ·obtain⟨w,P,J⟩:=c.rel i s hs;rw[h]at P;cases P;subst r;obtain⟨m,Q⟩:=s;cases hm;have K:some Q=some d:=by
     have:rd a (.slot i)=some Q:=by show(match a[i]? with | some (some s)=>some s.d | _=>none)=_;rw[hs]
     rw[← this];exact N
    cases K;have L:Rp g d (.ref p):=J;cases d with
    | tup I=>obtain⟨_,_,e,f,_⟩:=fV (.inl L);cases e;rw[fP f (ext.tup _ _ f)];exact u
    | lst I=>
      cases L with
      | lst f _=>rw[fP f (ext.frz _ _ _ f)];exact u
    | dic ks vs=>cases H
    | str z=>cases L
    | _=>cases H
   ·obtain⟨q,F,ow⟩:=c.ownAt hs hm;rw[h]at F;have F:=a5a (a5a F);rw[r]at F;cases F;obtain⟨o,E,_⟩:=ow.obj;have T:¬ nV (lend i a) σV p:=by
     rintro⟨j,t,y,m,R⟩;by_cases n:s.m.mt=true;rw[vG hs n]at y;rcases bH y with⟨_,M,_⟩ | ⟨z,M⟩;cases M;cases m;exact c.dis j i t s p z M hs m hm R (by rw[h,r]);rw[aC0 (λs' G=>by rw[hs]at G;cases G;exact Bool.eq_false_iff.mpr n)]at y;by_cases z:j=i;subst z;rw[hs]at y;cases y;exact n m;exact c.dis j i t s p z y hs m hm R (by rw[h,r])
    rw[fP E (l.fr p o E T)];exact u
def dD7{X:Cx}{tg e:Expr}{r:DE}(K:W.Frag)(u:X.K=K)(h:GE X e r):GI X tg e (dIt r):=.mk λΓ=>piW (qQ K u (h.to Γ)) λσV H R ⟨σ,ok,items,l,w,e,k⟩=>by
 obtain⟨⟨x,y⟩,A,e⟩:=bind_some e;obtain⟨d,s,e⟩:=bind_some e;obtain⟨its,i,e⟩:=bind_some e;cases e;refine⟨σ,ok,x,_,A,λv n b t g C=>?_⟩;have vw:=t.vw b s;have stay:=mH b t s i vw;cases d with
 | lst B=>
   cases i;obtain⟨p,xs,rfl,j,hr⟩:=gZ vw;refine .inl ⟨xs,j,k _ n _ b g (aI5 (jI (xs:=xs))) λc a m f=>?_⟩;obtain⟨o,q⟩:=stay p true xs rfl j hr c a m f;exact⟨dQ o,q⟩
 | tup B=>
   cases i;obtain⟨p,xs,rfl,j,hr⟩:=fV vw;refine .inr ⟨xs,bK j,k _ n _ b g (aI5 (bN1 (xs:=xs))) λc a m f=>?_⟩;obtain⟨o,q⟩:=stay p false xs rfl (bK j) hr c a m f;exact⟨cP o,q⟩
 | str z=>
   cases i;obtain rfl:=jO vw;exact k _ n (λH=>True/\Rps H (kU z) (eP z)) b g (aI5 bN2) λc a m f=>⟨True.intro,xQ z⟩
 | _=>cases i
noncomputable def aS8(lo:Int)(n:Nat):List D:=(List.range n).map λ(i:Nat)=>D.int (lo+(i:Int))
def cK4{H:Hp}(lo:Int)(n:Nat):Rps H (aS8 lo n) (cH7 lo n):=by
 unfold aS8 cH7
 induction List.range n with
 | nil=>exact .nil
 | cons a r b=>exact .cons (.int _) b
noncomputable def aS9(a:DA):DI:=λσ=>(a σ).bind λx=>(rds x.2 x.1).bind λb=>match b with
 | [.int j]=>if -(2 ^ 62)<=j/\j < 2 ^ 62 then some (aS8 0 j.toNat,none,x.2)else none
 | [.int i,.int j]=>if(-(2 ^ 62)<=i/\i < 2 ^ 62) /\ -(2 ^ 62)<=j/\j < 2 ^ 62 then some (aS8 i (j-i).toNat,none,x.2)else none
 | _=>none
def cK5{X:Cx}{tg e:Expr}{d:DA}(h:∀ Γ,PI X tg e (cG2 (dTA Γ d)))(n:∀ σ rs σ',d σ=some (rs,σ')->rs.length=1):GI X tg e (aS9 d):=.mk λΓ=>piW (h Γ) λσV H R ⟨σ,ok,items,l,o,e,k⟩=>by
 obtain⟨⟨x,p⟩,g,e⟩:=bind_some e;obtain⟨w,r,e⟩:=bind_some e;refine⟨σ,ok,x,_,g,λvs s c i f y=>?_⟩;have vw:=vE c i r;have hl:=n _ _ _ g;dsimp only at e;split at e
 ·split at e
  ·rename_i j;cases e;cases vw with
   | cons a t=>
     cases t;obtain rfl:=cS a;exact⟨_,rfl,j.1,j.2,k _ s (λH=>True/\Rps H _ _) c f (aI5 lS) λu m z v=>⟨True.intro,cK4 _ _⟩⟩
  ·cases e
 ·exfalso;cases vw with
  | cons a t=>cases t with
    | cons b t=>
      cases i with
      | cons _ q _=>cases q with
        | cons _ q _=>simp at hl
 ·cases e
theorem len1{r:DE}:∀ σ rs σ',aA r aT σ=some (rs,σ')->rs.length=1:=λσ rs σ' e=>by
 obtain⟨x,_,e⟩:=bind_some e;cases e;rfl
noncomputable def bQ2(g:DG)(b:DS):List D->Sg->Option Out
 | [],σ=>some (.nx σ)
 | d::r,σ=>(g d σ).bind λe=>(b e).bind λo=>match o with
   | .nx a=>bQ2 g b r a
   | .ct a=>bQ2 g b r a
   | .bk a=>some (.nx a)
   | .rt x a=>some (.rt x a)
   | .ex c f a=>some (.ex c f a)
noncomputable def mI(l:Option Nat)(a:Sg):Out->Out
 | .nx σ=>.nx (aB9 l a σ)
 | .rt r σ=>.rt r (aB9 l a σ)
 | .bk σ=>.bk (aB9 l a σ)
 | .ct σ=>.ct (aB9 l a σ)
 | .ex c f σ=>.ex c f (aB9 l a σ)
noncomputable def lF(ri:DI)(g:DG)(b:DS):DS:=λσ=>(ri σ).bind λx=>(bQ2 g b x.1 (lendO x.2.1 x.2.2)).bind λo=>some (mI x.2.1 x.2.2 o)
def bQ3{Γ:Gm}{E:Ex}{own:List Nat}{ri:DI}{g:TG}{S:DG}{b:DS}(hg:aZ5 own g S){D:Ends}{σV:St}{H:Hp}(h:dTS Γ E (lF ri S b) D σV H):cT9 (dTI Γ ri) g (dTS Γ E b) D σV H:=by
 obtain⟨σ,ok,o,e,k⟩:=h;obtain⟨⟨items,l,u⟩,e1,e⟩:=bind_some e;obtain⟨U,e2,e⟩:=bind_some e;cases e;refine⟨σ,ok,items,l,u,e1,λJ T P F M N stay=>?_⟩;dsimp only at e2
 -- V end that is wanted of V walk
 have K:∀ n a w,StOk Γ w n a->Step (lendO l u) σV T n a w->∀ W,W=U->(∀ σ',W=.nx σ'->∀ σV' H',StOk Γ H' σ' σV'->Step (lendO l u) σV T σ' σV' H'->D.nx σV' H'):=by
  intro n a w G B W ho σ' X σV' H' Y Z;subst ho X;obtain⟨O,Q⟩:=lE F Y Z;exact k σV' H' O (M.trans Q)
 refine⟨λi m a w=>m=items.length-i/\i<=items.length/\∃ n,bQ2 S b (items.drop i) n=some U/\StOk Γ w n a/\Step (lendO l u) σV T n a w,⟨items.length,by simp,a7c _,lendO l u,by simpa using e2,F.lendO,.refl⟩,?_⟩;rintro i m a w ⟨rfl,hi,n,A,G,B⟩;have hP:=stay n a w B;by_cases I:i < items.length
 ·have ei:items[i]? = some items[i]:=a0a I;refine .inr ⟨N.go w i _ hP ei,λC R=>∃ m',m' < items.length-i/\m'=items.length-(i+1)/\i+1<=items.length/\∃ z,bQ2 S b (items.drop (i+1)) z=some U/\StOk Γ R z C/\Step (lendO l u) σV T z C R,λσ' H' q=>q,λy R hy=>?_⟩;obtain⟨sm,ry⟩:=N.yld w i _ y R hP ei hy;rw[List.drop_eq_getElem_cons I]at A;obtain⟨z,eg,A⟩:=bind_some A;obtain⟨ob,eb,A⟩:=bind_some A;refine hg Γ R _ _ _ n a _ y z _ (G.same sm) (B.trans (.same sm)) ry eg λC ok3 t _ _=>?_;refine⟨z,ok3,ob,eb,?_⟩;cases ob with
  | nx s=>exact λj L r p=>⟨_,by lia,rfl,I,s,A,r,t.trans p⟩
  | ct s=>exact λj L r p=>⟨_,by lia,rfl,I,s,A,r,t.trans p⟩
  | bk s=>
    cases A;exact λj L r p=>K s j L r (t.trans p) _ rfl s rfl j L r (t.trans p)
  | rt x s=>
    cases A;intro v j L r r4 p;obtain⟨O,Q⟩:=lE F r (t.trans p);exact k v j L O (aZ7 (t.trans p) r4) (M.trans Q)
  | ex c f s=>
    cases A;intro v d j L r r4 p;obtain⟨O,Q⟩:=lE F r (t.trans p);exact k v d j L O r4 (M.trans Q)
 ·have e0:i=items.length:=by lia
  subst e0;rw[List.drop_length]at A;cases A;exact .inl ⟨N.stop w hP,K n a w G B _ rfl n rfl a w G B⟩
def jQ{X:Cx}{E:Ex}{own:List Nat}{st:Stmt}{ri:DI}{g:TG}{a:DG}{b:DS}(c:aZ5 own g a)(h:∀ Γ,PS X st (cT9 (dTI Γ ri) g (dTS Γ E b))):GS E X st (lF ri a b):=.mk λΓ=>psW (h Γ) λ_ _ _=>bQ3 c
def aZ8:∃ n:Nat,1000000<=n:=⟨_,a4a _⟩
noncomputable def cU2:Nat:=Classical.choose aZ8
def cK6:1000000<=cU2:=Classical.choose_spec aZ8
noncomputable def oO(c:DT)(b:DS):Nat->Sg->Option Out
 | 0,_=>none
 | n+1,σ=>(c σ).bind λx=>if x.1=true then(b x.2).bind λo=>match o with
   | .nx a=>oO c b n a
   | .ct a=>oO c b n a
   | .bk a=>some (.nx a)
   | .rt r a=>some (.rt r a)
   | .ex c f a=>some (.ex c f a)else some (.nx x.2)
noncomputable def kW(c:DT)(b:DS):DS:=λσ=>oO c b cU2 σ
def aP8{Γ:Gm}{E:Ex}{c:DT}{b:DS}{D:Ends}{σV:St}{H:Hp}(h:dTS Γ E (kW c b) D σV H):aG5 (dTT Γ c) (dTS Γ E b) D σV H:=by
 obtain⟨σ,ok,o,e,k⟩:=h;refine⟨λm l A=>∃ u,oO c b m u=some o/\StOk Γ A u l/\Step σ σV H u l A,⟨cU2,σ,e,ok,.refl⟩,?_⟩;rintro m l A ⟨u,p,B,r⟩;cases m with
 | zero=>cases p
 | succ n=>
   obtain⟨⟨t,y⟩,G,p⟩:=bind_some p;refine⟨u,B,t,y,G,λI z s=>?_⟩;dsimp only at p;split at p
   ·rename_i C;rw[a3Y C];obtain⟨ob,J,p⟩:=bind_some p;refine⟨λa w=>∃ m',m' < n+1/\∃ g,oO c b m' g=some o/\StOk Γ w g a/\Step σ σV H g a w,λ_ _ q=>q,y,z,ob,J,?_⟩;cases ob with
    | nx g=>exact λa w i j=>⟨n,a3e n,g,p,i,(r.trans s).trans j⟩
    | ct g=>exact λa w i j=>⟨n,a3e n,g,p,i,(r.trans s).trans j⟩
    | bk g=>cases p;exact λa w i j=>k a w i ((r.trans s).trans j)
    | rt x g=>cases p;exact λv a w i F j=>k v a w i F ((r.trans s).trans j)
    | ex c f g=>cases p;exact λv d a w i F j=>k v d a w i F ((r.trans s).trans j)
   ·rename_i C;rw[a3Z C];cases p;exact k l I z (r.trans s)
def bQ4{X:Cx}{E:Ex}{st:Stmt}{c:DT}{b:DS}(h:∀ Γ,PS X st (aG5 (dTT Γ c) (dTS Γ E b))):GS E X st (kW c b):=.mk λΓ=>psW (h Γ) λ_ _ _=>aP8
noncomputable def bJ(ow:List Nat)(σ:Sg):Sg:=ow.foldl (λσ i=>σ.set i none) σ
noncomputable def kQ(ow:List Nat)(σ a:Sg):Sg:=ow.foldl (λa i=>a.set i (σ[i]?.getD none)) a
theorem fX{a:Type}:∀ (ow:List Nat) (σ:List (Option a)),(ow.foldl (λσ i=>σ.set i none) σ).length=σ.length
 | [],_=>rfl
 | i::r,σ=>(fX r (σ.set i none)).trans (by simp)
theorem eR{a:Type}:∀ (ow:List Nat) (σ:List (Option a)) (j:Nat),j∉ow->(ow.foldl (λσ i=>σ.set i none) σ)[j]? = σ[j]?
 | [],_,_,_=>rfl
 | i::r,σ,j,h=>by
   have b:i≠j:=λz=>h (by rw[z];exact a6a);have c:j∉r:=λz=>h (a7a _ z);show(r.foldl _ (σ.set i none))[j]? = _;rw[eR r _ j c,a9a b]
theorem bO{a:Type}:∀ (ow:List Nat) (σ:List (Option a)) (j:Nat) (x:a),(ow.foldl (λσ i=>σ.set i none) σ)[j]? = some (some x)->j∉ow/\σ[j]? = some (some x)
 | [],_,_,_,h=>⟨by simp,h⟩
 | i::r,σ,j,x,h=>by
   obtain⟨b,c⟩:=bO r (σ.set i none) j x h;rcases bH c with⟨_,z,_⟩ | ⟨z,d⟩;cases z;exact⟨by simp[z,b],d⟩
theorem oP:∀ (ow:List Nat) (σ a:Sg),(kQ ow σ a).length=a.length
 | [],_,_=>rfl
 | i::r,σ,a=>(oP r σ (a.set i (σ[i]?.getD none))).trans (by simp)
theorem jR:∀ (ow:List Nat) (σ a:Sg) (j:Nat),j∉ow->(kQ ow σ a)[j]? = a[j]?
 | [],_,_,_,_=>rfl
 | i::r,σ,a,j,h=>by
   have b:i≠j:=λz=>h (by rw[z];exact a6a);have c:j∉r:=λz=>h (a7a _ z);show(kQ r σ (a.set i (σ[i]?.getD none)))[j]? = _;rw[jR r σ _ j c,a9a b]
theorem qA:∀ (ow:List Nat) (σ a:Sg) (j:Nat),j∈ow->σ.length=a.length->(kQ ow σ a)[j]? = σ[j]?
 | [],_,_,_,h,_=>by simp at h
 | i::r,σ,a,j,h,hl=>by
   show(kQ r σ (a.set i (σ[i]?.getD none)))[j]? = _;by_cases hr:j∈r;exact qA r σ _ j hr (by simp[hl])
   ·rw[jR r σ _ j hr];have:j=i:=by rcases a5b.mp h with z | z;exact z;exact absurd z hr
    subst this;by_cases b:j < a.length;rw[a2c b,a0a (by lia:j < σ.length)];rfl;rw[a6c.mpr (by simp;lia),a6c.mpr (by lia)]
section
variable{Γ:Gm}{H H1 H2:Hp}{σ σ1 τ:Sg}{σV σV2 σV3:St}{ow:List Nat}
def StOk.blank(ok:StOk Γ H τ σV2)(hl:σV3.length=σV2.length)(e:∀ j,j∉ow->σV3[j]? = σV2[j]?):StOk Γ H (bJ ow τ) σV3 where
 rel:=λj t b=>by
  obtain⟨c,d⟩:=bO ow τ j t b;rw[e j c];exact ok.rel j t d
 dis:=λj l t g q n b h m m' a f=>by
  obtain⟨c,d⟩:=bO ow τ j t b;obtain⟨i,k⟩:=bO ow τ l g h;rw[e j c]at a;rw[e l i]at f;exact ok.dis j l t g q n d k m m' a f
 own:=λj t q b m a=>by
  obtain⟨c,d⟩:=bO ow τ j t b;rw[e j c]at a;exact ok.own j t q d m a
 par:=λj t q b m a=>by
  obtain⟨c,d⟩:=bO ow τ j t b;rw[e j c]at a;exact ok.par j t q d m a
 keep:=ok.keep
 dom:=ok.dom
 len:=by rw[bJ,fX,hl];exact ok.len
def Step.blank{c:Sg}(g:∀ (j:Nat) t,c[j]? = some (some t)->j∉ow)(st:Step c σV H1 τ σV2 H2)(h:∀ j,j∉ow->σV3[j]? = σV2[j]?):Step c σV H1 (bJ ow τ) σV3 H2 where
 fr:=st.fr
 dom:=st.dom
 mu:=λa ⟨j,t,b,m,f⟩=>by
  obtain⟨e,d⟩:=bO ow τ j t b;rw[h j e]at f;exact st.mu a ⟨j,t,d,m,f⟩
 nv:=λa ⟨j,t,b,m,f⟩=>by
  obtain⟨e,d⟩:=bO ow τ j t b;rw[h j e]at f;exact st.nv a ⟨j,t,d,m,f⟩
 kp:=λj t b=>by
  obtain⟨i,k⟩:=st.kp j t b;exact⟨i,by rw[bJ,eR ow τ j (g j t b)];exact k⟩
 fix:=λj t b m=>by
  obtain⟨i,k,e,d,l⟩:=st.fix j t b m;exact⟨i,by rw[bJ,eR ow τ j (g j t b)];exact k,e,d,by rw[h j (g j t b)];exact l⟩
 lt:=λj t b m=>by
  obtain⟨e,d⟩:=bO ow τ j t b;exact st.lt j t d m
def cK7(c:StOk Γ H1 σ1 σV)(ok:StOk Γ H τ σV2)(x:∀ j,j∉ow->σV2[j]? = σV[j]?)(hl:σV2.length=σV.length)(st:Step (bJ ow σ1) σV2 H1 τ σV2 H) :
  StOk Γ H (kQ ow σ1 τ) σV/\Step σ1 σV H1 (kQ ow σ1 τ) σV H:=by
 have A:σ1.length=τ.length:=by rw[c.len,ok.len,hl]
 have N:StOk Γ H1 (bJ ow σ1) σV2:=c.blank hl x;have ext:Ext H1 H:=st.ext N;have get:∀ (j:Nat) t,(kQ ow σ1 τ)[j]? = some (some t)->(j∈ow/\σ1[j]? = some (some t))\/(j∉ow/\τ[j]? = some (some t)):=λj t e=>by
  by_cases h:j∈ow;rw[qA ow σ1 τ j h A]at e;exact .inl ⟨h,e⟩;rw[jR ow σ1 τ j h]at e;exact .inr ⟨h,e⟩
 have B:∀ (j:Nat) t,(bJ ow σ1)[j]? = some (some t)->j∉ow/\σ1[j]? = some (some t):=λj t e=>bO ow σ1 j t e;have G:∀ (j:Nat),j∉ow->(bJ ow σ1)[j]? = σ1[j]?:=λj h=>eR ow σ1 j h;have s:∀ a,nV (bJ ow σ1) σV2 a->∃ (j:Nat) (t:Sl),j∉ow/\σ1[j]? = some (some t)/\t.m.mt=true/\σV[j]? = some (some (.ref a)):=λa ⟨j,t,b,m,u⟩=>by
  obtain⟨k,f⟩:=B j t b;rw[x j k]at u;exact⟨j,t,k,f,m,u⟩
 have I:∀ a,bL0 (bJ ow σ1) σV2 a->∃ (j:Nat) (t:Sl),j∉ow/\σ1[j]? = some (some t)/\t.m≠.val/\σV[j]? = some (some (.ref a)):=λa ⟨j,t,b,m,u⟩=>by
  obtain⟨k,f⟩:=B j t b;rw[x j k]at u;exact⟨j,t,k,f,m,u⟩
 have C:∀ (j l:Nat) t g q,j∈ow->σ1[j]? = some (some t)->l∉ow->τ[l]? = some (some g)->t.m≠.val->g.m≠.val->(t.m.mt=true\/g.m.mt=true)->σV[j]? = some (some (.ref q))->σV[l]? = some (some (.ref q))->False:=by
  intro j l t g q R b O K m m' L i d;rw[← x l O]at d;obtain⟨p,ep,P⟩:=c.ownAt b m;rw[i]at ep;have ep:=a5a (a5a ep);cases ep;obtain⟨o,S,_⟩:=P.obj;rcases L with L | L;rcases st.nv q ⟨l,g,K,m',d⟩with z | z;obtain⟨D,E,k,f,v,F⟩:=I q z;exact c.dis j D t E q (λy=>k (by rw[← y];exact R)) b f L v i F;rw[S]at z;cases z;rcases st.mu q ⟨l,g,K,L,d⟩with z | z;obtain⟨D,E,k,f,v,F⟩:=s q z;exact c.dis D j E t q (λy=>k (by rw[y];exact R)) f b v m F i;rw[S]at z;cases z
 constructor
 ·refine⟨λj t b=>?_,λj l t g q n b K m m' i d=>?_,λj t q b m i=>?_,λj t q b m i=>?_,ok.keep,ok.dom,by rw[oP,ok.len,hl]⟩;rcases get j t b with⟨h,e⟩ | ⟨h,e⟩;obtain⟨w,M,r⟩:=c.rel j t e;refine⟨w,M,r.mono ext λp o ep m U=>st.fr p o U λz=>?_⟩;obtain⟨D,E,k,f,v,F⟩:=s p z;exact c.dis D j E t p (λy=>k (by rw[y];exact h)) f e v m F (by rw[M,ep]);obtain⟨w,M,r⟩:=ok.rel j t e;exact⟨w,by rw[← x j h];exact M,r⟩
  ·rcases get j t b with⟨h,e⟩ | ⟨h,e⟩;rcases get l g K with⟨h',J⟩ | ⟨h',J⟩;exact c.dis j l t g q n e J m m' i d;exact C j l t g q h e h' J (hU m) m' (.inl m) i d;rcases get l g K with⟨h',J⟩ | ⟨h',J⟩;exact C l j g t q h' J h e m' (hU m) (.inr m) d i;rw[← x j h]at i;rw[← x l h']at d;exact ok.dis j l t g q n e J m m' i d
  ·rcases get j t b with⟨h,e⟩ | ⟨h,e⟩;exact c.own j t q e m i;rw[← x j h]at i;exact ok.own j t q e m i
  ·rcases get j t b with⟨h,e⟩ | ⟨h,e⟩;exact c.par j t q e m i;rw[← x j h]at i;exact ok.par j t q e m i
 ·refine⟨λa o e n=>st.fr a o e λz=>?_,st.dom,λa ⟨j,t,b,m,u⟩=>?_,λa ⟨j,t,b,m,u⟩=>?_,λj t b=>?_,λj t b m=>?_,λj t b m=>?_⟩;obtain⟨D,E,k,f,v,F⟩:=s a z;exact n ⟨D,E,f,v,F⟩;rcases get j t b with⟨h,e⟩ | ⟨h,e⟩;exact .inl ⟨j,t,e,m,u⟩;rw[← x j h]at u;rcases st.mu a ⟨j,t,e,m,u⟩with z | z;obtain⟨D,E,k,f,v,F⟩:=s a z;exact .inl ⟨D,E,f,v,F⟩;exact .inr z;rcases get j t b with⟨h,e⟩ | ⟨h,e⟩;exact .inl ⟨j,t,e,m,u⟩;rw[← x j h]at u;rcases st.nv a ⟨j,t,e,m,u⟩with z | z;obtain⟨D,E,k,f,v,F⟩:=I a z;exact .inl ⟨D,E,f,v,F⟩;exact .inr z;by_cases h:j∈ow;exact⟨t,by rw[qA ow σ1 τ j h A];exact b⟩;obtain⟨g,Q⟩:=st.kp j t (by rw[G j h];exact b);exact⟨g,by rw[jR ow σ1 τ j h];exact Q⟩;by_cases h:j∈ow;exact⟨t,by rw[qA ow σ1 τ j h A];exact b,rfl,λ_=>rfl,rfl⟩;obtain⟨g,Q,k,f,v⟩:=st.fix j t (by rw[G j h];exact b) m;exact⟨g,by rw[jR ow σ1 τ j h];exact Q,k,f,rfl⟩;rcases get j t b with⟨h,e⟩ | ⟨h,e⟩;exact⟨t,e,m⟩;obtain⟨T,V,m1⟩:=st.lt j t e m;exact⟨T,(B j T V).2,m1⟩
end
noncomputable def aC1(ow:List Nat)(g:DG)(t:DT)(e:DE):List D->Sg->Option (List D×Sg)
 | [],a=>some ([],a)
 | d :: r,a=>(g d a).bind λb=>(t b).bind λx=>if x.1=true then(e x.2).bind λy=>match y.1 with
     | .val d'=>(aC1 ow g t e r (bJ ow y.2)).bind λz=>some (d'::z.1,z.2)
     | _=>none else aC1 ow g t e r (bJ ow x.2)
noncomputable def nX:DT:=λσ=>some (true,σ)
noncomputable def eM(ow:List Nat)(ri:DI)(g:DG)(t:DT)(e:DE):DE:=λσ=>(ri σ).bind λx=>if x.1.length<=sizeLine then(aC1 ow g t e x.1 (bJ ow (lendO x.2.1 x.2.2))).bind λy=>
 some (.own (.lst y.1),aB9 x.2.1 x.2.2 (kQ ow (lendO x.2.1 x.2.2) y.2))else none
def xR{Γ:Gm}{ow:List Nat}{ri:DI}{g:TG}{Z:DG}{t:DT}{e:DE}(hg:aZ5 ow g Z){σV:St}{H:Hp}{Q:VK}(h:dTE Γ (eM ow ri Z t e) σV H Q) :
  aO6 ow (dTI Γ ri) g (dTT Γ t) (dTE Γ e) σV H Q:=by
 obtain⟨σ,ok,res,σ',x,k⟩:=h;obtain⟨⟨items,l,c⟩,e1,x⟩:=bind_some x;dsimp only at x;split at x
 case isFalse=>cases x
 case isTrue hlen=>
 obtain⟨⟨all,τe⟩,e2,x⟩:=bind_some x;cases x;refine⟨σ,ok,items,l,c,e1,λJ I P K L B stay=>?_⟩;have bl:(blank ow σV).length=σV.length:=fX ow σV;have bo:∀ j,j∉ow->(blank ow σV)[j]? = σV[j]?:=λj r=>eR ow σV j r;have M:StOk Γ I (lendO l c) σV:=K.lendO;have okB:StOk Γ I (bJ ow (lendO l c)) (blank ow σV):=M.blank bl bo;have hb:∀ (j:Nat) t,(bJ ow (lendO l c))[j]? = some (some t)->j∉ow:=λj t ej=>(bO ow _ j t ej).1
 -- a step within,as a step of the q
 have q:∀ o d,StOk Γ d o (blank ow σV)->Step (bJ ow (lendO l c)) (blank ow σV) I o (blank ow σV) d->StOk Γ d (kQ ow (lendO l c) o) σV/\Step (lendO l c) σV I (kQ ow (lendO l c) o) σV d:=
  λo d s u=>cK7 M s bo bl u
 refine⟨λi m ys d=>m=items.length-i/\i<=items.length/\∃ o don cG,aC1 ow Z t e (items.drop i) o=some (cG,τe)/\don++cG=all/\don.length<=i/\Rps d don ys/\StOk Γ d o (blank ow σV)/\Step (bJ ow (lendO l c)) (blank ow σV) I o (blank ow σV) d,
  ⟨items.length,by simp,Nat.zero_le _,bJ ow (lendO l c),[],all,by simpa using e2,rfl,a7c _,.nil,okB,.refl⟩,?_⟩
 rintro i m ys d ⟨rfl,hi,o,don,cG,f,n,hdl,hr,s,u⟩;have hyl:=hr.length;obtain⟨okw,N⟩:=q o d s u;have hP:=stay _ σV d N;refine⟨by lia,?_⟩;by_cases w:i < items.length
 ·have ei:items[i]? = some items[i]:=a0a w;refine .inr ⟨B.go d i _ hP ei,λy X hy=>?_⟩;obtain⟨C,ry⟩:=B.yld d i _ y X hP ei hy;rw[List.drop_eq_getElem_cons w]at f;obtain⟨O,eg,f⟩:=bind_some f;obtain⟨⟨b,D⟩,et,f⟩:=bind_some f;refine hg Γ X _ _ _ o (blank ow σV) _ y O _ (s.same C) (u.trans (.same C)) ry eg λσV3 R S l3 Y=>?_;have z:Ext d X:=.same C;refine⟨O,R,b,D,et,λH4 E F=>?_⟩;have A:Ext X H4:=F.ext R;dsimp only at f;split at f;rename_i hbt;dsimp only;rw[a3Y hbt];obtain⟨⟨r5,T⟩,ee,f⟩:=bind_some f;refine⟨D,E,r5,T,ee,λv H5 ok5 r5' U f5=>?_⟩;dsimp only at f;split at f;rename_i d';obtain⟨⟨G,τe'⟩,ec',f⟩:=bind_some f;cases f;refine⟨_,by lia,rfl,w,bJ ow T,don++[d'],G,ec',by rw[← n];simp,by simp;lia,?_,ok5.blank (by rw[l3]) (λj r=>((Y j r).1).symm),Step.blank hb ((S.trans F).trans U) λj r=>((Y j r).1).symm⟩;exact((hr.mono z).mono A |>.mono (U.ext E)).append (.cons r5' .nil);cases f;rename_i hbf;dsimp only;rw[a3Z hbf];refine⟨_,by lia,rfl,w,bJ ow D,don,cG,f,n,by lia,(hr.mono z).mono A,E.blank (by rw[l3]) (λj r=>((Y j r).1).symm),Step.blank hb (S.trans F) λj r=>((Y j r).1).symm⟩
 ·have e0:i=items.length:=by lia
  subst e0;rw[List.drop_length]at f;cases f;rw[a3g]at n;subst n;refine .inl ⟨B.stop d hP,λp hp=>?_⟩;obtain⟨V,W⟩:=lE K okw N;have C:nT d (upd d p (.lst ys)):=bE hp;have nw:xJ d (upd d p (.lst ys)) (.own (.lst don)) (.ref p):=⟨p,rfl,hp,ys,aE,hr.mono (.same C)⟩;exact k _ _ (V.same C) (nw.res V) ((L.trans W).trans (.same C)) (nw.frh.back (L.trans W))
def aZ9{X:Cx}{ow:List Nat}{ex:Expr}{ri:DI}{g:TG}{a:DG}{t:DT}{e:DE}(b:aZ5 ow g a)(h:∀ Γ,PE X ex (aO6 ow (dTI Γ ri) g (dTT Γ t) (dTE Γ e))):GE X ex (eM ow ri a t e):=.mk λΓ=>peW (h Γ) λ_ _ _=>xR b
def bQ5{X:Cx}{Γ:Gm}:bK9 X [] (dTT Γ nX):=λpins s σ H Q I ⟨a,ok,b,σ',e,k⟩=>pT pins s σ H Q I (by cases e;exact k H ok .refl)
def bQ6{X:Cx}{Γ:Gm}{c:Expr}{t:DT}(h:GT X c t):bK9 X [c] (dTT Γ t):=aG9 (h.to Γ)
def kH{X:Cx}{E:Ex}{ow:List Nat}{i:Nat}{st:Stmt}{ri:DI}{g:TG}{a:DG}{t:DT}{e:DE}(b:aZ5 ow g a)(h:∀ Γ,PS X st (λD σ H=>aO6 ow (dTI Γ ri) g (dTT Γ t) (dTE Γ e) σ H λv c=>D.nx (σ.set i (some v)) c)):GS E X st (cF i (eM ow ri a t e)):=.mk λΓ=>psW (h Γ) λD σV H h=>xR b (aI4 h)
abbrev Run:=List Sl->Option (Res×List Sl)
structure ArgOk(H:Hp)(as:List Sl)(vs:List V):Prop where
 len:as.length=vs.length
 rel:∀ (i:Nat) s,as[i]? = some s->∃ v,vs[i]? = some v/\bP3 H s v
 dis:∀ (i j:Nat) s t p,i≠j->as[i]? = some s->as[j]? = some t->s.m.mt=true->t.m≠.val->vs[i]? = some (.ref p)->vs[j]? = some (.ref p)->False
 own:∀ (i:Nat) s,as[i]? = some s->s.m≠.own
def bA0(as:List Sl)(vs:List V)(a:Addr):Prop:=∃ (i:Nat) (s:Sl),as[i]? = some s/\s.m.mt=true/\vs[i]? = some (.ref a)
structure PostOk(as:List Sl)(vs:List V)(H:Hp)(as':List Sl)(H':Hp):Prop where
 rel:∀ (i:Nat) s,as[i]? = some s->s.m.mt=true->∃ s' v,as'[i]? = some s'/\s'.m=s.m/\vs[i]? = some v/\bP3 H' s' v
 fr:∀ a o,H a=some o->¬ bA0 as vs a->H' a=some o
 dom:∀ a,H' a=none->H a=none
def dsp(n:Nat)(run:Run):Sp:=λvs H Q _=>∃ as res as',ArgOk H as vs/\as.length=n/\run as=some (res,as')/\∀ v H',PostOk as vs H as' H'->xJ H H' res v->Q v H'
noncomputable def bQ7(σ:Sg):Res->Option Res
 | .val d=>some (.val d)
 | .own d=>some (.own d)
 | .slot i=>match σ[i]? with
   | some (some s)=>if s.m=.own then some (.own s.d)else if s.m=.val then some (.val s.d)else none
   | _=>none
noncomputable def pK:List Sl->Sg->List Sl
 | [],_=>[]
 | a::as,some s::σ=>(if a.m=.val then a else s)::pK as σ
 | a::as,_::σ=>a::pK as σ
 | a::as,[]=>a::as
noncomputable def ini(len:Nat)(as:List Sl):Sg:=as.map some++List.replicate (len-as.length) none
noncomputable def qB(len:Nat)(a:DS):Run:=λas=>(a (ini len as)).bind λo=>match o with
 | .nx σ=>some (.val .non,pK as σ)
 | .rt r σ=>(bQ7 σ r).bind λb=>some (b,pK as σ)
 | _=>none
def dZ{len:Nat}{as:List Sl}{i:Nat}{s:Sl}:(ini len as)[i]? = some (some s)↔as[i]? = some s:=by
 unfold ini;by_cases h:i < as.length;rw[a8f (by simpa using h),a6b];cases as[i]? <;> simp;rw[a6f (by simpa using h),List.getElem?_replicate,a6c.mpr (by lia)];split<;>simp
def cL{N:List Str}{vs:List V}{i:Nat}{v:V}:(L2.dE N vs)[i]? = some (some v)↔vs[i]? = some v:=by
 unfold L2.dE;by_cases h:i < vs.length;rw[a8f (by simpa using h),a6b];cases vs[i]? <;> simp;rw[a6f (by simpa using h),List.getElem?_replicate,a6c.mpr (by lia)];split<;>simp
theorem vH:∀ {as:List Sl} {σ:Sg} {i:Nat} {a s:Sl},as[i]? = some a->σ[i]? = some (some s)->(pK as σ)[i]? = some (if a.m=.val then a else s)
 | [],_,_,_,_,h,_=>by simp at h
 | _::_,[],_,_,_,_,h=>by simp at h
 | a::as,o::σ,0,b,s,h,h'=>by
   simp at h h';subst h h';unfold pK;simp
 | a::as,o::σ,i+1,b,s,h,h'=>by
   have:=vH (as:=as) (σ:=σ) (i:=i) (a:=b) (s:=s) (by simpa using h) (by simpa using h');cases o<;>(unfold pK;simpa using this)
section
variable{P:Program}{w:World}{K:W.Frag}{mg:Str->Option Value}{base:Heap}
abbrev MS:=Sg->(Out->Prop)->Prop
abbrev MC:=List Sl->(Res->List Sl->Prop)->Prop
def zX(m:MS):Prop:=∀ σ (Q a:Out->Prop),(∀ o,Q o->a o)->m σ Q->m σ a
def mTS(Γ:Gm)(E:Ex)(m:MS):TS:=λD σV H=>∃ σ,StOk Γ H σ σV/\m σ λo=>xP Γ E σ σV H o D
structure GM(E:Ex)(X:Cx)(ss:List Stmt)(m:MS):Prop where
 to:∀ Γ,PSs X ss (mTS Γ E m)
 mon:zX m
def bQ8(n:Nat)(C:MC):Sp:=λvs H Q _=>∃ as,ArgOk H as vs/\as.length=n/\C as λres as'=>∀ v H',PostOk as vs H as' H'->xJ H H' res v->Q v H'
def dS2(as:List Sl)(K:Res->List Sl->Prop)(o:Out):Prop:=match o with
 | .nx σ=>K (.val .non) (pK as σ)
 | .rt r σ=>∃ a,bQ7 σ r=some a/\K a (pK as σ)
 | _=>False
def dK7(len:Nat)(m:MS):MC:=λas K=>m (ini len as) (dS2 as K)
def bA1{x qual:Str}{st:Stmt}{f:Addr}{fd:FuncData}{N ps:List Str}{k:Nat}(F:Fun K x qual st f fd)(S:FnScope N ps (aH st))(R:ps.length<=N.length)(m:MS)(hm:zX m)
  (T:∀ (cdv:Value) (A:Around) (outer:List Env) (s:Shared) (H:Hp) (E:XK),Room k (A.deeper (PyProof.Rows.envOfC qual (aH st) s.heap.objs.size f cdv))->∀ Γ,PSs (zW CX0 P w K mg base N qual (aH st) f cdv A outer s H E).nox (jG st) (mTS Γ Ex.no m)) :
  FnOk P w K mg base CX0 (k+1) f fd ps (bQ8 ps.length (dK7 N.length m)):=by
 refine F.ok S (λvs H Q E Z1=>by obtain⟨as,ok,hl,_⟩:=Z1;rw[← ok.len];exact hl) λcdv A outer s H vs Q E hr h=>?_;obtain⟨as,ok,hl,h⟩:=h;refine⟨_,T cdv A outer s H E hr ⟨H,bA0 as vs⟩,ini N.length as,?_,hm _ _ _ (λo k=>?_) h⟩;refine⟨λi s e=>?_,λi j s t p n u I m m' e U=>?_,λi s p u m=>?_,λi s p u m e=>?_,λa o e _=>e,λa e=>e,?_⟩;obtain⟨v,B,r⟩:=ok.rel i s (dZ.mp e);exact⟨v,cL.mpr B,r⟩;exact ok.dis i j s t p n (dZ.mp u) (dZ.mp I) m m' (cL.mp e) (cL.mp U);exact absurd m (ok.own i s (dZ.mp u));exact⟨i,s,dZ.mp u,by rw[m];rfl,cL.mp e⟩;unfold ini L2.dE;have:=ok.len;simp;lia;have y:∀ σ σV' H',StOk ⟨H,bA0 as vs⟩ H' σ σV'->Step (ini N.length as) (L2.dE N vs) H σ σV' H'->PostOk as vs H (pK as σ) H':=λσ σV' H' b g=>by
  have V:∀ a,nV (ini N.length as) (L2.dE N vs) a->bA0 as vs a:=λa ⟨j,t,I,m,W⟩=>⟨j,t,dZ.mp I,m,cL.mp W⟩;refine⟨λi a u m=>?_,λa o e n=>g.fr a o e λz=>n (V a z),g.dom⟩;have L:a.m=.par:=by
   have h0:=ok.own i a u;cases q:a.m with
   | par=>rfl
   | own=>exact absurd q h0
   | val=>rw[q]at m;cases m
   | lent=>rw[q]at m;cases m
  obtain⟨s',es,X,_,D⟩:=g.fix i a (dZ.mpr u) (.inl L);obtain⟨v,B,r⟩:=b.rel i s' es;obtain⟨Y,M,_⟩:=ok.rel i a u;have:some (some v)=some (some Y):=by rw[← B,D];exact cL.mpr M
  cases this;refine⟨s',v,?_,X,M,r⟩;rw[vH u es,a3Z (by rw[L];exact λz=>nomatch z)]
 cases o with
 | nx σ=>
   exact λσV' H' b g=>k .non H' (y σ σV' H' b g) .non
 | rt r σ=>
   obtain⟨res,B,k⟩:=k;intro v σV' H' b J g;refine k v H' (y σ σV' H' b g) ?_;cases r with
   | val d=>cases B;exact J
   | own d=>
     cases B;obtain⟨p,G,C,q3,Z⟩:=J;exact⟨p,G,Z,C⟩
   | slot i=>
     obtain⟨G,s',C⟩:=J;have l:(match σ[i]? with | some (some s)=>if s.m=.own then some (Res.own s.d)else if s.m=.val then some (.val s.d)else none | _=>none)=some res:=B;rw[C]at l;dsimp only at l;obtain⟨v',D,O⟩:=b.rel i s' C;rw[G]at D;cases D;split at l
     ·rename_i hm;cases l;obtain⟨p,rfl,ow⟩:=(cO (by rw[hm];exact λz=>nomatch z)).mp O;exact⟨p,rfl,b.own i s' p C hm G,ow⟩
     ·split at l;rename_i hm;cases l;obtain⟨m,d⟩:=s';cases hm;exact O;cases l
 | bk σ=>exact k.elim
 | ct σ=>exact k.elim
 | ex c f σ=>exact k.elim
def cA{x qual:Str}{st:Stmt}{f:Addr}{fd:FuncData}{N ps:List Str}{k:Nat}(F:Fun K x qual st f fd)(S:FnScope N ps (aH st))(d:ps.length<=N.length)(b:DS)
  (g:∀ (cdv:Value) (A:Around) (outer:List Env) (s:Shared) (H:Hp) (E:XK),Room k (A.deeper (PyProof.Rows.envOfC qual (aH st) s.heap.objs.size f cdv))->GSs Ex.no (zW CX0 P w K mg base N qual (aH st) f cdv A outer s H E).nox (jG st) b) :
  FnOk P w K mg base CX0 (k+1) f fd ps (dsp ps.length (qB N.length b)):=
 (bA1 F S d (λσ Q=>∃ o,b σ=some o/\Q o) (λσ Q j w ⟨o,e,q⟩=>⟨o,e,w o q⟩) λcdv A outer s H E hr Γ=>dB7 ((g cdv A outer s H E hr).to Γ) λD σV H ⟨σ,ok,o,e,q⟩=>⟨σ,ok,o,e,q⟩).imp
  λvs H Q E ⟨as,res,as',ok,hl,a,k⟩=>by
   obtain⟨o,h,a⟩:=bind_some a;refine⟨as,ok,hl,o,h,?_⟩;cases o with
   | nx σ=>cases a;exact k
   | rt r σ=>
     obtain⟨l,i,a⟩:=bind_some a;cases a;exact⟨_,i,k⟩
   | bk σ=>cases a
   | ct σ=>cases a
   | ex c f σ=>cases a
end
noncomputable def aC2(σ:Sg):Res->Option Sl
 | .val d=>some ⟨.val,d⟩
 | .own d=>some ⟨.par,d⟩
 | .slot i=>match σ[i]? with
   | some (some s)=>some ⟨if s.m.mt=true then .par else s.m,s.d⟩
   | _=>none
noncomputable def qV(σ:Sg):List Res->Option (List Sl)
 | []=>some []
 | r::rs=>(aC2 σ r).bind λa=>(qV σ rs).bind λas=>some (a::as)
noncomputable def bA2(i:Nat):List Res->Bool
 | []=>false
 | .slot j::rs=>decide (i=j)||bA2 i rs
 | _::rs=>bA2 i rs
noncomputable def dJ:List Res->Bool
 | []=>true
 | .slot i::rs=>!bA2 i rs&&dJ rs
 | _::rs=>dJ rs
noncomputable def jS(j:Nat):List Res->List Sl->Option Sl
 | .slot i::rs,a::as=>if i=j then some a else jS j rs as
 | _::rs,_::as=>jS j rs as
 | _,_=>none
noncomputable def iR(rs:List Res)(as:List Sl):Nat->Sg->Sg
 | _,[]=>[]
 | k,some s::σ=>(match jS k rs as with
   | some a=>some (if s.m.mt=true then⟨s.m,a.d⟩else s)
   | none=>some s)::iR rs as (k+1) σ
 | k,none::σ=>none::iR rs as (k+1) σ
noncomputable def aQ(n:Nat)(run:Run)(a:DA):DE:=λσ=>(a σ).bind λx=>(qV x.2 x.1).bind λas=>if as.length=n/\dJ x.1=true then(run as).bind λy=>some (y.1,iR x.1 y.2 0 x.2)else none
theorem tP{σ:Sg}:∀ {rs:List Res} {as:List Sl},qV σ rs=some as->as.length=rs.length/\∀ (k:Nat) r,rs[k]? = some r->∃ a,as[k]? = some a/\aC2 σ r=some a
 | [],as,h=>by cases h;exact⟨rfl,λk r e=>by simp at e⟩
 | r::rs,as,h=>by
   obtain⟨a,b,h⟩:=bind_some h;obtain⟨as',c,h⟩:=bind_some h;cases h;obtain⟨l,g⟩:=tP c;refine⟨by simp[l],λk d e=>?_⟩;cases k with
   | zero=>simp at e;subst e;exact⟨a,rfl,b⟩
   | succ k=>
     obtain⟨f,i,j⟩:=g k d (by simpa using e);exact⟨f,by simpa using i,j⟩
theorem ResOks.get{Γ:Gm}{H:Hp}{σ:Sg}{σV:St}:∀ {rs:List Res} {vs:List V},ResOks Γ H σ σV rs vs->rs.length=vs.length/\∀ (k:Nat) r,rs[k]? = some r->∃ v,vs[k]? = some v/\jD Γ H σ σV r v
 | _,_,.nil=>⟨rfl,λk r e=>by simp at e⟩
 | _,_,.cons h t _=>by
   obtain⟨l,g⟩:=ResOks.get t;refine⟨by simp[l],λk a e=>?_⟩;cases k with
   | zero=>simp at e;subst e;exact⟨_,rfl,h⟩
   | succ k=>
     obtain⟨b,c,d⟩:=g k a (by simpa using e);exact⟨b,by simpa using c,d⟩
theorem ResOks.dis{Γ:Gm}{H:Hp}{σ:Sg}{σV:St}:∀ {rs:List Res} {vs:List V},ResOks Γ H σ σV rs vs->∀ (k l:Nat) d d' p,k < l->rs[k]? = some (.own d)->rs[l]? = some (.own d')->vs[k]? = some (.ref p)->vs[l]? ≠ some (.ref p)
 | _,_,.nil,k,l,d,d',p,_,e,_,_=>by simp at e
 | _,_,.cons h t q,k,l,d,d',p,b,e,a,ev=>by
   cases l with
   | zero=>lia
   | succ l=>
     cases k with
     | zero=>
       simp at e ev;subst e ev;intro z;exact q d p rfl rfl l d' (by simpa using a) (by simpa using z)
     | succ k=>
       intro z;exact ResOks.dis t k l d d' p (by lia) (by simpa using e) (by simpa using a) (by simpa using ev) (by simpa using z)
theorem qC{i:Nat}:∀ {rs:List Res} {k:Nat},rs[k]? = some (.slot i)->bA2 i rs=true
 | [],_,h=>by simp at h
 | r::rs,0,h=>by simp at h;subst h;simp[bA2]
 | r::rs,k+1,h=>by
   have:=qC (rs:=rs) (k:=k) (by simpa using h);cases r<;>simp[bA2,this]
theorem nY:∀ {rs:List Res},dJ rs=true->∀ (k l i:Nat),rs[k]? = some (.slot i)->rs[l]? = some (.slot i)->k=l
 | [],_,k,l,i,h,_=>by simp at h
 | r::rs,hn,k,l,i,h,h'=>by
   cases k with
   | zero=>
     cases l with
     | zero=>rfl
     | succ l=>
       simp at h;subst h;unfold dJ at hn;rw[a6d]at hn;rw[qC (k:=l) (by simpa using h')]at hn;simp at hn
   | succ k=>
     cases l with
     | zero=>
       simp at h';subst h';unfold dJ at hn;rw[a6d]at hn;rw[qC (k:=k) (by simpa using h)]at hn;simp at hn
     | succ l=>
       have a:dJ rs=true:=by
        cases r with
        | slot j=>unfold dJ at hn;rw[a6d]at hn;exact hn.2
        | val d=>exact hn
        | own d=>exact hn
       exact a4u Nat.succ (nY a k l i (by simpa using h) (by simpa using h'))
theorem fQ{j:Nat}:∀ {rs:List Res} {as:List Sl} {a:Sl},jS j rs as=some a->∃ k:Nat,rs[k]? = some (.slot j)/\as[k]? = some a
 | [],_,_,h=>by simp[jS]at h
 | r::rs,[],_,h=>by cases r<;>simp[jS]at h
 | r::rs,a::as,b,h=>by
   cases r with
   | slot i=>
     have h':(if i=j then some a else jS j rs as)=some b:=h;split at h';rename_i e;cases h';subst e;exact⟨0,rfl,rfl⟩
     ·obtain⟨k,c,f⟩:=fQ h';exact⟨k+1,by simpa using c,by simpa using f⟩
   | val d=>obtain⟨k,c,f⟩:=fQ (rs:=rs) (as:=as) h;exact⟨k+1,by simpa using c,by simpa using f⟩
   | own d=>obtain⟨k,c,f⟩:=fQ (rs:=rs) (as:=as) h;exact⟨k+1,by simpa using c,by simpa using f⟩
noncomputable def mJ(rs:List Res)(as:List Sl)(k:Nat)(o:Option Sl):Option Sl:=match o with
 | some s=>(match jS k rs as with
   | some a=>some (if s.m.mt=true then⟨s.m,a.d⟩else s)
   | none=>some s)
 | none=>none
theorem jT{rs:List Res}{as:List Sl}:∀ (k:Nat) (σ:Sg) (j:Nat),(iR rs as k σ)[j]? = (σ[j]?).map (mJ rs as (k+j))
 | _,[],_=>by simp[iR]
 | k,o::σ,0=>by cases o<;>simp[iR,mJ]
 | k,o::σ,j+1=>by
   have:=jT (rs:=rs) (as:=as) (k+1) σ j;have e:k+1+j=k+(j+1):=by lia
   rw[e]at this;cases o<;>simpa[iR]using this
theorem oQ{rs:List Res}{as:List Sl}:∀ (k:Nat) (σ:Sg),(iR rs as k σ).length=σ.length
 | _,[]=>rfl
 | k,o::σ=>by cases o<;>simp[iR,oQ (k+1) σ]
def xS{Γ:Gm}{σ c:Sg}{rs:List Res}{as:List Sl}{σV:St}{H Z:Hp}{vs:List V}(e2:qV c rs=some as)(hc:dJ rs=true)(w:StOk Γ Z c σV)(r1:ResOks Γ Z c σV rs vs)(C:Step σ σV H c σV Z)
  (f1:∀ (j:Nat) d p,rs[j]? = some (.own d)->vs[j]? = some (.ref p)->H p=none) :
  ArgOk Z as vs/\∀ r as' v H2,PostOk as vs Z as' H2->xJ Z H2 r v->StOk Γ H2 (iR rs as' 0 c) σV/\jD Γ H2 (iR rs as' 0 c) σV r v/\Step σ σV H (iR rs as' 0 c) σV H2/\Frh H r v:=by
 obtain⟨la,ga⟩:=tP e2;obtain⟨lv,gv⟩:=r1.get;have O:∀ (i:Nat) a,as[i]? = some a->∃ r v,rs[i]? = some r/\aC2 c r=some a/\vs[i]? = some v/\jD Γ Z c σV r v:=λi a x=>by
  have hi:i < rs.length:=by rw[← la];exact(a3a.mp x).1
  have P:rs[i]? = some rs[i]:=a0a hi;obtain⟨a',Q,h2⟩:=ga i _ P;rw[x]at Q;cases Q;obtain⟨v,h3,h4⟩:=gv i _ P;exact⟨_,v,P,h2,h3,h4⟩
 have f:∀ i a,aC2 c (.slot i)=some a->∃ s,c[i]? = some (some s)/\a=⟨if s.m.mt=true then .par else s.m,s.d⟩:=λi a x=>by
  have X:(match c[i]? with | some (some s)=>some (⟨if s.m.mt=true then .par else s.m,s.d⟩:Sl) | _=>none)=some a:=x;split at X
  ·rename_i s hs;cases X;exact⟨s,hs,rfl⟩
  ·cases X
 -- an argument that may change: new,or owned here
 have K:∀ a,bA0 as vs a->nV c σV a\/(H a=none/\¬ bL0 c σV a/\Γ.H₀ a=none):=λa ⟨i,s,R,m,F⟩=>by
  obtain⟨r,v,P,x,D,L⟩:=O i s R;rw[F]at D;cases D;cases r with
  | val d=>cases x;cases m
  | own d=>
    obtain⟨p,B,S,Y,q4⟩:=L;cases B;exact .inr ⟨f1 i d a P F,Y,q4⟩
  | slot j=>
    obtain⟨s',hs,rfl⟩:=f j s x;obtain⟨B,_⟩:=L;refine .inl ⟨j,s',hs,?_,B⟩;by_cases hm:s'.m.mt=true;exact hm;simp only[hm]at m;exact absurd m hm
 have I:ArgOk Z as vs:=by
  refine⟨by rw[la,lv],λi a R=>?_,λi j s t p nij R g m m' F D=>?_,λi a R=>?_⟩
  ·obtain⟨r,v,P,x,F,L⟩:=O i a R;refine⟨v,F,?_⟩;cases r with
   | val d=>cases x;exact L
   | own d=>cases x;obtain⟨p,B,S,_⟩:=L;exact⟨p,B,S⟩
   | slot j=>
     obtain⟨s',hs,rfl⟩:=f j a x;obtain⟨B,_⟩:=L;obtain⟨v',e4,r4⟩:=w.rel j s' hs;rw[B]at e4;cases e4;by_cases hm:s'.m.mt=true;simp only[hm,if_true];exact(cO (s:=⟨.par,s'.d⟩) (λz=>nomatch z)).mpr ((cO (hU hm)).mp r4);simp only[hm];exact r4
  ·obtain⟨r,v,P,x,T,L⟩:=O i s R;obtain⟨r2,v2,er2,ea2,ev2,rv2⟩:=O j t g;rw[F]at T;cases T;rw[D]at ev2;cases ev2;have E:∀ l a,aC2 c (.slot l)=some a->a.m≠.val->∃ s,c[l]? = some (some s)/\s.m≠.val/\(a.m.mt=true->s.m.mt=true):=λl a x hm=>by
    obtain⟨s',hs,rfl⟩:=f l a x;refine⟨s',hs,?_,?_⟩;intro z;simp only[z,Md.mt]at hm;exact hm rfl;intro z;by_cases U:s'.m.mt=true;exact U;simp only[U]at z;exact z
   cases r with
   | val d=>cases x;cases m
   | own d=>
     obtain⟨q,B,S,Y,q4⟩:=L;cases B;cases r2 with
     | val d=>cases ea2;exact m' rfl
     | own d2=>
       rcases Nat.lt_or_gt_of_ne nij with z | z;exact r1.dis i j d d2 p z P er2 F D
       ·exact r1.dis j i d2 d p z er2 P D F
     | slot l=>
       obtain⟨s',hs,U,_⟩:=E l t ea2 m';exact Y ⟨l,s',hs,U,rv2.1⟩
   | slot l=>
     obtain⟨s',hs,U,hmt⟩:=E l s x (hU m);cases r2 with
     | val d=>cases ea2;exact m' rfl
     | own d2=>
       obtain⟨q,B,S,Y,q4⟩:=rv2;cases B;exact Y ⟨l,s',hs,U,L.1⟩
     | slot l2=>
       obtain⟨s2,hs2,hm2,_⟩:=E l2 t ea2 m';refine w.dis l l2 s' s2 p (λz=>?_) hs hs2 (hmt m) hm2 L.1 rv2.1;subst z;exact nij (nY hc i j l P er2)
  ·obtain⟨r,v,P,x,T,L⟩:=O i a R;cases r with
   | val d=>cases x;exact λz=>nomatch z
   | own d=>cases x;exact λz=>nomatch z
   | slot j=>
     obtain⟨s',hs,rfl⟩:=f j a x;intro z;by_cases hm:s'.m.mt=true;simp only[hm,if_true]at z;cases z;simp only[hm]at z;have z':s'.m=.own:=z;rw[z']at hm;exact hm rfl
 refine⟨I,λr as' v H2 po nw=>?_⟩;have extA:Ext Z H2:=by
  refine⟨λp xs h=>po.fr p _ h λz=>?_,λp o u h=>po.fr p _ h λz=>?_⟩;obtain⟨i,s,R,m,F⟩:=z;obtain⟨v,e4,r4⟩:=I.rel i s R;rw[F]at e4;cases e4;obtain⟨q,eq,ow⟩:=(cO (hU m)).mp r4;cases eq;obtain⟨o,ho,n1,_⟩:=ow.obj;rw[h]at ho;cases ho;exact n1 _ rfl;obtain⟨i,s,R,m,F⟩:=z;obtain⟨v,e4,r4⟩:=I.rel i s R;rw[F]at e4;cases e4;obtain⟨q,eq,ow⟩:=(cO (hU m)).mp r4;cases eq;obtain⟨o',ho,_,n1⟩:=ow.obj;rw[h]at ho;cases ho;exact n1 _ _ rfl
 have back:∀ (j:Nat) t,(iR rs as' 0 c)[j]? = some (some t)->∃ s,c[j]? = some (some s)/\t.m=s.m/\(t=s\/(s.m.mt=true/\∃ (k:Nat) (a:Sl),rs[k]? = some (.slot j)/\as'[k]? = some a/\t=⟨s.m,a.d⟩)):=λj t g=>by
  rw[jT,a6g]at g;cases q:c[j]? with
  | none=>rw[q]at g;cases g
  | some o=>
    rw[q]at g;cases o with
    | none=>cases g
    | some s=>
      have A:mJ rs as' j (some s)=some t:=a5a g;unfold mJ at A;refine⟨s,rfl,?_⟩;dsimp only at A;split at A;rename_i a ha;obtain⟨W,Q,h2⟩:=fQ ha;have M:=a5a A;by_cases hm:s.m.mt=true;rw[a3Y hm]at M;subst M;exact⟨rfl,.inr ⟨hm,W,a,Q,h2,rfl⟩⟩;rw[a3Z hm]at M;subst M;exact⟨rfl,.inl rfl⟩;cases A;exact⟨rfl,.inl rfl⟩
 have fwd:∀ (j:Nat) s,c[j]? = some (some s)->∃ t,(iR rs as' 0 c)[j]? = some (some t)/\t.m=s.m/\(s.m.mt=false->t=s):=λj s g=>by
  rw[jT,a6g,g];show ∃ t,some (mJ rs as' j (some s))=some (some t)/\_;unfold mJ;dsimp only;split;refine⟨_,rfl,?_,λz=>?_⟩;split<;>rfl;rw[a3Z (by rw[z];exact a1b)];exact⟨s,rfl,rfl,λ_=>rfl⟩
 -- a slot that is handed in by no argument that may change
 have quiet:∀ (j:Nat) s t p,c[j]? = some (some s)->(iR rs as' 0 c)[j]? = some (some t)->t=s->s.m≠.val->σV[j]? = some (some (.ref p))->(∀ k:Nat,s.m.mt=true->rs[k]? ≠ some (.slot j))->¬ bA0 as vs p:=by
  intro j s t p hs _ _ hm F hno ⟨i,a,R,m,evi⟩;obtain⟨r,v,P,x,T,L⟩:=O i a R;rw[evi]at T;cases T;cases r with
  | val d=>cases x;cases m
  | own d=>
    obtain⟨q,B,S,Y,q4⟩:=L;cases B;exact Y ⟨j,s,hs,hm,F⟩
  | slot l=>
    obtain⟨s',G,rfl⟩:=f l a x;have hmt:s'.m.mt=true:=by
     by_cases h':s'.m.mt=true;exact h';simp only[h']at m;exact absurd m h'
    by_cases z:l=j;subst z;rw[hs]at G;cases G;exact hno i hmt P;exact w.dis l j s' s p z G hs hmt hm L.1 F
 have okB:StOk Γ H2 (iR rs as' 0 c) σV:=by
  refine⟨λj t g=>?_,λj l t t' q n g el m m' eq eq'=>?_,λj t q g m eq=>?_,λj t q g m eq=>?_,λa o e n=>?_,λa e=>w.dom a (po.dom a e),by rw[oQ];exact w.len⟩
  ·obtain⟨s,hs,N,hc'⟩:=back j t g;obtain⟨w',ew,rw'⟩:=w.rel j s hs;refine⟨w',ew,?_⟩;by_cases J:s.m.mt=true/\∃ W:Nat,rs[W]? = some (.slot j)
   ·obtain⟨hm,W,hk'⟩:=J;obtain⟨a,ha,hao⟩:=ga W _ hk';obtain⟨v',hv',rv'⟩:=gv W _ hk';have D:σV[j]? = some (some v'):=rv'.1;rw[ew]at D;cases D;obtain⟨s',G,X⟩:=f j a hao;rw[hs]at G;cases G;have am:a.m=.par:=by rw[X,a3Y hm]
    obtain⟨a2,w2,Q,h2,h3,h4⟩:=po.rel W a ha (by rw[am];rfl);rw[hv']at h3;cases h3;have ht:t=⟨s.m,a2.d⟩:=by
     rw[jT,a6g,hs]at g;have A:mJ rs as' j (some s)=some t:=a5a g;unfold mJ at A;dsimp only at A;split at A;rename_i b hb;obtain⟨k2,B,S⟩:=fQ hb;obtain rfl:=nY hc k2 W j B hk';rw[Q]at S;cases S;have:=a5a A;rw[a3Y hm]at this;exact this.symm;rename_i hb
     -- no argument at all: the lists part in length
     exfalso;have:∀ {rs:List Res} {as:List Sl} {kk:Nat} {a:Sl},rs[kk]? = some (.slot j)->as[kk]? = some a->jS j rs as≠none:=by
      intro rs
      induction rs with
      | nil=>intro as kk a h;simp at h
      | cons r rs ih=>
        intro as kk a h h';cases as with
        | nil=>simp at h'
        | cons b as=>
          cases kk with
          | zero=>simp at h;subst h;simp[jS]
          | succ kk=>
            have:=ih (as:=as) (kk:=kk) (a:=a) (by simpa using h) (by simpa using h');cases r with
            | slot i=>simp only[jS];split;exact λz=>nomatch z;exact this
            | val d=>exact this
            | own d=>exact this
     exact this hk' Q hb
    subst ht;have h5:=(cO (s:=a2) (by rw[h2,am];exact λz=>nomatch z)).mp h4;exact(cO (s:=⟨s.m,a2.d⟩) (hU hm)).mpr h5
   ·have ht:t=s:=by
     rcases hc' with h | ⟨hm,W,a,Q,_⟩;exact h;exact absurd ⟨hm,W,Q⟩ J
    rw[ht];refine rw'.mono extA λp o ep m hp=>po.fr p o hp ?_;exact quiet j s t p hs g ht m (by rw[ew,ep]) λW hm hk=>J ⟨hm,W,hk⟩
  ·obtain⟨s,hs,N,_⟩:=back j t g;obtain⟨s',G,mm',_⟩:=back l t' el;exact w.dis j l s s' q n hs G (by rw[← N];exact m) (by rw[← mm'];exact m') eq eq'
  ·obtain⟨s,hs,N,_⟩:=back j t g;exact w.own j s q hs (N.symm.trans m) eq
  ·obtain⟨s,hs,N,_⟩:=back j t g;exact w.par j s q hs (N.symm.trans m) eq
  ·refine po.fr a o (w.keep a o e n) λz=>?_;rcases K a z with⟨j,s,hs,m,F⟩ | ⟨_,_,z0⟩
   ·cases hq:s.m with
    | own=>rw[w.own j s a hs hq F]at e;cases e
    | par=>exact n (w.par j s a hs hq F)
    | val=>rw[hq]at m;cases m
    | lent=>rw[hq]at m;cases m
   ·rw[z0]at e;cases e
 have stB:Step σ σV H (iR rs as' 0 c) σV H2:=by
  refine⟨λa o e n=>?_,λa e=>C.dom a (po.dom a e),λa ⟨j,t,g,m,x⟩=>?_,λa ⟨j,t,g,m,x⟩=>?_,λj t g=>?_,λj t g m=>?_,λj t g m=>?_⟩
  ·refine po.fr a o (C.fr a o e n) λz=>?_;rcases K a z with y | ⟨y,_⟩;rcases C.mu a y with y | y;exact n y;rw[e]at y;cases y;rw[e]at y;cases y
  ·obtain⟨s,hs,N,_⟩:=back j t g;exact C.mu a ⟨j,s,hs,by rw[← N];exact m,x⟩
  ·obtain⟨s,hs,N,_⟩:=back j t g;exact C.nv a ⟨j,s,hs,by rw[← N];exact m,x⟩
  ·obtain⟨s,hs⟩:=C.kp j t g;obtain⟨t',Q,_⟩:=fwd j s hs;exact⟨t',Q⟩
  ·obtain⟨s,hs,B,S,Y⟩:=C.fix j t g m;obtain⟨t',Q,h2,h3⟩:=fwd j s hs;refine⟨t',Q,h2.trans B,λz=>?_,Y⟩;rw[h3 (by rw[B,z];rfl)];exact S z
  ·obtain⟨s,hs,N,_⟩:=back j t g;exact C.lt j s hs (N.symm.trans m)
 refine⟨okB,?_,stB,nw.frh.back C⟩;cases r with
 | val d=>exact nw
 | own d=>
   obtain⟨p,B,S,Y⟩:=nw;refine⟨p,B,Y,λZ0=>?_,w.dom p S⟩;obtain⟨j,t,g,m,x⟩:=Z0;obtain⟨s,hs,N,_⟩:=back j t g;obtain⟨o,ho,_⟩:=w.mutObj ⟨j,s,hs,by rw[← N];exact m,x⟩;rw[S]at ho;cases ho
 | slot i=>exact nw.elim
def bA3{Γ:Gm}{n:Nat}{run:Run}{g:DA}{E:XK}{σV:St}{H:Hp}{Q:VK}(h:dTE Γ (aQ n run g) σV H Q):aN9 (dsp n run) [] E (dTA Γ g) σV H Q:=by
 obtain⟨σ,ok,res,σ',e,k⟩:=h;obtain⟨⟨rs,a⟩,l,e⟩:=bind_some e;obtain⟨as,i,e⟩:=bind_some e;dsimp only at e;split at e
 case isFalse=>cases e
 case isTrue b=>
 obtain⟨⟨r,as'⟩,m,e⟩:=bind_some e;cases e;dsimp only at i b k;refine⟨σ,ok,rs,a,l,λvs o d p f q=>?_⟩;show dsp n run (vs++[]) o Q E;rw[a3g];obtain⟨s,c⟩:=xS i b.2 d p f q;refine⟨as,r,as',s,b.1,m,λv j po t=>?_⟩;obtain⟨u,w,x,y⟩:=c r as' v j po t;exact k v j u w x y
def cB{X:Cx}{e:Expr}{n:Nat}{run:Run}{a:DA}{E:XK}(h:∀ Γ,PE X e (aN9 (dsp n run) [] E (dTA Γ a))):GE X e (aQ n run a):=.mk λΓ=>peW (h Γ) λ_ _ _=>bA3
section
variable{X:Cx}
def nZ(i j:Int):Prop:=bL8 i j\/(Builtin.Int.intBits i<=2 ^ 20/\Builtin.Int.intBits j<=2 ^ 20)
theorem nZ.ok{i j:Int}(h:nZ i j):IntMulOk i j:=by
 rcases h with h | h;exact h.ok;exact IntMulOk.of_bits h.1 h.2
def cK8:OpR X (binaryOp .Mult) (rI nZ λi j=>.int (i*j)):=opI λ_ _ _ _ _ _ _ a q=>PyProof.Rows.mul_int q a.ok
end
noncomputable section
open Classical
noncomputable def ii(f:Int->Int->D):F2:=λd e=>match d,e with
 | .int i,.int j=>some (.val (f i j))
 | _,_=>none
noncomputable def iiC(C:Int->Int->Prop)(f:Int->Int->D):F2:=λd e=>match d,e with
 | .int i,.int j=>if C i j then some (.val (f i j))else none
 | _,_=>none
noncomputable def iu(f:Int->D):F1:=λd=>match d with
 | .int i=>some (.val (f i))
 | _=>none
end
def xT{g:Int->Int->V}{f:Int->Int->D}(h:∀ H i j,Rp H (f i j) (g i j)):pW (rI0 g) (ii f):=by
 intro H c d x y Q res a b e k;unfold ii at e;split at e;cases e;obtain rfl:=cS a;obtain rfl:=cS b;exact⟨_,_,rfl,rfl,k _ H (.refl _) (h H _ _)⟩;cases e
def aC3{C:Int->Int->Prop}{g:Int->Int->V}{f:Int->Int->D}(h:∀ H i j,Rp H (f i j) (g i j)):pW (rI C g) (iiC C f):=by
 intro H d l x y Q res a b e k;unfold iiC at e;split at e;split at e;rename_i c;cases e;obtain rfl:=cS a;obtain rfl:=cS b;exact⟨_,_,rfl,rfl,c,k _ H (.refl _) (h H _ _)⟩;cases e;cases e
noncomputable def cK9:F2:=ii λi j=>.int (i-j)
noncomputable def aP9:F2:=iiC (λ_ j=>0 < j) λi j=>.int (i % j)
noncomputable def dD8:F2:=iiC cU0 λi j=>.int (i ^ j.toNat)
noncomputable def ltI:F2:=ii λi j=>.bl (decide (i < j))
noncomputable def leI:F2:=ii λi j=>.bl (decide (i<=j))
noncomputable def gtI:F2:=ii λi j=>.bl (decide (j < i))
noncomputable def geI:F2:=ii λi j=>.bl (decide (j<=i))
def cL0:pW (rI0 λi j=>.int (i-j)) cK9:=xT λ_ _ _=>.int _
def cL1:pW (rI (λ_ j=>0 < j) λi j=>.int (i % j)) aP9:=aC3 λ_ _ _=>.int _
def cL2:pW (rI cU0 λi j=>.int (i ^ j.toNat)) dD8:=aC3 λ_ _ _=>.int _
def aC4:pW (rI0 λi j=>.bl (decide (i < j))) ltI:=xT λ_ _ _=>.bl _
def aC5:pW (rI0 λi j=>.bl (decide (i<=j))) leI:=xT λ_ _ _=>.bl _
def bA4:pW (rI0 λi j=>.bl (decide (j < i))) gtI:=xT λ_ _ _=>.bl _
def cL3:pW (rI0 λi j=>.bl (decide (j<=i))) geI:=xT λ_ _ _=>.bl _
section
variable{X:Cx}{pins:List (Addr×Obj)}{σ:St}{H:Hp}{s:Shared}{l:Addr}{xs:List V}
def vI(I:Inv X pins σ H s)(h:cY H l=some (true,xs)):xs.length<=sizeLine/\∃ (its:List Value) (n:Nat),bN xs its/\xs.length=its.length/\s.heap.get? l=some {cls:=.type "list",data:=.seq its.toArray n}:=by
 unfold cY at h;split at h;rename_i e;cases h;exact I.lstM e;cases h;rename_i o ys e;cases h;obtain⟨_,z,its,n,r,e⟩:=I.hok l _ e;exact⟨z,its,n,r,r.length,e⟩;cases h
end
def dD9:R2:=λx y H Q=>∃ l b xs zs,x=.ref l/\y=.ref b/\cY H l=some (true,xs)/\cY H b=some (true,zs)/\xs.length+zs.length<=sizeLine/\∀ p,H p=none->Q (.ref p) (upd H p (.lst (xs++zs)))
def cL4{X:Cx}:OpR X (binaryOp .Add) dD9:=by
 intro pins s σ H x y v u Q I c d h;obtain⟨l,b,xs,zs,rfl,rfl,f,g,o,q⟩:=h;cases c;cases d;obtain⟨z,its,n,r,hl,e⟩:=vI I f;obtain⟨p,a,n2,i,j,k⟩:=vI I g;refine PySem.P.add_list e k ?_ (by rw[a8a,a8a];lia);have m:its.toArray++a.toArray=(its++a).toArray:=by simp
 rw[m];exact⟨.ref _,_,I.lnew (t':=s.toks) (r.append i) (by rw[a0c];lia),rfl,q _ I.fresh⟩
def dE0:R2:=λx y H Q=>bO0 x y H Q\/dD9 x y H Q
def cL5{X:Cx}:OpR X (binaryOp .Add) dE0:=gY.or cL4
noncomputable def hW:F2:=λd e=>match d,e with
 | .int i,.int j=>some (.val (.int (i+j)))
 | .str a,.str b=>if a.length+b.length<=sizeLine then some (.val (.str (a++b)))else none
 | .lst l,.lst m=>if l.length+m.length<=sizeLine then some (.own (.lst (l++m)))else none
 | .tup l,.tup m=>if l.length+m.length<=sizeLine then some (.val (.tup (l++m)))else none
 | _,_=>none
def bA5{H:Hp}{p:Addr}{xs:List V}{l:List D}(a:H p=none)(r:Rps H l xs):xJ H (upd H p (.lst xs)) (.own (.lst l)) (.ref p):=⟨p,rfl,a,xs,aE,r.mono (.same (bE a))⟩
def aC6{H:Hp}{p:Addr}{xs:List V}{l:List D}(a:H p=none)(r:Rps H l xs):xJ H (upd H p (.tup xs)) (.val (.tup l)) (.ref p):=.tup aE (r.mono (.same (bE a)))
def cL6:pW dE0 hW:=by
 intro H o s x y Q res c d e k;unfold hW at e;split at e;cases e;obtain rfl:=cS c;obtain rfl:=cS d;exact .inl (k _ H (.refl _) (.int _));split at e;rename_i hl;cases e;obtain rfl:=jO c;obtain rfl:=jO d;exact .inl ⟨hl,k _ H (.refl _) (.str _)⟩;cases e;split at e;rename_i l m hl;cases e;obtain⟨p,xs,rfl,f,a⟩:=gZ c;obtain⟨q,ys,rfl,g,b⟩:=gZ d;have:=a.length;have:=b.length;exact .inr ⟨p,q,xs,ys,rfl,rfl,f,g,by lia,λr hr=>k _ _ (bE hr) (bA5 hr (a.append b))⟩;cases e
 ·split at e;rename_i l m hl;cases e;obtain⟨p,xs,rfl,f,a⟩:=fV c;obtain⟨q,ys,rfl,g,b⟩:=fV d;have j:=a.length;have n:=b.length;refine .inl (.inr ⟨xs,ys,bK f,bK g,by lia,λh=>?_,λh i=>?_,λh i r hr=>k _ _ (bE hr) (aC6 hr (a.append b))⟩);subst h;have:l=[]:=a7e j;subst this;exact k _ H (.refl _) (.tup g b);subst i;have:m=[]:=a7e n;subst this;rw[a3g]at k;exact k _ H (.refl _) (.tup f a);cases e
 ·cases e
noncomputable section
open Classical
noncomputable def lM:F2:=λd e=>match d,e with
 | .int i,.int j=>if nZ i j then some (.val (.int (i*j)))else none
 | .str z,.int i=>if z.length<=1000/\0<=i/\i<=1000 then some (.val (.str (Txt.mul z i)))else none
 | _,_=>none
end
def dE1:R2:=λx y H Q=>rI nZ (λi j=>.int (i*j)) x y H Q\/bN7 x y H Q
def cL7{X:Cx}:OpR X (binaryOp .Mult) dE1:=cK8.or aH3
def cL8:pW dE1 lM:=by
 intro H d f x y Q res b c e k;unfold lM at e;split at e;split at e;rename_i a;cases e;obtain rfl:=cS b;obtain rfl:=cS c;exact .inl ⟨_,_,rfl,rfl,a,k _ H (.refl _) (.int _)⟩;cases e;split at e;rename_i a;cases e;obtain rfl:=jO b;obtain rfl:=cS c;exact .inr ⟨a.1,a.2.1,a.2.2,λy _ e=>by subst e;exact k _ H (.refl _) (.str _)⟩;cases e;cases e
noncomputable def ixD:F2:=λd e=>match d,e with
 | .lst l,.int i=>(atI l i).map .val
 | .tup l,.int i=>(atI l i).map .val
 | .str z,.int i=>if z.length<=sizeLine then(atI z.cps.toList i).map λc=>.val (.str ⟨#[c]⟩)else none
 | _,_=>none
theorem Rps.atI{H:Hp}{l:List D}{xs:List V}{i:Int}{d:D}(r:Rps H l xs)(h:L2.atI l i=some d):∃ x,L2.atI xs i=some x/\Rp H d x:=by
 unfold L2.atI at h ⊢;obtain⟨j,a,b⟩:=bind_some h;rw[← r.length,a];exact r.get b
def dE2:pW dM8 ixD:=by
 intro H m n x y Q res f g e k;unfold ixD at e;split at e;obtain rfl:=cS g;obtain⟨p,xs,rfl,h,i⟩:=gZ f;obtain⟨d,a,b⟩:=a0d.mp e;cases b;obtain⟨x,j,r⟩:=i.atI a;exact⟨x,dS h j,k _ H (.refl _) r⟩;obtain rfl:=cS g;obtain⟨p,xs,rfl,h,i⟩:=fV f;obtain⟨d,a,b⟩:=a0d.mp e;cases b;obtain⟨x,j,r⟩:=i.atI a;exact⟨x,dS (bK h) j,k _ H (.refl _) r⟩;split at e;rename_i l;obtain rfl:=cS g;obtain rfl:=jO f;obtain⟨c,a,b⟩:=a0d.mp e;cases b;exact⟨_,cH8 l a,k _ H (.refl _) (.str _)⟩;cases e;cases e
def dO5{X:Cx}{a b:Expr}{c d:DE}{pos:Pos}(ha:GE X a c)(e:GE X b d)(hs:aV1 b):GE X (.Subscript a b pos) (aR ixD c d):=.mk λΓ=>peW (jC wI (ha.to Γ) (e.to Γ) hs) λ_ _ _=>pX dE2
noncomputable def vJ:FN:=λa=>match a with
 | [.lst l]=>some (.val (.int l.length))
 | [.tup l]=>some (.val (.int l.length))
 | [.str z]=>if z.length<=sizeLine then some (.val (.int z.length))else none
 | _=>none
def bL2{H:Hp}{d:D}{vs:List V}(h:Vws H [d] vs):∃ x,vs=[x]/\Vw H d x:=by
 cases h with
 | cons a t=>cases t;exact⟨_,rfl,a⟩
def dS3{H:Hp}{d e:D}{vs:List V}(h:Vws H [d,e] vs):∃ x y,vs=[x,y]/\Vw H d x/\Vw H e y:=by
 cases h with
 | cons a t=>
   obtain⟨y,rfl,b⟩:=bL2 t;exact⟨_,_,rfl,a,b⟩
def cL9:cA8 bN0 vJ:=by
 intro H d vs Q res vw e k;unfold vJ at e;split at e;cases e;obtain⟨x,rfl,v⟩:=bL2 vw;obtain⟨p,xs,rfl,a,b⟩:=gZ v;refine⟨_,_,rfl,uW a,?_⟩;rw[← b.length];exact k _ H (.refl _) (.int _);cases e;obtain⟨x,rfl,v⟩:=bL2 vw;obtain⟨p,xs,rfl,a,b⟩:=fV v;refine⟨_,_,rfl,uW (bK a),?_⟩;rw[← b.length];exact k _ H (.refl _) (.int _);split at e;rename_i c;cases e;obtain⟨x,rfl,v⟩:=bL2 vw;obtain rfl:=jO v;exact⟨_,_,rfl,bN3 c,k _ H (.refl _) (.int _)⟩;cases e;cases e
noncomputable def bQ9(l:List D)(lo hi:Option Int):List D:=(l.drop (HT.sIx l.length 0 lo)).take (HT.sIx l.length l.length hi-HT.sIx l.length 0 lo)
def Rps.cut{H:Hp}{l:List D}{xs:List V}(r:Rps H l xs)(lo hi:Option Int):Rps H (bQ9 l lo hi) (pS xs lo hi):=by
 unfold bQ9 pS;rw[r.length];exact(r.drop _).take _
def bA6{xs:List V}{lo hi:Option Int}(h:HT.sIx xs.length 0 lo=0/\HT.sIx xs.length xs.length hi=xs.length):pS xs lo hi=xs:=by
 unfold pS;rw[h.1,h.2];simp
end Dv
namespace HT
open PySem PySem.Spec PyProof.Rows
section
variable{prog:Program}{w:World}{A:Around}{E:Value->Shared->Prop}{s:Shared}
def getItem_tuple_all{t sl:Addr}{items:Array Value}{f g:Value}{lo hi:Option Int}{Q:Value->Shared->Prop}(a:IsTup s.heap t items)(hs:s.heap.IsSliceOf sl f g .none)(pl:IsPart f lo)(j:IsPart g hi)
  (i:sIx items.size 0 lo=0/\sIx items.size items.size hi=items.size) (h:Q (.ref t) s):wpAny (model prog w) A (getItem (.ref t) (.ref sl)) Q E s:=by
 obtain⟨os,c,d,k⟩:=id hs;have e:s.TypeIs (.ref sl) "slice":=⟨os,c,d⟩;unfold getItem
 try with_reducible refine a4l ?_
 first | refine a3W (a3X ?_) | skip
 refine a3W (wpAny_sequenceKey a.typeIs (by decide) ?_);refine a3W (wpAny_callSpecial?_slot (name:=Str.ofString "__getitem__") a.typeIs a5e
  (a4r a5e a.typeIs entry_tuple_getitem ?_ (args_tuple_getitem _ _)))
 show wpAny _ _ (Builtin.Tuple.tupleItemsOf (.ref t) >>= _) _ _ s;refine a3W (tupleItemsOf_ a ?_);refine a3W (a4D e ?_);rw[a3Y (by decide)];refine a3W (iW hs pl j ?_);have b:(((sIx items.size 0 lo:Nat):Int)==0&&(1:Int)==1&&(sIx items.size items.size hi-sIx items.size 0 lo)==items.size)=true:=by
  rw[i.1,i.2];simp
 show wpAny _ _ (if(((sIx items.size 0 lo:Nat):Int)==0&&(1:Int)==1&&(sIx items.size items.size hi-sIx items.size 0 lo)==items.size)=true then _ else _) _ _ s;rw[a3Y b];refine a3W ?_;unfold Builtin.Tuple.tupleIsExact;refine a3W (a4D a.typeIs (a3X ?_));rw[a3Y (by decide)];refine a3W (a4S ?_);exact a3X ⟨_,rfl,a3X h⟩
end
end HT
namespace Dv
open PySem L2
def dS4:V->Option Int->Option Int->Hp->VK->Prop:=λx lo hi H Q=>match x with
 | .str z=>z.length<=sizeLine/\Q (.str (Txt.slice z lo hi)) H
 | .ref p=>(∃ xs,cY H p=some (true,xs)/\∀ r,H r=none->Q (.ref r) (upd H r (.lst (pS xs lo hi)))) \/
   ∃ xs,cY H p=some (false,xs)/\(pS xs lo hi=xs->Q (.ref p) H)/\∀ r,H r=none->Q (.ref r) (upd H r (.tup (pS xs lo hi)))
 | _=>False
def dU8{X:Cx}:SlR X dS4:=by
 intro pins s σ H x v d e lo hi sl Q I b hs pl c h;unfold dS4 at h;split at h;rename_i z;exact bZ5 pins s σ H _ v d e lo hi sl Q I b hs pl c h
 ·rename_i p;rcases h with h | ⟨xs,g,j,k⟩;exact bZ5 pins s σ H _ v d e lo hi sl Q I b hs pl c (.inl h);by_cases f:HT.sIx xs.length 0 lo=0/\HT.sIx xs.length xs.length hi=xs.length
  ·cases b;obtain⟨its,r,i,l⟩:=I.tuple (cP g);have a:its.toArray.size=xs.length:=by rw[a8a];exact r.length.symm
   refine⟨"tuple",_,a5e.lookup,i.typeIs,?_⟩;exact HT.getItem_tuple_all i hs pl c (by rw[a];exact f) ⟨.ref p,H,I,rfl,j (bA6 f)⟩
  ·exact bZ5 pins s σ H _ v d e lo hi sl Q I b hs pl c (.inr ⟨xs,g,f,k⟩)
 ·exact h.elim
abbrev DO:=Sg->Option (Option Int×Sg)
def dTO(Γ:Gm)(r:DO):TO:=λσV H Q=>∃ σ,StOk Γ H σ σV/\∃ o σ',r σ=some (o,σ')/\∀ H',StOk Γ H' σ' σV->Step σ σV H σ' σV H'->Q o H'
structure GO(X:Cx)(e:Option Expr)(r:DO):Prop where
 to:∀ Γ,PO X e (dTO Γ r)
def poW{X:Cx}{e:Option Expr}{t t':TO}(h:PO X e t)(w:∀ σ H Q,t' σ H Q->t σ H Q):PO X e t':=λpins s σ H Q I q=>h pins s σ H Q I (w σ H Q q)
noncomputable def bA7:DO:=λσ=>some (none,σ)
noncomputable def dP(r:DE):DO:=λσ=>(r σ).bind λx=>(rd x.2 x.1).bind λd=>match d with
 | .int i=>some (some i,x.2)
 | _=>none
def cM0{X:Cx}:GO X none bA7:=.mk λΓ=>poW nQ λσV H Q Z1=>by obtain⟨σ,ok,o,σ',e,k⟩:=Z1;cases e;exact k H ok .refl
def cM1{X:Cx}{e:Expr}{r:DE}(h:GE X e r):GO X (some e) (dP r):=.mk λΓ=>poW (nR (h.to Γ)) λσV H Q ⟨σ,ok,o,σ',e,k⟩=>by
 obtain⟨⟨x,c⟩,f,e⟩:=bind_some e;obtain⟨d,g,e⟩:=bind_some e;dsimp only at e;split at e;cases e;exact⟨σ,ok,x,_,f,λv i a j b _=>⟨_,cS (j.vw a g),k i a b⟩⟩;cases e
noncomputable def slD(d:D)(lo hi:Option Int):Option Res:=match d with
 | .str z=>if z.length<=sizeLine then some (.val (.str (Txt.slice z lo hi)))else none
 | .lst l=>some (.own (.lst (bQ9 l lo hi)))
 | .tup l=>some (.val (.tup (bQ9 l lo hi)))
 | _=>none
noncomputable def dSl(r:DE)(a b:DO):DE:=λσ=>(r σ).bind λx=>(a x.2).bind λy=>(b y.2).bind λz=>(rd z.2 x.1).bind λd=>(slD d y.1 z.1).bind λw=>some (w,z.2)
def bR0{X:Cx}{e:Expr}{lo hi:Option Expr}{B pos:Pos}{r:DE}{a b:DO}(C:GE X e r)(ha:GO X lo a)(D:GO X hi b):GE X (.Subscript e (.Slice lo hi none B) pos) (dSl r a b):=.mk λΓ=>peW (kA dU8 (C.to Γ) (ha.to Γ) (D.to Γ)) λσV H Q ⟨σ,ok,res,σ',e,k⟩=>by
 obtain⟨⟨x,i⟩,E,e⟩:=bind_some e;obtain⟨⟨lo,j⟩,F,e⟩:=bind_some e;obtain⟨⟨hi,y⟩,G,e⟩:=bind_some e;obtain⟨d,I,e⟩:=bind_some e;obtain⟨w,c,e⟩:=bind_some e;cases e;refine⟨σ,ok,x,i,E,λv M l J m _=>⟨i,l,lo,j,F,λN n f=>⟨j,n,hi,y,G,λs g h=>?_⟩⟩⟩;have vw:=((J.step l f).step n h).vw g I;have fin:∀ v H',nT s H'->xJ s H' res v->Q v H':=λv H' z A=>k v H' (g.same z) (A.res g) (((m.trans f).trans h).trans (.same z)) (A.frh.back ((m.trans f).trans h));dsimp only at c;unfold slD at c;split at c;split at c;rename_i K;cases c;obtain rfl:=jO vw;exact⟨K,fin _ s (.refl _) (.str _)⟩;cases c;cases c;obtain⟨p,xs,rfl,t,u⟩:=gZ vw;exact .inl ⟨xs,t,λq o=>fin _ _ (bE o) (bA5 o (u.cut lo hi))⟩;cases c;obtain⟨p,xs,rfl,t,u⟩:=fV vw;refine .inr ⟨xs,bK t,λL=>fin _ s (.refl _) ?_,λq o=>fin _ _ (bE o) (aC6 o (u.cut lo hi))⟩;have:=u.cut lo hi;rw[L]at this;exact .tup t this;cases c
noncomputable def bA8:FN:=λa=>match a with
 | [.int i,.int j]=>some (.val (.int (if j > i then j else i)))
 | _=>none
noncomputable def xU:FN:=λa=>match a with
 | [.int i,.int j]=>some (.val (.int (if j < i then j else i)))
 | _=>none
def bR1:cA8 (λxs H Q=>∃ i j,xs=[.int i,.int j]/\Q (.int (if j > i then j else i)) H) bA8:=by
 intro H c vs Q res vw e k;unfold bA8 at e;split at e;cases e;obtain⟨x,y,rfl,a,b⟩:=dS3 vw;obtain rfl:=cS a;obtain rfl:=cS b;exact⟨_,_,rfl,k _ H (.refl _) (.int _)⟩;cases e
def bR2:cA8 (λxs H Q=>∃ i j,xs=[.int i,.int j]/\Q (.int (if j < i then j else i)) H) xU:=by
 intro H c vs Q res vw e k;unfold xU at e;split at e;cases e;obtain⟨x,y,rfl,a,b⟩:=dS3 vw;obtain rfl:=cS a;obtain rfl:=cS b;exact⟨_,_,rfl,k _ H (.refl _) (.int _)⟩;cases e
noncomputable def cM2:FN:=λa=>match a with
 | [.int i]=>some (.val (.int i))
 | [.bl b]=>some (.val (.int (if b then 1 else 0)))
 | _=>none
def cM3:cA8 (λxs H Q=>(∃ i,xs=[.int i]/\Q (.int i) H)\/∃ k,xs=[.bl k]/\Q (.int (if k then 1 else 0)) H) cM2:=by
 intro H b vs Q res vw e k;unfold cM2 at e;split at e;cases e;obtain⟨x,rfl,a⟩:=bL2 vw;obtain rfl:=cS a;exact .inl ⟨_,rfl,k _ H (.refl _) (.int _)⟩;cases e;obtain⟨x,rfl,a⟩:=bL2 vw;obtain rfl:=xL a;exact .inr ⟨_,rfl,k _ H (.refl _) (.int _)⟩;cases e
noncomputable def bA9:FN:=λa=>match a with
 | [.lst l]=>some (.val (.tup l))
 | [.tup l]=>some (.val (.tup l))
 | _=>none
def cM4:cA8 cI2 bA9:=by
 intro H f vs Q res vw e k;unfold bA9 at e;split at e;cases e;obtain⟨x,rfl,a⟩:=bL2 vw;obtain⟨p,xs,rfl,b,c⟩:=gZ a;exact⟨p,true,xs,rfl,b,λq d=>k _ _ (bE d) (aC6 d c)⟩;cases e;obtain⟨x,rfl,a⟩:=bL2 vw;obtain⟨p,xs,rfl,b,c⟩:=fV a;exact⟨p,false,xs,rfl,bK b,k _ H (.refl _) (.tup b c)⟩;cases e
noncomputable def dO6:D->String
 | .non=>"NoneType"
 | .bl _=>"bool"
 | .int _=>"int"
 | .str _=>"str"
 | .lst _=>"list"
 | .tup _=>"tuple"
 | .dic _ _=>"dict"
noncomputable def bR3(c:String):F1:=λd=>match d with
 | .dic _ _=>none
 | d=>some (.val (.bl (qO (dO6 d) c)))
def cM5:V->List V->Hp->VK->Prop:=λx vs H Q=>∃ i:Int,x=.int i/\vs=[]/\Q (.int (Builtin.Int.intBits i)) H
def cM6{X:Cx}:MtR X "int.bit_length" cM5:=by
 intro pins s σ H x vs v us Q I a b h;obtain⟨i,rfl,rfl,q⟩:=h;obtain⟨t,rfl⟩:=a;cases b;exact PyProof.Rows.call_int_bit_length ⟨.int _,H,I.tok _,⟨_,rfl⟩,q⟩
noncomputable def cU3:F1:=iu λi=>.int (Builtin.Int.intBits i)
def cM7{X:Cx}{e:Expr}{r:DE}(K:W.Frag)(h:∀ Γ,PE X e (dK2 K "int" cM5 (dTE Γ r))):GE X e (aB6 cU3 r):=.mk λΓ=>peW (h Γ) λσV H Q a=>by
 have b:dK5 (λx H Q=>tyV K "int" x H/\cM5 x [] H Q) cU3:=by
  intro H d x Q res c e k;unfold cU3 iu at e;split at e;cases e;obtain rfl:=cS c;exact⟨rfl,_,rfl,rfl,k _ H (.refl _) (.int _)⟩;cases e
 exact aI2 b a
noncomputable def cM8:FM:=λd a=>match d,a with
 | .lst l,[e]=>if l.length < sizeLine then some (.lst (l++[e]),.non)else none
 | _,_=>none
def qW{H:Hp}{l:List D}{p:Addr}(h:dW H (.lst l) p):∃ xs,H p=some (.lst xs)/\Rps H l xs:=h
def cM9:dO3 aV3 cM8:=by
 intro H d p g vs Q d' e ow r b k;unfold cM8 at b;split at b
 ·split at b
  ·rename_i l x hl;cases b;obtain⟨xs,f,c⟩:=qW ow;cases r with
   | cons a t=>
     cases t;exact⟨p,xs,_,rfl,rfl,f,by rw[← c.length];exact hl,k _ _ ⟨_,aE,(c.append (.cons a .nil)).mono (dW.ext ow)⟩ .non⟩
  ·cases b
 ·cases b
noncomputable def cN0:FM:=λd a=>match d,a with
 | .lst l,[.lst m]=>if l.length+m.length<=sizeLine then some (.lst (l++m),.non)else none
 | _,_=>none
def dE3:V->List V->Hp->VK->Prop:=λx vs H Q=>∃ l b xs zs,x=.ref l/\vs=[.ref b]/\H l=some (.lst xs)/\cY H b=some (true,zs)/\xs.length+zs.length<=sizeLine/\Q .non (upd H l (.lst (xs++zs)))
def cN1{X:Cx}:MtM X "list.extend" dE3:=by
 intro pins s σ H x vs v us Q I g i h;obtain⟨l,b,xs,zs,rfl,rfl,f,j,t,q⟩:=h;cases g;obtain⟨u,rfl,k⟩:=i.one;cases k;obtain⟨z,its,n,r,hl,e⟩:=I.lstM f;obtain⟨w,a,n2,m,o,p⟩:=vI I j;have d:its.toArray.size+a.toArray.size<=sizeLine:=by rw[a8a,a8a];lia
 have c:¬ (!its.toArray.isEmpty&&Builtin.List.listTooLong (its.toArray.size+a.toArray.size))=true:=by
  rw[aG8 d,Bool.and_false];exact a1b
 refine a4T F.slot_list_extend ⟨_,e,rfl⟩ F.entry_list_extend (F.args_list_extend_2 _ _)
  (AutoSeq1.list_extend_list_list_0 l its.toArray n b a.toArray n2 c (by rw[a8a];lia) (by lia)) ⟨e,p,?_⟩
 refine⟨.non,_,I.lset (its':=its++a) f e (by simp) (r.append m) ?_,rfl,q⟩;rw[a0c];lia
def cN2:dS1 dE3 cN0:=by
 intro H d p i vs Q d' e ow r b k;unfold cN0 at b;split at b;split at b;rename_i l m hl;cases b;obtain⟨xs,g,c⟩:=qW ow;obtain⟨x,rfl,a⟩:=bL2 r;obtain⟨q,ys,rfl,h,f⟩:=gZ a;have:=c.length;have:=f.length;exact⟨p,q,xs,ys,rfl,rfl,g,h,by lia,k _ _ ⟨_,aE,(c.append f).mono (dW.ext ow)⟩ .non⟩;cases b;cases b
noncomputable def dK8(i:Int)(e:D):D->Option D
 | .lst l=>(ixN l.length i).map λj=>.lst (l.set j e)
 | _=>none
noncomputable def cB0(k:Nat)(ri c:DE):DS:=λσ=>(c σ).bind λx=>match x.1 with
 | .val d=>if aB8 "list" k x.2=true then(ri x.2).bind λy=>(rd y.2 y.1).bind λe=>match e with
   | .int i=>(bP7 (λa _=>(dK8 i d a).map λb=>(b,.non)) k [] y.2).bind λz=>some (.nx z.2)
   | _=>none else none
 | _=>none
def dE4{X:Cx}{E:Ex}{st:Stmt}{k:Nat}{ri G:DE}(h:∀ Γ,PS X st (cG1 (dTE Γ G) (dM0 (bL6 k) (dTE Γ ri) cH0))):GS E X st (cB0 k ri G):=.mk λΓ=>psW (h Γ) λD σV H ⟨σ,ok,o,e,L⟩=>by
 obtain⟨⟨x,f⟩,M,e⟩:=bind_some e;refine⟨σ,ok,x,f,M,λv H1 g N u f1=>?_⟩;cases x with
 | own d=>cases e
 | slot d=>cases e
 | val d=>
   have c:(if aB8 "list" k f=true then(ri f).bind λy=>(rd y.2 y.1).bind λI=>match I with
    | .int i=>(bP7 (λa _=>(dK8 i d a).map λb=>(b,.non)) k [] y.2).bind λz=>some (.nx z.2)
    | _=>none else none)=some o:=e
   split at c
   ·rename_i hn;obtain⟨⟨y,w⟩,O,c⟩:=bind_some c;obtain⟨I,P,c⟩:=bind_some c;obtain⟨s0,A,B,Q⟩:=vF hn;obtain⟨p,ep,ow⟩:=g.ownAt A B;dsimp only at c;split at c
    ·rename_i i;obtain⟨⟨z,R⟩,S,c⟩:=bind_some c;cases c;obtain⟨s,d',y',hs,hm,T,rfl,rfl⟩:=mF S;obtain⟨b,J,U⟩:=a0d.mp T;cases U;refine⟨_,ep,f,g,y,w,O,λvi V n W q f2=>?_⟩;obtain rfl:=cS (W.vw n P);obtain⟨p',r,t⟩:=n.ownAt hs (hU hm);rw[ep]at r;cases r;have Y:Rp V d v:=Rp.mono (q.ext g) N;obtain⟨m,Z⟩:=s;cases Z with
     | lst l=>
       obtain⟨j,e8,e9⟩:=a0d.mp J;cases e9;obtain⟨xs,h1,K⟩:=qW t;refine⟨p,xs,i,j,rfl,rfl,h1,by rw[← K.length];exact e8,?_⟩;obtain⟨C,F⟩:=n.write (d':=.lst (l.set j d)) (o':=.lst (xs.set j v)) hs hm ep ⟨_,aE,(K.set j Y).mono (dW.ext t)⟩;exact L _ _ C ((u.trans q).trans F)
     | _=>cases J
    ·cases c
   ·cases c
noncomputable def isD(neg:Bool):F2:=λd e=>match e with
 | .non=>some (.val (.bl (if neg then !decide (d=.non)else decide (d=.non))))
 | .bl b=>(match d with | .bl a=>some (.val (.bl (if neg then !decide (a=b)else decide (a=b)))) | _=>none)
 | _=>none
def aQ0{H:Hp}{d:D}{v:V}(h:Vw H d v):decide (v=.non)=decide (d=.non):=by
 rcases h with h | ⟨p,rfl,h⟩;cases h<;>simp;cases d<;>first | exact h.elim | simp
def dE5{neg:Bool}:pW (dN3 neg) (isD neg):=by
 intro H c d x y Q res a b e k;unfold isD at e;split at e;cases e;obtain rfl:=aY9 b;show Q (.bl (if neg then !decide (x=.non)else decide (x=.non))) H;rw[aQ0 a];exact k _ H (.refl _) (.bl _);split at e;cases e;obtain rfl:=xL b;obtain rfl:=xL a;exact k _ H (.refl _) (.bl _);cases e;cases e
def aQ1(i j:Int):Prop:=0 < j/\j < 18446744073709551616
def bR4{X:Cx}:OpR X (binaryOp .FloorDiv) (rI aQ1 λi j=>.int (i / j)):=opI λi j _ _ _ _ _ a q=>by
 have c:(0:Int) < j:=a.1;have d:j < 18446744073709551616:=a.2;refine PyProof.Rows.floordiv_int (by lia) (by rw[Int.fdiv_eq_ediv_of_nonneg i (by lia)];exact q) (.inl (PyProof.noPylong_of_log2 ?_));have h0:j.natAbs≠0:=by lia
 have b:j.natAbs.log2 < 64:=(Nat.log2_lt h0).mpr (by lia);lia
noncomputable def bL3:F2:=iiC aQ1 λi j=>.int (i / j)
def cN3:pW (rI aQ1 λi j=>.int (i / j)) bL3:=aC3 λ_ _ _=>.int _
mutual
def pL:D->PyData
 | .non=>.none
 | .bl b=>.bool b
 | .int i=>.int i
 | .str x=>.str x
 | .tup l=>.tuple (toPys l)
 | .lst l=>.list (toPys l)
 | .dic _ _=>.dict []
def toPys:List D->List PyData
 | []=>[]
 | d::r=>pL d::toPys r
end
section
variable{X:Cx}{pins:List (Addr×Obj)}{σ:St}{H:Hp}{s:Shared}
mutual
theorem aI6(I:Inv X pins σ H s):∀ {d:D} {v:V} {u:Value},Rp H d v->dM v u->(pL d).canLay0=true->∃ as,Reads s.heap u (pL d) as
 | _,_,_,.non,r,_=>by cases r;exact⟨_,.none⟩
 | _,_,_,.bl b,r,_=>by cases r;exact⟨_,.bool b⟩
 | _,_,_,.int i,r,_=>by obtain⟨t,rfl⟩:=r;exact⟨_,.int i t⟩
 | _,_,_,.str x,r,_=>by obtain⟨t,rfl⟩:=r;exact⟨_,.str x t⟩
 | _,_,_,.tup h rs,r,a=>by
   cases r;obtain⟨_,its,c,⟨o,j,f,n,hd⟩,_⟩:=I.hok _ _ h;obtain⟨as,g⟩:=rps_reads I rs c a;exact⟨_,.tuple j f hd (by simpa using g)⟩
 | _,_,_,.lst h rs,r,a=>by
   cases r;obtain⟨_,_,its,n,c,e⟩:=I.hok _ _ h;obtain⟨as,g⟩:=rps_reads I rs c a;exact⟨_,.list e rfl rfl (by simpa using g)⟩
 | _,_,_,.dic h k rs,r,a=>nomatch a
theorem rps_reads(I:Inv X pins σ H s):∀ {l:List D} {vs:List V} {us:List Value},Rps H l vs->bN vs us->PyData.canLayAll0 (toPys l)=true->∃ as,ReadsAll s.heap us (toPys l) as
 | [],_,_,.nil,r,_=>by cases r;exact⟨_,.nil⟩
 | d::l,_,_,.cons a t,r,c=>by
   cases r with
   | cons e f=>
     have b:(pL d).canLay0=true/\PyData.canLayAll0 (toPys l)=true:=by simpa[toPys,PyData.canLayAll0]using c
     obtain⟨as,g⟩:=aI6 I a e b.1;obtain⟨bs,h⟩:=rps_reads I t f b.2;exact⟨_,.cons g h⟩
end
def kI(I:Inv X pins σ H s){d:D}{v:V}{u:Value}(h:Vw H d v)(r:dM v u)(a:(pL d).canLay0=true):∃ as,Reads s.heap u (pL d) as:=by
 rcases h with h | ⟨p,rfl,h⟩;exact aI6 I h r a;cases r;cases d with
 | lst l=>
   obtain⟨xs,b,c⟩:=qW h;obtain⟨_,its,n,f,e⟩:=I.hok _ _ b;obtain⟨as,g⟩:=rps_reads I c f a;exact⟨_,.list e rfl rfl (by simpa using g)⟩
 | dic ks vs=>exact nomatch a
 | _=>exact h.elim
end
noncomputable def aI7(d e:D):Bool:=PyData.eqv (pL d) (pL e)
noncomputable def iS(d:D):Bool:=(pL d).canLay0&&decide ((pL d).depth<=60)
def dS5(neg:Bool):R2:=λx y H Q=>∃ d e,Vw H d x/\Vw H e y/\iS d=true/\iS e=true/\Q (.bl (if neg then !aI7 d e else aI7 d e)) H
def eS{d:D}(h:iS d=true):(pL d).canLay0=true/\(pL d).depth<=60:=by
 unfold iS at h;rw[a6d,a4o]at h;exact h
def cB1{X:Cx}(l:X.A.units+64 < cLine):OpR X (compareOp .Eq) (dS5 false):=by
 intro pins s σ H x y v u Q I a b h;obtain⟨d,e,c,f,g,i,q⟩:=h;obtain⟨a1,m⟩:=eS g;obtain⟨a2,n⟩:=eS i;obtain⟨as,j⟩:=kI I c a a1;obtain⟨bs,k⟩:=kI I f b a2;exact SeqAt.rcAt_reads j k a1 a2 (by lia) _ _ _ _ ⟨.bl _,H,I,rfl,q⟩
noncomputable def eqD(neg:Bool):F2:=λd e=>if iS d=true/\iS e=true then some (.val (.bl (if neg then !aI7 d e else aI7 d e)))else none
def cB2{neg:Bool}:pW (dS5 neg) (eqD neg):=by
 intro H b c x y Q res d f e k;unfold eqD at e;split at e;rename_i a;cases e;exact⟨b,c,d,f,a.1,a.2,k _ H (.refl _) (.bl _)⟩;cases e
def dO7(neg:Bool):R2:=λx y H Q=>(∃ i j,x=.str i/\y=.str j/\Q (.bl (if neg then(Builtin.Str.occurrences j i 0 j.length 1).isEmpty else !(Builtin.Str.occurrences j i 0 j.length 1).isEmpty)) H) \/
 ∃ d e b l,Vw H d x/\Vw H e y/\bL1 e=some (b,l)/\iS d=true/\iS e=true/\Q (.bl (if neg then !(l.any λy=>aI7 y d)else l.any λy=>aI7 y d)) H
theorem qX(d:D):∀ l:List D,(toPys l).any (λy=>PyData.eqv y (pL d))=l.any λy=>aI7 y d
 | []=>rfl
 | e::r=>by show(PyData.eqv (pL e) (pL d)||(toPys r).any _)=_;rw[qX d r];rfl
def xV{e:D}{b:Bool}{l:List D}(h:bL1 e=some (b,l)):PyData.depthAll (toPys l)<=(pL e).depth/\((pL e).canLay0=true->PyData.canLayAll0 (toPys l)=true):=by
 cases e with
 | lst a=>cases h;exact⟨by show _<=PyData.depth (.list (toPys l));simp only[PyData.depth];lia,λz=>z⟩
 | tup a=>cases h;exact⟨by show _<=PyData.depth (.tuple (toPys l));simp only[PyData.depth];lia,λz=>z⟩
 | _=>cases h
def dE6{X:Cx}(o:X.A.units+64 < cLine):OpR X (compareOp .In) (dO7 false):=by
 intro pins s σ H x y v u Q I a c h;rcases h with⟨i,j,rfl,rfl,q⟩ | ⟨d,e,b,l,v1,v2,hs,k,m,q⟩;exact wK pins s σ H _ _ v u Q I a c ⟨_,_,rfl,rfl,by simpa using q⟩;obtain⟨a1,p⟩:=eS k;obtain⟨a2,r⟩:=eS m;obtain⟨as,f⟩:=kI I v1 a a1;obtain⟨bs,g⟩:=kI I v2 c a2;obtain⟨dp,cl⟩:=xV hs;have fin:EP X pins σ Q (.bool ((toPys l).any λy=>PyData.eqv y (pL d))) s:=⟨.bl _,H,I,by rw[qX];rfl,q⟩;cases e with
 | lst n=>cases hs;exact SeqAt.in_list_reads g f (cl a2) a1 (by lia) fin
 | tup n=>cases hs;exact SeqAt.in_tuple_reads g f (cl a2) a1 (by lia) fin
 | _=>cases hs
def bB0{X:Cx}(o:X.A.units+64 < cLine):OpR X (compareOp .NotIn) (dO7 true):=by
 intro pins s σ H x y v u Q I a c h;rcases h with⟨i,j,rfl,rfl,q⟩ | ⟨d,e,b,l,v1,v2,hs,k,m,q⟩;exact wL pins s σ H _ _ v u Q I a c ⟨_,_,rfl,rfl,by simpa using q⟩;obtain⟨a1,p⟩:=eS k;obtain⟨a2,r⟩:=eS m;obtain⟨as,f⟩:=kI I v1 a a1;obtain⟨bs,g⟩:=kI I v2 c a2;obtain⟨dp,cl⟩:=xV hs;have fin:EP X pins σ Q (.bool (!(toPys l).any λy=>PyData.eqv y (pL d))) s:=⟨.bl _,H,I,by rw[qX];rfl,q⟩;cases e with
 | lst n=>cases hs;exact SeqAt.notIn_list_reads g f (cl a2) a1 (by lia) fin
 | tup n=>cases hs;exact SeqAt.notIn_tuple_reads g f (cl a2) a1 (by lia) fin
 | _=>cases hs
noncomputable def inD(neg:Bool):F2:=λd e=>match d,e with
 | .str i,.str j=>some (.val (.bl (if neg then(Builtin.Str.occurrences j i 0 j.length 1).isEmpty else !(Builtin.Str.occurrences j i 0 j.length 1).isEmpty)))
 | d,e=>match bL1 e with
   | some (_,l)=>if iS d=true/\iS e=true then some (.val (.bl (if neg then !(l.any λy=>aI7 y d)else l.any λy=>aI7 y d)))else none
   | none=>none
def cB3{neg:Bool}:pW (dO7 neg) (inD neg):=by
 intro H f g x y Q res a c e k;unfold inD at e;split at e;cases e;obtain rfl:=jO a;obtain rfl:=jO c;exact .inl ⟨_,_,rfl,rfl,k _ H (.refl _) (.bl _)⟩;split at e;rename_i b l hs;split at e;rename_i d;cases e;exact .inr ⟨f,g,b,l,a,c,hs,d.1,d.2,k _ H (.refl _) (.bl _)⟩;cases e;cases e
def cN4(K:W.Frag):List V->Hp->VK->Prop:=λxs H Q=>∃ x c t,xs=[x,.ty c]/\TyOf K H x (.type t)/\(t="NoneType"\/t="int"\/t="bool"\/t="str"\/t="list"\/t="tuple") /\
 (c="int"\/c="bool"\/c="str"\/c="list"\/c="tuple")/\Q (.bl (qO t c)) H
def xW{X:Cx}(K:W.Frag)(a:X.K=K):kP X (.builtin "isinstance") (cN4 K):=by
 subst a;intro pins s σ H xs us Q I r h;obtain⟨x,c,t,rfl,ty,b,d,q⟩:=h;exact aA6 pins s σ H _ us Q I r ⟨x,c,.type t,_,rfl,ty,bO7 b d,q⟩
def cB4{X:Cx}{e:Expr}{r:DE}{c:String}(K:W.Frag)(f:c="int"\/c="bool"\/c="str"\/c="list"\/c="tuple")(h:∀ Γ,PE X e (tCB (cN4 K) (bM2 (dTE Γ r) (bM2 (tC (.ty c)) dM5)))):GE X e (aB6 (bR3 c) r):=.mk λΓ=>peW (h Γ) λσV H Q j=>by
 have m:dK5 (λx H Q=>cN4 K [x,.ty c] H Q) (bR3 c):=by
  intro H d x Q res a e k;cases d with
  | non=>cases e;obtain rfl:=aY9 a;exact⟨_,_,_,rfl,.non,.inl rfl,f,k _ H (.refl _) (.bl _)⟩
  | bl b=>cases e;obtain rfl:=xL a;exact⟨_,_,_,rfl,.bl b,.inr (.inr (.inl rfl)),f,k _ H (.refl _) (.bl _)⟩
  | int i=>cases e;obtain rfl:=cS a;exact⟨_,_,_,rfl,.int i,.inr (.inl rfl),f,k _ H (.refl _) (.bl _)⟩
  | str i=>cases e;obtain rfl:=jO a;exact⟨_,_,_,rfl,.str i,.inr (.inr (.inr (.inl rfl))),f,k _ H (.refl _) (.bl _)⟩
  | tup l=>cases e;obtain⟨p,xs,rfl,g,_⟩:=fV a;exact⟨_,_,_,rfl,.tup g,.inr (.inr (.inr (.inr (.inr rfl)))),f,k _ H (.refl _) (.bl _)⟩
  | lst l=>
    cases e;rcases a with a | ⟨p,rfl,a⟩
    ·cases a with
     | lst g _=>exact⟨_,_,_,rfl,.frz g,.inr (.inr (.inr (.inr (.inl rfl)))),f,k _ H (.refl _) (.bl _)⟩
    ·obtain⟨xs,g,_⟩:=qW a;exact⟨_,_,_,rfl,.lst g,.inr (.inr (.inr (.inr (.inl rfl)))),f,k _ H (.refl _) (.bl _)⟩
  | dic ks vs=>cases e
 exact aI2 m j
def gE{X:Cx}{e:Expr}{r:DE}(h:GE X e r)(Γ:Gm):PE X e (dTE Γ r):=h.to Γ
def gA{X:Cx}{e:List Expr}{r:DA}(h:GA X e r)(Γ:Gm):PA X e (dTA Γ r):=h.to Γ
def gT{X:Cx}{e:Expr}{r:DT}(h:GT X e r)(Γ:Gm):PT X e (dTT Γ r):=h.to Γ
def gI{X:Cx}{tg e:Expr}{r:DI}(h:GI X tg e r)(Γ:Gm):PI X tg e (dTI Γ r):=h.to Γ
def gSs{X:Cx}{E:Ex}{e:List Stmt}{r:DS}(h:GSs E X e r)(Γ:Gm):PSs X e (dTS Γ E r):=h.to Γ
noncomputable def bB1(K:W.Frag):Bool:=K.all λp=>match p.2.cls with
 | .type n=>!(n=="list")
 | _=>true
def cN5{K:W.Frag}{H:Hp}{a:Addr}{ns:List Int}(c:bB1 K=true)(g:cZ2 H)(b:SqL K H a (ns.map V.int)):ArgOk H [⟨.val,.lst (ns.map D.int)⟩] [.ref a]:=by
 have d:∃ o,H a=some (.frz o (.lst (ns.map V.int))):=by
  rcases b with b | ⟨o,its,n,k,q,_⟩
  ·rcases b with b | ⟨o,b⟩;rcases g a with z | ⟨o,xs,z⟩;rw[b]at z;cases z;rw[b]at z;cases z;exact⟨o,b⟩
  ·exfalso;unfold bB1 at c;rw[a8j]at c;have hm:(a,o)∈K:=by
    clear c g;have:∀ (l:List (Addr×Obj)),List.lookup a l=some o->(a,o)∈l:=by
     intro l
     induction l with
     | nil=>intro h;simp at h
     | cons p r u=>
       intro h;rw[a6i]at h;split at h
       ·rename_i e;have:a=p.1:=by simpa using e
        cases h;rw[this];exact a6a
       ·exact a7a _ (u h)
    exact this K k
   have:=c _ hm;rw[q]at this;simp at this
 obtain⟨o,d⟩:=d;refine⟨rfl,λi s e=>?_,λi j s t p n f v m=>?_,λi s e=>?_⟩
 ·cases i with
  | zero=>simp at e;subst e;exact⟨_,rfl,.lst d (mE ns)⟩
  | succ i=>simp at e
 ·cases i with
  | zero=>simp at f;subst f;cases m
  | succ i=>simp at f
 ·cases i with
  | zero=>simp at e;subst e;exact λz=>nomatch z
  | succ i=>simp at e
def OK1{b:Type}(o:Option b)(K:b->Prop):Prop:=match o with
 | some a=>K a
 | none=>False
def RE(r:DE)(σ:Sg)(Q:Res->Sg->Prop):Prop:=OK1 (r σ) λx=>Q x.1 x.2
def RT(r:DT)(σ:Sg)(Q:Bool->Sg->Prop):Prop:=OK1 (r σ) λx=>Q x.1 x.2
def RA(r:DA)(σ:Sg)(Q:List Res->Sg->Prop):Prop:=OK1 (r σ) λx=>Q x.1 x.2
def RS(r:DS)(σ:Sg)(Q:Out->Prop):Prop:=OK1 (r σ) Q
def RI(r:DI)(σ:Sg)(Q:List D->Option Nat->Sg->Prop):Prop:=OK1 (r σ) λx=>Q x.1 x.2.1 x.2.2
def RO(r:DO)(σ:Sg)(Q:Option Int->Sg->Prop):Prop:=OK1 (r σ) λx=>Q x.1 x.2
theorem aI{b c:Type}{o:Option b}{f:b->Option c}{K:c->Prop}:OK1 (o.bind f) K=OK1 o λa=>OK1 (f a) K:=by cases o<;>rfl
theorem aY{b:Type}{a:b}{K:b->Prop}:OK1 (some a) K=K a:=rfl
def xX{b c:Type}{o:Option b}{f:b->c}{K:c->Prop}:OK1 (o.map f) K=OK1 o λa=>K (f a):=by cases o<;>rfl
theorem bD{a:Type}{c:Prop}[Decidable c]{o:Option a}{K:a->Prop}:OK1 (if c then o else none) K=(c/\OK1 o K):=by
 by_cases h:c;rw[a3Y h];exact propext ⟨λq=>⟨h,q⟩,λq=>q.2⟩;rw[a3Z h];exact propext ⟨λq=>q.elim,λq=>h q.1⟩
def hX{b:Type}{o:Option b}{K:b->Prop}:OK1 o K↔∃ a,o=some a/\K a:=by
 cases o with
 | none=>exact⟨λq=>q.elim,λ⟨_,e,_⟩=>nomatch e⟩
 | some a=>exact⟨λq=>⟨a,rfl,q⟩,λZ1=>by obtain⟨_,e,q⟩:=Z1;cases e;exact q⟩
def cC{b:Type}{o:Option b}{K c:b->Prop}(h:OK1 o K)(w:∀ a,K a->c a):OK1 o c:=by
 cases o with
 | none=>exact h
 | some a=>exact w a h
def VK:Nat->Sg->Nat->Sg->(Res->Sg->Prop)->Prop
 | 0,some s::_,i,σ,Q=>Q (if s.m=.val then .val s.d else .slot i) σ
 | n+1,_::r,i,σ,Q=>VK n r i σ Q
 | _,_,_,_,_=>False
theorem dE7:∀ (n:Nat) (r:Sg) (i:Nat) (σ:Sg) (Q:Res->Sg->Prop),VK n r i σ Q=OK1 (match r[n]? with | some (some s)=>some (if s.m=.val then Res.val s.d else Res.slot i,σ) | _=>none) λx=>Q x.1 x.2
 | 0,[],_,_,_=>rfl
 | 0,none::_,_,_,_=>rfl
 | 0,some s::_,_,_,_=>rfl
 | n+1,[],_,_,_=>rfl
 | n+1,_::r,i,σ,Q=>by
   show VK n r i σ Q=_;rw[dE7 n r i σ Q,a8c]
def GK:Nat->Sg->(D->Prop)->Prop
 | 0,some s::_,K=>K s.d
 | n+1,_::r,K=>GK n r K
 | _,_,_=>False
theorem dE8:∀ (n:Nat) (r:Sg) (K:D->Prop),GK n r K=OK1 (match r[n]? with | some (some s)=>some s.d | _=>none) K
 | 0,[],_=>rfl
 | 0,none::_,_=>rfl
 | 0,some s::_,_=>rfl
 | n+1,[],_=>rfl
 | n+1,_::r,K=>by
   show GK n r K=_;rw[dE8 n r K,a8c]
def RD(σ:Sg)(r:Res)(K:D->Prop):Prop:=OK1 (rd σ r) K
def PK:Nat->Sg->Sl->(Sg->Prop)->Prop
 | 0,none::r,s,K=>K (some s::r)
 | 0,some ⟨.val,_⟩::r,s,K=>K (some s::r)
 | 0,some ⟨.own,_⟩::r,s,K=>K (some s::r)
 | n+1,o::r,s,K=>PK n r s λa=>K (o::a)
 | _,_,_,_=>False
def aQ2{n:Nat}{o:Option Sl}{r:Sg}:iQ (o::r) (n+1)=iQ r n:=by unfold iQ;rw[a8c]
theorem bR5:∀ (n:Nat) (r:Sg) (s:Sl) (K:Sg->Prop),PK n r s K=OK1 (if iQ r n=true then some (r.set n (some s))else none) K
 | 0,[],s,K=>rfl
 | 0,none::r,s,K=>rfl
 | 0,some ⟨.val,_⟩::r,s,K=>rfl
 | 0,some ⟨.own,_⟩::r,s,K=>rfl
 | 0,some ⟨.par,_⟩::r,s,K=>rfl
 | 0,some ⟨.lent,_⟩::r,s,K=>rfl
 | n+1,[],s,K=>by
   show False=_;rw[bD];unfold iQ;simp
 | n+1,o::r,s,K=>by
   show PK n r s (λa=>K (o::a))=_;rw[bR5 n r s _,bD,bD,aQ2,List.set_cons_succ];rfl
def MK:Nat->Sg->FM->List D->(D->Sg->Prop)->Prop
 | 0,some ⟨.own,d⟩::r,f,ds,K=>OK1 (f d ds) λy=>K y.2 (some ⟨.own,y.1⟩::r)
 | 0,some ⟨.par,d⟩::r,f,ds,K=>OK1 (f d ds) λy=>K y.2 (some ⟨.par,y.1⟩::r)
 | n+1,o::r,f,ds,K=>MK n r f ds λe a=>K e (o::a)
 | _,_,_,_,_=>False
theorem dE9:∀ (n:Nat) (r:Sg) (f:FM) (a:List D) (K:D->Sg->Prop),MK n r f a K=OK1 (bP7 f n a r) λx=>OK1 (match x.1 with | .val d=>some d | _=>none) λd=>K d x.2
 | 0,[],f,a,K=>rfl
 | 0,none::r,f,a,K=>rfl
 | 0,some ⟨.val,_⟩::r,f,a,K=>rfl
 | 0,some ⟨.lent,_⟩::r,f,a,K=>rfl
 | 0,some ⟨.own,d⟩::r,f,a,K=>by
   show OK1 (f d a) _=OK1 ((f d a).bind λy=>some (Res.val y.2,some (⟨.own,y.1⟩:Sl)::r)) _;rw[aI];rfl
 | 0,some ⟨.par,d⟩::r,f,a,K=>by
   show OK1 (f d a) _=OK1 ((f d a).bind λy=>some (Res.val y.2,some (⟨.par,y.1⟩:Sl)::r)) _;rw[aI];rfl
 | n+1,[],f,a,K=>rfl
 | n+1,o::r,f,a,K=>by
   show MK n r f a (λe b=>K e (o::b))=_;rw[dE9 n r f a _];unfold bP7;rw[a8c];cases q:r[n]? with
   | none=>rfl
   | some x=>cases x with
     | none=>rfl
     | some s=>
       dsimp only;by_cases hm:s.m.mt=true;rw[a3Y hm,a3Y hm,aI,aI];rfl;rw[a3Z hm,a3Z hm];rfl
def TK:String->Nat->Sg->Prop->Prop
 | T,0,some ⟨.own,d⟩::_,P=>tyD T d=true/\P
 | T,0,some ⟨.par,d⟩::_,P=>tyD T d=true/\P
 | T,0,some ⟨.lent,d⟩::_,P=>tyD T d=true/\P
 | T,n+1,_::r,P=>TK T n r P
 | _,_,_,_=>False
theorem bR6:∀ (T:String) (n:Nat) (r:Sg) (P:Prop),TK T n r P=(aB8 T n r=true/\P)
 | T,0,[],P=>by simp[TK,aB8]
 | T,0,none::r,P=>by simp[TK,aB8]
 | T,0,some ⟨.val,d⟩::r,P=>by simp[TK,aB8]
 | T,0,some ⟨.own,d⟩::r,P=>by simp[TK,aB8]
 | T,0,some ⟨.par,d⟩::r,P=>by simp[TK,aB8]
 | T,0,some ⟨.lent,d⟩::r,P=>by simp[TK,aB8]
 | T,n+1,[],P=>by simp[TK,aB8]
 | T,n+1,o::r,P=>by
   show TK T n r P=_;rw[bR6 T n r P];unfold aB8;rw[a8c]
section
variable{σ:Sg}{Q:Res->Sg->Prop}{QT:Bool->Sg->Prop}{QA:List Res->Sg->Prop}{QS:Out->Prop}{K:D->Prop}{KR:Res->Prop}{a b c:DE}{ra:DA}{t u:DT}{x y:DS}{d e:D}{f:F2}{f1:F1}{fn:FN}{i j n:Nat}{r:Sg}{o:Option Sl}
theorem dK9:RE (dC d) σ Q=Q (.val d) σ:=rfl
theorem tQ:RE (aF i) σ Q=VK i σ i σ Q:=(dE7 i σ i σ Q).symm
theorem tR:VK (n+1) (o::r) i σ Q=VK n r i σ Q:=rfl
theorem tS:VK 0 (some ⟨.val,d⟩::r) i σ Q=Q (.val d) σ:=rfl
theorem tT:VK 0 (some ⟨.own,d⟩::r) i σ Q=Q (.slot i) σ:=rfl
theorem aI8:VK 0 (some ⟨.par,d⟩::r) i σ Q=Q (.slot i) σ:=rfl
theorem xY:RE (aR f a b) σ Q=RE a σ λx g=>RE b g λy c=>RD c x λd=>RD c y λe=>OK1 (f d e) λr=>Q r c:=by
 unfold RE aR RD;simp only[aI,aY]
theorem bB2:RE (aB6 f1 a) σ Q=RE a σ λx b=>RD b x λd=>OK1 (f1 d) λr=>Q r b:=by
 unfold RE aB6 RD;simp only[aI,aY]
theorem xZ:RD σ (.val d) K=K d:=rfl
theorem tU:RD σ (.own d) K=K d:=rfl
theorem yA:RD σ (.slot i) K=GK i σ K:=(dE8 i σ K).symm
theorem tV{m:Md}:GK 0 (some ⟨m,d⟩::r) K=K d:=rfl
theorem tW:GK (n+1) (o::r) K=GK n r K:=rfl
theorem yB:RT (eQ a) σ QT=RE a σ λx c=>RD c x λd=>OK1 (match d with | .bl b=>some b | _=>none) λb=>QT b c:=by
 unfold RT RE eQ RD;simp only[aI];congr 1;funext x;congr 1;funext d;cases d<;>rfl
theorem bB3:RT (dC2 a) σ QT=RE a σ λx c=>RD c x λd=>OK1 (dN8 d) λb=>QT b c:=by
 unfold RT RE dC2 RD;simp only[aI,aY]
theorem bB4:RT (dC3 t u) σ QT=RT t σ λb a=>if b=true then RT u a QT else QT false a:=by
 unfold RT dC3;simp only[aI];congr 1;funext x;by_cases h:x.1=true<;>simp[h,OK1]
theorem dF0:RT (dOr t u) σ QT=RT t σ λb a=>if b=true then QT true a else RT u a QT:=by
 unfold RT dOr;simp only[aI];congr 1;funext x;by_cases h:x.1=true<;>simp[h,OK1]
theorem cB5:RT (bP5 t) σ QT=RT t σ λb a=>QT (!b) a:=by
 unfold RT bP5;simp only[aI,aY]
theorem vK:RT nX σ QT=QT true σ:=rfl
theorem vL:RE (xM a b) σ Q=RT (eQ a) σ λt c=>if t=true then RE b c Q else Q (.val (.bl false)) c:=by
 unfold RT RE xM;simp only[aI];congr 1;funext x;by_cases h:x.1=true<;>simp[h,OK1]
theorem cN6:RE (aZ0 a) σ Q=RT (eQ a) σ λt b=>Q (.val (.bl (!t))) b:=by
 unfold RT RE aZ0;simp only[aI,aY]
theorem dF1:RE (dIf t a b) σ Q=RT t σ λt c=>if t=true then RE a c Q else RE b c Q:=by
 unfold RT RE dIf;simp only[aI];congr 1;funext x;by_cases h:x.1=true<;>simp[h]
theorem bR7{g:F2}:RE (xN f g a b c) σ Q=RE a σ λx l=>RE b l λy i=>RD i x λd=>RD i y λe=>OK1 (f d e) λk=>OK1 (match k with | .val (.bl t)=>some t | _=>none) λt=>if t=true then RE c i (λz j=>RD j y λe=>RD j z λh=>OK1 (g e h) λr=>Q r j)else Q (.val (.bl false)) i:=by
 unfold RE xN RD;simp only[aI];congr 1;funext x;congr 1;funext y;congr 1;funext d;congr 1;funext e;cases f d e with
 | none=>rfl
 | some k=>
   cases k with
   | val v=>
     cases v with
     | bl b=>
       cases b with
       | false=>simp[OK1]
       | true=>
         dsimp only;simp only[aI,aY,if_true]
     | _=>rfl
   | own v=>rfl
   | slot v=>rfl
theorem yC:RA aT σ QA=QA [] σ:=rfl
theorem qY:RA (aA a ra) σ QA=RE a σ λx b=>RA ra b λxs c=>QA (x::xs) c:=by
 unfold RA RE aA;simp only[aI,aY]
def RDs(σ:Sg)(rs:List Res)(K:List D->Prop):Prop:=OK1 (rds σ rs) K
def VLs(rs:List Res)(K:List D->Prop):Prop:=OK1 (vals rs) K
theorem qZ{K:List D->Prop}:RDs σ [] K=K []:=rfl
theorem rA{x:Res}{xs:List Res}{K:List D->Prop}:RDs σ (x::xs) K=RD σ x λd=>RDs σ xs λa=>K (d::a):=by
 show OK1 ((rd σ x).bind λd=>(rds σ xs).bind λa=>some (d::a)) K=_;unfold RDs RD;simp only[aI,aY]
theorem yD{K:List D->Prop}:VLs [] K=K []:=rfl
theorem aI9{xs:List Res}{K:List D->Prop}:VLs (.val d::xs) K=VLs xs λa=>K (d::a):=by
 show OK1 ((vals xs).bind λa=>some (d::a)) K=_;unfold VLs;simp only[aI,aY]
theorem bB5:RE (dCB fn ra) σ Q=RA ra σ λxs a=>RDs a xs λb=>OK1 (fn b) λr=>Q r a:=by
 unfold RE RA RDs dCB;simp only[aI,aY]
theorem cB6:RE (cK0 ra) σ Q=RA ra σ λxs a=>VLs xs λb=>b.length<=sizeLine/\Q (.val (.tup b)) a:=by
 unfold RE RA VLs cK0;simp only[aI,bD,aY]
theorem yE:RE (pZ ra) σ Q=RA ra σ λxs a=>VLs xs λb=>b.length<=sizeLine/\Q (.own (.lst b)) a:=by
 unfold RE RA VLs pZ;simp only[aI,bD,aY]
def FK(r:Res)(σ:Sg)(K:D->Sg->Prop):Prop:=OK1 (dS0 σ r) λx=>K x.1 x.2
theorem bB6:RE (dFz a) σ Q=RE a σ λx b=>FK x b λd c=>Q (.val d) c:=by
 unfold RE dFz FK;simp only[aI,aY]
theorem yF{K:D->Sg->Prop}:FK (.val d) σ K=K d σ:=rfl
theorem bB7{K:D->Sg->Prop}:FK (.own d) σ K=K d σ:=rfl
theorem vM:RS hV σ QS=QS (.nx σ):=rfl
def SqK(y:DS)(QS:Out->Prop):Out->Prop
 | .nx σ=>RS y σ QS
 | o=>QS o
theorem tX:RS (bM x y) σ QS=RS x σ (SqK y QS):=by
 unfold RS bM;rw[aI];congr 1;funext o;cases o<;>rfl
theorem yG:SqK y QS (.nx σ)=RS y σ QS:=rfl
theorem bB8{v:Res}:SqK y QS (.rt v σ)=QS (.rt v σ):=rfl
theorem rB:RS (nW a) σ QS=RE a σ λ_ b=>QS (.nx b):=by unfold RS RE nW;simp only[aI,aY]
theorem yH:RS (jE a) σ QS=RE a σ λx b=>QS (.rt x b):=by unfold RS RE jE;simp only[aI,aY]
theorem aJ0:RS (pJ t x y) σ QS=RT t σ λb a=>if b=true then RS x a QS else RS y a QS:=by
 unfold RS RT pJ;simp only[aI];congr 1;funext z;by_cases h:z.1=true<;>simp[h]
def PtK(i:Nat)(r:Res)(σ:Sg)(K:Sg->Prop):Prop:=OK1 (dK6 i r σ) K
theorem tY:RS (cF i a) σ QS=RE a σ λx b=>PtK i x b λc=>QS (.nx c):=by unfold RS RE PtK cF;simp only[aI,aY]
theorem aJ1{K:Sg->Prop}:PtK i (.val d) σ K=PK i σ ⟨.val,d⟩ K:=(bR5 i σ _ K).symm
theorem yI{K:Sg->Prop}:PtK i (.own d) σ K=PK i σ ⟨.own,d⟩ K:=(bR5 i σ _ K).symm
theorem yJ{s:Sl}{K:Sg->Prop}:PK 0 (none::r) s K=K (some s::r):=rfl
theorem yK{s:Sl}{K:Sg->Prop}:PK 0 (some ⟨.val,d⟩::r) s K=K (some s::r):=rfl
theorem yL{s:Sl}{K:Sg->Prop}:PK 0 (some ⟨.own,d⟩::r) s K=K (some s::r):=rfl
theorem tZ{s:Sl}{K:Sg->Prop}:PK (n+1) (o::r) s K=PK n r s λa=>K (o::a):=rfl
theorem cN7{b:FM}{c:List D}{σ:Sg}:OK1 (bP7 b i c σ) (λx=>Q x.1 x.2)=MK i σ b c λd a=>Q (.val d) a:=by
 rw[dE9];apply propext;rw[hX,hX];constructor;rintro⟨⟨x,s⟩,e,q⟩;obtain⟨_,_,_,_,_,_,rfl,_⟩:=mF e;exact⟨_,e,q⟩;rintro⟨⟨x,s⟩,e,q⟩;obtain⟨_,_,_,_,_,_,rfl,_⟩:=mF e;exact⟨_,e,q⟩
theorem vN{T:String}{c:FM}:RE (qU T i c ra) σ Q=TK T i σ (RA ra σ λxs a=>VLs xs λe=>MK i a c e λd b=>Q (.val d) b):=by
 rw[bR6];unfold RE qU RA VLs;rw[bD];simp only[aI,cN7]
theorem aC7{T:String}{c:FM}:RE (xO T i c ra) σ Q=TK T i σ (RA ra σ λxs a=>RDs a xs λe=>MK i a c e λd b=>Q (.val d) b):=by
 rw[bR6];unfold RE xO RA RDs;rw[bD];simp only[aI,cN7]
theorem yM{T:String}{P:Prop}:TK T 0 (some ⟨.own,d⟩::r) P=(tyD T d=true/\P):=rfl
theorem cB7{T:String}{P:Prop}:TK T 0 (some ⟨.par,d⟩::r) P=(tyD T d=true/\P):=rfl
theorem yN{T:String}{P:Prop}:TK T (n+1) (o::r) P=TK T n r P:=rfl
theorem yO{a:FM}{b:List D}{K:D->Sg->Prop}:MK 0 (some ⟨.own,d⟩::r) a b K=OK1 (a d b) λy=>K y.2 (some ⟨.own,y.1⟩::r):=rfl
theorem cB8{a:FM}{b:List D}{K:D->Sg->Prop}:MK 0 (some ⟨.par,d⟩::r) a b K=OK1 (a d b) λy=>K y.2 (some ⟨.par,y.1⟩::r):=rfl
theorem yP{a:FM}{b:List D}{K:D->Sg->Prop}:MK (n+1) (o::r) a b K=MK n r a b λe c=>K e (o::c):=rfl
theorem bB9:RS (cB0 i a b) σ QS=RE b σ λx c=>OK1 (match x with | .val d=>some d | _=>none) λd=>TK "list" i c (RE a c λy f=>RD f y λg=>OK1 (match g with | .int k=>some k | _=>none) λk=>
  MK i f (λa _=>(dK8 k d a).map λb=>(b,.non)) [] λ_ e=>QS (.nx e)):=by
 unfold RS RE RD cB0;rw[aI];congr 1;funext x;obtain⟨x,c⟩:=x;cases x with
 | own d=>rfl
 | slot d=>rfl
 | val d=>
   show OK1 _ _=TK _ _ _ _;rw[bR6];dsimp only;rw[bD];simp only[aI];congr 1;congr 1;funext y;congr 1;funext g;cases g with
   | int k=>
     dsimp only;rw[aI];show _=MK _ _ _ _ _;rw[← cN7 (Q:=λ_ e=>QS (.nx e))];rfl
   | _=>rfl
theorem bC0{g:DG}:RS (bQ1 g a) σ QS=RE a σ λx b=>OK1 (match x with | .val d=>some d | _=>none) λd=>OK1 (g d b) λc=>QS (.nx c):=by
 unfold RS RE bQ1;rw[aI];congr 1;funext x;obtain⟨x,b⟩:=x;cases x with
 | own d=>rfl
 | slot d=>rfl
 | val d=>
   show OK1 ((g d b).bind _) _=OK1 (g d b) _;rw[aI];rfl
theorem aQ3{K:Sg->Prop}:OK1 (dgN i d σ) K=PK i σ ⟨.val,d⟩ K:=(bR5 i σ _ K).symm
theorem rC{a:DGs}{l:List D}{K:Sg->Prop}:OK1 (dY n a (.tup l) σ) K=(l.length=n/\OK1 (a l σ) K):=by
 show OK1 (if l.length=n then a l σ else none) K=_;rw[bD]
theorem kJ{g:DG}{b:DGs}{l:List D}{K:Sg->Prop}:OK1 (aN g b (d::l) σ) K=OK1 (g d σ) λa=>OK1 (b l a) K:=by
 show OK1 ((g d σ).bind λa=>b l a) K=_;rw[aI]
theorem oA{K:Sg->Prop}:OK1 (dX [] σ) K=K σ:=rfl
end
def CK(run:Run)(as:List Sl)(K:Res->List Sl->Prop):Prop:=OK1 (run as) λy=>K y.1 y.2
def AK(σ:Sg)(rs:List Res)(K:List Sl->Prop):Prop:=OK1 (qV σ rs) K
def A1(σ:Sg)(r:Res)(K:Sl->Prop):Prop:=OK1 (aC2 σ r) K
def HK:Nat->Sg->(Sl->Prop)->Prop
 | 0,some ⟨m,d⟩::_,K=>K ⟨if m.mt=true then .par else m,d⟩
 | n+1,_::r,K=>HK n r K
 | _,_,_=>False
theorem dF2:∀ (n:Nat) (r:Sg) (K:Sl->Prop),HK n r K=A1 r (.slot n) K
 | 0,[],_=>rfl
 | 0,none::_,_=>rfl
 | 0,some s::_,_=>rfl
 | n+1,[],_=>rfl
 | n+1,_::r,K=>by
   show HK n r K=_;rw[dF2 n r K];show OK1 (match r[n]? with | some (some s)=>some (⟨if s.m.mt=true then .par else s.m,s.d⟩:Sl) | _=>none) K=OK1 (match (_::r)[n+1]? with | some (some s)=>some (⟨if s.m.mt=true then .par else s.m,s.d⟩:Sl) | _=>none) K;rw[a8c]
def UK:Nat->Sg->D->(Sg->Prop)->Prop
 | 0,some ⟨.own,_⟩::r,d,K=>K (some ⟨.own,d⟩::r)
 | 0,some ⟨.par,_⟩::r,d,K=>K (some ⟨.par,d⟩::r)
 | 0,o::r,_,K=>K (o::r)
 | n+1,o::r,d,K=>UK n r d λa=>K (o::a)
 | _,[],_,K=>K []
noncomputable def uS(σ:Sg)(i:Nat)(d:D):Sg:=match σ[i]? with
 | some (some s)=>if s.m.mt=true then σ.set i (some ⟨s.m,d⟩)else σ
 | _=>σ
theorem dF3:∀ (n:Nat) (r:Sg) (d:D) (K:Sg->Prop),UK n r d K=K (uS r n d)
 | 0,[],_,_=>rfl
 | n+1,[],_,_=>rfl
 | 0,none::r,d,K=>rfl
 | 0,some ⟨.val,_⟩::r,d,K=>rfl
 | 0,some ⟨.own,_⟩::r,d,K=>rfl
 | 0,some ⟨.par,_⟩::r,d,K=>rfl
 | 0,some ⟨.lent,_⟩::r,d,K=>rfl
 | n+1,o::r,d,K=>by
   show UK n r d (λa=>K (o::a))=_;rw[dF3 n r d _];unfold uS;rw[a8c];cases r[n]? with
   | none=>rfl
   | some x=>cases x with
     | none=>rfl
     | some s=>
       dsimp only;by_cases h:s.m.mt=true;rw[a3Y h,a3Y h];rfl;rw[a3Z h,a3Z h]
noncomputable def sB:List Res->List Sl->Sg->Sg
 | .slot i::rs,a::as,σ=>sB rs as (uS σ i a.d)
 | _::rs,_::as,σ=>sB rs as σ
 | _,_,σ=>σ
def dF4{σ:Sg}{i j:Nat}{d:D}:(uS σ i d)[j]? = (σ[j]?).map λo=>if j=i then(match o with | some s=>some (if s.m.mt=true then⟨s.m,d⟩else s) | none=>none)else o:=by
 unfold uS;by_cases a:j=i
 ·subst a;cases h:σ[j]? with
  | none=>dsimp only;rw[h];rfl
  | some o=>
    cases o with
    | none=>dsimp only;rw[h];simp
    | some s=>
      dsimp only;by_cases hm:s.m.mt=true;rw[a3Y hm,a2c (a3a.mp h).1];simp[hm];rw[a3Z hm,h];simp[hm]
 ·have:∀ x:Option Sl,(σ.set i x)[j]? = σ[j]?:=λx=>a9a (a5d a);split;split;rw[this];cases σ[j]? <;> simp[a];cases σ[j]? <;> simp[a];cases σ[j]? <;> simp[a]
theorem aJ2:∀ (rs:List Res) (as:List Sl) (σ:Sg) (j:Nat),dJ rs=true->(sB rs as σ)[j]? = (σ[j]?).map (mJ rs as j)
 | [],as,σ,j,_=>by cases as<;>(show σ[j]? = _;cases σ[j]? with | none=>rfl | some o=>cases o<;>simp[mJ,jS])
 | r::rs,[],σ,j,_=>by cases r<;>(show σ[j]? = _;cases σ[j]? with | none=>rfl | some o=>cases o<;>simp[mJ,jS])
 | .val d::rs,a::as,σ,j,h=>aJ2 rs as σ j h
 | .own d::rs,a::as,σ,j,h=>aJ2 rs as σ j h
 | .slot i::rs,a::as,σ,j,h=>by
   have h':dJ rs=true/\bA2 i rs=false:=by
    unfold dJ at h;rw[a6d]at h;exact⟨h.2,by simpa using h.1⟩
   show(sB rs as (uS σ i a.d))[j]? = _;rw[aJ2 rs as _ j h'.1,dF4];cases σ[j]? with
   | none=>rfl
   | some o=>
     cases o with
     | none=>by_cases c:j=i<;>simp[mJ,c]
     | some s=>
       by_cases c:j=i
       ·subst c;have hl:jS j rs as=none:=by
         cases q:jS j rs as with
         | none=>rfl
         | some b=>
           obtain⟨k,e,_⟩:=fQ q;rw[qC e]at h';cases h'.2
        simp[mJ,hl,jS]
       ·have:¬ i=j:=λz=>c z.symm;simp[mJ,c,jS,this]
theorem bR8{rs:List Res}{as:List Sl}{σ:Sg}(h:dJ rs=true):iR rs as 0 σ=sB rs as σ:=by
 apply a3i;intro j;rw[jT,aJ2 rs as σ j h,a6g]
def BK(rs:List Res)(as:List Sl)(σ:Sg)(K:Sg->Prop):Prop:=K (sB rs as σ)
def cB9(as:List Sl)(K:Res->List Sl->Prop):Out->Prop
 | .nx σ=>K (.val .non) (pK as σ)
 | .rt r σ=>OK1 (bQ7 σ r) λa=>K a (pK as σ)
 | _=>False
section
variable{σ:Sg}{Q:Res->Sg->Prop}{ra:DA}{d:D}{i n:Nat}{r:Sg}{o:Option Sl}
theorem vO{run:Run}:RE (aQ n run ra) σ Q=RA ra σ λrs a=>AK a rs λas=>(as.length=n/\dJ rs=true)/\CK run as λy as'=>BK rs as' a λb=>Q y b:=by
 unfold RE RA AK CK aQ;simp only[aI,bD,aY];congr 1;funext x;congr 1;funext as;apply propext;constructor;rintro⟨h,q⟩;refine⟨h,cC q λy q=>?_⟩;unfold BK;rw[← bR8 h.2];exact q;rintro⟨h,q⟩;refine⟨h,cC q λy q=>?_⟩;unfold BK at q;rw[← bR8 h.2]at q;exact q
theorem aJ3{as:List Sl}{K:Sg->Prop}:BK [] as σ K=K σ:=by cases as<;>rfl
theorem aJ4{rs:List Res}{a:Sl}{as:List Sl}{K:Sg->Prop}:BK (.val d::rs) (a::as) σ K=BK rs as σ K:=rfl
theorem aJ5{rs:List Res}{m:Md}{as:List Sl}{K:Sg->Prop}:BK (.slot i::rs) (⟨m,d⟩::as) σ K=UK i σ d λσ'=>BK rs as σ' K:=by
 rw[dF3];rfl
theorem cC0{e:D}{K:Sg->Prop}:UK 0 (some ⟨.own,e⟩::r) d K=K (some ⟨.own,d⟩::r):=rfl
theorem aJ6{e:D}{K:Sg->Prop}:UK 0 (some ⟨.par,e⟩::r) d K=K (some ⟨.par,d⟩::r):=rfl
theorem cC1{K:Sg->Prop}:UK (n+1) (o::r) d K=UK n r d λa=>K (o::a):=rfl
def cZ{len:Nat}{b:DS}{as:List Sl}{K:Res->List Sl->Prop}:CK (qB len b) as K=RS b (ini len as) (cB9 as K):=by
 unfold CK RS qB;rw[aI];congr 1;funext o;cases o with
 | rt x s=>show OK1 ((bQ7 s x).bind _) _=OK1 (bQ7 s x) _;rw[aI];rfl
 | _=>rfl
def FSK:Nat->Sg->(Res->Prop)->Prop
 | 0,some ⟨.own,d⟩::_,K=>K (.own d)
 | 0,some ⟨.val,d⟩::_,K=>K (.val d)
 | n+1,_::r,K=>FSK n r K
 | _,_,_=>False
theorem cC2:∀ (n:Nat) (r:Sg) (K:Res->Prop),FSK n r K=OK1 (bQ7 r (.slot n)) K
 | 0,[],_=>rfl
 | 0,none::_,_=>rfl
 | 0,some ⟨.val,_⟩::r,K=>rfl
 | 0,some ⟨.own,_⟩::r,K=>rfl
 | 0,some ⟨.par,_⟩::r,K=>rfl
 | 0,some ⟨.lent,_⟩::r,K=>rfl
 | n+1,[],_=>rfl
 | n+1,o::r,K=>by
   show FSK n r K=_;rw[cC2 n r K];show OK1 (match r[n]? with | some (some s)=>if s.m=.own then some (Res.own s.d)else if s.m=.val then some (.val s.d)else none | _=>none) K=OK1 (match (o::r)[n+1]? with | some (some s)=>if s.m=.own then some (Res.own s.d)else if s.m=.val then some (.val s.d)else none | _=>none) K;rw[a8c]
section
variable{as:List Sl}{K:Res->List Sl->Prop}{KR:Res->Prop}
theorem bC1:cB9 as K (.nx σ)=K (.val .non) (pK as σ):=rfl
theorem aC8:cB9 as K (.rt (.val d) σ)=K (.val d) (pK as σ):=rfl
theorem aC9:cB9 as K (.rt (.own d) σ)=K (.own d) (pK as σ):=rfl
theorem vP:cB9 as K (.rt (.slot i) σ)=FSK i σ λr=>K r (pK as σ):=(cC2 i σ _).symm
theorem aJ7:FSK 0 (some ⟨.own,d⟩::r) KR=KR (.own d):=rfl
theorem aJ8:FSK (n+1) (o::r) KR=FSK n r KR:=rfl
theorem rE:pK [] σ=[]:=rfl
theorem rF{s:Sl}:pK (⟨.val,d⟩::as) (some s::r)=⟨.val,d⟩::pK as r:=rfl
theorem vQ{s:Sl}:pK (⟨.par,d⟩::as) (some s::r)=s::pK as r:=rfl
end
theorem aJ9{K:List Sl->Prop}:AK σ [] K=K []:=rfl
theorem aK0{x:Res}{xs:List Res}{K:List Sl->Prop}:AK σ (x::xs) K=A1 σ x λa=>AK σ xs λas=>K (a::as):=by
 show OK1 ((aC2 σ x).bind λa=>(qV σ xs).bind λas=>some (a::as)) K=_;unfold AK A1;simp only[aI,aY]
theorem aK1{K:Sl->Prop}:A1 σ (.val d) K=K ⟨.val,d⟩:=rfl
theorem aK2{K:Sl->Prop}:A1 σ (.slot i) K=HK i σ K:=(dF2 i σ K).symm
theorem cC3{K:Sl->Prop}:HK 0 (some ⟨.own,d⟩::r) K=K ⟨.par,d⟩:=rfl
theorem aK3{K:Sl->Prop}:HK 0 (some ⟨.par,d⟩::r) K=K ⟨.par,d⟩:=rfl
theorem cC4{K:Sl->Prop}:HK (n+1) (o::r) K=HK n r K:=rfl
def dF5{run:Run}{as as':List Sl}{y:Res}{K:Res->List Sl->Prop}(h:run as=some (y,as')):CK run as K=K y as':=by unfold CK;rw[h];rfl
end
section
variable{σ:Sg}{QS:Out->Prop}{Q:Res->Sg->Prop}{ri:DI}{g:DG}{b:DS}{a:DE}{ra:DA}
def dF6:RS (lF ri g b) σ QS=RI ri σ λitems l a=>OK1 (bQ2 g b items (lendO l a)) λo=>QS (mI l a o):=by
 unfold RS RI lF;simp only[aI,aY]
theorem bC2{K:List D->Option Nat->Sg->Prop}:RI (dIt a) σ K=RE a σ λx b=>RD b x λd=>OK1 (tO d) λl=>K l (match x with | .slot i=>some i | _=>none) b:=by
 unfold RI RE RD dIt;simp only[aI,aY];try rfl
noncomputable def dS6:List D->Option (List D)
 | [.int j]=>if -(2 ^ 62)<=j/\j < 2 ^ 62 then some (aS8 0 j.toNat)else none
 | [.int i,.int j]=>if(-(2 ^ 62)<=i/\i < 2 ^ 62) /\ -(2 ^ 62)<=j/\j < 2 ^ 62 then some (aS8 i (j-i).toNat)else none
 | _=>none
theorem aK4{K:List D->Option Nat->Sg->Prop}:RI (aS9 ra) σ K=RA ra σ λxs a=>RDs a xs λds=>OK1 (dS6 ds) λl=>K l none a:=by
 unfold RI RA RDs aS9;simp only[aI];congr 1;funext x;congr 1;funext ds
 match ds with
 | []=>rfl
 | [.int j]=>show OK1 (if -(2 ^ 62)<=j/\j < 2 ^ 62 then _ else none) _=OK1 (if -(2 ^ 62)<=j/\j < 2 ^ 62 then _ else none) _;rw[bD,bD];rfl
 | [.int i,.int j]=>show OK1 (if(-(2 ^ 62)<=i/\i < 2 ^ 62) /\ -(2 ^ 62)<=j/\j < 2 ^ 62 then _ else none) _=OK1 (if(-(2 ^ 62)<=i/\i < 2 ^ 62) /\ -(2 ^ 62)<=j/\j < 2 ^ 62 then _ else none) _;rw[bD,bD];rfl
 | [.non]=>rfl
 | [.bl _]=>rfl
 | [.str _]=>rfl
 | [.tup _]=>rfl
 | [.lst _]=>rfl
 | [.dic _ _]=>rfl
 | .non::_::_=>rfl
 | .bl _::_::_=>rfl
 | .str _::_::_=>rfl
 | .tup _::_::_=>rfl
 | .lst _::_::_=>rfl
 | .dic _ _::_::_=>rfl
 | .int _::.non::_=>rfl
 | .int _::.bl _::_=>rfl
 | .int _::.str _::_=>rfl
 | .int _::.tup _::_=>rfl
 | .int _::.lst _::_=>rfl
 | .int _::.dic _ _::_=>rfl
 | .int _::.int _::_::_=>rfl
theorem vR{j:Int}{K:List D->Prop}:OK1 (dS6 [.int j]) K=((-(2 ^ 62)<=j/\j < 2 ^ 62)/\K (aS8 0 j.toNat)):=by
 show OK1 (if -(2 ^ 62)<=j/\j < 2 ^ 62 then some (aS8 0 j.toNat)else none) K=_;rw[bD];rfl
def cN8{items:List D}(P:Nat->Sg->Prop)(h0:P 0 σ)(hs:∀ i d σ,items[i]? = some d->P i σ->OK1 (g d σ) λc=>RS b c λo=>∃ a,(o=.nx a\/o=.ct a)/\P (i+1) a){K:Out->Prop}(k:∀ σ',P items.length σ'->K (.nx σ')):OK1 (bQ2 g b items σ) K:=by
 induction items generalizing P σ with
 | nil=>exact k σ h0
 | cons d r f=>
   show OK1 ((g d σ).bind _) K;rw[aI];refine cC (hs 0 d σ rfl h0) λc h=>?_;rw[aI];refine cC h λo j=>?_;obtain⟨a,l,m⟩:=j;have go:OK1 (bQ2 g b r a) K:=f (λi=>P (i+1)) m (λi d σ e p=>hs (i+1) d σ (by simpa using e) p) λσ' p=>k σ' (by simpa using p);rcases l with rfl | rfl;exact go;exact go
theorem uA{c:DT}{K:Out->Prop}(P:Nat->Sg->Prop)(hs:∀ m σ,P m σ->RT c σ λt d=>if t=true then RS b d λo=>(∃ a m',(o=.nx a\/o=.ct a)/\m' < m/\P m' a)\/(∃ x a,o=.rt x a/\K (.rt x a))\/(∃ a,o=.bk a/\K (.nx a))else K (.nx d)) :
  ∀ (n m:Nat) (σ:Sg),m < n->P m σ->OK1 (oO c b n σ) K
 | 0,m,σ,h,_=>by lia
 | n+1,m,σ,h,p=>by
   show OK1 ((c σ).bind _) K;rw[aI];refine cC (hs m σ p) λx e=>?_;dsimp only at e;by_cases f:x.1=true
   ·rw[a3Y f]at e ⊢;rw[aI];refine cC e λo g=>?_;rcases g with⟨a,m',i,hm,j⟩ | ⟨x,a,rfl,q⟩ | ⟨a,rfl,q⟩;have go:=uA P hs n m' a (by lia) j;rcases i with rfl | rfl;exact go;exact go;exact q;exact q
   ·rw[a3Z f]at e ⊢;exact e
def bC3{c:DT}(P:Nat->Sg->Prop)(m:Nat)(hm:m < 1000000)(h0:P m σ)(hs:∀ m σ,P m σ->RT c σ λt d=>if t=true then RS b d λo=>(∃ a m',(o=.nx a\/o=.ct a)/\m' < m/\P m' a)\/(∃ x a,o=.rt x a/\QS (.rt x a))\/(∃ a,o=.bk a/\QS (.nx a))else QS (.nx d)):OK1 (oO c b cU2 σ) QS:=
 uA P hs cU2 m σ (a7b hm cK6) h0
def cN9{ow:List Nat}{t:DT}{e:DE}:RE (eM ow ri g t e) σ Q=RI ri σ λitems l a=>items.length<=sizeLine/\OK1 (aC1 ow g t e items (bJ ow (lendO l a))) λy=>Q (.own (.lst y.1)) (aB9 l a (kQ ow (lendO l a) y.2)):=by
 unfold RE RI eM;simp only[aI,bD,aY]
theorem rG{ow:List Nat}{t:DT}{e:DE}{K:List D×Sg->Prop}:∀ (items:List D) (a:Sg) (P:Nat->List D->Sg->Prop),P 0 [] a ->
  (∀ i d acc a,items[i]? = some d->P i acc a->OK1 (g d a) λh=>RT t h λb j=>if b=true then RE e j λr m=>∃ v,r=.val v/\P (i+1) (acc++[v]) (bJ ow m)else P (i+1) acc (bJ ow j)) ->
  (∀ acc a,P items.length acc a->K (acc,a))->OK1 (aC1 ow g t e items a) K
 | [],a,P,h0,_,k=>k [] a h0
 | d::r,a,P,h0,hs,k=>by
   show OK1 ((g d a).bind _) K;rw[aI];refine cC (hs 0 d [] a rfl h0) λh q=>?_;rw[aI];refine cC q λx l=>?_;dsimp only at l;by_cases o:x.1=true;rw[a3Y o]at l ⊢;rw[aI];refine cC l λy s=>?_;obtain⟨v,u,p⟩:=s;rw[u];dsimp only;rw[aI];exact rG r _ (λi acc a=>P (i+1) (v::acc) a) p (λi d' acc c n f=>by simpa using hs (i+1) d' (v::acc) c (by simpa using n) f) λacc c f=>k (v::acc) c (by simpa using f);rw[a3Z o]at l ⊢;exact rG r _ (λi acc a=>P (i+1) acc a) l (λi d' acc c n f=>hs (i+1) d' acc c (by simpa using n) f) λacc c f=>k acc c (by simpa using f)
end
section
variable{i j:Int}{l m:List D}{K:Res->Prop}{d e:D}{σ:Sg}{Q:Res->Sg->Prop}
theorem aK5:OK1 (hW (.int i) (.int j)) K=K (.val (.int (i+j))):=rfl
theorem aD0:OK1 (hW (.lst l) (.lst m)) K=(l.length+m.length<=sizeLine/\K (.own (.lst (l++m)))):=by
 show OK1 (if l.length+m.length<=sizeLine then some (Res.own (.lst (l++m)))else none) K=_;rw[bD];rfl
theorem aD1{x y:Str}:OK1 (hW (.str x) (.str y)) K=(x.length+y.length<=sizeLine/\K (.val (.str (x++y)))):=by
 show OK1 (if x.length+y.length<=sizeLine then some (Res.val (.str (x++y)))else none) K=_;rw[bD];rfl
theorem bC4:OK1 (cK9 (.int i) (.int j)) K=K (.val (.int (i-j))):=rfl
theorem bC5:OK1 (lM (.int i) (.int j)) K=(nZ i j/\K (.val (.int (i*j)))):=@bD _ (nZ i j) (Classical.propDecidable _) _ _
theorem bC6:OK1 (bL3 (.int i) (.int j)) K=(aQ1 i j/\K (.val (.int (i / j)))):=@bD _ (aQ1 i j) (Classical.propDecidable _) _ _
theorem bC7:OK1 (aP9 (.int i) (.int j)) K=(0 < j/\K (.val (.int (i % j)))):=@bD _ (0 < j) (Classical.propDecidable _) _ _
theorem cC5:OK1 (dD8 (.int i) (.int j)) K=(cU0 i j/\K (.val (.int (i ^ j.toNat)))):=@bD _ (cU0 i j) (Classical.propDecidable _) _ _
theorem cO0:OK1 (ltI (.int i) (.int j)) K=K (.val (.bl (decide (i < j)))):=rfl
theorem dF7:OK1 (leI (.int i) (.int j)) K=K (.val (.bl (decide (i<=j)))):=rfl
theorem cO1:OK1 (gtI (.int i) (.int j)) K=K (.val (.bl (decide (j < i)))):=rfl
theorem dF8:OK1 (geI (.int i) (.int j)) K=K (.val (.bl (decide (j<=i)))):=rfl
theorem dF9:OK1 (cU3 (.int i)) K=K (.val (.int (Builtin.Int.intBits i))):=rfl
theorem aK6:OK1 (ixD (.lst l) (.int i)) K=OK1 (atI l i) λd=>K (.val d):=by
 show OK1 ((atI l i).map Res.val) K=_;rw[xX]
theorem cC6:OK1 (ixD (.tup l) (.int i)) K=OK1 (atI l i) λd=>K (.val d):=by
 show OK1 ((atI l i).map Res.val) K=_;rw[xX]
theorem aD2:OK1 (vJ [.lst l]) K=K (.val (.int l.length)):=rfl
theorem aD3:OK1 (vJ [.tup l]) K=K (.val (.int l.length)):=rfl
theorem vS{b:Bool}:OK1 (cM2 [.bl b]) K=K (.val (.int (if b then 1 else 0))):=rfl
theorem bC8:OK1 (bA8 [.int i,.int j]) K=K (.val (.int (if j > i then j else i))):=rfl
theorem bC9:OK1 (xU [.int i,.int j]) K=K (.val (.int (if j < i then j else i))):=rfl
theorem bD0:OK1 (bA9 [.lst l]) K=K (.val (.tup l)):=rfl
theorem bR9:OK1 (eqD false (.int i) (.int j)) K=K (.val (.bl (decide (i=j)))):=by
 have h:aI7 (.int i) (.int j)=decide (i=j):=by
  show(i==j)=_;rw[a5f];simp
 show OK1 (if iS (.int i)=true/\iS (.int j)=true then some (Res.val (.bl (if false then !aI7 (.int i) (.int j)else aI7 (.int i) (.int j))))else none) K=_;rw[a3Y ⟨rfl,rfl⟩,h];rfl
theorem cC7{c:String}:OK1 (bR3 c (.int i)) K=K (.val (.bl (qO "int" c))):=rfl
theorem cC8{c:String}{b:Bool}:OK1 (bR3 c (.bl b)) K=K (.val (.bl (qO "bool" c))):=rfl
theorem bD1{k:Int}{K:D×D->Prop}:OK1 ((dK8 k e (.lst l)).map λb=>(b,D.non)) K=OK1 (ixN l.length k) λj=>K (.lst (l.set j e),.non):=by
 show OK1 (((ixN l.length k).map λj=>D.lst (l.set j e)).map λb=>(b,D.non)) K=_;rw[xX,xX]
theorem aK7{K:D×D->Prop}:OK1 (cM8 (.lst l) [e]) K=(l.length < sizeLine/\K (.lst (l++[e]),.non)):=by
 show OK1 (if l.length < sizeLine then some (D.lst (l++[e]),D.non)else none) K=_;rw[bD];rfl
def SK(d:D)(lo hi:Option Int)(K:Res->Prop):Prop:=OK1 (slD d lo hi) K
theorem bS0{a:DE}{x y:DO}:RE (dSl a x y) σ Q=RE a σ λr c=>RO x c λlo e=>RO y e λhi b=>RD b r λd=>SK d lo hi λv=>Q v b:=by
 unfold RE RO RD SK dSl;simp only[aI,aY]
theorem aK8{K:Option Int->Sg->Prop}:RO bA7 σ K=K none σ:=rfl
theorem dL0{a:DE}{K:Option Int->Sg->Prop}:RO (dP a) σ K=RE a σ λx b=>RD b x λd=>OK1 (match d with | .int k=>some k | _=>none) λk=>K (some k) b:=by
 unfold RO RE RD dP;simp only[aI];congr 1;funext x;congr 1;funext d;cases d<;>rfl
theorem aK9{lo hi:Option Int}:SK (.lst l) lo hi K=K (.own (.lst (bQ9 l lo hi))):=rfl
theorem bD2{x:D}{K:D->Prop}:OK1 (atI (x::l) 0) K=K x:=by
 show OK1 ((ixN (x::l).length 0).bind λj=>(x::l)[j]?) K=_;unfold ixN;rw[a3Y (Int.le_refl 0),a3Y (by first | (simp;done) | (simp;lia))];rfl
theorem bD3{x y:D}{K:D->Prop}:OK1 (atI (x::y::l) 1) K=K y:=by
 show OK1 ((ixN (x::y::l).length 1).bind λj=>(x::y::l)[j]?) K=_;unfold ixN;rw[a3Y (by decide),a3Y (by first | (simp;done) | (simp;lia))];rfl
theorem cC9{x:D}{K:Nat->Prop}:OK1 (ixN (x::l).length 0) K=K 0:=by
 unfold ixN;rw[a3Y (Int.le_refl 0),a3Y (by first | (simp;done) | (simp;lia))];rfl
theorem cD0{x y:D}{K:Nat->Prop}:OK1 (ixN (x::y::l).length 1) K=K 1:=by
 unfold ixN;rw[a3Y (by decide),a3Y (by first | (simp;done) | (simp;lia))];rfl
theorem cD1{i j:Int}(a:-(2 ^ 64) < j)(b:j < 2 ^ 64):nZ i j=True:=eq_true (.inl (.inr ⟨a,b⟩))
theorem bD4{i j:Int}(a:-(2 ^ 64) < i)(b:i < 2 ^ 64):nZ i j=True:=eq_true (.inl (.inl ⟨a,b⟩))
theorem cD2{i:Int}{p:Prop}[Decidable p]:nZ i (if p then 1 else 0)=True:=eq_true (.inl (.inr (by split<;>decide)))
theorem cO2{i j:Int}(a:0 < j)(b:j < 18446744073709551616):aQ1 i j=True:=eq_true ⟨a,b⟩
theorem dG0{i j:Int}(a:0<=j)(b:j<=1000000)(c:-18446744073709551616 < i)(d:i < 18446744073709551616):cU0 i j=True:=eq_true ⟨a,b,by show i.natAbs < 18446744073709551616;lia⟩
theorem yQ{σ:Sg}:lendO none σ=σ:=rfl
theorem bD5{σ:Sg}{o:Out}:mI none σ o=o:=by cases o<;>rfl
theorem yR{σ σ':Sg}:aB9 none σ σ'=σ':=rfl
theorem yS:(tyD "list" (.lst l)=true)=True:=by simp[tyD]
end
noncomputable def yT:List D->Option (List Str)
 | []=>some []
 | .str s::r=>(yT r).bind λl=>some (s::l)
 | _::_=>none
theorem vT:∀ {l:List D} {zs:List Str},yT l=some zs->l=zs.map D.str
 | [],_,h=>by cases h;rfl
 | .str s::r,_,h=>by
   obtain⟨l,a,b⟩:=bind_some h;cases b;rw[vT a];rfl
 | .non::_,_,h=>by cases h
 | .int _::_,_,h=>by cases h
 | .bl _::_,_,h=>by cases h
 | .tup _::_,_,h=>by cases h
 | .lst _::_,_,h=>by cases h
 | .dic _ _::_,_,h=>by cases h
def yU(zs:List Str):yT (zs.map D.str)=some zs:=by
 induction zs with
 | nil=>rfl
 | cons b r a=>show(yT (r.map D.str)).bind _=_;rw[a];rfl
noncomputable def aQ4(sep:Str):F1:=λd=>match d with
 | .lst l=>(yT l).bind λys=>if(ys.map (·.length)).sum+ys.length*sep.length<=16777216 then some (.val (.str (Txt.join sep ys)))else none
 | _=>none
def cO3{X:Cx}{e:Expr}{sep:Str}{r:DE}(K:W.Frag)(h:∀ Γ,PE X e (tBM K "str" (bM7 K) (tC (.str sep)) (dTA Γ (aA r aT)))):GE X e (aB6 (aQ4 sep) r):=.mk λΓ=>peW (h Γ) λσV H Q m=>by
 have n:dK5 (λx H Q=>bM7 K (.str sep) [x] H Q) (aQ4 sep):=by
  intro H d x Q res o e k;unfold aQ4 at e;split at e;obtain⟨ys,f,e⟩:=bind_some e;split at e;rename_i hs;cases e;obtain⟨p,xs,rfl,i,b⟩:=gZ o;rw[vT f]at b;rw[b.strs_inv]at i;exact⟨sep,p,ys,rfl,rfl,dQ i,hs,k _ H (.refl _) (.str _)⟩;cases e;cases e
 obtain⟨σ,ok,res,σ',e,k⟩:=m;obtain⟨⟨x,g⟩,f,e⟩:=bind_some e;obtain⟨q,s,e⟩:=bind_some e;obtain⟨r,u,e⟩:=bind_some e;cases e;refine⟨rfl,σ,ok,[x],g,?_,λvs w a b c _=>?_⟩;show((_:Option _).bind _)=_;rw[f];rfl;cases b with
 | cons b t=>
   cases t;refine n w q _ Q _ (b.vw a s) u λv H' j l=>?_;exact k v H' (a.same j) (l.res a) (c.trans (.same j)) (l.frh.back c)
def cO4{sep:Str}{zs:List Str}{K:Res->Prop}:OK1 (aQ4 sep (.lst (zs.map D.str))) K=((zs.map (·.length)).sum+zs.length*sep.length<=16777216/\K (.val (.str (Txt.join sep zs)))):=by
 show OK1 ((yT (zs.map D.str)).bind _) K=_;rw[yU];show OK1 (if _ then _ else none) K=_;rw[bD];rfl
def bS1{X:Cx}(K:W.Frag)(a:X.K=K):MtR X "str.join" (bM7 K):=by rw[← a];exact cH6
section
variable{σ:Sg}{Q:Res->Sg->Prop}{ra:DA}
end
end Dv
namespace PySem
section
variable{prog:Program}{w:World}{A:Around}{E:Value->Shared->Prop}{s:Shared}
def bS2{it t:Addr}{i:Nat}{its:Array Value}{x:Value}{Q:Value->Shared->Prop}(a:s.heap.IsTupleIter it t i)(e:s.heap.IsTuple t its)(f:its[i]? = some x)
  (q:∀ h',h'.IsTupleIter it t (i+1)->Heap.SameBut it s.heap h'->Q x {s with heap:=h'}):wpAny (model prog w) A (Builtin.SmallTypes.nextOf (.ref it)) Q E s:=by
 obtain⟨o,b,g,hd⟩:=id a;obtain⟨h,c,_,nt,d⟩:=e;unfold Builtin.SmallTypes.nextOf;refine a3W (wpAny_callSpecial?_slot (name:=Str.ofString "__next__") a.typeIs a9h (a4r a9h a.typeIs F.entry_tuple_iterator_next ?_ (F.args_tuple_iterator_next_1 _)));show wpAny _ _ (field (.ref it) 0 >>= _) _ _ s;refine a3W (a4m b hd (x:=.ref t) rfl ?_);show wpAny _ _ (if(Value.ref t==Value.none)=true then _ else _) _ _ s;rw[a3Z (show ¬ ((Value.ref t==Value.none)=true)from a1b)];show wpAny _ _ (field (.ref it) 1 >>= _) _ _ s;refine a3W (a4m b hd (x:=.int i 0) rfl ?_);show wpAny _ _ (seqItems? (.ref t) >>= _) _ _ s;refine a3W (a4t c d ?_);simp only[Int.toNat_natCast,f];refine a3W (a4z b hd (by simp) (wpAny_pure ⟨x,rfl,wpAny_pure (q _ ⟨_,Heap.get?_update_self _ b (Obj.isFreed_of_fields (Obj.data_mapFields hd _)),(Obj.cls_mapFields ..).trans g,by rw[Obj.data_mapFields hd];simp[rawInt]⟩ (a6h ..))⟩))
def yV{it t:Addr}{i:Nat}{its:Array Value}{Q:Value->Shared->Prop}(g:A.handled=none)(b:s.heap.IsTupleIter it t i)(h:s.heap.IsTuple t its)(j:its[i]? = none)
  (q:∀ h' e,Heap.ExtBut it s.heap h'->(∃ o,h'.get? e=some o/\o.cls=.type "StopIteration")->E (.ref e) {s with heap:=h'}):wpAny (model prog w) A (Builtin.SmallTypes.nextOf (.ref it)) Q E s:=by
 obtain⟨o,c,k,hd⟩:=id b;obtain⟨l,d,_,nt,f⟩:=h;unfold Builtin.SmallTypes.nextOf;refine a3W (wpAny_callSpecial?_slot (name:=Str.ofString "__next__") b.typeIs a9h (a4r a9h b.typeIs F.entry_tuple_iterator_next ?_ (F.args_tuple_iterator_next_1 _)));show wpAny _ _ (field (.ref it) 0 >>= _) _ _ s;refine a3W (a4m c hd (x:=.ref t) rfl ?_);show wpAny _ _ (if(Value.ref t==Value.none)=true then _ else _) _ _ s;rw[a3Z (show ¬ ((Value.ref t==Value.none)=true)from a1b)];show wpAny _ _ (field (.ref it) 1 >>= _) _ _ s;refine a3W (a4m c hd (x:=.int i 0) rfl ?_);show wpAny _ _ (seqItems? (.ref t) >>= _) _ _ s;refine a3W (a4t d f ?_);simp only[Int.toNat_natCast,j];refine a3W (a4S (a3W (a4z c hd (by simp) ?_)));show wpAny _ _ (newExc (.type "StopIteration") [] >>= _) _ _ _;refine a3W ?_;simp only[newExc,newTuple];refine a3W (a4n ?_ (by size_fits));refine a3W (m:=firstArgMember _ _) (wpAny_of_eq (a:=Value.none) (by first | rfl | (simp only[firstArgMember];rfl)) ?_);refine a4n ?_ (by size_fits);simp only[raiseNew];refine a3W (wpAny_handled ?_);rw[show A.in1.handled=none from g];refine a3W (a3X (wpAny_throw ?_));exact q _ _ (((a6h ..).extBut.push _).push _) ⟨_,a0b _ rfl,rfl⟩
end
def Draws.tup{prog:Program}{w:World}{A:Around}(f:A.handled=none)(it t:Addr)(c:t≠it)(its:Array Value) :
  Draws prog w A it [it,t] its.size (λi v=>its[i]? = some v) (λi h=>h.IsTupleIter it t i/\h.IsTuple t its) where
 live:=λ_ _ st=>st.1.imp λ_ z=>z.1
 frame:=λ_ _ _ st d=>⟨st.1.at λo e=>d it (by simp) o e,st.2.at λo e=>d t (by simp) o e⟩
 item:=λi s Q E hi st g=>bS2 st.1 st.2 (x:=its[i]) (by simp[hi]) λh' a b=>g _ h' s.toks (by simp[hi]) ⟨a,st.2.at λo e=>(b.2 t c).trans e⟩ b
 done:=λs Q E st j=>yV f st.1 st.2 (by simp) j
end PySem
namespace L2
open PySem PyProof.Rows
section
variable{X:Cx}{pins:List (Addr×Obj)}{σ:St}{H:Hp}{s:Shared}{h':Heap}{ch:List Addr}
def Inv.spun{t':Nat}{a:Addr}{o:HO}(I:Inv X pins σ H s)(h:∀ b∈ch,aT5 X pins H b)(k:∀ b u,b∉ch->s.heap.get? b=some u->h'.get? b=some u)(i:s.heap.objs.size<=a)
  (new:dD X.prog X.w (upd H a o) h' a o):Inv X pins σ (upd H a o) {s with heap:=h',toks:=t'}:=by
 have ha:H a=none:=I.hok.fresh i;have f:∀ b u,H b=some u->b∉ch:=λb u e z=>by rw[(h b z).1]at e;cases e
 refine I.step (g':=s.gens) (d':=s.drawn) (ch:=ch) (λb g=>?_) (λb u _ _ d e _=>k b u d e) (λb u _ _ d e _=>⟨u.slots,k b u d e⟩) (λb u _ e n=>?_) (λb u d e=>⟨u,k b u d e⟩)
  (λb xs e=>by rw[aD (aB e ha)];exact e) (λb u v e=>by rw[aD (aB e ha)];exact e) (λb ps e=>⟨#[],by rw[aD (aB e ha),e];simp⟩) (λm hm=>?_) (λb u e=>?_) I.bare
 ·obtain⟨y,j,A,l,p,t⟩:=h b g;exact⟨l,j,p,t⟩
 ·rw[aD (a1d (a7b (a2b e) i))];exact n
 ·obtain⟨u,es,ep,x,r⟩:=hm;exact⟨u,es,ep,k _ u (λz=>(h _ z).2.1 rfl) x,r⟩
 ·by_cases g:b=a;subst g;rw[aE]at e;cases e;exact new;rw[aD g]at e;refine(I.hok b u e).stay (λc v d q=>k c v ?_ q) (λc q=>by rw[aD (aB q ha)];exact q) λc xs q=>by rw[aD (aB q ha)];exact q
  rcases d with z | z;rw[z];exact f b u e;exact f c _ z
def Inv.spun0{t':Nat}(I:Inv X pins σ H s)(f:∀ b∈ch,aT5 X pins H b)(k:∀ b u,b∉ch->s.heap.get? b=some u->h'.get? b=some u):Inv X pins σ H {s with heap:=h',toks:=t'}:=by
 have d:∀ b u,H b=some u->b∉ch:=λb u e z=>by rw[(f b z).1]at e;cases e
 refine I.step (g':=s.gens) (d':=s.drawn) (ch:=ch) (λb g=>?_) (λb u _ _ a e _=>k b u a e) (λb u _ _ a e _=>⟨u.slots,k b u a e⟩) (λb u _ e n=>n) (λb u a e=>⟨u,k b u a e⟩)
  (λb xs e=>e) (λb u v e=>e) (λb ps e=>⟨#[],by rw[e];simp⟩) (λm hm=>?_) (λb u e=>?_) I.bare
 ·obtain⟨p,h,t,i,j,l⟩:=f b g;exact⟨i,h,j,l⟩
 ·obtain⟨u,es,ep,o,r⟩:=hm;exact⟨u,es,ep,k _ u (λz=>(f _ z).2.1 rfl) o,r⟩
 ·refine(I.hok b u e).stay (λc v a q=>k c v ?_ q) (λc q=>q) λc xs q=>q;rcases a with z | z;rw[z];exact d b u e;exact d c _ z
end
noncomputable def dO8(K:W.Frag)(a:Addr):It:=
 ⟨λi H=>∃ xs x,SqT K H a xs/\xs[i]? = some x,λi H v H'=>∃ T x,v=.ref T/\H T=none/\H'=upd H T (.tup [.int i,x])/\∀ xs,SqT K H a xs->xs[i]? = some x,λi H=>∃ xs,SqT K H a xs/\xs.length=i⟩
noncomputable def dO9(K:W.Frag)(a:Addr):It:=
 ⟨λi H=>∃ xs x,SqL K H a xs/\xs[i]? = some x,λi H v H'=>∃ T x,v=.ref T/\H T=none/\H'=upd H T (.tup [.int i,x])/\∀ xs,SqL K H a xs->xs[i]? = some x,λi H=>∃ xs,SqL K H a xs/\xs.length=i⟩
def aL0{P:Program}{w:World}{H:Hp}{h b:Heap}{e it T:Addr}{i:Nat}{tk:Tok}{u:Value}{x:V}(c:h.get? T=some {cls:=.type "tuple",data:=.seq #[.int i tk,u]})(hs:b.get? T=h.get? T)(d:dM x u):dD P w (upd H T (.tup [.int i,x])) b T (.tup [.int i,x]):=by
 have a:=hs.trans c;exact⟨by show 2<=sizeLine;decide,[.int i tk,u],.cons ⟨tk,rfl⟩ (.cons d .nil),⟨_,a,rfl,_,rfl⟩,⟨_,a,rfl⟩⟩
def aQ5{P:Program}{w:World}{K:W.Frag}{B:List Expr}{k:Nat}{pos:Pos}(a e it:Addr)(l:e≠it) :
  Turn P w K (.Tuple B k pos) (dO8 K a) [e,it] e (λi h=>(∃ old,IsEnum h e it i old)/\h.IsTupleIter it a i) where
 mem:=by simp
 obj:=λi h st b f=>by
  obtain⟨⟨old,g⟩,o,C,c,d⟩:=st;rcases a5b.mp f with z | f;subst z;exact⟨_,g,λv z=>by cases z⟩;rw[a3b.mp f];exact⟨o,C,λv z=>by rw[d]at z;cases z⟩
 keep:=λi h h' st k=>by
  obtain⟨⟨old,g⟩,hi⟩:=st;exact⟨⟨old,k e (by simp) _ g⟩,hi.at λo q=>k it (by simp) o q⟩
 item:=by
  intro X L M N O i pins s σ H E I F st Q;subst L M N;obtain⟨⟨old,g⟩,hi⟩:=st;obtain⟨xs,x,G,J⟩:=Q;obtain⟨its,R,p,hz⟩:=I.tuple G;obtain⟨u,hu,ru⟩:=R.get J;have r:s.heap.IsTuple a its.toArray:=p;have m:a≠it:=λz=>by
   obtain⟨o,j,t,_⟩:=r;obtain⟨o',S,D,_⟩:=id hi;rw[z,S]at j;cases j;rw[t]at D;injection D with q;exact absurd q (by decide)
  have T:e≠a:=λz=>by
   obtain⟨o,j,t,_⟩:=r;rw[← z,g]at j;cases j;have U:Value.type "enumerate"=Value.type "tuple":=t;injection U with q;exact absurd q (by decide)
  have V:i < its.toArray.size:=by
   have:=(a3a.mp hu).1;simpa using this
  refine wpAny_pyNext_enum_itemD (Draws.tup (A:=X.A.in1) (I.ok.hd O) it a m its.toArray) g ⟨hi,r⟩ V l (by simp[l,T]) λy j tk hy C Y hT hsz hk=>?_;obtain rfl:y=u:=by
   rw[a2d,hu]at hy;exact(a5a hy).symm
  refine⟨_,rfl,wpAny_letOwnedTupleGo_enum C λt Z n=>?_⟩;have hTe:s.heap.objs.size≠e:=λz=>absurd (a2b g) (by rw[← z];exact a8d _);have ha:H s.heap.objs.size=none:=I.hok.fresh (a4a _);refine⟨.ref s.heap.objs.size,upd H s.heap.objs.size (.tup [.int i,x]),?_,rfl,⟨_,x,rfl,ha,rfl,λys hys=>by rw[I.tuple_inj hys G];exact J⟩,⟨⟨_,Z⟩,Y.1.at λo q=>(n.2 it l.symm).trans q⟩,λb f=>?_⟩;exact I.spun (ch:=[e,it]) (t':=tk+1) F (λb u f q=>(n.2 b λz=>f (by simp[z])).trans (hk b u (λz=>f (by simp[z])) (λz=>f (by simp[z])) q)) (a4a _) (aL0 (e:=e) (it:=it) hT (n.2 _ hTe) ru);rw[aD (λz=>?_)];exact(F b f).1;obtain⟨o,C⟩:∃ o,s.heap.get? b=some o:=by
   rcases a5b.mp f with z | f;rw[z];exact⟨_,g⟩;rw[a3b.mp f];exact hi.imp λ_ q=>q.1
  exact absurd (a2b C) (by rw[z];exact a8d _)
 done:=by
  intro X L M N O i pins s σ H E I F st Q;subst L M N;obtain⟨⟨old,g⟩,hi⟩:=st;obtain⟨xs,G,J⟩:=Q;obtain⟨its,R,p,hz⟩:=I.tuple G;have r:s.heap.IsTuple a its.toArray:=p;have m:a≠it:=λz=>by
   obtain⟨o,j,t,_⟩:=r;obtain⟨o',S,D,_⟩:=id hi;rw[z,S]at j;cases j;rw[t]at D;injection D with q;exact absurd q (by decide)
  have hl:its.toArray.size=i:=by rw[a8a,← R.length];exact J
  refine wpAny_pyNext_enum_endD (Draws.tup (A:=X.A.in1) (I.ok.hd O) it a m its.toArray) g ⟨by rw[hl];exact hi,r⟩ λh' hx'=>⟨rfl,I.spun0 (ch:=[e,it]) (t':=s.toks) F λb u f q=>hx' b u (λz=>f (by simp[z])) q⟩
 self:=λ_ _ _ _ _ st h=>wpAny_pyIter_enum st.1.choose_spec h
def aQ6{P:Program}{w:World}{K:W.Frag}{B:List Expr}{k:Nat}{pos:Pos}(a e it:Addr)(l:e≠it) :
  Turn P w K (.Tuple B k pos) (dO9 K a) [e,it] e (λi h=>(∃ old,IsEnum h e it i old)/\h.IsListIter it a i) where
 mem:=by simp
 obj:=λi h st b f=>by
  obtain⟨⟨old,g⟩,o,C,c,d⟩:=st;rcases a5b.mp f with z | f;subst z;exact⟨_,g,λv z=>by cases z⟩;rw[a3b.mp f];exact⟨o,C,λv z=>by rw[d]at z;cases z⟩
 keep:=λi h h' st k=>by
  obtain⟨⟨old,g⟩,hi⟩:=st;exact⟨⟨old,k e (by simp) _ g⟩,hi.at λo q=>k it (by simp) o q⟩
 item:=by
  intro X L M N O i pins s σ H E I F st Q;subst L M N;obtain⟨⟨old,g⟩,hi⟩:=st;obtain⟨xs,x,G,J⟩:=Q;obtain⟨its,R,p,hz⟩:=I.list G;obtain⟨u,hu,ru⟩:=R.get J;have r:s.heap.IsList a its.toArray:=p.isList;have m:a≠it:=λz=>by
   obtain⟨o,j,t,_⟩:=r;obtain⟨o',S,D,_⟩:=id hi;rw[z,S]at j;cases j;rw[t]at D;injection D with q;exact absurd q (by decide)
  have T:e≠a:=λz=>by
   obtain⟨o,j,t,_⟩:=r;rw[← z,g]at j;cases j;have U:Value.type "enumerate"=Value.type "list":=t;injection U with q;exact absurd q (by decide)
  have V:i < its.toArray.size:=by
   have:=(a3a.mp hu).1;simpa using this
  refine wpAny_pyNext_enum_itemD (Draws.list (A:=X.A.in1) (I.ok.hd O) it a m its.toArray) g ⟨hi,r⟩ V l (by simp[l,T]) λy j tk hy C Y hT hsz hk=>?_;obtain rfl:y=u:=by
   rw[a2d,hu]at hy;exact(a5a hy).symm
  refine⟨_,rfl,wpAny_letOwnedTupleGo_enum C λt Z n=>?_⟩;have hTe:s.heap.objs.size≠e:=λz=>absurd (a2b g) (by rw[← z];exact a8d _);have ha:H s.heap.objs.size=none:=I.hok.fresh (a4a _);refine⟨.ref s.heap.objs.size,upd H s.heap.objs.size (.tup [.int i,x]),?_,rfl,⟨_,x,rfl,ha,rfl,λys hys=>by rw[I.list_inj hys G];exact J⟩,⟨⟨_,Z⟩,Y.1.at λo q=>(n.2 it l.symm).trans q⟩,λb f=>?_⟩;exact I.spun (ch:=[e,it]) (t':=tk+1) F (λb u f q=>(n.2 b λz=>f (by simp[z])).trans (hk b u (λz=>f (by simp[z])) (λz=>f (by simp[z])) q)) (a4a _) (aL0 (e:=e) (it:=it) hT (n.2 _ hTe) ru);rw[aD (λz=>?_)];exact(F b f).1;obtain⟨o,C⟩:∃ o,s.heap.get? b=some o:=by
   rcases a5b.mp f with z | f;rw[z];exact⟨_,g⟩;rw[a3b.mp f];exact hi.imp λ_ q=>q.1
  exact absurd (a2b C) (by rw[z];exact a8d _)
 done:=by
  intro X L M N O i pins s σ H E I F st Q;subst L M N;obtain⟨⟨old,g⟩,hi⟩:=st;obtain⟨xs,G,J⟩:=Q;obtain⟨its,R,p,hz⟩:=I.list G;have r:s.heap.IsList a its.toArray:=p.isList;have m:a≠it:=λz=>by
   obtain⟨o,j,t,_⟩:=r;obtain⟨o',S,D,_⟩:=id hi;rw[z,S]at j;cases j;rw[t]at D;injection D with q;exact absurd q (by decide)
  have hl:its.toArray.size=i:=by rw[a8a,← R.length];exact J
  refine wpAny_pyNext_enum_endD (Draws.list (A:=X.A.in1) (I.ok.hd O) it a m its.toArray) g ⟨by rw[hl];exact hi,r⟩ λh' hx'=>⟨rfl,I.spun0 (ch:=[e,it]) (t':=s.toks) F λb u f q=>hx' b u (λz=>f (by simp[z])) q⟩
 self:=λ_ _ _ _ _ st h=>wpAny_pyIter_enum st.1.choose_spec h
end L2
namespace PySem
open AutoSeq1 (wpAny_loadPart')
noncomputable abbrev bS3(l:Addr):Obj:={cls:=.type "tuple_iterator",data:=.fields #[.ref l,.int 0 0]}
noncomputable abbrev dP0(it:Addr):Obj:={cls:=.type "enumerate",data:=.fields #[.none,.bool false,.ref it,rawInt 0,.none,.none]}
def bS4(l:Addr)(its:Array Value)(n:Nat)(a:Option Addr)(sl:Array (Option Value)) :
  Meets (Builtin.«enumerate.__new__» ⟨[.type "enumerate",.ref l],[]⟩) (λ_ R s=>s.heap.get? l=some {cls:=.type "tuple",dict:=a,data:=.seq its n,slots:=sl} /\
   R (.ok (.ret (.ref (s.heap.push (bS3 l)).objs.size))) {s with heap:=(s.heap.push (bS3 l)).push (dP0 s.heap.objs.size)}):=
 .of_wp λprog w A R s h=>by
  obtain⟨f,g,d,tk,os⟩:=s;obtain⟨hl,h⟩:=h;have b:=sub_enumerate;have e:Heap.IsTuple (Shared.heap ⟨f,g,d,tk,os⟩) l its:=⟨_,hl,rfl,n,rfl⟩
  wp_walk using a4P hl
  refine wpAny_stack_any λst=>a3X ?_;split;rename_i c _ _ _ _ _;cases (c==Value.type "enumerate")<;>(wp_walk using a4P hl,a4y e;exact⟨_,rfl,h⟩)
  ·wp_walk using a4P hl,a4y e;exact⟨_,rfl,h⟩
section
variable{prog:Program}{w:World}{A:Around}{E:Value->Shared->Prop}{s:Shared}
def aQ7{l:Addr}{its:Array Value}{Q:Value->Shared->Prop}(i:s.heap.IsTuple l its)
  (h:∀ h',IsEnum h' (s.heap.objs.size+1) s.heap.objs.size 0 .none->h'.IsTupleIter s.heap.objs.size l 0->h'.objs.size=s.heap.objs.size+2->(∀ b o,s.heap.get? b=some o->h'.get? b=some o)->Q (.ref (s.heap.objs.size+1)) {s with heap:=h'}) :
  wpAny (model prog w) A (call (.type "enumerate") [.ref l]) Q E s:=by
 obtain⟨⟨c,a,dt,sl⟩,hl,j,n,hd⟩:=i;have d:c=.type "tuple":=j;have e:dt=.seq its n:=hd;subst d e;refine callType_new F.called_enumerate (by decide) (F.typeCall_enumerate_1 _) (F.newCall_enumerate_1 _) (λobj=>F.args_object_init_2 obj _) F.entry_enumerate_new (bS4 l its n a sl) ⟨hl,?_⟩;have f:(s.heap.push (bS3 l)).objs.size=s.heap.objs.size+1:=a0h ..;show _/\_;rw[f];have g:IsEnum ((s.heap.push (bS3 l)).push (dP0 s.heap.objs.size)) (s.heap.objs.size+1) s.heap.objs.size 0 .none:=by
  have:=a0b (s.heap.push (bS3 l)) (o:=dP0 s.heap.objs.size) rfl;rw[f]at this;exact this
 exact⟨⟨_,g,rfl⟩,h _ g ⟨_,a2a _ (a0b _ rfl),rfl,rfl⟩ (by rw[a0h,f]) λb o x=>a2a _ (a2a _ x)⟩
end
end PySem
namespace L2
open PySem PyProof.Rows
section
variable{X:Cx}
def dG1(K:W.Frag)(b:TA):TI:=λσ H R=>b σ H λvs a=>∃ p,vs=[.ref p]/\((∃ xs,cY a p=some (true,xs)/\R (dO9 K p) a)\/∃ xs,cY a p=some (false,xs)/\R (dO8 K p) a)
def cO5(K:W.Frag)(w:X.K=K){f:List Expr}{k:Nat}{g:Pos}{a:Expr}{t:TA}{p pos:Pos}(x:Gl X "enumerate")(hm:X.mg "enumerate"=none)(j:bootBuiltins "enumerate"=some (.type "enumerate"))(ha:PA X [a] t)(hs:starEach [a] X.env=[(false,eval a X.env)]:=by rfl):PI X (.Tuple f k g) (.Call (.Name "enumerate" p) [a] [] pos) (dG1 K t):=by
 subst w;intro pins s σ H R I h;refine Call_ (kR I x hm j (a4e (thn (ha pos pins s σ H _ I h) λus s1 Z0=>?_) hs rfl));obtain⟨vs,v,e,y,l⟩:=Z0;obtain⟨b,rfl,l⟩:=l;obtain⟨u,rfl,A⟩:=y.one;cases A;have new:∀ c,c∈[s1.heap.objs.size+1,s1.heap.objs.size]->s1.heap.objs.size<=c:=λc d=>by
  rcases a5b.mp d with z | d;lia;rw[a3b.mp d];exact a4a _
 rcases l with⟨xs,m,q⟩ | ⟨xs,m,q⟩;obtain⟨its,B,n,C⟩:=e.list (dQ m);refine call_enumerate_list n.isList λh' i hi o r=>wpAny_pyIter_enum i ?_;exact⟨_,[s1.heap.objs.size+1,s1.heap.objs.size],_,_,v,rfl,e.kept (t':=s1.toks) r,aQ6 b _ _ (Nat.succ_ne_self _),⟨⟨_,i⟩,hi⟩,λc d=>e.fpOk (new c d) (e.hok.fresh (new c d)),q⟩;obtain⟨its,B,n,C⟩:=e.tuple (cP m);refine aQ7 (show s1.heap.IsTuple b its.toArray from n) λh' i hi o r=>wpAny_pyIter_enum i ?_;exact⟨_,[s1.heap.objs.size+1,s1.heap.objs.size],_,_,v,rfl,e.kept (t':=s1.toks) r,aQ5 b _ _ (Nat.succ_ne_self _),⟨⟨_,i⟩,hi⟩,λc d=>e.fpOk (new c d) (e.hok.fresh (new c d)),q⟩
end
end L2
namespace Dv
open PySem L2 Mr
def dP1(H:Hp)(d:Option Addr):Option (Str×D)->Prop
 | some (n,y)=>∃ dx a,d=some dx/\H dx=some (.xd [(n,a)])/\Rp H y a
 | none=>d=none
def XOk(K:W.Frag)(H:Hp)(c:Str)(f:Option (Str×D))(x:Value)(d:Option Addr):Prop:=
 ∃ (e C T:Addr),x=.ref e/\H e=some (exo e (.ref C) d (.ref T))/\bP1 K C=true/\W.nsIn K mainGlobals c=some (some (.ref C))/\dP1 H d f
inductive RX where
 | ok (r:Res) | ex (c:Str) (f:Option (Str×D))
abbrev dG2:=List Sl->Option (RX×List Sl)
noncomputable def dL1(len:Nat)(a:DS):dG2:=λas=>(a (ini len as)).bind λo=>match o with
 | .nx σ=>some (.ok (.val .non),pK as σ)
 | .rt r σ=>(bQ7 σ r).bind λb=>some (.ok b,pK as σ)
 | .ex c f σ=>some (.ex c f,pK as σ)
 | _=>none
def dU9(K:W.Frag)(as:List Sl)(vs:List V)(H:Hp)(Q:L2.VK)(E:XK)(as':List Sl):RX->Prop
 | .ok res=>∀ v H',PostOk as vs H as' H'->xJ H H' res v->Q v H'
 | .ex c f=>∀ x d H',PostOk as vs H as' H'->XOk K H' c f x d->E x d H'
def dL2(K:W.Frag)(n:Nat)(run:dG2):Sp:=λvs H Q E=>∃ as r as',ArgOk H as vs/\as.length=n/\run as=some (r,as')/\dU9 K as vs H Q E as' r
section
variable{P:Program}{w:World}{K:W.Frag}{mg:Str->Option Value}{base:Heap}
def bS5{N:List Str}{as:List Sl}{vs:List V}{H:Hp}(ok:ArgOk H as vs)(g:as.length<=N.length):StOk ⟨H,bA0 as vs⟩ H (ini N.length as) (L2.dE N vs):=by
 refine⟨λi s e=>?_,λi j s t p n b c m m' e d=>?_,λi s p b m=>?_,λi s p b m e=>?_,λa o e _=>e,λa e=>e,?_⟩;obtain⟨v,f,r⟩:=ok.rel i s (dZ.mp e);exact⟨v,cL.mpr f,r⟩;exact ok.dis i j s t p n (dZ.mp b) (dZ.mp c) m m' (cL.mp e) (cL.mp d);exact absurd m (ok.own i s (dZ.mp b));exact⟨i,s,dZ.mp b,by rw[m];rfl,cL.mp e⟩;unfold ini L2.dE;have:=ok.len;simp;lia
def aD4{N:List Str}{as:List Sl}{vs:List V}{H:Hp}(ok:ArgOk H as vs){σ:Sg}{σV':St}{H':Hp}(d:StOk ⟨H,bA0 as vs⟩ H' σ σV')(b:Step (ini N.length as) (L2.dE N vs) H σ σV' H'):PostOk as vs H (pK as σ) H':=by
 have h:∀ a,nV (ini N.length as) (L2.dE N vs) a->bA0 as vs a:=λa ⟨j,t,k,m,l⟩=>⟨j,t,dZ.mp k,m,cL.mp l⟩;refine⟨λi a c m=>?_,λa o e n=>b.fr a o e λz=>n (h a z),b.dom⟩;have f:a.m=.par:=by
  have h0:=ok.own i a c;cases q:a.m with
  | par=>rfl
  | own=>exact absurd q h0
  | val=>rw[q]at m;cases m
  | lent=>rw[q]at m;cases m
 obtain⟨s',es,p,_,s⟩:=b.fix i a (dZ.mpr c) (.inl f);obtain⟨v,u,r⟩:=d.rel i s' es;obtain⟨w,g,_⟩:=ok.rel i a c;have:some (some v)=some (some w):=by rw[← u,s];exact cL.mpr g
 cases this;refine⟨s',v,?_,p,g,r⟩;rw[vH c es,a3Z (by rw[f];exact λz=>nomatch z)]
def dG3{H:Hp}{pr:Addr->Prop}{H':Hp}{σ:Sg}{σV':St}{r f:Res}{v:V}(b:StOk ⟨H,pr⟩ H' σ σV')(g:jD ⟨H,pr⟩ H' σ σV' r v)(h:bQ7 σ r=some f):xJ H H' f v:=by
 cases r with
 | val d=>cases h;exact g
 | own d=>
   cases h;obtain⟨p,e,c,n,l⟩:=g;exact⟨p,e,l,c⟩
 | slot i=>
   obtain⟨e,s',c⟩:=g;have a:(match σ[i]? with | some (some s)=>if s.m=.own then some (Res.own s.d)else if s.m=.val then some (.val s.d)else none | _=>none)=some f:=h;rw[c]at a;dsimp only at a;obtain⟨o,j,k⟩:=b.rel i s' c;rw[e]at j;cases j;split at a
   ·rename_i hm;cases a;obtain⟨p,rfl,ow⟩:=(cO (by rw[hm];exact λz=>nomatch z)).mp k;exact⟨p,rfl,b.own i s' p c hm e,ow⟩
   ·split at a;rename_i hm;cases a;obtain⟨m,d⟩:=s';cases hm;exact k;cases a
def cO6{x qual:Str}{st:Stmt}{f:Addr}{fd:FuncData}{N ps:List Str}{k:Nat}(F:Fun K x qual st f fd)(S:FnScope N ps (aH st))(j:ps.length<=N.length)(g:DS)
  (l:∀ (cdv:Value) (A:Around) (outer:List Env) (s:Shared) (H:Hp) (E:XK),Room k (A.deeper (PyProof.Rows.envOfC qual (aH st) s.heap.objs.size f cdv))->GSs ⟨XOk K,λ_=>E⟩ (zW (CXo P w) P w K mg base N qual (aH st) f cdv A outer s H E) (jG st) g) :
  FnOk P w K mg base (CXo P w) (k+1) f fd ps (dL2 K ps.length (dL1 N.length g)):=by
 refine F.okX S (λvs H Q E Z1=>by obtain⟨as,r,as',ok,hl,_⟩:=Z1;rw[← ok.len];exact hl) λcdv A outer s H vs Q E hr h=>?_;obtain⟨as,r,as',ok,hl,a,i⟩:=h;obtain⟨o,m,a⟩:=bind_some a;refine⟨_,(l cdv A outer s H E hr).to ⟨H,bA0 as vs⟩,ini N.length as,bS5 ok (by lia),o,m,?_⟩;cases o with
 | nx σ=>
   cases a;exact λσV' H' b e=>i .non H' (aD4 ok b e) .non
 | rt p σ=>
   obtain⟨t,n,a⟩:=bind_some a;cases a;exact λv σV' H' b q e=>i v H' (aD4 ok b e) (dG3 b q n)
 | ex c f σ=>
   cases a;exact λx d σV' H' b q e=>i x d H' (aD4 ok b e) q
 | bk σ=>cases a
 | ct σ=>cases a
end
section
variable{K:W.Frag}{H:Hp}{C fI:Addr}{E:XK}
end
section
variable{K:W.Frag}{H:Hp}{C fI:Addr}{E:XK}
def dV0{n:Str}{f:Str}(hn:dN6 n)(h:bP1 K C=true)(g:aS7 K C fI bmV "ValueError.__new__"=true)(i:W.findIn K (.ref C) f=some none)
  (j:∀ (e:Addr) d (T:Addr) H',H e=none->nT H H'->H' e=some (exo e (.ref C) d (.ref T))->(∃ dx,d=some dx/\H' dx=some (.xd [(f,.str n)]))->E (.ref e) d H') :
  [V.str n].length<=1000/\∀ a1,H a1=none->spS f K [.ref a1,.str n] (upd H a1 (exo a1 (.ref C) none .none)) (λv H2=>v=.non/\∃ (e C:Addr) (d:Option Addr),V.ref a1=V.ref e/\H2 e=some (exo e (.ref C) d .none)/\exR K C/\∀ T:Addr,E (.ref e) d (upd H2 e (exo e (.ref C) d (.ref T)))) E0:=
 ⟨by simp,λa1 b=>⟨a1,C,fI,n,rfl,aE,h,g,i,hn,λdx c a=>⟨rfl,a1,C,some dx,rfl,dB5 a,.inl ⟨fI,g⟩,λT=>j a1 _ T _ b (aY5 b (aY6 a c)) aE ⟨dx,rfl,cJ6 a⟩⟩⟩⟩
end
open Classical in
noncomputable def aD5(c f:Str)(a:DE):DS:=λσ=>(a σ).bind λx=>match x.1 with
 | .val (.str n)=>if dN6 n then some (.ex c (some (f,.str n)) x.2)else none
 | _=>none
def bD6{X:Cx}{K:W.Frag}{st:Stmt}{E:XK}{c f:Str}{C q:Addr}{l:DE}(m:bP1 K C=true)(r:aS7 K C q bmV "ValueError.__new__"=true)(s:W.findIn K (.ref C) f=some none)(a:W.nsIn K mainGlobals c=some (some (.ref C)))
  (h:∀ Γ,PS X st (cA5 K E (dR7 C (spS f K) E0 (dTA Γ (aA l aT))))):GS ⟨XOk K,λ_=>E⟩ X st (aD5 c f l):=.mk λΓ=>psW (h Γ) λD σV H ⟨σ,ok,o,e,k⟩=>by
 obtain⟨⟨x,b⟩,u,e⟩:=bind_some e;dsimp only at e;split at e
 ·rename_i n;split at e
  ·rename_i hn;cases e;refine⟨σ,ok,[.val (.str n)],b,?_,λvs z g i j _=>?_⟩;show((_:Option _).bind _)=_;rw[u];rfl;cases i with
   | cons i t _=>
     cases t;cases i;refine dV0 hn m r s λe d T H' A p v Z0=>?_;obtain⟨dx,w,y⟩:=Z0;exact k (.ref e) d σV H' (g.same p) ⟨e,C,T,rfl,v,m,a,dx,.str n,w,y,.str n⟩ (j.trans (.same p))
  ·cases e
 ·cases e
end Dv
namespace Dv
open PySem L2
noncomputable def rH(n:Nat):List D->List D
 | []=>[]
 | d::r=>.tup [.int (n:Int),d]::rH (n+1) r
theorem eU:∀ (n:Nat) (l:List D),(rH n l).length=l.length
 | _,[]=>rfl
 | n,_::r=>by show(rH (n+1) r).length+1=r.length+1;rw[eU]
theorem hZ:∀ {n:Nat} {l:List D} {i:Nat} {d:D},(rH n l)[i]? = some d->∃ y,l[i]? = some y/\d=.tup [.int ((n+i:Nat):Int),y]
 | _,[],_,_,h=>by simp[rH]at h
 | n,y::r,0,d,h=>by
   simp[rH]at h;exact⟨y,rfl,by rw[← h];rfl⟩
 | n,y::r,i+1,d,h=>by
   obtain⟨z,e,q⟩:=hZ (n:=n+1) (l:=r) (i:=i) (d:=d) (by simpa[rH]using h);exact⟨z,by simpa using e,by rw[q,show n+1+i=n+(i+1) by lia]⟩
def bD7{K:W.Frag}{p:Addr}{xs:List V}{l:List D}:ItD (dO9 K p) (rH 0 l) (λH=>SqL K H p xs/\Rps H l xs) where
 go:=λH i d ⟨h,r⟩ e=>by
  obtain⟨y,a,_⟩:=hZ e;obtain⟨x,ex,_⟩:=r.get a;exact⟨xs,x,h,ex⟩
 yld:=λH i d v H' ⟨h,r⟩ e ⟨T,x,c,b,f,g⟩=>by
  obtain⟨y,a,rfl⟩:=hZ e;obtain⟨k,ex,j⟩:=r.get a;have:=g xs h;rw[ex]at this;cases this;subst c f;refine⟨bE b,.tup aE (.cons ?_ (.cons (j.mono (Ext.same (bE b))) .nil))⟩;rw[a6g];exact .int _
 stop:=λH ⟨h,r⟩=>⟨xs,h,by rw[eU,r.length]⟩
def bD8{K:W.Frag}{p:Addr}{xs:List V}{l:List D}:ItD (dO8 K p) (rH 0 l) (λH=>SqT K H p xs/\Rps H l xs) where
 go:=λH i d ⟨h,r⟩ e=>by
  obtain⟨y,a,_⟩:=hZ e;obtain⟨x,ex,_⟩:=r.get a;exact⟨xs,x,h,ex⟩
 yld:=λH i d v H' ⟨h,r⟩ e ⟨T,x,c,b,f,g⟩=>by
  obtain⟨y,a,rfl⟩:=hZ e;obtain⟨k,ex,j⟩:=r.get a;have:=g xs h;rw[ex]at this;cases this;subst c f;refine⟨bE b,.tup aE (.cons ?_ (.cons (j.mono (Ext.same (bE b))) .nil))⟩;rw[a6g];exact .int _
 stop:=λH ⟨h,r⟩=>⟨xs,h,by rw[eU,r.length]⟩
noncomputable def dP2:D->Option (List D)
 | .lst l=>some l
 | .tup l=>some l
 | _=>none
noncomputable def bD9(r:DE):DI:=λσ=>(r σ).bind λx=>(rd x.2 x.1).bind λd=>(dP2 d).bind λl=>some (rH 0 l,(match x.1 with | .slot i=>some i | _=>none),x.2)
def cO7{X:Cx}{tg e:Expr}{r:DE}(K:W.Frag)(h:∀ Γ,PI X tg e (dG1 K (dTA Γ (aA r aT)))):GI X tg e (bD9 r):=.mk λΓ=>piW (h Γ) λσV H R ⟨σ,ok,items,l,w,e,k⟩=>by
 obtain⟨⟨x,m⟩,y,e⟩:=bind_some e;obtain⟨d,n,e⟩:=bind_some e;obtain⟨its,o,e⟩:=bind_some e;cases e;refine⟨σ,ok,[x],m,?_,λvs v a g i A=>?_⟩;show((_:Option _).bind _)=_;rw[y];rfl
 cases g with
 | cons g t _=>
   cases t;have vw:=g.vw a n;cases d with
   | lst z=>
     cases o;obtain⟨p,xs,rfl,j,hr⟩:=gZ vw;refine⟨p,rfl,.inl ⟨xs,j,k _ v _ a i (bD7 (xs:=xs)) λc b q f=>?_⟩⟩;obtain⟨s,u⟩:=mH a g n (items:=its) rfl vw p true xs rfl j hr c b q f;exact⟨dQ s,u⟩
   | tup z=>
     cases o;obtain⟨p,xs,rfl,j,hr⟩:=fV vw;refine⟨p,rfl,.inr ⟨xs,bK j,k _ v _ a i (bD8 (xs:=xs)) λc b q f=>?_⟩⟩;obtain⟨s,u⟩:=mH a g n (items:=its) rfl vw p false xs rfl (bK j) hr c b q f;exact⟨cP s,u⟩
   | _=>cases o
theorem bE0{σ:Sg}{a:DE}{K:List D->Option Nat->Sg->Prop}:RI (bD9 a) σ K=RE a σ λx b=>RD b x λd=>OK1 (dP2 d) λl=>K (rH 0 l) (match x with | .slot i=>some i | _=>none) b:=by
 unfold RI RE RD bD9;simp only[aI,aY];try rfl
end Dv
namespace Mr
open PySem L2
noncomputable def aT0(s:Stmt)(i:Nat):Stmt:=match s with
 | .ClassDef _ _ _ b _ _ _ _ _ _ _=>b.getD i (.Pass ⟨0,0,0,0⟩)
 | _=>.Pass ⟨0,0,0,0⟩
noncomputable def top(i:Nat):Stmt:=PySem.Challenge.pw_mostrows_k36_most_by_covers.main.body.getD i (.Pass ⟨0,0,0,0⟩)
noncomputable abbrev yW:Stmt:=top 16
noncomputable abbrev uB:Stmt:=top 17
noncomputable abbrev rJ:Stmt:=top 19
noncomputable abbrev rK:Stmt:=top 18
noncomputable abbrev gG:Stmt:=top 20
noncomputable abbrev iZ:Stmt:=top 21
noncomputable abbrev jA:Stmt:=top 22
noncomputable abbrev iA:Stmt:=top 23
noncomputable abbrev kX:Stmt:=top 24
noncomputable abbrev mK:Stmt:=top 25
noncomputable abbrev rL:Stmt:=top 26
noncomputable abbrev rM:Stmt:=top 27
noncomputable abbrev rN:Stmt:=top 28
noncomputable abbrev iB:Stmt:=top 30
noncomputable abbrev mL:Stmt:=top 31
noncomputable abbrev oR:Stmt:=top 4
noncomputable abbrev iC:Stmt:=top 6
noncomputable abbrev rO:Stmt:=aT0 (top 2) 0
noncomputable abbrev oS:Stmt:=top 11
noncomputable abbrev uC:Stmt:=top 8
noncomputable abbrev cD3:Stmt:=top 10
noncomputable abbrev iE:Stmt:=top 12
noncomputable abbrev cD4:Stmt:=top 13
noncomputable abbrev rP:Stmt:=top 32
noncomputable abbrev rQ:Stmt:=top 29
noncomputable abbrev uD:Stmt:=top 34
noncomputable abbrev rR:Stmt:=top 33
noncomputable abbrev rS:Stmt:=top 14
noncomputable abbrev rT:Stmt:=top 35
noncomputable abbrev dG4:Stmt:=top 36
set_option genInjectivity false in
structure Adr where
 NoCover:Addr
 RowsError:Addr
 a3q:Addr
 a1W:FuncData
 a2o:Addr
 a1l:FuncData
 a1N:Addr
 a0R:FuncData
 a2x:Addr
 a1q:FuncData
 a0J:Addr
 a0u:FuncData
 a0V:Addr
 a0E:FuncData
 a0U:Addr
 a0F:FuncData
 a0O:Addr
 a0v:FuncData
 a0Q:Addr
 a0x:FuncData
 a1E:Addr
 a0T:FuncData
 a2v:Addr
 a1A:FuncData
 a2D:Addr
 a1v:FuncData
 a2B:Addr
 a1t:FuncData
 a0P:Addr
 a0w:FuncData
 a1C:Addr
 a0W:FuncData
 a0r:Addr
 a1n:FuncData
 a0m:Addr
 a0B:FuncData
 a1O:Addr
 a1r:FuncData
 a0p:Addr
 a0L:FuncData
 a0A:Addr
 a1J:FuncData
 root:Addr
 a2Y:FuncData
 a0n:Addr
 a0z:FuncData
 most:Addr
 a2Z:FuncData
 a2z:Addr
 a1s:FuncData
 a2w:Addr
 a1z:FuncData
 a2H:Addr
 a1K:FuncData
 a2r:Addr
 a1w:FuncData
 a0s:Addr
 a1u:FuncData
 a2A:Addr
 a1y:FuncData
 law:Addr
 a3I:FuncData
structure Txt(K:W.Frag)(mg:Str->Option Value)(a:Adr):Prop where
 a3C:mg "NoCover"=some (.ref a.NoCover)
 a3G:W.nsIn K mainGlobals "NoCover"=some (some (.ref a.NoCover))
 a3D:bP1 K a.NoCover=true
 a3u:W.keepIn K (.ref a.NoCover)=true
 a2M:aS7 K a.NoCover a.a1O bmV "ValueError.__new__"=true
 a3v:W.isFn K (.ref a.a1O)=true
 a2P:mg "RowsError"=some (.ref a.RowsError)
 a2N:vB K a.RowsError=true
 a3x:W.findIn K (.ref a.NoCover) "column"=some none
 a3A:mg "_law_box"=some (.ref a.a3q)
 a2p:Fun K "_law_box" "_law_box" yW a.a3q a.a1W
 a0o:mg "_law_take"=some (.ref a.a2o)
 a0l:Fun K "_law_take" "_law_take" uB a.a2o a.a1l
 a2y:mg "_law_names"=some (.ref a.a1N)
 a1m:Fun K "_law_names" "_law_names" rJ a.a1N a.a0R
 a0N:mg "_law_order"=some (.ref a.a2x)
 a0t:Fun K "_law_order" "_law_order" rK a.a2x a.a1q
 a0y:mg "_law_some_columns"=some (.ref a.a0J)
 a0q:Fun K "_law_some_columns" "_law_some_columns" gG a.a0J a.a0u
 a2m:mg "_law_any_tables"=some (.ref a.a0V)
 a0I:Fun K "_law_any_tables" "_law_any_tables" iZ a.a0V a.a0E
 a2n:mg "_law_ear_tables"=some (.ref a.a0U)
 a0K:Fun K "_law_ear_tables" "_law_ear_tables" jA a.a0U a.a0F
 a1S:mg "_law_ring_tables"=some (.ref a.a0O)
 a0D:Fun K "_law_ring_tables" "_law_ring_tables" iA a.a0O a.a0v
 a2F:mg "_law_question"=some (.ref a.a0Q)
 a0S:Fun K "_law_question" "_law_question" kX a.a0Q a.a0x
 a2J:mg "_law_columns"=some (.ref a.a1E)
 a0Y:Fun K "_law_columns" "_law_columns" mK a.a1E a.a0T
 a3n:mg "_law_value"=some (.ref a.a2v)
 a1G:Fun K "_law_value" "_law_value" rL a.a2v a.a1A
 a2U:mg "_law_house"=some (.ref a.a2D)
 a1L:Fun K "_law_house" "_law_house" rM a.a2D a.a1v
 a2Q:mg "_law_cover"=some (.ref a.a2B)
 a1I:Fun K "_law_cover" "_law_cover" rN a.a2B a.a1t
 a1R:mg "_law_great_cover"=some (.ref a.a0P)
 a0C:Fun K "_law_great_cover" "_law_great_cover" iB a.a0P a.a0w
 a2K:mg "_law_product"=some (.ref a.a1C)
 a1o:Fun K "_law_product" "_law_product" mL a.a1C a.a0W
 a2L:mg "columns_of"=some (.ref a.a0r)
 a1x:Fun K "columns_of" "columns_of" oR a.a0r a.a1n
 a1U:mg "first_uncovered"=some (.ref a.a0m)
 a0G:Fun K "first_uncovered" "first_uncovered" iC a.a0m a.a0B
 a2s:Fun K "__init__" "NoCover.__init__" rO a.a1O a.a1r
 a2O:mg "look_cover"=some (.ref a.a0p)
 a1p:Fun K "look_cover" "look_cover" oS a.a0p a.a0L
 a3z:mg "to_power"=some (.ref a.a0A)
 a1P:Fun K "to_power" "to_power" uC a.a0A a.a1J
 a3N:mg "root"=some (.ref a.root)
 a3F:Fun K "root" "root" cD3 a.root a.a2Y
 a1T:mg "sizes_to_shares"=some (.ref a.a0n)
 a0H:Fun K "sizes_to_shares" "sizes_to_shares" iE a.a0n a.a0z
 a3L:mg "most"=some (.ref a.most)
 a3B:Fun K "most" "most" cD4 a.most a.a2Z
 a2S:mg "_law_whole"=some (.ref a.a2z)
 a1F:Fun K "_law_whole" "_law_whole" rP a.a2z a.a1s
 a2W:mg "_law_power"=some (.ref a.a2w)
 a1M:Fun K "_law_power" "_law_power" rQ a.a2w a.a1z
 a3y:mg "_law_edge"=some (.ref a.a2H)
 a1Q:Fun K "_law_edge" "_law_edge" uD a.a2H a.a1K
 a2X:mg "_law_truth"=some (.ref a.a2r)
 a1B:Fun K "_law_truth" "_law_truth" rR a.a2r a.a1w
 a3m:mg "looks_fit"=some (.ref a.a0s)
 a1D:Fun K "looks_fit" "looks_fit" rS a.a0s a.a1u
 a3o:mg "_law_right"=some (.ref a.a2A)
 a1H:Fun K "_law_right" "_law_right" rT a.a2A a.a1y
 a3R:mg "law"=some (.ref a.law)
 a3T:Fun K "law" "law" dG4 a.law a.a3I
 a3O:mg "bool"=none
 a2T:mg "enumerate"=none
 a3K:mg "int"=none
 a2k:mg "isinstance"=none
 a2I:mg "len"=none
 a3t:mg "list"=none
 a3S:mg "max"=none
 a3J:mg "min"=none
 a2q:mg "range"=none
 a3V:mg "set"=none
 a3H:mg "sorted"=none
 a3U:mg "sum"=none
 a2u:mg "tuple"=none
 a3Q:mg "zip"=none
def bE1:bootBuiltins "bool"=some (.type "bool"):=by decide +kernel
def sP:bootBuiltins "enumerate"=some (.type "enumerate"):=by decide +kernel
def aL1:bootBuiltins "int"=some (.type "int"):=by decide +kernel
def jU:bootBuiltins "isinstance"=some (.builtin "isinstance"):=by decide +kernel
def fK:bootBuiltins "len"=some (.builtin "len"):=by decide +kernel
def mO:bootBuiltins "list"=some (.type "list"):=by decide +kernel
def bS6:bootBuiltins "max"=some (.builtin "max"):=by decide +kernel
def vU:bootBuiltins "min"=some (.builtin "min"):=by decide +kernel
def bS7:bootBuiltins "set"=some (.type "set"):=by decide +kernel
def aD6:bootBuiltins "sorted"=some (.builtin "sorted"):=by decide +kernel
def bS8:bootBuiltins "sum"=some (.builtin "sum"):=by decide +kernel
def iF:bootBuiltins "tuple"=some (.type "tuple"):=by decide +kernel
def aL2:bootBuiltins "zip"=some (.type "zip"):=by decide +kernel
def uE:FnScope ["_law_script","_law_k","_law_cell","_law_seed"] ["_law_script","_law_k"] (aH yW):=⟨rfl,rfl,rfl,by decide +kernel,rfl,by decide +kernel,by decide +kernel⟩
def iT:FnScope ["_law_box_here","_law_many","_law_digit","_law_one"] ["_law_box_here","_law_many"] (aH uB):=⟨rfl,rfl,rfl,by decide +kernel,rfl,by decide +kernel,by decide +kernel⟩
def oU:FnScope ["_law_box_here","_law_many","_law_letters","_law_stem","_law_at","_law_first","_law_form","_law_x","_law_y","_law_z","_law_some","_law_found","_law_k","_law_word","_law_own"] ["_law_box_here","_law_many"] (aH rJ):=⟨rfl,rfl,rfl,by decide +kernel,rfl,by decide +kernel,by decide +kernel⟩
def oV:FnScope ["_law_box_here","_law_things","_law_left","_law_found"] ["_law_box_here","_law_things"] (aH rK):=⟨rfl,rfl,rfl,by decide +kernel,rfl,by decide +kernel,by decide +kernel⟩
def fY:FnScope ["_law_box_here","_law_names_here","_law_many"] ["_law_box_here","_law_names_here","_law_many"] (aH gG):=⟨rfl,rfl,rfl,by decide +kernel,rfl,by decide +kernel,by decide +kernel⟩
def iG:FnScope ["_law_box_here","_law_names_here","_law_pool","_law_found","_law_k"] ["_law_box_here","_law_names_here"] (aH iZ):=⟨rfl,rfl,rfl,by decide +kernel,rfl,by decide +kernel,by decide +kernel⟩
def iH:FnScope ["_law_box_here","_law_names_here","_law_left","_law_found","_law_k","_law_own","_law_one","_law_j"] ["_law_box_here","_law_names_here"] (aH jA):=⟨rfl,rfl,rfl,by decide +kernel,rfl,by decide +kernel,by decide +kernel⟩
def gH:FnScope ["_law_box_here","_law_names_here","_law_many","_law_ring","_law_sets","_law_one","_law_own","_law_k","_law_column"] ["_law_box_here","_law_names_here"] (aH iA):=⟨rfl,rfl,rfl,by decide +kernel,rfl,by decide +kernel,by decide +kernel⟩
def jV:FnScope ["_law_box_here","_law_kind","_law_columns_here","_law_tables","_law_way","_law_sets"] ["_law_box_here","_law_kind"] (aH kX):=⟨rfl,rfl,rfl,by decide +kernel,rfl,by decide +kernel,by decide +kernel⟩
def kY:FnScope ["_law_question_here","_law_found","_law_kt","_law_own","_law_column"] ["_law_question_here"] (aH mK):=⟨rfl,rfl,rfl,by decide +kernel,rfl,by decide +kernel,by decide +kernel⟩
def oW:FnScope ["_law_box_here","_law_span","_law_value_here"] ["_law_box_here","_law_span"] (aH rL):=⟨rfl,rfl,rfl,by decide +kernel,rfl,by decide +kernel,by decide +kernel⟩
def oX:FnScope ["_law_box_here","_law_question_here","_law_ceiling","_law_columns_here","_law_span","_law_planted","_law_even","_law_room","_law_is_even","_law_found","_law_kt","_law_own","_law_limit","_law_rows","_law_k","_law_column","_law_row"] ["_law_box_here","_law_question_here","_law_ceiling"] (aH rM):=⟨rfl,rfl,rfl,by decide +kernel,rfl,by decide +kernel,by decide +kernel⟩
def oY:FnScope ["_law_box_here","_law_question_here","_law_parts","_law_numbers","_law_column","_law_some","_law_lack","_law_at","_law_table","_law_k","_law_kt","_law_own"] ["_law_box_here","_law_question_here"] (aH rN):=⟨rfl,rfl,rfl,by decide +kernel,rfl,by decide +kernel,by decide +kernel⟩
def gJ:FnScope ["_law_box_here","_law_question_here","_law_parts","_law_numbers","_law_times","_law_more","_law_number","_law_one"] ["_law_box_here","_law_question_here"] (aH iB):=⟨rfl,rfl,rfl,by decide +kernel,rfl,by decide +kernel,by decide +kernel⟩
def kZ:FnScope ["_law_house_here","_law_numbers","_law_found","_law_rows","_law_number","_law_k"] ["_law_house_here","_law_numbers"] (aH mL):=⟨rfl,rfl,rfl,by decide +kernel,rfl,by decide +kernel,by decide +kernel⟩
def mP:FnScope ["question","found","name","columns","column"] ["question"] (aH oR):=⟨rfl,rfl,rfl,by decide +kernel,rfl,by decide +kernel,by decide +kernel⟩
def gK:FnScope ["question","shares","column","numbers","pair","number"] ["question","shares"] (aH iC):=⟨rfl,rfl,rfl,by decide +kernel,rfl,by decide +kernel,by decide +kernel⟩
def oZ:FnScope ["self","column"] ["self","column"] (aH rO):=⟨rfl,rfl,rfl,by decide +kernel,rfl,by decide +kernel,by decide +kernel⟩
def mQ:FnScope ["question","shares","column"] ["question","shares"] (aH oS):=⟨rfl,rfl,rfl,by decide +kernel,rfl,by decide +kernel,by decide +kernel⟩
def rU:FnScope ["number","power","product","step"] ["number","power"] (aH uC):=⟨rfl,rfl,rfl,by decide +kernel,rfl,by decide +kernel,by decide +kernel⟩
def bE2:FnScope ["number","power","above","low","middle"] ["number","power"] (aH cD3):=⟨rfl,rfl,rfl,by decide +kernel,rfl,by decide +kernel,by decide +kernel⟩
def gL:FnScope ["house","shares","product","rows","number"] ["house","shares"] (aH iE):=⟨rfl,rfl,rfl,by decide +kernel,rfl,by decide +kernel,by decide +kernel⟩
def bE3:FnScope ["question","house","shares"] ["question","house","shares"] (aH cD4):=⟨rfl,rfl,rfl,by decide +kernel,rfl,by decide +kernel,by decide +kernel⟩
def pA:FnScope ["_law_found"] ["_law_found"] (aH rP):=⟨rfl,rfl,rfl,by decide +kernel,rfl,by decide +kernel,by decide +kernel⟩
def pB:FnScope ["_law_number","_law_times","_law_found","_law_k"] ["_law_number","_law_times"] (aH rQ):=⟨rfl,rfl,rfl,by decide +kernel,rfl,by decide +kernel,by decide +kernel⟩
def rV:FnScope ["_law_number","_law_power_here","_law_step","_law_found"] ["_law_number","_law_power_here"] (aH uD):=⟨rfl,rfl,rfl,by decide +kernel,rfl,by decide +kernel,by decide +kernel⟩
def pC:FnScope ["_law_found","_law_due"] ["_law_found","_law_due"] (aH rR):=⟨rfl,rfl,rfl,by decide +kernel,rfl,by decide +kernel,by decide +kernel⟩
def pD:FnScope ["question","house","shares","looks","factor"] ["question","house","shares","looks"] (aH rS):=⟨rfl,rfl,rfl,by decide +kernel,rfl,by decide +kernel,by decide +kernel⟩
def pE:FnScope ["_law_question_here","_law_house_here","_law_shares","_law_drawn","_law_parts","_law_numbers","_law_product_here","_law_found","_law_factor","_law_edge_here","_law_looks"] ["_law_question_here","_law_house_here","_law_shares","_law_drawn"] (aH rT):=⟨rfl,rfl,rfl,by decide +kernel,rfl,by decide +kernel,by decide +kernel⟩
def cD5:FnScope ["_law_script","_law_some","_law_k","_law_box_here","_law_question_here","_law_house_here","_law_shares","_law_drawn"] ["_law_script"] (aH dG4):=⟨rfl,rfl,rfl,by decide +kernel,rfl,by decide +kernel,by decide +kernel⟩
section
variable{P:Program}{w:World}{K:W.Frag}{mg:Str->Option Value}{base:Heap}{a:Adr}
def bE4(T:Txt K mg a):cQ K a.a1W ["_law_script","_law_k"] []:=T.a2p.binds (ps:=["_law_script","_law_k"]) λ_ _ _ _ _ _ us hl=>match us,hl with | [_,_],_=>rfl
def aV(T:Txt K mg a):cQ K a.a1l ["_law_box_here","_law_many"] []:=T.a0l.binds (ps:=["_law_box_here","_law_many"]) λ_ _ _ _ _ _ us hl=>match us,hl with | [_,_],_=>rfl
def rW(T:Txt K mg a):cQ K a.a0R ["_law_box_here","_law_many"] []:=T.a1m.binds (ps:=["_law_box_here","_law_many"]) λ_ _ _ _ _ _ us hl=>match us,hl with | [_,_],_=>rfl
def fZ(T:Txt K mg a):cQ K a.a1q ["_law_box_here","_law_things"] []:=T.a0t.binds (ps:=["_law_box_here","_law_things"]) λ_ _ _ _ _ _ us hl=>match us,hl with | [_,_],_=>rfl
def eA(T:Txt K mg a):cQ K a.a0u ["_law_box_here","_law_names_here","_law_many"] []:=T.a0q.binds (ps:=["_law_box_here","_law_names_here","_law_many"]) λ_ _ _ _ _ _ us hl=>match us,hl with | [_,_,_],_=>rfl
def pM(T:Txt K mg a):cQ K a.a0E ["_law_box_here","_law_names_here"] []:=T.a0I.binds (ps:=["_law_box_here","_law_names_here"]) λ_ _ _ _ _ _ us hl=>match us,hl with | [_,_],_=>rfl
def pN(T:Txt K mg a):cQ K a.a0F ["_law_box_here","_law_names_here"] []:=T.a0K.binds (ps:=["_law_box_here","_law_names_here"]) λ_ _ _ _ _ _ us hl=>match us,hl with | [_,_],_=>rfl
def oB(T:Txt K mg a):cQ K a.a0v ["_law_box_here","_law_names_here"] []:=T.a0D.binds (ps:=["_law_box_here","_law_names_here"]) λ_ _ _ _ _ _ us hl=>match us,hl with | [_,_],_=>rfl
def sQ(T:Txt K mg a):cQ K a.a0x ["_law_box_here","_law_kind"] []:=T.a0S.binds (ps:=["_law_box_here","_law_kind"]) λ_ _ _ _ _ _ us hl=>match us,hl with | [_,_],_=>rfl
def vV(T:Txt K mg a):cQ K a.a0T ["_law_question_here"] []:=T.a0Y.binds (ps:=["_law_question_here"]) λ_ _ _ _ _ _ us hl=>match us,hl with | [_],_=>rfl
def aD7(T:Txt K mg a):cQ K a.a1A ["_law_box_here","_law_span"] []:=T.a1G.binds (ps:=["_law_box_here","_law_span"]) λ_ _ _ _ _ _ us hl=>match us,hl with | [_,_],_=>rfl
def aD8(T:Txt K mg a):cQ K a.a1v ["_law_box_here","_law_question_here","_law_ceiling"] []:=T.a1L.binds (ps:=["_law_box_here","_law_question_here","_law_ceiling"]) λ_ _ _ _ _ _ us hl=>match us,hl with | [_,_,_],_=>rfl
def aD9(T:Txt K mg a):cQ K a.a1t ["_law_box_here","_law_question_here"] []:=T.a1I.binds (ps:=["_law_box_here","_law_question_here"]) λ_ _ _ _ _ _ us hl=>match us,hl with | [_,_],_=>rfl
def oC(T:Txt K mg a):cQ K a.a0w ["_law_box_here","_law_question_here"] []:=T.a0C.binds (ps:=["_law_box_here","_law_question_here"]) λ_ _ _ _ _ _ us hl=>match us,hl with | [_,_],_=>rfl
def vW(T:Txt K mg a):cQ K a.a0W ["_law_house_here","_law_numbers"] []:=T.a1o.binds (ps:=["_law_house_here","_law_numbers"]) λ_ _ _ _ _ _ us hl=>match us,hl with | [_,_],_=>rfl
def yX(T:Txt K mg a):cQ K a.a1n ["question"] []:=T.a1x.binds (ps:=["question"]) λ_ _ _ _ _ _ us hl=>match us,hl with | [_],_=>rfl
def oE(T:Txt K mg a):cQ K a.a0B ["question","shares"] []:=T.a0G.binds (ps:=["question","shares"]) λ_ _ _ _ _ _ us hl=>match us,hl with | [_,_],_=>rfl
def aQ8(T:Txt K mg a):cQ K a.a1r ["self","column"] []:=T.a2s.binds (ps:=["self","column"]) λ_ _ _ _ _ _ us hl=>match us,hl with | [_,_],_=>rfl
def yY(T:Txt K mg a):cQ K a.a0L ["question","shares"] []:=T.a1p.binds (ps:=["question","shares"]) λ_ _ _ _ _ _ us hl=>match us,hl with | [_,_],_=>rfl
def aQ9(T:Txt K mg a):cQ K a.a1J ["number","power"] []:=T.a1P.binds (ps:=["number","power"]) λ_ _ _ _ _ _ us hl=>match us,hl with | [_,_],_=>rfl
def dG5(T:Txt K mg a):cQ K a.a2Y ["number","power"] []:=T.a3F.binds (ps:=["number","power"]) λ_ _ _ _ _ _ us hl=>match us,hl with | [_,_],_=>rfl
def oF(T:Txt K mg a):cQ K a.a0z ["house","shares"] []:=T.a0H.binds (ps:=["house","shares"]) λ_ _ _ _ _ _ us hl=>match us,hl with | [_,_],_=>rfl
def dG6(T:Txt K mg a):cQ K a.a2Z ["question","house","shares"] []:=T.a3B.binds (ps:=["question","house","shares"]) λ_ _ _ _ _ _ us hl=>match us,hl with | [_,_,_],_=>rfl
def aE0(T:Txt K mg a):cQ K a.a1s ["_law_found"] []:=T.a1F.binds (ps:=["_law_found"]) λ_ _ _ _ _ _ us hl=>match us,hl with | [_],_=>rfl
def aE1(T:Txt K mg a):cQ K a.a1z ["_law_number","_law_times"] []:=T.a1M.binds (ps:=["_law_number","_law_times"]) λ_ _ _ _ _ _ us hl=>match us,hl with | [_,_],_=>rfl
def aR0(T:Txt K mg a):cQ K a.a1K ["_law_number","_law_power_here"] []:=T.a1Q.binds (ps:=["_law_number","_law_power_here"]) λ_ _ _ _ _ _ us hl=>match us,hl with | [_,_],_=>rfl
def aE2(T:Txt K mg a):cQ K a.a1w ["_law_found","_law_due"] []:=T.a1B.binds (ps:=["_law_found","_law_due"]) λ_ _ _ _ _ _ us hl=>match us,hl with | [_,_],_=>rfl
def aE3(T:Txt K mg a):cQ K a.a1u ["question","house","shares","looks"] []:=T.a1D.binds (ps:=["question","house","shares","looks"]) λ_ _ _ _ _ _ us hl=>match us,hl with | [_,_,_,_],_=>rfl
def aE4(T:Txt K mg a):cQ K a.a1y ["_law_question_here","_law_house_here","_law_shares","_law_drawn"] []:=T.a1H.binds (ps:=["_law_question_here","_law_house_here","_law_shares","_law_drawn"]) λ_ _ _ _ _ _ us hl=>match us,hl with | [_,_,_,_],_=>rfl
end
local macro_rules | `(tactic| walk_at "s")=>do
 let l:=("tK aV9 bZ1 bZ2 bZ3 aW0 aH1 aW1 aV6 aV7 dR3 cZ6 bY8 bM8 cZ7 aV8 bY9 bZ0 bZ4 aW2 aW3 cZ8 cZ9 wV aW4 wW aW5 aH6 aH4 bZ8 cA2 cA3 dA4 cA1 aW8 bZ9 aW9 aX0 reduceIte wX wY aX1 aX2 dA9 aY4 cA6 cA7".splitOn " ").toArray.map fun s=>Lean.mkIdent s.toName
 let m:=("dR5 List.set_cons_zero List.set_cons_succ bZ7 dA3 Int.reducePow Int.reduceNeg Int.reduceLT Int.reduceLE Int.reduceAdd".splitOn " ").toArray.map fun s=>Lean.mkIdent s.toName
 `(tactic| simp only[$[↓$l:ident],*,$[$m:ident],*])
local macro_rules | `(tactic| walk_at "y")=>do
 let l:=("aV9 bZ1 bZ2 bZ3 aW0 aH1 aW1 aV6 aV7 dR3 cZ6 bY8 bM8 cZ7 aV8 bY9 bZ0 bZ4 aW2 aW3 cZ8 cZ9 wV aW4 wW aW5 aH6 aH4 bZ8 cA2 cA3 dA4 cA1 aW8 bZ9 aW9 aX0 wX wY aX1 aX2 dA9 aY4 cA6 cA7 reduceIte".splitOn " ").toArray.map fun s=>Lean.mkIdent s.toName
 let m:=("dR5 List.set_cons_zero List.set_cons_succ bZ7 dA3 Int.reducePow Int.reduceNeg Int.reduceLT Int.reduceLE Int.reduceAdd".splitOn " ").toArray.map fun s=>Lean.mkIdent s.toName
 `(tactic| simp only[$[↓$l:ident],*,$[$m:ident],*])
section
variable{P:Program}{w:World}{K:W.Frag}{mg:Str->Option Value}{base:Heap}{a:Adr}
def yZ(T:Txt K mg a):FnOk P w K mg base CX0 1 a.a1O a.a1r ["self","column"] (xI K):=by
 refine T.a2s.ok oZ (λvs H Q E h=>?_) (λcdv A outer s H vs Q E hr h=>?_);obtain⟨e,C,b,i,rfl,_⟩:=h;rfl;obtain⟨e,C,b,z,rfl,c,f,g,j,d,k⟩:=h;have nd:=oZ.nd;refine⟨_,(aO (iL (cJ5 K rfl T.a2N (by rfl) T.a2P (aC (pv 0) (aC (dB4 (pv 1)) aJ))))
  (bB (dN5 K rfl (pv 0) (pv 1)))),?_⟩
 rw[show dE ["self","column"] [.ref e,.str z]=([some (.ref e),some (.str z)]:St)from rfl]
 try walk_at "s"
 exact⟨z,rfl,by have:=d.1;lia,d.2,λl=>⟨e,C,b,.none,l,rfl,c,g,e,C,.none,rfl,c,f,j,k⟩⟩
end
section
variable{P:Program}{w:World}{K:W.Frag}{mg:Str->Option Value}{base:Heap}{a:Adr}
def aS(T:Txt K mg a):FnOk P w K mg base CX0 1 a.a2o a.a1l ["_law_box_here","_law_many"] (aB0 K):=by
 refine T.a0l.ok iT (λvs H Q E h=>?_) (λcdv A outer s H vs Q E hr h=>?_);obtain⟨p,m,rfl,_⟩:=h;rfl;obtain⟨p,m,rfl,⟨i,j,d⟩,c,l,k⟩:=h;have nd:=iT.nd;refine⟨_,(aO (nO (bZ aN4 (jC wI (pv 0) aM (λ_ _=>rfl)) aM (cE _)) (aO (cR (i:=2) nd rfl (Or.inl rfl) (fH tF (jC wI (pv 0) aM (λ_ _=>rfl)) (pv 1)))
  (aO (tE (fH aT9 (jC wI (pv 0) aM (λ_ _=>rfl)) (pv 1)) (aT4 (pv 0) aM uP))
  (bB (lN (pv 2))))) fR)
  (aO (cR (i:=3) nd rfl (Or.inl rfl) (fH tF (fH aH3 (jC wI (pv 0) aM (λ_ _=>rfl)) aM) aM))
  (aO (tE (fH gY (fH tF (fH gY (fH aH3 (pv 3) aM) aM) aM) aM) (aT4 (pv 0) aM uP))
  (bB (lN (fH tF (fH aT9 (fH gY (fH aH3 (pv 3) aM) (jC wI (pv 0) aM (λ_ _=>rfl))) aM) (pv 1))))))),?_⟩
 rw[show dE ["_law_box_here","_law_many","_law_digit","_law_one"] [.ref p,.int m]=([some (.ref p),some (.int m),none,none]:St)from rfl];have f:ixF H (.ref p) (.int 0)=some (.int i):=dS (aL d) rfl;have n:ixF H (.ref p) (.int 1)=some (.int j):=dS (aL d) rfl;have r:∀ x,bL8 x 69623:=λx=>dN1 (by decide) (by decide);have cd:∀ x,cX3 x m:=λx=>⟨c,l⟩
 try walk_at "s"
 rw[jJ f]
 try walk_at "s"
 refine tJ (λq=>?_) (λq=>?_)
 ·rw[jJ f,aW7 c]
  try walk_at "s"
  rw[jJ f,cH9 (cd _)]
  try walk_at "s"
  rw[aW6 (k:=0) (j:=0) d rfl];exact k _ _ (a7h _ (by lia)) (a4g _ c) ⟨_,_,aE⟩ λb o g e=>by rw[aD g];exact e
 ·rw[jJ n]
  try walk_at "s"
  rw[aW6 (k:=1) (j:=1) d rfl]
  try walk_at "s"
  rw[jJ (dS (aL aE) rfl)]
  try walk_at "s"
  rw[aW7 c];exact k _ _ (a7h _ (by lia)) (a4g _ c) ⟨_,_,aE⟩ λb o g e=>by rw[aD g];exact e
def eB(T:Txt K mg a):FnOk P w K mg base CX0 2 a.a2x a.a1q ["_law_box_here","_law_things"] (xD K):=by
 refine T.a0t.ok oV (λvs H Q E h=>?_) (λcdv A outer s H vs Q E hr h=>?_);obtain⟨p,q,b,xs,rfl,_⟩:=h;rfl;obtain⟨p,q,b,xs,rfl,G,V,hx,k⟩:=h;have nd:=oV.nd;refine⟨_,(aO (cR (i:=2) nd rfl (Or.inl rfl) (dN kD (by rfl) T.a3t (mO) (aC (pv 1) aJ)))
  (aO (cR (i:=3) nd rfl (Or.inl rfl) (oJ aJ))
  (aO (aG6 a7d (bZ aN4 (cH dR (by rfl) T.a2I (fK) (aC (pv 2) aJ)) aM (cE _)) (bB (iL (iX K rfl a4d a3f a4f fT (pv 3) (aC (iX K rfl a4d F.slot_list_pop F.type_list_pop bM4 (pv 2) (aC (aK (aS T) (hr.mono (by decide)) rfl T.a0o T.a0l.kp (aV T) .nil bF (aC (pv 0) (aC (cH dR (by rfl) T.a2I (fK) (aC (pv 2) aJ)) aJ))) aJ)) aJ)))))
  (bB (lN (pv 3)))))),?_⟩
 rw[show dE ["_law_box_here","_law_things","_law_left","_law_found"] [.ref p,.ref q]=([some (.ref p),some (.ref q),none,none]:St)from rfl]
 try walk_at "s"
 refine up (pV V) ?_;intro l hl;have v:l≠p:=by obtain⟨i,j,e⟩:=G;exact(aB e hl).symm
 refine⟨a7c _,λf u=>?_⟩;have g:l≠f:=aB aE u;have x:f≠p:=by obtain⟨i,j,e⟩:=G.upd (o:=.lst xs) hl;exact(aB e u).symm
 have y:H f=none:=by rw[aD g.symm]at u;exact u
 refine cI4 (λm σ H2=>∃ zs fs,m=zs.length/\σ=[some (.ref p),some (.ref q),some (.ref l),some (.ref f)]/\H2 l=some (.lst zs)/\H2 f=some (.lst fs)/\(fs++zs).Perm xs/\bG H2 p/\SameBut p H H2) xs.length
  ⟨xs,[],rfl,rfl,by rw[aD g];exact aE,aE,by simpa using List.Perm.refl xs,(G.upd hl).upd u,λb o _ e=>by
   rw[aD (aB (H:=upd H l (.lst xs)) (by rw[aD (aB e hl)];exact e) u),aD (aB e hl)];exact e⟩ ?_
 rintro m σ H2 N ⟨zs,fs,rfl,rfl,D,n,c,z,B⟩ W;have S:fs.length+zs.length=xs.length:=by rw[← c.length_eq,a0c]
 try walk_at "s"
 rw[dH (aL D)]
 try walk_at "s"
 refine tJ (λI=>?_) (λI=>?_)
 ·have J:0 < (zs.length:Int):=by simpa using I
  refine⟨N,λ_ _ h=>h,?_⟩;refine⟨tyL n,tyL D,?_⟩;rw[dH (aL D)];refine lL ⟨p,_,rfl,z,J,by lia,λd H3 X Y L r=>?_⟩;have M:=r l _ v D;have O:=r f _ x n;have U:=aA2 (dA7 X Y);have t:d.toNat < zs.length:=U.2.1;have Z:=oH;refine⟨l,zs,d,d.toNat,zs[d.toNat],rfl,rfl,M,by lia,by have:zs.length<=1000:=by lia
                                                                                                                                                                                                                                                                            lia,U.1,a0a t,?_⟩
  refine⟨f,fs,_,rfl,rfl,by rw[aD g.symm];exact O,a8g (by lia:fs.length<=1000) (by decide),?_⟩;refine W _ _ (zs.eraseIdx d.toNat).length (by rw[List.length_eraseIdx_of_lt t];lia) ⟨_,_,rfl,rfl,by rw[aD g,aE],aE,?_,?_,?_⟩;refine List.Perm.trans ?_ c;rw[List.append_assoc];exact List.Perm.append_left fs (tL zs _ t);obtain⟨i,j,e⟩:=L;exact⟨i,j,by rw[aD x.symm,aD v.symm];exact e⟩;intro b o C e;have e2:=r b o C (B b o C e);rw[aD (aB e y),aD (aB e hl)];exact e2
 ·have R:zs=[]:=by
   have:¬ (0 < (zs.length:Int)):=by simpa using I
   exact a7e (by lia)
  subst R;exact k f fs H2 y n (by simpa using c) z B
def cX(T:Txt K mg a):FnOk P w K mg base CX0 3 a.a0J a.a0u ["_law_box_here","_law_names_here","_law_many"] (lC K):=by
 refine T.a0q.ok fY (λvs H Q E h=>?_) (λcdv A outer s H vs Q E hr h=>?_);obtain⟨p,q,b,xs,m,rfl,_⟩:=h;rfl;obtain⟨p,q,b,xs,m,rfl,i,j,n,f,k⟩:=h;have nd:=fY.nd;refine⟨_,(bB (lN (dN lU (by rfl) T.a2u (iF) (aC (kA bZ5 (aK (eB T) (hr.mono (by decide)) rfl T.a0N T.a0t.kp (fZ T) .nil bF (aC (pv 0) (aC (pv 1) aJ))) nQ (nR (pv 2))) aJ)))),?_⟩;rw[show dE ["_law_box_here","_law_names_here","_law_many"] [.ref p,.ref q,.int m]=([some (.ref p),some (.ref q),some (.int m)]:St)from rfl]
 try walk_at "s"
 refine lL ⟨p,q,b,xs,rfl,i,j,n,λr ys v hr o g d e=>?_⟩
 try walk_at "s"
 refine xE (aL o) λl hl=>?_;refine up (aB1 (aL aE)) ?_;intro t c;rw[iN f];refine k t (ys.take m.toNat) _ ((e.upd hl).none (d.upd hl) (by rw[iN f]at c;exact c)) aE (by rw[a3d,g.length_eq]) (λy u=>g.mem_iff.mp (a1f u)) ?_ ?_;rw[iN f]at c;exact(d.upd hl).upd c;rw[iN f]at c;exact(e.upd hl).upd c
def mR(T:Txt K mg a):FnOk P w K mg base CX0 4 a.a0V a.a0E ["_law_box_here","_law_names_here"] (qR K):=by
 refine T.a0I.ok iG (λvs H Q E h=>?_) (λcdv A outer s H vs Q E hr h=>?_);obtain⟨p,q,zs,rfl,_⟩:=h;rfl;obtain⟨p,q,zs,rfl,hb,hq,O,⟨Z,hn2⟩,k⟩:=h;have nd:=iG.nd;refine⟨_,(aO (cR (i:=2) nd rfl (Or.inl rfl) (kA bZ5 (pv 1) nQ (nR (fH gY aM (aK (aS T) (hr.mono (by decide)) rfl T.a0o T.a0l.kp (aV T) .nil bF (aC (pv 0) (aC aM aJ)))))))
  (aO (cR (i:=3) nd rfl (Or.inl rfl) (oJ aJ))
  (aO (fG a7d rfl (jF rfl T.a2q (aC (fH gY aM (aK (aS T) (hr.mono (by decide)) rfl T.a0o T.a0l.kp (aV T) .nil bF (aC (pv 0) (aC aM aJ)))) aJ)) (aP (i:=4) nd rfl (Or.inl rfl))
  (bB (iL (iX K rfl a4d a3f a4f fT (pv 3) (aC (aK (cX T) (hr.mono (by decide)) rfl T.a0y T.a0q.kp (eA T) .nil bF (aC (pv 0) (aC (pv 2) (aC (fH gY aM (aK (aS T) (hr.mono (by decide)) rfl T.a0o T.a0l.kp (aV T) .nil bF (aC (pv 0) (aC (cH (qJ rfl) (by rfl) T.a3J (vU) (aC aM (aC (cH dR (by rfl) T.a2I (fK) (aC (pv 2) aJ)) aJ))) aJ)))) aJ)))) aJ)))))
  (bB (lN (pv 3)))))),?_⟩
 rw[show dE ["_law_box_here","_law_names_here","_law_pool","_law_found","_law_k"] [.ref p,.ref q]=([some (.ref p),some (.ref q),none,none,none]:St)from rfl];have hqp:q≠p:=by obtain⟨i,j,e⟩:=hb;intro z;subst z;rw[hq]at e;exact absurd (a4u (λo=>match o with | some (HO.lst l)=>l.length | _=>0) e) (by simp[O])
 try walk_at "s"
 refine lL ⟨p,6,rfl,hb,by decide,by decide,λN H1 d10 d11 n D=>?_⟩
 try walk_at "s"
 refine xE (aL (D q _ hqp hq)) λb d=>?_;have F:pS (zs.map V.str) none (some (1+N))=(zs.take (1+N).toNat).map V.str:=by rw[iN (by lia),a9j]
 have g:(zs.take (1+N).toNat).length=(1+N).toNat:=by rw[a3d,O];lia
 have R:gP (zs.take (1+N).toNat):=λz hz=>Z z (a1f hz);rw[F];generalize zs.take (1+N).toNat=pl at g R ⊢
 try walk_at "s"
 refine⟨a7c _,λf S=>?_⟩;have hb2:bG (upd (upd H1 b (.lst (pl.map V.str))) f (.lst [])) p:=(n.upd d).upd S;have hs2:SameBut p H (upd (upd H1 b (.lst (pl.map V.str))) f (.lst [])):=(D.upd d).upd S;have t:f≠p:=(n.upd d).ne S;have u:b≠p:=n.ne d;have U:b≠f:=aB aE S;have W:H f=none:=(D.upd d).none (n.upd d) S;refine lL ⟨p,6,rfl,hb2,by decide,by decide,λd2 H3 d20 d21 hb3 G=>?_⟩
 try walk_at "s"
 refine⟨_,rfl,by lia,by lia,?_⟩;refine aH2 (P:=λ_=>True) lS (λi σ H2=>∃ (es:List V) (o4:Option V),σ=[some (V.ref p),some (V.ref q),some (V.ref b),some (V.ref f),o4]/\H2 f=some (.lst es)/\es.length=i/\eL H2 es/\H2 b=some (.lst (pl.map V.str))/\bG H2 p/\SameBut p H H2)
  ⟨[],none,rfl,G f _ t aE,rfl,(λe he=>nomatch he),G b _ u (by rw[aD U];exact aE),hb3,hs2.trans G⟩ (λ_ _ _ _=>trivial) ?_ ?_
 ·rintro i x σ H2 hx ⟨es,o4,rfl,v,I,J,y,B,L⟩;have hi:=(kB hx).1
  try walk_at "s"
  refine⟨tyL v,?_⟩;rw[dH (aL y)]
  try walk_at "s"
  refine lL ⟨p,_,rfl,B,by rw[a1a,g];lia,by lia,λd5 H5 d50 d51 X m=>?_⟩
  try walk_at "s"
  refine lL ⟨p,b,true,_,_,rfl,X,aL (m b _ u y),by rw[a1a,g];lia,by lia,λr ys H6 hr e6 Y hym hb6 C=>?_⟩;obtain⟨cs,rfl,hcs⟩:=lD hym;have M:=C f _ t (m f _ t v);refine⟨f,es,_,rfl,rfl,M,a8g (by lia:es.length<=6) (by decide),?_⟩;have tx:dI H2 H6:=(m.tup B).trans (C.tup X);refine⟨es++[.ref r],_,rfl,aE,by simp[I],?_,?_,hb6.put t,((L.trans m).trans C).put W⟩;intro e he;rcases a1c.mp he with h | h;exact(J.mono (tx.trans (iP M))) e h;rw[a3b.mp h];refine⟨r,cs,rfl,iP M _ _ e6,?_,λc hc=>R c (hcs c hc)⟩;rw[a1a]at Y;rw[a1a]at Y;lia;rw[aD U];exact C b _ u (m b _ u y)
 ·rintro σ H2 ⟨es,o4,rfl,v,I,J,y,B,L⟩;rw[eK]at I
  try walk_at "s"
  exact k f es H2 W v (by lia) (by lia) J B L
def mS(T:Txt K mg a):FnOk P w K mg base CX0 4 a.a0U a.a0F ["_law_box_here","_law_names_here"] (qR K):=by
 refine T.a0K.ok iH (λvs H Q E h=>?_) (λcdv A outer s H vs Q E hr h=>?_);obtain⟨p,q,zs,rfl,_⟩:=h;rfl;obtain⟨p,q,zs,rfl,hb,hq,hl6,⟨hsh,hn2⟩,k⟩:=h;have nd:=iH.nd;refine⟨_,(aO (cR (i:=2) nd rfl (Or.inl rfl) (dN kD (by rfl) T.a3t (mO) (aC (kA bZ5 (pv 1) nQ (nR aM)) aJ)))
  (aO (cR (i:=3) nd rfl (Or.inl rfl) (oJ aJ))
  (aO (fG a7d rfl (jF rfl T.a2q (aC (fH gY aM (aK (aS T) (hr.mono (by decide)) rfl T.a0o T.a0l.kp (aV T) .nil bF (aC (pv 0) (aC aM aJ)))) aJ)) (aP (i:=4) nd rfl (Or.inl rfl))
  (aO (cR (i:=5) nd rfl (Or.inl rfl) (oJ aJ))
  (aO (nO (bZ aN4 (pv 4) aM (cE _)) (aO (cR (i:=6) nd rfl (Or.inl rfl) (jC wI (pv 3) (aK (aS T) (hr.mono (by decide)) rfl T.a0o T.a0l.kp (aV T) .nil bF (aC (pv 0) (aC (pv 4) aJ))) (λ_ _=>rfl)))
  (bB (cR (i:=5) nd rfl (Or.inl rfl) (dN kD (by rfl) T.a3t (mO) (aC (aK (cX T) (hr.mono (by decide)) rfl T.a0y T.a0q.kp (eA T) .nil bF (aC (pv 0) (aC (pv 6) (aC (aK (aS T) (hr.mono (by decide)) rfl T.a0o T.a0l.kp (aV T) .nil bF (aC (pv 0) (aC (fH gY (cH (qJ rfl) (by rfl) T.a3J (vU) (aC aM (aC (cH dR (by rfl) T.a2I (fK) (aC (pv 6) aJ)) aJ))) aM) aJ))) aJ)))) aJ))))) fR)
  (aO (fG a7d rfl (jF rfl T.a2q (aC (aK (aS T) (hr.mono (by decide)) rfl T.a0o T.a0l.kp (aV T) .nil bF (aC (pv 0) (aC (fH bY1 aM (cH dR (by rfl) T.a2I (fK) (aC (pv 5) aJ))) aJ))) aJ)) (aP (i:=7) nd rfl (Or.inl rfl))
  (bB (nO (bZ aN4 (cH dR (by rfl) T.a2I (fK) (aC (pv 2) aJ)) aM (cE _)) (bB (iL (iX K rfl a4d a3f a4f fT (pv 5) (aC (aX8 K rfl a4d F.slot_list_pop F.type_list_pop cY9 (pv 2)) aJ)))) fR)))
  (aO (nO (bZ (lW hr.units) (cH dR (by rfl) T.a2I (fK) (aC (pv 5) aJ)) aM (cE _)) (bB (cR (i:=5) nd rfl (Or.inl rfl) (aG4 (bZ (lW hr.units) (pv 4) aM (cE _)) (oJ (aC (jC wI (pv 1) aM (λ_ _=>rfl)) aJ)) (oJ (aC (jC wI (jC wI (pv 3) aM (λ_ _=>rfl)) aM (λ_ _=>rfl)) aJ))))) fR)
  (aO (nO (PW.pt (tD (bZ dA6 (jC wI (pv 1) aM (λ_ _=>rfl)) (pv 5) (by with_unfolding_all rfl)) (qH (bZ dA6 (jC wI (pv 1) aM (λ_ _=>rfl)) (pv 2) (by with_unfolding_all rfl))))) (bB (iL (iX K rfl a4d F.slot_list_remove F.type_list_remove aX3 (pv 2) (aC (jC wI (pv 1) aM (λ_ _=>rfl)) aJ)))) fR)
  (bB (iL (iX K rfl a4d a3f a4f fT (pv 3) (aC (dN lU (by rfl) T.a2u (iF) (aC (aK (eB T) (hr.mono (by decide)) rfl T.a0N T.a0t.kp (fZ T) .nil bF (aC (pv 0) (aC (pv 5) aJ))) aJ)) aJ))))))))))
  (bB (lN (pv 3)))))),?_⟩
 rw[show dE ["_law_box_here","_law_names_here","_law_left","_law_found","_law_k","_law_own","_law_one","_law_j"] [.ref p,.ref q]=([some (.ref p),some (.ref q),none,none,none,none,none,none]:St)from rfl];have hqp:q≠p:=by obtain⟨i,j,e⟩:=hb;intro z;subst z;rw[hq]at e;exact absurd (a4u (λo=>match o with | some (HO.lst l)=>l.length | _=>0) e) (by simp[hl6])
 obtain⟨z0,zr,hz0⟩:∃ z0 zr,zs=z0::zr:=by
  cases zs with
  | nil=>cases hl6
  | cons z r=>exact⟨z,r,rfl⟩
 have hz0s:Shz z0:=hsh z0 (by rw[hz0];exact a6a);have at0:∀ H',H' q=some (.lst (zs.map V.str))->ixF H' (.ref q) (.int 0)=some (.str z0):=λH' e=>dS (aL e) (by rw[hz0];exact dK3)
 try walk_at "s"
 refine xE (aL hq) λl0 D=>?_;refine up (pV (aL aE)) ?_;intro l hl;have el:pS (zs.map V.str) none (some 6)=(zs.take 6).map V.str:=by rw[iN (by decide),a9j];rfl
 rw[el]at hl ⊢;have lsh:gP (zs.take 6):=λz R=>hsh z (a1f R);have llen:(zs.take 6).length<=6:=by rw[a3d];lia
 generalize zs.take 6=g at hl lsh llen ⊢
 try walk_at "s"
 refine⟨a7c _,λf hf=>?_⟩;have hb1:bG (upd (upd (upd H l0 (.lst (g.map V.str))) l (.lst (g.map V.str))) f (.lst [])) p:=((hb.upd D).upd hl).upd hf;have hs1:SameBut p H (upd (upd (upd H l0 (.lst (g.map V.str))) l (.lst (g.map V.str))) f (.lst [])):=((SameBut.refl.upd D).upd hl).upd hf;have S:f≠p:=((hb.upd D).upd hl).ne hf;have U:l≠p:=(hb.upd D).ne hl;have hlf:l≠f:=aB aE hf;have hlH:H l=none:=(SameBut.refl.upd D).none (hb.upd D) hl;have hf0:H f=none:=((SameBut.refl.upd D).upd hl).none ((hb.upd D).upd hl) hf;have hll:(upd (upd (upd H l0 (.lst (g.map V.str))) l (.lst (g.map V.str))) f (.lst [])) l=some (.lst (g.map V.str)):=by rw[aD hlf];exact aE
 have hff:(upd (upd (upd H l0 (.lst (g.map V.str))) l (.lst (g.map V.str))) f (.lst [])) f=some (.lst []):=aE;generalize upd (upd (upd H l0 (.lst (g.map V.str))) l (.lst (g.map V.str))) f (.lst [])=H1 at hb1 hs1 hll hff ⊢;refine lL ⟨p,6,rfl,hb1,by decide,by decide,λd2 H3 d20 d21 hb3 hs3=>?_⟩
 try walk_at "s"
 refine⟨_,rfl,by lia,by lia,?_⟩;refine aH2 (P:=λ_=>True) lS (λi σ H2=>∃ (es:List V) (ls:List Str) (o4 o5 o6 o7:Option V),σ=[some (V.ref p),some (V.ref q),some (V.ref l),some (V.ref f),o4,o5,o6,o7]/\H2 f=some (.lst es)/\es.length=i/\eL H2 es /\
   (∀ e,es[0]? = some e->∃ (c:Addr) (z:Str) (G:List Str),e=.ref c/\H2 c=some (.tup ((z::G).map V.str))/\Shz z)/\H2 l=some (.lst (ls.map V.str))/\gP ls/\ls.length<=6/\bG H2 p/\SameBut p H H2)
  ⟨[],g,none,none,none,none,rfl,hs3 f _ S hff,rfl,(λe u=>nomatch u),(λe u=>by simp at u),hs3 l _ U hll,lsh,llen,hb3,hs1.trans hs3⟩ (λ_ _ _ _=>trivial) ?_ ?_
 ·rintro i x σ H2 hx ⟨es,ls,o4,o5,o6,o7,rfl,hfe,hel,hse,hfst,hle,hlsh,hll6,J,hs4⟩;obtain⟨hi,rfl⟩:=kB hx;have hi6:i < 6:=by lia
  try walk_at "y"
  rw[tK]
  try walk_at "y"
  refine⟨a7c _,λw0 b=>?_⟩
  try walk_at "y"
  -- what an own list is: at w,texts ws
  refine jM (λσ' H'=>∃ (w:Addr) (ws:List Str) (I:Option V),σ'=[some (V.ref p),some (V.ref q),some (V.ref l),some (V.ref f),some (V.int (0+(i:Int))),some (V.ref w),I,o7]/\H w=none/\w≠l/\w≠f/\H' w=some (.lst (ws.map V.str))/\ws.length<=3/\gP ws /\
   H' f=some (.lst es)/\eL H' es/\(∀ e,es[0]? = some e->∃ (c:Addr) (z:Str) (G:List Str),e=.ref c/\H' c=some (.tup ((z::G).map V.str))/\Shz z)/\H' l=some (.lst (ls.map V.str))/\bG H' p/\SameBut p H H') ?_ ?_
  ·rintro σ' H5 ⟨w,ws,I,rfl,hwn,hwl,hwf,hww,hwlen,hwsh,hfe5,hse5,hfst5,hle5,hb5,hs5⟩;have hwp:w≠p:=by intro z;subst z;obtain⟨i',j',e'⟩:=hb;rw[hwn]at e';cases e'
   -- the row of the inner loop
   refine jM (λσ' H'=>∃ (ws' ls':List Str) (n:Option V),σ'=[some (V.ref p),some (V.ref q),some (V.ref l),some (V.ref f),some (V.int (0+(i:Int))),some (V.ref w),I,n]/\H' w=some (.lst (ws'.map V.str))/\ws'.length<=4/\gP ws' /\
    H' f=some (.lst es)/\eL H' es/\(∀ e,es[0]? = some e->∃ (c:Addr) (z:Str) (G:List Str),e=.ref c/\H' c=some (.tup ((z::G).map V.str))/\Shz z)/\H' l=some (.lst (ls'.map V.str))/\gP ls'/\ls'.length<=6/\bG H' p/\SameBut p H H') ?_ ?_
   ·rintro σ' H6 ⟨ws',ls',n,rfl,hww6,hwlen6,hwsh6,M,hse6,L,N,hlsh6,hll6',W,m⟩
    -- none at all
    refine jM (λσ' H'=>∃ (w':Addr) (ws'':List Str),σ'=[some (V.ref p),some (V.ref q),some (V.ref l),some (V.ref f),some (V.int (0+(i:Int))),some (V.ref w'),I,n]/\H' w'=some (.lst (ws''.map V.str))/\1<=ws''.length/\ws''.length<=4/\gP ws'' /\
     H' f=some (.lst es)/\eL H' es/\(∀ e,es[0]? = some e->∃ (c:Addr) (z:Str) (G:List Str),e=.ref c/\H' c=some (.tup ((z::G).map V.str))/\Shz z)/\H' l=some (.lst (ls'.map V.str))/\w'≠l/\bG H' p/\SameBut p H H') ?_ ?_
    ·rintro σ' H7 ⟨w',ws'',rfl,hww7,hw1,hwlen7,hwsh7,hfe7,hse7,hfst7,B,hwl7,hb7,hs7⟩;have hq7:H7 q=some (.lst (zs.map V.str)):=hs7 q _ hqp hq
     -- the first name taken out
     refine jM (λσ' H'=>∃ (ls'':List Str),σ'=[some (V.ref p),some (V.ref q),some (V.ref l),some (V.ref f),some (V.int (0+(i:Int))),some (V.ref w'),I,n]/\H' w'=some (.lst (ws''.map V.str)) /\
      H' f=some (.lst es)/\eL H' es/\(∀ e,es[0]? = some e->∃ (c:Addr) (z:Str) (G:List Str),e=.ref c/\H' c=some (.tup ((z::G).map V.str))/\Shz z)/\H' l=some (.lst (ls''.map V.str))/\gP ls''/\ls''.length<=6/\bG H' p/\SameBut p H H') ?_ ?_
     ·rintro σ' H8 ⟨ls'',rfl,hww8,hfe8,hse8,hfst8,hle8,hlsh8,hll8,hb8,hs8⟩
      try walk_at "s"
      refine⟨tyL hfe8,?_⟩;refine lL ⟨p,w',true,_,rfl,hb8,aL hww8,by rw[a1a];lia,λr ys H9 hr e9 hpm hb9 hs9=>?_⟩;refine up (aB1 (aL e9)) ?_;intro t ht;obtain⟨G,rfl,hcs⟩:=lD (zs:=ws'') λy hy=>hpm.mem_iff.mp hy;have cl:G.length=ws''.length:=by have:=hpm.length_eq;simpa using this
      have hf9:(upd H9 t (.tup (G.map V.str))) f=some (.lst es):=by
       have:=hs9 f _ S hfe8;rw[aD (aB this ht)];exact this
      refine⟨f,es,_,rfl,rfl,hf9,a8g (by lia:es.length<=6) (by decide),?_⟩;have tx:dI H8 (upd (upd H9 t (.tup (G.map V.str))) f (.lst (es++[.ref t]))):=((hs9.tup hb8).trans (gQ ht)).trans (iP hf9);refine⟨es++[.ref t],ls'',_,_,_,_,rfl,aE,by simp[hel],?_,?_,?_,hlsh8,hll8,(hb9.upd ht).put S,((hs8.trans hs9).upd ht).put hf0⟩;intro e u;rcases a1c.mp u with h | h;exact(hse8.mono tx) e h;rw[a3b.mp h];exact⟨t,G,rfl,iP hf9 _ _ aE,by lia,λc hc=>hwsh7 c (hcs c hc)⟩
      ·intro e u;cases es with
       | nil=>
         have he':e=.ref t:=by simpa using u.symm
         cases G with
         | nil=>rw[a5h]at cl;lia
         | cons c cr=>exact⟨t,c,cr,he',iP hf9 _ _ aE,hwsh7 c (hcs c a6a)⟩
       | cons e1 er=>
         obtain⟨c,z,d,X,Y,Z⟩:=hfst8 e (by simpa using u);exact⟨c,z,d,X,tx _ _ Y,Z⟩
      ·rw[aD hlf];have:=hs9 l _ U hle8;rw[aD (aB this ht)];exact this
     ·intro C hC
      try walk_at "s"
      rw[jJ (at0 _ hq7)];refine⟨true,_,aL hww7,rfl,xA _,?_⟩;have skip:C [some (V.ref p),some (V.ref q),some (V.ref l),some (V.ref f),some (V.int (0+(i:Int))),some (V.ref w'),I,n] H7:=hC _ _ ⟨ls',rfl,hww7,hfe7,hse7,hfst7,B,hlsh6,hll6',hb7,hs7⟩
      try walk_at "s"
      refine tJ (λ_=>?_) (λ_=>?_)
      ·rw[jJ (at0 _ hq7)];refine⟨true,_,aL B,rfl,xA _,?_⟩
       try walk_at "s"
       refine tJ (λhin=>?_) (λ_=>skip);refine⟨tyL B,?_⟩;rw[jJ (at0 _ hq7)];refine⟨l,ls',z0,rfl,rfl,B,aH7 (by simpa using hin),λj hj=>?_⟩;refine hC _ _ ⟨ls'.eraseIdx j,rfl,by rw[aD hwl7];exact hww7,by rw[aD hlf.symm];exact hfe7,hse7.mono (iP B),?_,aE,λz R=>hlsh6 z (List.mem_of_mem_eraseIdx R),a8b (lP _ _) hll6',hb7.put U,hs7.put hlH⟩;intro e u;obtain⟨c,z,d,X,Y,Z⟩:=hfst7 e u;exact⟨c,z,d,X,iP B _ _ Y,Z⟩
      ·try refine cZ3 ?_
       exact skip
    ·intro C hC
     try walk_at "s"
     rw[dH (aL hww6)]
     try walk_at "s"
     refine tJ (λhc=>?_) (λhc=>?_)
     ·have fin:∀ (z:Str) (H':Hp),Shz z->H'=H6->1<=sizeLine/\∀ v,H' v=none->C [some (V.ref p),some (V.ref q),some (V.ref l),some (V.ref f),some (V.int (0+(i:Int))),some (V.ref v),I,n] (upd H' v (.lst [V.str z])):=λz H' R u=>by
       subst u;refine⟨by decide,λv hv=>hC _ _ ⟨v,[z],rfl,aE,a4a _,by show 1<=4;decide,(λy hy=>by rw[a3b.mp hy];exact R),?_,hse6.mono (gQ hv),?_,?_,(aB N hv).symm,W.upd hv,m.upd hv⟩⟩;rw[aD (aB M hv)];exact M;intro e u;obtain⟨c,z,d,X,Y,Z⟩:=L e u;exact⟨c,z,d,X,gQ hv _ _ Y,Z⟩;rw[aD (aB N hv)];exact N
      refine tJ (λhk=>?_) (λhk=>?_);rw[jJ (at0 _ (m q _ hqp hq))];exact fin z0 _ hz0s rfl;have hi0:0 < i:=by
       have:¬ ((0:Int)+(i:Int)=0):=by simpa using hk
       lia
      obtain⟨e0,er,hes⟩:∃ e0 er,es=e0::er:=by
       cases es with
       | nil=>rw[a5h]at hel;lia
       | cons e r=>exact⟨e,r,rfl⟩
      obtain⟨c,z,d,X,Y,Z⟩:=L e0 (by rw[hes];rfl);rw[jJ (dS (aL M) (show atI es 0=some e0 by rw[hes];exact dK3))];rw[X,jJ (dS (bK Y) (show atI ((z::d).map V.str) 0=some (V.str z)from dK3))];exact fin z _ Z rfl
     ·have hne:1<=ws'.length:=by
       have:¬ ((ws'.length:Int)=0):=by simpa using hc
       lia
      exact hC _ _ ⟨w,ws',rfl,hww6,hne,hwlen6,hwsh6,M,hse6,L,N,hwl,W,m⟩
   ·intro C hC
    try walk_at "s"
    rw[dH (aL hww)]
    try walk_at "s"
    refine lL ⟨p,_,rfl,hb5,by rw[a1a];lia,by lia,λd6 H6 d60 d61 W m=>?_⟩;rw[a1a]at d61;refine⟨_,rfl,by lia,by lia,?_⟩;have tx6:dI H5 H6:=m.tup hb5;refine aH2 (P:=λ_=>True) lS (λj σ H7=>∃ (ws' ls':List Str) (n:Option V),σ=[some (V.ref p),some (V.ref q),some (V.ref l),some (V.ref f),some (V.int (0+(i:Int))),some (V.ref w),I,n]/\H7 w=some (.lst (ws'.map V.str))/\ws'.length<=ws.length+j/\gP ws' /\
      H7 f=some (.lst es)/\dI H6 H7/\H7 l=some (.lst (ls'.map V.str))/\gP ls'/\ls'.length<=6/\bG H7 p/\SameBut p H H7)
     ⟨ws,ls,_,rfl,m w _ hwp hww,a4a _,hwsh,m f _ S hfe5,dI.refl _,m l _ U hle5,hlsh,hll6,W,hs5.trans m⟩ (λ_ _ _ _=>trivial) ?_ ?_
    ·rintro j y σ H7 hy ⟨ws',ls',n,rfl,g1,g2,g3,g4,g5,g6,g7,g8,g9,g10⟩;have hj:=(kB hy).1
     try walk_at "s"
     rw[dH (aL g6)]
     try walk_at "s"
     refine tJ (λhc=>?_) (λhc=>?_)
     ·have hpos:0 < ls'.length:=by
       have:0 < ((ls'.map V.str).length:Int):=by simpa using hc
       rw[a1a]at this;lia
      refine⟨tyL g1,tyL g6,?_⟩;have hlast:ls'[ls'.length-1]? = some ls'[ls'.length-1]:=a0a (by lia);refine⟨l,_,V.str ls'[ls'.length-1],rfl,rfl,g6,by rw[a1a,a6b,hlast];rfl,?_⟩;have g1':(upd H7 l (.lst (ls'.map V.str).dropLast)) w=some (.lst (ws'.map V.str)):=by rw[aD hwl];exact g1
      refine⟨w,_,_,rfl,rfl,g1',by rw[a1a];exact a8g (by lia:ws'.length<=10) (by decide),?_⟩;refine⟨ws'++[ls'[ls'.length-1]],ls'.dropLast,_,rfl,by rw[aE];simp,by simp;lia,?_,?_,?_,?_,?_,?_,?_,?_⟩;intro z R;rcases a1c.mp R with h | h;exact g3 z h;rw[a3b.mp h];exact g7 _ (List.getElem_mem _);rw[aD hwf.symm,aD hlf.symm];exact g4;exact(g5.trans (iP g6)).trans (iP g1');rw[aD hwl.symm,aE,List.map_dropLast];exact λz R=>g7 z (List.dropLast_subset _ R);rw[List.length_dropLast];lia;exact(g9.put U).put hwp;exact(g10.put hlH).put hwn
     ·exact⟨ws',ls',_,rfl,g1,by lia,g3,g4,g5,g6,g7,g8,g9,g10⟩
    ·rintro σ H7 ⟨ws',ls',n,rfl,g1,g2,g3,g4,g5,g6,g7,g8,g9,g10⟩;rw[eK]at g2
     try walk_at "s"
     refine hC _ _ ⟨ws',ls',_,rfl,g1,by lia,g3,g4,hse5.mono (tx6.trans g5),?_,g6,g7,g8,g9,g10⟩;intro e u;obtain⟨c,z,d,X,Y,Z⟩:=hfst5 e u;exact⟨c,z,d,X,(tx6.trans g5) _ _ Y,Z⟩
  ·intro C hC;have hw0n:H w0=none:=hs4.none J b;have hfe':(upd H2 w0 (.lst [])) f=some (.lst es):=by rw[aD (aB hfe b)];exact hfe
   have hle':(upd H2 w0 (.lst [])) l=some (.lst (ls.map V.str)):=by rw[aD (aB hle b)];exact hle
   try walk_at "s"
   refine tJ (λhc=>?_) (λhc=>?_)
   ·have hi0:0 < i:=by
     have:(0:Int) < 0+(i:Int):=by simpa using hc
     lia
    refine lL ⟨p,_,rfl,J.upd b,by lia,by lia,λd5 H5 d50 d51 hb5 hs5=>?_⟩;obtain⟨e1,he1⟩:=lT (ys:=es) d50 (by lia);rw[jJ (dS (aL (hs5 f _ S hfe')) he1)];obtain⟨c,G,rfl,hcc,hcl,hcsh⟩:=hse e1 (jK he1);have hc5:H5 c=some (.tup (G.map V.str)):=(hs5.tup (J.upd b)) _ _ (gQ b _ _ hcc)
    try walk_at "s"
    rw[dH (bK hc5)]
    try walk_at "s"
    refine lL ⟨p,_,rfl,hb5,by rw[a1a];lia,by rw[a1a];lia,λd6 H6 d60 d61 W m=>?_⟩;rw[a1a]at d61;refine lL ⟨p,c,false,_,_,rfl,W,bK ((m.tup hb5) _ _ hc5),by rw[a1a];lia,d60,λr ys H7 hr e7 hyl hym hb7 hs7=>?_⟩;obtain⟨cs2,rfl,hcs2⟩:=lD hym;refine up (pV (bK e7)) ?_;intro w hw;have O:SameBut p (upd H2 w0 (.lst [])) H7:=(hs5.trans m).trans hs7;have hs07:SameBut p H H7:=(hs4.upd b).trans O;have hwn:H w=none:=hs07.none hb7 hw;have hf7:=O f _ S hfe';have hl7:=O l _ U hle';have tx:dI H2 (upd H7 w (.lst (cs2.map V.str))):=((gQ b).trans (O.tup (J.upd b))).trans (gQ hw);refine hC _ _ ⟨w,cs2,_,rfl,hwn,(aB hl7 hw).symm,(aB hf7 hw).symm,aE,?_,λz R=>hcsh z (hcs2 z R),by rw[aD (aB hf7 hw)];exact hf7,hse.mono tx,?_,by rw[aD (aB hl7 hw)];exact hl7,hb7.upd hw,hs07.upd hw⟩;rw[a1a,a1a]at hyl;lia;intro e u;obtain⟨c',z,d,X,Y,Z⟩:=hfst e u;exact⟨c',z,d,X,tx _ _ Y,Z⟩
   ·refine hC _ _ ⟨w0,[],_,rfl,hw0n,(aB hle b).symm,(aB hfe b).symm,aE,a7c _,(λz R=>nomatch R),hfe',hse.mono (gQ b),?_,hle',J.upd b,hs4.upd b⟩;intro e u;obtain⟨c',z,d,X,Y,Z⟩:=hfst e u;exact⟨c',z,d,X,gQ b _ _ Y,Z⟩
 ·rintro σ H2 ⟨es,ls,o4,o5,o6,o7,rfl,hfe,hel,hse,hfst,hle,hlsh,hll6,J,hs4⟩;rw[eK]at hel
  try walk_at "s"
  exact k f es H2 hf0 hfe (by lia) (by lia) hse J hs4
def lG(T:Txt K mg a):FnOk P w K mg base CX0 4 a.a0O a.a0v ["_law_box_here","_law_names_here"] (qR K):=by
 refine T.a0D.ok gH (λvs H Q E h=>?_) (λcdv A outer s H vs Q E hr h=>?_);obtain⟨p,q,zs,rfl,_⟩:=h;rfl;obtain⟨p,q,zs,rfl,hb,hq,hl6,⟨hsh,hn2⟩,k⟩:=h;have nd:=gH.nd;refine⟨_,(aO (cR (i:=2) nd rfl (Or.inr rfl) (fH gY aM (aK (aS T) (hr.mono (by decide)) rfl T.a0o T.a0l.kp (aV T) .nil bF (aC (pv 0) (aC aM aJ)))))
  (aO (cR (i:=3) nd rfl (Or.inr rfl) (kA bZ5 (pv 1) nQ (nR (pv 2))))
  (aO (fO (i:=4) nd rfl rfl (csc [7] (by kernel_rfl)) (jF rfl T.a2q (aC (pv 2) aJ)) (λ_ _ _ _=>(aP (i:=7) nd rfl (Or.inl rfl) (.inr rfl))) (bV (by decide)) (λ_ _ _ _=>pT) (λ_ _ _ _=>(oJ (aC (jC wI (pv 3) (pv 7) (λ_ _=>rfl)) (aC (jC wI (pv 3) (fH tF (fH gY (pv 7) aM) (pv 2)) (λ_ _=>rfl)) aJ)))) rfl)
  (aO (nO (PW.pt (tD (bZ aA0 (pv 2) aM (cE _)) (qH (bZ (lW hr.units) (aK (aS T) (hr.mono (by decide)) rfl T.a0o T.a0l.kp (aV T) .nil bF (aC (pv 0) (aC aM aJ))) aM (cE _))))) (bB (fO (i:=4) nd rfl rfl (csc [5] (by kernel_rfl)) (qQ K rfl (pv 3)) (λ_ _ _ _=>(aP (i:=5) nd rfl (Or.inr rfl) (.inl rfl))) (bV (by decide)) (λ_ _ _ _=>pT) (λ_ _ _ _=>(uU (csc [8] (by kernel_rfl)) (qQ K rfl (pv 3)) (λ_ _ _ _=>(aP (i:=8) nd rfl (Or.inl rfl) (.inr rfl))) (bV (by decide)) (λ_ _ _ _=>(aG9 (bZ (dA8 hr.units) (pv 8) (pv 5) (cE _)))) (λ_ _ _ _=>(pv 8)))) rfl)) fR)
  (aO (nO (PW.pt (tD (bZ aA0 (pv 2) aM (cE _)) (qH (bZ (lW hr.units) (aK (aS T) (hr.mono (by decide)) rfl T.a0o T.a0l.kp (aV T) .nil bF (aC (pv 0) (aC aM aJ))) aM (cE _))))) (aO (cR (i:=5) nd rfl (Or.inl rfl) (jC wI (pv 4) (aK (aS T) (hr.mono (by decide)) rfl T.a0o T.a0l.kp (aV T) .nil bF (aC (pv 0) (aC (pv 2) aJ))) (λ_ _=>rfl)))
  (bB (iL (iX K rfl a4d a3f a4f fT (pv 4) (aC (dN kD (by rfl) T.a3t (mO) (aC (aK (cX T) (hr.mono (by decide)) rfl T.a0y T.a0q.kp (eA T) .nil bF (aC (pv 0) (aC (pv 5) (aC (fH gY aM (aK (aS T) (hr.mono (by decide)) rfl T.a0o T.a0l.kp (aV T) .nil bF (aC (pv 0) (aC aM aJ)))) aJ)))) aJ)) aJ))))) fR)
  (aO (nO (PW.pt (tD (bZ aA0 (pv 2) aM (cE _)) (tD (bZ aA0 (cH dR (by rfl) T.a2I (fK) (aC (jC wI (pv 4) aM (λ_ _=>rfl)) aJ)) aM (cE _)) (qH (bZ (lW hr.units) (aK (aS T) (hr.mono (by decide)) rfl T.a0o T.a0l.kp (aV T) .nil bF (aC (pv 0) (aC aM aJ))) aM (cE _)))))) (bB (fG a7d rfl (qQ K rfl (kA bZ5 (pv 4) nQ (nR (fH gY aM (aK (aS T) (hr.mono (by decide)) rfl T.a0o T.a0l.kp (aV T) .nil bF (aC (pv 0) (aC aM aJ))))))) (aP (i:=6) nd rfl (Or.inl rfl))
  (bB (iL (iX K rfl a4d a3f a4f fT (pv 6) (aC (jC wI (pv 1) (pv 2) (λ_ _=>rfl)) aJ)))))) fR)
  (bB (lN (uU (csc [6] (by kernel_rfl)) (qQ K rfl (aK (eB T) (hr.mono (by decide)) rfl T.a0N T.a0t.kp (fZ T) .nil bF (aC (pv 0) (aC (pv 4) aJ)))) (λ_ _ _ _=>(aP (i:=6) nd rfl (Or.inl rfl) (.inr rfl))) (bV (by decide)) (λ_ _ _ _=>pT) (λ_ _ _ _=>(dN lU (by rfl) T.a2u (iF) (aC (aK (eB T) (hr.mono (by decide)) rfl T.a0N T.a0t.kp (fZ T) .nil bF (aC (pv 0) (aC (pv 6) aJ))) aJ)))))))))))),?_⟩
 rw[show dE ["_law_box_here","_law_names_here","_law_many","_law_ring","_law_sets","_law_one","_law_own","_law_k","_law_column"] [.ref p,.ref q]=([some (.ref p),some (.ref q),none,none,none,none,none,none,none]:St)from rfl];have hqp:q≠p:=by obtain⟨i,j,e⟩:=hb;intro z;subst z;rw[hq]at e;exact absurd (a4u (λo=>match o with | some (HO.lst l)=>l.length | _=>0) e) (by simp[hl6])
 try walk_at "y"
 rw[tK]
 try walk_at "y"
 refine lL ⟨p,4,rfl,hb,by decide,by decide,λd1 H1 d10 d11 hb1 hs1=>?_⟩
 try walk_at "y"
 rw[tK]
 try walk_at "y"
 refine xE (aL (hs1 q _ hqp hq)) λg hg=>?_;have eg:pS (zs.map V.str) none (some (3+d1))=(zs.take (3+d1).toNat).map V.str:=by rw[iN (by lia),a9j]
 have glen:(zs.take (3+d1).toNat).length=(3+d1).toNat:=by rw[a3d,hl6];lia
 have gsh:gP (zs.take (3+d1).toNat):=λz hz=>hsh z (a1f hz);have gn2:Ne2 (zs.take (3+d1).toNat):=hn2.take (by lia);rw[eg];generalize zs.take (3+d1).toNat=I at glen gsh gn2 ⊢;have hgp:g≠p:=hb1.ne hg;have hgq:g≠q:=(aB (hs1 q _ hqp hq) hg).symm;have hg0:H g=none:=hs1.none hb1 hg;have hb2:bG (upd H1 g (.lst (I.map V.str))) p:=hb1.upd hg;have hs2:SameBut p H (upd H1 g (.lst (I.map V.str))):=hs1.upd hg;have hgg:(upd H1 g (.lst (I.map V.str))) g=some (.lst (I.map V.str)):=aE;generalize upd H1 g (.lst (I.map V.str))=H2 at hb2 hs2 hgg ⊢;clear hb1 hs1 hg eg;have m0:3<=3+d1:=by lia
 have m6:3+d1<=6:=by lia
 generalize hmm:(3+d1:Int)=m at glen m0 m6 ⊢;clear hmm d10 d11 d1
 -- lists of own: each new,none the ring
 have mono:∀ {H' H'':Hp} {es:List V} {n:Nat},bI H g H' n es->(∀ w,H w=none->w≠g->∀ o,H' w=some o->H'' w=some o)->bI H g H'' n es:=λho hk e B=>by
  obtain⟨w,ws,J,W,e3,e4,e5,e6⟩:=ho e B;exact⟨w,ws,J,hk w e5 e6 _ W,e3,e4,e5,e6⟩
 have b:∀ {w:Addr},H w=none->w≠p:=λhw z=>by subst z;obtain⟨i',j',e'⟩:=hb;rw[hw]at e';cases e'
 have d:∀ {H' H'':Hp} {es:List V} {n:Nat},bI H g H' n es->SameBut p H' H''->bI H g H'' n es:=λho hs=>mono ho λw hw _ o e=>hs w o (b hw) e;have u:∀ {H':Hp} {es:List V} {n:Nat} {l:Addr} {o:HO},bI H g H' n es->H' l=none->bI H g (upd H' l o) n es:=λho hl=>mono ho λw _ _ o e=>by rw[aD (aB e hl)];exact e
 refine jM (λσ' H'=>∃ (s:Addr) (es:List V),σ'=[some (V.ref p),some (V.ref q),some (V.int m),some (V.ref g),some (V.ref s),none,none,none,none]/\H s=none/\s≠g/\H' s=some (.lst es)/\es.length=m.toNat/\bI H g H' 6 es/\H' g=some (.lst (I.map V.str))/\bG H' p/\SameBut p H H') ?_ ?_
 ·rintro σ' H3 ⟨s,es,rfl,D,hsg,F,hel,G,hg3,hb3,hs3⟩;refine jM (λσ' H'=>∃ (s:Addr) (es:List V),σ'=[some (V.ref p),some (V.ref q),some (V.int m),some (V.ref g),some (V.ref s),none,none,none,none]/\H s=none/\s≠g/\H' s=some (.lst es)/\es.length=m.toNat/\bI H g H' 6 es/\H' g=some (.lst (I.map V.str))/\bG H' p/\SameBut p H H') ?_ ?_
  ·clear D hsg F hel G hg3 hb3 hs3;rintro σ' H4 ⟨s,es,rfl,D,hsg,F,hel,G,hg4,hb4,hs4⟩;refine jM (λσ' H'=>∃ (es:List V) (o5:Option V),σ'=[some (V.ref p),some (V.ref q),some (V.int m),some (V.ref g),some (V.ref s),o5,none,none,none]/\H' s=some (.lst es)/\1<=es.length/\es.length<=6/\bI H g H' 6 es/\H' g=some (.lst (I.map V.str))/\bG H' p/\SameBut p H H') ?_ ?_
   ·clear F hel G hg4 hb4 hs4;rintro σ' H5 ⟨es,o5,rfl,F,hel1,hel6,G,hg5,X,L⟩;refine jM (λσ' H'=>∃ (o6:Option V),σ'=[some (V.ref p),some (V.ref q),some (V.int m),some (V.ref g),some (V.ref s),o5,o6,none,none]/\H' s=some (.lst es)/\bI H g H' 10 es/\bG H' p/\SameBut p H H') ?_ ?_
    ·rintro σ' H6 ⟨o6,rfl,hse6,hol6,hb6,Y⟩
     try walk_at "s"
     refine lL ⟨p,s,true,es,rfl,hb6,aL hse6,by lia,λr ys H7 hr e7 hpm hb7 S=>?_⟩;have hol7:bI H g H7 10 ys:=λe B=>(d hol6 S) e (hpm.mem_iff.mp B);refine up (pU (aL e7)) ?_;have hrp:r≠p:=hb6.ne hr;refine uV (jI (xs:=ys)) (λi zs' H'=>zs'.length=i/\eL H' zs'/\H' r=some (.lst ys)/\bI H g H' 10 ys/\bG H' p/\SameBut p H H') ⟨rfl,(λe B=>nomatch B),e7,hol7,hb7,Y.trans S⟩ ?_ (by have:=hpm.length_eq;exact a8b (by lia:ys.length<=6) (by decide)) ?_ ?_;rintro i zs' H' ⟨h1,_,f,_⟩;exact⟨SqL.of f,by lia⟩
     ·rintro i x zs' H' N hx ⟨h1,Z,f,O,M,h6⟩ hN;have hxm:x∈ys:=a4b hx;obtain⟨w,ws,rfl,ww,wl,wsh,wn,wg⟩:=O x hxm
      try walk_at "s"
      refine lL ⟨p,w,true,_,rfl,M,aL ww,by rw[a1a];lia,λr2 ys2 H8 hr2 e8 hpm2 hb8 hs8=>?_⟩;refine up (aB1 (aL e8)) ?_;intro t ht;obtain⟨cs,rfl,hcs⟩:=lD (zs:=ws) λy hy=>hpm2.mem_iff.mp hy;have cl:cs.length=ws.length:=by have:=hpm2.length_eq;simpa using this
      refine hN _ _ ⟨by simp[h1],?_,?_,u (d O hs8) ht,hb8.upd ht,(h6.trans hs8).upd ht⟩;intro e B;rcases a1c.mp B with h | h;exact(Z.mono ((hs8.tup M).trans (gQ ht))) e h;rw[a3b.mp h];exact⟨t,cs,rfl,aE,by lia,λc hc=>wsh c (hcs c hc)⟩;have:=hs8 r _ hrp f;rw[aD (aB this ht)];exact this
     ·rintro zs' H' ⟨h1,Z,f,O,M,h6⟩ l hl;have:=hpm.length_eq;exact k l zs' _ (h6.none M hl) aE (by lia) (by lia) (Z.mono (gQ hl)) (M.upd hl) (h6.upd hl)
    ·intro C hC;have skip:∀ H',H'=H5->C [some (V.ref p),some (V.ref q),some (V.int m),some (V.ref g),some (V.ref s),o5,none,none,none] H':=λH' e=>by
      subst e;exact hC _ _ ⟨none,rfl,F,(λe B=>by obtain⟨w,ws,J,W,e3,e4⟩:=G e B;exact⟨w,ws,J,W,by lia,e4⟩),X,L⟩
     try walk_at "s"
     refine tJ (λhm=>?_) (λ_=>?_)
     ·obtain⟨e0,er,hes⟩:∃ e0 er,es=e0::er:=by
       cases es with
       | nil=>rw[a5h]at hel1;lia
       | cons e r=>exact⟨e,r,rfl⟩
      obtain⟨w0,ws0,f1,f2,f3,f4,f5,f6⟩:=G e0 (by rw[hes];exact a6a);refine up (jJ (dS (aL F) (show atI es 0=some e0 by rw[hes];exact dK3))) ?_;rw[f1,dH (aL f2)]
      try walk_at "s"
      refine tJ (λ_=>?_) (λ_=>?_)
      ·refine lL ⟨p,2,rfl,X,by decide,by decide,λd6 H6 d60 d61 hb6 Y=>?_⟩
       try walk_at "s"
       have hol6:=d G Y;have hse6:=Y s _ (b D) F;refine tJ (λ_=>?_) (λ_=>?_)
       ·refine lL ⟨p,2,rfl,hb6,by decide,by decide,λd7 H7 d70 d71 hb7 S=>?_⟩
        try walk_at "s"
        have hol7:=d hol6 S;have hse7:=S s _ (b D) hse6;refine xE (aL hse7) λc hc=>?_;have hcl:(pS es none (some (1+d7))).length<=2:=by rw[iN (by lia),a3d];lia
        have hcm:∀ e∈pS es none (some (1+d7)),e∈es:=λe B=>by rw[iN (by lia)]at B;exact a1f B
        refine up (pU (aL aE)) ?_;generalize pS es none (some (1+d7))=xs at hcl hcm ⊢;have hs57:SameBut p H H7:=(L.trans Y).trans S;have hcn:H c=none:=hs57.none hb7 hc;have hcs:c≠s:=(aB hse7 hc).symm;have her:∀ e∈es,∃ w,e=V.ref w:=λe B=>by obtain⟨w,_,J,_⟩:=G e B;exact⟨w,J⟩
        have hm6:m < 6:=by simpa using hm
        obtain⟨z7,hz7⟩:=lT (ys:=zs) (i:=m) (by lia) (by lia);have hz7s:=hsh z7 (jK hz7);have hol7':bI H g (upd H7 c (.lst xs)) 6 es:=u hol7 hc;refine aH2 (jI (xs:=xs)) (λi σ H'=>∃ (o6:Option V),σ=[some (V.ref p),some (V.ref q),some (V.int m),some (V.ref g),some (V.ref s),o5,o6,none,none]/\H' s=some (.lst es)/\H' c=some (.lst xs)/\bI H g H' (6+i) es/\bG H' p/\SameBut p H H')
         ⟨none,rfl,by rw[aD hcs.symm];exact hse7,aE,hol7',hb7.upd hc,hs57.upd hc⟩ ?_ ?_ ?_
        ·rintro i σ H' ⟨o6,_,_,f,_⟩;exact SqL.of f
        ·rintro i x σ H' hx ⟨o6,rfl,Z,f,O,M,h6⟩;have hxm:x∈xs:=a4b hx;obtain⟨w,ws,rfl,ww,wl,wsh,wn,wg⟩:=O x (hcm x hxm);have hws:w≠s:=aB2 ww Z (hcm _ hxm);have hwc:w≠c:=aB2 ww f hxm
         try walk_at "s"
         refine⟨tyL ww,?_⟩;refine up (jJ (dS (aL (h6 q _ hqp hq)) (show atI (zs.map V.str) m=some (V.str z7) by rw[lB,hz7];rfl))) ?_;refine⟨w,_,_,rfl,rfl,ww,by rw[a1a];exact a8g (by have:=(a3a.mp hx).1;lia:ws.length<=10) (by decide),?_⟩;refine⟨_,rfl,by rw[aD hws.symm];exact Z,by rw[aD hwc.symm];exact f,?_,M.put (b wn),h6.put wn⟩;intro e B;obtain⟨w',ws',J,W,e3,e4,e5,e6⟩:=O e B;by_cases hww:w'=w;subst hww;rw[ww]at W;refine⟨w',ws++[z7],J,by rw[aE];simp,by simp;lia,?_,e5,e6⟩;intro z hz;rcases a1c.mp hz with h | h;exact wsh z h;rw[a3b.mp h];exact hz7s;exact⟨w',ws',J,by rw[aD hww];exact W,by lia,e4,e5,e6⟩
        ·rintro σ H' ⟨o6,rfl,Z,f,O,M,h6⟩;exact hC _ _ ⟨o6,rfl,Z,(λe B=>by obtain⟨w,ws,J,W,e3,e4⟩:=O e B;exact⟨w,ws,J,W,by lia,e4⟩),M,h6⟩
       ·exact hC _ _ ⟨none,rfl,hse6,(λe B=>by obtain⟨w,ws,J,W,e3,e4⟩:=hol6 e B;exact⟨w,ws,J,W,by lia,e4⟩),hb6,L.trans Y⟩
      ·try refine cZ3 ?_
       exact skip _ rfl
     ·try refine cZ3 ?_
      exact skip _ rfl
   ·intro C hC;have skip:∀ H',bG H' p->SameBut p H4 H'->C [some (V.ref p),some (V.ref q),some (V.int m),some (V.ref g),some (V.ref s),none,none,none,none] H':=λH' hb' U=>
     hC _ _ ⟨es,none,rfl,U s _ (b D) F,by lia,by lia,d G U,U g _ hgp hg4,hb',hs4.trans U⟩
    try walk_at "s"
    refine tJ (λhm=>?_) (λ_=>?_)
    ·have hm6:m < 6:=by simpa using hm
     refine lL ⟨p,2,rfl,hb4,by decide,by decide,λd5 H5 d50 d51 X L=>?_⟩
     try walk_at "s"
     refine tJ (λ_=>?_) (λ_=>skip _ X L);refine lL ⟨p,m,rfl,X,by lia,by lia,λd6 H6 d60 d61 hb6 Y=>?_⟩;have hs56:=L.trans Y;obtain⟨J,he1⟩:=lT (ys:=es) d60 (by lia);refine up (jJ (dS (aL (hs56 s _ (b D) F)) he1)) ?_;obtain⟨w,ws,rfl,ww,wl,wsh,wn,wg⟩:=(d G hs56) J (jK he1)
     try walk_at "s"
     refine⟨tyL (hs56 s _ (b D) F),?_⟩;refine lL ⟨p,2,rfl,hb6,by decide,by decide,λd7 H7 d70 d71 hb7 S=>?_⟩;have hs57:=hs56.trans S
     try walk_at "s"
     refine lL ⟨p,w,true,_,_,rfl,hb7,aL (S w _ (b wn) ww),by rw[a1a];lia,by lia,λr ys H8 hr e8 hyl hym hb8 hs8=>?_⟩;obtain⟨cs,rfl,hcs⟩:=lD hym;refine up (pV (bK e8)) ?_;intro v hv;have R:=hs57.trans hs8;have hv0:H v=none:=(hs4.trans R).none hb8 hv;have hs9:(upd H8 v (.lst (cs.map V.str))) s=some (.lst es):=by
      have:=R s _ (b D) F;rw[aD (aB this hv)];exact this
     have hg9:H8 g=some (.lst (I.map V.str)):=R g _ hgp hg4;have hvs:v≠s:=(aB (R s _ (b D) F) hv).symm;refine⟨s,es,_,rfl,rfl,hs9,a8g (by lia:es.length<=6) (by decide),?_⟩;refine hC _ _ ⟨es++[.ref v],_,rfl,aE,by simp,by simp;lia,?_,?_,(hb8.upd hv).put (b D),((hs4.trans R).upd hv).put D⟩;intro e B;rcases a1c.mp B with h | h;obtain⟨w',ws',f1,f2,f3,f4,f5,f6⟩:=(u (d G R) hv) e h;have hne:w'≠s:=aB2 f2 hs9 (by rw[← f1];exact h);exact⟨w',ws',f1,by rw[aD hne];exact f2,f3,f4,f5,f6⟩;rw[a3b.mp h];refine⟨v,cs,rfl,by rw[aD hvs];exact aE,?_,λc hc=>wsh c (hcs c hc),hv0,(aB hg9 hv).symm⟩;rw[a1a,a1a]at hyl;lia;rw[aD hsg.symm,aD (aB hg9 hv)];exact hg9
    ·try refine cZ3 ?_
     exact skip _ hb4 SameBut.refl
  ·intro C hC;have skip:∀ H',bG H' p->SameBut p H3 H'->C [some (V.ref p),some (V.ref q),some (V.int m),some (V.ref g),some (V.ref s),none,none,none,none] H':=λH' hb' U=>
    hC _ _ ⟨s,es,rfl,D,hsg,U s _ (b D) F,hel,d G U,U g _ hgp hg3,hb',hs3.trans U⟩
   try walk_at "s"
   refine tJ (λhm=>?_) (λ_=>?_)
   ·have hm6:m < 6:=by simpa using hm
    refine lL ⟨p,2,rfl,hb3,by decide,by decide,λd5 H5 d50 d51 X L=>?_⟩
    try walk_at "s"
    refine tJ (λ_=>?_) (λ_=>skip _ X L);have hg5:=L g _ hgp hg3;refine up (pU (aL hg5)) ?_;refine uV (jI (xs:=I.map V.str)) (λi ys H'=>ys.length=i/\bI H g H' 6 ys/\H' g=some (.lst (I.map V.str))/\bG H' p/\SameBut p H H') ⟨rfl,(λe B=>nomatch B),hg5,X,hs3.trans L⟩ ?_ (by rw[a1a];exact a8b (by lia:I.length<=6) (by decide)) ?_ ?_;rintro i ys H' ⟨h1,_,f,_⟩;exact⟨SqL.of f,by lia⟩
    ·rintro i x ys H' N hx ⟨h1,Z,f,O,M⟩ hN;obtain⟨o,ho,rfl⟩:∃ o,o∈I/\V.str o=x:=by
      have:=a4b hx;exact a1i.mp this
     try walk_at "s"
     refine up (pU (aL f)) ?_;refine uV (jI (xs:=I.map V.str)) (λj us H''=>∃ ws:List Str,us=ws.map V.str/\ws.length<=j/\(gP ws/\∀ (k:Nat) c,k < j->I[k]? = some c->c≠o->1<=ws.length)/\H''=H') ⟨[],rfl,a4a _,⟨(λz hz=>nomatch hz),λk c hk=>absurd hk (a0g k)⟩,rfl⟩ ?_ (by rw[a1a];exact a8b (by lia:I.length<=6) (by decide)) ?_ ?_;rintro j us H'' ⟨ws,rfl,h,_,rfl⟩;exact⟨SqL.of f,by rw[a1a];exact h⟩
     ·rintro j y us H'' N2 hy ⟨ws,rfl,g1,g2,rfl⟩ hN2;obtain⟨c,hcj,rfl⟩:∃ c,I[j]? = some c/\V.str c=y:=by
       rw[a6b]at hy;obtain⟨c,J,W⟩:=a0d.mp hy;exact⟨c,J,W⟩
      have hc:c∈I:=a4b hcj
      try walk_at "s"
      refine tJ (λ_=>?_) (λhce=>?_);refine hN2 _ _ ⟨ws++[c],by simp,by simp;lia,⟨?_,λ_ _ _ _ _=>by simp⟩,rfl⟩;intro z hz;rcases a1c.mp hz with h | h;exact g2.1 z h;rw[a3b.mp h];exact gsh c hc;refine hN2 _ _ ⟨ws,rfl,by lia,⟨g2.1,λk c' hk J W=>?_⟩,rfl⟩;rcases Nat.lt_or_eq_of_le (a4j hk)with l | rfl;exact g2.2 k c' l J W;rw[hcj]at J;cases J;exact absurd (by simpa using hce) W
     ·rintro us H'' ⟨ws,rfl,g1,g2,rfl⟩ l hl;refine hN _ _ ⟨by simp[h1],?_,?_,O.upd hl,M.upd hl⟩;intro e B;rcases a1c.mp B with h | h;exact(u Z hl) e h;rw[a3b.mp h];rw[a1a]at g1;obtain⟨k,c,J,W⟩:=gn2.other o;have g3:=g2.2 k c (by rw[a1a];exact(a3a.mp J).1) J W;exact⟨l,ws,rfl,aE,by lia,g2.1,M.none O hl,(aB f hl).symm⟩;rw[aD (aB f hl)];exact f
    ·rintro ys H' ⟨h1,Z,f,O,M⟩ l hl
     try walk_at "s"
     rw[a1a]at h1;exact hC _ _ ⟨l,ys,rfl,M.none O hl,(aB f hl).symm,aE,by lia,u Z hl,by rw[aD (aB f hl)];exact f,O.upd hl,M.upd hl⟩
   ·try refine cZ3 ?_
    exact skip _ hb3 SameBut.refl
 ·intro C hC
  try walk_at "s"
  refine⟨m,rfl,by lia,by lia,?_⟩;refine uV (P:=λ_=>True) lS (λi ys H'=>ys.length=i/\bI H g H' 6 ys/\H' g=some (.lst (I.map V.str))/\bG H' p/\SameBut p H H') ⟨rfl,(λe B=>nomatch B),hgg,hb2,hs2⟩ ?_ (by rw[eK];exact a8b (by lia:m.toNat<=6) (by decide)) ?_ ?_;rintro i ys H' ⟨h1,_⟩;exact⟨trivial,by lia⟩
  ·rintro i x ys H' N hx ⟨h1,Z,f,O,M⟩ hN;obtain⟨hi,rfl⟩:=kB hx
   try walk_at "s"
   obtain⟨c1,hc1⟩:=lT (ys:=I) (i:=0+(i:Int)) (by lia) (by lia);refine up (jJ (dS (aL f) (show atI (I.map V.str) (0+(i:Int))=some (V.str c1) by rw[lB,hc1];rfl))) ?_;rw[aW7 (by lia)];have hmod0:0<=(0+(i:Int)+1) % m:=a7h _ (by lia);have hmod1:(0+(i:Int)+1) % m < m:=a4g _ (by lia);obtain⟨c2,hc2⟩:=lT (ys:=I) (i:=(0+(i:Int)+1) % m) hmod0 (by lia);refine up (jJ (dS (aL f) (show atI (I.map V.str) ((0+(i:Int)+1) % m)=some (V.str c2) by rw[lB,hc2];rfl))) ?_;refine⟨by show 2<=sizeLine;decide,λl hl=>?_⟩;refine hN _ _ ⟨by simp[h1],?_,?_,O.upd hl,M.upd hl⟩;intro e B;rcases a1c.mp B with h | h;exact(u Z hl) e h;rw[a3b.mp h];refine⟨l,[c1,c2],rfl,aE,by show 1<=2/\2<=6;decide,?_,M.none O hl,(aB f hl).symm⟩;intro z hz;rcases a5b.mp hz with rfl | hz;exact gsh _ (jK hc1);rw[a3b.mp hz];exact gsh _ (jK hc2);rw[aD (aB f hl)];exact f
  ·rintro ys H' ⟨h1,Z,f,O,M⟩ l hl
   try walk_at "s"
   rw[eK]at h1;exact hC _ _ ⟨l,ys,rfl,M.none O hl,(aB f hl).symm,aE,h1,u Z hl,by rw[aD (aB f hl)];exact f,O.upd hl,M.upd hl⟩
def pO(T:Txt K mg a)(a2C:FnOk P w K mg base CX0 2 a.a1N a.a0R ["_law_box_here","_law_many"] (lY K)):FnOk P w K mg base CX0 5 a.a0Q a.a0x ["_law_box_here","_law_kind"] (iY K):=by
 refine T.a0S.ok jV (λvs H Q E h=>?_) (λcdv A outer s H vs Q E hr h=>?_);obtain⟨p,u,rfl,_⟩:=h;rfl;obtain⟨p,u,rfl,hb,k0,k3,k⟩:=h;have nd:=jV.nd;refine⟨_,(aO (cX2 (i:=2) (j:=3) rfl nd rfl rfl (by decide) rfl rfl (aC (aK a2C (hr.mono (by decide)) rfl T.a2y T.a1m.kp (rW T) .nil bF (aC (pv 0) (aC aM aJ))) (aC (aK a2C (hr.mono (by decide)) rfl T.a2y T.a1m.kp (rW T) .nil bF (aC (pv 0) (aC aM aJ))) aJ)) rfl)
  (aO (nO (bZ (lW hr.units) (aK (aS T) (hr.mono (by decide)) rfl T.a0o T.a0l.kp (aV T) .nil bF (aC (pv 0) (aC aM aJ))) aM (cE _)) (bB (cR (i:=3) nd rfl (Or.inl rfl) (aK (eB T) (hr.mono (by decide)) rfl T.a0N T.a0t.kp (fZ T) .nil bF (aC (pv 0) (aC (pv 2) aJ))))) fR)
  (aO (cR (i:=4) nd rfl (Or.inl rfl) (pv 1))
  (aO (nO (bZ (lW hr.units) (pv 1) aM (cE _)) (bB (cR (i:=4) nd rfl (Or.inl rfl) (aK (aS T) (hr.mono (by decide)) rfl T.a0o T.a0l.kp (aV T) .nil bF (aC (pv 0) (aC aM aJ))))) fR)
  (aO (nO (bZ (lW hr.units) (pv 4) aM (cE _)) (bB (cR (i:=5) nd rfl (Or.inl rfl) (aK (mR T) (hr.mono (by decide)) rfl T.a2m T.a0I.kp (pM T) .nil bF (aC (pv 0) (aC (pv 2) aJ))))) (bB (nO (bZ (lW hr.units) (pv 4) aM (cE _)) (bB (cR (i:=5) nd rfl (Or.inl rfl) (aK (mS T) (hr.mono (by decide)) rfl T.a2n T.a0K.kp (pN T) .nil bF (aC (pv 0) (aC (pv 2) aJ))))) (bB (cR (i:=5) nd rfl (Or.inl rfl) (aK (lG T) (hr.mono (by decide)) rfl T.a1S T.a0D.kp (oB T) .nil bF (aC (pv 0) (aC (pv 2) aJ))))))))
  (bB (lN (cI9 (T:="tuple") (U:="zip") (bO6 rfl) (by rfl) T.a2u iF (by rfl) T.a3Q aL2 (aC (pv 3) (aC (pv 5) aJ)))))))))),?_⟩
 rw[show dE ["_law_box_here","_law_kind","_law_columns_here","_law_tables","_law_way","_law_sets"] [.ref p,.int u]=([some (.ref p),some (.int u),none,none,none,none]:St)from rfl]
 try walk_at "y"
 rw[tK]
 try walk_at "y"
 refine lL ⟨p,6,rfl,hb,by decide,by decide,λc F H1 hc e1 l1 ⟨o,n1⟩ G hs1=>?_⟩
 try walk_at "y"
 refine lL ⟨p,6,rfl,G,by decide,by decide,λt ts H2 ht e2 l2 ⟨I,_⟩ hb2 J=>?_⟩
 try walk_at "y"
 have g:c≠p:=hb.ne hc;have q:=J c _ g e1;have hb3:=hb2;have L:SameBut p H H2:=hs1.trans J;have et3:=e2;have m:t≠p:=G.ne ht;clear G hs1 hb2 J e1 e2
 try walk_at "y"
 refine jM (λσ' H'=>∃ (t:Addr) (ts:List Str),σ'=[some (V.ref p),some (V.int u),some (V.ref c),some (V.ref t),none,none]/\H' t=some (.lst (ts.map V.str))/\t≠p/\ts.length=6/\gP ts/\H' c=some (.lst (F.map V.str))/\bG H' p/\SameBut p H H') ?_ ?_
 ·clear m et3 hb3 L q;rintro σ' H4 ⟨t,ts,rfl,v,htp,l2,I,B,e,b⟩;rw[tK]
  try walk_at "y"
  refine jM (λσ' H'=>∃ wy:Int,σ'=[some (V.ref p),some (V.int u),some (V.ref c),some (V.ref t),some (V.int wy),none]/\H' t=some (.lst (ts.map V.str))/\H' c=some (.lst (F.map V.str))/\bG H' p/\SameBut p H H') ?_ ?_
  ·clear v B e b;rintro σ' H5 ⟨wy,rfl,v,B,l,n⟩;refine jM (λσ' H'=>∃ (s:Addr) (es:List V),σ'=[some (V.ref p),some (V.int u),some (V.ref c),some (V.ref t),some (V.int wy),some (V.ref s)]/\H' s=some (.lst es)/\1<=es.length/\es.length<=6/\eL H' es/\H' t=some (.lst (ts.map V.str))/\bG H' p/\SameBut p H H') ?_ ?_
   ·clear v B l n;rintro σ' H6 ⟨s,es,rfl,hse,hel1,hel6,M,v,hb6,hs6⟩
    try walk_at "s"
    refine⟨t,s,_,_,rfl,v,hse,λr us H' f hr er ul uj=>?_⟩;rw[a1a]at ul;have hlen:(ts.take es.length).length=es.length:=by rw[a3d];lia
    refine k r (ts.take es.length) H' (hs6.none hb6 hr) ⟨us.map V.ref,er,by rw[a1a,hlen];lia,λj z N=>?_⟩ (by lia) (by lia) (λz N=>I z (a1f N)) (hb6.same f) (hs6.same f);have hj:j < es.length:=by have:=(a3a.mp N).1;lia
    have hu:us[j]? = some us[j]:=a0a (by lia);obtain⟨x,y,hx,hy,hh⟩:=uj j _ hu;have hz':ts[j]? = some z:=by rw[List.getElem?_take,a3Y hj]at N;exact N
    rw[a6b,hz']at hx;cases hx;obtain⟨cc,ccs,rfl,hcc,hccl⟩:=M y (a4b hy);exact⟨us[j],cc,ccs,by rw[a6b,hu];rfl,hh,f _ _ hcc,hccl⟩
   ·intro C O;have fin:∀ (r:Addr) (es:List V) (H':Hp),H' r=some (.lst es)->1<=es.length->es.length<=6->eL H' es->bG H' p->SameBut p H5 H'->C [some (V.ref p),some (V.int u),some (V.ref c),some (V.ref t),some (V.int wy),some (V.ref r)] H':=λr es H' R S W X Y D=>
     O _ _ ⟨r,es,rfl,R,S,W,X,D t _ htp v,Y,n.trans D⟩
    try walk_at "s"
    refine tJ (λ_=>?_) (λ_=>?_);exact lL ⟨p,c,F,rfl,l,B,l1,⟨o,n1⟩,λr es H' _ R S W X Y D=>fin r es H' R S W X Y D⟩;refine tJ (λ_=>?_) (λ_=>?_);exact lL ⟨p,c,F,rfl,l,B,l1,⟨o,n1⟩,λr es H' _ R S W X Y D=>fin r es H' R S W X Y D⟩;exact lL ⟨p,c,F,rfl,l,B,l1,⟨o,n1⟩,λr es H' _ R S W X Y D=>fin r es H' R S W X Y D⟩
  ·intro C O
   try walk_at "s"
   refine tJ (λ_=>?_) (λ_=>?_);refine lL ⟨p,3,rfl,e,by decide,by decide,λd H' d0 d1 hb' Z=>?_⟩;exact O _ _ ⟨d,rfl,Z t _ htp v,Z c _ g B,hb',b.trans Z⟩;exact O _ _ ⟨u,rfl,v,B,e,b⟩
 ·intro C O
  try walk_at "s"
  refine lL ⟨p,4,rfl,hb3,by decide,by decide,λd H4 d0 d1 e b=>?_⟩
  try walk_at "s"
  refine tJ (λ_=>?_) (λ_=>?_)
  ·refine lL ⟨p,c,true,_,rfl,e,aL (b c _ g q),by rw[a1a];lia,λr ys H5 hr e5 hpm l n=>?_⟩;obtain⟨us,rfl,hus⟩:=lD (zs:=F) λy hy=>hpm.mem_iff.mp hy;have ul:us.length=F.length:=by have:=hpm.length_eq;simpa using this
   exact O _ _ ⟨r,us,rfl,e5,e.ne hr,by lia,λz N=>o z (hus z N),n c _ g (b c _ g q),l,(L.trans b).trans n⟩
  ·exact O _ _ ⟨t,ts,rfl,b t _ m et3,m,by lia,I,b c _ g q,e,L.trans b⟩
end
end Mr
namespace Sx
open PySem PySem.SetTable
noncomputable def gS:Nat->Nat
 | 0=>0
 | n+1=>5*gS n+1
def zA(n:Nat):4*gS n+1=5 ^ n:=by
 induction n with
 | zero=>rfl
 | succ n a=>rw[a1h,← a];show 4*(5*gS n+1)+1=_;lia
def cD6(a b:Nat):gS (a+b)=gS a*5 ^ b+gS b:=by
 have d:=zA (a+b);have c:=zA a;have e:=zA b;have f:(5:Nat) ^ (a+b)=5 ^ a*5 ^ b:=Nat.pow_add ..;have g:4*(gS a*5 ^ b)+5 ^ b=5 ^ a*5 ^ b:=by rw[← c,Nat.add_mul,Nat.one_mul,a1k]
 lia
def aL3(n:Nat):5 ^ n % 4=1:=by
 have:=zA n;lia
def dG7(n:Nat)(h:n % 2=1):gS n % 2=1:=by
 have a:∀ m,gS m % 2=m % 2:=λm=>by
  induction m with
  | zero=>rfl
  | succ m b=>show(5*gS m+1) % 2=_;lia
 rw[a n,h]
def uF{a b k:Nat}(c:b % 2=1)(h:2 ^ k ∣ a*b):2 ^ k ∣ a:=by
 have d:Nat.Coprime (2 ^ k) b:=by
  refine Nat.Coprime.pow_left k ?_;have:Nat.gcd 2 b=1:=by
   rw[Nat.gcd_rec,c];rfl
  exact this
 exact Nat.Coprime.dvd_of_dvd_mul_right d h
theorem cD7:∀ (k n:Nat),2 ^ k ∣ gS n->2 ^ k ∣ n
 | 0,n,_=>by rw[Nat.pow_zero];exact Nat.one_dvd n
 | k+1,n,h=>by
   rcases Nat.mod_two_eq_zero_or_one n with e | e
   ·obtain⟨m,rfl⟩:∃ m,n=m+m:=⟨n / 2,by lia⟩;rw[cD6]at h;have f:=aL3 m;obtain⟨q,a⟩:∃ q,5 ^ m+1=2*q:=⟨(5 ^ m+1) / 2,by lia⟩;have b:q % 2=1:=by lia
    have c:gS m*5 ^ m+gS m=2*(gS m*q):=by
     have:gS m*5 ^ m+gS m=gS m*(5 ^ m+1):=by rw[Nat.mul_add,Nat.mul_one]
     rw[this,a,Nat.mul_left_comm]
    rw[c,a1h,a4i (2 ^ k) 2]at h;have d:2 ^ k ∣ gS m*q:=Nat.dvd_of_mul_dvd_mul_left (by decide) h;have g:=cD7 k m (uF b d);have i:m+m=2*m:=by lia
    rw[i,a1h,a4i (2 ^ k) 2];exact Nat.mul_dvd_mul_left 2 g
   ·exfalso;have o:=dG7 n e;have:2 ∣ gS n:=Nat.dvd_trans ⟨2 ^ k,by rw[a1h,a4i]⟩ h;lia
noncomputable def stp(k:Nat):Nat->Nat->Nat
 | 0,x=>x % 2 ^ k
 | n+1,x=>(5*stp k n x+1) % 2 ^ k
def bE5(k n x:Nat):stp k n x=(5 ^ n*x+gS n) % 2 ^ k:=by
 induction n with
 | zero=>simp[stp,gS]
 | succ n a=>
   show(5*stp k n x+1) % 2 ^ k=_;rw[a];have e:5 ^ (n+1)*x+gS (n+1)=5*(5 ^ n*x+gS n)+1:=by
    show _+(5*gS n+1)=_;rw[a1h,a4i (5 ^ n) 5,a1k,Nat.mul_add];lia
   rw[e,Nat.add_mod,Nat.mul_mod];simp[Nat.mul_mod,Nat.add_mod]
def bE6{k x a b:Nat}(ha:a < b)(l:b < 2 ^ k)(h:stp k a x=stp k b x):False:=by
 rw[bE5,bE5]at h;obtain⟨d,rfl⟩:∃ d,b=a+d:=⟨b-a,by lia⟩;have hd:2 ^ k ∣ (5 ^ (a+d)*x+gS (a+d))-(5 ^ a*x+gS a):=by
  exact Nat.dvd_of_mod_eq_zero (Nat.sub_mod_eq_zero_of_mod_eq h.symm)
 have e:(5 ^ (a+d)*x+gS (a+d))-(5 ^ a*x+gS a)=gS d*((4*x+1)*5 ^ a):=by
  have c:=zA d;have g:5 ^ (a+d)*x=gS d*(4*x*5 ^ a)+5 ^ a*x:=by
   rw[Nat.pow_add,← c,a1k,Nat.add_mul,Nat.one_mul,Nat.mul_add];congr 1;rw[a4i (4*x),a4i 4 (gS d),a1k,Nat.mul_left_comm]
  have i:gS (a+d)=gS d*5 ^ a+gS a:=by rw[Nat.add_comm a d,cD6]
  rw[g,i,Nat.add_mul,Nat.one_mul,Nat.mul_add];lia
 rw[e]at hd;have j:((4*x+1)*5 ^ a) % 2=1:=by
  have f:=aL3 a;rw[Nat.mul_mod];have:5 ^ a % 2=1:=by lia
  have:(4*x+1) % 2=1:=by lia
  simp[*]
 have:=Nat.le_of_dvd (by lia) (cD7 k d (uF j hd));lia
theorem vX:∀ (N:Nat) (f:Nat->Nat),(∀ i,i < N->f i < N)->(∀ i j,i < j->j < N->f i≠f j)->∀ c,c < N->∃ i,i < N/\f i=c
 | 0,_,_,_,c,h=>absurd h (a0g c)
 | N+1,f,n,hi,c,q=>by
   by_cases l:∃ i,i < N+1/\f i=c;exact l
   ·exfalso
    -- with c zV out,and N in its place
    have a:∀ i,i < N+1->f i≠c:=λi h e=>l ⟨i,h,e⟩
    let g:Nat->Nat:=λi=>if f i=N then c else f i
    have m:∀ i,i < N+1->g i < N:=λi h=>by
     show(if f i=N then c else f i) < N;have o:=n i h;have p:=a i h;split;lia;lia
    have gi:∀ i j,i < j->j < N+1->g i≠g j:=λi j b d=>by
     show(if f i=N then c else f i)≠if f j=N then c else f j
     have o:=hi i j b d;have p:=a i (by lia);have r:=a j d;split<;>split<;>lia
    obtain⟨i,k,e⟩:=vX N g (λi h=>m i (by lia)) (λi j b d=>gi i j b (by lia)) (g N) (m N (by lia));exact gi i N k (by lia) e
def cO8{k x c:Nat}(b:c < 2 ^ k):∃ n,n < 2 ^ k/\stp k n x=c:=
 vX (2 ^ k) (λn=>stp k n x) (λi _=>by show stp k i x < _;rw[bE5];exact Nat.mod_lt _ (Nat.two_pow_pos k)) (λi j a d e=>bE6 a d e) c b
noncomputable def adv(mask:Nat)(p:Probe):Probe:=
 if p.more > 0 then{p with j:=p.j+1,more:=p.more-1}else
 {p with j:=(leap mask p.i p.perturb).1,more:=runEnd mask (leap mask p.i p.perturb).1-(leap mask p.i p.perturb).1,i:=(leap mask p.i p.perturb).1,perturb:=(leap mask p.i p.perturb).2}
noncomputable def wk0(mask:Nat)(h:Int):Probe:=⟨bits h % (mask+1),runEnd mask (bits h % (mask+1))-bits h % (mask+1),bits h % (mask+1),bits h,none⟩
noncomputable def wk(mask:Nat)(h:Int):Nat->Probe
 | 0=>wk0 mask h
 | n+1=>adv mask (wk mask h n)
noncomputable def lp(mask:Nat)(h:Int):Nat->Nat×Nat
 | 0=>(bits h % (mask+1),bits h)
 | l+1=>leap mask (lp mask h l).1 (lp mask h l).2
noncomputable def sO(mask i:Nat):Nat:=runEnd mask i-i
def cO9(mask i:Nat):sO mask i<=9:=by unfold sO runEnd;split<;>lia
noncomputable def tm(mask:Nat)(h:Int):Nat->Nat
 | 0=>0
 | l+1=>tm mask h l+sO mask (lp mask h l).1+1
def dP3(mask:Nat)(h:Int)(l:Nat):tm mask h l<=10*l:=by
 induction l with
 | zero=>exact a4a _
 | succ l a=>
   have:=cO9 mask (lp mask h l).1;show tm mask h l+sO mask (lp mask h l).1+1<=_;lia
theorem bE7{mask:Nat}{h:Int}{l:Nat}(e:wk mask h (tm mask h l)=⟨(lp mask h l).1,sO mask (lp mask h l).1,(lp mask h l).1,(lp mask h l).2,none⟩) :
  ∀ r,r<=sO mask (lp mask h l).1->wk mask h (tm mask h l+r)=⟨(lp mask h l).1+r,sO mask (lp mask h l).1-r,(lp mask h l).1,(lp mask h l).2,none⟩
 | 0,_=>e
 | r+1,hr=>by
   have a:=bE7 e r (by lia);show adv mask (wk mask h (tm mask h l+r))=_;rw[a];unfold adv;rw[a3Y (by show sO mask (lp mask h l).1-r > 0;lia)];congr 1
theorem aE5(mask:Nat)(h:Int):∀ l,wk mask h (tm mask h l)=⟨(lp mask h l).1,sO mask (lp mask h l).1,(lp mask h l).1,(lp mask h l).2,none⟩
 | 0=>rfl
 | l+1=>by
   have a:=bE7 (aE5 mask h l) (sO mask (lp mask h l).1) (a4a _);show adv mask (wk mask h (tm mask h l+sO mask (lp mask h l).1))=_;rw[a];unfold adv;rw[a3Z (by show ¬ sO mask (lp mask h l).1-sO mask (lp mask h l).1 > 0;lia)];rfl
theorem bE8(mask:Nat)(h:Int):∀ l,(lp mask h l).2=bits h / 32 ^ l
 | 0=>by show bits h=_;simp
 | l+1=>by
   show(lp mask h l).2 / 32=_;rw[bE8 mask h l,Nat.div_div_eq_div_mul,a1h]
def aE6(h:Int):bits h < 2 ^ 64:=by
 unfold bits;have a:=a7h h (b:=2 ^ 64) (by decide);have c:=a4g h (b:=2 ^ 64) (by decide);lia
def cP0(mask:Nat)(h:Int){l:Nat}(hl:13<=l):(lp mask h l).2=0:=by
 rw[bE8];refine Nat.div_eq_of_lt (a7b (aE6 h) ?_);refine a8b (by decide:2 ^ 64<=32 ^ 13) (Nat.pow_le_pow_right (by decide) hl)
def dG8(mask:Nat)(h:Int):∀ l,(lp mask h l).1 < mask+1
 | 0=>Nat.mod_lt _ (Nat.succ_pos _)
 | l+1=>Nat.mod_lt _ (Nat.succ_pos _)
theorem bE9{mask k:Nat}(a:mask+1=2 ^ k)(h:Int):∀ n,(lp mask h (13+n)).1=stp k n (lp mask h 13).1
 | 0=>by
   show _=_ % 2 ^ k;rw[Nat.mod_eq_of_lt (by rw[← a];exact dG8 mask h 13)]
 | n+1=>by
   have e:(lp mask h (13+(n+1))).1=((lp mask h (13+n)).1*5+1+(lp mask h (13+n)).2 / 32) % (mask+1):=rfl;rw[e,cP0 mask h (by lia),bE9 a h n,a];show _=(5*stp k n _+1) % 2 ^ k;rw[a4i 5]
def bF0{mask i:Nat}(hi:i<=mask)(r:Nat)(hr:r<=sO mask i):i+r<=mask:=by
 unfold sO runEnd at hr;split at hr<;>lia
theorem cP1{mask:Nat}(h:Int):∀ n,(wk mask h n).dummy=none/\(wk mask h n).j+(wk mask h n).more<=mask
 | 0=>⟨rfl,by
   have a:bits h % (mask+1)<=mask:=a4j (Nat.mod_lt _ (Nat.succ_pos _));exact bF0 a _ (a4a _)⟩
 | n+1=>by
   obtain⟨a,b⟩:=cP1 (mask:=mask) h n;show(adv mask (wk mask h n)).dummy=none/\(adv mask (wk mask h n)).j+(adv mask (wk mask h n)).more<=mask;unfold adv;split;refine⟨a,?_⟩;show(wk mask h n).j+1+((wk mask h n).more-1)<=mask;lia;refine⟨a,?_⟩;exact bF0 (a4j (Nat.mod_lt _ (Nat.succ_pos _))) _ (a4a _)
def dG9{mask:Nat}(h:Int)(n:Nat):(wk mask h n).j<=mask:=by
 have:=(cP1 (mask:=mask) h n).2;lia
def Ris(xs:Array Nat):Prop:=∀ (i j:Nat) (a b:Nat),i < j->xs[i]? = some a->xs[j]? = some b->a < b
structure Cut(xs:Array Nat)(j r:Nat):Prop where
 le:r<=xs.size
 lo:∀ (i a:Nat),i < r->xs[i]? = some a->a < j
 hi:∀ (i a:Nat),r<=i->xs[i]? = some a->j<=a
theorem vY{xs:Array Nat}{j:Nat}(hs:Ris xs):∀ (b lo hi:Nat),hi-lo<=b->lo<=hi->hi<=xs.size->(∀ (i a:Nat),i < lo->xs[i]? = some a->a < j)->(∀ (i a:Nat),hi<=i->xs[i]? = some a->j<=a)->Cut xs j (below.go xs j b lo hi)
 | 0,lo,hi,hf,hl,c,d,f=>by
   have:lo=hi:=by lia
   subst this;exact⟨c,d,f⟩
 | b+1,lo,hi,hf,hl,c,d,f=>by
   unfold below.go;split
   ·rename_i k;have hm:(lo+hi) / 2 < xs.size:=by lia
    have em:xs[(lo+hi) / 2]? = some xs[(lo+hi) / 2]:=a9b hm;have l:xs.getD ((lo+hi) / 2) j=xs[(lo+hi) / 2]:=by rw[a8h,em];rfl
    dsimp only;rw[l];split;rename_i g;refine vY hs b _ hi (by lia) (by lia) c (λi a h e=>?_) f;by_cases z:i=(lo+hi) / 2;subst z;rw[em]at e;cases e;exact g;exact a2j (hs i _ a _ (by lia) e em) g;rename_i g;refine vY hs b lo _ (by lia) (by lia) (by lia) d (λi a h e=>?_);by_cases z:i=(lo+hi) / 2;subst z;rw[em]at e;cases e;lia;have:=hs _ i _ a (by lia) em e;lia
   ·have:lo=hi:=by lia
    subst this;exact⟨c,d,f⟩
def jW{xs:Array Nat}(hs:Ris xs)(j:Nat):Cut xs j (below xs j):=
 vY hs _ _ _ (by lia) (by lia) (a4a _) (λi a h _=>absurd h (a0g _)) λi a h e=>by
  have:=(a0e.mp e).1;lia
def gM{xs:Array Nat}(hs:Ris xs){i j:Nat}(h:xs[i]? = some j):below xs j=i:=by
 have c:=jW hs j;have d:below xs j<=i:=by
  refine a6j λz=>?_;have:=c.lo i j z h;lia
 have e:i<=below xs j:=by
  refine a6j λz=>?_;have b:below xs j < xs.size:=a2j z (a0e.mp h).1;have a:xs[below xs j]? = some xs[below xs j]:=a9b b;have:=hs _ i _ j z a h;have:=c.hi _ _ (a4a _) a;lia
 lia
def rX{t:SetTable}(hs:Ris t.place){i j:Nat}(h:t.place[i]? = some j):t.slot j=.live i:=by
 unfold slot;dsimp only;rw[gM hs h,h];simp
def aR1{t:SetTable}(hd:t.dummies=#[]){j:Nat}(h:∀ i:Nat,t.place[i]? ≠ some j):t.slot j=.empty:=by
 unfold slot;dsimp only;rw[a3Z (by simpa using h _),if_neg (by rw[hd];simp[has])]
def Occ(t:SetTable)(j:Nat):Prop:=∃ i:Nat,t.place[i]? = some j
structure TOk(t:SetTable)(hs:List Int):Prop where
 pw:∃ k,t.mask+1=2 ^ k
 m7:7<=t.mask
 dm:t.dummies=#[]
 ri:Ris t.place
 lt:∀ (i j:Nat),t.place[i]? = some j->j<=t.mask
 len:t.place.size=hs.length
 fit:t.place.size<=t.mask
 rea:∀ (i:Nat) h,hs[i]? = some h->∃ m j,t.place[i]? = some j/\(wk t.mask h m).j=j/\∀ m',m' < m->Occ t (wk t.mask h m').j
section
variable{t:SetTable}{hs:List Int}
end
theorem bF1{t:SetTable}{hs:List Int}(T:TOk t hs){h:Int}{hashAt:Nat->Int}{M:Nat}(q:¬ Occ t (wk t.mask h M).j)(r:∀ m,m < M->Occ t (wk t.mask h m).j) :
  ∀ (a n:Nat),n<=M->M-n < a ->
    (∃ m i,n<=m/\m < M/\t.place[i]? = some (wk t.mask h m).j/\hashAt i=h/\(∀ m' b,n<=m'->m' < m->t.place[b]? = some (wk t.mask h m').j->hashAt b≠h)/\probe.go t hashAt h a (wk t.mask h n)=some (.candidate (wk t.mask h m).j i (wk t.mask h (m+1)))) \/
    ((∀ m' b,n<=m'->m' < M->t.place[b]? = some (wk t.mask h m').j->hashAt b≠h)/\probe.go t hashAt h a (wk t.mask h n)=some (.empty (wk t.mask h M).j none))
 | 0,n,_,hf=>by lia
 | a+1,n,hn,hf=>by
   have g:=(cP1 (mask:=t.mask) h n).1;unfold probe.go;by_cases k:n=M;subst k;refine .inr ⟨λm' b l c=>by lia,?_⟩;have:t.slot (wk t.mask h n).j=.empty:=aR1 T.dm λi e=>q ⟨i,e⟩;rw[this];dsimp only;rw[g]
   ·obtain⟨i,o⟩:=r n (by lia);have p:=rX T.ri o;rw[p];dsimp only;by_cases d:hashAt i=h;refine .inl ⟨n,i,a4a _,by lia,o,d,λm' b l c=>by lia,?_⟩;rw[a3Y (by simpa using d)];rfl
    ·rw[a3Z (by simpa using d)];have f:∀ b,t.place[b]? = some (wk t.mask h n).j->b=i:=λb e=>by
      rw[← gM T.ri e,← gM T.ri o]
     rcases bF1 T q r a (n+1) (by lia) (by lia)with⟨m,i2,a1,a2,a3,a4,a5,a6⟩ | ⟨a1,a2⟩;refine .inl ⟨m,i2,by lia,a2,a3,a4,λm' b l c e=>?_,a6⟩;by_cases z:m'=n;subst z;rw[f b e];exact d;exact a5 m' b (by lia) c e;refine .inr ⟨λm' b l c e=>?_,a2⟩;by_cases z:m'=n;subst z;rw[f b e];exact d;exact a1 m' b (by lia) c e
def gO{b:Type}(xs:Array b){p:Nat}(g:p<=xs.size)(x:b)(i:Nat):(insertAt xs p x)[i]? = if i < p then xs[i]? else if i=p then some x else xs[i-1]?:=by
 rw[← a5c,toList_insertAt];have hl:(xs.toList.take p).length=p:=by rw[a3d,a9d];lia
 by_cases a:i < p;rw[a3Y a,a8f (by lia),List.getElem?_take_of_lt a,a5c];rw[a3Z a,a6f (by lia),hl];by_cases c:i=p;subst c;rw[a3Y rfl,Nat.sub_self];rfl;rw[a3Z c];obtain⟨d,rfl⟩:∃ d,i=p+1+d:=⟨i-p-1,by lia⟩;have e:p+1+d-p=d+1:=by lia
 have f:p+1+d-1=p+d:=by lia
 rw[e,f,a8c,List.getElem?_drop,a5c]
def qE{a:Type}(xs:Array a){p:Nat}(b:p<=xs.size)(x:a):(insertAt xs p x).size=xs.size+1:=by
 rw[← a9d,toList_insertAt,a0c,a1g,a3d,a0i,a9d];lia
noncomputable def aE7{α:Type}(l:List α)(p:Nat)(x:α):List α:=l.take p++x::l.drop p
def aL4{a:Type}(l:List a){p:Nat}(b:p<=l.length)(x:a)(i:Nat):(aE7 l p x)[i]? = if i < p then l[i]? else if i=p then some x else l[i-1]?:=by
 have:=gO l.toArray (p:=p) (by simpa using b) x i;rw[← a5c,toList_insertAt]at this;simpa[aE7]using this
def rY{a:Type}(l:List a){p:Nat}(b:p<=l.length)(x:a):(aE7 l p x).length=l.length+1:=by
 unfold aE7;rw[a0c,a1g,a3d,a0i];lia
section
variable{t:SetTable}{hs:List Int}{h:Int}{M:Nat}
def zB(t:SetTable)(j:Nat)(hd:t.dummies=#[]):t.put j=({t with place:=insertAt t.place (below t.place j) j},below t.place j):=by
 unfold put;dsimp only;rw[hd];rfl
def cP2{t t':SetTable}{j c:Nat}(a:below t.place j<=t.place.size)(e:t'.place=insertAt t.place (below t.place j) j):Occ t' c↔Occ t c\/c=j:=by
 constructor;rintro⟨i,hi⟩;rw[e,gO _ a]at hi;split at hi;exact .inl ⟨i,hi⟩;split at hi;exact .inr (a5a hi).symm;exact .inl ⟨i-1,hi⟩;rintro(⟨i,hi⟩ | rfl);by_cases b:i < below t.place j;exact⟨i,by rw[e,gO _ a,a3Y b];exact hi⟩;exact⟨i+1,by rw[e,gO _ a,a3Z (by lia),a3Z (by lia)];exact hi⟩;exact⟨below t.place c,by rw[e,gO _ a,a3Z (by lia),a3Y rfl]⟩
theorem TOk.put(T:TOk t hs)(q:¬ Occ t (wk t.mask h M).j)(r:∀ m,m < M->Occ t (wk t.mask h m).j)(s:t.place.size+1<=t.mask) :
  TOk (t.put (wk t.mask h M).j).1 (aE7 hs (below t.place (wk t.mask h M).j) h):=by
 have c:=jW T.ri (wk t.mask h M).j;rw[zB t _ T.dm];have l:=c.le;have n:below t.place (wk t.mask h M).j<=hs.length:=by rw[← T.len];exact l
 have g:∀ x,Occ {t with place:=insertAt t.place (below t.place (wk t.mask h M).j) (wk t.mask h M).j} x↔Occ t x\/x=(wk t.mask h M).j:=λx=>cP2 l rfl;refine⟨T.pw,T.m7,T.dm,?_,?_,?_,?_,?_⟩
 ·intro i1 i2 a b hi f d;have p:∀ i a,t.place[i]? = some a->a≠(wk t.mask h M).j:=λi a e z=>q ⟨i,by rw[e,z]⟩;dsimp only at f d;rw[gO _ l]at f d;generalize (wk t.mask h M).j=j at *;split at f;split at d;exact T.ri _ _ _ _ hi f d;split at d;cases d;exact c.lo _ _ (by assumption) f;exact T.ri _ _ _ _ (by lia) f d;split at f;cases f;rw[a3Z (by lia),a3Z (by lia)]at d;have y:=c.hi _ _ (by lia:below t.place a<=i2-1) d;have A:=p _ _ d;lia;rw[a3Z (by lia),a3Z (by lia)]at d;exact T.ri _ _ _ _ (by lia) f d
 ·intro i j e;rcases(g j).mp ⟨i,e⟩with⟨u,v⟩ | rfl;exact T.lt u j v;exact dG9 h M
 ·show(insertAt _ _ _).size=_;rw[qE _ l,rY _ n,T.len]
 ·show(insertAt _ _ _).size<=_;rw[qE _ l];exact s
 ·intro i h' e;rw[aL4 _ n]at e;show ∃ m j,(insertAt t.place (below t.place (wk t.mask h M).j) (wk t.mask h M).j)[i]? = some j/\_;rw[gO _ l];have old:∀ o,hs[o]? = some h'->∃ m j,t.place[o]? = some j/\(wk t.mask h' m).j=j/\∀ m',m' < m->Occ {t with place:=insertAt t.place (below t.place (wk t.mask h M).j) (wk t.mask h M).j} (wk t.mask h' m').j:=λo w=>by
   obtain⟨m,j,a1,a2,a3⟩:=T.rea o h' w;exact⟨m,j,a1,a2,λm' k=>(g _).mpr (.inl (a3 m' k))⟩
  split at e;rw[a3Y (by assumption)];exact old i e;split at e;cases e;rw[a3Z (by assumption),a3Y (by assumption)];exact⟨M,_,rfl,rfl,λm' k=>(g _).mpr (.inl (r m' k))⟩;rw[a3Z (by assumption),a3Z (by assumption)];exact old (i-1) e
end
def aR2(ow:Array (Option Nat))(j:Nat):Prop:=∃ k,ow[j]? = some (some k)
structure LOk(mask:Nat)(ow:Array (Option Nat))(hs:List Int):Prop where
 sz:ow.size=mask+1
 bd:∀ (j k:Nat),ow[j]? = some (some k)->k < hs.length
 one:∀ (j j' k:Nat),ow[j]? = some (some k)->ow[j']? = some (some k)->j=j'
 rea:∀ (k:Nat) h,hs[k]? = some h->∃ m,ow[(wk mask h m).j]? = some (some k)/\∀ m',m' < m->aR2 ow (wk mask h m').j
def dP4{ow:Array (Option Nat)}{j:Nat}(b:j < ow.size):(ow.getD j (some 0)).isNone=true↔¬ aR2 ow j:=by
 have e:ow[j]? = some ow[j]:=a9b b;rw[a8h,e];show ow[j].isNone=true↔_;constructor;rintro h ⟨k,a⟩;rw[e]at a;rw[a5a a]at h;cases h;intro h;cases c:ow[j]with
 | none=>rfl
 | some k=>exact absurd ⟨k,by rw[e,c]⟩ h
theorem zC{mask:Nat}{ow:Array (Option Nat)}(hs:ow.size=mask+1)(h:Int){L:Nat}(i:¬ aR2 ow (lp mask h L).1) :
  ∀ (fuel l:Nat),l<=L->L < l+fuel->(∀ m,m < tm mask h l->aR2 ow (wk mask h m).j) ->
    ∃ M,layClean.free mask ow fuel (lp mask h l).1 (lp mask h l).2=some (wk mask h M).j/\¬ aR2 ow (wk mask h M).j/\∀ m,m < M->aR2 ow (wk mask h m).j
 | 0,l,o,p,_=>by lia
 | fuel+1,l,o,p,n=>by
   have b:∀ r,r<=sO mask (lp mask h l).1->(lp mask h l).1+r < ow.size:=λr hr=>by
    have:=bF0 (a4j (dG8 mask h l)) r hr;lia
   have e:runEnd mask (lp mask h l).1+1-(lp mask h l).1=sO mask (lp mask h l).1+1:=by
    unfold sO runEnd;split<;>lia
   have f:∀ r,r<=sO mask (lp mask h l).1->(wk mask h (tm mask h l+r)).j=(lp mask h l).1+r:=λr hr=>by rw[bE7 (aE5 mask h l) r hr]
   unfold layClean.free;split
   ·rename_i k g;obtain⟨a1,a2,a3⟩:=List.find?_range_eq_some.mp g;rw[a8e,e]at a2;have c:k<=sO mask (lp mask h l).1:=by lia
    refine⟨tm mask h l+k,by rw[f k c],?_,λm hm=>?_⟩;rw[f k c];exact(dP4 (b k c)).mp a1;by_cases d:m < tm mask h l;exact n m d;obtain⟨r,rfl⟩:∃ r,m=tm mask h l+r:=⟨m-tm mask h l,by lia⟩;rw[f r (by lia)];have:=a3 r (by lia);refine a9e λz=>?_;rw[(dP4 (b r (by lia))).mpr z]at this;cases this
   ·rename_i g;have a:∀ r,r<=sO mask (lp mask h l).1->aR2 ow ((lp mask h l).1+r):=λr hr=>by
     have:=List.find?_eq_none.mp g r (by rw[a8e,e];lia);exact a9e λz=>this ((dP4 (b r hr)).mpr z)
    have q:l≠L:=λz=>by
     subst z;exact i (by simpa using a 0 (a7c _))
    refine zC hs h i fuel (l+1) (by lia) (by lia) λm hm=>?_;have s:m < tm mask h l+sO mask (lp mask h l).1+1:=hm;by_cases d:m < tm mask h l;exact n m d;obtain⟨r,rfl⟩:∃ r,m=tm mask h l+r:=⟨m-tm mask h l,by lia⟩;rw[f r (by lia)];exact a r (by lia)
section
variable{mask:Nat}{ow:Array (Option Nat)}{hs:List Int}
def LOk.free(T:LOk mask ow hs)(hn:hs.length<=mask):∃ c,c<=mask/\¬ aR2 ow c:=by
 refine a9e λl=>?_;have d:∀ c,c<=mask->aR2 ow c:=λc m=>a9e λz=>l ⟨c,m,z⟩
 let f:Nat->Nat:=λc=>(ow.getD c none).getD 0
 have j:∀ c,c<=mask->ow[c]? = some (some (f c)):=λc m=>by
  obtain⟨k,e⟩:=d c m;have:f c=k:=by
   show(ow.getD c none).getD 0=k;rw[a8h,e];rfl
  rw[this];exact e
 have n:∀ a b,a < b->b<=mask->f a≠f b:=λa b g o e=>by
  have p:=j a (by lia);rw[e]at p;have:=T.one a b _ p (j b o);lia
 obtain⟨i,hi,e⟩:=vX hs.length f (λi h=>T.bd _ _ (j i (by lia))) (λa b g o=>n a b g (by lia)) (f hs.length) (T.bd _ _ (j hs.length hn));exact n i hs.length hi hn e
def LOk.lay{k:Nat}(r:mask+1=2 ^ k)(T:LOk mask ow hs)(hn:hs.length<=mask)(h:Int):∃ j,layClean.free mask ow (turns mask) (bits h % (mask+1)) (bits h)=some j/\LOk mask (ow.setIfInBounds j (some hs.length)) (hs++[h]):=by
 obtain⟨c,A,s⟩:=T.free hn;obtain⟨n,t,e⟩:=cO8 (k:=k) (x:=(lp mask h 13).1) (c:=c) (by lia);have u:¬ aR2 ow (lp mask h (13+n)).1:=by rw[bE9 r h n,e];exact s
 obtain⟨M,v,q,w⟩:=zC T.sz h u (turns mask) 0 (a7c _) (by show 13+n < 0+(mask+15);lia) (λm hm=>absurd hm (a0g _));refine⟨_,v,?_⟩;have y:(wk mask h M).j < ow.size:=by rw[T.sz];exact Nat.lt_succ_of_le (dG9 h M)
 have g:∀ c,(ow.setIfInBounds (wk mask h M).j (some hs.length))[c]? = if(wk mask h M).j=c then some (some hs.length)else ow[c]?:=λc=>by
  rw[Array.getElem?_setIfInBounds];split
  ·first | rfl | rw[a3Y y]
  ·rfl
 have i:∀ {c},aR2 ow c->aR2 (ow.setIfInBounds (wk mask h M).j (some hs.length)) c:=λ{c} ⟨b,a⟩=>by
  refine⟨b,?_⟩;rw[g,a3Z (λz=>q ⟨b,by rw[z];exact a⟩)];exact a
 refine⟨by rw[Array.size_setIfInBounds];exact T.sz,λj b a=>?_,λj j' b l f=>?_,λb h' a=>?_⟩;rw[g]at a;rw[a0c];split at a;cases a;simp;have:=T.bd _ _ a;simp;lia
 ·rw[g]at l f;split at l;cases l;split at f;lia;have:=T.bd _ _ f;lia;split at f;cases f;have:=T.bd _ _ l;lia;exact T.one _ _ _ l f
 ·by_cases o:b < hs.length;rw[a8f o]at a;obtain⟨m,a1,a2⟩:=T.rea b h' a;refine⟨m,?_,λm' d=>i (a2 m' d)⟩;rw[g,a3Z (λz=>q ⟨b,by rw[z];exact a1⟩)];exact a1;rw[a6f (by lia)]at a;have p:b=hs.length:=by
   have:=(a3a.mp a).1;simp at this;lia
  subst p;have:h'=h:=by simpa using a.symm
  subst this;exact⟨M,by rw[g,a3Y rfl],λm' d=>i (w m' d)⟩
end
theorem mT{mask k:Nat}(b:mask+1=2 ^ k):∀ (cG:List Int) (hs:List Int) (ow:Array (Option Nat)),LOk mask ow hs->hs.length+cG.length<=mask+1 ->
  ∃ a,cG.foldl (λacc h=>do
    let (owner,k) ← acc
    let j ← layClean.free mask owner (turns mask) (bits h % (mask+1)) (bits h)
    pure (owner.setIfInBounds j (some k),k+1)) (some (ow,hs.length))=some (a,hs.length+cG.length)/\LOk mask a (hs++cG)
 | [],hs,ow,T,_=>⟨ow,by simp,by simpa using T⟩
 | h::cG,hs,ow,T,hl=>by
   rw[a1g]at hl;obtain⟨j,e,d⟩:=T.lay b (by lia) h;obtain⟨a,c,f⟩:=mT b cG (hs++[h]) _ d (by rw[a0c,List.length_singleton];lia);refine⟨a,?_,by simpa using f⟩;rw[List.foldl_cons];rw[a0c,List.length_singleton]at c;have g:hs.length+(h::cG).length=hs.length+1+cG.length:=by rw[a1g];lia
   rw[g,← c];congr 1;show((layClean.free mask ow (turns mask) (bits h % (mask+1)) (bits h)).bind λj=>some (ow.setIfInBounds j (some hs.length),hs.length+1))=_;rw[e];rfl
def cP3(mask:Nat):LOk mask (Array.replicate (mask+1) none) []:=by
 refine⟨by simp,λj k e=>?_,λj j' k e=>?_,λk h e=>by simp at e⟩
 all_goals
  rw[Array.getElem?_replicate]at e;split at e<;>cases e
def bF2{mask k finger moves:Nat}{led plain:Bool}{hashes:Array Int}(J:mask+1=2 ^ k)(L:7<=mask)(hn:hashes.size<=mask) :
  ∃ t order,laid mask finger moves led plain hashes=some (t,order)/\TOk t (order.toList.filterMap (hashes[·]?))/\order.toList.Perm (List.range hashes.size)/\t.mask=mask/\t.place.size=hashes.size/\t.led=led/\t.plain=plain:=by
 obtain⟨ow,e,T⟩:=mT J hashes.toList [] _ (cP3 mask) (by rw[a9d];simp;lia);rw[List.nil_append]at T;have M:layClean mask hashes=some ow:=by
  unfold layClean;rw[← Array.foldl_toList];have u:=e;rw[a5h,a6g]at u;rw[u];rfl
 let g:Nat->Option (Nat×Nat):=λj=>(ow.getD j none).map (j,·)
 have C:∀ j p,g j=some p↔p.1=j/\ow[j]? = some (some p.2):=λj p=>by
  show(ow.getD j none).map (j,·)=some p↔_;rw[a8h];cases K:ow[j]? with
  | none=>simp
  | some o=>
    cases o with
    | none=>simp
    | some D=>
      obtain⟨a,b⟩:=p;simp;intro _;exact⟨λz=>z.symm,λz=>z.symm⟩
 let d:=(List.range (mask+1)).filterMap g
 have mem:∀ p,p∈d↔ow[p.1]? = some (some p.2):=λp=>by
  rw[List.mem_filterMap];constructor;rintro⟨j,_,h⟩;obtain⟨rfl,h'⟩:=(C j p).mp h;exact h';intro h;have:p.1 < mask+1:=by rw[← T.sz];exact(a0e.mp h).1
  exact⟨p.1,a8e.mpr this,(C _ _).mpr ⟨rfl,h⟩⟩
 have pw:d.Pairwise (λa b=>a.1 < b.1):=List.Pairwise.filterMap g (λa W h b n X E=>by
  rw[((C _ _).mp n).1,((C _ _).mp E).1];exact h) List.pairwise_lt_range
 have ri:∀ (i j:Nat) p q,i < j->d[i]? = some p->d[j]? = some q->p.1 < q.1:=λi j p q v N O=>by
  obtain⟨hi,rfl⟩:=a3a.mp N;obtain⟨P,rfl⟩:=a3a.mp O;exact List.pairwise_iff_getElem.mp pw i j hi P v
 have nd:(d.map (·.2)).Nodup:=by
  rw[List.nodup_iff_pairwise_ne,List.pairwise_map];refine List.Pairwise.imp_of_mem (λ{a b} ha n Q e=>?_) pw;have w:=(mem a).mp ha;have y:=(mem b).mp n;rw[← e]at y;have:=T.one _ _ _ w y;lia
 have A:hashes.toList.length=hashes.size:=a9d;have s:(d.map (·.2)).Perm (List.range hashes.size):=(List.perm_ext_iff_of_nodup nd List.nodup_range).mpr λa=>by
  rw[a1i,a8e];constructor;rintro⟨p,x,rfl⟩;rw[← A];exact T.bd _ _ ((mem p).mp x);intro ha;obtain⟨m,w,_⟩:=T.rea a hashes.toList[a] (a0a (by lia));exact⟨((wk mask hashes.toList[a] m).j,a),(mem _).mpr w,rfl⟩
 have ll:d.length=hashes.size:=by have:=s.length_eq;simpa using this
 have B:(d.map (·.2)).filterMap (hashes[·]?)=d.map λp=>hashes.toList.getD p.2 0:=by
  have F:∀ l:List (Nat×Nat),(∀ p∈l,p.2 < hashes.toList.length)->(l.map (·.2)).filterMap (hashes[·]?)=l.map λp=>hashes.toList.getD p.2 0:=by
   intro l
   induction l with
   | nil=>intro _;rfl
   | cons p r R=>
     intro n;have w:=n p a6a;have f:hashes[p.2]? = some (hashes.toList.getD p.2 0):=by
      rw[← a5c,a1e,a0a w];rfl
     rw[a6e,a3h,f,a6e,R λq K=>n q (a7a _ K)]
  exact F d λp x=>T.bd _ _ ((mem p).mp x)
 refine⟨⟨mask,(d.map (·.1)).toArray,#[],finger,led,moves,plain⟩,(d.map (·.2)).toArray,?_,?_,s,rfl,by simpa using ll,rfl,rfl⟩;unfold laid;rw[M];rfl;have pl:∀ (i j:Nat),(d.map (·.1)).toArray[i]? = some j↔∃ p,d[i]? = some p/\p.1=j:=λi j=>by
  rw[a2d,a6b];exact a0d
 have G:∀ c,Occ (⟨mask,(d.map (·.1)).toArray,#[],finger,led,moves,plain⟩:SetTable) c↔aR2 ow c:=λc=>by
  constructor;rintro⟨i,h⟩;obtain⟨p,f,rfl⟩:=(pl i c).mp h;exact⟨p.2,(mem p).mp (a4b f)⟩;rintro⟨D,h⟩;obtain⟨i,hi,f⟩:=a4h ((mem (c,D)).mpr h);exact⟨i,(pl i c).mpr ⟨(c,D),by rw[a0a hi,f],rfl⟩⟩
 refine⟨⟨k,J⟩,L,rfl,?_,?_,?_,?_,?_⟩;intro i j a b v S U;obtain⟨p,f,rfl⟩:=(pl i a).mp S;obtain⟨q,H,rfl⟩:=(pl j b).mp U;exact ri i j p q v f H;intro i j u;obtain⟨p,f,rfl⟩:=(pl i j).mp u;have w:=(mem p).mp (a4b f);have y:=(a0e.mp w).1;rw[T.sz]at y;exact a4j y;show(d.map (·.1)).toArray.size=((d.map (·.2)).toArray.toList.filterMap (hashes[·]?)).length;rw[show(d.map (·.2)).toArray.toList=d.map (·.2)from rfl,B];simp;show(d.map (·.1)).toArray.size<=mask;simp[ll];lia;intro i h' u;rw[show(d.map (·.2)).toArray.toList=d.map (·.2)from rfl,B,a6b]at u;obtain⟨p,f,H⟩:=a0d.mp u;have x:=(mem p).mp (a4b f);have n:=T.bd _ _ x;have V:hashes.toList[p.2]? = some h':=by
  rw[← H,a1e,a0a n];rfl
 obtain⟨m,a1,a2⟩:=T.rea p.2 h' V;have:=T.one _ _ _ a1 x;exact⟨m,p.1,(pl i p.1).mpr ⟨p,f,rfl⟩,this,λm' I=>(G _).mpr (a2 m' I)⟩
end Sx
namespace Dv
open PySem L2 Mr
section
variable{Γ:Gm}{H H1:Hp}{σ σ1:Sg}{σV:St}{p:Addr}{o o':HO}
end
def bF3{X:Cx}{E:Ex}{i:Nat}{x:Str}{e:Expr}{r:DE}{pos a:Pos}(b:X.N.Nodup)(hi:X.N[i]? = some x)(c:Loc X.env.scope x)(d:GE X e r)(hs:swapsWith e (some (.Name x a)) pos.line X.env=pure false:=by rfl)(f:X.fn x=true\/X.env.scope.names.lookup x=some .local:=by first | exact .inl rfl | exact .inr rfl | assumption) :
  GS E X (.Assign [.Name x a] e pos) (cF i r):=dD5 λΓ=>cR b hi c (d.to Γ) hs f
theorem bF4{z:Str}{i:Int}{K:Res->Prop}:OK1 (ixD (.str z) (.int i)) K=(z.length<=sizeLine/\OK1 (atI z.cps.toList i) λc=>K (.val (.str ⟨#[c]⟩))):=by
 show OK1 (if _ then _ else none) K=_;rw[bD,xX]
def cP4{z:Str}{K:Res->Prop}(h:z.length<=sizeLine):OK1 (vJ [.str z]) K=K (.val (.int z.length)):=by
 show OK1 (if _ then _ else none) K=_;rw[bD];exact propext ⟨λh=>h.2,λk=>⟨h,k⟩⟩
noncomputable def fo(x:Option (Bool×D)):Option Sl:=x.map λp=>⟨if p.1=true then .own else .val,p.2⟩
theorem cD8{x:Option (Bool×D)}{r:Sg}{s:Sl}{K:Sg->Prop}:PK 0 (fo x::r) s K=K (some s::r):=by
 cases x with
 | none=>rfl
 | some p=>
   obtain⟨b,d⟩:=p;cases b<;>rfl
@[irreducible] noncomputable def aE8(ow:List Nat)(g:DG)(t:DT)(e:DE)(items:List D)(a:Sg):=aC1 ow g t e items a
@[irreducible] noncomputable def dH0(g:DG)(b:DS)(items:List D)(σ:Sg):=bQ2 g b items σ
@[irreducible] noncomputable def aL5(c:DT)(b:DS)(σ:Sg):=oO c b cU2 σ
section
variable{σ:Sg}{QS:Out->Prop}{Q:Res->Sg->Prop}{ri:DI}{g:DG}{b:DS}{a:DE}{ra:DA}
theorem rZ:RS (lF ri g b) σ QS=RI ri σ λitems l a=>OK1 (dH0 g b items (lendO l a)) λo=>QS (mI l a o):=by
 unfold dH0;exact dF6
theorem iI{c:DT}:RS (kW c b) σ QS=OK1 (aL5 c b σ) QS:=by unfold aL5;rfl
theorem kK{ow:List Nat}{t:DT}{e:DE}:RE (eM ow ri g t e) σ Q=RI ri σ λitems l a=>items.length<=sizeLine/\OK1 (aE8 ow g t e items (bJ ow (lendO l a))) λy=>Q (.own (.lst y.1)) (aB9 l a (kQ ow (lendO l a) y.2)):=by
 unfold aE8;exact cN9
def fE{items:List D}(P:Nat->Sg->Prop)(h0:P 0 σ)(hs:∀ i d σ,items[i]? = some d->P i σ->OK1 (g d σ) λc=>RS b c λo=>∃ a,(o=.nx a\/o=.ct a)/\P (i+1) a){K:Out->Prop}(k:∀ σ',P items.length σ'->K (.nx σ')):OK1 (dH0 g b items σ) K:=by
 unfold dH0;exact cN8 P h0 hs k
def kL{c:DT}(P:Nat->Sg->Prop)(m:Nat)(hm:m < 1000000)(h0:P m σ)(hs:∀ m σ,P m σ->RT c σ λt d=>if t=true then RS b d λo=>(∃ a m',(o=.nx a\/o=.ct a)/\m' < m/\P m' a)\/(∃ x a,o=.rt x a/\QS (.rt x a))\/(∃ a,o=.bk a/\QS (.nx a))else QS (.nx d)):OK1 (aL5 c b σ) QS:=by
 unfold aL5;exact bC3 P m hm h0 hs
def eV{ow:List Nat}{t:DT}{e:DE}{K:List D×Sg->Prop}(items:List D)(a:Sg)(P:Nat->List D->Sg->Prop)(h0:P 0 [] a)
  (hs:∀ i d acc a,items[i]? = some d->P i acc a->OK1 (g d a) λf=>RT t f λb c=>if b=true then RE e c λr h=>∃ v,r=.val v/\P (i+1) (acc++[v]) (bJ ow h)else P (i+1) acc (bJ ow c))
  (k:∀ acc a,P items.length acc a->K (acc,a)):OK1 (aE8 ow g t e items a) K:=by
 unfold aE8;exact rG items a P h0 hs k
end
end Dv
namespace PySem
structure Fill(prog:Program)(w:World)(A:Around)(S I:Addr)(n:Nat)(P:Nat->Value->Prop)(J:Nat->Heap->Prop):Prop where
 put:∀ i v (s:Shared) (Q:Bool->Shared->Prop) (E:Value->Shared->Prop),i < n->P i v->J i s.heap ->
  (∀ b h' tk,J (i+1) h'->(∀ c o,c≠S->s.heap.get? c=some o->h'.get? c=some o)->Q b {s with heap:=h',toks:=tk})->wpAny (model prog w) A (setAdd S v) Q E s
 stay:∀ i h h',J i h->(∀ c o,c≠I->h.get? c=some o->h'.get? c=some o)->J i h'
section
variable{prog:Program}{w:World}{A:Around}{E:Value->Shared->Prop}{R:Result->Shared->Prop}{S I:Addr}{fp:List Addr}{n:Nat}{P:Nat->Value->Prop}{St J:Nat->Heap->Prop}
theorem zD(W:Walks prog w A.in1 I fp [I] n P St)(F:Fill prog w A.in1 S I n P J)(l:S∉fp) :
  ∀ (k i:Nat) (s:Shared),i+k=n->St i s.heap->J i s.heap ->
    (∀ h' tk,J n h'->(∀ c o,c≠S->c≠I->s.heap.get? c=some o->h'.get? c=some o)->R (.ok (.ret .none)) {s with heap:=h',toks:=tk}) ->
    codeAny (model prog w) A (.builtin "set.update.loop" ⟨[.ref S,.ref I],[]⟩) R s
 | 0,i,s,m,st,j,q=>by
   have hi:i=n:=m;subst hi;refine a4v PyProof.Rows.F.entry_set_update_loop ?_;rw[a0f a2h _]
   (show wpAny _ A.in1 (pyNext (.ref I) >>= _) _ _ s;refine a3W (W.done s _ _ st λh' tk d=>?_))
   have p:∀ c o,c≠I->s.heap.get? c=some o->h'.get? c=some o:=λc o a e=>d c o (by simpa using a) e;exact a3X (q h' tk (F.stay _ _ _ j p) λc o _ a e=>p c o a e)
 | k+1,i,s,m,st,j,q=>by
   have hi:i < n:=by lia
   refine a4v PyProof.Rows.F.entry_set_update_loop ?_;rw[a0f a2h _]
   (show wpAny _ A.in1 (pyNext (.ref I) >>= _) _ _ s;refine a3W (W.item i s _ _ hi st λv y B C f g=>?_))
   have r:∀ c o,c≠I->s.heap.get? c=some o->y.get? c=some o:=λc o a e=>g c o (by simpa using a) e
   (show wpAny _ A.in1 (holding [v] (setAdd S v) >>= _) _ _ _;refine a3W (a4l ?_))
   refine F.put i v _ _ _ hi C (F.stay _ _ _ j r) λb D E G t=>?_;refine a3X ⟨a4B a2h _,?_⟩;have h:St (i+1) D:=W.frame _ _ _ f λc a o e=>t c o (λz=>l (z ▸ a)) e;exact zD W F l k (i+1) _ (by lia) h G λh' tk H K=>q h' tk H λc o u x e=>K c o u x (t c o u (r c o x e))
def cP5{T b a:String}{args:List Value}{Q Q₁:Value->Shared->Prop}{s:Shared}(j:TypeCalled T b a)(k:checkTypeCall T ⟨args,[]⟩=pure ())
  (f:codeAny (model prog w) A.in1 (.call (.builtin b) ⟨.type T::args,[]⟩) (wants Q₁ E) s)
  (g:∀ obj d,Q₁ obj d->d.TypeIs obj T/\codeAny (model prog w) A.in1 (.call (.builtin a) ⟨obj::args,[]⟩) (wants (λr h=>r=.none/\Q obj h) E) d) :
  wpAny (model prog w) A (call (.type T) args) Q E s:=by
 obtain⟨n1,n2,⟨c,m,n3⟩,n,o,p,i⟩:=j;have hl:=i.lookup;refine a4Y (codeAny_of_tree (a3X ⟨Code.quiet_builtin _ (by decide +kernel),a4v F.entry_type_call ?_⟩));rw[Around.under_plain (weight_type_call_type T args []) rfl]
 repeat (any_goals (first | assumption | wp_step))
 refine a4K f λr s1 hr=>?_
 match r,hr with
 | .error e,hr=>exact hr
 | .ok (.ret obj),hr=>
   obtain⟨q,hi⟩:=g obj s1 hr;have t:=i.bind obj
   repeat (any_goals (first | assumption | wp_step))
   refine a4K hi λr s2 hr=>?_
   match r,hr with
   | .error e,hr=>exact hr
   | .ok (.ret x),⟨l,u⟩=>
     subst l
     repeat (any_goals (first | assumption | wp_step))
end
noncomputable abbrev aR3(es:Array (Int×Value))(ep:Nat)(t:SetTable):Obj:={cls:=.type "set",dict:=none,data:=.set es ep t}
noncomputable def fL(w:World):Bool:=!w.params.followText "set-order"
section
variable{prog:Program}{w:World}{A:Around}{E:Value->Shared->Prop}{s:Shared}
def cP6(a:Value){Q:Value->Shared->Prop}(h:Q (.ref s.heap.objs.size) {s with heap:=s.heap.push (aR3 #[] 0 (.fresh 0 0 (fL w)))}) :
  codeAny (model prog w) A (.call (.builtin "set.__new__") ⟨[.type "set",a],[]⟩) (wants Q E) s:=by
 refine a4M F.plain_set_new F.entry_set_new (wpAny_of_eq (F.newCall_set_1 a) ?_);have b:=sub_set_self;unfold Builtin.«set.__new__» Builtin.Frozenset.newClass;obtain⟨c,g,d,tk,os⟩:=s
 wp_walk
 refine a4N (a3X ?_);simp only[newObj];exact a3W (wpAny_alloc (a3X (a3X h)))
end
section
variable{prog:Program}{w:World}{A:Around}{E:Value->Shared->Prop}{n:Nat}{P:Nat->Value->Prop}{St J:Nat->Heap->Prop}
structure Src(prog:Program)(w:World)(A:Around)(h₀:Heap)(l:Addr)(n:Nat)(P:Nat->Value->Prop) where
 T:String
 St:Addr->Nat->Heap->Prop
 ob:Obj
 ty:∃ o,h₀.get? l=some o/\o.cls=.type T
 n1:isSubtype (.type T) (.type "set")=pure false
 n2:isSubtype (.type T) (.type "frozenset")=pure false
 n3:(Value.type T==Value.type "dict")=false
 iter:∀ (A:Around) (s:Shared) (Q:Value->Shared->Prop) (E:Value->Shared->Prop),(∀ b o,h₀.get? b=some o->s.heap.get? b=some o)->Q (.ref s.heap.objs.size) {s with heap:=s.heap.push ob}->wpAny (model prog w) A (pyIter (.ref l)) Q E s
 free:ob.isFreed=false
 walk:∀ (A':Around),A'.handled=A.handled->∀ I,l≠I->Walks prog w A' I [I,l] [I] n P (St I)
 dE:∀ h:Heap,(∀ b o,h₀.get? b=some o->h.get? b=some o)->St h.objs.size 0 (h.push ob)
def bS9{s:Shared}{l:Addr}{Q:Value->Shared->Prop}(c:Src prog w A s.heap l n P)
  (L:∀ A':Around,A'.handled=A.handled->A'.units<=A.units+8->Fill prog w A' s.heap.objs.size (s.heap.objs.size+1) n P J)
  (y:∀ (h':Heap),h'.get? s.heap.objs.size=some (aR3 #[] 0 (.fresh 0 0 (fL w)))->(∀ b o,s.heap.get? b=some o->h'.get? b=some o)->J 0 h')
  (q:∀ h' tk,J n h'->(∀ b o,s.heap.get? b=some o->h'.get? b=some o)->Q (.ref s.heap.objs.size) {s with heap:=h',toks:=tk}) :
  wpAny (model prog w) A (call (.type "set") [.ref l]) Q E s:=by
 obtain⟨T,St,ob,⟨⟨r,j,k,i⟩,d,f⟩,n1,n2,n3,iter,free,walk,dE⟩:=c;simp only at f;subst f;have g:l < s.heap.objs.size:=a2b d;refine cP5 (Q₁:=λobj s₁=>obj=.ref s.heap.objs.size/\s₁={s with heap:=s.heap.push (aR3 #[] 0 (.fresh 0 0 (fL w)))}) F.called_set (F.typeCall_set_1 _) (cP6 _ ⟨rfl,rfl⟩) λobj s₁ Z0=>?_;obtain⟨B,C⟩:=Z0;subst B C;have t:(s.heap.push (aR3 #[] 0 (.fresh 0 0 (fL w)))).get? s.heap.objs.size=some (aR3 #[] 0 (.fresh 0 0 (fL w))):=a0b _ rfl;have old:∀ b o,s.heap.get? b=some o->(s.heap.push (aR3 #[] 0 (.fresh 0 0 (fL w)))).get? b=some o:=λb o e=>a2a _ e;have u:Shared.TypeIs {s with heap:=s.heap.push (aR3 #[] 0 (.fresh 0 0 (fL w)))} (.ref s.heap.objs.size) "set":=⟨_,t,rfl⟩;have D:Shared.TypeIs {s with heap:=s.heap.push (aR3 #[] 0 (.fresh 0 0 (fL w)))} (.ref l) T:=⟨_,old l _ d,rfl⟩;refine⟨u,a4M F.called_set.init.plain F.entry_set_init (check_set_init_1 u ?_)⟩;have G:=old l _ d;unfold Builtin.«set.__init__» noKeywords Builtin.Frozenset.updateFrom;generalize m:pyIter=PI
 wp_walk
 subst m;refine iter _ _ _ _ old ?_;refine a3W (wpAny_runValue ?_);have v:(s.heap.push (aR3 #[] 0 (.fresh 0 0 (fL w)))).objs.size=s.heap.objs.size+1:=a0h ..;have ne:l≠s.heap.objs.size+1:=λz=>absurd g (by rw[z];exact a0k.mpr (Nat.le_succ _));have h:=dE _ old;rw[v]at h;have p:((s.heap.push (aR3 #[] 0 (.fresh 0 0 (fL w)))).push ob).get? s.heap.objs.size=some (aR3 #[] 0 (.fresh 0 0 (fL w))):=a2a _ t;have a:∀ b o,s.heap.get? b=some o->((s.heap.push (aR3 #[] 0 (.fresh 0 0 (fL w)))).push ob).get? b=some o:=λb o e=>a2a _ (old b o e);show codeAny (model prog w) A.in1.in1 (.builtin "set.update.loop" ⟨[.ref s.heap.objs.size,.ref (s.heap.push (aR3 #[] 0 (.fresh 0 0 (fL w)))).objs.size],[]⟩) _ _;rw[v];refine zD (walk A.in1.in1.in1 rfl (s.heap.objs.size+1) ne) (L A.in1.in1.in1 rfl (by show A.units+1+1+1<=A.units+8;lia)) ?_ n 0 _ (a6g n) h (y _ p a) λh' tk H I=>?_;simp only[List.mem_cons,List.not_mem_nil,or_false,not_or];exact⟨a1d (a3e _),a0j g⟩;refine a3X (a3X ⟨rfl,q h' tk H λb o e=>?_⟩);have x:=a2b e;exact I b o (a1d x) (a1d (Nat.lt_succ_of_lt x)) (a b o e)
noncomputable def Src.list{s:Shared}(c:A.handled=none){l:Addr}{items:Array Value}(hl:s.heap.IsList l items):Src prog w A s.heap l items.size (λi v=>items[i]? = some v) where
 T:="list"
 St:=λI i h=>h.IsListIter I l i/\h.IsList l items
 ob:={cls:=.type "list_iterator",data:=.fields #[.ref l,.int 0 0]}
 ty:=by obtain⟨o,d,f,_⟩:=hl;exact⟨o,d,f⟩
 n1:=F.sub_list_set
 n2:=F.sub_list_frozenset
 n3:=by decide
 iter:=λA' s' Q E a g=>wpAny_pyIter_list (hl.at λo e=>a l o e) g
 free:=rfl
 walk:=λA' ha I b=>Walks.list (ha.trans c) I l b items
 dE:=λh a=>⟨⟨_,a0b _ rfl,rfl,rfl⟩,(hl.at λo e=>a l o e).push _⟩
def aE9:isSubtype (.type "tuple") (.type "set")=pure false:=by rw[isSubtype_type];kernel_rfl
def sR:isSubtype (.type "tuple") (.type "frozenset")=pure false:=by rw[isSubtype_type];kernel_rfl
noncomputable def Src.tup{s:Shared}(c:A.handled=none){l:Addr}{items:Array Value}(hl:s.heap.IsTuple l items):Src prog w A s.heap l items.size (λi v=>items[i]? = some v) where
 T:="tuple"
 St:=λI i h=>h.IsTupleIter I l i/\h.IsTuple l items
 ob:={cls:=.type "tuple_iterator",data:=.fields #[.ref l,.int 0 0]}
 ty:=by obtain⟨o,d,f,_⟩:=hl;exact⟨o,d,f⟩
 n1:=aE9
 n2:=sR
 n3:=by decide
 iter:=λA' s' Q E a g=>a4y (hl.at λo e=>a l o e) g
 free:=rfl
 walk:=λA' ha I b=>Walks.tuple (ha.trans c) I l b items
 dE:=λh a=>⟨⟨_,a0b _ rfl,rfl,rfl⟩,(hl.at λo e=>a2a _ (a l o e))⟩
end
end PySem
namespace Sx
open PySem PySem.SetTable
section
variable{t:SetTable}{hs:List Int}
def TOk.stop2(T:TOk t hs)(h:Int):∃ M,M<=10*(13+t.place.size)/\¬ Occ t (wk t.mask h M).j/\∀ m,m < M->Occ t (wk t.mask h m).j:=by
 obtain⟨k,v⟩:=T.pw;have A:=T.fit;have ex:∃ n,n<=t.place.size/\¬ Occ t (wk t.mask h (tm t.mask h (13+n))).j:=by
  refine a9e λhn=>?_;have l:∀ n,n<=t.place.size->Occ t (stp k n (lp t.mask h 13).1):=λn d=>a9e λz=>hn ⟨n,d,by
   rw[aE5,bE9 v h n];exact z⟩
  let f:Nat->Nat:=λn=>below t.place (stp k n (lp t.mask h 13).1)
  have p:∀ n,n<=t.place.size->f n < t.place.size/\t.place[f n]? = some (stp k n (lp t.mask h 13).1):=λn d=>by
   obtain⟨i,e⟩:=l n d;have:f n=i:=gM T.ri e;rw[this];exact⟨(a0e.mp e).1,e⟩
  have u:∀ a b,a < b->b<=t.place.size->f a≠f b:=λa b g o e=>by
   have q:=(p a (by lia)).2;rw[e,(p b o).2]at q;exact bE6 g (by lia:b < 2 ^ k) (a5a q).symm
  obtain⟨i,hi,e⟩:=vX t.place.size f (λi h=>(p i (by lia)).1) (λa b g o=>u a b g (by lia)) (f t.place.size) (p t.place.size (a4a _)).1;exact u i t.place.size hi (a4a _) e
 obtain⟨n,hn,r⟩:=ex;have s:∀ N,(∃ m,m < N/\¬ Occ t (wk t.mask h m).j)->∃ M,M < N/\¬ Occ t (wk t.mask h M).j/\∀ m,m < M->Occ t (wk t.mask h m).j:=by
  intro N
  induction N with
  | zero=>rintro⟨m,h,_⟩;exact absurd h (a0g _)
  | succ N w=>
    rintro⟨m,q,x⟩;by_cases o:∃ m,m < N/\¬ Occ t (wk t.mask h m).j;obtain⟨M,a,b,c⟩:=w o;exact⟨M,by lia,b,c⟩;exact⟨m,q,x,λm' y=>a9e λz=>o ⟨m',by lia,z⟩⟩
 obtain⟨M,a,b,c⟩:=s (tm t.mask h (13+n)+1) ⟨_,a3e _,r⟩;have:=dP3 t.mask h (13+n);exact⟨M,by lia,b,c⟩
end
end Sx
namespace PySem
open Sx
section
variable{prog:Program}{w:World}{A:Around}{E:Value->Shared->Prop}{s:Shared}
abbrev pP(prog:Program)(w:World)(h:Heap)(k:List Int)(a:Addr):Prop:=IsTupleKey (intKind prog w) h k a
def pP.at{h h':Heap}{k:List Int}{a:Addr}(x:pP prog w h k a)(e:∀ o,h.get? a=some o->h'.get? a=some o):pP prog w h' k a:=by
 obtain⟨o,items,n,b,r⟩:=x;exact⟨o,items,n,e o b,r⟩
theorem kM:∀ {k:List Int} {vs:List Value},ItemsAre (intKind prog w) k vs->∀ v∈vs,∃ i t,v=.int i t
 | _,_,.nil,v,a=>by simp at a
 | _,_,.cons b r,v,a=>by
   rcases a5b.mp a with rfl | a;obtain⟨t,e⟩:=Value.isInt_shape b;exact⟨_,t,e⟩;exact kM r v a
def cP7{k:List Int}{a:Addr}{Q:Bool->Shared->Prop}(c:pP prog w s.heap k a)(h:Q true s):wpAny (model prog w) A (hashByValue 8 (.ref a)) Q E s:=by
 have d:=c.typeIs;obtain⟨o,items,n,f,_,hd,hi⟩:=c;unfold hashByValue;refine a3W (a4Q d F.slot_tuple_hash.lookup ?_);dsimp only;refine a3W (a4t f hd ?_);dsimp only[Option.getD_some];refine a3W ?_;rw[← Array.forIn_toList];refine wpAny_forIn_list _ (λcG r s'=>r.1=none/\s'=s/\∀ v∈cG,∃ i t,v=.int i t) _ ?_ ?_ _ _ ⟨rfl,rfl,kM hi⟩
 ·rintro v cG r s' ⟨hr,rfl,b⟩;obtain⟨i,t,rfl⟩:=b v a6a;have e:hashByValue 7 (.int i t)=pure true:=by unfold hashByValue;rfl
  rw[e];refine a3W (a3X ?_);simp only[Bool.not_true,Bool.false_eq_true,if_false];exact a3X ⟨rfl,rfl,λu g=>b u (a7a _ g)⟩
 ·rintro⟨j,l⟩ s' ⟨hr,rfl,_⟩;simp only at hr;subst hr;exact a3X h
def bF5{k:List Int}{a:Addr}{Q:Bool->Shared->Prop}(c:pP prog w s.heap k a)(h:Q false s):wpAny (model prog w) A (ofAClassStatement 8 (.ref a)) Q E s:=by
 have d:=c.typeIs;obtain⟨o,items,n,f,_,hd,hi⟩:=c;unfold ofAClassStatement;refine a3W (a4D d ?_);dsimp only;rw[a3Y (by decide)];refine a3W (a3X ?_);simp only[Bool.not_true,Bool.false_eq_true,if_false];refine a3W (a4t f hd ?_);dsimp only;refine a3W ?_;rw[← Array.forIn_toList];refine wpAny_forIn_list _ (λcG r s'=>r.1=none/\s'=s/\∀ v∈cG,∃ i t,v=.int i t) _ ?_ ?_ _ _ ⟨rfl,rfl,kM hi⟩
 ·rintro v cG r s' ⟨hr,rfl,b⟩;obtain⟨i,t,rfl⟩:=b v a6a;have e:ofAClassStatement 7 (.int i t)=pure false:=by unfold ofAClassStatement;rfl
  rw[e];refine a3W (a3X ?_);simp only[Bool.false_eq_true,if_false];exact a3X ⟨rfl,rfl,λu g=>b u (a7a _ g)⟩
 ·rintro⟨j,l⟩ s' ⟨hr,rfl,_⟩;simp only at hr;subst hr;exact a3X h
def bT0{k:List Int}{a:Addr}{Q:Bool->Shared->Prop}(e:pP prog w s.heap k a)(l:List Value)(hl:∀ v∈l,∃ d b,v=.ref b/\pP prog w s.heap d b)(h:Q false s):wpAny (model prog w) A (searchCouldBeSeen (.ref a) l) Q E s:=by
 unfold searchCouldBeSeen;refine a3W ?_;refine wpAny_forIn_list _ (λcG r s'=>r.1=none/\s'=s/\∀ v∈cG,∃ d b,v=.ref b/\pP prog w s.heap d b) _ ?_ ?_ _ _ ⟨rfl,rfl,hl⟩;rintro v cG r s' ⟨hr,rfl,c⟩;obtain⟨d,b,rfl,f⟩:=c v a6a;have go:∀ u∈cG,∃ d b,u=Value.ref b/\pP prog w s'.heap d b:=λu g=>c u (a7a _ g);dsimp only;split;exact a3X ⟨rfl,rfl,go⟩;refine a3W (wpAny_eqIsQuiet_tuple e ?_);simp only[Bool.not_true,Bool.false_eq_true,if_false];refine a3W (wpAny_eqIsQuiet_tuple f ?_);simp only[Bool.not_true,Bool.false_eq_true,if_false];refine a3W (bF5 e ?_);simp only[Bool.false_eq_true,if_false];refine a3W (bF5 f ?_);simp only[Bool.false_eq_true,if_false];exact a3X ⟨rfl,rfl,go⟩;rintro⟨i,j⟩ s' ⟨hr,rfl,_⟩;simp only at hr;subst hr;exact a3X h
end
structure nP(prog:Program)(w:World)(h:Heap)(S:Addr)(led:Bool)(N:Addr->Prop)(ks:List (List Int))(o:Obj)(es:Array (Int×Value))(ep:Nat)(t:SetTable):Prop where
 ob:h.get? S=some o
 ex:o.ExactSet
 dt:o.data=.set es ep t
 tk:TOk t (es.toList.map (·.1))
 ful:t.place.size*5 < t.mask*3
 ld:t.led=led
 pl:t.plain=true
 len:ks.length=es.size
 it:∀ (i:Nat) e,es[i]? = some e->∃ k a,ks[i]? = some k/\e=(tupleKeyHash (intKind prog w) k,.ref a)/\pP prog w h k a/\N a
 nd:ks.Nodup
section
variable{prog:Program}{w:World}{A:Around}{E:Value->Shared->Prop}{s:Shared}{S:Addr}{led:Bool}{N:Addr->Prop}{ks:List (List Int)}{o:Obj}{es:Array (Int×Value)}{ep:Nat}{t:SetTable}
theorem _root_.Sx.TOk.fits{hs:List Int}(T:TOk t hs){n:Nat}(hn:hs.length=n):t.fits n=true:=by
 have b:=T.len;have a:=T.fit;simp only[SetTable.fits,SetTable.fill,Bool.and_eq_true,beq_iff_eq,decide_eq_true_eq,T.dm];exact⟨by lia,by simpa using a⟩
theorem nP.fits(X:nP prog w s.heap S led N ks o es ep t):t.fits es.size=true:=X.tk.fits (by simp)
def nP.state(X:nP prog w s.heap S led N ks o es ep t){Q:(Array (Int×Value)×Nat×SetTable)->Shared->Prop}(h:Q (es,ep,t) s):wpAny (model prog w) A (setState S) Q E s:=
 wpAny_setState_of X.ob X.dt X.fits h
def nP.even(X:nP prog w s.heap S led N ks o es ep t):t.gaveWay=false:=by
 obtain⟨k,a⟩:=X.tk.pw;have b:=X.tk.m7;unfold SetTable.gaveWay;have:t.mask % 2=1:=by
  cases k with
  | zero=>lia
  | succ k=>rw[a1h]at a;lia
 rw[this];rfl
theorem oG(X:nP prog w s.heap S led N ks o es ep t){k:List Int}{a:Addr}(U:A.units < cLine)(H:pP prog w s.heap k a){M:Nat}(hM:¬ Occ t (wk t.mask (tupleKeyHash (intKind prog w) k) M).j)(hb:∀ m,m < M->Occ t (wk t.mask (tupleKeyHash (intKind prog w) k) m).j)
  (I:M < 10*SetTable.turns t.mask) :
  ∀ (d n:Nat) (c:Option SetTable.Probe) (Q:SetFound->Shared->Prop),c.getD (t.probeStart (tupleKeyHash (intKind prog w) k))=wk t.mask (tupleKeyHash (intKind prog w) k) n->n<=M->M-n < d ->
    (∀ i:Nat,ks[i]? = some k->∃ m j,n<=m/\t.place[i]? = some j/\(wk t.mask (tupleKeyHash (intKind prog w) k) m).j=j/\m < M) ->
    (k∈ks->Q (.there none) s)->(k∉ks->Q (.free (wk t.mask (tupleKeyHash (intKind prog w) k) M).j false) s)->wpAny (model prog w) A (setSearchFrom S (.ref a) (tupleKeyHash (intKind prog w) k) true d c) Q E s
 | 0,n,c,Q,_,_,hf,_,_,_=>by lia
 | d+1,n,c,Q,hst,hn,hf,y,V,q2=>by
   unfold setSearchFrom;refine a3W (X.state ?_);dsimp only;rw[X.even,a3Z a1b,hst];have hg:=bF1 X.tk (h:=tupleKeyHash (intKind prog w) k) (hashAt:=λi=>(es[i]?.map (·.1)).getD 0) hM hb (10*SetTable.turns t.mask) n hn (by lia);have B:∀ (i:Nat) e,es[i]? = some e->((es[i]?.map (·.1)).getD 0)=e.1:=λi e W=>by rw[W];rfl
   split
   ·rename_i met q;rcases hg with⟨m,i,a1,a2,a3,a4,a5,a6⟩ | ⟨a1,a2⟩
    ·have e:met=.candidate (wk t.mask (tupleKeyHash (intKind prog w) k) m).j i (wk t.mask (tupleKeyHash (intKind prog w) k) (m+1)):=a5a (q.symm.trans a6);subst e;dsimp only;have hi:i < es.size:=by
      have h1:=(a0e.mp a3).1;have h2:=X.tk.len;simp at h2;lia
     have J:es[i]? = some es[i]:=a9b hi;obtain⟨Y,b,C,Z,K,_⟩:=X.it i _ J;have seen:∀ v∈((es.filter (λx=>x.1==tupleKeyHash (intKind prog w) k)).toList.map (·.2)),∃ Y b,v=Value.ref b/\pP prog w s.heap Y b:=λv hv=>by
      obtain⟨e,W,rfl⟩:=a1i.mp hv;have he':e∈es:=by
       rw[Array.mem_toList_iff]at W;exact(Array.mem_filter.mp W).1
      obtain⟨j,hj,ej⟩:=Array.getElem_of_mem he';obtain⟨k2,l,_,g,h2,_⟩:=X.it j e (by rw[a9b hj,ej]);exact⟨k2,l,by rw[g],h2⟩
     by_cases hl:t.led=true
     ·rw[hl];simp only[Bool.not_true,Bool.false_eq_true,if_false];rw[J,Z];dsimp only;refine a3W (a4l (wpAny_eqBool_tuple U K H ?_));refine a3W (X.state ?_);dsimp only;by_cases f:Y=k;subst f;rw[a4C rfl];simp only[Bool.and_self,if_true];exact a3X (V (a4b C));rw[a4k f];simp only[Bool.and_false,Bool.false_eq_true,if_false];have D:t.sameMemory t.moves t.mask=some true:=by unfold SetTable.sameMemory;simp
      rw[D];dsimp only;rw[a3Y rfl,rX X.tk.ri a3];dsimp only;rw[J,Z];dsimp only;refine a3W (wpAny_isSame_ref_self ?_);simp only[if_true];refine a3W (a3X ?_);dsimp only;refine oG X U H hM hb I d (m+1) (some _) Q rfl (by lia) (by lia) (λi2 g=>?_) V q2;obtain⟨F,j2,L,l,p,O⟩:=y i2 g;refine⟨F,j2,?_,l,p,O⟩
      -- it lies behind the one P was met
      refine a7j λhle=>?_;have G:i2 < es.size:=by rw[← X.len];exact(a3a.mp g).1
      have r:es[i2]? = some es[i2]:=a9b G;obtain⟨k3,b5,u,R,_⟩:=X.it i2 _ r;rw[g]at u;cases u;by_cases z:F=m
      ·subst z;have:i2=i:=by rw[← gM X.tk.ri l,← gM X.tk.ri a3,p]
       subst this;rw[C]at g;exact f (a5a g)
      ·refine a5 F i2 L (by lia) (by rw[l,p]) ?_;show(es[i2]?.map (·.1)).getD 0=_;rw[B i2 _ r,R]
     ·have hl':t.led=false:=by simpa using hl
      rw[hl'];simp only[Bool.not_false,if_true];refine a3W (bT0 H _ seen ?_);simp only[Bool.false_eq_true,if_false];rw[J,Z];dsimp only;refine a3W (a4l (wpAny_eqBool_tuple U K H ?_));refine a3W (X.state ?_);dsimp only;by_cases f:Y=k;subst f;rw[a4C rfl];simp only[Bool.and_self,if_true];exact a3X (V (a4b C));rw[a4k f];simp only[Bool.and_false,Bool.false_eq_true,if_false];have D:t.sameMemory t.moves t.mask=some true:=by unfold SetTable.sameMemory;simp
      rw[D];dsimp only;rw[a3Y rfl,rX X.tk.ri a3];dsimp only;rw[J,Z];dsimp only;refine a3W (wpAny_isSame_ref_self ?_);simp only[if_true];refine a3W (a3X ?_);dsimp only;refine oG X U H hM hb I d (m+1) (some _) Q rfl (by lia) (by lia) (λi2 g=>?_) V q2;obtain⟨F,j2,L,l,p,O⟩:=y i2 g;refine⟨F,j2,?_,l,p,O⟩
      -- it lies behind the one P was met
      refine a7j λhle=>?_;have G:i2 < es.size:=by rw[← X.len];exact(a3a.mp g).1
      have r:es[i2]? = some es[i2]:=a9b G;obtain⟨k3,b5,u,R,_⟩:=X.it i2 _ r;rw[g]at u;cases u;by_cases z:F=m
      ·subst z;have:i2=i:=by rw[← gM X.tk.ri l,← gM X.tk.ri a3,p]
       subst this;rw[C]at g;exact f (a5a g)
      ·refine a5 F i2 L (by lia) (by rw[l,p]) ?_;show(es[i2]?.map (·.1)).getD 0=_;rw[B i2 _ r,R]
    ·have e:met=.empty (wk t.mask (tupleKeyHash (intKind prog w) k) M).j none:=a5a (q.symm.trans a2);subst e;dsimp only;refine a3X (q2 λhm=>?_);obtain⟨i,hi,e⟩:=a4h hm;have C:ks[i]? = some k:=by rw[a0a hi,e]
     obtain⟨m,j,L,l,p,O⟩:=y i C;have hi':i < es.size:=by rw[← X.len];exact hi
     have r:es[i]? = some es[i]:=a9b hi';obtain⟨k3,b5,u,R,_⟩:=X.it i _ r;rw[C]at u;cases u;refine a1 m i L O (by rw[l,p]) ?_;show(es[i]?.map (·.1)).getD 0=_;rw[B i _ r,R]
   ·rename_i T;exfalso;rcases hg with⟨m,i,_,_,_,_,_,a6⟩ | ⟨_,a2⟩;exact T _ a6;exact T _ a2
end
end PySem
namespace Sx
open PySem PySem.SetTable
theorem pF(n:Nat):∀ (f k:Nat),n < 2 ^ k*2 ^ f->3<=k->∃ g,sizeAbove.go n f (2 ^ k)=2 ^ g/\k<=g/\n < 2 ^ g/\(2 ^ g=2 ^ k\/2 ^ g<=2*n)
 | 0,k,h,i=>⟨k,rfl,a4a _,by simpa using h,.inl rfl⟩
 | f+1,k,h,i=>by
   unfold sizeAbove.go;split;rename_i j;have e:2 ^ k*2=2 ^ (k+1):=(a1h ..).symm;rw[e];obtain⟨g,a,b,c,d⟩:=pF n f (k+1) (by rw[a1h,a1k,a4i 2 (2 ^ f),← a1h];exact h) (by lia);refine⟨g,a,by lia,c,.inr ?_⟩;rcases d with d | d;rw[d,a1h];lia;exact d;rename_i l;exact⟨k,rfl,a4a _,by lia,.inl rfl⟩
def sT(n:Nat)(h:n < 2 ^ 60):∃ k,sizeAbove n=2 ^ k/\3<=k/\n < 2 ^ k/\2 ^ k<=8+2*n:=by
 obtain⟨k,a,b,c,d⟩:=pF n 64 3 (a7b h (by decide)) (a4a _);exact⟨k,a,b,c,by lia⟩
noncomputable def rel{α:Type}(l:List α)(od:List Nat):List α:=od.filterMap (l[·]?)
theorem aF0{b:Type}{l:List b}:∀ {od:List Nat},(∀ j∈od,j < l.length)->∀ i:Nat,(rel l od)[i]? = (od[i]?).bind (l[·]?)
 | [],_,i=>by simp[rel]
 | j::od,h,i=>by
   have a:=h j a6a;have e:rel l (j::od)=l[j]::rel l od:=by
    unfold rel;rw[a3h,a0a a]
   rw[e];cases i with
   | zero=>simp[List.getElem?_eq_getElem a]
   | succ i=>rw[a8c,a8c];exact aF0 (λx c=>h x (a7a _ c)) i
def uG{a:Type}{l:List a}{od:List Nat}(h:∀ j∈od,j < l.length):(rel l od).length=od.length:=by
 induction od with
 | nil=>rfl
 | cons j od b=>
   have c:=h j a6a;have e:rel l (j::od)=l[j]::rel l od:=by
    unfold rel;rw[a3h,a0a c]
   rw[e,a1g,a1g,b λx d=>h x (a7a _ d)]
def aL6{b:Type}{l:List b}{od:List Nat}(h:od.Perm (List.range l.length)):(rel l od).Perm l:=by
 have a:(rel l od).Perm (rel l (List.range l.length)):=h.filterMap _;have c:rel l (List.range l.length)=l:=by unfold rel;exact PySem.List.filterMap_getElem?_range_length l
 rw[c]at a;exact a
def sA{b:Type}(l:List b)(p:Nat)(x:b):(aE7 l p x).Perm (x::l):=by
 unfold aE7;have:=List.perm_middle (a:=x) (l₁:=l.take p) (l₂:=l.drop p);rwa[List.take_append_drop]at this
end Sx
namespace PySem
open Sx
section
variable{prog:Program}{w:World}{A:Around}{E:Value->Shared->Prop}{s:Shared}{S:Addr}{led:Bool}{N:Addr->Prop}{ks:List (List Int)}{o:Obj}{es:Array (Int×Value)}{ep:Nat}{t:SetTable}
def zE(prog:Program)(w:World)(h:Heap)(S:Addr)(led:Bool)(N:Addr->Prop)(ks:List (List Int)):Prop:=∃ o es ep t,nP prog w h S led N ks o es ep t
def nP.store(X:nP prog w s.heap S led N ks o es ep t){b:Array (Int×Value)}{t':SetTable}{c:List (List Int)}(T:TOk t' (b.toList.map (·.1)))(hl:t'.led=t.led)(m:t'.plain=true)(hn:c.length=b.size)(g:c.Nodup)
  (hi:∀ (i:Nat) e,b[i]? = some e->∃ k a,c[i]? = some k/\e=(tupleKeyHash (intKind prog w) k,.ref a)/\pP prog w s.heap k a/\N a) (p:t'.place.size*5 < t'.mask*3) :
  nP prog w (s.heap.update S (Obj.putSet b t')) S led N c {o with data:=.set b (ep+1) t'} b (ep+1) t':=by
 have q:(s.heap.update S (Obj.putSet b t')).get? S=some {o with data:=.set b (ep+1) t'}:=by
  have:=a9c (Obj.putSet b t') X.ob (by rw[a4W b t' X.dt];rfl);rw[a4W b t' X.dt]at this;exact this
 refine⟨q,X.ex,rfl,T,p,hl.trans X.ld,m,hn,λi e r=>?_,g⟩;obtain⟨k,a,u,v,l,x⟩:=hi i e r;refine⟨k,a,u,v,l.at (λob h=>?_),x⟩;have j:a≠S:=λz=>by
  subst z;obtain⟨y,items,n,d,_,f,_⟩:=l;rw[X.ob]at d;cases d;rw[X.dt]at f;cases f
 rw[(a6h s.heap S (Obj.putSet b t')).2 a j];exact h
def cP8(X:nP prog w s.heap S led N ks o es ep t){k:List Int}{a:Addr}{Q:Bool->Shared->Prop}(hu:A.units < cLine)(hk:pP prog w s.heap k a)(haN:N a)(hn:ks.length < 4000)
  (q1:k∈ks->∀ tk,Q false {s with toks:=tk}) (q2:k∉ks->∀ h' tk J,zE prog w h' S led N J->J.Perm (k::ks)->(∀ c ob,c≠S->s.heap.get? c=some ob->h'.get? c=some ob)->Q true {s with heap:=h',toks:=tk}) :
  wpAny (model prog w) A (setAdd S (.ref a)) Q E s:=by
 obtain⟨M,hMs,hM,hb⟩:=X.tk.stop2 (tupleKeyHash (intKind prog w) k);have hsz:t.place.size=es.size:=by have:=X.tk.len;simpa using this
 have hfit:=X.tk.fit;have hes:es.size < 4000:=by rw[← X.len];exact hn
 unfold setAdd;refine a4l (a3W (wpAny_pyHash_tuple hu hk ?_));unfold setAddHashed;refine a4l ?_;generalize hs':s.toks+(k.length+1)=d;have X':nP prog w ({s with toks:=d}:Shared).heap S led N ks o es ep t:=X;have K:pP prog w ({s with toks:=d}:Shared).heap k a:=hk;unfold setAddHashedIn;refine a3W (X'.state ?_);dsimp only;have hbs:byScan (.ref a) es=false:=rfl;rw[hbs,a3Z a1b];unfold setSearch;refine a3W (oG X' hu K hM hb (by show M < 10*(t.mask+15);lia) 100000 0 none _ rfl (a7c _) (by lia) (λi ei=>?_) (λhm=>a3X (q1 hm d)) λhm=>?_)
 ·have hi':i < es.size:=by rw[← X.len];exact(a3a.mp ei).1
  have L:es[i]? = some es[i]:=a9b hi';obtain⟨k3,b5,e4,e5,_⟩:=X.it i _ L;rw[ei]at e4;cases e4;obtain⟨m,j,c1,c2,c3⟩:=X.tk.rea i (tupleKeyHash (intKind prog w) k) (by rw[a6b,a5c,L,e5];rfl);refine⟨m,j,a7c _,c1,c2,a7j λz=>?_⟩;by_cases zz:M=m;subst zz;exact hM ⟨i,by rw[c1,c2]⟩;exact hM (c3 M (by lia))
 ·dsimp only;refine a3W (X'.state ?_);dsimp only;have r:=zB t (wk t.mask (tupleKeyHash (intKind prog w) k) M).j X.tk.dm;have hf7:=X.tk.m7;have hful:=X.ful;have B:=X.tk.put hM hb (by lia);have l:=(jW X.tk.ri (wk t.mask (tupleKeyHash (intKind prog w) k) M).j).le;generalize hj:(wk t.mask (tupleKeyHash (intKind prog w) k) M).j=j at r B l ⊢;rw[r]at B ⊢;dsimp only at B ⊢;generalize hp:SetTable.below t.place j=p at B l ⊢;rw[a3Y X.pl];refine a3W (cP7 K ?_);rw[a3Y rfl];have C:p<=es.size:=by lia
  have O:p<=ks.length:=by rw[X.len];exact C
  have ehs:(SetTable.insertAt es p (tupleKeyHash (intKind prog w) k,Value.ref a)).toList.map (·.1)=aE7 (es.toList.map (·.1)) p (tupleKeyHash (intKind prog w) k):=by
   rw[SetTable.toList_insertAt];unfold aE7;rw[a2e,a6e,a9j,List.map_drop]
  rw[← ehs]at B;have q:(SetTable.insertAt es p (tupleKeyHash (intKind prog w) k,Value.ref a)).size=es.size+1:=qE es C _;have hpl:(SetTable.insertAt t.place p j).size=es.size+1:=by rw[qE t.place l,hsz]
  have P:∀ (i:Nat) e,(SetTable.insertAt es p (tupleKeyHash (intKind prog w) k,Value.ref a))[i]? = some e->∃ R u,(aE7 ks p k)[i]? = some R/\e=(tupleKeyHash (intKind prog w) R,.ref u)/\pP prog w s.heap R u/\N u:=λi e h=>by
   rw[gO _ C]at h;rw[aL4 _ O];split at h;rw[a3Y (by assumption)];exact X.it i e h;split at h;cases h;rw[a3Z (by assumption),a3Y (by assumption)];exact⟨k,a,rfl,rfl,hk,haN⟩;rw[a3Z (by assumption),a3Z (by assumption)];exact X.it (i-1) e h
  have T:(aE7 ks p k).Nodup:=(sA ks p k).nodup_iff.mpr (a1j.mpr ⟨hm,X.nd⟩);have f:(aE7 ks p k).length=(SetTable.insertAt es p (tupleKeyHash (intKind prog w) k,Value.ref a)).size:=by rw[rY _ O,q,X.len]
  have hz:es.size+1<=sizeLine:=by rw[a4G];lia
  refine a3W (wpAny_storeSet_of (s:={s with toks:=d}) X.ob X.dt ?_ (by rw[q];exact hz));have kept:∀ (e2:Array (Int×Value)) (t2:SetTable) c ob,c≠S->s.heap.get? c=some ob->(s.heap.update S (Obj.putSet e2 t2)).get? c=some ob:=λe2 t2 c ob hc e=>by
   rw[(a6h s.heap S (Obj.putSet e2 t2)).2 c hc];exact e
  by_cases U:({t with place:=SetTable.insertAt t.place p j}:SetTable).tooFull=true
  ·rw[U];simp only[Bool.not_false,Bool.and_self,if_true];refine a3W ?_;unfold setRelay
   -- the table is full for a moment: what is known of it still
   have hg:(s.heap.update S (Obj.putSet (SetTable.insertAt es p (tupleKeyHash (intKind prog w) k,Value.ref a)) {t with place:=SetTable.insertAt t.place p j})).get? S=some {o with data:=.set (SetTable.insertAt es p (tupleKeyHash (intKind prog w) k,Value.ref a)) (ep+1) {t with place:=SetTable.insertAt t.place p j}}:=by
    have:=a9c (Obj.putSet (SetTable.insertAt es p (tupleKeyHash (intKind prog w) k,Value.ref a)) {t with place:=SetTable.insertAt t.place p j}) X.ob (by rw[a4W _ _ X.dt];rfl);rw[a4W _ _ X.dt]at this;exact this
   refine a3W (wpAny_setState_of (s:={s with heap:=s.heap.update S (Obj.putSet (SetTable.insertAt es p (tupleKeyHash (intKind prog w) k,Value.ref a)) {t with place:=SetTable.insertAt t.place p j}),toks:=d}) hg rfl (B.fits (by simp)) ?_);dsimp only;have hgr:SetTable.grown (es.size+1)=(es.size+1)*4:=by unfold SetTable.grown;rw[a3Z (by lia)]
   obtain⟨H,V,sa2,sa3,sa4⟩:=sT ((es.size+1)*4) (by lia);rw[hgr,V];rw[a3Z (by rw[a4G];lia)];have hpos:1<=2 ^ H:=Nat.one_le_two_pow;have h8:8<=2 ^ H:=by
    have:2 ^ 3<=2 ^ H:=Nat.pow_le_pow_right (by decide) sa2;simpa using this
   generalize hE:SetTable.insertAt es p (tupleKeyHash (intKind prog w) k,Value.ref a)=b at *;obtain⟨D,od,l1,l2,W,l4,l5,l6,l7⟩:=bF2 (mask:=2 ^ H-1) (k:=H) (finger:=t.finger) (moves:=({t with place:=SetTable.insertAt t.place p j}:SetTable).movedTo (2 ^ H-1)) (led:=t.led) (plain:=t.plain) (hashes:=b.map (·.1)) (by lia) (by lia) (by rw[Array.size_map,q];lia);have hrl:({t with place:=SetTable.insertAt t.place p j}:SetTable).relaid (b.map (·.1)) ((es.size+1)*4)=some (D,od):=by
    unfold SetTable.relaid;rw[V];exact l1
   rw[Array.size_map]at W l5;have F:∀ x∈od.toList,x < b.toList.length:=λx I=>by
    have:=W.mem_iff.mp I;rw[a8e]at this;rw[a9d];exact this
   have L:(od.filterMap (b[·]?)).toList=rel b.toList od.toList:=by
    rw[Array.toList_filterMap];unfold rel;congr 1;funext x;rw[a5c]
   have v:od.toList.length=b.size:=by have:=W.length_eq;simpa using this
   have G:(od.filterMap (b[·]?)).size=b.size:=by
    rw[← a9d,L,uG F,v]
   rw[hrl];refine a3W ?_;show wpAny (model prog w) A (ite (((od.filterMap (b[·]?)).size != b.size)=true) _ _) _ _ _;dsimp only;rw[G];simp only[bne_self_eq_false,Bool.false_eq_true,if_false];refine a3X ?_;dsimp only;refine wpAny_storeSet_of (s:={s with heap:=s.heap.update S (Obj.putSet b {t with place:=SetTable.insertAt t.place p j}),toks:=d}) hg rfl ?_ (by rw[G,q];exact hz);refine a3X ?_
   -- as if it were stored at once
   have T3:TOk D ((od.filterMap (b[·]?)).toList.map (·.1)):=by
    have e4:(od.filterMap (b[·]?)).toList.map (·.1)=od.toList.filterMap ((b.map (·.1))[·]?):=by
     rw[Array.toList_filterMap,List.map_filterMap];congr 1;funext x;rw[Array.getElem?_map]
    rw[e4];exact l2
   have Y:∀ x∈od.toList,x < (aE7 ks p k).length:=λx I=>by rw[f,← a9d];exact F x I
   refine q2 hm _ d (rel (aE7 ks p k) od.toList) ⟨{o with data:=.set (od.filterMap (b[·]?)) (ep+1+1) D},od.filterMap (b[·]?),ep+1+1,D,?_,X.ex,rfl,T3,?_,l6.trans X.ld,l7.trans X.pl,?_,?_,?_⟩ ?_ ?_;have:=a9c (Obj.putSet (od.filterMap (b[·]?)) D) hg (by rw[a4W _ _ rfl];rfl);rw[a4W _ _ rfl]at this;exact this;rw[l4,l5,q];lia;rw[uG Y,v,G]
   ·intro i e h;rw[← a5c,L,aF0 F]at h;rw[aF0 Y];cases I:od.toList[i]? with
    | none=>rw[I]at h;cases h
    | some x=>
      rw[I]at h;have he':b[x]? = some e:=by rw[← a5c];exact h
      obtain⟨R,u,h1,h2,h3,h4⟩:=P x e he';refine⟨R,u,h1,h2,h3.at (λob hob=>?_),h4⟩;have y:u≠S:=λz=>by
       subst z;obtain⟨o2,items,n,Z,_,hd2,_⟩:=h3;rw[X.ob]at Z;cases Z;rw[X.dt]at hd2;cases hd2
      rw[(a6h _ S (Obj.putSet (od.filterMap (b[·]?)) D)).2 u y];exact kept _ _ u ob y hob
   ·exact(aL6 (by rw[f];exact W)).nodup_iff.mpr T
   ·exact(aL6 (by rw[f];exact W)).trans (sA ks p k)
   ·intro c ob hc e;rw[(a6h _ S (Obj.putSet (od.filterMap (b[·]?)) D)).2 c hc];exact kept _ _ c ob hc e
  ·have g:({t with place:=SetTable.insertAt t.place p j}:SetTable).tooFull=false:=by simpa using U
   rw[g];simp only[Bool.and_false,Bool.false_eq_true,if_false];refine a3X (q2 hm _ d (aE7 ks p k) ⟨_,_,_,_,X.store B rfl X.pl f T P ?_⟩ (sA ks p k) (kept _ _));unfold SetTable.tooFull SetTable.fill at g;simp only[X.tk.dm,decide_eq_false_iff_not,Nat.not_le]at g;simpa using g
end
section
variable{prog:Program}{w:World}{A:Around}{S I:Addr}{led:Bool}{N:Addr->Prop}
def zE.stay{h h':Heap}{ks:List (List Int)}(X:zE prog w h S led N ks)(f:h'.get? S=h.get? S)(g:∀ c ob,N c->h.get? c=some ob->h'.get? c=some ob):zE prog w h' S led N ks:=by
 obtain⟨o,es,ep,t,Y⟩:=X;refine⟨o,es,ep,t,f.trans Y.ob,Y.ex,Y.dt,Y.tk,Y.ful,Y.ld,Y.pl,Y.len,λi e j=>?_,Y.nd⟩;obtain⟨k,a,l,m,n,d⟩:=Y.it i e j;exact⟨k,a,l,m,n.at (λob b=>g a ob d b),d⟩
def jB(prog:Program)(w:World)(h:Heap)(N:Addr->Prop)(ks:List (List Int))(items:Array Value):Prop:=ks.length=items.size/\∀ (i:Nat) v,items[i]? = some v->∃ k a,ks[i]? = some k/\v=.ref a/\pP prog w h k a/\N a
def jB.stay{h h':Heap}{ks:List (List Int)}{items:Array Value}(X:jB prog w h N ks items)(f:∀ c ob,N c->h.get? c=some ob->h'.get? c=some ob):jB prog w h' N ks items:=by
 refine⟨X.1,λi v e=>?_⟩;obtain⟨k,a,g,j,l,d⟩:=X.2 i v e;exact⟨k,a,g,j,l.at (λob b=>f a ob d b),d⟩
def bF6{items:Array Value}{ks:List (List Int)}(y:A.units < cLine)(f:¬ N S)(g:¬ N I)(j:S≠I)(H:ks.length < 4000) :
  Fill prog w A S I items.size (λi v=>items[i]? = some v) (λi h=>jB prog w h N ks items/\∃ us,zE prog w h S led N us/\us.length<=i/\∀ x,x∈us↔x∈ks.take i) where
 put:=λi v s Q E hi B ⟨TA,us,X,hl,hm⟩ q=>by
  obtain⟨k,a,C,rfl,tk,ha⟩:=TA.2 i v B;have D:i < ks.length:=by rw[TA.1];exact hi
  have n:ks.take (i+1)=ks.take i++[k]:=by rw[a5j,C];rfl
  have F:=X;obtain⟨o,es,ep,t,Y⟩:=X;refine cP8 Y y tk ha (by lia) (λd b=>?_) λd h' b l G p r=>?_;refine q _ s.heap b ⟨TA,us,F,by lia,λx=>?_⟩ λc ob _ e=>e;rw[n,a1c,a3b,hm x];refine⟨.inl,λh=>?_⟩;rcases h with h | rfl;exact h;exact(hm _).mp d;refine q _ h' b ⟨TA.stay λc ob m e=>r c ob (λz=>f (z ▸ m)) e,l,G,by have:=p.length_eq;simp at this;lia,λx=>?_⟩ r;rw[p.mem_iff,a5b,n,a1c,a3b,hm x];exact or_comm
 stay:=λi h h' ⟨TA,us,X,hl,hm⟩ k=>by
  have u:∀ c ob,N c->h.get? c=some ob->h'.get? c=some ob:=λc ob m e=>k c ob (λz=>g (z ▸ m)) e;refine⟨TA.stay u,us,X.stay ?_ u,hl,hm⟩;obtain⟨o,es,ep,t,Y⟩:=X;rw[k S o j Y.ob,Y.ob]
end
def bF7:Manifest.owners.lookup (String.ofList (['r','o','t','a','r','e','t','i','_','t','e','s']:List Char).reverse)=some Manifest.sig_set_iterator:=by kernel_rfl
def mU:Slot "set_iterator" "__next__" "set_iterator.__next__":=.of (owner:="set_iterator") (n:="__next__") (by rw[typeLookup_type,a4L];kernel_rfl) (by decide +kernel) (by decide +kernel) (by decide +kernel) (.inl (by decide +kernel)) (by rw[isSubtype_type];kernel_rfl)
def zF:entryFor table "set_iterator.__next__"=some Builtin.«set_iterator.__next__»:=entryFor_of_tree (by kernel_rfl)
def aL7(a:Value):argsOk "set_iterator.__next__" ⟨[a],[]⟩:=by
 unfold argsOk;rw[signature?_of (id:="set_iterator.__next__") (n:=['_','_','t','x','e','n','_','_']) (o:=['r','o','t','a','r','e','t','i','_','t','e','s']) (by kernel_rfl) bF7]
 kernel_rfl
def sU:entryFor table "set.__iter__"=some Builtin.«frozenset.__iter__»:=entryFor_alias (id':="frozenset.__iter__") (by kernel_rfl) rfl (by decide +kernel) (by kernel_rfl)
theorem bF8{b:Type}:∀ (l:List b) (i:Nat) (h:i < l.length),(l[i]::l.eraseIdx i).Perm l
 | [],i,h=>absurd h (a0g i)
 | a::l,0,_=>.refl _
 | a::l,i+1,h=>(List.Perm.swap a _ _).trans (.cons a (bF8 l i (Nat.lt_of_succ_lt_succ h)))
theorem zG{b:Type}(next:Nat->Nat):∀ (fuel k:Nat) (zV:List b) (a:Array b),zV.length=fuel->(pickOrder.go next fuel k zV a).toList.Perm (a.toList++zV)
 | 0,k,zV,a,h=>by
   have:zV=[]:=a7e h;subst this;rw[a3g];exact .refl _
 | fuel+1,k,zV,a,h=>by
   have hl:next k % zV.length < zV.length:=Nat.mod_lt _ (by lia)
   unfold pickOrder.go;rw[a0a hl];dsimp only;have c:=zG next fuel (k+1) (zV.eraseIdx (next k % zV.length)) (a.push zV[next k % zV.length]) (by rw[List.length_eraseIdx_of_lt hl];lia)
   refine c.trans ?_;rw[Array.toList_push,List.append_assoc];exact List.Perm.append_left _ (bF8 zV _ hl)
def sV{a:Type}(next:Nat->Nat)(xs:Array a):(pickOrder next xs).toList.Perm xs.toList:=by
 have:=zG next xs.size 0 xs.toList #[] (by simp)
 simpa[pickOrder]using this
noncomputable abbrev aR4(slot i n ep:Nat)(S:Addr):Obj:={cls:=.type "set_iterator",data:=.fields #[.int slot 0,.int i 0,.ref S,.int n 0,.int ep 0]}
section
variable{prog:Program}{w:World}{A:Around}{E:Value->Shared->Prop}{s:Shared}{S I:Addr}{N:Addr->Prop}{ks:List (List Int)}{o:Obj}{es:Array (Int×Value)}{ep:Nat}{t:SetTable}
noncomputable def cI(w:World)(S:Addr)(ep:Nat)(es:Array (Int×Value)):Array (Int×Value):=if w.params.followText "set-order"=true then pickOrder (w.params.setOrder S ep) es else es
def sC(es:Array (Int×Value)):(cI w S ep es).toList.Perm es.toList:=by
 unfold cI;split;exact sV _ es;exact .refl _
def bF9(X:nP prog w s.heap S (fL w) N ks o es ep t){Q:Value->Shared->Prop}(q:Q (.ref s.heap.objs.size) {s with heap:=s.heap.push (aR4 0 0 es.size ep S)}):wpAny (model prog w) A (pyIter (.ref S)) Q E s:=by
 have a:s.TypeIs (.ref S) "set":=⟨o,X.ob,X.ex.1⟩;refine wpAny_pyIter_slot a F.slot_set_iter (a4r F.slot_set_iter a sU ?_ (F.args_set_iter_1 _));show wpAny _ _ (Builtin.Frozenset.sizeOf S >>= _) _ _ s;unfold Builtin.Frozenset.sizeOf;refine a3W (a3W (a4V X.ob X.dt X.fits (a3X ?_)));unfold setDrawn;refine a3W (a3W (X.state ?_));unfold setsByText;refine a3W (a3W (a4N (a3X ?_)));refine a3X ?_;have hd:(!t.plain&&decide (es.size > 1))=false:=by rw[X.pl];rfl
 dsimp only;rw[a3Z (λh=>?_)];refine a3W (a3X ?_);refine a3W (wpAny_setEpoch_of X.ob X.dt X.fits ?_);unfold newFields;refine a3W (a4n ?_);exact a3X ⟨_,rfl,"set_iterator",_,⟨_,a0b _ rfl,rfl⟩,mU.lookup,q⟩;rw[a6d]at h;exact Bool.noConfusion (hd.symm.trans h.2)
def bG0(w:World)(h:Heap)(I S:Addr)(es:Array (Int×Value))(ep:Nat)(t:SetTable)(i:Nat):Prop:=
 ∃ slot,h.get? I=some (aR4 slot i es.size ep S)/\(w.params.followText "set-order"=false->SetTable.below t.place slot=i)
def bG1(X:nP prog w s.heap S (fL w) N ks o es ep t){i slot:Nat}(k:w.params.followText "set-order"=false->SetTable.below t.place slot=i){Q:Option (Value×Nat)->Shared->Prop}
  (l:∀ e next,(cI w S ep es)[i]? = some e->(w.params.followText "set-order"=false->SetTable.below t.place next=i+1)->Q (some (e.2,next)) s) (m:(cI w S ep es)[i]? = none->Q none s):wpAny (model prog w) A (setNext S slot i ep) Q E s:=by
 unfold setNext;refine a3W (X.state ?_);unfold setsByText;refine a3W (a3W (a4N (a3X ?_)));dsimp only;by_cases b:w.params.followText "set-order"=true
 ·rw[a3Y (show(model prog w).w.params.followText "set-order"=true from b)];simp only[bne_self_eq_false,Bool.false_eq_true,if_false];unfold setWalk;refine a3W (a3W (X.state ?_));unfold setsByText;refine a3W (a3W (a4N (a3X ?_)));dsimp only;rw[a3Y (show(model prog w).w.params.followText "set-order"=true from b)];refine a3W (a4N (a3X ?_));have n:cI w S ep es=pickOrder (w.params.setOrder S ep) es:=by unfold cI;rw[a3Y b]
  show wpAny _ _ (pure ((pickOrder (w.params.setOrder S ep) es)[i]?.map λe=>(e.2,slot))) _ _ _;refine a3X ?_;rw[← n];cases f:(cI w S ep es)[i]? with
  | none=>exact m f
  | some e=>exact l e slot f λz=>by rw[b]at z;cases z
 ·have g:w.params.followText "set-order"=false:=by simpa using b
  have a:=k g;have n:cI w S ep es=es:=by unfold cI;rw[a3Z b]
  have p:(!t.plain&&decide (es.size > 1))=false:=by rw[X.pl];rfl
  have j:t.led=true:=by rw[X.ld];unfold fL;rw[g];rfl
  rw[a3Z (show ¬ ((model prog w).w.params.followText "set-order"=true)from b)];refine a4U (λh=>absurd (p.symm.trans h) a1b) λ_=>?_;refine a3W ?_;have q:wpAny (model prog w) A (if(!t.led && !es.isEmpty)=true then unsupported "set:maker-not-led" else pure ()) (λ_ s'=>s'=s) E s:=by
   rw[j];simp only[Bool.not_true,Bool.false_and,Bool.false_eq_true,if_false];exact a3X rfl
  refine a4x q (λ_ s' y=>?_) λ_ _ z=>z;subst y;rw[a];rw[n]at l m;have r:t.place.size=es.size:=by have:=X.tk.len;simpa using this
  cases f:es[i]? with
  | none=>exact a3X (m f)
  | some e=>
    have u:i < t.place.size:=by rw[r];exact(a0e.mp f).1
    have d:t.place[i]? = some t.place[i]:=a9b u;rw[d];refine a3X (l e _ f λ_=>?_);have c:=jW X.tk.ri (t.place[i]+1);have B:i < SetTable.below t.place (t.place[i]+1):=by
     refine a7j λz=>?_;have:=c.hi i _ z d;lia
    have C:SetTable.below t.place (t.place[i]+1)<=i+1:=by
     refine a6j λz=>?_;have v:i+1 < t.place.size:=a7b z c.le;have x:t.place[i+1]? = some t.place[i+1]:=a9b v;have:=c.lo (i+1) _ z x;have:=X.tk.ri i (i+1) _ _ (a3e _) d x;lia
    lia
def bG2(X:nP prog w s.heap S (fL w) N ks o es ep t){i:Nat}(hi:bG0 w s.heap I S es ep t i){Q:Option Value->Shared->Prop}{e:Int×Value}(g:(cI w S ep es)[i]? = some e)
  (q:∀ h',bG0 w h' I S es ep t (i+1)->(∀ b ob,b≠I->s.heap.get? b=some ob->h'.get? b=some ob)->Q (some e.2) {s with heap:=h'}):wpAny (model prog w) A (pyNext (.ref I)) Q E s:=by
 obtain⟨slot,c,d⟩:=hi;have h:s.TypeIs (.ref I) "set_iterator":=⟨_,c,rfl⟩;unfold pyNext;refine a3W (a4O (wpAny_callSpecial?_slot (name:=Str.ofString "__next__") h mU (a4r mU h zF ?_ (aL7 _))));show wpAny _ _ (fieldsOf (.ref I) >>= _) _ _ s;unfold fieldsOf;refine a3W (a3W (a4X c (a3X ?_)));dsimp only;refine a3W (a4V X.ob X.dt X.fits ?_);simp only[bne_self_eq_false,Bool.false_eq_true,if_false,Int.toNat_natCast];refine a3W (bG1 X d (λn next a f=>?_) λhn=>?_)
 ·rw[g]at a;cases a;dsimp only;refine a3W (a4z c rfl (by simp) ?_);have j:(s.heap.update I (λob=>ob.mapFields (·.setIfInBounds 0 (rawInt next)))).get? I=some (aR4 next i es.size ep S):=by
   rw[a9c _ c rfl];simp[Obj.mapFields,rawInt]
  refine a3W (a4z (s:={s with heap:=s.heap.update I (λob=>ob.mapFields (·.setIfInBounds 0 (rawInt next)))}) j rfl (by simp) ?_);have l:((s.heap.update I (λob=>ob.mapFields (·.setIfInBounds 0 (rawInt next)))).update I (λob=>ob.mapFields (·.setIfInBounds 1 (rawInt ((i:Int)+1))))).get? I=some (aR4 next (i+1) es.size ep S):=by
   rw[a9c _ j rfl];simp[Obj.mapFields,rawInt]
  refine a3X ⟨_,rfl,a3X (q _ ⟨next,l,f⟩ λb ob k m=>?_)⟩;exact(a4c _ _ (a5d k)).trans ((a4c _ _ (a5d k)).trans m)
 ·rw[g]at hn;cases hn
def bG3(g:A.handled=none)(X:nP prog w s.heap S (fL w) N ks o es ep t){i:Nat}(hi:bG0 w s.heap I S es ep t i){Q:Option Value->Shared->Prop}(h:(cI w S ep es)[i]? = none)
  (q:∀ h',(∀ b ob,b≠I->s.heap.get? b=some ob->h'.get? b=some ob)->Q none {s with heap:=h'}):wpAny (model prog w) A (pyNext (.ref I)) Q E s:=by
 obtain⟨slot,d,e⟩:=hi;have f:s.TypeIs (.ref I) "set_iterator":=⟨_,d,rfl⟩;unfold pyNext;refine a3W (a4O (wpAny_callSpecial?_slot (name:=Str.ofString "__next__") f mU (a4r mU f zF ?_ (aL7 _))));show wpAny _ _ (fieldsOf (.ref I) >>= _) _ _ s;unfold fieldsOf;refine a3W (a3W (a4X d (a3X ?_)));dsimp only;refine a3W (a4V X.ob X.dt X.fits ?_);simp only[bne_self_eq_false,Bool.false_eq_true,if_false,Int.toNat_natCast];refine a3W (bG1 X e (λn next c j=>?_) λhn=>?_)
 ·rw[h]at c;cases c
 ·dsimp only;refine a3W (a4z d rfl (by simp) ?_);show wpAny _ _ (newExc (.type "StopIteration") [] >>= _) _ _ _;refine a3W ?_;simp only[newExc,newTuple];refine a3W (a4n ?_ (by size_fits));refine a3W (m:=firstArgMember _ _) (wpAny_of_eq (a:=Value.none) rfl ?_);refine a4n ?_ (by size_fits);simp only[raiseNew];refine a3W (wpAny_handled ?_);rw[show A.in1.handled=none from g];refine a3W (a3X (wpAny_throw ?_));refine a3W (wpAny_isInstance (T:="StopIteration") (b:=true) ⟨_,a0b _ rfl,rfl⟩ isSubtype_stop ?_);refine a3X (q _ λb ob k l=>a2a _ (a2a _ ((a4c _ _ (a5d k)).trans l)))
end
open L2
def aR5:typeLookup (.type "set") "__len__"=pure (some (.builtin "set.__len__")):=by rw[typeLookup_type,a4L];kernel_rfl
section
variable{prog:Program}{w:World}{A:Around}{E:Value->Shared->Prop}{s:Shared}{S I:Addr}{N:Addr->Prop}{ks:List (List Int)}{o:Obj}{es:Array (Int×Value)}{ep:Nat}{t:SetTable}
def bT1{Q:Bool->Shared->Prop}(d:s.TypeIs (.ref S) "set")(h:∀ b,Q b s):wpAny (model prog w) A (Builtin.List.listLengthHint (.ref S)) Q E s:=by
 unfold Builtin.List.listLengthHint;refine a3W (a4Q d aR5 ?_)
 (generalize a:("set.__len__":String)=c;(fail_if_success (clear a c));wp_delta;rw[show splitId c=some ("set","__len__")from by subst a;decide +kernel];subst a)
 refine a3W (wpAny_isInstance (b:=true) d sub_set_self ?_);dsimp only;rw[a3Z (by decide)];refine a4U (λ_=>?_) (λh'=>(h' (by decide +kernel)).elim);refine a3W (a4D d ?_);exact a3X (h _)
def bT2(y:A.handled=none){L:Addr}{h0:Heap}(X:nP prog w h0 S (fL w) N ks o es ep t)(B:h0.objs.size<=I)(C:h0.objs.size<=L)(f:L≠I) :
  LoopJ prog w A I L es.size (λi acc h=>(∀ b ob,h0.get? b=some ob->h.get? b=some ob)/\bG0 w h I S es ep t i/\acc.toList=((cI w S ep es).toList.take i).map (·.2)) (λacc h=>(∀ b ob,h0.get? b=some ob->h.get? b=some ob)/\acc.toList=(cI w S ep es).toList.map (·.2)):=by
 have D:(cI w S ep es).toList.length=es.size:=by have:=(sC (w:=w) (S:=S) (ep:=ep) es).length_eq;simpa using this
 have v:∀ b ob,h0.get? b=some ob->b≠I:=λb ob e z=>absurd (a2b e) (a0k.mpr (z ▸ B));have F:∀ b ob,h0.get? b=some ob->b≠L:=λb ob e z=>absurd (a2b e) (a0k.mpr (z ▸ C));have x:∀ (h:Heap),(∀ b ob,h0.get? b=some ob->h.get? b=some ob)->nP prog w h S (fL w) N ks o es ep t:=λh d=>
  ⟨d _ _ X.ob,X.ex,X.dt,X.tk,X.ful,X.ld,X.pl,X.len,λi e l=>by
   obtain⟨k,a,m,n,G,H⟩:=X.it i e l;exact⟨k,a,m,n,G.at (λob p=>d a ob p),H⟩,X.nd⟩
 refine⟨λi acc s c Q E hi ⟨d,hs,ha⟩ r q=>?_,λacc s c Q E ⟨d,hs,ha⟩ r q=>?_,λi acc h h' ⟨d,hs,ha⟩ _ k=>?_⟩
 ·have g:i < (cI w S ep es).toList.length:=by lia
  have l:(cI w S ep es)[i]? = some (cI w S ep es).toList[i]:=by rw[← a5c];exact a0a g
  refine bG2 (x s.heap d) hs l λh' u j=>?_;have:=q (cI w S ep es).toList[i].2 h' s.toks ⟨λb ob e=>j b ob (v b ob e) (d b ob e),u,?_⟩ (j _ _ f r);exact this;rw[Array.toList_push,ha,a5j,a0a g,a2e];rfl
 ·refine bG3 y (x s.heap d) hs (by rw[← a5c];exact a7g (by lia)) λh' j=>?_;have:=q h' s.toks ⟨λb ob e=>j b ob (v b ob e) (d b ob e),by rw[ha,a2f (by lia)]⟩ (j _ _ f r);exact this
 ·obtain⟨slot,m,n⟩:=hs;exact⟨λb ob e=>k b ob (F b ob e) (d b ob e),⟨slot,k I _ (a5d f) m,n⟩,ha⟩
def zH(K:A.handled=none)(X:nP prog w s.heap S (fL w) N ks o es ep t)(hz:es.size<=sizeLine){Q:List Value->Shared->Prop}
  (q:∀ h' tk,(∀ b ob,s.heap.get? b=some ob->h'.get? b=some ob)->s.heap.objs.size < h'.objs.size->Q ((cI w S ep es).toList.map (·.2)) {s with heap:=h',toks:=tk}):wpAny (model prog w) A (collect (.ref S)) Q E s:=by
 have h:S < s.heap.objs.size:=a2b X.ob;have n:∀ R:Result->Shared->Prop,(∀ h' tk acc c,(∀ b ob,s.heap.get? b=some ob->h'.get? b=some ob)->acc.toList=(cI w S ep es).toList.map (·.2)->h'.get? s.heap.objs.size=some (gX acc c)->R (.ok (.ret (.ref s.heap.objs.size))) {s with heap:=h',toks:=tk}) ->
   codeAny (model prog w) A (.builtin "proto.collect" ⟨[.ref S],[]⟩) R s:=by
  intro R C
  (refine a4v F.entry_proto_collect ?_;rw[a0f F.plain_proto_collect _])
  (show wpAny _ A.in1 (newList [] >>= λl=>again (.builtin "list.__iadd__" ⟨[l,.ref S],[]⟩)) _ _ s;refine a3W (a4n ?_))
  (refine a3X ⟨a4B F.plain_list_iadd _,a4v F.entry_list_iadd ?_⟩;rw[a0f F.plain_list_iadd _])
  have up:∀ b ob,s.heap.get? b=some ob->(s.heap.push (gX #[] 0)).get? b=some ob:=λb ob e=>a2a _ e;have D:(s.heap.push (gX #[] 0)).objs.size=s.heap.objs.size+1:=a0h ..;have G:nP prog w ({s with heap:=s.heap.push (gX #[] 0)}:Shared).heap S (fL w) N ks o es ep t:=
   ⟨up _ _ X.ob,X.ex,X.dt,X.tk,X.ful,X.ld,X.pl,X.len,λi e M=>by
    obtain⟨k,a,p,O,P,T⟩:=X.it i e M;exact⟨k,a,p,O,P.at (λob r=>up a ob r),T⟩,X.nd⟩
  have U:Shared.TypeIs {s with heap:=s.heap.push (gX #[] 0)} (.ref S) "set":=⟨o,G.ob,X.ex.1⟩
  (show wpAny _ A.in1 (Builtin.List.listExtendWith (.ref s.heap.objs.size) (.ref S) (.ref s.heap.objs.size)) _ _ {s with heap:=s.heap.push (gX #[] 0)})
  unfold Builtin.List.listExtendWith;refine a3W (a4D U ?_);have p:Builtin.List.listSameRef (.ref s.heap.objs.size) (.ref S)=false:=by
   simp only[Builtin.List.listSameRef,beq_eq_false_iff_ne];exact a0j h
  rw[a3Z (by rw[p];decide)];refine a3W (bF9 G ?_);have f:((s.heap.push (gX #[] 0)).push (aR4 0 0 es.size ep S)).get? s.heap.objs.size=some (gX #[] 0):=a2a _ (a0b _ rfl);have u:((s.heap.push (gX #[] 0)).push (aR4 0 0 es.size ep S)).get? (s.heap.push (gX #[] 0)).objs.size=some (aR4 0 0 es.size ep S):=a0b _ rfl;have j:∀ b ob,s.heap.get? b=some ob->((s.heap.push (gX #[] 0)).push (aR4 0 0 es.size ep S)).get? b=some ob:=λb ob e=>a2a _ (up b ob e);have v:Shared.TypeIs {s with heap:=(s.heap.push (gX #[] 0)).push (aR4 0 0 es.size ep S)} (.ref S) "set":=⟨o,j _ _ X.ob,X.ex.1⟩;have V:SetTable.below t.place 0=0:=by
   have c:=jW X.tk.ri 0;refine Nat.le_zero.mp (a6j λz=>?_);have x:0 < t.place.size:=a7b z c.le;have W:t.place[0]? = some t.place[0]:=a9b x;exact absurd (c.lo 0 _ z W) (a0g _)
  have ne:s.heap.objs.size≠(s.heap.push (gX #[] 0)).objs.size:=by rw[D];exact a1d (a3e _)
  have L:=bT2 (A:=A.in1) K (I:=(s.heap.push (gX #[] 0)).objs.size) (L:=s.heap.objs.size) X (by rw[D];exact Nat.le_succ _) (a4a _) ne;have H:(∀ b ob,s.heap.get? b=some ob->((s.heap.push (gX #[] 0)).push (aR4 0 0 es.size ep S)).get? b=some ob)/\bG0 w ((s.heap.push (gX #[] 0)).push (aR4 0 0 es.size ep S)) (s.heap.push (gX #[] 0)).objs.size S es ep t 0/\(#[]:Array Value).toList=((cI w S ep es).toList.take 0).map (·.2):=⟨j,⟨0,u,λ_=>V⟩,rfl⟩;refine a3W (a4l (bT1 v λb=>?_));refine a4U (λ_=>?_) (λ_=>a3X ⟨a4B a5g _,bO3 L hz _ es.size 0 _ #[] 0 (by lia) (a7c _) H rfl f λh' tk acc c g y d=>C h' tk acc c g.1 g.2 d⟩)
  (refine a3W (a4S ?_);refine a3W ?_)
  (show wpAny _ _ (updateSeq s.heap.objs.size (·.push .none) >>= λ_=>updateSeq s.heap.objs.size (·.pop)) _ _ _;refine a3W (a4R f rfl ?_))
  have m:(((s.heap.push (gX #[] 0)).push (aR4 0 0 es.size ep S)).update s.heap.objs.size (Obj.mapSeq (·.push Value.none))).get? s.heap.objs.size=some (gX #[.none] 1):=by
   rw[a9c _ f rfl];simp[Obj.mapSeq]
  refine a4R (hz:=by seq_fits) m rfl ?_;have B:((((s.heap.push (gX #[] 0)).push (aR4 0 0 es.size ep S)).update s.heap.objs.size (Obj.mapSeq (·.push Value.none))).update s.heap.objs.size (Obj.mapSeq (·.pop))).get? s.heap.objs.size=some (gX #[] 2):=by
   rw[a9c _ m rfl];simp[Obj.mapSeq]
  refine a3X ⟨a4B a5g _,bO3 L hz _ es.size 0 _ #[] 2 (by lia) (a7c _) (L.frame _ _ _ _ H ?_ λb ob J e=>?_) rfl B λh' tk acc c g y d=>C h' tk acc c g.1 g.2 d⟩;exact(Heap.size_update ..).trans (Heap.size_update ..);exact(a4c _ _ (a5d J)).trans ((a4c _ _ (a5d J)).trans e)
 (unfold collect;refine a3W (wpAny_runValue (n _ λh' tk acc c g ha d=>?_)))
 (show wpAny _ A (load s.heap.objs.size >>= _) _ _ _;refine a3W (a4X d ?_))
 rw[← ha]at q;exact a3X (q h' tk g (a2b d))
end
end PySem
namespace Sx
open PySem PySem.W PyProof.Rows
structure Ord(c:Nat->Nat->Bool):Prop where
 ir:∀ a,c a a=false
 tr:∀ {a b d},c a b=true->c b d=true->c a d=true
 nt:∀ {a b d},c b a=false->c d b=false->c d a=false
noncomputable abbrev at0(p:Array Nat)(i:Nat):Nat:=p.getD i 0
def Up(c:Nat->Nat->Bool)(p:Array Nat)(k:Nat):Prop:=∀ i j,i<=j->j < k->c (at0 p j) (at0 p i)=false
def Dn(c:Nat->Nat->Bool)(p:Array Nat)(k:Nat):Prop:=∀ i j,i<=j->j < k->c (at0 p i) (at0 p j)=false
def Pm(N:Nat)(p:Array Nat):Prop:=p.toList.Perm (List.range N)
theorem Pm.size{N:Nat}{p:Array Nat}(h:Pm N p):p.size=N:=by have:=List.Perm.length_eq h;simpa using this
def Pm.lt{N:Nat}{p:Array Nat}(h:Pm N p){i:Nat}(hi:i < N):at0 p i < N:=by
 have hs:=h.size;have a:i < p.size:=by lia
 have e:at0 p i=p[i]:=by simp[at0,Array.getD,a]
 rw[e];have:p[i]∈p.toList:=by simp
 exact a8e.mp (h.mem_iff.mp this)
def Pm.of{N:Nat}{p q:Array Nat}(h:Pm N p)(a:q.Perm p):Pm N q:=(Array.perm_iff_toList_perm.mp a).trans h
def zI{p q:Array Nat}{i j:Nat}(h:p[i]? = q[j]?):at0 p i=at0 q j:=by simp[at0,Array.getD_eq_getD_getElem?,h]
def gR{p:Array Nat}{i j k:Nat}(a:j<=p.size):at0 (kas_rev p i j) k=if i<=k/\k < j then at0 p (i+j-1-k)else at0 p k:=by
 have e:=getElem?_mirror_all (xs:=p) (i:=i) (j:=j) a k;unfold kas_rev;by_cases h:i<=k/\k < j;rw[a3Y h]at e ⊢;exact zI e;rw[a3Z h]at e ⊢;exact zI e
def Pm.rev{N:Nat}{p:Array Nat}(h:Pm N p)(i j:Nat):Pm N (kas_rev p i j):=h.of (mirror_perm ..)
section
variable{N:Nat}{c:Nat->Nat->Bool}{cmp:Nat->Nat->(Bool->Shared->Prop)->Shared->Prop}{s:Shared}(O:Ord c)(hc:∀ i j C,i < N->j < N->C (c i j) s->cmp i j C s)
include O hc
theorem bG4{p:Array Nat}(e:Pm N p):∀ (f n:Nat) {G:Nat->Shared->Prop},1<=n->n+f<=N->Up c p n->(∀ m,n<=m->m<=n+f->Up c p m->(m=n+f\/c (at0 p m) (at0 p (m-1))=true)->G m s)->(kas_asc p f n).kasWp cmp G s
 | 0,n,G,l,o,a,q=>q n (a4a _) (a4a _) a (.inl rfl)
 | f+1,n,G,l,o,a,q=>by
   show cmp (at0 p n) (at0 p (n-1)) (λb s'=>(if b=true then KasT.ret n else kas_asc p f (n+1)).kasWp cmp G s') s;refine hc _ _ _ (e.lt (by lia)) (e.lt (by lia)) ?_;cases k:c (at0 p n) (at0 p (n-1))with
   | true=>rw[a3Y rfl];exact q n (a4a _) (by lia) a (.inr k)
   | false=>
     rw[a3Z a1b];refine bG4 e f (n+1) (by lia) (by lia) (λi j g r=>?_) λm a1 a2 a3 a4=>q m (by lia) (by lia) a3 (by rcases a4 with z | z;exact .inl (by lia);exact .inr z);by_cases h:j < n;exact a i j g h
     ·have:j=n:=by lia
      subst this;by_cases d:i=j;subst d;exact O.ir _;exact O.nt (a i (j-1) (by lia) (by lia)) k
omit hc in
theorem Dn.turn{p:Array Nat}{n q:Nat}(hn:n<=p.size)(g:q+1<=n)(hd:Dn c p n)(e:∀ i j,n-(q+1)<=i->i < n->n-(q+1)<=j->j < n->c (at0 p i) (at0 p j)=false):Dn c (kas_rev p (n-(q+1)) n) n:=by
 intro i j a f;rw[gR hn,gR hn];by_cases b:n-(q+1)<=i/\i < n;rw[a3Y b,a3Y (by lia)];exact e _ _ (by lia) (by lia) (by lia) (by lia);rw[a3Z b];by_cases d:n-(q+1)<=j/\j < n;rw[a3Y d];exact hd i _ (by lia) (by lia);rw[a3Z d];exact hd i j a f
omit hc in
theorem Dn.less{p:Array Nat}{n:Nat}(e:1<=n)(hd:Dn c p n)(hl:c (at0 p n) (at0 p (n-1))=true):Dn c p (n+1):=by
 intro i j a f;by_cases b:j < n;exact hd i j a b;have:j=n:=by lia
 subst this;by_cases hi:i=j;subst hi;exact O.ir _;cases d:c (at0 p i) (at0 p j)with
 | false=>rfl
 | true=>
   have:=O.tr d hl;rw[hd i (j-1) (by lia) (by lia)]at this;exact this.symm
theorem vZ:∀ (f:Nat) (p:Array Nat) (n q:Nat) {G:Array Nat×Nat×Nat->Shared->Prop},Pm N p->1<=n->n+f<=N->Dn c p n->q+1<=n->(∀ i j,n-(q+1)<=i->i < n->n-(q+1)<=j->j < n->c (at0 p i) (at0 p j)=false) ->
  (∀ a m g,Pm N a->n<=m->m<=n+f->Dn c a m->g+1<=m->(∀ i j,m-(g+1)<=i->i < m->m-(g+1)<=j->j < m->c (at0 a i) (at0 a j)=false)->G (a,m,g) s)->(kas_desc f p n q).kasWp cmp G s
 | 0,p,n,q,G,e,r,A,hd,l,he,k=>k p n q e (a4a _) (a4a _) hd l he
 | f+1,p,n,q,G,e,r,A,hd,l,he,k=>by
   have hs:=e.size;show cmp (at0 p n) (at0 p (n-1)) (λb s'=>(if b=true then(if q > 0 then kas_desc f (kas_rev p (n-(q+1)) n) (n+1) 0 else kas_desc f p (n+1) 0)else KasT.ask (at0 p (n-1)) (at0 p n) λd=>if d=true then KasT.ret (p,n,q)else kas_desc f p (n+1) (q+1)).kasWp cmp G s') s;refine hc _ _ _ (e.lt (by lia)) (e.lt (by lia)) ?_;have one:∀ (a:Array Nat) i j,n+1-(0+1)<=i->i < n+1->n+1-(0+1)<=j->j < n+1->c (at0 a i) (at0 a j)=false:=λa i j a1 a2 a3 a4=>by
    have:i=n:=by lia
    have:j=n:=by lia
    subst i;subst j;exact O.ir _
   cases hl:c (at0 p n) (at0 p (n-1))with
   | true=>
     rw[a3Y rfl];by_cases h:q > 0
     ·rw[a3Y h];have t:=Dn.turn O (by lia) l hd he;have u:at0 (kas_rev p (n-(q+1)) n) n=at0 p n:=by rw[gR (by lia),a3Z (by lia)]
      have v:c (at0 (kas_rev p (n-(q+1)) n) n) (at0 (kas_rev p (n-(q+1)) n) (n-1))=true:=by
       rw[u,gR (by lia),a3Y (by lia)]
       -- alike to B last one
       cases C:c (at0 p n) (at0 p (n-(q+1)+n-1-(n-1)))with
       | true=>rfl
       | false=>
         have:=O.nt (he (n-(q+1)+n-1-(n-1)) (n-1) (by lia) (by lia) (by lia) (by lia)) C;rw[hl]at this;exact this.symm
      refine vZ f _ (n+1) 0 (e.rev _ _) (by lia) (by lia) (Dn.less O r t v) (by lia) (one _) λa m g a1 a2 a3 a4 a5 a6=>k a m g a1 (by lia) (by lia) a4 a5 a6
     ·rw[a3Z h];exact vZ f p (n+1) 0 e (by lia) (by lia) (Dn.less O r hd hl) (by lia) (one _) λa m g a1 a2 a3 a4 a5 a6=>k a m g a1 (by lia) (by lia) a4 a5 a6
   | false=>
     rw[a3Z a1b];show cmp (at0 p (n-1)) (at0 p n) (λb s'=>(if b=true then KasT.ret (p,n,q)else kas_desc f p (n+1) (q+1)).kasWp cmp G s') s;refine hc _ _ _ (e.lt (by lia)) (e.lt (by lia)) ?_;cases y:c (at0 p (n-1)) (at0 p n)with
     | true=>rw[a3Y rfl];exact k p n q e (a4a _) (by lia) hd l he
     | false=>
       rw[a3Z a1b];have z:∀ i,n-(q+1)<=i->i < n->c (at0 p i) (at0 p n)=false/\c (at0 p n) (at0 p i)=false:=λi a1 a2=>
        ⟨O.nt y (he i (n-1) a1 a2 (by lia) (by lia)),O.nt (he (n-1) i (by lia) (by lia) a1 a2) hl⟩
       refine vZ f p (n+1) (q+1) e (by lia) (by lia) (λi j w o=>?_) (by lia) (λi j a1 a2 a3 a4=>?_) λa m g a1 a2 a3 a4 a5 a6=>k a m g a1 (by lia) (by lia) a4 a5 a6
       ·by_cases x:j < n;exact hd i j w x;have:j=n:=by lia
        subst this;by_cases hi:i=j;subst hi;exact O.ir _;exact O.nt y (hd i (j-1) (by lia) (by lia))
       ·by_cases hi:i=n;by_cases o:j=n;subst hi;subst o;exact O.ir _;subst hi;exact(z j (by lia) (by lia)).2;by_cases o:j=n;subst o;exact(z i (by lia) (by lia)).1;exact he i j (by lia) (by lia) (by lia) (by lia)
theorem bG5{p:Array Nat}{n:Nat}(a:Pm N p)(d:1<=n)(hn:n<=N)(hd:Dn c p n){G:Nat×Array Nat->Shared->Prop}(k:∀ m b,Pm N b->1<=m->m<=N->Up c b m->G (m,b) s):(kas_tail3 n N p).kasWp cmp G s:=by
 have hs:=a.size;unfold kas_tail3;rw[KasT.kasWp_bind];refine bG4 O hc (a.rev 0 n) (N-n) n d (by lia) (λi j e f=>?_) λm a1 a2 a3 _=>k m _ (a.rev 0 n) (by lia) (by lia) a3;rw[gR (by lia),gR (by lia),a3Y (by lia),a3Y (by lia)];exact hd _ _ (by lia) (by lia)
theorem sD{p:Array Nat}{n:Nat}(e:Pm N p)(h:1<=n)(hn:n+1<=N)(hd:Dn c p (n+1)){G:Nat×Array Nat->Shared->Prop}(k:∀ m a,Pm N a->1<=m->m<=N->Up c a m->G (m,a) s):(kas_descPart n N p).kasWp cmp G s:=by
 unfold kas_descPart;rw[KasT.kasWp_bind];refine vZ O hc (N-(n+1)) p (n+1) 0 e (by lia) (by lia) hd (by lia) (λi j a1 a2 a3 a4=>?_) λa m l b o q d f g=>?_
 ·have:i=n:=by lia
  have:j=n:=by lia
  subst i;subst j;exact O.ir _
 ·have hs:=b.size;dsimp only;split;exact bG5 O hc (b.rev _ _) (by lia) (by lia) (Dn.turn O (by lia) f d g) k;exact bG5 O hc b (by lia) (by lia) d k
theorem bT3{p:Array Nat}(a:Pm N p)(v:1<=N){G:Nat×Array Nat->Shared->Prop}(k:∀ m h,Pm N h->1<=m->m<=N->Up c h m->G (m,h) s):(kas_count N p).kasWp cmp G s:=by
 have hs:=a.size;unfold kas_count;rw[KasT.kasWp_bind];refine bG4 O hc a (N-1) 1 (a4a _) (by lia) (λi j d l=>?_) λn a1 a2 a3 a4=>?_
 ·have:i=j:=by lia
  subst this;exact O.ir _
 ·by_cases e:n=N;subst e;rw[a3Y (by simp)];exact k n p a (by lia) (a4a _) a3;rw[a3Z (by simpa using e)];have f:c (at0 p n) (at0 p (n-1))=true:=by rcases a4 with z | z;lia;exact z
  by_cases g:n > 1
  ·rw[a3Y g];show cmp (at0 p 0) (at0 p (n-1)) (λb s'=>(if b=true then KasT.ret (n,p)else kas_descPart n N (kas_rev p 0 n)).kasWp cmp G s') s;refine hc _ _ _ (a.lt (by lia)) (a.lt (by lia)) ?_;cases hr:c (at0 p 0) (at0 p (n-1))with
   | true=>rw[a3Y rfl];exact k n p a (by lia) (by lia) a3
   | false=>
     rw[a3Z a1b]
     -- all of o are alike
     have q:∀ i j,i < n->j < n->c (at0 p i) (at0 p j)=false:=λi j hi l=>by
      have r:c (at0 p 0) (at0 p j)=false:=O.nt (a3 j (n-1) (by lia) (by lia)) hr;have t:c (at0 p i) (at0 p 0)=false:=a3 0 i (by lia) hi;exact O.nt r t
     refine sD O hc (a.rev 0 n) (by lia) (by lia) (Dn.less O (by lia) (λi j d l=>?_) ?_) k;rw[gR (by lia),gR (by lia),a3Y (by lia),a3Y (by lia)];exact q _ _ (by lia) (by lia)
     ·rw[gR (by lia),gR (by lia),a3Z (by lia),a3Y (by lia)];cases u:c (at0 p n) (at0 p (0+n-1-(n-1)))with
      | true=>rfl
      | false=>
        have:=O.nt (q (0+n-1-(n-1)) (n-1) (by lia) (by lia)) u;rw[f]at this;exact this.symm
  ·rw[a3Z g];have:n=1:=by lia
   subst this;refine sD O hc a (a4a _) (by lia) (Dn.less O (a4a _) (λi j d l=>?_) f) k;have:i=j:=by lia
   subst this;exact O.ir _
theorem wA{p:Array Nat}{k:Nat}(e:Pm N p)(j:k < N)(g:Up c p k):∀ (f l r:Nat) {G:Nat->Shared->Prop},l<=r->r<=k->r-l<=f->(∀ i,i < l->c (at0 p k) (at0 p i)=false)->(∀ i,r<=i->i < k->c (at0 p k) (at0 p i)=true) ->
  (∀ m,m<=k->(∀ i,i < m->c (at0 p k) (at0 p i)=false)->(∀ i,m<=i->i < k->c (at0 p k) (at0 p i)=true)->G m s)->(kas_place p k f l r).kasWp cmp G s
 | 0,l,r,G,u,h,v,a,b,q=>by
   have:l=r:=by lia
   subst this;exact q l h a b
 | f+1,l,r,G,u,h,v,a,b,q=>by
   unfold kas_place;split
   ·have:l=r:=by lia
    subst this;exact q l h a b
   ·show cmp (at0 p k) (at0 p ((l+r) / 2)) (λd s'=>(if d=true then kas_place p k f l ((l+r) / 2)else kas_place p k f ((l+r) / 2+1) r).kasWp cmp G s') s;refine hc _ _ _ (e.lt j) (e.lt (by lia)) ?_;cases t:c (at0 p k) (at0 p ((l+r) / 2))with
    | true=>
      rw[a3Y rfl];refine wA e j g f l _ (by lia) (by lia) (by lia) a (λi n o=>?_) q;cases w:c (at0 p k) (at0 p i)with
      | true=>rfl
      | false=>
        have:=g ((l+r) / 2) i n o;have:=O.nt this w;rw[t]at this;exact this.symm
    | false=>
      rw[a3Z a1b];refine wA e j g f _ r (by lia) h (by lia) (λi hi=>?_) b q;exact O.nt (g i ((l+r) / 2) (by lia) (by lia)) t
theorem cD9:∀ (f:Nat) (p:Array Nat) (k:Nat) {G:Array Nat->Shared->Prop},Pm N p->k+f=N->Up c p k->(∀ g,Pm N g->Up c g N->G g s)->(kas_bin f p k).kasWp cmp G s
 | 0,p,k,G,b,B,a,q=>by
   have:k=N:=by lia
   subst this;exact q p b a
 | f+1,p,k,G,b,B,a,q=>by
   have hs:=b.size;unfold kas_bin;rw[KasT.kasWp_bind];refine wA O hc b (by lia) a k 0 k (a7c _) (a4a _) (by lia) (λi h=>absurd h (a0g _)) (λi o r=>by lia) λm hm o r=>?_;have t:∀ i,at0 (bubble p k (k-m)) i=if i=m then at0 p k else if m < i/\i<=k then at0 p (i-1)else at0 p i:=λi=>by
    have e:=getElem?_bubble (xs:=p) (src:=k) (by lia) (k-m) (by lia) i;have C:k-(k-m)=m:=by lia
    rw[C]at e;by_cases u:i=m;rw[a3Y u]at e ⊢;exact zI e;rw[a3Z u]at e ⊢;by_cases v:m < i/\i<=k;rw[a3Y v]at e ⊢;exact zI e;rw[a3Z v]at e ⊢;exact zI e
   refine cD9 f _ (k+1) (b.of (bubble_perm ..)) (by lia) (λi j l F=>?_) q;rw[t,t];by_cases w:j=m;rw[a3Y w];by_cases d:i=m;rw[a3Y d];exact O.ir _;rw[a3Z d,a3Z (by lia)];exact o i (by lia)
   ·rw[a3Z w];by_cases d:i=m
    ·rw[a3Y d,a3Y (by lia)]
     -- D placed one is less y n behind it
     have x:=r (j-1) (by lia) (by lia);cases E:c (at0 p (j-1)) (at0 p k)with
     | false=>rfl
     | true=>have:=O.tr E x;rw[O.ir]at this;exact this.symm
    ·rw[a3Z d];by_cases z:m < j/\j<=k;rw[a3Y z];by_cases A:m < i/\i<=k;rw[a3Y A];exact a _ _ (by lia) (by lia);rw[a3Z A];exact a _ _ (by lia) (by lia);rw[a3Z z,a3Z (by lia)];exact a _ _ l (by lia)
theorem cP9(f:1<=N){G:Array Nat->Shared->Prop}(q:∀ p,Pm N p->Up c p N->G p s):(kas_sort N).kasWp cmp G s:=by
 unfold kas_sort;rw[KasT.kasWp_bind];refine bT3 O hc (p:=List.toArray (List.range N)) (.refl _) f λm a b g h d=>?_;dsimp only;split
 ·have e:max m 1=m:=by lia
  rw[e];exact cD9 O hc (N-m) a m b (by lia) d q
 ·have:m=N:=by lia
  subst this;exact q a b d
end
noncomputable def tlt:List Int->List Int->Bool
 | _,[]=>false
 | [],_::_=>true
 | a::x,b::y=>if a=b then tlt x y else decide (a < b)
theorem sE:∀ x,tlt x x=false
 | []=>rfl
 | a::x=>by show(if a=a then tlt x x else _)=false;rw[a3Y rfl];exact sE x
theorem aL8:∀ {x y z},tlt x y=true->tlt y z=true->tlt x z=true
 | _,[],_,h,_=>by simp[tlt]at h
 | _,_::_,[],_,h=>by simp[tlt]at h
 | [],_::_,_::_,_,_=>rfl
 | a::x,b::y,d::z,i,j=>by
   have e:(if a=b then tlt x y else decide (a < b))=true:=i;have c:(if b=d then tlt y z else decide (b < d))=true:=j;show(if a=d then tlt x z else decide (a < d))=true;by_cases g:a=b;rw[a3Y g]at e;by_cases f:b=d;rw[a3Y f]at c;rw[a3Y (g.trans f)];exact aL8 e c;rw[a3Z f]at c;rw[a3Z (by lia)];simp at c ⊢;lia;rw[a3Z g]at e;by_cases f:b=d;rw[a3Y f]at c;rw[a3Z (by lia)];simp at e ⊢;lia;rw[a3Z f]at c;simp at e c;rw[a3Z (by lia)];simp;lia
theorem cE0:∀ {x y z},tlt y x=false->tlt z y=false->tlt z x=false
 | [],_,_,_,_=>by cases ‹List Int› <;> rfl
 | _::_,[],_,h,_=>by simp[tlt]at h
 | _::_,_::_,[],_,h=>by simp[tlt]at h
 | a::x,b::y,d::z,i,j=>by
   have e:(if b=a then tlt y x else decide (b < a))=false:=i;have c:(if d=b then tlt z y else decide (d < b))=false:=j;show(if d=a then tlt z x else decide (d < a))=false;by_cases g:b=a;rw[a3Y g]at e;by_cases f:d=b;rw[a3Y f]at c;rw[a3Y (f.trans g)];exact cE0 e c;rw[a3Z f]at c;rw[a3Z (by lia)];simp at c ⊢;lia;rw[a3Z g]at e;by_cases f:d=b;rw[a3Y f]at c;rw[a3Z (by lia)];simp at e ⊢;lia;rw[a3Z f]at c;simp at e c;rw[a3Z (by lia)];simp;lia
theorem aF1:∀ {x y},tlt x y=false->tlt y x=false->x=y
 | [],[],_,_=>rfl
 | [],_::_,h,_=>by simp[tlt]at h
 | _::_,[],_,h=>by simp[tlt]at h
 | a::x,b::y,f,g=>by
   have c:(if a=b then tlt x y else decide (a < b))=false:=f;have d:(if b=a then tlt y x else decide (b < a))=false:=g;by_cases e:a=b;rw[a3Y e]at c;rw[a3Y e.symm]at d;rw[e,aF1 c d];rw[a3Z e]at c;rw[a3Z λz=>e z.symm]at d;simp at c d;lia
def cQ0(ks:List (List Int)):Ord λi j=>tlt (ks.getD i []) (ks.getD j []):=⟨λa=>sE _,aL8,cE0⟩
section
variable{prog:Program}{w:World}{A:Around}{E:Value->Shared->Prop}{s:Shared}
theorem cE1{b:Bool}{Q:Bool->Shared->Prop}:∀ {x y:List Int} {xs ys:List Value} (i:Nat) (fin:Bool),ItemsAre (intKind prog w) x xs->ItemsAre (intKind prog w) y ys->fin=decide (xs.length+i < ys.length+i)->Q (tlt x y) s->KatLex prog w A b (decide (xs.length < ys.length)) Q (xs.zip ys) i s
 | _,_,_,_,i,fin,.nil,.nil,_,q=>q
 | _,_,_,_,i,fin,.nil,.cons _ _,_,q=>by
   show Q (decide (0 < _)) s;rw[a4C (by simp)];exact q
 | _,_,_,_,i,fin,.cons _ _,.nil,_,q=>by
   show Q (decide (_ < 0)) s;rw[a4k (by simp)];exact q
 | _,_,_,_,i,fin,.cons (k:=a) (ks:=x) f g,.cons (k:=d) (ks:=y) h j,_,q=>by
   obtain⟨t,rfl⟩:=Value.isInt_shape f;obtain⟨u,rfl⟩:=Value.isInt_shape h;rw[List.zip_cons_cons];refine kat_cons (wpAny_eqBool_int ?_);have c:Q (if a=d then tlt x y else decide (a < d)) s:=q;by_cases e:a=d;rw[a3Y e]at c;rw[show(a==d)=true from a4p.mpr e];refine kat_yes ?_;have:=cE1 (b:=b) (i+1) (decide (_+(i+1) < _+(i+1))) g j rfl c;simpa using this
   ·rw[a3Z e]at c;rw[show(a==d)=false by simpa using e];refine kat_no ?_;cases (b&&i==0)with
    | true=>exact oneLt_int c
    | false=>exact kat_one _ _ (lt_int c)
def cQ2{ks:List (List Int)}{vs:List Value}{b:Bool}{N:Addr->Prop}{i j:Nat}{C:Bool->Shared->Prop}(T:jB prog w s.heap N ks vs.toArray)(hi:i < vs.length)(a:j < vs.length)(q:C (tlt (ks.getD i []) (ks.getD j [])) s):kas_ask prog w A (tuples' b) vs i j C s:=by
 obtain⟨c,a1,d,e,⟨z,f,n1,g,_,h,k⟩,_⟩:=T.2 i vs[i] (by rw[a2d];exact a0a hi);obtain⟨l,a2,m,n,⟨B,o,n2,p,_,r,t⟩,_⟩:=T.2 j vs[j] (by rw[a2d];exact a0a a);have u:vs.getD i Value.none=.ref a1:=by rw[a1e,a0a hi,e];rfl
 have v:vs.getD j Value.none=.ref a2:=by rw[a1e,a0a a,n];rfl
 have x:ks.getD i []=c:=by rw[a1e,d];rfl
 have y:ks.getD j []=l:=by rw[a1e,m];rfl
 unfold kas_ask;rw[u,v];rw[x,y]at q;refine kat_lt g h p r ?_;have:=cE1 (b:=b) (A:=A) 0 (decide (f.toList.length+0 < o.toList.length+0)) k t rfl q;simpa using this
def bT4{ks:List (List Int)}{vs:List Value}{N:Addr->Prop}{Q:SortKind->Shared->Prop}(T:jB prog w s.heap N ks vs.toArray)(z:0 < vs.length)(B:∀ k∈ks,k≠[])(q:Q (tuples' true) s):wpAny (model prog w) A (keyKind' vs.toArray) Q E s:=by
 have h:∀ (vs:List Value) (ks:List (List Int)),(∀ (i:Nat) v,vs[i]? = some v->∃ k a,ks[i]? = some k/\v=.ref a/\pP prog w s.heap k a)->(∀ k∈ks,k≠[])->∃ fs:List Value,KatTups s.heap vs fs/\fs.length=vs.length/\∀ v∈fs,∃ i t,v=.int i t:=by
  intro vs
  induction vs with
  | nil=>intro ks _ _;exact⟨[],KatTups.nil,rfl,by simp⟩
  | cons v r C=>
    intro ks c d;obtain⟨k,a,j,rfl,o,items,n,g,D,hd,hi⟩:=c 0 v rfl;cases ks with
    | nil=>simp at j
    | cons K ks=>
      simp at j;subst j;obtain⟨fs,l,y,m⟩:=C ks (λi u F=>c (i+1) u (by simpa using F)) λx b=>d x (a7a _ b);have p:=d _ a6a;cases hit:items.toList with
      | nil=>
        rw[hit]at hi;cases hi;exact absurd rfl p
      | cons f cG=>
        have G:items[0]? = some f:=by rw[← a5c,hit];rfl
        obtain⟨i,t,H⟩:=kM hi f (by rw[hit];exact a6a);refine⟨f::fs,KatTups.cons g D hd G l,by simp[y],λx b=>?_⟩;rcases a5b.mp b with rfl | b;exact⟨i,t,H⟩;exact m x b
 obtain⟨fs,l,y,m⟩:=h vs ks (λi v e=>by
  obtain⟨k,a,c,d,I,_⟩:=T.2 i v (by rw[a2d];exact e);exact⟨k,a,c,d,I⟩) B
 refine kat_kind (T:=.type "int") l (by lia) (λv J=>?_) (by decide) q;obtain⟨i,t,rfl⟩:=m v J;exact .now
def bG6{ks:List (List Int)}{vs:List Value}{N:Addr->Prop}{D n:Nat}{P:PySem.Fin->Shared->Prop}(x:s.heap.get? D=some (seqObj "list" vs.toArray n))(hD:¬ N D)(T:jB prog w s.heap N ks vs.toArray)(y:vs.length < 64)(L:2<=vs.length->∀ k∈ks,k≠[])
  (q:∀ h' p c,Pm vs.length p->Up (λi j=>tlt (ks.getD i []) (ks.getD j [])) p vs.length->h'.get? D=some (seqObj "list" (List.toArray (p.toList.map λi=>vs.getD i Value.none)) c)->(∀ b ob,b≠D->s.heap.get? b=some ob->h'.get? b=some ob)->P (.done (.ret .none)) {s with heap:=h'}) :
  wpAny (model prog w) A (Builtin.«list.sort» ⟨[.ref D],[]⟩) P E s:=by
 have M:D < s.heap.objs.size:=a2b x;have I:vs.length<=sizeLine:=by rw[a4G];lia
 rw[list_sort_plain];refine a3W (listItems_at x rfl (a3W (listUpdate_at x rfl ?_ (by simpa using I) (a7c _))));obtain⟨B,o⟩:∃ B,(s.heap.update D (Obj.mapSeq λ_=>(#[]:Array Value))).get? D=some (seqObj "list" #[] B):=⟨_,get?_update_seq x λ_=>#[]⟩;refine a3W (seqEpoch_at o rfl (a3W (wpAny_newTuple ?_ (by simpa using I))));refine a3W (wpAny_newList ?_ (a7c _));refine a4l ?_;have kept:∀ b ob,b≠D->s.heap.get? b=some ob->(((s.heap.update D (Obj.mapSeq λ_=>(#[]:Array Value))).push (seqObj "tuple" vs.toArray 0)).push (seqObj "list" #[] 0)).get? b=some ob:=λb ob h e=>a2a _ (a2a _ ((a4c _ _ (a5d h)).trans e));have d:(((s.heap.update D (Obj.mapSeq λ_=>(#[]:Array Value))).push (seqObj "tuple" vs.toArray 0)).push (seqObj "list" #[] 0)).get? D=some (seqObj "list" #[] B):=a2a _ (a2a _ o);show wpAny (model prog w) A _ P E {s with heap:=((s.heap.update D (Obj.mapSeq λ_=>(#[]:Array Value))).push (seqObj "tuple" vs.toArray 0)).push (seqObj "list" #[] 0)};generalize ((s.heap.update D (Obj.mapSeq λ_=>(#[]:Array Value))).push (seqObj "tuple" vs.toArray 0)).push (seqObj "list" #[] 0)=g at kept d ⊢;have J:jB prog w g N ks vs.toArray:=T.stay λb ob h e=>kept b ob (λz=>hD (z ▸ h)) e;dsimp only;have fin:∀ (a:Array Value) (p:Array Nat),a=List.toArray (p.toList.map λi=>vs.getD i Value.none)->Pm vs.length p->Up (λi j=>tlt (ks.getD i []) (ks.getD j [])) p vs.length->a.size<=sizeLine+1 ->
   P (.done (.ret .none)) {s with heap:=g.update D (Obj.mapSeq λ_=>a)}:=λa p e l r _=>by
  obtain⟨F,H⟩:∃ F,(g.update D (Obj.mapSeq λ_=>a)).get? D=some (seqObj "list" a F):=⟨_,get?_update_seq d λ_=>a⟩;subst e;exact q _ p F l r H λb ob h e=>(a4c _ _ (a5d h)).trans (kept b ob h e)
 by_cases m:vs.toArray.size < 2
 ·rw[a3Y m,a3Y m];refine a3W (a3X ?_);rw[StateT.run_pure];refine a3W (a3X ?_);dsimp only;refine a3W (seqEpoch_at d rfl ?_);have es:(arrOf (SortSt.mk' general' (vs.toArray.zip vs.toArray) #[] 7 none)).map (·.2)=vs.toArray:=by
   show(vs.toArray.zip vs.toArray).map (·.2)=vs.toArray;apply Array.toList_inj.mp;rw[Array.toList_map,Array.toList_zip,List.map_snd_zip (a4a _)]
  refine a3W (listUpdate_at d rfl ?_ (a7c _) (by rw[es];simp;lia));simp only[bne_self_eq_false,Bool.false_eq_true,if_false];rw[es];refine a3X (fin vs.toArray (List.toArray (List.range vs.length)) ?_ (.refl _) (λi j O K=>?_) (by simp;lia));apply Array.toList_inj.mp;show vs=(List.range vs.length).map λi=>vs.getD i Value.none;refine a3i λi=>?_;rw[a6b];by_cases hi:i < vs.length;rw[List.getElem?_range hi,a0a hi];simp[hi];rw[a7g (by lia),a7g (by simp;lia)];rfl;have:i=j:=by simp at m;lia
  subst this;exact sE _
 ·rw[a3Z m,a3Z m];have t:2<=vs.length:=by simp at m;lia
  refine a3W (bT4 (s:={s with heap:=g}) J (by lia) (L t) ?_);refine a3W (a4x (kat_run (s:={s with heap:=g}) (κ:=tuples' true) (Q:=λf s'=>s'={s with heap:=g}/\failedOf f=none/\∃ p:Array Nat,Pm vs.length p/\Up (λi j=>tlt (ks.getD i []) (ks.getD j [])) p vs.length/\(arrOf f).map (·.2)=List.toArray (p.toList.map λi=>vs.getD i Value.none))
   (G:=λp s'=>s'={s with heap:=g}/\Pm vs.length p/\Up (λi j=>tlt (ks.getD i []) (ks.getD j [])) p vs.length) rfl t y (λp f s' a1 a2 a3 ⟨a4,a5,a6⟩=>⟨a4,a3,p,a5,a6,kat_snds rfl a2⟩) ?_) ?_ λ_ _ e=>e)
  ·exact cP9 (cQ0 ks) (λi j C hi K R=>cQ2 (s:={s with heap:=g}) J hi K R) (by lia) λp l r=>⟨rfl,l,r⟩
  ·rintro⟨⟨⟩,f⟩ s' ⟨rfl,hf,p,l,r,u⟩;dsimp only;refine a3W (seqEpoch_at d rfl ?_);have v:(List.toArray (p.toList.map λi=>vs.getD i Value.none)).size=vs.length:=by rw[a8a,a1a,a9d,l.size]
   rw[u];refine a3W (listUpdate_at d rfl ?_ (a7c _) (by show(List.toArray _).size<=_;rw[v];lia));rw[hf];simp only[bne_self_eq_false,Bool.false_eq_true,if_false];exact a3X (fin _ p rfl l r (by rw[v];lia))
end
noncomputable def bG7(k:List Int):List (List Int)->List (List Int)
 | []=>[k]
 | x::r=>if tlt k x=true then k::x::r else if k=x then x::r else x::bG7 k r
noncomputable def srt:List (List Int)->List (List Int)
 | []=>[]
 | k::r=>bG7 k (srt r)
abbrev cQ3(l:List (List Int)):Prop:=l.Pairwise λa b=>tlt a b=true
theorem wB(k:List Int):∀ (l:List (List Int)) (x:List Int),x∈bG7 k l↔x=k\/x∈l
 | [],x=>by simp[bG7]
 | y::r,x=>by
   unfold bG7;split;simp
   ·split;rename_i h;subst h;simp
    ·rw[a5b,wB k r x,a5b];constructor;rintro(h | h | h);exact .inr (.inl h);exact .inl h;exact .inr (.inr h);rintro(h | h | h);exact .inr (.inl h);exact .inl h;exact .inr (.inr h)
theorem aL9(k:List Int):∀ (l:List (List Int)),cQ3 l->cQ3 (bG7 k l)
 | [],_=>List.pairwise_singleton _ _
 | y::r,h=>by
   obtain⟨b,d⟩:=a2i.mp h;unfold bG7;split;rename_i c;refine a2i.mpr ⟨λx a=>?_,h⟩;rcases a5b.mp a with rfl | a;exact c;exact aL8 c (b x a)
   ·split;exact h
    ·rename_i hn e;refine a2i.mpr ⟨λx a=>?_,aL9 k r d⟩;rcases(wB k r x).mp a with rfl | a
     ·cases f:tlt y x with
      | true=>rfl
      | false=>exact absurd (aF1 (by simpa using hn) f) e
     ·exact b x a
theorem sF:∀ (l:List (List Int)) (x:List Int),x∈srt l↔x∈l
 | [],x=>by simp[srt]
 | k::r,x=>by
   show x∈bG7 k (srt r)↔_;rw[wB,sF r x,a5b]
theorem wC:∀ (l:List (List Int)),cQ3 (srt l)
 | []=>.nil
 | k::r=>aL9 k _ (wC r)
def bG8{l:List (List Int)}(h:cQ3 l):l.Nodup:=List.nodup_iff_pairwise_ne.mpr (h.imp λ{a b} h e=>by subst e;rw[sE]at h;cases h)
theorem cE2:∀ {a b:List (List Int)},cQ3 a->cQ3 b->(∀ x,x∈a↔x∈b)->a=b
 | [],[],_,_,_=>rfl
 | [],y::b,_,_,h=>by have:=(h y).mpr a6a;simp at this
 | x::a,[],_,_,h=>by have:=(h x).mp a6a;simp at this
 | x::a,y::b,ha,i,h=>by
   obtain⟨a1,a2⟩:=a2i.mp ha;obtain⟨g,j⟩:=a2i.mp i;have d:x=y:=by
    rcases a5b.mp ((h x).mp a6a)with e | e;exact e;rcases a5b.mp ((h y).mpr a6a)with f | f;exact f.symm;have:=aL8 (g x e) (a1 y f);rw[sE]at this;cases this
   subst d;have nx:x∉a:=λz=>by have:=a1 x z;rw[sE]at this;cases this
   have k:x∉b:=λz=>by have:=g x z;rw[sE]at this;cases this
   rw[cE2 a2 j λz=>?_];constructor;intro c;rcases a5b.mp ((h z).mp (a7a _ c))with e | e;subst e;exact absurd c nx;exact e;intro c;rcases a5b.mp ((h z).mpr (a7a _ c))with e | e;subst e;exact absurd c k;exact e
def dH1{ks l:List (List Int)}{p:Array Nat}(hn:ks.Nodup)(hm:∀ x,x∈ks↔x∈l)(f:Pm ks.length p)(k:Up (λi j=>tlt (ks.getD i []) (ks.getD j [])) p ks.length):p.toList.map (λi=>ks.getD i [])=srt l:=by
 have hs:=f.size;have m:(List.range ks.length).map (λi=>ks.getD i [])=ks:=by
  refine a3i λi=>?_;rw[a6b];by_cases hi:i < ks.length;rw[List.getElem?_range hi,a0a hi];simp[hi];rw[a7g (l:=ks) (by lia),a7g (l:=List.range ks.length) (by rw[List.length_range];lia)];rfl
 have pm:(p.toList.map λi=>ks.getD i []).Perm ks:=by
  have:=f.map λi=>ks.getD i [];rw[m]at this;exact this
 refine cE2 ?_ (wC l) λx=>by rw[pm.mem_iff,hm x,sF]
 have nd:(p.toList.map λi=>ks.getD i []).Nodup:=pm.nodup_iff.mpr hn;rw[cQ3,List.pairwise_iff_getElem];intro i j hi g a;have b:i < p.size:=by simpa using hi
 have c:j < p.size:=by simpa using g
 have n:at0 p i=p.toList[i]:=by simp[at0,Array.getD,b]
 have o:at0 p j=p.toList[j]:=by simp[at0,Array.getD,c]
 have h:=k i j (a2g a) (by lia);rw[n,o]at h;have d:tlt (ks.getD p.toList[j] []) (ks.getD p.toList[i] [])=false:=h;rw[List.getElem_map,List.getElem_map];cases q:tlt (ks.getD p.toList[i] []) (ks.getD p.toList[j] [])with
 | true=>rfl
 | false=>
   exfalso;have e:=aF1 q d;have:=(List.nodup_iff_pairwise_ne.mp nd);rw[List.pairwise_iff_getElem]at this;exact this i j hi g a (by rw[List.getElem_map,List.getElem_map];exact e)
end Sx
namespace PySem
open Sx PySem.W PyProof.Rows
section
variable{prog:Program}{w:World}{A:Around}{E:Value->Shared->Prop}{s:Shared}{S:Addr}{N:Addr->Prop}{ks:List (List Int)}{o:Obj}{es:Array (Int×Value)}{ep:Nat}{t:SetTable}
def aF2(hh:A.handled=none)(X:nP prog w s.heap S (fL w) N ks o es ep t)(hN:∀ a,N a->a < s.heap.objs.size)(V:es.size < 64)(hk:2<=es.size->∀ k∈ks,k≠[]){l:List (List Int)}(hm:∀ x,x∈ks↔x∈l){Q:Value->Shared->Prop}
  (q:∀ h' tk D vs c,s.heap.objs.size<=D->h'.get? D=some (seqObj "list" (List.toArray vs) c)->jB prog w h' N (srt l) (List.toArray vs)->(∀ b ob,s.heap.get? b=some ob->h'.get? b=some ob)->Q (.ref D) {s with heap:=h',toks:=tk}) :
  wpAny (model prog w) A (call (.builtin "sorted") [.ref S]) Q E s:=by
 have hz:es.size<=sizeLine:=by rw[a4G];lia
 -- I keys in I order of I walk
 have pm:=sC (w:=w) (S:=S) (ep:=ep) es;have J:(cI w S ep es).toList.length=es.size:=by have:=pm.length_eq;simpa using this
 have G:∀ e∈(cI w S ep es).toList,∃ k a,k∈ks/\e=(tupleKeyHash (intKind prog w) k,Value.ref a)/\pP prog w s.heap k a/\N a:=λe T=>by
  have:=pm.mem_iff.mp T;obtain⟨i,hi,ei⟩:=Array.getElem_of_mem (by simpa using this:e∈es);obtain⟨k,a,d,r,C,K⟩:=X.it i e (by rw[a9b hi,ei]);exact⟨k,a,a4b d,r,C,K⟩
 -- one key for each
 have W:∃ us:List (List Int),us.Perm ks/\us.length=es.size/\∀ (i:Nat) e,(cI w S ep es).toList[i]? = some e->∃ k a,us[i]? = some k/\e.2=Value.ref a/\pP prog w s.heap k a/\N a:=by
  -- a key for each entry,by its own value
  have f:∀ e:Int×Value,∃ k:List Int,∀ F a,e.2=Value.ref a->pP prog w s.heap F a->F=k:=λe=>by
   by_cases h:∃ F a,e.2=Value.ref a/\pP prog w s.heap F a;obtain⟨F,a,d,r⟩:=h;refine⟨F,λk'' a' B Y=>?_⟩;rw[d]at B;cases B;exact Y.inj r;exact⟨[],λF a d r=>absurd ⟨F,a,d,r⟩ h⟩
  let g:Int×Value->List Int:=λe=>Classical.choose (f e)
  have gs:∀ e k a,e.2=Value.ref a->pP prog w s.heap k a->k=g e:=λe k a=>Classical.choose_spec (f e) k a;have ge:es.toList.map g=ks:=by
   refine a3i λi=>?_;rw[a6b,a5c];by_cases hi:i < es.size;rw[a9b hi];obtain⟨k,a,d,r,C,_⟩:=X.it i es[i] (a9b hi);rw[d];show some (g es[i])=some k;rw[← gs es[i] k a (by rw[r]) C];rw[a7i (by lia),a7g (by rw[X.len];lia)];rfl
  refine⟨(cI w S ep es).toList.map g,?_,by rw[a1a];exact J,λi e T=>?_⟩;have:=pm.map g;rw[ge]at this;exact this;obtain⟨k,a,d,r,C,K⟩:=G e (a4b T);refine⟨k,a,?_,by rw[r],C,K⟩;rw[a6b,T];show some (g e)=some k;rw[← gs e k a (by rw[r]) C]
 obtain⟨us,up,ul,ui⟩:=W;refine Calls.call_function_entry kind_sorted plain_sorted entry_sorted (args_sorted1 _) ?_;unfold Builtin.«sorted»;refine a3W (m:=checkCount "sorted" 1 1 _) (a3X ?_);refine a3W (zH (A:=A.in1) hh X hz λd L u n=>?_);generalize M:(cI w S ep es).toList.map (·.2)=vs;have U:vs.length=es.size:=by rw[← M,a1a];exact J
 have T1:jB prog w d N us vs.toArray:=by
  refine⟨by rw[ul,a8a];exact U.symm,λi v e=>?_⟩;rw[a2d,← M,a6b]at e;obtain⟨e',ee,rfl⟩:=a0d.mp e;obtain⟨k,a,B,r,C,K⟩:=ui i e' ee;exact⟨k,a,B,r,C.at λob H=>u a ob H,K⟩
 refine a3W (wpAny_newList ?_ (by rw[U];exact hz));have O:(d.push (seqObj "list" vs.toArray 0)).get? d.objs.size=some (seqObj "list" vs.toArray 0):=a0b _ rfl;have up1:∀ b ob,d.get? b=some ob->(d.push (seqObj "list" vs.toArray 0)).get? b=some ob:=λb ob e=>a2a _ e;have P:¬ N d.objs.size:=λz=>absurd (hN _ z) (a0k.mpr (a2g n));have T2:jB prog w (d.push (seqObj "list" vs.toArray 0)) N us vs.toArray:=T1.stay λb ob _ e=>up1 b ob e;have Z:2<=vs.length->∀ k∈us,k≠[]:=λh k hk'=>hk (by lia) k (up.mem_iff.mp hk');refine a3W (a4l (a4r slot_list_sort ⟨_,O,rfl⟩ entry_list_sort (bG6 (s:={s with heap:=d.push (seqObj "list" vs.toArray 0),toks:=L}) O P T2 (by rw[U];exact V) Z λr p c hp hu ho2 y=>⟨_,rfl,?_⟩) (args_list_sort _)));refine a3X ⟨_,rfl,?_⟩;have nN:∀ b,N b->b≠d.objs.size:=λb hb z=>P (z ▸ hb);have hul:us.length=vs.length:=by rw[ul,U]
 rw[← hul]at hp hu;have R:=dH1 (l:=l) (up.nodup_iff.mpr X.nd) (λx=>(up.mem_iff).trans (hm x)) hp hu;refine q r L d.objs.size _ c (a2g n) ho2 ⟨?_,λi v e=>?_⟩ λb ob e=>y b ob (λz=>?_) (up1 b ob (u b ob e));rw[← R];simp
 ·rw[a2d,a6b]at e;obtain⟨j,ej,rfl⟩:=a0d.mp e;have hj:j < vs.length:=by
   have:=(hp.mem_iff.mp (a4b ej));rw[a8e]at this;lia
  obtain⟨k,a,e1,e2,e3,e4⟩:=T1.2 j vs[j] (by rw[a2d];exact a0a hj);refine⟨k,a,?_,?_,e3.at (λob H=>y a ob (nN a e4) (up1 a ob H)),e4⟩;rw[← R,a6b,ej];show some (us.getD j [])=some k;rw[a1e,e1];rfl;rw[a1e,a0a hj];exact e2
 ·exact absurd (a2b (z ▸ e)) (a0k.mpr (a2g n))
end
end PySem
namespace Dv
open PySem L2 Mr
section
variable{Γ:Gm}{H H0:Hp}{σ σ0:Sg}{σV σV0:St}{i:Nat}{v:V}
end
section
variable{K:W.Frag}{H:Hp}{C fI:Addr}{f:Str}{E:XK}{Q:Addr->Hp->Prop}
end
end Dv
namespace L2
open PySem PySem.Spec PyProof.Rows
end L2
namespace PySem
section
variable{κ:Type}[DecidableEq κ]
end
section
variable{prog:Program}{w:World}{A:Around}{κ:Type}[DecidableEq κ]{knd:KeyKind prog w κ}
end
end PySem
namespace L2
open PySem PySem.Spec PyProof.Rows
def bT5{X:Cx}{id U:String}{x y:Str}{p c pos a:Pos}{e:Expr}{es:List Expr}{t:TA}{r:List V->Hp->VK->Prop}
  (l:∀ pins s σ H vs us Q,Inv X pins σ H s->bN vs us->r vs H Q->wpAny (model X.prog X.w) X.A (call (.type U) us) (λu s1=>wpAny (model X.prog X.w) X.A (call (.builtin id) [u]) (EP X pins σ Q) X.xe s1) X.xe s)
  (m:Gl X x) (hm:X.mg x=none) (n:bootBuiltins x=some (.builtin id)) (d:Gl X y) (f:X.mg y=none) (g:bootBuiltins y=some (.type U)) (ha:PA X (e::es) t)
  (hn:x≠"__name__":=by decide) (i:(x==("__debug__":Str))=false:=by decide) (j:y≠"__name__":=by decide) (b:(y==("__debug__":Str))=false:=by decide)
  (o:starEach (e::es) X.env=(false,eval e X.env)::starEach es X.env:=by rfl) (k:(backTo a (starEach es X.env)).any (·.1)=false:=by rfl)
  (hs:starEach [.Call (.Name y c) (e::es) [] a] X.env=(false,eval (.Call (.Name y c) (e::es) [] a) X.env)::starEach [] X.env:=by rfl) :
  PE X (.Call (.Name x p) [.Call (.Name y c) (e::es) [] a] [] pos) (tCB r t):=by
 intro pins s σ H Q I h;refine a4w (kR I m hm n (PyProof.Rows.callWith_builtin1 ?_ hs (by rfl)) hn i);rw[hs]
 (show wpAny _ _ (spliced ((false,eval (.Call (.Name y c) (e::es) [] a) X.env)::backTo pos (starEach [] X.env))) _ _ s;refine Calls.spliced_cons (a4w (kR I d f g (a4e ?_ o k) j b)))
 exact thn (ha a pins s σ H _ I h) λus s1 ⟨vs,q,v,z,B⟩=>thn (l pins s1 σ q vs us Q v z B) λu s2 C=>Calls.spliced_nil C
def bT6{X:Cx}{pins:List (Addr×Obj)}{σ:St}{H:Hp}{s:Shared}{p:Addr}{b:Bool}{xs:List V}(I:Inv X pins σ H s)(a:X.calm=true)(h:cY H p=some (b,xs)) :
  ∃ items:List Value,bN xs items/\Nonempty (Src X.prog X.w X.A s.heap p items.toArray.size λi v=>items.toArray[i]? = some v):=by
 cases b with
 | true=>
   obtain⟨its,r,⟨o,n,c,d,f,e⟩,_⟩:=I.list (dQ h);exact⟨its,r,⟨Src.list (I.ok.hd a) ⟨o,c,d,n,e⟩⟩⟩
 | false=>
   obtain⟨its,r,q,_⟩:=I.tuple (cP h);exact⟨its,r,⟨Src.tup (I.ok.hd a) q⟩⟩
end L2
namespace Dv
open PySem L2 Mr
def bG9{H:Hp}{p:Addr}{o:HO}(h:H p=some o):upd H p o=H:=by
 funext b;by_cases a:b=p;subst a;rw[aE,h];rw[aD a]
end Dv
namespace L2
open PySem PySem.Spec PyProof.Rows Sx
theorem mV{prog:Program}{w:World}:∀ {k:List Int} {us:List Value},bN (k.map V.int) us->ItemsAre (intKind prog w) k us
 | [],_,.nil=>.nil
 | i::r,_,.cons h t=>by
   obtain⟨tk,rfl⟩:=h;exact .cons (by simp[intKind,Value.isInt]) (mV t)
def aF3{X:Cx}{pins:List (Addr×Obj)}{σ:St}{H:Hp}{s:Shared}{a:Addr}{k:List Int}(I:Inv X pins σ H s)(h:H a=some (.tup (k.map V.int))):pP X.prog X.w s.heap k a:=by
 obtain⟨its,r,⟨o,b,c,n,hd⟩,_⟩:=I.tuple (cP (bK h));exact⟨o,its.toArray,n,b,c,hd,by simpa using mV r⟩
def aM0:List V->Hp->VK->Prop:=λvs H Q=>∃ (p:Addr) (b:Bool) (ps:List Addr) (ks:List (List Int)),vs=[.ref p]/\cY H p=some (b,ps.map V.ref)/\ps.length=ks.length/\(∀ (i:Nat) a k,ps[i]? = some a->ks[i]? = some k->H a=some (.tup (k.map V.int))) /\
 ks.length < 4000/\(srt ks).length < 64/\(2<=(srt ks).length->∀ k∈ks,k≠[]) /\
 ∀ r (qs:List Addr),H r=none->qs.length=(srt ks).length->(∀ (i:Nat) a k,qs[i]? = some a->(srt ks)[i]? = some k->H a=some (.tup (k.map V.int)))->Q (.ref r) (upd H r (.lst (qs.map V.ref)))
def zJ{X:Cx}(hc:X.calm=true)(hu:X.A.units+8 < cLine):∀ pins s σ H vs us Q,Inv X pins σ H s->bN vs us->aM0 vs H Q ->
  wpAny (model X.prog X.w) X.A (call (.type "set") us) (λu s1=>wpAny (model X.prog X.w) X.A (call (.builtin "sorted") [u]) (EP X pins σ Q) X.xe s1) X.xe s:=by
 intro pins s σ H vs us Q I rv h;obtain⟨p,b,ps,ks,rfl,hH,hl,K,hn,h64,L,q⟩:=h;obtain⟨u,rfl,ru⟩:=rv.one;cases ru;obtain⟨its,r,⟨M⟩⟩:=bT6 I hc hH;have B:ps.length=its.length:=by simpa using r.length
 have alive:∀ a∈ps,a < s.heap.objs.size:=λa ha=>by
  obtain⟨i,hi,e⟩:=a4h ha;have n:i < ks.length:=by lia
  obtain⟨o,_,_,ho,_⟩:=aF3 I (K i a ks[i] (by rw[a0a hi,e]) (a0a n));exact a2b ho
 have T0:jB X.prog X.w s.heap (· ∈ ps) ks its.toArray:=by
  refine⟨by rw[a8a];lia,λi v e=>?_⟩;rw[a2d]at e;have hi:i < ps.length:=by rw[B];exact(a3a.mp e).1
  have n:i < ks.length:=by lia
  obtain⟨v',e',O⟩:=r.get (i:=i) (x:=.ref ps[i]) (by rw[a6b,a0a hi];rfl);rw[e]at e';cases e';cases O;exact⟨ks[i],ps[i],a0a n,rfl,aF3 I (K i _ _ (a0a hi) (a0a n)),List.getElem_mem hi⟩
 have nS:¬ s.heap.objs.size∈ps:=λz=>absurd (alive _ z) (a8d _);have nI:¬ s.heap.objs.size+1∈ps:=λz=>absurd (alive _ z) (a0k.mpr (Nat.le_succ _));refine bS9 M (λA' ha hu'=>bF6 (prog:=X.prog) (w:=X.w) (led:=fL X.w) (N:=(· ∈ ps)) (ks:=ks) (by lia) nS nI (a1d (a3e _)) hn) (λh' hS C=>?_) λh' tk ⟨T1,us,X1,_,hm⟩ d=>?_;refine⟨T0.stay λc ob _ e=>C c ob e,[],⟨_,#[],0,_,hS,⟨rfl,rfl,rfl⟩,rfl,?_,?_,rfl,rfl,rfl,λi e he=>by simp at he,.nil⟩,a4a _,λx=>by simp⟩;refine⟨⟨3,rfl⟩,a4a _,rfl,λi j a b _ e=>by simp[SetTable.fresh]at e,λi j e=>by simp[SetTable.fresh]at e,rfl,by simp[SetTable.fresh],λi h e=>by simp at e⟩;simp[SetTable.fresh];obtain⟨o,es,ep,t,Y⟩:=X1;have y:∀ x,x∈us↔x∈ks:=λx=>by
  rw[hm x,a2f (by rw[a8a];lia)]
 have pl:us.length=(srt ks).length:=((List.perm_ext_iff_of_nodup Y.nd (bG8 (wC ks))).mpr λx=>by rw[y x,sF]).length_eq;have hes:es.size=(srt ks).length:=by rw[← Y.len];exact pl
 have E:s.heap.objs.size < h'.objs.size:=a2b Y.ob;refine aF2 (s:={s with heap:=h',toks:=tk}) (I.ok.hd hc) Y (λa ha=>a2j (alive a ha) E) (by lia) (λh2 k P=>L (by lia) k ((y k).mp P)) y λh2 R D vs c hD S T m=>?_
 -- the addresses of what is told
 have hq:∃ qs:List Addr,vs=qs.map Value.ref/\qs.length=(srt ks).length/\∀ (i:Nat) a k,qs[i]? = some a->(srt ks)[i]? = some k->H a=some (.tup (k.map V.int)):=by
  have f:∀ v∈vs,∃ a,v=Value.ref a:=λv J=>by
   obtain⟨i,hi,e⟩:=a4h J;obtain⟨_,a,_,U,_⟩:=T.2 i v (by rw[a2d,a0a hi,e]);exact⟨a,U⟩
  have g:∀ vs:List Value,(∀ v∈vs,∃ a,v=Value.ref a)->∃ qs:List Addr,vs=qs.map Value.ref:=by
   intro vs
   induction vs with
   | nil=>intro _;exact⟨[],rfl⟩
   | cons v r W=>
     intro J;obtain⟨a,rfl⟩:=J v a6a;obtain⟨qs,rfl⟩:=W λx hx=>J x (a7a _ hx);exact⟨a::qs,rfl⟩
  obtain⟨qs,rfl⟩:=g vs f;have l1:qs.length=(srt ks).length:=by have:=T.1;simpa using this.symm
  refine⟨qs,rfl,l1,λi a k ea ek=>?_⟩;obtain⟨k',a',e1,U,e3,e4⟩:=T.2 i (.ref a) (by rw[a2d,a6b,ea];rfl);rw[ek]at e1;cases e1;cases U;obtain⟨j,hj,ej⟩:=a4h e4;have Z:j < ks.length:=by lia
  have F:=K j a ks[j] (by rw[a0a hj,ej]) (a0a Z);have t1:pP X.prog X.w h2 ks[j] a:=(aF3 I F).at λob hob=>m a ob (d a ob hob);rw[e3.inj t1];exact F
 obtain⟨qs,rfl,ql,qh⟩:=hq;have G:s.heap.objs.size<=D:=a8b (a2g E) hD;refine⟨.ref D,upd H D (.lst (qs.map V.ref)),?_,rfl,q D qs (I.hok.fresh G) ql qh⟩;refine I.laid (t':=R) (λb ob e=>m b ob (d b ob e)) G ⟨by rw[a1a,ql,a4G];lia,qs.map Value.ref,c,?_,S⟩;have vr:∀ l:List Addr,bN (l.map V.ref) (l.map Value.ref):=by
  intro l
  induction l with
  | nil=>exact .nil
  | cons a r W=>exact .cons rfl W
 exact vr qs
section
variable{X:Cx}{o e:Expr}{es:List Expr}{to:TE}{t:TA}{name:Str}{apos cpos:Pos}{id:String}{r:V->List V->Hp->VK->Prop}
end
end L2
namespace Dv
open PySem L2 Mr Sx
noncomputable def zK:List D->Option (List Int)
 | []=>some []
 | .int i::r=>(zK r).bind λl=>some (i::l)
 | _::_=>none
theorem wD:∀ {l:List D} {zs:List Int},zK l=some zs->l=zs.map D.int
 | [],_,h=>by cases h;rfl
 | .int s::r,_,h=>by
   obtain⟨l,a,b⟩:=bind_some h;cases b;rw[wD a];rfl
 | .non::_,_,h=>by cases h
 | .str _::_,_,h=>by cases h
 | .bl _::_,_,h=>by cases h
 | .tup _::_,_,h=>by cases h
 | .lst _::_,_,h=>by cases h
 | .dic _ _::_,_,h=>by cases h
def zL(zs:List Int):zK (zs.map D.int)=some zs:=by
 induction zs with
 | nil=>rfl
 | cons b r a=>show(zK (r.map D.int)).bind _=_;rw[a];rfl
noncomputable abbrev tI(k:List Int):D:=.tup (k.map D.int)
noncomputable def aR6:List D->Option (List (List Int))
 | []=>some []
 | .tup k::r=>(zK k).bind λa=>(aR6 r).bind λl=>some (a::l)
 | _::_=>none
theorem aM1:∀ {l:List D} {zs:List (List Int)},aR6 l=some zs->l=zs.map tI
 | [],_,h=>by cases h;rfl
 | .tup k::r,_,h=>by
   obtain⟨d,a,h⟩:=bind_some h;obtain⟨l,b,c⟩:=bind_some h;cases c;rw[aM1 b,wD a];rfl
 | .non::_,_,h=>by cases h
 | .str _::_,_,h=>by cases h
 | .bl _::_,_,h=>by cases h
 | .int _::_,_,h=>by cases h
 | .lst _::_,_,h=>by cases h
 | .dic _ _::_,_,h=>by cases h
def bH0(zs:List (List Int)):aR6 (zs.map tI)=some zs:=by
 induction zs with
 | nil=>rfl
 | cons b r a=>show(zK (b.map D.int)).bind (λc=>(aR6 (r.map tI)).bind _)=_;rw[a,zL];rfl
def dP5{H:Hp}{k:List Int}{v:V}(h:Rp H (tI k) v):∃ a,v=.ref a/\H a=some (.tup (k.map V.int)):=by
 cases h with
 | tup h r=>rw[r.ints_inv]at h;exact⟨_,rfl,h⟩
theorem cE3{H:Hp}:∀ {ks:List (List Int)} {xs:List V},Rps H (ks.map tI) xs->∃ ps:List Addr,xs=ps.map V.ref/\ps.length=ks.length/\∀ (i:Nat) a k,ps[i]? = some a->ks[i]? = some k->H a=some (.tup (k.map V.int))
 | [],_,h=>by cases h;exact⟨[],rfl,rfl,λi a k e=>by simp at e⟩
 | k::ks,_,h=>by
   rw[a6e]at h;cases h with
   | cons a t=>
     obtain⟨p,rfl,d⟩:=dP5 a;obtain⟨ps,rfl,hl,f⟩:=cE3 t;refine⟨p::ps,rfl,by simp[hl],λi a g b c=>?_⟩;cases i with
     | zero=>simp at b c;subst b c;exact d
     | succ i=>exact f i a g (by simpa using b) (by simpa using c)
theorem bH1{H:Hp}:∀ {ks:List (List Int)} {ps:List Addr},ps.length=ks.length->(∀ (i:Nat) a k,ps[i]? = some a->ks[i]? = some k->H a=some (.tup (k.map V.int)))->Rps H (ks.map tI) (ps.map V.ref)
 | [],[],_,_=>.nil
 | [],_::_,h,_=>by simp at h
 | _::_,[],h,_=>by simp at h
 | k::ks,p::ps,h,b=>.cons (.tup (b 0 p k rfl rfl) (mE k)) (bH1 (by simpa using h) λi a c d e=>b (i+1) a c (by simpa using d) (by simpa using e))
open Classical in
noncomputable def mW:FN:=λa=>match a with
 | [d]=>(bL1 d).bind λx=>(aR6 x.2).bind λks=>if ks.length < 4000/\(srt ks).length < 64/\(2<=(srt ks).length->∀ k∈ks,k≠[])then some (.own (.lst ((srt ks).map tI)))else none
 | _=>none
def aF4:cA8 aM0 mW:=by
 intro H v vs Q res vw e k;unfold mW at e;split at e
 ·obtain⟨⟨b,l⟩,h,e⟩:=bind_some e;obtain⟨ks,d,e⟩:=bind_some e;dsimp only at d;split at e
  ·rename_i c;cases e;cases vw with
   | cons a t=>
     cases t;obtain⟨p,xs,rfl,j,f⟩:=cA9 a h;rw[aM1 d]at f;obtain⟨ps,rfl,hl,m⟩:=cE3 f;refine⟨p,b,ps,ks,rfl,j,hl,m,c.1,c.2.1,c.2.2,λr qs hr n o=>?_⟩;have g:nT H (upd H r (.lst (qs.map V.ref))):=bE hr;exact k _ _ g ⟨r,rfl,hr,_,aE,bH1 n λi a q s u=>g _ _ (o i a q s u)⟩
  ·cases e
 ·cases e
theorem cE4{ks:List (List Int)}{K:Res->Prop}:OK1 (mW [.lst (ks.map tI)]) K=((ks.length < 4000/\(srt ks).length < 64/\(2<=(srt ks).length->∀ k∈ks,k≠[]))/\K (.own (.lst ((srt ks).map tI)))):=by
 show OK1 ((aR6 (ks.map tI)).bind _) K=_;rw[bH0];show OK1 (if _ then _ else none) K=_;rw[bD];rfl
theorem bT7{n:Nat}{σ:Sg}{a:DGs}{z:Str}{K:Sg->Prop}:OK1 (dY n a (.str z) σ) K=(z.length=n/\OK1 (a (kU z) σ) K):=by
 show OK1 (if z.length=n then a (kU z) σ else none) K=_;rw[bD]
end Dv
namespace L2
def dH2{A:PySem.Around}{k:Nat}(hr:Room k A):A.units+8 < PySem.cLine:=by have:=hr.un;lia
end L2
namespace PySem.SeqAt
open PySem MeetsSeq MeetsSeq2 MeetsSeq3 SeqRoads2
end PySem.SeqAt
namespace L2
open PySem PySem.Spec PyProof.Rows Sx
def bT8{zs:List V}{us:List Value}(h:bN zs us){i:Nat}{x:V}(e:zs[i]? = some x):∃ u,us[i]? = some u/\dM x u:=by
 induction h generalizing i with
 | nil=>simp at e
 | cons a t b=>
   cases i with
   | zero=>simp at e;subst e;exact⟨_,rfl,a⟩
   | succ i=>exact b (by simpa using e)
end L2
namespace Dv
open PySem L2 Mr Sx
end Dv
namespace PySem
open Sx L2
section
variable{prog:Program}{w:World}{A:Around}{E:Value->Shared->Prop}{s:Shared}{S I:Addr}{led:Bool}{o:Obj}{es:Array (Int×Value)}{ep:Nat}{t:SetTable}
end
end PySem
namespace PySem
open Sx
open PySem.W PyProof.Rows
section
variable{prog:Program}{w:World}{A:Around}{E:Value->Shared->Prop}{s:Shared}{S:Addr}{led:Bool}{ks:List Int}
end
end PySem
namespace Sx
open PySem PySem.W PyProof.Rows
end Sx
namespace PySem
open Sx PySem.W PyProof.Rows
section
variable{prog:Program}{w:World}{A:Around}{E:Value->Shared->Prop}{s:Shared}{S:Addr}{ks:List Int}
end
end PySem
namespace L2
open PySem PySem.Spec PyProof.Rows Sx
end L2
namespace Dv
open PySem L2 Mr Sx
end Dv
namespace L2
open PySem PySem.Spec PyProof.Rows Sx
def bH2:V->List V->Hp->VK->Prop:=λx vs H Q=>∃ (l:Addr) (zs:List Str) (z:Str),x=.ref l/\vs=[.str z]/\H l=some (.lst (zs.map V.str))/\z∈zs/\Q (.int (zs.idxOf z:Nat)) H
def bH3{X:Cx}:MtR X "list.index" bH2:=by
 intro pins s σ H x vs v us Q I w A h;obtain⟨l,zs,z,rfl,rfl,B,C,q⟩:=h;cases w;obtain⟨u,rfl,D⟩:=A.one;obtain⟨t,rfl⟩:=D;obtain⟨f,its,n,r,hl,e⟩:=I.lstM B;have K:zs.idxOf z < zs.length:=List.idxOf_lt_length_iff.mpr C;have c:its.length=zs.length:=by
  have:=r.length;simpa using this.symm
 have L:its.length < 2 ^ 62:=a8g (by rw[c];simpa using f) (by decide:sizeLine < 2 ^ 62);have d:∀ m (hm:m < its.toArray.size),∃ (a:m < zs.length) (b:Tok),its.toArray[m]=.str zs[m] b:=λm hm=>by
  have g:m < its.length:=by simpa using hm
  have a:m < zs.length:=by lia
  obtain⟨u,o,E⟩:=bT8 (i:=m) r (by rw[a6b,a0a a];rfl);obtain⟨b,rfl⟩:=E;rw[a0a g]at o;exact⟨a,b,by simpa using a5a o⟩
 refine a4T F.slot_list_index ⟨_,e,rfl⟩ F.entry_list_index (F.args_list_index_2 _ _) (MeetsSeq.list_index l its.toArray n (.str z t) (isZ z) (λy G=>?_) (zs.idxOf z) (by simp;lia) (by lia) ?_ (λm hm j=>?_)) ⟨e,?_⟩;obtain⟨J,b,rfl⟩:=aA7 r y (by simpa using G);exact eqGives_str J z b t;obtain⟨a,b,k⟩:=d (zs.idxOf z) (by simp;lia);rw[k];show(zs[zs.idxOf z]==z)=true;simp;obtain⟨a,b,k⟩:=d m hm;rw[k];show(zs[m]==z)=false;have h:=List.not_of_lt_findIdx (p:=(· == z)) (xs:=zs) j;simpa using h;exact⟨.int _,H,I.tok _,⟨_,rfl⟩,q⟩
end L2
namespace Dv
open PySem L2 Mr Sx
noncomputable def dL3:FM:=λd a=>match d,a with
 | .lst l,[.str z]=>(yT l).bind λzs=>if z∈zs then some (.lst l,.int (zs.idxOf z:Nat))else none
 | _,_=>none
def cQ4:dO3 bH2 dL3:=by
 intro H d p l vs Q d' e ow r b k;unfold dL3 at b;split at b
 ·obtain⟨zs,h,b⟩:=bind_some b;split at b
  ·rename_i i;cases b;obtain⟨xs,f,g⟩:=ow;have c:=g;rw[vT h]at c;have j:=c.strs_inv;subst j;cases r with
   | cons a t=>
     cases t;cases a;have q:=k (.lst (zs.map V.str)) (.int (zs.idxOf _:Nat)) (by rw[bG9 f];exact⟨_,f,g⟩) (.int _);rw[bG9 f]at q;exact⟨p,zs,_,rfl,rfl,f,i,q⟩
  ·cases b
 ·cases b
theorem bH4{zs:List Str}{z:Str}{K:D×D->Prop}:OK1 (dL3 (.lst (zs.map D.str)) [.str z]) K=(z∈zs/\K (.lst (zs.map D.str),.int (zs.idxOf z:Nat))):=by
 show OK1 ((yT (zs.map D.str)).bind _) K=_;rw[yU];show OK1 (if _ then _ else none) K=_;rw[bD];rfl
end Dv
namespace L2
open PySem PySem.Spec PyProof.Rows Sx
end L2
namespace Dv
open PySem L2 Mr Sx
end Dv
namespace PySem
structure Zap(z TI TO i j:Addr)(f g:List Addr):Prop where
 a1:TI≠z
 a2:TO≠z
 a3:TI≠TO
 a4:i≠z
 a5:j≠z
 a6:TI≠i
 a7:TI≠j
 a8:TO≠i
 a9:TO≠j
 fz:z∉f
 fo:TO∉f
 fj:j∉f
 gz:z∉g
 go:TO∉g
 gi:i∉g
section
variable{prog:Program}{w:World}{A:Around}{E:Value->Shared->Prop}{s:Shared}{z TI TO i j:Addr}{f g:List Addr}{n:Nat}{P R:Nat->Value->Prop}{S T:Nat->Heap->Prop}
def cQ5{k:Nat}{a b:Value}{Q:Value->Shared->Prop}(D:Zap z TI TO i j f g)(B:Draws prog w A i f n P S)(C:Draws prog w A j g n R T)(O:k < n)
  (hz:IsZip s.heap z TI TO .none) (hI:IsPair s.heap TI (.ref i) (.ref j)) (hO:IsPair s.heap TO a b) (si:S k s.heap) (sj:T k s.heap)
  (q:∀ x y h' tk,P k x->R k y->IsZip h' z TI TO (rawInt s.heap.objs.size)->IsPair h' TO x y->S (k+1) h'->T (k+1) h'->IsPair h' s.heap.objs.size x y ->
   (∀ c o,c≠z->c≠TO->c≠i->c≠j->s.heap.get? c=some o->h'.get? c=some o)->Q (.ref s.heap.objs.size) {s with heap:=h',toks:=tk}) :
  wpAny (model prog w) A (Builtin.«zip.__next__» ⟨[.ref z],[]⟩) (λfin s'=>∃ v,fin=.done (.ret v)/\Q v s') E s:=by
 (show wpAny _ _ (field (.ref z) 2 >>= _) _ _ _;refine a3W (a4m hz rfl (x:=.bool false) rfl ?_))
 (show wpAny _ _ (field (.ref z) 3 >>= _) _ _ _;refine a3W (a4m hz rfl (x:=.ref TI) rfl ?_);refine a3W (a4t hI rfl ?_))
 (show wpAny _ _ (Builtin.SmallTypes.ownedTupleIsFree (.ref z) >>= _) _ _ _;refine a3W ?_;unfold Builtin.SmallTypes.ownedTupleIsFree;refine a3W (a4m hz rfl (x:=.none) rfl (a3X ?_)))
 (simp only[if_true];refine a3W (a4S ?_);refine a3W (a4m hz rfl (x:=.ref TO) rfl ?_);refine a3W (wpAny_setField_rec hz (by simp) λh1 J m=>?_))
 replace J:IsZip h1 z TI TO .ellipsis:=J
 (refine a3W ?_;simp only[List.zipIdx_cons,List.zipIdx_nil,List.forIn_cons,List.forIn_nil];refine a3W (a3W (wpAny_onRaise ?_)))
 (show wpAny _ _ (Builtin.SmallTypes.nextOf (.ref i) >>= _) _ _ _;refine a3W (B.item k _ _ _ O (B.frame _ _ _ si λc d o e=>(m.2 c λz=>D.fz (z ▸ d)).trans e) λx h2 t2 px s2 p=>a3X ?_))
 have U:IsPair h2 TO a b:=(p.2 TO D.a8).trans ((m.2 TO D.a2).trans hO)
 (refine a3W (a4t U rfl ?_);refine a3W (wpAny_updateSeq_pair U λV K r=>?_))
 replace K:IsPair V TO x b:=K
 (refine a3W (wpAny_letGo (a3X ?_));refine a3W (a3W (wpAny_onRaise ?_)))
 have t3:T k V:=C.frame _ _ _ sj λc d o e=>(r.2 c λz=>D.go (z ▸ d)).trans ((p.2 c λz=>D.gi (z ▸ d)).trans ((m.2 c λz=>D.gz (z ▸ d)).trans e))
 (show wpAny _ _ (Builtin.SmallTypes.nextOf (.ref j) >>= _) _ _ _;refine a3W (C.item k _ _ _ O t3 λy h4 t4 py s4 t=>a3X ?_))
 have W:IsPair h4 TO x b:=(t.2 TO D.a9).trans K
 (refine a3W (a4t W rfl ?_);refine a3W (wpAny_updateSeq_pair W λh F u=>?_))
 replace F:IsPair h TO x y:=F
 (refine a3W (wpAny_letGo (a3X (a3X ?_)));refine a3W (a4t F rfl ?_);refine a3W (wpAny_newTuple ?_))
 have sz:h.objs.size=s.heap.objs.size:=by rw[u.1,t.1,r.1,p.1,m.1]
 have X:IsZip h z TI TO .ellipsis:=(u.2 z D.a2.symm).trans ((t.2 z D.a5.symm).trans ((r.2 z D.a2.symm).trans ((p.2 z D.a4.symm).trans J)));have kp:∀ c o,c≠z->c≠TO->c≠i->c≠j->s.heap.get? c=some o->h.get? c=some o:=λc o l G L M e=>(u.2 c G).trans ((t.2 c M).trans ((r.2 c G).trans ((p.2 c L).trans ((m.2 c l).trans e))));have s5:S (k+1) h:=B.frame _ _ _ s2 λc d o e=>(u.2 c λz=>D.fo (z ▸ d)).trans ((t.2 c λz=>D.fj (z ▸ d)).trans ((r.2 c λz=>D.fo (z ▸ d)).trans e));have t5:T (k+1) h:=C.frame _ _ _ s4 λc d o e=>(u.2 c λz=>D.go (z ▸ d)).trans e;have Y:z < h.objs.size:=a2b X
 (show wpAny _ _ (Builtin.SmallTypes.ownedTupleHandOut (.ref z) (.ref h.objs.size) >>= _) _ _ _;refine a3W ?_;unfold Builtin.SmallTypes.ownedTupleHandOut)
 have z6:IsZip (h.push {cls:=.type "tuple",data:=.seq #[x,y]}) z TI TO .ellipsis:=a2a _ X;refine a3W (wpAny_setField_rec z6 (by simp) λh7 N Z=>?_)
 replace N:IsZip h7 z TI TO (rawInt h.objs.size):=N
 refine wpAny_setField_rec N (by simp) λH I b8=>?_
 replace I:IsZip H z TI TO (rawInt h.objs.size):=I
 have up:∀ c o,c≠z->h.get? c=some o->H.get? c=some o:=λc o l e=>(b8.2 c l).trans ((Z.2 c l).trans (a2a _ e));have p8:IsPair H h.objs.size x y:=(b8.2 _ (a0j Y)).trans ((Z.2 _ (a0j Y)).trans (a0b _ rfl))
 (refine a3X ⟨_,rfl,?_⟩;show Q (.ref h.objs.size) _)
 rw[sz]at I p8 ⊢;exact q x y H t4 px py I (up _ _ D.a2 F) (B.frame _ _ _ s5 λc d o e=>up c o (λz=>D.fz (z ▸ d)) e) (C.frame _ _ _ t5 λc d o e=>up c o (λz=>D.gz (z ▸ d)) e) p8 λc o l G L M e=>up c o l (kp c o l G L M e)
def cQ6{Q:Fin->Shared->Prop}(D:Zap z TI TO i j f g)(d:Draws prog w A i f n P S)
  (hz:IsZip s.heap z TI TO .none) (t:IsPair s.heap TI (.ref i) (.ref j)) (u:S n s.heap)
  (q:∀ h' e,(∀ c o,c≠z->c≠i->s.heap.get? c=some o->h'.get? c=some o)->(∃ o,h'.get? e=some o/\o.cls=.type "StopIteration")->E (.ref e) {s with heap:=h'}) :
  wpAny (model prog w) A (Builtin.«zip.__next__» ⟨[.ref z],[]⟩) Q E s:=by
 (show wpAny _ _ (field (.ref z) 2 >>= _) _ _ _;refine a3W (a4m hz rfl (x:=.bool false) rfl ?_))
 (show wpAny _ _ (field (.ref z) 3 >>= _) _ _ _;refine a3W (a4m hz rfl (x:=.ref TI) rfl ?_);refine a3W (a4t t rfl ?_))
 (show wpAny _ _ (Builtin.SmallTypes.ownedTupleIsFree (.ref z) >>= _) _ _ _;refine a3W ?_;unfold Builtin.SmallTypes.ownedTupleIsFree;refine a3W (a4m hz rfl (x:=.none) rfl (a3X ?_)))
 (simp only[if_true];refine a3W (a4S ?_);refine a3W (a4m hz rfl (x:=.ref TO) rfl ?_);refine a3W (wpAny_setField_rec hz (by simp) λv a h=>?_))
 replace a:IsZip v z TI TO .ellipsis:=a
 (refine a3W ?_;simp only[List.zipIdx_cons,List.zipIdx_nil,List.forIn_cons,List.forIn_nil];refine a3W (a3W (wpAny_onRaise ?_)))
 (show wpAny _ _ (Builtin.SmallTypes.nextOf (.ref i) >>= _) _ _ _;refine a3W (d.done _ _ _ (d.frame _ _ _ u λc y o e=>(h.2 c λz=>D.fz (z ▸ y)).trans e) λB e k ⟨oe,b,l⟩=>?_))
 have m:IsZip B z TI TO .ellipsis:=k _ _ D.a4.symm a;have C:e≠z:=λx=>by subst x;rw[m]at b;cases b;simp at l
 exact wpAny_setField_rec m (by simp) λF _ p=>q F e (λc o r G x=>(p.2 c r).trans (k _ _ G ((h.2 c r).trans x))) ⟨oe,(p.2 e C).trans b,l⟩
def cQ7{k:Nat}{a b:Value}{Q:Option Value->Shared->Prop}(D:Zap z TI TO i j f g)(e:Draws prog w A.in1 i f n P S)(h:Draws prog w A.in1 j g n R T)(l:k < n)
  (hz:IsZip s.heap z TI TO .none) (m:IsPair s.heap TI (.ref i) (.ref j)) (p:IsPair s.heap TO a b) (r:S k s.heap) (t:T k s.heap)
  (q:∀ x y h' tk,P k x->R k y->IsZip h' z TI TO (rawInt s.heap.objs.size)->IsPair h' TO x y->S (k+1) h'->T (k+1) h'->IsPair h' s.heap.objs.size x y ->
   (∀ c o,c≠z->c≠TO->c≠i->c≠j->s.heap.get? c=some o->h'.get? c=some o)->Q (some (.ref s.heap.objs.size)) {s with heap:=h',toks:=tk}) :
  wpAny (model prog w) A (pyNext (.ref z)) Q E s:=by
 have d:s.TypeIs (.ref z) "zip":=⟨_,hz,rfl⟩;unfold pyNext;exact a3W (a4O (wpAny_callSpecial?_slot (name:=Str.ofString "__next__") d F.slot_zip_next (a4r F.slot_zip_next d F.entry_zip_next (cQ5 D e h l hz m p r t λx y h' tk u v B C G H I J=>a3X (q x y h' tk u v B C G H I J)) (F.args_zip_next_1 _))))
def cQ8{Q:Option Value->Shared->Prop}(D:Zap z TI TO i j f g)(d:Draws prog w A.in1 i f n P S)
  (hz:IsZip s.heap z TI TO .none) (h:IsPair s.heap TI (.ref i) (.ref j)) (k:S n s.heap)
  (q:∀ h',(∀ c o,c≠z->c≠i->s.heap.get? c=some o->h'.get? c=some o)->Q none {s with heap:=h'}):wpAny (model prog w) A (pyNext (.ref z)) Q E s:=by
 have a:s.TypeIs (.ref z) "zip":=⟨_,hz,rfl⟩;unfold pyNext
 (refine a3W (a4O (wpAny_callSpecial?_slot (name:=Str.ofString "__next__") a F.slot_zip_next (a4r F.slot_zip_next a F.entry_zip_next (cQ6 D d hz h k λh' e l ⟨o,m,p⟩=>?_) (F.args_zip_next_1 _))));refine a3W (wpAny_isInstance (T:="StopIteration") (b:=true) ⟨o,m,p⟩ isSubtype_stop ?_))
 exact a3X (q _ l)
noncomputable abbrev sqN(b:Bool):String:=if b=true then "list" else "tuple"
noncomputable abbrev itN(b:Bool):String:=if b=true then "list_iterator" else "tuple_iterator"
noncomputable abbrev dS7(b:Bool)(l:Addr):Obj:={cls:=.type (itN b),data:=.fields #[.ref l,.int 0 0]}
def SqB(b:Bool)(h:Heap)(l:Addr)(xs:Array Value):Prop:=if b=true then h.IsList l xs else h.IsTuple l xs
def IrB(b:Bool)(h:Heap)(i l:Addr)(k:Nat):Prop:=∃ o,h.get? i=some o/\o.cls=.type (itN b)/\o.data=.fields #[.ref l,.int k 0]
noncomputable abbrev zpH(b:Bool)(h:Heap)(l m:Addr):Heap:=((((h.push (bS3 l)).push (dS7 b m)).push {cls:=.type "tuple",data:=.seq #[.ref h.objs.size,.ref (h.objs.size+1)]}).push {cls:=.type "tuple",data:=.seq #[.none,.none]}).push
 {cls:=.type "zip",data:=.fields #[.none,.bool false,.bool false,.ref (h.objs.size+2),.ref (h.objs.size+3)]}
def dH3(c:Bool)(l m:Addr)(xs ys:Array Value):Meets (Builtin.«zip.__new__» ⟨[.type "zip",.ref l,.ref m],[]⟩) (λ_ R s=>s.heap.IsTuple l xs/\SqB c s.heap m ys/\R (.ok (.ret (.ref (s.heap.objs.size+4)))) {s with heap:=zpH c s.heap l m}):=
 .of_wp λprog w A R s h=>by
  obtain⟨a,g,d,tk,os⟩:=s;obtain⟨j,e,h⟩:=h;have f:=sub_zip;have i:Heap.IsTuple (Shared.heap ⟨a,g,d,tk,os⟩) l xs:=j;cases c
  ·have b:Heap.IsTuple (Shared.heap ⟨a.push (bS3 l),g,d,tk,os⟩) m ys:=Heap.IsTuple.push e _
   wp_walk using a4y i,a4y b
   refine⟨_,rfl,?_⟩;simp only[Heap.size_push];exact h
  ·have b:Heap.IsList (Shared.heap ⟨a.push (bS3 l),g,d,tk,os⟩) m ys:=Heap.IsList.push e _
   wp_walk using a4y i,wpAny_pyIter_list b
   refine⟨_,rfl,?_⟩;simp only[Heap.size_push];exact h
def dV1{h:Heap}{a b c d e:Obj}(f:a.isFreed=false)(g:b.isFreed=false)(i:c.isFreed=false)(j:d.isFreed=false)(k:e.isFreed=false) :
  ∀ h',((((h.push a).push b).push c).push d).push e=h'->h'.get? h.objs.size=some a/\h'.get? (h.objs.size+1)=some b/\h'.get? (h.objs.size+2)=some c/\h'.get? (h.objs.size+3)=some d/\h'.get? (h.objs.size+4)=some e/\∀ x o,h.get? x=some o->h'.get? x=some o:=by
 intro h' l;have up:∀ {c:Addr} {o ob:Obj} {h:Heap},h.get? c=some o->(h.push ob).get? c=some o:=λe=>a2a _ e;have a2:=a0b (h.push a) (o:=b) g;have a3:=a0b ((h.push a).push b) (o:=c) i;have a4:=a0b (((h.push a).push b).push c) (o:=d) j;have a5:=a0b ((((h.push a).push b).push c).push d) (o:=e) k;simp only[Heap.size_push]at a2 a3 a4 a5;rw[← l];exact⟨up (up (up (up (a0b h (o:=a) f)))),up (up (up a2)),up (up a3),up a4,a5,λx o q=>up (up (up (up (up q))))⟩
def cQ9{c:Bool}{l m:Addr}{xs ys:Array Value}{Q:Value->Shared->Prop}(g:s.heap.IsTuple l xs)(i:SqB c s.heap m ys)
  (q:∀ h',IsZip h' (s.heap.objs.size+4) (s.heap.objs.size+2) (s.heap.objs.size+3) .none->IsPair h' (s.heap.objs.size+2) (.ref s.heap.objs.size) (.ref (s.heap.objs.size+1))->IsPair h' (s.heap.objs.size+3) .none .none ->
   h'.IsTupleIter s.heap.objs.size l 0->IrB c h' (s.heap.objs.size+1) m 0->(∀ x o,s.heap.get? x=some o->h'.get? x=some o)->Q (.ref (s.heap.objs.size+4)) {s with heap:=h'}) :
  wpAny (model prog w) A (call (.type "zip") [.ref l,.ref m]) Q E s:=by
 refine callType_new F.called_zip (by decide) (F.typeCall_zip_2 _ _) (F.newCall_zip_2 _ _) (λobj=>F.args_object_init_3 obj _ _) F.entry_zip_new (dH3 c l m xs ys) ⟨g,i,?_⟩;obtain⟨j,k,n,p,f,r⟩:=dV1 (h:=s.heap) (a:=bS3 l) (b:=dS7 c m) (c:={cls:=.type "tuple",data:=.seq #[.ref s.heap.objs.size,.ref (s.heap.objs.size+1)]}) (d:={cls:=.type "tuple",data:=.seq #[.none,.none]})
  (e:={cls:=.type "zip",data:=.fields #[.none,.bool false,.bool false,.ref (s.heap.objs.size+2),.ref (s.heap.objs.size+3)]}) rfl rfl rfl rfl rfl _ rfl
 exact⟨⟨_,f,rfl⟩,q _ f n p ⟨_,j,rfl,rfl⟩ ⟨_,k,rfl,rfl⟩ r⟩
end
end PySem
namespace L2
open PySem PyProof.Rows
def aF5{H:Hp}{q b:Addr}{z:Bool×List V}(h:cY H q=some z)(a:H b=none):q≠b:=λe=>by
 subst e;unfold cY at h;rw[a]at h;cases h
noncomputable def ItZ(c:Bool)(p q:Addr):It:=
 ⟨λi H=>∃ xs ys x y,H p=some (.tup xs)/\cY H q=some (c,ys)/\xs.length=ys.length/\xs[i]? = some x/\ys[i]? = some y,
  λi H v H'=>∃ T x y,v=.ref T/\H T=none/\H'=upd H T (.tup [x,y])/\(∀ xs,H p=some (.tup xs)->xs[i]? = some x)/\∀ ys,cY H q=some (c,ys)->ys[i]? = some y,
  λi H=>∃ xs ys,H p=some (.tup xs)/\cY H q=some (c,ys)/\xs.length=i/\ys.length=i⟩
def ZpS(c:Bool)(z TI TO i j p q:Addr)(k:Nat)(h:Heap):Prop:=IsZip h z TI TO .none/\IsPair h TI (.ref i) (.ref j)/\(∃ a b,IsPair h TO a b)/\h.IsTupleIter i p k/\IrB c h j q k
def cE5{c:Bool}{s:Shared}{z TI TO i j p q:Addr}{k:Nat}{xs ys:Array Value}(st:ZpS c z TI TO i j p q k s.heap)(J:s.heap.IsTuple p xs)(K:SqB c s.heap q ys)(L:TI≠TO)(D:i≠j)(M:p≠TO)(N:q≠TO):Zap z TI TO i j [i,p] [j,q]:=by
 obtain⟨h,v,⟨a,b,w⟩,⟨X,d,n,Y⟩,Z,f,r,e5⟩:=st;obtain⟨o6,t,x,_⟩:=J;obtain⟨o7,u,y⟩:∃ o,s.heap.get? q=some o/\o.cls=.type (sqN c):=by cases c<;>exact K.imp λ_ q=>⟨q.1,q.2.1⟩
 have nt:Value.type "tuple"≠Value.type "zip":=by decide
 have O:Value.type "tuple_iterator"≠Value.type "zip":=by decide
 have E:Value.type "tuple_iterator"≠Value.type "tuple":=by decide
 have A:Value.type (sqN c)≠Value.type "zip":=by cases c<;>decide
 have B:Value.type (itN c)≠Value.type "zip":=by cases c<;>decide
 have g:Value.type (itN c)≠Value.type "tuple":=by cases c<;>decide
 have C:Value.type "tuple_iterator"≠Value.type (sqN c):=by cases c<;>decide
 have F:i≠z:=λe=>by rw[e,h]at d;cases d;exact O n.symm
 have G:j≠z:=λe=>by rw[e,h]at f;cases f;exact B r.symm
 have P:TI≠i:=λe=>by rw[← e,v]at d;cases d;exact E n.symm
 have Q:TI≠j:=λe=>by rw[← e,v]at f;cases f;exact g r.symm
 have H:TO≠i:=λe=>by rw[← e,w]at d;cases d;exact E n.symm
 have I:TO≠j:=λe=>by rw[← e,w]at f;cases f;exact g r.symm
 have R:p≠z:=λe=>by rw[e,h]at t;cases t;exact nt x.symm
 have S:q≠z:=λe=>by rw[e,h]at u;cases u;exact A y.symm
 have T:p≠j:=λe=>by rw[e,f]at t;cases t;rw[r]at x;exact g x
 have U:q≠i:=λe=>by rw[e,d]at u;cases u;rw[n]at y;exact C y
 have V:TI≠z:=λe=>by
  have l:s.heap.get? TI=_:=v;rw[e,h]at l;exact nt (a4u Obj.cls (a5a l)).symm
 have W:TO≠z:=λe=>by
  have m:s.heap.get? TO=_:=w;rw[e,h]at m;exact nt (a4u Obj.cls (a5a m)).symm
 refine⟨V,W,L,F,G,P,Q,H,I,?_,?_,?_,?_,?_,?_⟩;simp[F.symm,R.symm];simp[H,M.symm];simp[D.symm,T.symm];simp[G.symm,S.symm];simp[I,N.symm];simp[D,U.symm]
def dP6{X:Cx}{c:Bool}{pins:List (Addr×Obj)}{σ:St}{H:Hp}{s:Shared}{q:Addr}{ys:List V}(I:Inv X pins σ H s)(e:cY H q=some (c,ys)):∃ a:List Value,bN ys a/\SqB c s.heap q a.toArray:=by
 cases c;obtain⟨a,b,d,_⟩:=I.tuple (cP e);exact⟨a,b,d⟩;obtain⟨a,b,d,_⟩:=I.list (dQ e);exact⟨a,b,d.isList⟩
def dH4{c:Bool}{prog:Program}{w:World}{A:Around}(b:A.handled=none)(it l:Addr)(a:l≠it)(items:Array Value) :
  Draws prog w A it [it,l] items.size (λi v=>items[i]? = some v) (λi h=>IrB c h it l i/\SqB c h l items):=by
 cases c;exact Draws.tup b it l a items;exact Draws.list b it l a items
def cE6{c:Bool}{h h':Heap}{i l:Addr}{k:Nat}(x:IrB c h i l k)(w:∀ o,h.get? i=some o->h'.get? i=some o):IrB c h' i l k:=x.imp λo q=>⟨w o q.1,q.2⟩
def bH5{P:Program}{w:World}{H:Hp}{h:Heap}{T:Addr}{u v:Value}{x y:V}(a:IsPair h T u v)(b:dM x u)(c:dM y v):dD P w (upd H T (.tup [x,y])) h T (.tup [x,y]):=
 ⟨by show 2<=sizeLine;decide,[u,v],.cons b (.cons c .nil),⟨_,a,rfl,_,rfl⟩,⟨_,a,rfl⟩⟩
def cR0{c:Bool}{P:Program}{w:World}{K:W.Frag}{C:List Expr}{k:Nat}{pos:Pos}(p q z TI TO i j:Addr)(T:TI≠TO)(d2:i≠j) :
  Turn P w K (.Tuple C k pos) (ItZ c p q) [z,TI,TO,i,j] z (ZpS c z TI TO i j p q) where
 mem:=by simp
 obj:=λn h st b d=>by
  obtain⟨N,F,⟨a,a',U⟩,⟨o4,V,c4,e4⟩,o5,Y,c5,e5⟩:=st;simp only[List.mem_cons,List.not_mem_nil,or_false]at d;rcases d with rfl | rfl | rfl | rfl | rfl;exact⟨_,N,λv e=>by cases e⟩;exact⟨_,F,λv e=>by cases e⟩;exact⟨_,U,λv e=>by cases e⟩;exact⟨_,V,λv e=>by rw[e4]at e;cases e⟩;exact⟨_,Y,λv e=>by rw[e5]at e;cases e⟩
 keep:=λn h h' st kp=>by
  obtain⟨N,F,⟨a,a',U⟩,V,Y⟩:=st;exact⟨kp z (by simp) _ N,kp TI (by simp) _ F,⟨a,a',kp TO (by simp) _ U⟩,V.at λo e=>kp i (by simp) o e,cE6 Y λo e=>kp j (by simp) o e⟩
 item:=by
  intro X Z hw hK O n pins s σ H E I l st hg;subst Z hw hK;obtain⟨xs,ys,x,y,r,t,hl,Q,hy⟩:=hg;obtain⟨its,R,t1,_⟩:=I.tuple (.inl (.inl r));obtain⟨f,B,t2⟩:=dP6 I t;obtain⟨u,hu,ru⟩:=R.get Q;obtain⟨v,hv,rv'⟩:=B.get hy;have g:s.heap.IsTuple p its.toArray:=t1;have m:SqB c s.heap q f.toArray:=t2;obtain⟨G,J,⟨a,b,z3⟩,S,z5⟩:=id st;have L:H TO=none:=(l TO (by simp)).1;have hi:H i=none:=(l i (by simp)).1;have hj:H j=none:=(l j (by simp)).1;have D:=cE5 st g m T d2 (aB r L) (aF5 t L);have el:its.toArray.size=f.toArray.size:=by rw[a8a,a8a,← R.length,← B.length];exact hl
  have hlt:n < its.toArray.size:=by
   have:=(a3a.mp hu).1;simpa using this
  have dj:=dH4 (c:=c) (prog:=X.prog) (w:=X.w) (A:=X.A.in1) (I.ok.hd O) j q (aF5 t hj) f.toArray;rw[← el]at dj;refine cQ7 D (Draws.tup (A:=X.A.in1) (I.ok.hd O) i p (aB r hi) its.toArray) dj hlt G J z3 ⟨S,g⟩ ⟨z5,m⟩ λx1 y1 N tk px py g1 g2 g3 g4 g5 g6=>?_;obtain rfl:x1=u:=by
   rw[a2d,hu]at px;exact(a5a px).symm
  obtain rfl:y1=v:=by
   rw[a2d,hv]at py;exact(a5a py).symm
  refine⟨_,rfl,wpAny_letOwnedTupleGo_zip g1 λF k1 M=>?_⟩;have nz:s.heap.objs.size≠z:=λe=>absurd (a2b G) (by rw[← e];exact a8d _);have ha:H s.heap.objs.size=none:=I.hok.fresh (a4a _);have kk:∀ c o,c≠z->c≠TO->c≠i->c≠j->s.heap.get? c=some o->F.get? c=some o:=λc o c1 c2 c3 c4 e=>(M.2 c c1).trans (g6 c o c1 c2 c3 c4 e);refine⟨.ref s.heap.objs.size,upd H s.heap.objs.size (.tup [x,y]),?_,rfl,⟨_,x,y,rfl,ha,rfl,λzs e=>by rw[r]at e;cases e;exact Q,λzs e=>by rw[t]at e;cases e;exact hy⟩,⟨k1,kk TI _ D.a1 T D.a6 D.a7 J,⟨_,_,(M.2 TO D.a2).trans g2⟩,g3.1.at λo e=>(M.2 i D.a4).trans e,cE6 g4.1 λo e=>(M.2 j D.a5).trans e⟩,λb d=>?_⟩;exact I.spun (ch:=[z,TI,TO,i,j]) (t':=tk) l (λb o d e=>kk b o (λz=>d (by simp[z])) (λz=>d (by simp[z])) (λz=>d (by simp[z])) (λz=>d (by simp[z])) e) (a4a _) (bH5 ((M.2 _ nz).trans g5) ru rv');rw[aD (λe=>?_)];exact(l b d).1;obtain⟨o,ho⟩:∃ o,s.heap.get? b=some o:=by
   simp only[List.mem_cons,List.not_mem_nil,or_false]at d;rcases d with rfl | rfl | rfl | rfl | rfl;exact⟨_,G⟩;exact⟨_,J⟩;exact⟨_,z3⟩;exact S.imp λ_ q=>q.1;exact z5.imp λ_ q=>q.1
  exact absurd (a2b ho) (by rw[e];exact a8d _)
 done:=by
  intro X Z hw hK O n pins s σ H E I l st hg;subst Z hw hK;obtain⟨xs,ys,r,t,Q,hy⟩:=hg;obtain⟨its,R,t1,_⟩:=I.tuple (.inl (.inl r));obtain⟨f,B,t2⟩:=dP6 I t;have g:s.heap.IsTuple p its.toArray:=t1;have m:SqB c s.heap q f.toArray:=t2;have L:H TO=none:=(l TO (by simp)).1;have hi:H i=none:=(l i (by simp)).1;obtain⟨G,J,⟨a,b,z3⟩,S,z5⟩:=id st;have hl:its.toArray.size=n:=by rw[a8a,← R.length];exact Q
  refine cQ8 (cE5 st g m T d2 (aB r L) (aF5 t L)) (Draws.tup (A:=X.A.in1) (I.ok.hd O) i p (aB r hi) its.toArray) G J ⟨by rw[hl];exact S,g⟩ λh' kp=>⟨rfl,I.spun0 (ch:=[z,TI,TO,i,j]) (t':=s.toks) l λb o d e=>kp b o (λz=>d (by simp[z])) (λz=>d (by simp[z])) e⟩
 self:=λ_ _ _ _ _ st h=>wpAny_pyIter_zip st.1 h
section
variable{X:Cx}
def dS8(a:TA):TI:=λσ H R=>a σ H λvs H1=>∃ c p q xs ys,vs=[.ref p,.ref q]/\H1 p=some (.tup xs)/\cY H1 q=some (c,ys)/\xs.length=ys.length/\R (ItZ c p q) H1
def dH5{d:List Expr}{k:Nat}{f:Pos}{a b:Expr}{m:TA}{p pos:Pos}(o:Gl X "zip")(hm:X.mg "zip"=none)(j:bootBuiltins "zip"=some (.type "zip"))(ha:PA X [a,b] m)
  (hs:starEach [a,b] X.env=(false,eval a X.env)::starEach [b] X.env:=by rfl) (l:(backTo pos (starEach [b] X.env)).any (·.1)=false:=by rfl):PI X (.Tuple d k f) (.Call (.Name "zip" p) [a,b] [] pos) (dS8 m):=by
 intro pins s σ H R I h;refine Call_ (kR I o hm j (a4e (thn (ha pos pins s σ H _ I h) λus s1 Z0=>?_) hs l));obtain⟨vs,r,g,t,w⟩:=Z0;obtain⟨c,p,q,xs,ys,rfl,x,y,hl,k⟩:=w;obtain⟨u,v,rfl,z,A⟩:=t.two;cases z;cases A;obtain⟨its,_,B,_⟩:=g.tuple (.inl (.inl x));obtain⟨C,_,D⟩:=dP6 g y;have new:∀ c,c∈[s1.heap.objs.size+4,s1.heap.objs.size+2,s1.heap.objs.size+3,s1.heap.objs.size,s1.heap.objs.size+1]->s1.heap.objs.size<=c:=λc i=>by
  simp only[List.mem_cons,List.not_mem_nil,or_false]at i;lia
 refine cQ9 (show s1.heap.IsTuple p its.toArray from B) D λh' n E F G J K=>wpAny_pyIter_zip n ?_;exact⟨_,[s1.heap.objs.size+4,s1.heap.objs.size+2,s1.heap.objs.size+3,s1.heap.objs.size,s1.heap.objs.size+1],_,_,r,rfl,g.kept (t':=s1.toks) K,cR0 p q (s1.heap.objs.size+4) (s1.heap.objs.size+2) (s1.heap.objs.size+3) s1.heap.objs.size (s1.heap.objs.size+1) (λe=>absurd (Nat.add_left_cancel e) (by decide)) (λe=>absurd e.symm (Nat.succ_ne_self _)),⟨n,E,⟨_,_,F⟩,G,J⟩,λc i=>g.fpOk (new c i) (g.hok.fresh (new c i)),k⟩
end
end L2
namespace Dv
open PySem L2
noncomputable def pQ:List D->List D->List D
 | x::xs,y::ys=>.tup [x,y]::pQ xs ys
 | _,_=>[]
theorem wE:∀ {l m:List D} {i:Nat} {d:D},(pQ l m)[i]? = some d->∃ x y,l[i]? = some x/\m[i]? = some y/\d=.tup [x,y]
 | [],_,_,_,h=>by simp[pQ]at h
 | _::_,[],_,_,h=>by simp[pQ]at h
 | x::l,y::m,0,d,h=>by simp[pQ]at h;exact⟨x,y,rfl,rfl,h.symm⟩
 | x::l,y::m,i+1,d,h=>by
   obtain⟨a,b,c,e,f⟩:=wE (l:=l) (m:=m) (i:=i) (d:=d) (by simpa[pQ]using h);exact⟨a,b,by simpa using c,by simpa using e,f⟩
theorem lH:∀ {l m:List D},l.length=m.length->(pQ l m).length=l.length
 | [],_,_=>by simp[pQ]
 | _::_,[],h=>by simp at h
 | _::l,_::m,h=>by simp[pQ];exact lH (by simpa using h)
def cR1{c:Bool}{p q:Addr}{xs ys:List V}{l m:List D}(hl:l.length=m.length):ItD (ItZ c p q) (pQ l m) (λH=>(H p=some (.tup xs)/\Rps H l xs)/\cY H q=some (c,ys)/\Rps H m ys) where
 go:=λH i d ⟨⟨f,a⟩,g,b⟩ e=>by
  obtain⟨x,y,h,j,_⟩:=wE e;obtain⟨u,k,_⟩:=a.get h;obtain⟨v,n,_⟩:=b.get j;exact⟨xs,ys,u,v,f,g,by rw[← a.length,← b.length];exact hl,k,n⟩
 yld:=λH i d v H' ⟨⟨f,a⟩,g,b⟩ e ⟨T,x,y,r,o,s,t,z⟩=>by
  obtain⟨C,E,h,j,rfl⟩:=wE e;obtain⟨u,k,A⟩:=a.get h;obtain⟨w,n,B⟩:=b.get j;have a1:=t xs f;rw[k]at a1;cases a1;have a2:=z ys g;rw[n]at a2;cases a2;subst r s;exact⟨bE o,.tup aE (.cons (A.mono (Ext.same (bE o))) (.cons (B.mono (Ext.same (bE o))) .nil))⟩
 stop:=λH ⟨⟨f,a⟩,g,b⟩=>⟨xs,ys,f,g,by rw[lH hl,a.length],by rw[lH hl,hl,b.length]⟩
noncomputable abbrev slO(x:Res):Option Nat:=match x with | .slot i=>some i | _=>none
noncomputable def dH6(σ:Sg)(rs:List Res):Option (List D×Option Nat):=match rs with
 | [.val (.tup l),y]=>(rd σ y).bind λd=>(bL1 d).bind λm=>if l.length=m.2.length then some (pQ l m.2,slO y)else none
 | _=>none
noncomputable def cE7(a:DA):DI:=λσ=>(a σ).bind λx=>(dH6 x.2 x.1).bind λl=>some (l.1,l.2,x.2)
def aR7{d:D}{m:Bool×List D}(h:bL1 d=some m):tO d=some m.2:=by
 cases d<;>first | (cases h;rfl) | cases h
def dH7{X:Cx}{tg e:Expr}{s:DA}(h:∀ Γ,PI X tg e (dS8 (dTA Γ s))):GI X tg e (cE7 s):=.mk λΓ=>piW (h Γ) λσV H R ⟨σ,ok,items,l,A,e,k⟩=>by
 obtain⟨⟨x,j⟩,B,e⟩:=bind_some e;obtain⟨its,c,e⟩:=bind_some e;cases e;refine⟨σ,ok,x,j,B,λvs C f D n F=>?_⟩;unfold dH6 at c;split at c
 ·rename_i l y u;obtain⟨d,o,c⟩:=bind_some c;obtain⟨m,v,c⟩:=bind_some c;split at c
  ·rename_i hl;cases c;dsimp only at u o;subst u;cases D with
   | cons a t _=>cases t with
     | cons b t _=>
       cases t;obtain⟨p,xs,rfl,w,hr⟩:=fV (.inl a);have vw:=b.vw f o;obtain⟨q,ys,rfl,z,hs⟩:=cA9 vw v;have stay:=mH f b o (aR7 v) vw q m.1 ys rfl z hs;refine⟨m.1,p,q,xs,ys,rfl,w,z,by rw[← hr.length,← hs.length];exact hl,k _ C _ f n (cR1 (xs:=xs) (ys:=ys) hl) λr g E i=>?_⟩;have ext:=i.ext (Γ:=Γ) f.lendO;exact⟨⟨ext.tup _ _ w,hr.mono ext⟩,stay r g E i⟩
  ·cases c
 ·cases c
theorem dH8{σ:Sg}{b:DA}{K:List D->Option Nat->Sg->Prop}:RI (cE7 b) σ K=RA b σ λrs a=>OK1 (dH6 a rs) λl=>K l.1 l.2 a:=by
 unfold RI RA cE7;simp only[aI,aY];try rfl
theorem cR2{σ:Sg}{l m:List D}{K:List D×Option Nat->Prop}:OK1 (dH6 σ [.val (.tup l),.val (.tup m)]) K=(l.length=m.length/\K (pQ l m,none)):=by
 show OK1 (if _ then _ else none) K=_;rw[bD];rfl
theorem cR3{σ:Sg}{l:List D}{i:Nat}{K:List D×Option Nat->Prop}:OK1 (dH6 σ [.val (.tup l),.slot i]) K=RD σ (.slot i) λd=>OK1 (bL1 d) λm=>l.length=m.2.length/\K (pQ l m.2,some i):=by
 unfold RD;show OK1 ((rd σ (.slot i)).bind λd=>_) K=_;simp only[aI,bD,aY]
theorem cR4{l:List D}{K:Bool×List D->Prop}:OK1 (bL1 (.lst l)) K=K (true,l):=rfl
end Dv
namespace L2
open PySem PySem.Spec PyProof.Rows
section
variable{X:Cx}
def bT9(d:X.calm=true):kP X (.builtin "sum") (λxs H Q=>∃ (a:Addr) (ns:List Int),xs=[.ref a]/\SqL X.K H a (ns.map V.int)/\Q (.int ns.sum) H):=by
 intro pins s σ H xs us Q I r h;obtain⟨a,ns,rfl,ha,q⟩:=h;obtain⟨u,rfl,f⟩:=aA1 r;cases f;obtain⟨its,g,p,l⟩:=I.list ha;have i:X.A.handled=none:=I.ok.hd d;have hi:IntsAre its ns:=aO2 g;have pl:=p.isList;obtain⟨ws,c⟩:=hi.allInts.items;rw[c]at pl;refine sum_intListG i pl λh' tk t' j=>?_;have e:preSum (numAt ws) ws.size=ns.sum:=by
  have k:=nums_intItems (xs:=ws);rw[preSum_eq,a2f (by simp),← k,← c];show(numsOf its).sum=_;rw[hi.numsOf]
 rw[e];exact⟨.int _,H,I.kept (t':=tk) λb o q=>j b o q,⟨_,rfl⟩,q⟩
end
end L2
namespace Dv
open PySem L2 Mr
def dH9(K:W.Frag):List V->Hp->(V->Hp->Prop)->Prop:=λxs H Q=>∃ (a:Addr) (ns:List Int),xs=[.ref a]/\SqL K H a (ns.map V.int)/\Q (.int ns.sum) H
noncomputable def cU4:FN:=λa=>match a with
 | [.lst l]=>(zK l).map λns=>.val (.int ns.sum)
 | _=>none
def cR5{K:W.Frag}:cA8 (dH9 K) cU4:=by
 intro H f vs Q res vw e k;unfold cU4 at e;split at e;obtain⟨ns,c,d⟩:=a0d.mp e;cases d;obtain⟨x,rfl,v⟩:=bL2 vw;obtain⟨p,xs,rfl,a,b⟩:=gZ v;rw[wD c]at b;rw[b.ints_inv]at a;exact⟨p,ns,rfl,dQ a,k _ H (.refl _) (.int _)⟩;cases e
def bH6{X:Cx}(K:W.Frag)(a:X.K=K)(b:X.calm=true):kP X (.builtin "sum") (dH9 K):=by rw[← a];exact bT9 b
theorem dI0{ns:List Int}{K:Res->Prop}:OK1 (cU4 [.lst (ns.map D.int)]) K=K (.val (.int ns.sum)):=by
 show OK1 ((zK (ns.map D.int)).map _) K=_;rw[zL];rfl
def dI1(C:MC):Prop:=∀ as (K a:Res->List Sl->Prop),(∀ r l,K r l->a r l)->C as K->C as a
structure GM1(E:Ex)(X:Cx)(st:Stmt)(m:MS):Prop where
 to:∀ Γ,PS X st (mTS Γ E m)
 mon:zX m
section
variable{X:Cx}{E:Ex}{st:Stmt}{ss cG:List Stmt}{r:DS}{a b m:MS}{pos:Pos}
def lA:zX (RS r):=λ_ _ _ w q=>cC q w
def cE8{Γ:Gm}{D:Ends}{σV:St}{H:Hp}(h:mTS Γ E (RS r) D σV H):dTS Γ E r D σV H:=by
 obtain⟨σ,ok,q⟩:=h;obtain⟨o,e,q⟩:=hX.mp q;exact⟨σ,ok,o,e,q⟩
def dI2(h:GSs E X ss r):GM E X ss (RS r):=⟨λΓ=>dB7 (h.to Γ) λ_ _ _=>cE8,lA⟩
def cR6(h:GS E X st r):GM1 E X st (RS r):=⟨λΓ=>psW (h.to Γ) λ_ _ _=>cE8,lA⟩
def sqM(b:MS)(Q:Out->Prop)(o:Out):Prop:=match o with
 | .nx a=>b a Q
 | o=>Q o
def cE9(a b:MS):MS:=λσ Q=>a σ (sqM b Q)
def iU(e:zX a)(g:zX b):zX (cE9 a b):=λσ Q h w q=>e σ _ _ (λo q=>by
 cases o with
 | nx d=>exact g d _ _ w q
 | rt r σ'=>exact w _ q
 | bk σ'=>exact w _ q
 | ct σ'=>exact w _ q
 | ex c f σ'=>exact w _ q) q
def bH7(e:GM1 E X st a)(g:GM E X cG b):GM E X (st::cG) (cE9 a b) where
 to:=λΓ=>dB7 (aO (e.to Γ) (g.to Γ)) λD σV H ⟨σ,ok,q⟩=>⟨σ,ok,e.mon σ _ _ (λo q=>by
  cases o with
  | nx d=>exact λj k h i=>⟨d,h,g.mon d _ _ (λo q=>q.after i) q⟩
  | rt r σ'=>exact q
  | bk σ'=>exact q
  | ct σ'=>exact q
  | ex c f σ'=>exact q) q⟩
 mon:=iU e.mon g.mon
def aR8(i n:Nat)(C:MC)(b:DA):MS:=λσ Q=>OK1 (b σ) λx=>OK1 (qV x.2 x.1) λas=>(as.length=n/\dJ x.1=true)/\C as λy as'=>OK1 (dK6 i y (iR x.1 as' 0 x.2)) λa=>Q (.nx a)
def bU0{Γ:Gm}{i:Nat}{x:Res}{σ a c:Sg}{σV:St}{H H1:Hp}{v:V}(f:StOk Γ H1 a σV)(l:jD Γ H1 a σV x v)(g:Step σ σV H a σV H1)(m:Frh H x v)(k:dK6 i x a=some c) :
  StOk Γ H1 c (σV.set i (some v))/\Step σ σV H c (σV.set i (some v)) H1:=by
 cases x with
 | val d=>
   have b:(if iQ a i=true then some (a.set i (some ⟨.val,d⟩))else none)=some c:=k;split at b;rename_i h;cases b;exact⟨f.put h l,g.put h .val (.inl rfl)⟩;cases b
 | own d=>
   have b:(if iQ a i=true then some (a.set i (some ⟨.own,d⟩))else none)=some c:=k;split at b;rename_i h;cases b;obtain⟨p,rfl,n,o,q⟩:=l;exact⟨f.putOwn h n o q,g.put h .own (.inr ⟨rfl,λp e=>m _ p rfl e⟩)⟩;cases b
 | slot j=>cases k
def qF{i n:Nat}{C:MC}{a:DA}(b:dI1 C):zX (aR8 i n C a):=λσ Q d w q=>cC q λx q=>cC q λas q=>⟨q.1,b _ _ _ (λy as' q=>cC q λc q=>w _ q) q.2⟩
def cR7{i n:Nat}{C:MC}{e:DA}{f:XK}(g:dI1 C)(h:∀ Γ,PS X st (cG1 (aN9 (bQ8 n C) [] f (dTA Γ e)) (uN i))):GM1 E X st (aR8 i n C e) where
 to:=λΓ=>psW (h Γ) λD σV H ⟨σ,ok,q⟩=>by
  obtain⟨⟨rs,a⟩,j,q⟩:=hX.mp q;obtain⟨as,k,⟨hl,hn⟩,q⟩:=hX.mp q;refine⟨σ,ok,rs,a,j,λvs l b m d o=>?_⟩;show bQ8 n C (vs++[]) l _ f;rw[a3g];obtain⟨p,c⟩:=xS k hn b m d o;refine⟨as,p,hl,g _ _ _ (λy as' q v r po s=>?_) q⟩;obtain⟨t,u,w,x⟩:=c y as' v r po s;obtain⟨z,A,q⟩:=hX.mp q;obtain⟨B,F⟩:=bU0 t u w x A;exact q _ _ B F
 mon:=qF g
end
def cR8{len:Nat}{m:MS}(hm:zX m):dI1 (dK7 len m):=λas K b w q=>hm _ _ _ (λo q=>by
 cases o with
 | nx σ=>exact w _ _ q
 | rt r σ=>obtain⟨a,e,q⟩:=q;exact⟨a,e,w _ _ q⟩
 | bk σ=>exact q
 | ct σ=>exact q
 | ex c f σ=>exact q) q
def aR9{C:MC}{K:W.Frag}{H:Hp}{a:Addr}{ns:List Int}(b:dI1 C)(c:bB1 K=true)(d:cZ2 H)(f:SqL K H a (ns.map V.int))(h:C [⟨.val,.lst (ns.map D.int)⟩] λy _=>y=.val (.bl true)) :
  bQ8 1 C [.ref a] H (λv _=>v=.bl true) (λ_ _ _=>False):=
 ⟨_,cN5 c d f,rfl,b _ _ _ (λy as' e v H' po g=>by subst e;cases g;rfl) h⟩
def sW(g:DG)(b:MS)(Q:Out->Prop):List D->Sg->Prop
 | [],σ=>Q (.nx σ)
 | d::r,σ=>OK1 (g d σ) λe=>b e λo=>match o with
   | .nx a=>sW g b Q r a
   | .ct a=>sW g b Q r a
   | .bk a=>Q (.nx a)
   | .rt x a=>Q (.rt x a)
   | .ex c f a=>Q (.ex c f a)
def cU5(ri:DI)(g:DG)(b:MS):MS:=λσ Q=>OK1 (ri σ) λx=>sW g b (λo=>Q (mI x.2.1 x.2.2 o)) x.1 (lendO x.2.1 x.2.2)
theorem wF{g:DG}{b:MS}(e:zX b){Q j:Out->Prop}(w:∀ o,Q o->j o):∀ (l:List D) (σ:Sg),sW g b Q l σ->sW g b j l σ
 | [],_,h=>w _ h
 | _::r,_,h=>cC h λi k=>e i _ _ (λo d=>by
   cases o with
   | nx a=>exact wF e w r a d
   | ct a=>exact wF e w r a d
   | bk a=>exact w _ d
   | rt x a=>exact w _ d
   | ex c f a=>exact w _ d) k
def bH8{ri:DI}{g:DG}{b:MS}(a:zX b):zX (cU5 ri g b):=λσ Q d w h=>cC h λx c=>wF a (λo=>w _) _ _ c
def bH9{Γ:Gm}{E:Ex}{own:List Nat}{ri:DI}{g:TG}{R:DG}{b:MS}(hg:aZ5 own g R)(hb:zX b){D:Ends}{σV:St}{H:Hp}(h:mTS Γ E (cU5 ri R b) D σV H):cT9 (dTI Γ ri) g (mTS Γ E b) D σV H:=by
 obtain⟨σ,ok,h⟩:=h;obtain⟨⟨items,l,p⟩,e1,h⟩:=hX.mp h;refine⟨σ,ok,items,l,p,e1,λJ S P A G I stay=>?_⟩;dsimp only at h;have C:∀ σ' σV' H',xP Γ E σ σV H (mI l p (.nx σ')) D->StOk Γ H' σ' σV'->Step (lendO l p) σV S σ' σV' H'->D.nx σV' H':=by
  intro σ' σV' H' k T U;obtain⟨M,N⟩:=lE A T U;exact k σV' H' M (G.trans N)
 refine⟨λi m j F=>m=items.length-i/\i<=items.length/\∃ r,sW R b (λo=>xP Γ E σ σV H (mI l p o) D) (items.drop i) r/\StOk Γ F r j/\Step (lendO l p) σV S r j F,⟨items.length,by simp,a7c _,lendO l p,by simpa using h,A.lendO,.refl⟩,?_⟩;rintro i m j F ⟨rfl,hi,r,w,O,K⟩;have V:=stay r j F K;by_cases B:i < items.length
 ·have Y:items[i]? = some items[i]:=a0a B;refine .inr ⟨I.go F i _ V Y,λz Q=>∃ m',m' < items.length-i/\m'=items.length-(i+1)/\i+1<=items.length/\∃ t,sW R b (λo=>xP Γ E σ σV H (mI l p o) D) (items.drop (i+1)) t/\StOk Γ Q t z/\Step (lendO l p) σV S t z Q,λσ' H' q=>q,λy Q hy=>?_⟩;obtain⟨Z,ry⟩:=I.yld F i _ y Q V Y hy;rw[List.drop_eq_getElem_cons B]at w;obtain⟨t,eg,w⟩:=hX.mp w;refine hg Γ Q _ _ _ r j _ y t _ (O.same Z) (K.trans (.same Z)) ry eg λz W u _ _=>?_;refine⟨t,W,hb _ _ _ (λob w=>?_) w⟩;cases ob with
  | nx s=>exact λa L n e=>⟨_,by lia,rfl,B,s,w,n,u.trans e⟩
  | ct s=>exact λa L n e=>⟨_,by lia,rfl,B,s,w,n,u.trans e⟩
  | bk s=>exact λa L n e=>C s a L w n (u.trans e)
  | rt x s=>
    intro v a L n X e;obtain⟨M,N⟩:=lE A n (u.trans e);exact w v a L M (aZ7 (u.trans e) X) (G.trans N)
  | ex c f s=>
    intro v d a L n X e;obtain⟨M,N⟩:=lE A n (u.trans e);exact w v d a L M X (G.trans N)
 ·have e0:i=items.length:=by lia
  subst e0;rw[List.drop_length]at w;exact .inl ⟨I.stop F V,C r j F w O K⟩
def dI3{X:Cx}{E:Ex}{own:List Nat}{st:Stmt}{ri:DI}{g:TG}{a:DG}{b:MS}(d:aZ5 own g a)(c:zX b)(h:∀ Γ,PS X st (cT9 (dTI Γ ri) g (mTS Γ E b))):GM1 E X st (cU5 ri a b):=
 ⟨λΓ=>psW (h Γ) λ_ _ _=>bH9 d c,bH8 c⟩
def bI0{g:DG}{b:MS}(m:zX b){K:Out->Prop}(items:List D)(P:Nat->Sg->Prop){σ:Sg}(h0:P 0 σ)
  (hs:∀ i d σ,items[i]? = some d->P i σ->OK1 (g d σ) λc=>b c λo=>(∃ a,(o=.nx a\/o=.ct a)/\P (i+1) a)) (k:∀ σ',P items.length σ'->K (.nx σ')):sW g b K items σ:=by
 suffices key:∀ (r:List D) (n:Nat) (σ:Sg),items.drop n=r->n<=items.length->P n σ->sW g b K r σ from key items 0 σ (by simp) (a7c _) h0
 intro r
 induction r with
 | nil=>
   intro n σ e hn h;have:n=items.length:=by
    have:=a4u List.length e;rw[a0i,a5h]at this;lia
   subst this;exact k σ h
 | cons d r p=>
   intro n σ e hn h;have hd:items[n]? = some d:=by
    have:=a4u (λl=>l[0]?) e;simpa using this
   have f:=(a3a.mp hd).1;refine cC (hs n d σ hd h) λc q=>m c _ _ (λo j=>?_) q;obtain⟨a,j,s⟩:=j;have t:items.drop (n+1)=r:=by
    rw[List.drop_eq_getElem_cons f]at e;injection e
   rcases j with rfl | rfl<;>exact p (n+1) a t f s
noncomputable def okR(run:dG2):Dv.Run:=λas=>(run as).bind λy=>match y.1 with
 | .ok r=>some (r,y.2)
 | .ex _ _=>none
def noX{P:Program}{w:World}{K:W.Frag}{mg:Str->Option Value}{base:Heap}{k n:Nat}{f:Addr}{fd:FuncData}{ps:List Str}{run:dG2}(F:FnOk P w K mg base (CXo P w) k f fd ps (dL2 K n run)):FnOk P w K mg base CX0 k f fd ps (dsp n (okR run)):=by
 have a:∀ vs H Q E,dsp n (okR run) vs H Q E->dL2 K n run vs H Q E0:=λvs H Q E ⟨as,res,d,ok,hl,hr,q⟩=>by
  obtain⟨⟨y,g⟩,i,b⟩:=bind_some hr;cases y with
  | ok r=>cases b;exact⟨as,.ok res,_,ok,hl,i,q⟩
  | ex c f=>cases b
 exact⟨λvs H Q E h=>F.len vs H Q E0 (a _ _ _ _ h),λA outer s H args us vs Q E hr j l m h=>a4K (F.run A outer s H args us vs Q E0 hr j l m (a _ _ _ _ h)) λr s' q=>by
  cases r with
  | error e=>
    obtain⟨_,_,_,_,T,_,_,_,_,_,_,_,_,_,_,z⟩:=(show CXo P w outer H s E0 e s' from q);exact(z T).elim
  | ok o=>cases o<;>exact q⟩
end Dv
namespace L2
open PySem
def bI1:∀ x σ H (Q c:St->Hp->Prop),(∀ a b,Q a b->c a b)->cX0 x σ H Q->cX0 x σ H c:=λ_ _ _ _ _ f q=>⟨q.1,f _ _ q.2⟩
def uH{t:TG}{u:TGs}(h:∀ x σ H (Q c:St->Hp->Prop),(∀ a b,Q a b->c a b)->t x σ H Q->t x σ H c)(k:∀ x σ H (Q c:St->Hp->Prop),(∀ a b,Q a b->c a b)->u x σ H Q->u x σ H c) :
  ∀ x σ H (Q c:St->Hp->Prop),(∀ a b,Q a b->c a b)->aT3 t u x σ H Q->aT3 t u x σ H c:=λ_ _ _ _ _ f ⟨v,r,e,q⟩=>⟨v,r,e,h _ _ _ _ _ (λ_ _ q=>k _ _ _ _ _ f q) q⟩
def aS0{K:W.Frag}{n:Nat}{u:TGs}(k:∀ x σ H (Q c:St->Hp->Prop),(∀ a b,Q a b->c a b)->u x σ H Q->u x σ H c) :
  ∀ x σ H (Q c:St->Hp->Prop),(∀ a b,Q a b->c a b)->wZ K n u x σ H Q->wZ K n u x σ H c:=λx _ _ _ _ f q=>by
 cases x with
 | str z=>exact⟨q.1,k _ _ _ _ _ f q.2⟩
 | ref a=>obtain⟨xs,d,e,q⟩:=q;exact⟨xs,d,e,k _ _ _ _ _ f q⟩
 | _=>exact q
end L2
namespace Dv
open PySem L2 Mr
noncomputable abbrev qP(q:Str×List Str):D:=.tup [.str q.1,.tup (q.2.map D.str)]
noncomputable abbrev qD(qs:List (Str×List Str)):D:=.tup (qs.map qP)
def dI4{c:Type}{vs:List c}{x y:c}(h:2=vs.length)(h0:vs[0]? = some x)(d:vs[1]? = some y):vs=[x,y]:=by
 match vs,h with
 | [a,b],_=>cases h0;cases d;rfl
def cR9{H:Hp}{p:Addr}{i j m:Int}(b:H p=some (.lst [.int i,.int j])):ArgOk H [⟨.par,.lst [.int i,.int j]⟩,⟨.val,.int m⟩] [.ref p,.int m]:=by
 refine⟨rfl,λn s e=>?_,λn l s t q hn a c m1 f g d=>?_,λn s e=>?_⟩
 ·match n,e with
  | 0,e=>cases e;exact⟨_,rfl,p,rfl,_,b,mE [i,j]⟩
  | 1,e=>cases e;exact⟨_,rfl,.int m⟩
 ·match n,a,l,c with
  | 0,_,0,_=>exact hn rfl
  | 0,_,1,_=>cases d
  | 1,a,_,_=>cases a;cases m1
 ·match n,e with
  | 0,e=>cases e;exact λz=>nomatch z
  | 1,e=>cases e;exact λz=>nomatch z
def cS0{p c:Addr}{i j m:Int}(h:bA0 [⟨.par,.lst [.int i,.int j]⟩,⟨.val,.int m⟩] [.ref p,.int m] c):c=p:=by
 obtain⟨n,s,e,mt,a⟩:=h
 match n,e with
 | 0,_=>cases a;rfl
 | 1,_=>cases a
def bU1{H H':Hp}{p:Addr}{i j a j' m:Int}(b:H' p=some (.lst [.int a,.int j']))(hs:SameBut p H H'):PostOk [⟨.par,.lst [.int i,.int j]⟩,⟨.val,.int m⟩] [.ref p,.int m] H [⟨.par,.lst [.int a,.int j']⟩,⟨.val,.int m⟩] H':=by
 refine⟨λn s e mt=>?_,λc o e n=>hs c o (λz=>n ⟨0,_,rfl,rfl,by rw[z];rfl⟩) e,λc e=>?_⟩
 ·match n,e with
  | 0,e=>cases e;exact⟨_,_,rfl,rfl,rfl,p,rfl,_,b,mE [a,j']⟩
  | 1,e=>cases e;cases mt
 ·cases d:H c with
  | none=>rfl
  | some o=>
    by_cases z:c=p;subst z;rw[b]at e;cases e;rw[hs c o z d]at e;cases e
def bU2{H H':Hp}{p:Addr}{i j a j' m:Int}(po:PostOk [⟨.par,.lst [.int i,.int j]⟩,⟨.val,.int m⟩] [.ref p,.int m] H [⟨.par,.lst [.int a,.int j']⟩,⟨.val,.int m⟩] H'):bG H' p/\SameBut p H H':=by
 refine⟨?_,λc o n e=>po.fr c o e λz=>n (cS0 z)⟩;obtain⟨s',v,d,_,f,g⟩:=po.rel 0 _ rfl rfl;cases d;cases f;obtain⟨q,h,xs,b,hr⟩:=(cO (s:=⟨.par,.lst [.int a,.int j']⟩) (λz=>nomatch z)).mp g;cases h;rw[Rps.ints_inv (ns:=[a,j']) hr]at b;exact⟨a,j',b⟩
def Qs1(qs:List (Str×List Str)):Prop:=1<=qs.length/\qs.length<=6/\∀ q∈qs,Shz q.1/\(1<=q.2.length/\q.2.length<=10)/\gP q.2
def cQ1:MC:=λas K=>∃ (a b k:Int),as=[⟨.par,.lst [.int a,.int b]⟩,⟨.val,.int k⟩]/\0<=k/\k<=3/\∀ qs c d,Qs1 qs->K (.val (qD qs)) [⟨.par,.lst [.int c,.int d]⟩,⟨.val,.int k⟩]
def aM2:dI1 cQ1:=λas K g w ⟨a,b,k,e,h0,c,q⟩=>⟨a,b,k,e,h0,c,λqs d f h=>w _ _ (q qs d f h)⟩
theorem bI2{H:Hp}:∀ (zs:List Str) (es:List V),es.length=zs.length->(∀ (j:Nat) z,zs[j]? = some z->∃ (a c:Addr) (cs:List Str),es[j]? = some (.ref a)/\H a=some (.tup [.str z,.ref c])/\H c=some (.tup (cs.map V.str))/\(1<=cs.length/\cs.length<=10)/\gP cs) ->
  ∃ qs:List (Str×List Str),qs.map Prod.fst=zs/\Rps H (qs.map qP) es/\∀ q∈qs,(1<=q.2.length/\q.2.length<=10)/\gP q.2
 | [],[],_,_=>⟨[],rfl,.nil,λ_ h=>nomatch h⟩
 | z::zs,e::es,hl,h=>by
   obtain⟨a,c,cs,d,g,i,k,l⟩:=h 0 z rfl;obtain rfl:e=.ref a:=a5a d;obtain⟨qs,m,n,o⟩:=bI2 zs es (by simpa using hl) λj z p=>by
    obtain⟨a,c,cs,f⟩:=h (j+1) z (by simpa using p);exact⟨a,c,cs,by simpa using f⟩
   refine⟨(z,cs)::qs,by rw[a6e,m],.cons (.tup g (.cons (.str z) (.cons (.tup i (aI1 cs)) .nil))) n,λq b=>?_⟩;rcases a5b.mp b with rfl | b;exact⟨k,l⟩;exact o q b
def sX{K:W.Frag}(vs:List V)(H:Hp)(Q:L2.VK)(E:XK)(h:bQ8 2 cQ1 vs H Q E):iY K vs H Q E:=by
 obtain⟨as,c,hl,a,b,k,rfl,l,m,q⟩:=h;obtain⟨G,n,o⟩:=c.rel 0 _ rfl;obtain⟨v1,t,u⟩:=c.rel 1 _ rfl;obtain rfl:=dI4 c.len n t;obtain⟨p,rfl,xs,g,hr⟩:=(cO (s:=⟨.par,.lst [.int a,.int b]⟩) (λz=>nomatch z)).mp o;rw[Rps.ints_inv (ns:=[a,b]) hr]at g;have d:Rp H (.int k) v1:=u;cases d;refine⟨p,k,rfl,⟨a,b,g⟩,l,m,λr zs H' hr ⟨es,v,w,y⟩ l1 I hs A e=>?_⟩;obtain⟨qs,i,B,C⟩:=bI2 zs es w y;obtain⟨D,F,f⟩:=A;have J:qs.length=zs.length:=by rw[← i,a1a]
 refine q qs D F ⟨by lia,by lia,λx j=>⟨hs _ (by rw[← i];exact List.mem_map_of_mem j),C x j⟩⟩ (.ref r) H' (bU1 f e) (.tup v B)
end Dv
namespace Mr
open PySem L2 Dv
noncomputable def iJ:DS:=(bM (cF 2 (aR hW (aR lM (dC (.int 7919)) (aF 1)) (dC (.int 11))))
 (bM (pJ (eQ (aR ltI (aF 1) (dCB vJ (aA (aF 0) aT)))) (cF 2 (aR ixD (aF 0) (aF 1))) (pJ (eQ (aR gtI (dCB vJ (aA (aF 0) aT)) (dC (.int 0)))) (cF 2 (aR hW (aF 2) (aR lM (aR aP9 (aR ixD (aF 0) (aR aP9 (aF 1) (dCB vJ (aA (aF 0) aT)))) (dC (.int 2147483629))) (dC (.int 69623))))) hV))
 (bM (cF 3 (aR hW (aR aP9 (aR hW (aR lM (aR aP9 (aF 2) (dC (.int 2147483629))) (dC (.int 48271))) (aR lM (dC (.int 40692)) (aF 1))) (dC (.int 2147483629))) (dC (.int 1))))
 (jE (pZ (aA (dFz (aR lM (aF 2) (dCB cM2 (aA (aR geI (aF 2) (aR dD8 (dC (.int 10)) (dC (.int 18)))) aT)))) (aA (dFz (aF 3)) aT)))))))
noncomputable def gB:Dv.Run:=qB 4 iJ
noncomputable def gC:DS:=(bM (pJ (eQ (aR gtI (aR ixD (aF 0) (dC (.int 0))) (dC (.int 0)))) (bM (cF 2 (aR aP9 (aR ixD (aF 0) (dC (.int 0))) (aF 1)))
 (bM (cB0 0 (dC (.int 0)) (aR bL3 (aR ixD (aF 0) (dC (.int 0))) (aF 1)))
 (jE (aF 2)))) hV)
 (bM (cF 3 (aR aP9 (aR lM (aR ixD (aF 0) (dC (.int 1))) (dC (.int 69623))) (dC (.int 2147483647))))
 (bM (cB0 0 (dC (.int 1)) (aR hW (aR aP9 (aR hW (aR lM (aF 3) (dC (.int 48271))) (dC (.int 30103))) (dC (.int 2147483629))) (dC (.int 1))))
 (jE (aR aP9 (aR bL3 (aR hW (aR lM (aF 3) (dC (.int 2147483647))) (aR ixD (aF 0) (dC (.int 1)))) (dC (.int 8191))) (aF 1))))))
noncomputable def aG:Dv.Run:=qB 4 gC
noncomputable def eW:DS:=(bM (cF 2 (dC (.str "abcdefghijklmnopqrstuvwxyz")))
 (bM (cF 3 (aB6 (aQ4 "") (eM [12] (aS9 (aA (aQ 2 aG (aA (aF 0) (aA (dC (.int 5)) aT))) aT)) (dgN 12) nX (aR ixD (aF 2) (aQ 2 aG (aA (aF 0) (aA (dC (.int 26)) aT)))))))
 (bM (cF 4 (aQ 2 aG (aA (aF 0) (aA (aR hW (dCB vJ (aA (aF 3) aT)) (dC (.int 1))) aT))))
 (bM (cF 5 (aQ 2 aG (aA (aF 0) (aA (dC (.int 26)) aT))))
 (bM (cF 6 (aQ 2 aG (aA (aF 0) (aA (dC (.int 4)) aT))))
 (bM (pJ (eQ (aR (eqD false) (aF 6) (dC (.int 2)))) (bM (bQ1 (dY 3 (aN (dgN 7) (aN (dgN 8) (aN (dgN 9) dX)))) (dFz (dSl (dSl (aF 2) (dP (aQ 2 aG (aA (aF 0) (aA (dC (.int 24)) aT)))) bA7) bA7 (dP (dC (.int 3))))))
 (bM (cF 10 (pZ (aA (dFz (aF 7)) (aA (dFz (aR hW (aF 7) (aF 8))) (aA (dFz (aF 8)) (aA (dFz (aR hW (aF 8) (aF 9))) aT))))))
 (jE (dSl (aR hW (aF 10) (pZ (aA (dFz (aF 9)) (aA (dFz (aR hW (aF 7) (aF 9))) (aA (dFz (aR hW (aR hW (aF 7) (aF 8)) (aF 9))) (aA (dFz (aR hW (aF 9) (aF 8))) aT)))))) bA7 (dP (aF 1)))))) hV)
 (bM (cF 11 (pZ aT))
 (bM (lF (aS9 (aA (aF 1) aT)) (dgN 12)
 (bM (cF 13 (aR hW (aR hW (dSl (aF 3) bA7 (dP (aF 4))) (aR ixD (aF 2) (aR aP9 (aR hW (aF 5) (aR lM (dC (.int 5)) (aF 12))) (dC (.int 26))))) (dSl (aF 3) (dP (aF 4)) bA7)))
 (nW (qU "list" 11 cM8 (aA (dFz (aR hW (aF 13) (aR lM (dC (.str "z")) (dCB cM2 (aA (xM (aR (eqD false) (aF 6) (dC (.int 1))) (aR (eqD false) (aR aP9 (aF 12) (dC (.int 2))) (dC (.int 1)))) aT))))) aT)))))
 (bM (cF 14 (pZ (aA (dC (.str "table")) (aA (dC (.str "tree")) (aA (dC (.str "none")) (aA (dC (.str "answer")) (aA (dC (.str "levels")) (aA (dC (.str "looks")) aT))))))))
 (bM (cF 14 (aR hW (aF 14) (pZ (aA (dC (.str "at")) (aA (dC (.str "count")) (aA (dC (.str "ears")) (aA (dC (.str "cover")) (aA (dC (.str "place")) aT))))))))
 (bM (cF 13 (aR ixD (aF 14) (aQ 2 aG (aA (aF 0) (aA (dC (.int 11)) aT)))))
 (bM (pJ (dC3 (eQ (aR (eqD false) (aQ 2 aG (aA (aF 0) (aA (dC (.int 4)) aT))) (dC (.int 0)))) (eQ (aR (inD true) (aF 13) (aF 11)))) (cB0 11 (aQ 2 aG (aA (aF 0) (aA (aF 1) aT))) (dFz (aF 13))) hV)
 (jE (aF 11))))))))))))))
noncomputable def fN:Dv.Run:=qB 15 eW
noncomputable def dA:DS:=(bM (cF 1 (pZ aT))
 (bM (lF (dIt (aF 0)) (dY 2 (aN (dgN 2) (aN (dgN 3) dX)))
 (nW (xO "list" 1 cN0 (aA (eM [4] (dIt (aF 3)) (dgN 4) (eQ (aR (inD true) (aF 4) (aF 1))) (dFz (aF 4))) aT))))
 (jE (aF 1))))
noncomputable def bP:Dv.Run:=qB 5 dA
noncomputable def eX:DS:=(bM (cF 2 (aQ 2 aG (aA (aF 0) (aA (aF 1) aT))))
 (bM (pJ (eQ (aR (eqD false) (aF 1) (dC (.int 12)))) (jE (aR ixD (pZ (aA (dC (.int 0)) (aA (dC (.int 1)) (aA (dC (.int 2)) (aA (dC (.int 10)) (aA (dC (.int 11)) (aA (dC (.int 12)) (aA (dC (.int 21)) (aA (dC (.int 101)) (aA (dC (.int 111)) (aA (dC (.int 112)) (aA (dC (.int 121)) (aA (dC (.int 211)) aT))))))))))))) (aF 2))) hV)
 (jE (aF 2))))
noncomputable def cK:Dv.Run:=qB 3 eX
noncomputable def eY:DS:=(bM (cF 3 (aQ 1 bP (aA (aF 1) aT)))
 (bM (cF 4 (aR ixD (pZ (aA (dC (.int 2)) (aA (dC (.int 3)) (aA (dC (.int 5)) (aA (dC (.int 12)) (aA (dC (.int 1000)) aT)))))) (aQ 2 aG (aA (aF 0) (aA (dC (.int 5)) aT)))))
 (bM (cF 5 (eM [14] (aS9 (aA (aQ 2 aG (aA (aF 0) (aA (dC (.int 6)) aT))) aT)) (dgN 14) nX (dFz (eM [15] (dIt (aF 3)) (dgN 15) nX (dFz (aQ 2 cK (aA (aF 0) (aA (aF 4) aT))))))))
 (bM (cF 6 (aR ixD (aR ixD (pZ (aA (dFz (pZ (aA (dC (.int 40)) (aA (dC (.int 40)) (aA (dC (.int 14)) (aA (dC (.int 7)) (aA (dC (.int 4)) (aA (dC (.int 3)) aT)))))))) (aA (dFz (pZ (aA (dC (.int 40)) (aA (dC (.int 17)) (aA (dC (.int 6)) (aA (dC (.int 4)) (aA (dC (.int 3)) (aA (dC (.int 2)) aT)))))))) aT))) (dCB cM2 (aA (aR ltI (aF 2) (dC (.int 2000))) aT))) (aR cK9 (dCB vJ (aA (aF 1) aT)) (dC (.int 1)))))
 (bM (cF 7 (dFz (aF 2)))
 (bM (cF 8 (xM (aR gtI (aF 2) (dC (.int 0))) (aR (eqD false) (aQ 2 aG (aA (aF 0) (aA (dC (.int 2)) aT))) (dC (.int 0)))))
 (bM (cF 9 (pZ aT))
 (bM (lF (dIt (aF 1)) (dY 2 (aN (dgN 10) (aN (dgN 11) dX)))
 (bM (cF 12 (dC (.int 40)))
 (bM (pJ (eQ (aR gtI (aF 2) (dC (.int 0)))) (cF 12 (dCB xU (aA (dC (.int 40)) (aA (aF 7) aT)))) hV)
 (bM (pJ (dC2 (aF 8)) (cF 12 (dCB xU (aA (aF 12) (aA (aF 6) aT)))) hV)
 (bM (cF 13 (eM [16] (dIt (aF 5)) (dgN 16) nX (dCB bA9 (aA (eM [15] (dIt (aF 11)) (dgN 15) nX (aR ixD (aF 16) (qU "list" 3 dL3 (aA (dFz (aF 15)) aT)))) aT))))
 (bM (pJ (eQ (aR (eqD false) (aQ 2 aG (aA (aF 0) (aA (dC (.int 6)) aT))) (dC (.int 0)))) (cF 13 (pZ aT)) hV)
 (bM (lF (aS9 (aA (aQ 2 aG (aA (aF 0) (aA (aR ixD (pZ (aA (dFz (aR hW (aF 12) (dC (.int 1)))) (aA (dFz (aR hW (dCB xU (aA (aF 12) (aA (dC (.int 5)) aT))) (dC (.int 1)))) aT))) (aQ 2 aG (aA (aF 0) (aA (dC (.int 2)) aT)))) aT))) aT)) (dgN 14)
 (nW (qU "list" 13 cM8 (aA (dCB bA9 (aA (eM [15] (dIt (aF 11)) (dgN 15) nX (dFz (aQ 2 cK (aA (aF 0) (aA (aF 4) aT))))) aT)) aT))))
 (bM (cF 13 (dSl (dCB mW (aA (aF 13) aT)) bA7 (dP (aF 12))))
 (bM (nW (qU "list" 9 cM8 (aA (dCB bA9 (aA (aF 13) aT)) aT)))
 (cF 7 (aR bL3 (aF 7) (dCB bA8 (aA (dC (.int 1)) (aA (dCB vJ (aA (aF 13) aT)) aT))))))))))))))
 (jE (dCB bA9 (aA (aF 9) aT)))))))))))
noncomputable def eC:Dv.Run:=qB 17 eY
noncomputable def eZ:DS:=(bM (cF 2 (aR hW (dC (.int 1)) (aQ 2 aG (aA (aF 0) (aA (dC (.int 6)) aT)))))
 (bM (cF 3 (eM [8] (dIt (aF 1)) (dgN 8) nX (dFz (aQ 2 aG (aA (aF 0) (aA (aR hW (aF 2) (dC (.int 1))) aT))))))
 (bM (lF (dIt (aQ 1 bP (aA (aF 1) aT))) (dgN 4)
 (bM (cF 5 (eM [9,10,11] (bD9 (aF 1)) (dY 2 (aN (dgN 9) (aN (dY 2 (aN (dgN 10) (aN (dgN 11) dX))) dX))) (eQ (aR (inD false) (aF 4) (aF 11))) (dFz (aF 9))))
 (bM (cF 6 (aR cK9 (aF 2) (dCB cU4 (aA (eM [9] (dIt (aF 5)) (dgN 9) nX (aR ixD (aF 3) (aF 9))) aT))))
 (pJ (eQ (aR gtI (aF 6) (dC (.int 0)))) (bM (cF 7 (aR ixD (aF 5) (aQ 2 aG (aA (aF 0) (aA (dCB vJ (aA (aF 5) aT)) aT)))))
 (cB0 3 (aF 7) (dFz (aR hW (aR ixD (aF 3) (aF 7)) (aF 6))))) hV))))
 (jE (cK0 (aA (dFz (aF 2)) (aA (dCB bA9 (aA (aF 3) aT)) aT)))))))
noncomputable def eD:Dv.Run:=qB 12 eZ
noncomputable def bW:DS:=(bM (bQ1 (dY 2 (aN (dgN 2) (aN (dgN 3) dX))) (dFz (aQ 2 eD (aA (aF 0) (aA (aF 1) aT)))))
 (bM (cF 4 (aR hW (dC (.int 1)) (aQ 2 aG (aA (aF 0) (aA (aR ixD (pZ (aA (dC (.int 1)) (aA (dC (.int 10)) aT))) (aQ 2 aG (aA (aF 0) (aA (dC (.int 2)) aT)))) aT)))))
 (bM (cF 5 (eM [6] (dIt (aF 3)) (dgN 6) nX (dFz (aQ 2 aG (aA (aF 0) (aA (aR ixD (pZ (aA (dC (.int 1)) (aA (dC (.int 3)) aT))) (aQ 2 aG (aA (aF 0) (aA (dC (.int 2)) aT)))) aT))))))
 (jE (cK0 (aA (dFz (aR lM (aF 2) (aF 4))) (aA (dCB bA9 (aA (eM [6,7] (cE7 (aA (aF 3) (aA (aF 5) aT))) (dY 2 (aN (dgN 6) (aN (dgN 7) dX))) nX (dFz (dCB xU (aA (dC (.int 60)) (aA (aR hW (aR lM (aF 6) (aF 4)) (aF 7)) aT))))) aT)) aT)))))))
noncomputable def bQ:Dv.Run:=qB 8 bW
noncomputable def dB:DS:=(bM (cF 2 (dC (.int 1)))
 (bM (lF (cE7 (aA (aF 0) (aA (aF 1) aT))) (dY 2 (aN (dgN 3) (aN (dgN 4) dX)))
 (lF (aS9 (aA (aF 4) aT)) (dgN 5)
 (cF 2 (aR lM (aF 2) (dCB vJ (aA (aF 3) aT))))))
 (jE (aF 2))))
noncomputable def cT:Dv.Run:=qB 6 dB
noncomputable def eE:DS:=(bM (cF 1 (pZ aT))
 (bM (lF (dIt (aF 0)) (dY 2 (aN (dgN 2) (aN (dgN 3) dX)))
 (nW (xO "list" 1 cN0 (aA (eM [4] (dIt (aF 3)) (dgN 4) (eQ (aR (inD true) (aF 4) (aF 1))) (dFz (aF 4))) aT))))
 (jE (dCB bA9 (aA (aF 1) aT)))))
noncomputable def cM:Dv.Run:=qB 5 eE
noncomputable def bX:DS:=(bM (lF (dIt (aQ 1 cM (aA (aF 0) aT))) (dgN 2)
 (bM (cF 3 (eM [4,5] (cE7 (aA (aF 0) (aA (aR ixD (aF 1) (dC (.int 1))) aT))) (dY 2 (aN (dgN 4) (aN (dgN 5) dX))) (eQ (aR (inD false) (aF 2) (aR ixD (aF 4) (dC (.int 1))))) (dFz (aF 5))))
 (pJ (eQ (aR ltI (dCB cU4 (aA (aF 3) aT)) (aR ixD (aF 1) (dC (.int 0))))) (jE (aF 2)) hV)))
 (jE (dC .non)))
noncomputable def bR:Dv.Run:=qB 6 bX
noncomputable def eF:DS:=(bM (cF 2 (aQ 2 bR (aA (aF 0) (aA (aF 1) aT))))
 (pJ (eQ (aR (isD true) (aF 2) (dC .non))) (aD5 "NoCover" "column" (aF 2)) hV))
noncomputable def gU:Dv.dG2:=dL1 3 eF
noncomputable def cN:Dv.Run:=okR gU
noncomputable def gD:DS:=(bM (cF 2 (dC (.int 1)))
 (bM (lF (aS9 (aA (aF 1) aT)) (dgN 3)
 (cF 2 (aR lM (aF 2) (aF 0))))
 (jE (aF 2))))
noncomputable def bA:Dv.Run:=qB 4 gD
noncomputable def sG:DS:=(bM (pJ (eQ (aR leI (aB6 cU3 (aF 0)) (aF 1))) (jE (dIf (eQ (aR gtI (aF 0) (dC (.int 0)))) (dC (.int 1)) (dC (.int 0)))) hV)
 (bM (cF 2 (dC (.int 2)))
 (bM (kW (eQ (aR leI (aQ 2 bA (aA (aF 2) (aA (aF 1) aT))) (aF 0)))
 (cF 2 (aR lM (aF 2) (dC (.int 2)))))
 (bM (cF 3 (aR bL3 (aF 2) (dC (.int 2))))
 (bM (kW (eQ (aR gtI (aR cK9 (aF 2) (aF 3)) (dC (.int 1))))
 (bM (cF 4 (aR bL3 (aR hW (aF 3) (aF 2)) (dC (.int 2))))
 (pJ (eQ (aR leI (aQ 2 bA (aA (aF 4) (aA (aF 1) aT))) (aF 0))) (cF 3 (dFz (aF 4))) (cF 2 (dFz (aF 4))))))
 (jE (aF 3)))))))
noncomputable def mX:Dv.Run:=qB 5 sG
noncomputable def bY:DS:=(bM (cF 2 (dC (.int 1)))
 (bM (lF (cE7 (aA (aF 0) (aA (aR ixD (aF 1) (dC (.int 1))) aT))) (dY 2 (aN (dgN 3) (aN (dgN 4) dX)))
 (cF 2 (aR lM (aF 2) (aQ 2 bA (aA (dCB vJ (aA (aF 3) aT)) (aA (aF 4) aT))))))
 (jE (aF 2))))
noncomputable def bC:Dv.Run:=qB 5 bY
noncomputable def sH:DS:=(bM (nW (aQ 2 cN (aA (aF 0) (aA (aF 2) aT))))
 (jE (aQ 2 mX (aA (aQ 2 bC (aA (aF 1) (aA (aF 2) aT))) (aA (aR ixD (aF 2) (dC (.int 0))) aT)))))
noncomputable def mY:Dv.Run:=qB 3 sH
noncomputable def fA:DS:=(jE (xM (aB6 (bR3 "int") (aF 0)) (aZ0 (aB6 (bR3 "bool") (aF 0)))))
noncomputable def eG:Dv.Run:=qB 1 fA
noncomputable def jX:DS:=(bM (cF 2 (dC (.int 1)))
 (bM (lF (aS9 (aA (aF 1) aT)) (dgN 3)
 (cF 2 (aR lM (aF 2) (aF 0))))
 (jE (aF 2))))
noncomputable def bL:Dv.Run:=qB 4 jX
noncomputable def gF:DS:=(bM (cF 2 (dC (.int 1)))
 (bM (kW (eQ (aR leI (aQ 2 bL (aA (aR lM (dC (.int 2)) (aF 2)) (aA (aF 1) aT))) (aF 0)))
 (cF 2 (aR lM (dC (.int 2)) (aF 2))))
 (bM (cF 3 (dC (.int 0)))
 (bM (kW (eQ (aR gtI (aF 2) (dC (.int 0))))
 (bM (pJ (eQ (aR leI (aQ 2 bL (aA (aR hW (aF 3) (aF 2)) (aA (aF 1) aT))) (aF 0))) (cF 3 (aR hW (aF 3) (aF 2))) hV)
 (cF 2 (aR bL3 (aF 2) (dC (.int 2))))))
 (jE (aF 3))))))
noncomputable def dL:Dv.Run:=qB 4 gF
noncomputable def fB:DS:=(jE (xM (aB6 (bR3 "bool") (aF 0)) (aR (eqD false) (aF 0) (aF 1))))
noncomputable def eI:Dv.Run:=qB 2 fB
noncomputable def fC:DS:=(bM (nW (aQ 2 cN (aA (aF 0) (aA (aF 2) aT))))
 (bM (cF 4 (aR lM (dCB vJ (aA (aQ 1 cM (aA (aF 0) aT)) aT)) (dCB vJ (aA (aF 0) aT))))
 (jE (aR leI (aQ 2 bA (aA (aF 3) (aA (aR ixD (aF 2) (dC (.int 0))) aT))) (aR lM (aQ 2 bC (aA (aF 1) (aA (aF 2) aT))) (aQ 2 bA (aA (aF 4) (aA (aR ixD (aF 2) (dC (.int 0))) aT))))))))
noncomputable def eJ:Dv.Run:=qB 5 fC
noncomputable def fD:DS:=(bM (bQ1 (dY 2 (aN (dgN 4) (aN (dgN 5) dX))) (dFz (aF 2)))
 (bM (cF 6 (aQ 2 cT (aA (aF 1) (aA (aF 5) aT))))
 (bM (cF 7 (aQ 3 mY (aA (aF 0) (aA (aF 1) (aA (aF 2) aT)))))
 (bM (pJ (dOr (bP5 (eQ (aQ 1 eG (aA (aF 7) aT)))) (eQ (aR ltI (aF 7) (dC (.int 0))))) (jE (dC (.bl false))) hV)
 (bM (pJ (bP5 (eQ (xN leI ltI (aQ 2 bL (aA (aF 7) (aA (aF 4) aT))) (aF 6) (aQ 2 bL (aA (aR hW (aF 7) (dC (.int 1))) (aA (aF 4) aT)))))) (jE (dC (.bl false))) hV)
 (bM (cF 8 (aR lM (dCB vJ (aA (aQ 1 bP (aA (aF 0) aT)) aT)) (dCB vJ (aA (aF 0) aT))))
 (bM (cF 9 (aQ 2 dL (aA (aR lM (aF 6) (aQ 2 bL (aA (aF 8) (aA (aF 4) aT)))) (aA (aF 4) aT))))
 (bM (lF (dIt (pZ (aA (dFz (aF 9)) (aA (dFz (aR hW (aF 9) (dC (.int 1)))) (aA (dC (.int 0)) (aA (dFz (aF 3)) aT)))))) (dgN 10)
 (pJ (bP5 (eQ (aQ 2 eI (aA (aQ 4 eJ (aA (aF 0) (aA (aF 1) (aA (aF 2) (aA (aF 10) aT))))) (aA (aR leI (aF 10) (aF 9)) aT))))) (jE (dC (.bl false))) hV))
 (jE (dC (.bl true)))))))))))
noncomputable def cW:Dv.Run:=qB 11 fD
def uI:MS:=(cE9 (RS (cF 1 (pZ aT)))
 (cE9 (cU5 (aS9 (aA (dC (.int 2)) aT)) (dgN 2)
 (cE9 (RS (cF 3 (aQ 2 gB (aA (aF 0) (aA (aF 2) aT)))))
 (cE9 (aR8 4 2 cQ1 (aA (aF 3) (aA (dC (.int 3)) aT)))
 (RS (bM (cF 5 (aQ 3 eC (aA (aF 3) (aA (aF 4) (aA (dC (.int 0)) aT)))))
 (nW (qU "list" 1 cM8 (aA (cK0 (aA (dFz (aF 4)) (aA (dFz (aF 5)) (aA (dFz (aQ 2 bQ (aA (aF 3) (aA (aF 4) aT)))) (aA (dFz (aQ 2 aG (aA (aF 3) (aA (aR dD8 (dC (.int 10)) (dC (.int 5))) aT)))) aT))))) aT))))))))
 (RS (bM (lF (dIt (aR hW (aF 1) (dSl (aF 1) bA7 (dP (dC (.int 1)))))) (dY 4 (aN (dgN 4) (aN (dgN 5) (aN (dgN 6) (aN (dgN 7) dX)))))
 (pJ (bP5 (eQ (aQ 4 cW (aA (aF 4) (aA (aF 5) (aA (aF 6) (aA (aF 7) aT))))))) (jE (dC (.bl false))) hV))
 (jE (dC (.bl true)))))))
def sI:MC:=dK7 8 uI
def aF6:zX uI:=(iU lA (iU (bH8 (iU lA (iU (qF aM2) lA))) lA))
section
variable{P:Program}{w:World}{K:W.Frag}{mg:Str->Option Value}{base:Heap}{a:Adr}
set_option hygiene false in
local macro_rules | `(tactic| walk_at "k")=>do
 let f:=fun(s:String)=>(s.splitOn " ").toArray.map fun s=>Lean.mkIdent s.toName
 let x:=f "aG bA bL bP cK cM cN bC eD bR mX cT mY eG dL eJ eI gB eC bQ cW"
 let y:=f "a0M a1X a2t a0Z a3k a1Z a2l a0X a3s a1V a3P a2G a3M a2V a3w a3r a2R a3E a3p a1Y a3l"
 let z:=f "T.a0o T.a3z T.a2W T.a2J T.a3n T.a2L T.a2O T.a1T T.a2Q T.a1U T.a3N T.a2K T.a3L T.a2S T.a3y T.a3m T.a2X T.a3A T.a2U T.a1R T.a3o"
 let u:=f "T.a0l.kp T.a1P.kp T.a1M.kp T.a0Y.kp T.a1G.kp T.a1x.kp T.a1p.kp T.a0H.kp T.a1I.kp T.a0G.kp T.a3F.kp T.a1o.kp T.a3B.kp T.a1F.kp T.a1Q.kp T.a1D.kp T.a1B.kp T.a2p.kp T.a1L.kp T.a0C.kp T.a1H.kp"
 let v:=f "aV aQ9 aE1 vV aD7 yX yY oF aD9 oE dG5 vW dG6 aE0 aR0 aE3 aE2 bE4 aD8 oC aE4"
 let w:=f "hW lM aP9 bL3 cK9 dD8"
 let p:=f "cL5 cL7 tF bR4 bY1 cX6"
 let q:=f "cL6 cL8 cL1 cN3 cL0 cL2"
 let r:=f "leI geI ltI gtI"
 let s:=f "cG4 dM4 aA0 aN4"
 let t:=f "aC5 cL3 aC4 bA4"
 let a:=f "gtI leI ltI"
 let b:=f "aN4 cG4 aA0"
 let c:=f "bA4 aC5 aC4"
 `(tactic| (first | refine aI3 ?_ ?_ | refine aZ4 ?_ | refine bH7 ?_ ?_)<;>repeat' first
 | first $[| (with_reducible show GE _ _ (aQ _ $x _));refine cB (λΓ=>aK $y (hr.mono (by decide)) (by rfl) $z $u ($v T) .nil bF (gA ?_ Γ))]*
 | first $[| (with_reducible show GE _ _ (aR $w _ _));refine tN $p $q ?_ ?_]*
 | first $[| (with_reducible show GE _ _ (aR $r _ _));refine xK $s $t ?_ ?_ (cE _)]*
 | first $[| (with_reducible show GT _ _ (eQ (aR $a _ _)));refine qT $b $c ?_ ?_ (cE _)]*
 | (with_reducible show GE _ _ (aF _));exact dB8 (pv _)
 | (with_reducible show GA _ _ (aA _ _));refine cJ9 ?_ ?_
 | (with_reducible show GE _ _ (dC (.int _)));exact ge_int
 | (with_reducible show GA _ _ aT);exact dD0
 | (with_reducible show GSs _ _ _ (bM _ _));refine aI3 ?_ ?_
 | (with_reducible show GSs _ _ [_] _);refine aZ4 ?_
 | (with_reducible show GE _ _ (dFz _));refine dO2 ?_
 | (with_reducible show GS _ _ _ (jE _));refine dD4 ?_
 | (with_reducible show GE _ _ (aR ixD _ _));refine dO5 ?_ ?_ (λ_ _=>rfl)
 | (with_reducible show GE _ _ (pZ _));refine dD2 ?_
 | (with_reducible show GS _ _ _ (pJ _ _ _));refine dO4 ?_ ?_ ?_
 | (with_reducible show GSs _ _ [] _);exact cK2
 | (with_reducible show GI _ _ _ (dIt _));refine dD7 K (by rfl) ?_
 | (with_reducible show GE _ _ (dCB vJ _));refine aB7 cL9 (λΓ=>cH dR (by rfl) T.a2I fK (gA ?_ Γ))
 | (with_reducible show GE _ _ (dC (.str _)));exact dB9
 | (with_reducible show bK9 _ [] _);exact bQ5
 | (with_reducible show GI _ _ _ (aS9 _));refine cK5 (λΓ=>jF (by rfl) T.a2q (gA ?_ Γ)) len1
 | (with_reducible show GE _ _ (eM _ _ (dgN _) _ _));refine aZ9 (aU (by decide)) (λΓ=>uU (csc _ (by kernel_rfl)) (gI ?_ Γ) (λ_ _ _ _=>(aP nd rfl (Or.inl rfl) (.inr rfl))) (bV (by decide)) (λ_ _ _ _=>?_) (λ_ _ _ _=>gE ?_ Γ))
 | (with_reducible show GS _ _ _ (nW _));refine cK3 ?_
 | (with_reducible show GO _ _ (dP _));refine cM1 ?_
 | (with_reducible show GO _ _ bA7);exact cM0
 | (with_reducible show GE _ _ (dSl _ _ _));refine bR0 ?_ ?_ ?_
 | (with_reducible show GE _ _ (dCB bA9 _));refine aB7 cM4 (λΓ=>dN lU (by rfl) T.a2u iF (gA ?_ Γ))
 | (with_reducible show GE _ _ (dC (.bl _)));exact dN7
 | (with_reducible show GS _ _ _ (cB0 _ _ _));refine dE4 (λΓ=>tE (gE ?_ Γ) (aT4 (pv _) (gE ?_ Γ) uP))
 | (with_reducible show GT _ _ (eQ (aR _ _ _)));refine qT (cB1 hr.units) (cB2 (neg:=false)) ?_ ?_ (cE _)
 | (with_reducible show GE _ _ (aR _ _ _));refine xK (cB1 hr.units) (cB2 (neg:=false)) ?_ ?_ (cE _)
 | (with_reducible show GE _ (.BoolOp _ [_] _) _);refine dC7 ?_
 | (with_reducible show GE _ _ (xM _ _));refine dC8 ?_ ?_
 | (with_reducible show GE _ _ (qU _ _ _ _));refine aZ3 cM9 (λΓ=>iX K (by rfl) a4d a3f a4f fT (pv _) (gA ?_ Γ))
 | (with_reducible show bK9 _ [_] _);refine bQ6 ?_
 | (with_reducible show GE _ _ (dCB xU _));refine aB7 bR2 (λΓ=>cH (qJ (by rfl)) (by rfl) T.a3J vU (gA ?_ Γ))
 | (with_reducible show GI _ _ _ (cE7 _));refine dH7 (λΓ=>dH5 (by rfl) T.a3Q aL2 (gA ?_ Γ))
 | (with_reducible show GS _ _ _ (kW _ _));refine bQ4 (λΓ=>aG6 a7d (gT ?_ Γ) (gSs ?_ Γ))
 | (with_reducible show GT _ _ (bP5 _));refine dC6 ?_
 | (with_reducible show GM _ _ _ (cE9 _ _));refine bH7 ?_ ?_
 | (with_reducible show GE _ _ (dCB cM2 _));refine aB7 cM3 (λΓ=>dN aU4 (by rfl) T.a3K aL1 (gA ?_ Γ))
 | (with_reducible show GT _ _ (eQ (aR _ _ _)));refine qT (bB0 hr.units) (cB3 (neg:=true)) ?_ ?_ (by with_unfolding_all rfl)
 | (with_reducible show GE _ _ (cK0 _));refine dD1 ?_
 | (with_reducible show GT _ (.BoolOp _ _ _) _);refine GW.gt ?_
 | (with_reducible show GE _ _ (xO _ _ _ _));refine cK1 cN2 (λΓ=>iX K (by rfl) a4d F.slot_list_extend F.type_list_extend cN1 (pv _) (gA ?_ Γ))
 | (with_reducible show GS _ _ _ (lF _ (dY _ (aN (dgN 2) (aN (dgN 3) dX))) _));refine jQ (own:=[2,3]) (jP (aX (aU (by decide)) (aX (aU (by decide)) fW))) (λΓ=>fG a7d rfl (gI ?_ Γ) (dU (n:=2) K rfl rfl (aW (aP nd rfl (Or.inl rfl)) (aW (aP nd rfl (Or.inl rfl)) fS))) (gSs ?_ Γ))
 | (with_reducible show GS _ _ _ (cF _ (eM _ _ (dgN _) _ _)));refine kH (aU (by decide)) (λΓ=>fO nd rfl rfl (csc _ (by kernel_rfl)) (gI ?_ Γ) (λ_ _ _ _=>(aP nd rfl (Or.inl rfl) (.inr rfl))) (bV (by decide)) (λ_ _ _ _=>?_) (λ_ _ _ _=>gE ?_ Γ) rfl)
 | (with_reducible show GT _ _ (eQ (aR _ _ _)));refine qT (dE6 hr.units) (cB3 (neg:=false)) ?_ ?_ (by with_unfolding_all rfl)
 | (with_reducible show GE _ _ (dCB cU4 _));refine aB7 cR5 (λΓ=>cH (bH6 K (by rfl) (by rfl)) (by rfl) T.a3U bS8 (gA ?_ Γ))
 | (with_reducible show GS _ _ _ (lF _ (dY _ (aN (dgN 3) (aN (dgN 4) dX))) _));refine jQ (own:=[3,4]) (jP (aX (aU (by decide)) (aX (aU (by decide)) fW))) (λΓ=>fG a7d rfl (gI ?_ Γ) (dU (n:=2) K rfl rfl (aW (aP nd rfl (Or.inl rfl)) (aW (aP nd rfl (Or.inl rfl)) fS))) (gSs ?_ Γ))
 | (with_reducible show GE _ _ (dC .non));exact dC0
 | (with_reducible show GS _ _ _ (lF _ (dgN 3) _));refine jQ (own:=[3]) (aU (by decide)) (λΓ=>fG a7d rfl (gI ?_ Γ) (aP nd rfl (Or.inl rfl)) (gSs ?_ Γ))
 | (with_reducible show GE _ _ (aB6 (bR3 _) _));refine cB4 (c:="bool") K (by decide) (λΓ=>cH (xW K (by rfl)) (by rfl) T.a2k jU (aC (gE ?_ Γ) (aC (aT2 (v:=.ty "bool") (by rfl) T.a3O bE1 rfl) aJ)))
 | (with_reducible show GM1 _ _ _ (RS _));refine cR6 ?_
 | (with_reducible show GM _ _ _ (RS _));refine dI2 ?_
 | (with_reducible show GE _ _ (aB6 (aQ4 _) _));refine cO3 (sep:="") K (λΓ=>iX K (by rfl) F.plainAttrs_str F.slot_str_join F.type_str_join (bS1 K (by rfl)) bY0 (gA ?_ Γ))
 | (with_reducible show GS _ _ _ (bQ1 (dY _ (aN (dgN 7) (aN (dgN 8) (aN (dgN 9) dX)))) _));refine aZ6 (own:=[7,8,9]) (jP (aX (aU (by decide)) (aX (aU (by decide)) (aX (aU (by decide)) fW)))) (λΓ=>tE (gE ?_ Γ) (dU (n:=3) K rfl rfl (aW (aP nd rfl (Or.inl rfl)) (aW (aP nd rfl (Or.inl rfl)) (aW (aP nd rfl (Or.inl rfl)) fS)))))
 | (with_reducible show GS _ _ _ (lF _ (dgN 12) _));refine jQ (own:=[12]) (aU (by decide)) (λΓ=>fG a7d rfl (gI ?_ Γ) (aP nd rfl (Or.inl rfl)) (gSs ?_ Γ))
 | (with_reducible show GW _ (.BoolOp .And [_] _) _);refine cJ7 ?_
 | (with_reducible show GW _ _ (dC3 _ _));refine dC5 ?_ ?_
 | (with_reducible show GE _ _ (qU _ _ _ _));refine aZ3 cQ4 (λΓ=>iX K (by rfl) a4d F.slot_list_index F.type_list_index bH3 (pv _) (gA ?_ Γ))
 | (with_reducible show GS _ _ _ (cF _ (eM _ _ (dgN _) _ _)));refine kH (aU (by decide)) (λΓ=>fO nd rfl rfl (csc _ (by kernel_rfl)) (gI ?_ Γ) (λ_ _ _ _=>(aP nd rfl (Or.inr rfl) (.inl rfl))) (bV (by decide)) (λ_ _ _ _=>?_) (λ_ _ _ _=>gE ?_ Γ) rfl)
 | (with_reducible show GS _ _ _ (lF _ (dgN 14) _));refine jQ (own:=[14]) (aU (by decide)) (λΓ=>fG a7d rfl (gI ?_ Γ) (aP nd rfl (Or.inl rfl)) (gSs ?_ Γ))
 | (with_reducible show GE _ _ (dCB mW _));refine aB7 aF4 (λΓ=>bT5 (id:="sorted") (U:="set") (zJ rfl (dH2 hr)) (by rfl) T.a3H aD6 (by rfl) T.a3V bS7 (gA ?_ Γ))
 | (with_reducible show GE _ _ (dCB bA8 _));refine aB7 bR1 (λΓ=>cH (aU3 (by rfl)) (by rfl) T.a3S bS6 (gA ?_ Γ))
 | (with_reducible show GS _ _ _ (lF _ (dY _ (aN (dgN 10) (aN (dgN 11) dX))) _));refine jQ (own:=[10,11]) (jP (aX (aU (by decide)) (aX (aU (by decide)) fW))) (λΓ=>fG a7d rfl (gI ?_ Γ) (dU (n:=2) K rfl rfl (aW (aP nd rfl (Or.inl rfl)) (aW (aP nd rfl (Or.inr rfl)) fS))) (gSs ?_ Γ))
 | (with_reducible show GI _ _ _ (bD9 _));refine cO7 K (λΓ=>cO5 K (by rfl) (by rfl) T.a2T sP (gA ?_ Γ))
 | (with_reducible show GS _ _ _ (cF _ (eM _ _ (dY _ (aN (dgN _) (aN (dY _ (aN (dgN _) (aN (dgN _) dX))) dX))) _ _)));refine kH (jP (aX (aU (by decide)) (aX (jP (aX (aU (by decide)) (aX (aU (by decide)) fW))) fW))) (λΓ=>fO nd rfl rfl (csc _ (by kernel_rfl)) (gI ?_ Γ) (λ_ _ _ _=>(dU (n:=2) K rfl rfl (aW (aP nd rfl (Or.inl rfl) (.inr rfl)) (aW (dU (n:=2) K rfl rfl (aW (aP nd rfl (Or.inl rfl) (.inr rfl)) (aW (aP nd rfl (Or.inl rfl) (.inr rfl)) fS))) fS)))) (lX (dG (bV (by decide)) (dG (lX (dG (bV (by decide)) (dG (bV (by decide)) lR cV) cV)) lR (aS0 (uH cV (uH cV bI1)))) cV)) (λ_ _ _ _=>?_) (λ_ _ _ _=>gE ?_ Γ) rfl)
 | (with_reducible show GS _ _ _ (lF _ (dgN 4) _));refine jQ (own:=[4]) (aU (by decide)) (λΓ=>fG a7d rfl (gI ?_ Γ) (aP nd rfl (Or.inr rfl)) (gSs ?_ Γ))
 | (with_reducible show GS _ _ _ (bQ1 (dY _ (aN (dgN 2) (aN (dgN 3) dX))) _));refine aZ6 (own:=[2,3]) (jP (aX (aU (by decide)) (aX (aU (by decide)) fW))) (λΓ=>tE (gE ?_ Γ) (dU (n:=2) K rfl rfl (aW (aP nd rfl (Or.inl rfl)) (aW (aP nd rfl (Or.inl rfl)) fS))))
 | (with_reducible show GE _ _ (eM _ _ (dY _ (aN (dgN _) (aN (dgN _) dX))) _ _));refine aZ9 (jP (aX (aU (by decide)) (aX (aU (by decide)) fW))) (λΓ=>uU (csc _ (by kernel_rfl)) (gI ?_ Γ) (λ_ _ _ _=>(dU (n:=2) K rfl rfl (aW (aP nd rfl (Or.inl rfl) (.inr rfl)) (aW (aP nd rfl (Or.inl rfl) (.inr rfl)) fS)))) (lX (dG (bV (by decide)) (dG (bV (by decide)) lR cV) cV)) (λ_ _ _ _=>?_) (λ_ _ _ _=>gE ?_ Γ))
 | (with_reducible show GS _ _ _ (lF _ (dgN 5) _));refine jQ (own:=[5]) (aU (by decide)) (λΓ=>fG a7d rfl (gI ?_ Γ) (aP nd rfl (Or.inl rfl)) (gSs ?_ Γ))
 | (with_reducible show GS _ _ _ (cF _ (eM _ _ (dY _ (aN (dgN _) (aN (dgN _) dX))) _ _)));refine kH (jP (aX (aU (by decide)) (aX (aU (by decide)) fW))) (λΓ=>fO nd rfl rfl (csc _ (by kernel_rfl)) (gI ?_ Γ) (λ_ _ _ _=>(dU (n:=2) K rfl rfl (aW (aP nd rfl (Or.inl rfl) (.inr rfl)) (aW (aP nd rfl (Or.inl rfl) (.inr rfl)) fS)))) (lX (dG (bV (by decide)) (dG (bV (by decide)) lR cV) cV)) (λ_ _ _ _=>?_) (λ_ _ _ _=>gE ?_ Γ) rfl)
 | (with_reducible show GS _ _ _ (lF _ (dgN 2) _));refine jQ (own:=[2]) (aU (by decide)) (λΓ=>fG a7d rfl (gI ?_ Γ) (aP nd rfl (Or.inr rfl)) (gSs ?_ Γ))
 | (with_reducible show GT _ _ (eQ (aR _ _ _)));refine qT cI6 (dE5 (neg:=true)) ?_ ?_ (cE _)
 | (with_reducible show GS _ _ _ (aD5 _ _ _));refine bD6 (c:="NoCover") (f:="column") T.a3D T.a2M T.a3x T.a3G (λΓ=>bP2 (dB1 T.a2M T.a3v T.a3u F.excBase_ValueError GI_NoCover (hr.mono (by decide)) (by rfl) T.a3C (aQ8 T) bF (gA ?_ Γ)))
 | (with_reducible show GE _ _ (aB6 cU3 _));refine cM7 K (λΓ=>aX8 K (by rfl) F.plainAttrs_int F.slot_int_bit_length F.type_int_bit_length cM6 (gE ?_ Γ))
 | (with_reducible show GE _ _ (dIf _ _ _));refine dO0 ?_ ?_ ?_
 | (with_reducible show GE _ _ (aB6 (bR3 _) _));refine cB4 (c:="int") K (by decide) (λΓ=>cH (xW K (by rfl)) (by rfl) T.a2k jU (aC (gE ?_ Γ) (aC (aT2 (v:=.ty "int") (by rfl) T.a3K aL1 rfl) aJ)))
 | (with_reducible show GE _ _ (aZ0 _));refine dC9 ?_
 | (with_reducible show GS _ _ _ (bQ1 (dY _ (aN (dgN 4) (aN (dgN 5) dX))) _));refine aZ6 (own:=[4,5]) (jP (aX (aU (by decide)) (aX (aU (by decide)) fW))) (λΓ=>tE (gE ?_ Γ) (dU (n:=2) K rfl rfl (aW (aP nd rfl (Or.inl rfl)) (aW (aP nd rfl (Or.inl rfl)) fS))))
 | (with_reducible show GW _ (.BoolOp .Or [_] _) _);refine dC4 ?_
 | (with_reducible show GW _ _ (dOr _ _));refine dN9 ?_ ?_
 | (with_reducible show GT _ (.Compare _ [_,_] _ _) _);refine bP6 cG4 aC5 aA0 aC4 ?_ ?_ ?_
 | (with_reducible show GS _ _ _ (lF _ (dgN 10) _));refine jQ (own:=[10]) (aU (by decide)) (λΓ=>fG a7d rfl (gI ?_ Γ) (aP nd rfl (Or.inl rfl)) (gSs ?_ Γ))
 | (with_reducible show GM1 _ _ _ (aR8 _ _ _ _));refine cR7 aM2 (λΓ=>cR nd rfl (Or.inl rfl) (aK a2E (hr.mono (by decide)) (by rfl) T.a2F T.a0S.kp (sQ T) .nil bF (gA ?_ Γ)))
 | (with_reducible show GM1 _ _ _ (cU5 _ (dgN 2) _));refine dI3 (own:=[2]) (aU (by decide)) (iU lA (iU (qF aM2) lA)) (λΓ=>fG a7d rfl (gI ?_ Γ) (aP nd rfl (Or.inl rfl)) (GM.to ?_ Γ))
 | (with_reducible show GS _ _ _ (lF _ (dY _ (aN (dgN 4) (aN (dgN 5) (aN (dgN 6) (aN (dgN 7) dX))))) _));refine jQ (own:=[4,5,6,7]) (jP (aX (aU (by decide)) (aX (aU (by decide)) (aX (aU (by decide)) (aX (aU (by decide)) fW))))) (λΓ=>fG a7d rfl (gI ?_ Γ) (dU (n:=4) K rfl rfl (aW (aP nd rfl (Or.inl rfl)) (aW (aP nd rfl (Or.inl rfl)) (aW (aP nd rfl (Or.inl rfl)) (aW (aP nd rfl (Or.inl rfl)) fS))))) (gSs ?_ Γ))
 | (with_reducible show GT _ _ (dC2 _));refine bP4 ?_ (λ_=>rfl)
 | (with_reducible show GS _ _ _ (cF _ _));refine bF3 nd rfl (Or.inl rfl) ?_
 | (with_reducible show GS _ _ _ (cF _ _));refine bF3 nd rfl (Or.inr rfl) ?_
 | (with_reducible show GT _ _ (eQ _));refine dC1 ?_)
def aS1(T:Txt K mg a):FnOk P w K mg base CX0 1 a.a3q a.a1W ["_law_script","_law_k"] (dsp 2 gB):=by
 refine cA T.a2p uE (by decide) iJ (λcdv A outer s H E hr=>?_);have nd:=uE.nd;unfold iJ;walk_at "k"
def eN(T:Txt K mg a):FnOk P w K mg base CX0 1 a.a2o a.a1l ["_law_box_here","_law_many"] (dsp 2 aG):=by
 refine cA T.a0l iT (by decide) gC (λcdv A outer s H E hr=>?_);have nd:=iT.nd;unfold gC;walk_at "k"
def zM(T:Txt K mg a):FnOk P w K mg base CX0 2 a.a1N a.a0R ["_law_box_here","_law_many"] (dsp 2 fN):=by
 have a0M:=@eN P w K mg base a T;refine cA T.a1m oU (by decide) eW (λcdv A outer s H E hr=>?_);have nd:=oU.nd;unfold eW;walk_at "k"
def gW(T:Txt K mg a):FnOk P w K mg base CX0 1 a.a1E a.a0T ["_law_question_here"] (dsp 1 bP):=by
 refine cA T.a0Y kY (by decide) dA (λcdv A outer s H E hr=>?_);have nd:=kY.nd;unfold dA;walk_at "k"
def zN(T:Txt K mg a):FnOk P w K mg base CX0 2 a.a2v a.a1A ["_law_box_here","_law_span"] (dsp 2 cK):=by
 have a0M:=@eN P w K mg base a T;refine cA T.a1G oW (by decide) eX (λcdv A outer s H E hr=>?_);have nd:=oW.nd;unfold eX;walk_at "k"
def zO(T:Txt K mg a):FnOk P w K mg base CX0 3 a.a2D a.a1v ["_law_box_here","_law_question_here","_law_ceiling"] (dsp 3 eC):=by
 have a0Z:=@gW P w K mg base a T;have a0M:=@eN P w K mg base a T;have a3k:=@zN P w K mg base a T;refine cA T.a1L oX (by decide) eY (λcdv A outer s H E hr=>?_);have nd:=oX.nd;unfold eY;walk_at "k"
def zP(T:Txt K mg a):FnOk P w K mg base CX0 2 a.a2B a.a1t ["_law_box_here","_law_question_here"] (dsp 2 eD):=by
 have a0M:=@eN P w K mg base a T;have a0Z:=@gW P w K mg base a T;refine cA T.a1I oY (by decide) eZ (λcdv A outer s H E hr=>?_);have nd:=oY.nd;unfold eZ;walk_at "k"
def mZ(T:Txt K mg a):FnOk P w K mg base CX0 3 a.a0P a.a0w ["_law_box_here","_law_question_here"] (dsp 2 bQ):=by
 have a3s:=@zP P w K mg base a T;have a0M:=@eN P w K mg base a T;refine cA T.a0C gJ (by decide) bW (λcdv A outer s H E hr=>?_);have nd:=gJ.nd;unfold bW;walk_at "k"
def sY(T:Txt K mg a):FnOk P w K mg base CX0 1 a.a1C a.a0W ["_law_house_here","_law_numbers"] (dsp 2 cT):=by
 refine cA T.a1o kZ (by decide) dB (λcdv A outer s H E hr=>?_);have nd:=kZ.nd;unfold dB;walk_at "k"
def nA(T:Txt K mg a):FnOk P w K mg base CX0 1 a.a0r a.a1n ["question"] (dsp 1 cM):=by
 refine cA T.a1x mP (by decide) eE (λcdv A outer s H E hr=>?_);have nd:=mP.nd;unfold eE;walk_at "k"
def nB(T:Txt K mg a):FnOk P w K mg base CX0 2 a.a0m a.a0B ["question","shares"] (dsp 2 bR):=by
 have a1Z:=@nA P w K mg base a T;refine cA T.a0G gK (by decide) bX (λcdv A outer s H E hr=>?_);have nd:=gK.nd;unfold bX;walk_at "k"
def sZ(T:Txt K mg a):FnOk P w K mg base (CXo P w) 3 a.a0p a.a0L ["question","shares"] (dL2 K 2 gU):=by
 have a1V:=@nB P w K mg base a T;have GI_NoCover:=@yZ P w K mg base a T;refine cO6 T.a1p mQ (by decide) eF (λcdv A outer s H E hr=>?_);have nd:=mQ.nd;unfold eF;walk_at "k"
def nE(T:Txt K mg a):FnOk P w K mg base CX0 3 a.a0p a.a0L ["question","shares"] (dsp 2 cN):=noX (sZ T)
def lJ(T:Txt K mg a):FnOk P w K mg base CX0 1 a.a0A a.a1J ["number","power"] (dsp 2 bA):=by
 refine cA T.a1P rU (by decide) gD (λcdv A outer s H E hr=>?_);have nd:=rU.nd;unfold gD;walk_at "k"
def cS1(T:Txt K mg a):FnOk P w K mg base CX0 2 a.root a.a2Y ["number","power"] (dsp 2 mX):=by
 have a1X:=@lJ P w K mg base a T;refine cA T.a3F bE2 (by decide) sG (λcdv A outer s H E hr=>?_);have nd:=bE2.nd;unfold sG;walk_at "k"
def gN(T:Txt K mg a):FnOk P w K mg base CX0 2 a.a0n a.a0z ["house","shares"] (dsp 2 bC):=by
 have a1X:=@lJ P w K mg base a T;refine cA T.a0H gL (by decide) bY (λcdv A outer s H E hr=>?_);have nd:=gL.nd;unfold bY;walk_at "k"
def cS2(T:Txt K mg a):FnOk P w K mg base CX0 4 a.most a.a2Z ["question","house","shares"] (dsp 3 mY):=by
 have a2l:=@nE P w K mg base a T;have a3P:=@cS1 P w K mg base a T;have a0X:=@gN P w K mg base a T;refine cA T.a3B bE3 (by decide) sH (λcdv A outer s H E hr=>?_);have nd:=bE3.nd;unfold sH;walk_at "k"
def zQ(T:Txt K mg a):FnOk P w K mg base CX0 1 a.a2z a.a1s ["_law_found"] (dsp 1 eG):=by
 refine cA T.a1F pA (by decide) fA (λcdv A outer s H E hr=>?_);have nd:=pA.nd;unfold fA;walk_at "k"
def pG(T:Txt K mg a):FnOk P w K mg base CX0 1 a.a2w a.a1z ["_law_number","_law_times"] (dsp 2 bL):=by
 refine cA T.a1M pB (by decide) jX (λcdv A outer s H E hr=>?_);have nd:=pB.nd;unfold jX;walk_at "k"
def aF7(T:Txt K mg a):FnOk P w K mg base CX0 2 a.a2H a.a1K ["_law_number","_law_power_here"] (dsp 2 dL):=by
 have a2t:=@pG P w K mg base a T;refine cA T.a1Q rV (by decide) gF (λcdv A outer s H E hr=>?_);have nd:=rV.nd;unfold gF;walk_at "k"
def zR(T:Txt K mg a):FnOk P w K mg base CX0 1 a.a2r a.a1w ["_law_found","_law_due"] (dsp 2 eI):=by
 refine cA T.a1B pC (by decide) fB (λcdv A outer s H E hr=>?_);have nd:=pC.nd;unfold fB;walk_at "k"
def zS(T:Txt K mg a):FnOk P w K mg base CX0 4 a.a0s a.a1u ["question","house","shares","looks"] (dsp 4 eJ):=by
 have a2l:=@nE P w K mg base a T;have a1Z:=@nA P w K mg base a T;have a1X:=@lJ P w K mg base a T;have a0X:=@gN P w K mg base a T;refine cA T.a1D pD (by decide) fC (λcdv A outer s H E hr=>?_);have nd:=pD.nd;unfold fC;walk_at "k"
def zT(T:Txt K mg a):FnOk P w K mg base CX0 5 a.a2A a.a1y ["_law_question_here","_law_house_here","_law_shares","_law_drawn"] (dsp 4 cW):=by
 have a2G:=@sY P w K mg base a T;have a3M:=@cS2 P w K mg base a T;have a2V:=@zQ P w K mg base a T;have a2t:=@pG P w K mg base a T;have a0Z:=@gW P w K mg base a T;have a3w:=@aF7 P w K mg base a T;have a2R:=@zR P w K mg base a T;have a3r:=@zS P w K mg base a T;refine cA T.a1H pE (by decide) fD (λcdv A outer s H E hr=>?_);have nd:=pE.nd;unfold fD;walk_at "k"
def dI5(T:Txt K mg a)(a2E:FnOk P w K mg base CX0 5 a.a0Q a.a0x ["_law_box_here","_law_kind"] (bQ8 2 cQ1)):FnOk P w K mg base CX0 6 a.law a.a3I ["_law_script"] (bQ8 1 sI):=by
 have a3E:=@aS1 P w K mg base a T;have a3p:=@zO P w K mg base a T;have a0M:=@eN P w K mg base a T;have a1Y:=@mZ P w K mg base a T;have a3l:=@zT P w K mg base a T;refine bA1 T.a3T cD5 (by decide) uI aF6 (λcdv A outer s H E hr=>GM.to ?_);have nd:=cD5.nd;unfold uI;walk_at "k"
end
local macro_rules | `(tactic| walk_at "d")=>do
 let l:=("dK9 tQ tR tS tT aI8 xY bB2 xZ tU yA tV tW yB bB3 bB4 dF0 cB5 vK vL dF1 yC qY qZ rA yD aI9 bB5 cB6 yE bB6 yF bB7 vM tX yG bB8 rB yH aJ0 tY aJ1 yI yJ cD8 yK yL tZ vN aC7 yM cB7 yN yO cB8 yP bB9 bC0 aQ3 rC kJ oA vO aJ9 aK0 aK1 aK2 cC3 aK3 cC4 rZ bC2 aK4 vR kK iI bF4 bE0 aK5 aD0 aD1 bC4 bC5 bC6 bC7 cC5 cO0 dF7 cO1 dF8 aK6 cC6 aD2 aD3 vS bC8 bC9 bD0 bR9 cC7 cC8 bD1 aK7 bS0 aK8 dL0 aK9 aY bD2 bD3 cC9 cD0 aJ3 aJ4 aJ5 cC0 aJ6 cC1 bC1 aC8 aC9 vP aJ7 aJ8 reduceIte".splitOn " ").toArray.map fun s=>Lean.mkIdent s.toName
 let m:=("cD1 bD4 cD2 cO2 dG0 Int.reducePow Int.reduceNeg Int.reduceLT Int.reduceLE Nat.reducePow Nat.reduceLT Int.reduceToNat Nat.reduceLeDiff yS yQ bD5 yR rE rF vQ List.set_cons_zero List.set_cons_succ dJ bA2 List.length_cons List.length_nil Nat.reduceAdd Nat.zero_add true_and and_true and_self Bool.not_false Bool.not_true Bool.false_eq_true Bool.true_and Bool.and_true Bool.or_false decide_eq_true_eq".splitOn " ").toArray.map fun s=>Lean.mkIdent s.toName
 `(tactic| simp only[$[↓$l:ident],*,$[$m:ident],*])
def sl2:(2<=sizeLine):=by decide
def bS{a b m:Int}(h:0 < m)(c:m < 18446744073709551616){K:Res->List Sl->Prop}(k:∀ d e f,0<=d->d < m->K (.val (.int d)) [⟨.par,.lst [.int e,.int f]⟩,⟨.val,.int m⟩]):CK aG [⟨.par,.lst [.int a,.int b]⟩,⟨.val,.int m⟩] K:=by
 unfold aG;rw[cZ];show RS gC [_,_,none,none] _;unfold gC;walk_at "d";rw[cO2 h c];split;exact⟨h,True.intro,k _ _ _ (a7h _ (by lia)) (a4g _ h)⟩;exact⟨h,k _ _ _ (a7h _ (by lia)) (a4g _ h)⟩
def bI3{ns:List Int}{i:Int}(h0:0<=i)(a:i < (ns.length:Int)):∃ c,atI (ns.map D.int) i=some (.int c):=by
 obtain⟨c,b⟩:=lT (ys:=ns) h0 a;exact⟨c,by rw[lB,b];rfl⟩
def dI6{ns:List Int}{n:Int}(h0:0<=n)(e:n < 1000){K:Res->List Sl->Prop}(k:∀ a b,K (.own (.lst [.int a,.int b])) [⟨.val,.lst (ns.map D.int)⟩,⟨.val,.int n⟩]):CK gB [⟨.val,.lst (ns.map D.int)⟩,⟨.val,.int n⟩] K:=by
 unfold gB;rw[cZ];show RS iJ [_,_,none,none] _;unfold iJ;walk_at "d";split;rename_i d;obtain⟨c,d⟩:=bI3 (ns:=ns) h0 (by simpa using d);rw[d];walk_at "d";exact⟨sl2,k _ _⟩;split;rename_i d;refine⟨d,?_⟩;obtain⟨c,d⟩:=bI3 (ns:=ns) (i:=n % ((ns.map D.int).length:Int)) (a7h _ (by lia)) (by have:=a4g n d;simpa using this);rw[d];walk_at "d";exact⟨sl2,k _ _⟩;exact⟨sl2,k _ _⟩
def kO{lo:Int}{n i:Nat}{d:D}(h:(aS8 lo n)[i]? = some d):i < n/\d=.int (lo+i):=by
 unfold aS8 at h;rw[a6b]at h;cases e:(List.range n)[i]? with
 | none=>rw[e]at h;cases h
 | some k=>
   rw[e]at h;obtain⟨hi,a⟩:=a3a.mp e;rw[List.length_range]at hi;rw[List.getElem_range]at a;subst a;exact⟨hi,(a5a h).symm⟩
def dF(lo:Int)(n:Nat):(aS8 lo n).length=n:=by simp[aS8]
def jK{a:Type}{l:List a}{i:Int}{c:a}(h:atI l i=some c):c∈l:=by
 unfold atI at h;obtain⟨j,_,b⟩:=bind_some h;exact a4b b
def Tx(z:Str):Prop:=z.length<=100/\∀ c∈z.cps.toList,c < 128
theorem cF0{z:Str}{lo hi:Option Int}{K:Res->Prop}:SK (.str z) lo hi K=(z.length<=sizeLine/\K (.val (.str (Txt.slice z lo hi)))):=by
 show OK1 (if _ then _ else none) K=_;rw[bD];rfl
theorem bI4{z:Str}{i:Int}{K:Res->Prop}:OK1 (lM (.str z) (.int i)) K=((z.length<=1000/\0<=i/\i<=1000)/\K (.val (.str (Txt.mul z i)))):=by
 unfold lM;dsimp only;rw[bD];rfl
theorem bU3{i:Nat}{σ a:Sg}:kQ [i] σ a=a.set i (σ[i]?.getD none):=rfl
def aM3:(Str.ofString "abcdefghijklmnopqrstuvwxyz").cps.toList.length=26:=by decide
def jL(z:Str):z.length=z.cps.toList.length:=by show z.cps.size=_;simp
def bI5(x y:Str):(x++y).cps.toList=x.cps.toList++y.cps.toList:=by show(x.cps++y.cps).toList=_;simp
theorem jY(x y:Str):(x++y).length=x.length+y.length:=by rw[jL,jL,jL,bI5,a0c]
def As(z:Str):Prop:=∀ c∈z.cps.toList,c < 128
def bI6{x y:Str}(b:As x)(d:As y):As (x++y):=by
 intro c a;rw[bI5]at a;rcases a1c.mp a with h | h;exact b c h;exact d c h
def qG{z:Str}(h:As z)(lo hi:Option Int):As (Txt.slice z lo hi):=by
 intro c a;unfold Txt.slice at a;split at a;exact h c a;simp only[List.mem_filterMap]at a;obtain⟨i,_,hi⟩:=a;exact h c (Array.mem_toList_iff.mpr (Array.mem_of_getElem? hi))
theorem slice_le(z:Str)(lo hi:Option Int):(Txt.slice z lo hi).length<=z.length:=Txt.slice_le z lo hi
def aF8{z:Str}(h:As z):iS (.str z)=true:=by
 unfold iS;rw[a6d];refine⟨?_,rfl⟩;show PyData.strOk z=true;unfold PyData.strOk;rw[← Array.all_toList,a8j];intro c a;have:=h c a;simp;lia
def bU4(d:D)(l:List D):iS d=true->iS (.lst l)=true->(pL d).depth<=59->iS (.lst (d::l))=true:=by
 intro a b f;obtain⟨a1,g⟩:=eS a;obtain⟨a2,c⟩:=eS b;unfold iS;rw[a6d,a4o];have e:(pL (.lst (d::l))).canLay0=((pL d).canLay0&&(pL (.lst l)).canLay0):=by
  simp only[pL,toPys,PyData.canLay0,PyData.canLayAll0]
 refine⟨by rw[e,a1,a2];rfl,?_⟩;simp only[pL,toPys,PyData.depth,PyData.depthAll]at c ⊢;lia
theorem wG:∀ {zs:List Str},(∀ z∈zs,As z)->iS (.lst (zs.map D.str))=true
 | [],_=>rfl
 | z::r,h=>bU4 _ _ (aF8 (h z a6a)) (wG λy a=>h y (a7a _ a)) (by show PyData.depth (.str z)<=59;simp[PyData.depth])
local macro_rules | `(tactic| walk_at "d")=>do
 let l:=("dK9 tQ tR tS tT aI8 xY bB2 xZ tU yA tV tW yB bB4 vK vL yC qY qZ rA yD aI9 bB5 yE bB6 yF vM tX yG bB8 rB yH aJ0 tY aJ1 yI yJ yK yL tZ vN yM yN yO yP bB9 bC0 aQ3 kJ oA vO aJ9 aK0 aK1 aK2 aK3 rZ aK4 vR kK bF4 bT7 aK5 aD0 aD1 bC5 bC7 aK6 vS bR9 bD1 aK7 bS0 aK8 dL0 aK9 cF0 bI4 aY aJ3 aJ4 aJ5 aJ6 aC9 vP aJ7 aJ8 reduceIte".splitOn " ").toArray.map fun s=>Lean.mkIdent s.toName
 let m:=("bU3 List.getElem?_cons_succ List.getElem?_cons_zero Option.getD_some bD4 Int.reducePow Int.reduceNeg Int.reduceLT Int.reduceLE Nat.reducePow Nat.reduceLT Int.reduceToNat Nat.reduceLeDiff yS yQ bD5 yR rE rF vQ List.set_cons_zero List.set_cons_succ dJ bA2 List.length_cons List.length_nil Nat.reduceAdd Nat.zero_add true_and and_true and_self Bool.not_false Bool.not_true Bool.false_eq_true Bool.true_and Bool.and_true Bool.or_false decide_eq_true_eq".splitOn " ").toArray.map fun s=>Lean.mkIdent s.toName
 `(tactic| simp only[$[↓$l:ident],*,$[$m:ident],*])
theorem bI7:∀ (zs:List Str),(∀ z∈zs,z.length<=1)->(zs.map (·.length)).sum<=zs.length
 | [],_=>by simp
 | z::r,h=>by
   have b:=h z a6a;have c:=bI7 r λy a=>h y (a7a _ a);simp only[List.map_cons,List.sum_cons,List.length_cons];lia
def bI8{e:Int}(b:0<=e)(d:e < 26):∃ c,atI (Str.ofString "abcdefghijklmnopqrstuvwxyz").cps.toList e=some c/\c < 128:=by
 obtain⟨c,a⟩:=lT (ys:=(Str.ofString "abcdefghijklmnopqrstuvwxyz").cps.toList) b (by rw[aM3];exact d);exact⟨c,a,aY7 c (jK a)⟩
def aM4{c:Nat}(h:c < 128):As ⟨#[c]⟩:=by
 intro x a;have:x=c:=by simpa using a
 subst this;exact h
def dP7{k:Int}(h0:0<=k)(i:k < 24):∃ (z:Str) (p q r:Nat),Txt.slice (Txt.slice (Str.ofString "abcdefghijklmnopqrstuvwxyz") (some k) none) none (some 3)=z/\z.length=3/\kU z=[.str ⟨#[p]⟩,.str ⟨#[q]⟩,.str ⟨#[r]⟩]/\p < 128/\q < 128/\r < 128:=by
 have c:(Str.ofString "abcdefghijklmnopqrstuvwxyz").length=26:=by decide
 have g:=aO9 (x:=Str.ofString "abcdefghijklmnopqrstuvwxyz") h0 (by rw[c];lia);have a:=qG (qG (z:=Str.ofString "abcdefghijklmnopqrstuvwxyz") aY7 (some k) none) none (some 3);have hl:(Txt.slice (Str.ofString "abcdefghijklmnopqrstuvwxyz") (some k) none).length=26-k.toNat:=by
  rw[jL,g,a0i,aM3]
 have h:=bN8 (x:=Txt.slice (Str.ofString "abcdefghijklmnopqrstuvwxyz") (some k) none) (j:=3) (by decide) (by rw[hl];lia);have b:=jL (Txt.slice (Txt.slice (Str.ofString "abcdefghijklmnopqrstuvwxyz") (some k) none) none (some 3));rw[h,a3d,← jL,hl]at b;revert a b;generalize Txt.slice (Txt.slice (Str.ofString "abcdefghijklmnopqrstuvwxyz") (some k) none) none (some 3)=z;intro a b;have d:z.length=3:=by rw[b];show min 3 _=3;lia
 have e:=jL z;rw[d]at e;unfold As at a
 match f:z.cps.toList,e with
 | [p,q,r],_=>
   rw[f]at a;exact⟨z,p,q,r,rfl,d,by unfold kU;rw[f];rfl,a p (by simp),a q (by simp),a r (by simp)⟩
def tx1{c:Nat}(h:c < 128):Tx ⟨#[c]⟩:=⟨by show 1<=100;decide,aM4 h⟩
def aM5{x y:Str}{m n:Nat}(a:x.length<=m/\As x)(b:y.length<=n/\As y):(x++y).length<=m+n/\As (x++y):=⟨by rw[jY];lia,bI6 a.2 b.2⟩
theorem len1(c:Nat):Str.length ⟨#[c]⟩=1:=rfl
def bU5{e:Int}(h0:0<=e)(a:e < 11):∃ z:Str,atI ([D.str "table",D.str "tree",D.str "none",D.str "answer",D.str "levels",D.str "looks"]++[D.str "at",D.str "count",D.str "ears",D.str "cover",D.str "place"]) e=some (.str z)/\Tx z:=by
 have:e=0\/e=1\/e=2\/e=3\/e=4\/e=5\/e=6\/e=7\/e=8\/e=9\/e=10:=by lia
 rcases this with rfl | rfl | rfl | rfl | rfl | rfl | rfl | rfl | rfl | rfl | rfl<;>exact⟨_,rfl,by unfold Tx;decide⟩
def aF9(ys:List Str)(j:Nat)(z:Str):(ys.map D.str).set j (.str z)=(ys.set j z).map D.str:=by rw[List.map_set]
def dI7{n:Nat}{k:Int}(h0:0<=k)(a:k < n){K:Nat->Prop}(q:∀ j,j < n->K j):OK1 (ixN n k) K:=by
 obtain⟨m,rfl⟩:∃ m:Nat,k=m:=⟨k.toNat,by lia⟩;have e:ixN n (m:Int)=some m:=by
  unfold ixN;rw[a3Y (by lia),a3Y (by lia)];simp
 rw[e];exact q m (by lia)
def dI8{m:Int}(h:m=0\/m=1):(Txt.mul "z" m).length<=1/\As (Txt.mul "z" m):=by
 rcases h with rfl | rfl;exact⟨by decide,by unfold As;decide⟩;exact⟨by decide,by unfold As;decide⟩
def zm2(p:Prop)[Decidable p]:(if p then(1:Int)else 0)=0\/(if p then(1:Int)else 0)=1:=by
 split;exact .inr rfl;exact .inl rfl
def cF1{neg:Bool}{z:Str}{zs:List Str}(hz:As z)(h:∀ z∈zs,As z){K:Res->Prop}(k:K (.val (.bl (if neg=true then !zs.contains z else zs.contains z)))):OK1 (inD neg (.str z) (.lst (zs.map D.str))) K:=by
 show OK1 (if _ then _ else none) K;rw[bD];refine⟨⟨aF8 hz,wG h⟩,?_⟩;have e:((zs.map D.str).any λy=>aI7 y (.str z))=zs.contains z:=by
  rw[List.any_map,List.contains_eq_any_beq];congr 1;funext y;show(y==z)=(z==y);rw[a5f,a4p,a4p,eq_comm]
 rw[e];exact k
def dI9{A B s t:Str}{c d:Nat}(h:c≠d):A++⟨#[c]⟩++B++s≠A++⟨#[d]⟩++B++t:=by
 intro e;have a:(A.cps++#[c]++B.cps++s.cps)[A.cps.size]? = (A.cps++#[d]++B.cps++t.cps)[A.cps.size]?:=a4u (λz:Str=>z.cps[A.cps.size]?) e;rw[a8i,a8i,a8i,a8i,Array.getElem?_append_right (a4a _),Array.getElem?_append_right (a4a _),Nat.sub_self]at a;rw[Array.getElem?_append_left (by simp),Array.getElem?_append_left (by simp)]at a;exact h (a5a a)
def cS3{e:Int}(h0:0<=e)(f:e < 26){c d:Nat}(b:atI (Str.ofString "abcdefghijklmnopqrstuvwxyz").cps.toList ((e+5*(0+((0:Nat):Int))) % 26)=some c)(hd:atI (Str.ofString "abcdefghijklmnopqrstuvwxyz").cps.toList ((e+5*(0+((1:Nat):Int))) % 26)=some d):c≠d:=by
 have a:∀ n:Fin 26,atI (Str.ofString "abcdefghijklmnopqrstuvwxyz").cps.toList ((((n.1:Nat):Int)+5*(0+((0:Nat):Int))) % 26)≠atI (Str.ofString "abcdefghijklmnopqrstuvwxyz").cps.toList ((((n.1:Nat):Int)+5*(0+((1:Nat):Int))) % 26):=by decide
 obtain⟨n,rfl⟩:∃ n:Nat,e=n:=⟨e.toNat,by lia⟩;intro z;subst z;exact a ⟨n,by lia⟩ (b.trans hd.symm)
def cS4{ys:List Str}(h:Ne2 ys){w:Str}(a:ys.contains w=false)(j:Nat):Ne2 (ys.set j w):=by
 obtain⟨x,y,r,rfl,e⟩:=h;have b:w≠x:=λz=>by rw[z]at a;simp at a
 have c:w≠y:=λz=>by rw[z]at a;simp at a
 match j with
 | 0=>exact⟨w,y,r,rfl,c⟩
 | 1=>exact⟨x,w,r,rfl,b.symm⟩
 | j+2=>exact⟨x,y,r.set j w,rfl,e⟩
def bU6{a b:Int}{K:Res->List Sl->Prop}(k:∀ (zs:List Str) F G,zs.length=6->(∀ z∈zs,Tx z)/\Ne2 zs->K (.own (.lst (zs.map D.str))) [⟨.par,.lst [.int F,.int G]⟩,⟨.val,.int 6⟩]) :
  CK fN [⟨.par,.lst [.int a,.int b]⟩,⟨.val,.int 6⟩] K:=by
 unfold fN;rw[cZ];show RS eW [_,_,none,none,none,none,none,none,none,none,none,none,none,none,none] _;unfold eW;walk_at "d";refine bS (by decide) (by decide) λn a1 b1 n0 n5=>?_;walk_at "d";refine⟨by lia,by rw[dF];exact a8b (by lia:n.toNat<=5) (by decide),?_⟩;refine eV _ _ (λi acc τ=>i<=5/\∃ (zs:List Str) (F G:Int),acc=zs.map D.str/\zs.length=i/\(∀ z∈zs,z.length<=1/\As z)/\τ=[some ⟨.par,.lst [.int F,.int G]⟩,some ⟨.val,.int 6⟩,some ⟨.val,.str "abcdefghijklmnopqrstuvwxyz"⟩,none,none,none,none,none,none,none,none,none,none,none,none]) ⟨by lia,[],a1,b1,rfl,rfl,by simp,rfl⟩ ?_ ?_;rintro i d acc τ hd ⟨_,zs,F,G,rfl,hl,u,rfl⟩;obtain⟨hi,rfl⟩:=kO hd;walk_at "d";refine bS (by decide) (by decide) λe a2 b2 O P=>?_;walk_at "d";refine⟨by decide,?_⟩;obtain⟨c,J,L⟩:=bI8 O P;rw[J];walk_at "d";refine⟨_,rfl,by lia,zs++[⟨#[c]⟩],a2,b2,by rw[a2e];rfl,by rw[a0c,hl];rfl,?_,rfl⟩;intro z Q;rcases a1c.mp Q with h | h;exact u z h;rw[a3b]at h;subst h;exact⟨a4a 1,aM4 L⟩;rintro acc τ ⟨h5,zs,F,G,rfl,hl,u,rfl⟩;have hs:=bI7 zs λz h=>(u z h).1;rw[cO4];refine⟨by simp only[show(Str.ofString "").length=0 by decide];lia,?_⟩;have M:=aB5 (m:=128) (sep:=Str.ofString "") (by decide) zs λz h=>(u z h).2;have A:(Txt.join (Str.ofString "") zs).length<=5:=by
  refine a8b (cI0 _ _) ?_;simp only[show(Str.ofString "").length=0 by decide];lia
 revert M A;generalize Txt.join (Str.ofString "") zs=x;intro M A;have R:x.length<=sizeLine:=a8b A (by decide);walk_at "d";rw[cP4 R];walk_at "d";refine bS (by lia) (by lia) λf a2 b2 k10 k11=>?_;walk_at "d";refine bS (by lia) (by lia) λN a3 b3 S T=>?_;walk_at "d";refine bS (by lia) (by lia) λk3 a4 b4 k30 k31=>?_;walk_at "d";split;refine bS (by lia) (by lia) λk4 a5 b5 B C=>?_;walk_at "d";obtain⟨z,p,q,r,e,U,es,V,W,hr⟩:=dP7 B C;rw[e,es];refine⟨by decide,a8b (slice_le _ _ _) (by decide),U,?_⟩;walk_at "d";simp only[jY,len1];refine⟨by decide,by decide,by decide,by decide,by decide,by decide,by decide,by decide,by decide,?_⟩;have tp:=tx1 V;have tq:=tx1 W;have tr:=tx1 hr;have l1:∀ {c:Nat},c < 128->Str.length ⟨#[c]⟩<=1/\As ⟨#[c]⟩:=λh=>⟨a4a 1,aM4 h⟩;have X:∀ {x:Str} {n:Nat},n<=100->x.length<=n/\As x->Tx x:=λhn h=>⟨a8b h.1 hn,h.2⟩;refine k [⟨#[p]⟩,⟨#[p]⟩++⟨#[q]⟩,⟨#[q]⟩,⟨#[q]⟩++⟨#[r]⟩,⟨#[r]⟩,⟨#[p]⟩++⟨#[r]⟩] _ _ rfl ⟨?_,_,_,_,rfl,λz=>absurd (a4u Str.length z) (by rw[jY,len1,len1];decide)⟩;intro z u;simp only[List.mem_cons,List.not_mem_nil,or_false]at u;rcases u with rfl | rfl | rfl | rfl | rfl | rfl;exact tp;exact X (by decide) (aM5 (l1 V) (l1 W));exact tq;exact X (by decide) (aM5 (l1 W) (l1 hr));exact tr;exact X (by decide) (aM5 (l1 V) (l1 hr));refine⟨a7c _,?_⟩;refine fE (λi τ=>i<=6/\∃ (ys:List Str) (H o2:Option Sl),((H=none/\o2=none)\/∃ d e,H=some ⟨.val,d⟩/\o2=some ⟨.val,e⟩)/\ys.length=i/\((∀ y∈ys,Tx y)/\(∀ (j:Nat) y,ys[j]? = some y->∃ c t,y=Txt.slice x none (some f)++⟨#[c]⟩++Txt.slice x (some f) none++t/\atI (Str.ofString "abcdefghijklmnopqrstuvwxyz").cps.toList ((N+5*(0+(j:Int))) % 26)=some c))/\τ=[some ⟨.par,.lst [.int a4,.int b4]⟩,some ⟨.val,.int 6⟩,some ⟨.val,.str "abcdefghijklmnopqrstuvwxyz"⟩,some ⟨.val,.str x⟩,some ⟨.val,.int f⟩,some ⟨.val,.int N⟩,some ⟨.val,.int k3⟩,none,none,none,none,some ⟨.own,.lst (ys.map D.str)⟩,H,o2,none]) ⟨by lia,[],none,none,.inl ⟨rfl,rfl⟩,rfl,⟨by simp,by simp⟩,rfl⟩ ?_ ?_
 ·rintro i d τ hd ⟨_,ys,H,o2,Y,s,⟨g,o⟩,rfl⟩;obtain⟨hi,rfl⟩:=kO hd;obtain⟨c,J,L⟩:=bI8 (e:=(N+5*(0+(i:Int))) % 26) (a7h _ (by decide)) (a4g _ (by decide));have l1:=slice_le x none (some f);have l2:=slice_le x (some f) none;have g1:=qG (z:=x) M none (some f);have g2:=qG (z:=x) M (some f) none;have sl:100<=sizeLine:=by decide
  have done:∀ (w:Str) (t:Str) ,(w.length<=20/\As w)->(t.length<=1/\As t)->Tx (w++t):=λw t Z ht=>by
   have:=aM5 Z ht;exact⟨by lia,this.2⟩
  have v:∀ t:Str,∀ (j:Nat) y,(ys++[Txt.slice x none (some f)++⟨#[c]⟩++Txt.slice x (some f) none++t])[j]? = some y->∃ c t,y=Txt.slice x none (some f)++⟨#[c]⟩++Txt.slice x (some f) none++t/\atI (Str.ofString "abcdefghijklmnopqrstuvwxyz").cps.toList ((N+5*(0+(j:Int))) % 26)=some c:=λt j y h=>by
   rcases Nat.lt_or_ge j ys.length with l | l;rw[a8f l]at h;exact o j y h;rw[a6f l]at h;have hj:j=i:=by
    have:=(a3a.mp h).1;simp only[List.length_cons,List.length_nil]at this;lia
   subst hj;rw[s,Nat.sub_self]at h;cases h;exact⟨c,t,rfl,J⟩
  rcases Y with⟨rfl,rfl⟩ | ⟨d,e,rfl,rfl⟩
  all_goals
   walk_at "d";rw[J];walk_at "d";have z1:=dI8 (zm2 ((0+(i:Int)) % 2=1));have z0:=dI8 (m:=0) (.inl rfl);have zi:=zm2 ((0+(i:Int)) % 2=1);have w0:(Txt.slice x none (some f)++⟨#[c]⟩++Txt.slice x (some f) none).length<=20/\As (Txt.slice x none (some f)++⟨#[c]⟩++Txt.slice x (some f) none):=by
    refine⟨?_,bI6 (bI6 g1 (aM4 L)) g2⟩;rw[jY,jY,len1];lia
   simp only[jY,len1]at w0 ⊢;revert zi z1;generalize (if(0+(i:Int)) % 2=1 then(1:Int)else 0)=zz;intro z1 zi;refine⟨by lia,by decide,by lia,by lia,by lia,?_⟩;have I:(List.map D.str ys).length < sizeLine:=by rw[a1a];lia
   split;refine⟨⟨by decide,by lia,by lia⟩,by lia,I,_,.inl rfl,by lia,ys++[_],_,_,.inr ⟨_,_,rfl,rfl⟩,by rw[a0c,s];rfl,⟨?_,v _⟩,by rw[a2e];rfl⟩;intro y h;rcases a1c.mp h with h | h;exact g y h;rw[a3b]at h;subst h;exact done _ _ ⟨by simp only[jY,len1];exact w0.1,w0.2⟩ z1;refine⟨by decide,by lia,I,_,.inl rfl,by lia,ys++[_],_,_,.inr ⟨_,_,rfl,rfl⟩,by rw[a0c,s];rfl,⟨?_,v _⟩,by rw[a2e];rfl⟩;intro y h;rcases a1c.mp h with h | h;exact g y h;rw[a3b]at h;subst h;exact done _ _ ⟨by simp only[jY,len1];exact w0.1,w0.2⟩ z0
 ·rintro τ ⟨_,ys,H,o2,Y,s,⟨g,o⟩,rfl⟩;rw[dF]at s;have E:Ne2 ys:=by
   match ys,s,o with
   | y0::y1::r,_,o=>
     obtain⟨c0,t0,O,f0⟩:=o 0 y0 rfl;obtain⟨L,t1,P,f1⟩:=o 1 y1 rfl;exact⟨y0,y1,r,rfl,by rw[O,P];exact dI9 (cS3 S T f0 f1)⟩
  have hya:∀ z∈ys,As z:=λz h=>(g z h).2;rcases Y with⟨rfl,rfl⟩ | ⟨d,e,rfl,rfl⟩
  all_goals
   walk_at "d";refine⟨by decide,by decide,by decide,bS (by lia) (by lia) λk4 a5 b5 B C=>?_⟩;obtain⟨w,Z,tw⟩:=bU5 B C;walk_at "d";rw[Z];walk_at "d";refine bS (by lia) (by lia) λk5 a6 b6 k50 k51=>?_;walk_at "d";split
   ·refine cF1 tw.2 hya ?_;walk_at "d";split;rename_i hin;refine bS (by lia) (by lia) λk6 a7 b7 k60 k61=>?_;walk_at "d";refine dI7 k60 (by rw[a1a,s];lia) λj hj=>?_;rw[aF9];refine k _ _ _ (by rw[a9f,s]) ⟨λz u=>?_,cS4 E (by simpa using hin) _⟩;rcases List.mem_or_eq_of_mem_set u with h | h;exact g z h;exact h ▸ tw;exact k _ _ _ s ⟨g,E⟩
   ·exact k _ _ _ s ⟨g,E⟩
def aS2{K:W.Frag}(vs:List V)(H:Hp)(Q:L2.VK)(E:XK)(h:lY K vs H Q E):dsp 2 fN vs H Q E:=by
 obtain⟨p,m,rfl,⟨i,j,o⟩,rfl,_,k⟩:=h;have r:=bU6 (a:=i) (b:=j) (K:=λres as'=>∃ zs c d,zs.length=6/\((∀ z∈zs,Tx z)/\Ne2 zs)/\res=.own (.lst (zs.map D.str))/\as'=[⟨.par,.lst [.int c,.int d]⟩,⟨.val,.int 6⟩]) λzs c d f g=>⟨zs,c,d,f,g,rfl,rfl⟩;obtain⟨⟨res,as'⟩,e,zs,c,d,f,g,q,s⟩:=hX.mp r;cases q;cases s;refine⟨_,_,_,cR9 o,rfl,e,λv H' po t=>?_⟩;obtain⟨r,rfl,hr,xs,n,l⟩:=t;rw[l.strs_inv]at n;obtain⟨u,w⟩:=bU2 po;exact k r zs H' hr n (by rw[f];rfl) g u w
open Sx
theorem bI9{l:List D}{K:List D->Prop}:OK1 (tO (.tup l)) K=K l:=rfl
theorem bJ0{l:List D}{K:List D->Prop}:OK1 (tO (.lst l)) K=K l:=rfl
theorem dJ0{l:List D}{K:List D->Prop}:OK1 (dP2 (.tup l)) K=K l:=rfl
theorem bJ1{i:Nat}{σ:Sg}:bJ [i] σ=σ.set i none:=rfl
noncomputable def ov(b:Bool)(d:D):Option Sl:=if b=true then some ⟨.val,d⟩else none
theorem aM6{b:Bool}{d:D}{r:Sg}{s:Sl}{K:Sg->Prop}:Dv.PK 0 (ov b d::r) s K=K (some s::r):=by cases b<;>rfl
theorem bJ2{l m:List D}{K:D×D->Prop}:OK1 (cN0 (.lst l) [.lst m]) K=(l.length+m.length<=sizeLine/\K (.lst (l++m),.non)):=by
 unfold cN0;dsimp only[bL1];show OK1 (if _ then _ else none) K=_;rw[bD];rfl
theorem dJ1{b:MS}{Q:Out->Prop}{σ:Sg}:sqM b Q (.nx σ)=b σ Q:=rfl
theorem bJ3{b:Bool}{K:Bool->Prop}:OK1 (dN8 (.bl b)) K=K b:=rfl
noncomputable def wo(o:Option (List D)):Option Sl:=o.map λl=>⟨.own,.lst l⟩
theorem dJ2{o:Option (List D)}{r:Sg}{s:Sl}{K:Sg->Prop}:Dv.PK 0 (wo o::r) s K=K (some s::r):=by cases o<;>rfl
local macro_rules | `(tactic| walk_at "d")=>do
 let l:=("bJ2 aM6 tQ tR tS tT xY xZ tU yA tV tW yB yC qY qZ rA yD yE bB6 yF tX yG rB yH tY yI yJ tZ aC7 yM yN yO yP aQ3 rC kJ oA rZ bC2 kK bI9 aY vP aJ7 aJ8 reduceIte".splitOn " ").toArray.map fun s=>Lean.mkIdent s.toName
 let m:=("bU3 bJ1 List.getElem?_cons_succ List.getElem?_cons_zero Option.getD_some Int.reducePow Int.reduceNeg Int.reduceLT Int.reduceLE Nat.reducePow Nat.reduceLT Int.reduceToNat Nat.reduceLeDiff yS yQ bD5 yR rE rF List.set_cons_zero List.set_cons_succ List.length_cons List.length_nil Nat.reduceAdd Nat.zero_add true_and and_true and_self Bool.false_eq_true Bool.true_and Bool.and_true".splitOn " ").toArray.map fun s=>Lean.mkIdent s.toName
 `(tactic| simp only[$[↓$l:ident],*,$[$m:ident],*])
def dJ3{a:Type}(f:a->D){l:List a}{i:Int}(h0:0<=i)(d:i < (l.length:Int)):∃ c,atI (l.map f) i=some (f c)/\c∈l:=by
 obtain⟨c,b⟩:=lT (ys:=l) h0 d;exact⟨c,by rw[lB,b];rfl,jK b⟩
def bJ4{r:DT}{σ:Sg}{Q a:Bool->Sg->Prop}(h:RT r σ Q)(w:∀ b c,Q b c->a b c):RT r σ a:=cC h λx=>w x.1 x.2
def bJ5{r:DE}{σ:Sg}{Q a:Res->Sg->Prop}(h:RE r σ Q)(w:∀ b c,Q b c->a b c):RE r σ a:=cC h λx=>w x.1 x.2
def nF{m:Type}{g:D->Sg->Option Sg}{ow:List Nat}{t:DT}{e:DE}{K:List D×Sg->Prop}(f:m->D)(u:m->D)(xs:List m){a:Sg}(l:Sg)(q:a=l)
  (hs:∀ x∈xs,OK1 (g (u x) l) λc=>RT t c λb h=>b=true/\RE e h λr j=>r=.val (f x)/\bJ ow j=l) (k:K (xs.map f,l)):OK1 (aE8 ow g t e (xs.map u) a) K:=by
 subst q;refine eV _ _ (λi acc τ'=>acc=(xs.take i).map f/\τ'=a) ⟨rfl,rfl⟩ ?_ ?_;rintro i d acc τ' hd ⟨rfl,rfl⟩;rw[a6b]at hd;obtain⟨x,o,rfl⟩:=a0d.mp hd;refine cC (hs x (a4b o)) λc s=>bJ4 s λb h n=>?_;obtain⟨rfl,n⟩:=n;rw[a3Y rfl];refine bJ5 n λr j p=>?_;exact⟨_,p.1,by rw[a5j,o,a2e];rfl,p.2⟩;rintro acc τ' ⟨rfl,rfl⟩;rw[a1a,List.take_length];exact k
def pH{n:Type}{g:D->Sg->Option Sg}{ow:List Nat}{t:DT}{e:DE}{K:List D×Sg->Prop}(p:n->Bool)(f:n->D)(u:n->D)(xs:List n){a:Sg}(j:Sg)(o:a=j)
  (hs:∀ x∈xs,OK1 (g (u x) j) λl=>RT t l λb c=>b=p x/\bJ ow c=j/\RE e c λr m=>r=.val (f x)/\bJ ow m=j) (k:K ((xs.filter p).map f,j)):OK1 (aE8 ow g t e (xs.map u) a) K:=by
 subst o;refine eV _ _ (λi acc τ'=>acc=((xs.take i).filter p).map f/\τ'=a) ⟨rfl,rfl⟩ ?_ ?_
 ·rintro i d acc τ' hd ⟨rfl,rfl⟩;rw[a6b]at hd;obtain⟨x,v,rfl⟩:=a0d.mp hd;refine cC (hs x (a4b v)) λl y=>bJ4 y λb c s=>?_;obtain⟨rfl,s,z⟩:=s;have o:(xs.take (i+1)).filter p=(xs.take i).filter p++(if p x=true then[x]else[]):=by
   rw[a5j,v,List.filter_append];cases h:p x<;>simp[h]
  by_cases q:p x=true;rw[a3Y q];refine bJ5 z λr m w=>?_;exact⟨_,w.1,by rw[o,a3Y q,a2e];rfl,w.2⟩;rw[a3Z q];exact⟨by rw[o,a3Z q,a3g],s⟩
 ·rintro acc τ' ⟨rfl,rfl⟩;rw[a1a,List.take_length];exact k
def iV{a:Type}{f:a->D}{l:List a}{i:Nat}{d:D}(h:(l.map f)[i]? = some d):∃ y,l[i]? = some y/\d=f y:=by
 rw[a6b]at h;obtain⟨y,e,rfl⟩:=a0d.mp h;exact⟨y,e,rfl⟩
def nG{a:Type}{l:List a}{i:Nat}{y:a}(h:l[i]? = some y):l.take i++[y]=l.take (i+1):=by
 rw[a5j,h];rfl
noncomputable def bU(qs:List (Str×List Str)):List Str:=qs.foldl (λacc q=>acc++q.2.filter λc=>!acc.contains c) []
def aS3(qs:List (Str×List Str))(q:Str×List Str):bU (qs++[q])=bU qs++q.2.filter λc=>!(bU qs).contains c:=by
 unfold bU;rw[List.foldl_append];rfl
def Qn(qs:List (Str×List Str)):Prop:=qs.length<=100/\∀ q∈qs,Tx q.1/\q.2.length<=100/\∀ z∈q.2,Tx z
def sJ{qs:List (Str×List Str)}{z:Str}(h:z∈bU qs):∃ q∈qs,z∈q.2:=by
 have a:∀ (l:List (Str×List Str)) (acc:List Str),z∈l.foldl (λacc q=>acc++q.2.filter λc=>!acc.contains c) acc->z∈acc\/∃ q∈l,z∈q.2:=by
  intro l
  induction l with
  | nil=>intro acc h;exact .inl h
  | cons q r b=>
    intro acc h;rcases b _ h with h | ⟨d,e,f⟩;rcases a1c.mp h with h | h;exact .inl h;exact .inr ⟨q,a6a,(List.mem_filter.mp h).1⟩;exact .inr ⟨d,a7a _ e,f⟩
 rcases a qs [] h with h | h;cases h;exact h
def sK{qs:List (Str×List Str)}{n:Nat}(h:∀ q∈qs,q.2.length<=n):(bU qs).length<=qs.length*n:=by
 have a:∀ (l:List (Str×List Str)) (acc:List Str),(∀ q∈l,q.2.length<=n)->(l.foldl (λacc q=>acc++q.2.filter λc=>!acc.contains c) acc).length<=acc.length+l.length*n:=by
  intro l
  induction l with
  | nil=>intro acc _;simp
  | cons q r b=>
    intro acc h;have d:=b (acc++q.2.filter λc=>!acc.contains c) λx e=>h x (a7a _ e);have f:=h q a6a;have g:=List.length_filter_le (λc=>!acc.contains c) q.2;rw[a0c]at d;rw[List.foldl_cons,a1g,Nat.succ_mul];lia
 have:=a qs [] h;rw[a5h,a6g]at this;exact this
def aS4{a:Type}{l:List a}{i:Nat}{y:a}(h:l[i]? = some y):l.take (i+1)=l.take i++[y]:=(nG h).symm
def sL{qs:List (Str×List Str)}(l:Qn qs){Q:Out->Prop}(k:∀ b e f g,Q (.nx [some ⟨.val,qD qs⟩,some ⟨.own,.lst ((bU qs).map D.str)⟩,ov b f,ov e g,none])) :
  OK1 (dH0 (dY 2 (aN (dgN 2) (aN (dgN 3) dX))) (nW (xO "list" 1 cN0 (aA (eM [4] (dIt (aF 3)) (dgN 4) (eQ (aR (inD true) (aF 4) (aF 1))) (dFz (aF 4))) aT))) (qs.map qP) [some ⟨.val,qD qs⟩,some ⟨.own,.lst []⟩,none,none,none]) Q:=by
 have sl:20000<=sizeLine:=by decide
 have s:∀ i,∀ z∈bU (qs.take i),As z:=λi z t=>by
  obtain⟨q,m,o⟩:=sJ t;exact((l.2 q (a1f m)).2.2 z o).2
 have u:∀ i,(bU (qs.take i)).length<=10000:=λi=>by
  have m:=sK (qs:=qs.take i) (n:=100) λq h=>(l.2 q (a1f h)).2.1;have o:=l.1;have r:(qs.take i).length<=100:=by rw[a3d];lia
  have w:=Nat.mul_le_mul_right 100 r;lia
 refine fE (λi p=>∃ b e f g,p=[_,some ⟨.own,.lst ((bU (qs.take i)).map D.str)⟩,ov b f,ov e g,none]) ⟨false,false,.non,.non,rfl⟩ ?_ ?_
 ·rintro i d p hd ⟨b,e,f,g,rfl⟩;obtain⟨q,j,rfl⟩:=iV hd;have a:=l.2 q (a4b j);walk_at "d";refine⟨a8b (by rw[a1a];exact a.2.1) (by decide),pH (λc=>!(bU (qs.take i)).contains c) D.str D.str q.2 [_,_,_,_,none] rfl (λc v=>?_) ?_⟩;walk_at "d";refine cF1 (a.2.2 c v).2 (s i) ?_;walk_at "d";walk_at "d";refine⟨by
   rw[a1a,a1a];have m:=u i;have o:=List.length_filter_le (λc=>!(bU (qs.take i)).contains c) q.2;have r:=a.2.1;lia,_,.inl rfl,true,true,.str q.1,.tup (q.2.map D.str),?_⟩
  rw[aS4 j,aS3,a2e];rfl
 ·rintro p ⟨b,e,f,g,rfl⟩;rw[a1a,List.take_length];exact k b e f g
def lK{qs:List (Str×List Str)}(a:Qn qs){K:Res->List Sl->Prop}(k:K (.own (.lst ((bU qs).map D.str))) [⟨.val,qD qs⟩]):CK bP [⟨.val,qD qs⟩] K:=by
 unfold bP;rw[cZ];show RS dA [_,none,none,none,none] _;unfold dA;walk_at "d";refine⟨a7c _,sL a λb c d e=>?_⟩;walk_at "d";exact k
noncomputable abbrev rD(rs:List (List Int)):D:=.tup (rs.map tI)
noncomputable abbrev hD(hs:List (List (List Int))):D:=.tup (hs.map rD)
local macro_rules | `(tactic| walk_at "d")=>do
 let l:=("cO0 vS bD2 bD3 dJ2 bJ3 bH4 aM6 dK9 tQ tR tS tT aI8 xY xZ tU yA tV tW yB bB3 vK vL yC qY qZ rA yD aI9 bB5 yE bB6 yF bB7 vM tX yG rB yH aJ0 tY aJ1 yI yJ yK yL tZ vN yM yN yO yP aQ3 rC kJ oA vO aJ9 aK0 aK1 aK2 aK3 rZ bC2 aK4 vR kK cE4 aK5 bC4 bC6 cO1 aK6 aD2 aD3 bC8 bC9 bD0 bR9 aK7 bS0 aK8 dL0 aK9 bI9 bJ0 aY aJ3 aJ4 aJ5 aJ6 aC8 reduceIte".splitOn " ").toArray.map fun s=>Lean.mkIdent s.toName
 let m:=("decide_true decide_false bU3 bJ1 List.getElem?_cons_succ List.getElem?_cons_zero Option.getD_some Int.reducePow Int.reduceNeg Int.reduceLT Int.reduceLE Nat.reducePow Nat.reduceLT Int.reduceToNat Nat.reduceLeDiff yS yQ bD5 yR rE rF vQ List.set_cons_zero List.set_cons_succ dJ bA2 List.length_cons List.length_nil Nat.reduceAdd Nat.zero_add true_and and_true and_self Bool.not_false Bool.not_true Bool.true_and Bool.and_true decide_eq_true_eq".splitOn " ").toArray.map fun s=>Lean.mkIdent s.toName
 `(tactic| simp only[$[↓$l:ident],*,$[$m:ident],*])
def cS5{e:Int}(h0:0<=e)(a:e < 12):∃ v:Int,atI [D.int 0,D.int 1,D.int 2,D.int 10,D.int 11,D.int 12,D.int 21,D.int 101,D.int 111,D.int 112,D.int 121,D.int 211] e=some (.int v):=by
 obtain⟨c,b⟩:=lT (ys:=[(0:Int),1,2,10,11,12,21,101,111,112,121,211]) h0 a;exact⟨c,by have:=lB (f:=D.int) (ys:=[(0:Int),1,2,10,11,12,21,101,111,112,121,211]) (i:=e);rw[b]at this;exact this⟩
def bJ6{a b m:Int}(h:0 < m)(l:m<=1000){K:Res->List Sl->Prop}(k:∀ v f g,K (.val (.int v)) [⟨.par,.lst [.int f,.int g]⟩,⟨.val,.int m⟩]):CK cK [⟨.par,.lst [.int a,.int b]⟩,⟨.val,.int m⟩] K:=by
 unfold cK;rw[cZ];show RS eX [_,_,none] _;unfold eX;walk_at "d";refine bS h (by lia) λd a1 c i n=>?_;walk_at "d";split;rename_i hm;obtain⟨v,j⟩:=cS5 (e:=d) i (by lia);refine⟨by decide,?_⟩;rw[j];walk_at "d";exact k v a1 c;exact k d a1 c
def bU7{e:Int}(h0:0<=e)(a:e < 5):∃ m:Int,atI [D.int 2,D.int 3,D.int 5,D.int 12,D.int 1000] e=some (.int m)/\0 < m/\m<=1000:=by
 have:e=0\/e=1\/e=2\/e=3\/e=4:=by lia
 rcases this with rfl | rfl | rfl | rfl | rfl<;>exact⟨_,rfl,by decide,by decide⟩
def bU8{n:Nat}(h0:1<=n)(a:n<=6):∃ m:Int,atI [D.int 40,D.int 17,D.int 6,D.int 4,D.int 3,D.int 2] ((n:Int)-1)=some (.int m)/\0<=m/\m<=40:=by
 have:n=1\/n=2\/n=3\/n=4\/n=5\/n=6:=by lia
 rcases this with rfl | rfl | rfl | rfl | rfl | rfl<;>exact⟨_,rfl,by decide,by decide⟩
def cF2(l:List D){n:Int}(h:0<=n):bQ9 l none (some n)=l.take n.toNat:=by
 obtain⟨k,rfl⟩:=Int.eq_ofNat_of_zero_le h;unfold bQ9;rw[HT.sIx_none,HT.sIx_nat,List.drop_zero,Nat.sub_zero,a3j];by_cases h:k<=l.length;rw[Nat.min_eq_left h];rw[Nat.min_eq_right (by lia),List.take_length,a2f (by lia)]
def bJ7{a:List Int}{n:Nat}(h:n < a.length):atI (a.map D.int) (n:Int)=some (.int (a.getD n 0)):=by
 rw[lB];unfold atI ixN;rw[a3Y (by lia),a3Y (by lia)];simp[h]
def aS5{qs:List (Str×List Str)}(h:Qs1 qs):Qn qs:=⟨a8b h.2.1 (by decide),λq a=>⟨(h.2.2 q a).1,a8b (h.2.2 q a).2.1.2 (by decide),(h.2.2 q a).2.2⟩⟩
def bJ8{qs:List (Str×List Str)}{q:Str×List Str}(b:q∈qs){z:Str}(hz:z∈q.2):z∈bU qs:=by
 have a:∀ (l:List (Str×List Str)) (acc:List Str),(z∈acc\/∃ q∈l,z∈q.2)->z∈l.foldl (λacc q=>acc++q.2.filter λc=>!acc.contains c) acc:=by
  intro l
  induction l with
  | nil=>
    intro acc h;rcases h with h | ⟨q,h,_⟩;exact h;cases h
  | cons p r d=>
    intro acc h;refine d _ ?_;by_cases ha:z∈acc;exact .inl (a9g _ ha)
    ·rcases h with h | ⟨q,h,hz⟩;exact absurd h ha;rcases a5b.mp h with rfl | h;exact .inl (a3c _ (List.mem_filter.mpr ⟨hz,by simpa using ha⟩));exact .inr ⟨q,h,hz⟩
 exact a qs [] (.inr ⟨q,b,hz⟩)
theorem aM7(k:List Int):∀ (l:List (List Int)),(bG7 k l).length<=l.length+1
 | []=>a4a 1
 | x::r=>by
   have:=aM7 k r;unfold bG7;split;simp;split;simp;simp only[List.length_cons];lia
theorem bJ9:∀ (l:List (List Int)),(srt l).length<=l.length
 | []=>a4a 0
 | k::r=>by
   have a:=bJ9 r;have b:=aM7 k (srt r);show(bG7 k (srt r)).length<=r.length+1;lia
def cS6{ks:List (List Int)}{n:Nat}(h:∀ k∈ks,k.length=n)(f:2<=(srt ks).length):∀ k∈ks,k≠[]:=by
 rintro k g rfl;have d:n=0:=(h [] g).symm;have hr:=wC ks
 match e:srt ks,f with
 | a::b::r,_=>
   rw[e]at hr;have c:=(a2i.mp hr).1 b a6a;have ha:=h a ((sF ks a).mp (by rw[e];simp));have i:=h b ((sF ks b).mp (by rw[e];simp));rw[a7e (ha.trans d),a7e (i.trans d)]at c;cases c
def uJ{a b:DS}{σ:Sg}{Q:Out->Prop}(P:Sg->Prop)(d:RS a σ λo=>∃ c,o=.nx c/\P c)(e:∀ c,P c->RS b c Q):RS (bM a b) σ Q:=by
 rw[tX];refine cC d ?_;rintro o ⟨c,rfl,h⟩;exact e c h
noncomputable abbrev lI(vs:List Int):D:=.lst (vs.map D.int)
def drawn{x:Type}{f:x->D}{l:List x}{m:Int}(y:0 < m)(m1:m<=1000){a b:Int}{s1 s2 q r s t u w c e g h j n:Option Sl}{K:List D×Sg->Prop}(k:∀ (vs:List Int) o p,vs.length=l.length->K (vs.map D.int,[some ⟨.par,.lst [.int o,.int p]⟩,s1,s2,q,some ⟨.val,.int m⟩,r,s,t,u,w,c,e,g,h,j,none,n])) :
  OK1 (aE8 [15] (dgN 15) nX (dFz (aQ 2 cK (aA (aF 0) (aA (aF 4) aT)))) (l.map f) [some ⟨.par,.lst [.int a,.int b]⟩,s1,s2,q,some ⟨.val,.int m⟩,r,s,t,u,w,c,e,g,h,j,none,n]) K:=by
 refine eV _ _ (λi acc τ=>∃ (vs:List Int) (o p:Int),acc=vs.map D.int/\vs.length=i/\τ=[some ⟨.par,.lst [.int o,.int p]⟩,s1,s2,q,some ⟨.val,.int m⟩,r,s,t,u,w,c,e,g,h,j,none,n]) ⟨[],a,b,rfl,rfl,rfl⟩ ?_ ?_;rintro i d acc τ hd ⟨vs,o,p,rfl,hl,rfl⟩;walk_at "d";refine bJ6 y m1 λv a2 z=>?_;walk_at "d";exact⟨_,rfl,vs++[v],a2,z,by rw[a2e];rfl,by rw[a0c,hl];rfl,rfl⟩;rintro acc τ ⟨vs,o,p,rfl,hl,rfl⟩;exact k vs o p (by rw[hl,a1a])
def cS7{L e:Int}(a:0<=L/\L<=40)(h0:0<=e)(b:e < 2):∃ c:Int,atI [D.int (L+1),D.int ((if 5 < L then 5 else L)+1)] e=some (.int c)/\0 < c/\c<=41:=by
 have:e=0\/e=1:=by lia
 rcases this with rfl | rfl;exact⟨_,rfl,by lia,by lia⟩;exact⟨_,rfl,by split<;>lia,by split<;>lia⟩
def bU9{a b:Int}{qs:List (Str×List Str)}(t:Qs1 qs){K:Res->List Sl->Prop}(k:∀ (hs:List (List (List Int))) E F,hs.length=qs.length->(∀ ks∈hs,ks.length<=40)->K (.val (hD hs)) [⟨.par,.lst [.int E,.int F]⟩,⟨.val,qD qs⟩,⟨.val,.int 0⟩]) :
  CK eC [⟨.par,.lst [.int a,.int b]⟩,⟨.val,qD qs⟩,⟨.val,.int 0⟩] K:=by
 have sl:10000<=sizeLine:=by decide
 unfold eC;rw[cZ];show RS eY [_,_,_,none,none,none,none,none,none,none,none,none,none,none,none,none,none] _;unfold eY;walk_at "d";refine lK (aS5 t) ?_;have hcl:(bU qs).length<=60:=by
  have h1:=sK (qs:=qs) (n:=10) λq h=>(t.2.2 q h).2.1.2;have h2:=Nat.mul_le_mul_right 10 t.2.1;lia
 walk_at "d";refine⟨by decide,bS (by decide) (by decide) λn a1 b1 n0 n5=>?_⟩;obtain⟨m,hm,m0,m1⟩:=bU7 n0 n5;walk_at "d";rw[hm];walk_at "d";refine bS (by decide) (by decide) λn2 a2 b2 n20 n21=>?_;walk_at "d";refine⟨by lia,by rw[dF];exact a8b (by lia:n2.toNat<=6) (by decide),?_⟩;refine eV _ _ (λi acc τ=>i<=6/\∃ (vss:List (List Int)) (E F:Int),acc=vss.map lI/\vss.length=i/\(∀ vs∈vss,vs.length=(bU qs).length)/\τ=[some ⟨.par,.lst [.int E,.int F]⟩,_,_,_,_,none,none,none,none,none,none,none,none,none,none,none,none]) ⟨by lia,[],a2,b2,rfl,rfl,by simp,rfl⟩ ?_ ?_;rintro i d acc τ hd ⟨_,vss,E,F,rfl,hl,T,rfl⟩;obtain⟨hi,rfl⟩:=kO hd;walk_at "d";refine⟨by rw[a1a];lia,drawn m0 m1 λvs a3 b3 o=>?_⟩;walk_at "d";refine⟨_,rfl,by lia,vss++[vs],a3,b3,by rw[a2e];rfl,by rw[a0c,hl];rfl,?_,rfl⟩;intro y G;rcases a1c.mp G with h | h;exact T y h;rw[a3b.mp h];exact o;rintro acc τ ⟨_,vss,E,F,rfl,hl,T,rfl⟩;rw[dF]at hl;have lq:(qs.map qP).length=qs.length:=a1a _;walk_at "d";rw[lq];obtain⟨l,U,ev0,ev1⟩:=bU8 t.1 t.2.1;rw[U];walk_at "d";refine⟨by decide,by decide,by decide,?_⟩;rw[a3Z (by decide)];refine⟨a7c _,?_⟩;refine fE (λi τ=>i<=6/\∃ (hs:List (List (List Int))) (a b room:Int) (u v w e:Bool) (x z A f:D) (g:Option (List D)),0<=room/\hs.length=i/\(∀ ks∈hs,ks.length<=40)/\τ=[some ⟨.par,.lst [.int a,.int b]⟩,some ⟨.val,qD qs⟩,some ⟨.val,.int 0⟩,some ⟨.own,.lst ((bU qs).map D.str)⟩,some ⟨.val,.int m⟩,some ⟨.own,.lst (vss.map lI)⟩,some ⟨.val,.int l⟩,some ⟨.val,.int room⟩,some ⟨.val,.bl false⟩,some ⟨.own,.lst (hs.map rD)⟩,ov u x,ov v z,ov w A,wo g,ov e f,none,none]) ⟨a7c _,[],E,F,0,false,false,false,false,.non,.non,.non,.non,none,by decide,rfl,(λks h=>nomatch h),rfl⟩ ?_ ?_
 ·rintro i d τ hd ⟨_,hs,a,b,room,u,v,w,e,x,z,A,f,g,r0,p,B,rfl⟩;obtain⟨q,H,rfl⟩:=iV hd;have hil:i < qs.length:=(a3a.mp H).1;have I:=a4b H;have hqq:=t.2.2 q I;have hq6:=t.2.1;simp only[rC,kJ,oA,aQ3,tZ,aM6,yK,yL,List.length_cons,List.length_nil,Nat.reduceAdd,true_and];refine uJ (λτ=>τ=[some ⟨.par,.lst [.int a,.int b]⟩,some ⟨.val,qD qs⟩,some ⟨.val,.int 0⟩,some ⟨.own,.lst ((bU qs).map D.str)⟩,some ⟨.val,.int m⟩,some ⟨.own,.lst (vss.map lI)⟩,some ⟨.val,.int l⟩,some ⟨.val,.int room⟩,some ⟨.val,.bl false⟩,some ⟨.own,.lst (hs.map rD)⟩,some ⟨.val,.str q.1⟩,some ⟨.val,.tup (q.2.map D.str)⟩,some ⟨.val,.int 40⟩,wo g,ov e f,none,none]) ?_ ?_;walk_at "d";exact⟨_,rfl,rfl⟩
  rintro τ rfl;refine uJ (λτ=>∃ L:Int,(0<=L/\L<=40)/\τ=[some ⟨.par,.lst [.int a,.int b]⟩,some ⟨.val,qD qs⟩,some ⟨.val,.int 0⟩,some ⟨.own,.lst ((bU qs).map D.str)⟩,some ⟨.val,.int m⟩,some ⟨.own,.lst (vss.map lI)⟩,some ⟨.val,.int l⟩,some ⟨.val,.int room⟩,some ⟨.val,.bl false⟩,some ⟨.own,.lst (hs.map rD)⟩,some ⟨.val,.str q.1⟩,some ⟨.val,.tup (q.2.map D.str)⟩,some ⟨.val,.int L⟩,wo g,ov e f,none,none]) ?_ ?_;walk_at "d";exact⟨_,rfl,40,by decide,rfl⟩
  rintro τ ⟨L0,J,rfl⟩;refine uJ (λτ=>∃ L:Int,(0<=L/\L<=40)/\τ=[some ⟨.par,.lst [.int a,.int b]⟩,some ⟨.val,qD qs⟩,some ⟨.val,.int 0⟩,some ⟨.own,.lst ((bU qs).map D.str)⟩,some ⟨.val,.int m⟩,some ⟨.own,.lst (vss.map lI)⟩,some ⟨.val,.int l⟩,some ⟨.val,.int room⟩,some ⟨.val,.bl false⟩,some ⟨.own,.lst (hs.map rD)⟩,some ⟨.val,.str q.1⟩,some ⟨.val,.tup (q.2.map D.str)⟩,some ⟨.val,.int L⟩,wo g,ov e f,none,none]) ?_ ?_;walk_at "d";exact⟨_,rfl,L0,J,rfl⟩
  rintro τ ⟨L,hL,rfl⟩;clear J;have hcq:(q.2.map D.str).length=q.2.length:=a1a _;refine uJ (λτ=>∃ ks:List (List Int),ks.length<=5/\(∀ r∈ks,r.length=q.2.length)/\τ=[some ⟨.par,.lst [.int a,.int b]⟩,some ⟨.val,qD qs⟩,some ⟨.val,.int 0⟩,some ⟨.own,.lst ((bU qs).map D.str)⟩,some ⟨.val,.int m⟩,some ⟨.own,.lst (vss.map lI)⟩,some ⟨.val,.int l⟩,some ⟨.val,.int room⟩,some ⟨.val,.bl false⟩,some ⟨.own,.lst (hs.map rD)⟩,some ⟨.val,.str q.1⟩,some ⟨.val,.tup (q.2.map D.str)⟩,some ⟨.val,.int L⟩,some ⟨.own,.lst (ks.map tI)⟩,ov e f,none,none]) ?_ ?_
  ·simp only[↓tY,↓bB5,↓kK,↓bC2,↓tQ,↓tR,↓tS,↓tT,↓tU,↓bJ0,↓tW,↓tV];walk_at "d";refine⟨by rw[a1a];lia,nF (λvs=>tI (q.2.map λc=>vs.getD ((bU qs).idxOf c) 0)) lI vss [some ⟨.par,.lst [.int a,.int b]⟩,some ⟨.val,qD qs⟩,some ⟨.val,.int 0⟩,some ⟨.own,.lst ((bU qs).map D.str)⟩,some ⟨.val,.int m⟩,some ⟨.lent,.lst (vss.map lI)⟩,some ⟨.val,.int l⟩,some ⟨.val,.int room⟩,some ⟨.val,.bl false⟩,some ⟨.own,.lst (hs.map rD)⟩,some ⟨.val,.str q.1⟩,some ⟨.val,.tup (q.2.map D.str)⟩,some ⟨.val,.int L⟩,wo g,ov e f,none,none] rfl (λvs V=>?_) ?_⟩;walk_at "d";refine⟨by lia,nF (λc=>.int (vs.getD ((bU qs).idxOf c) 0)) D.str q.2 [some ⟨.par,.lst [.int a,.int b]⟩,some ⟨.val,qD qs⟩,some ⟨.val,.int 0⟩,some ⟨.own,.lst ((bU qs).map D.str)⟩,some ⟨.val,.int m⟩,some ⟨.lent,.lst (vss.map lI)⟩,some ⟨.val,.int l⟩,some ⟨.val,.int room⟩,some ⟨.val,.bl false⟩,some ⟨.own,.lst (hs.map rD)⟩,some ⟨.val,.str q.1⟩,some ⟨.val,.tup (q.2.map D.str)⟩,some ⟨.val,.int L⟩,wo g,ov e f,none,some ⟨.val,lI vs⟩] rfl (λc C=>?_) ?_⟩;walk_at "d";have M:=bJ8 I C;refine⟨M,?_⟩;have hix:=List.idxOf_lt_length_iff.mpr M;have o:=T vs V;rw[bJ7 (by lia)];rfl;walk_at "d";show Res.val (.tup _)=Res.val (.tup ((q.2.map _).map D.int));rw[List.map_map];rfl;show Dv.PK 13 [some ⟨.par,.lst [.int a,.int b]⟩,some ⟨.val,qD qs⟩,some ⟨.val,.int 0⟩,some ⟨.own,.lst ((bU qs).map D.str)⟩,some ⟨.val,.int m⟩,some ⟨.own,.lst (vss.map lI)⟩,some ⟨.val,.int l⟩,some ⟨.val,.int room⟩,some ⟨.val,.bl false⟩,some ⟨.own,.lst (hs.map rD)⟩,some ⟨.val,.str q.1⟩,some ⟨.val,.tup (q.2.map D.str)⟩,some ⟨.val,.int L⟩,wo g,ov e f,none,none] ⟨.own,.lst _⟩ _;walk_at "d";refine⟨_,rfl,vss.map λvs=>q.2.map λc=>vs.getD ((bU qs).idxOf c) 0,by rw[a1a];lia,?_,by rw[List.map_map];rfl⟩;intro r hr;obtain⟨vs,_,rfl⟩:=a1i.mp hr;exact a1a _
  rintro τ ⟨W,N,O,rfl⟩;refine uJ (λτ=>∃ (ks:List (List Int)) (a b:Int),ks.length<=5/\(∀ r∈ks,r.length=q.2.length)/\τ=[some ⟨.par,.lst [.int a,.int b]⟩,some ⟨.val,qD qs⟩,some ⟨.val,.int 0⟩,some ⟨.own,.lst ((bU qs).map D.str)⟩,some ⟨.val,.int m⟩,some ⟨.own,.lst (vss.map lI)⟩,some ⟨.val,.int l⟩,some ⟨.val,.int room⟩,some ⟨.val,.bl false⟩,some ⟨.own,.lst (hs.map rD)⟩,some ⟨.val,.str q.1⟩,some ⟨.val,.tup (q.2.map D.str)⟩,some ⟨.val,.int L⟩,some ⟨.own,.lst (ks.map tI)⟩,ov e f,none,none]) ?_ ?_;walk_at "d";refine bS (by decide) (by decide) λn4 a4 b4 n40 n41=>?_;walk_at "d";split;exact⟨a7c _,_,rfl,[],a4,b4,a7c _,(λr h=>nomatch h),rfl⟩;exact⟨_,rfl,W,a4,b4,N,O,rfl⟩
  rintro τ ⟨X,a5,b5,P,Q,rfl⟩;clear N O;refine uJ (λτ=>∃ (ks:List (List Int)) (a b:Int) (e:Bool) (f:D),ks.length<=45/\(∀ r∈ks,r.length=q.2.length)/\τ=[some ⟨.par,.lst [.int a,.int b]⟩,some ⟨.val,qD qs⟩,some ⟨.val,.int 0⟩,some ⟨.own,.lst ((bU qs).map D.str)⟩,some ⟨.val,.int m⟩,some ⟨.own,.lst (vss.map lI)⟩,some ⟨.val,.int l⟩,some ⟨.val,.int room⟩,some ⟨.val,.bl false⟩,some ⟨.own,.lst (hs.map rD)⟩,some ⟨.val,.str q.1⟩,some ⟨.val,.tup (q.2.map D.str)⟩,some ⟨.val,.int L⟩,some ⟨.own,.lst (ks.map tI)⟩,ov e f,none,none]) ?_ ?_
  ·walk_at "d";refine⟨by decide,bS (by decide) (by decide) λn6 a7 b7 n60 Y=>?_⟩;obtain⟨c,C,c0,c1⟩:=cS7 hL n60 Y;walk_at "d";rw[C];walk_at "d";refine bS c0 (by lia) λn7 a8 b8 n70 n71=>?_;walk_at "d";refine⟨by lia,?_⟩;refine fE (λj τ=>j<=40/\∃ (ks:List (List Int)) (a b:Int) (e:Bool) (f:D),ks.length<=5+j/\(∀ r∈ks,r.length=q.2.length)/\τ=[some ⟨.par,.lst [.int a,.int b]⟩,some ⟨.val,qD qs⟩,some ⟨.val,.int 0⟩,some ⟨.own,.lst ((bU qs).map D.str)⟩,some ⟨.val,.int m⟩,some ⟨.own,.lst (vss.map lI)⟩,some ⟨.val,.int l⟩,some ⟨.val,.int room⟩,some ⟨.val,.bl false⟩,some ⟨.own,.lst (hs.map rD)⟩,some ⟨.val,.str q.1⟩,some ⟨.val,.tup (q.2.map D.str)⟩,some ⟨.val,.int L⟩,some ⟨.own,.lst (ks.map tI)⟩,ov e f,none,none]) ⟨a7c _,X,a8,b8,e,f,P,Q,rfl⟩ ?_ ?_;rintro j d τ hd ⟨_,ks,a,b,e,f,hk,hr,rfl⟩;obtain⟨hj,rfl⟩:=kO hd;walk_at "d";refine⟨by lia,drawn m0 m1 λvs a9 b9 o=>?_⟩;walk_at "d";refine⟨by rw[a1a];lia,_,.inl rfl,by lia,ks++[vs],a9,b9,true,_,by rw[a0c];simp;lia,?_,by rw[a2e];rfl⟩;intro y G;rcases a1c.mp G with h | h;exact hr y h;rw[a3b.mp h];exact o;rintro τ ⟨hj,ks,a,b,e,f,hk,hr,rfl⟩;exact⟨_,rfl,ks,a,b,e,f,by lia,hr,rfl⟩
  rintro τ ⟨s,a6,b6,R,S,hk2,Z,rfl⟩;clear P Q;have hsl:=bJ9 s;walk_at "d";refine⟨⟨by lia,by lia,cS6 Z⟩,?_⟩;obtain⟨ks3,e3,hl3,hl4⟩:∃ ks3:List (List Int),bQ9 ((srt s).map tI) none (some L)=ks3.map tI/\ks3.length<=40/\ks3.length<=(srt s).length:=
   ⟨(srt s).take L.toNat,by rw[cF2 _ hL.1,a9j],by rw[a3d];lia,by rw[a3d];lia⟩
  have l3:(ks3.map tI).length=ks3.length:=a1a _;rw[e3,l3];have C:0 < (if(ks3.length:Int) > 1 then(ks3.length:Int)else 1)/\(if(ks3.length:Int) > 1 then(ks3.length:Int)else 1)<=100:=by split<;>lia
  revert C;generalize (if(ks3.length:Int) > 1 then(ks3.length:Int)else 1)=c;intro C;refine⟨by rw[a1a];lia,⟨C.1,by lia⟩,_,.inl rfl,by lia,hs++[ks3],a6,b6,room / c,true,true,true,R,_,_,_,S,some (ks3.map tI),Int.ediv_nonneg r0 (by lia),by rw[a0c,p];rfl,?_,by rw[a2e];rfl⟩;intro y G;rcases a1c.mp G with h | h;exact B y h;rw[a3b.mp h];exact hl3
 ·rintro τ ⟨h6,hs,a,b,room,u,v,w,e,x,z,A,f,g,r0,p,B,rfl⟩;rw[a1a]at p;walk_at "d";exact k hs a b p B
theorem dJ4{i j:Nat}{σ:Sg}:bJ [i,j] σ=(σ.set i none).set j none:=rfl
theorem dP8{i j:Nat}{σ a:Sg}:kQ [i,j] σ a=(a.set i (σ[i]?.getD none)).set j (σ[j]?.getD none):=rfl
theorem dJ5{i j k:Nat}{σ:Sg}:bJ [i,j,k] σ=((σ.set i none).set j none).set k none:=rfl
theorem dP9{i j k:Nat}{σ a:Sg}:kQ [i,j,k] σ a=((a.set i (σ[i]?.getD none)).set j (σ[j]?.getD none)).set k (σ[k]?.getD none):=rfl
theorem dV2{d:D}{r:Sg}:lendO (some 0) (some ⟨.own,d⟩::r)=some ⟨.lent,d⟩::r:=rfl
theorem dV3{i:Nat}{o:Option Sl}{r:Sg}:lendO (some (i+1)) (o::r)=o::lendO (some i) r:=by
 show lend (i+1) (o::r)=o::lend i r;unfold lend;rw[a8c];generalize r[i]? = x
 match x with
 | none=>rfl
 | some none=>rfl
 | some (some ⟨.own,_⟩)=>rfl
 | some (some ⟨.par,_⟩)=>rfl
 | some (some ⟨.val,_⟩)=>rfl
 | some (some ⟨.lent,_⟩)=>rfl
theorem dV4{d e:D}{m:Md}{a r:Sg}:aB9 (some 0) (some ⟨.own,e⟩::a) (some ⟨m,d⟩::r)=some ⟨.own,d⟩::r:=rfl
theorem dV5{i:Nat}{o o':Option Sl}{a r:Sg}:aB9 (some (i+1)) (o::a) (o'::r)=o'::aB9 (some i) a r:=by
 show unl (i+1) (o::a) (o'::r)=o'::unl i a r;unfold unl;rw[a8c,a8c];generalize a[i]? = x;generalize r[i]? = y
 match x,y with
 | none,_=>rfl
 | some none,_=>rfl
 | some (some _),none=>rfl
 | some (some _),some none=>rfl
 | some (some ⟨.own,_⟩),some (some _)=>rfl
 | some (some ⟨.par,_⟩),some (some _)=>rfl
 | some (some ⟨.val,_⟩),some (some _)=>rfl
 | some (some ⟨.lent,_⟩),some (some _)=>rfl
local macro_rules | `(tactic| walk_at "d")=>do
 let l:=("dH8 cR2 cR3 cR4 dI0 dF9 bR7 cN6 bH4 bJ3 cE4 dJ1 bJ2 aM6 bJ0 bI9 dJ0 cF0 bI4 dK9 tQ tR tS tT aI8 xY bB2 xZ tU yA tV tW yB bB3 bB4 dF0 cB5 vK vL dF1 yC qY qZ rA yD aI9 bB5 cB6 yE bB6 yF bB7 vM tX yG bB8 rB yH aJ0 tY aJ1 yI yJ cD8 yK yL tZ vN aC7 yM cB7 yN yO cB8 yP bB9 bC0 aQ3 rC kJ oA vO aJ9 aK0 aK1 aK2 cC3 aK3 cC4 rZ bC2 aK4 vR kK iI bF4 bE0 aK5 aD0 aD1 bC4 bC5 bC6 bC7 cC5 cO0 dF7 cO1 dF8 aK6 cC6 aD2 aD3 vS bC8 bC9 bD0 bR9 cC7 cC8 bD1 aK7 bS0 aK8 dL0 aK9 aY bD2 bD3 cC9 cD0 aJ3 aJ4 aJ5 cC0 aJ6 cC1 bC1 aC8 aC9 vP aJ7 aJ8 reduceIte".splitOn " ").toArray.map fun s=>Lean.mkIdent s.toName
 let m:=("dJ5 dP9 bJ1 dJ4 dP8 cD1 bD4 cD2 cO2 dG0 Int.reducePow Int.reduceNeg Int.reduceLT Int.reduceLE Nat.reducePow Nat.reduceLT Int.reduceToNat Nat.reduceLeDiff yS dV2 dV3 dV4 dV5 yQ bD5 yR rE rF vQ bU3 List.getElem?_cons_succ List.getElem?_cons_zero Option.getD_some List.set_cons_zero List.set_cons_succ dJ bA2 List.length_cons List.length_nil Nat.reduceAdd Nat.zero_add true_and and_true and_self Bool.not_false Bool.not_true Bool.false_eq_true Bool.true_and Bool.and_true Bool.or_false decide_eq_true_eq".splitOn " ").toArray.map fun s=>Lean.mkIdent s.toName
 `(tactic| simp only[$[↓$l:ident],*,$[$m:ident],*])
def wH{x:Int}{k:Nat}(h:x.natAbs < 2 ^ k):Builtin.Int.intBits x<=k:=by
 unfold Builtin.Int.intBits;split;exact a7c _;rename_i a;have h0:x.natAbs≠0:=by
  intro z;have:x=0:=Int.natAbs_eq_zero.mp z;rw[this]at a;simp at a
 exact(Nat.log2_lt h0).mpr h
def bV0{n:Int}{B i:Nat}(h:n.natAbs < 2 ^ B)(hi:B*i<=1000000):Builtin.Int.intBits (n ^ i)<=2 ^ 20:=by
 have a:(n ^ i).natAbs < 2 ^ (B*i+1):=by
  rw[Int.natAbs_pow];have b:n.natAbs ^ i<=(2 ^ B) ^ i:=Nat.pow_le_pow_left (a2g h) i;rw[← Nat.pow_mul]at b;have c:2 ^ (B*i) < 2 ^ (B*i+1):=Nat.pow_lt_pow_right (by decide) (by lia);lia
 have:=wH a;have e:(2:Nat) ^ 20=1048576:=by decide
 lia
def cS8{n:Int}{B i:Nat}(h:n.natAbs < 2 ^ B)(a:B<=1000000)(hi:B*i<=1000000):nZ (n ^ i) n:=by
 refine .inr ⟨bV0 h hi,?_⟩;have:=wH h;have e:(2:Nat) ^ 20=1048576:=by decide
 lia
def uK{n p:Int}{B:Nat}(a:n.natAbs < 2 ^ B)(b:B<=1000000)(h0:0<=p)(c:B*p.toNat<=1000000)(e:p < 1000000){K:Res->List Sl->Prop}(k:K (.val (.int (n ^ p.toNat))) [⟨.val,.int n⟩,⟨.val,.int p⟩]) :
  RS gD [some ⟨.val,.int n⟩,some ⟨.val,.int p⟩,none,none] (cB9 [⟨.val,.int n⟩,⟨.val,.int p⟩] K):=by
 unfold gD;walk_at "d";refine⟨by lia,?_⟩;refine fE (λi σ=>i<=p.toNat/\∃ x:Option D,σ=[some ⟨.val,.int n⟩,some ⟨.val,.int p⟩,some ⟨.val,.int (n ^ i)⟩,x.map λd=>⟨.val,d⟩]) ?_ ?_ ?_;exact⟨a7c _,none,by simp⟩
 ·rintro i d σ hd ⟨_,x,rfl⟩;obtain⟨hi,rfl⟩:=kO hd;have hm:nZ (n ^ i) n:=cS8 a b (a8b (Nat.mul_le_mul_left B (a2g hi)) c);cases x with
  | none=>
    simp only[Option.map_none];walk_at "d";exact⟨hm,_,.inl rfl,hi,some _,by rw[Int.pow_succ];rfl⟩
  | some x=>
    simp only[Option.map_some];walk_at "d";exact⟨hm,_,.inl rfl,hi,some _,by rw[Int.pow_succ];rfl⟩
 ·rintro σ ⟨_,x,rfl⟩;rw[dF];walk_at "d";exact k
def iK{n p:Int}{B:Nat}(a:n.natAbs < 2 ^ B)(b:B<=1000000)(h0:0<=p)(c:B*p.toNat<=1000000)(d:p < 1000000){K:Res->List Sl->Prop}(k:K (.val (.int (n ^ p.toNat))) [⟨.val,.int n⟩,⟨.val,.int p⟩]) :
  CK bA [⟨.val,.int n⟩,⟨.val,.int p⟩] K:=by
 unfold bA;rw[cZ];exact uK a b h0 c d k
def nJ{n p:Int}{B:Nat}(a:n.natAbs < 2 ^ B)(b:B<=1000000)(h0:0<=p)(c:B*p.toNat<=1000000)(d:p < 1000000){K:Res->List Sl->Prop}(k:K (.val (.int (n ^ p.toNat))) [⟨.val,.int n⟩,⟨.val,.int p⟩]) :
  CK bL [⟨.val,.int n⟩,⟨.val,.int p⟩] K:=by
 unfold bL;rw[cZ];exact uK a b h0 c d k
def pI{n:Int}{B:Nat}(h0:0<=n)(h:n < 2 ^ B):n.natAbs < 2 ^ B:=by
 have:(n.natAbs:Int) < ((2 ^ B:Nat):Int):=by
  rw[Int.natAbs_of_nonneg h0];simpa using h
 exact_mod_cast this
def cS9{n:Int}{p:Nat}(h0:0<=n)(h:¬ Builtin.Int.intBits n<=p):(2:Int) ^ p<=n:=by
 have b:¬ n.natAbs < 2 ^ p:=λz=>h (wH z);have a:((2 ^ p:Nat):Int)<=(n.natAbs:Int):=by lia
 rw[Int.natAbs_of_nonneg h0]at a;simpa using a
def aE6{n:Int}{p:Nat}(h0:0<=n)(h:Builtin.Int.intBits n<=p):n < (2:Int) ^ p:=by
 have c:n.natAbs < 2 ^ p:=by
  unfold Builtin.Int.intBits at h;split at h
  ·rename_i a;have:n=0:=by simpa using a
   subst this;exact Nat.pow_pos (by decide)
  ·rename_i a;have h0:n.natAbs≠0:=by
    intro z;have:n=0:=Int.natAbs_eq_zero.mp z;rw[this]at a;simp at a
   exact(Nat.log2_lt h0).mp h
 have b:(n.natAbs:Int) < ((2 ^ p:Nat):Int):=by lia
 rw[Int.natAbs_of_nonneg h0]at b;simpa using b
def nK(p:Nat):(1:Int) ^ p=1:=by
 induction p with
 | zero=>rfl
 | succ p a=>rw[Int.pow_succ,a];rfl
def nM{a b:Int}{p:Nat}(h0:0<=a)(h:a<=b):a ^ p<=b ^ p:=by
 induction p with
 | zero=>simp
 | succ p c=>
   rw[Int.pow_succ,Int.pow_succ];exact Int.mul_le_mul c h h0 (Int.le_trans (Int.pow_nonneg h0) c)
def aM8{a:Int}{p:Nat}(h0:1<=a)(d:1<=p):a<=a ^ p:=by
 obtain⟨q,rfl⟩:∃ q,p=q+1:=⟨p-1,by lia⟩;rw[Int.pow_succ];have:(1:Int)<=a ^ q:=by
  have:=nM (a:=1) (b:=a) (p:=q) (by decide) h0;rwa[nK]at this
 have c:=Int.mul_le_mul_of_nonneg_right this (show(0:Int)<=a by lia);simpa using c
def fF(j:Nat):(1:Int)<=2 ^ j:=by
 have:=nM (a:=1) (b:=2) (p:=j) (by decide) (by decide);rwa[nK]at this
def uL{i j:Nat}(h:i<=j):(2:Int) ^ i<=2 ^ j:=by
 obtain⟨k,rfl⟩:=Nat.le.dest h;rw[Int.pow_add];have c:=fF i;have a:=fF k;have b:=Int.mul_le_mul_of_nonneg_left a (show(0:Int)<=2 ^ i by lia);rwa[Int.mul_one]at b
def sN{i j:Nat}(h:i < j):(2:Int) ^ i < 2 ^ j:=by
 have a:=uL (i:=i+1) (j:=j) h;rw[Int.pow_succ]at a;have:=fF i;lia
def dQ0{n p:Int}{q M:Nat}(h:p.toNat=q)(M2:M<=3000)(i:1<=q)(l:q<=60)(t:n < 2 ^ M)(hn:1<=n){Q:Out->Prop}
  (k:∀ (j:Nat) (a:Int),a=2 ^ (j+1)->j < M->((2:Int) ^ j) ^ q<=n->n < a ^ q->Q (.nx [some ⟨.val,.int n⟩,some ⟨.val,.int p⟩,some ⟨.val,.int a⟩,none,none])) :
  RS (kW (eQ (aR leI (aQ 2 bA (aA (aF 2) (aA (aF 1) aT))) (aF 0))) (cF 2 (aR lM (aF 2) (dC (.int 2))))) [some ⟨.val,.int n⟩,some ⟨.val,.int p⟩,some ⟨.val,.int 2⟩,none,none] Q:=by
 rw[iI];refine kL (λm σ=>∃ (j:Nat) (a:Int),a=2 ^ (j+1)/\m+j=M/\((2:Int) ^ j) ^ q<=n/\σ=[some ⟨.val,.int n⟩,some ⟨.val,.int p⟩,some ⟨.val,.int a⟩,none,none]) M (by lia) ⟨0,2,rfl,rfl,by rw[Int.pow_zero,nK];exact hn,rfl⟩ ?_;rintro m σ ⟨j,a,b,o,c,rfl⟩;have f:(2:Int) ^ j<=n:=Int.le_trans (aM8 (fF j) i) c;have g:j < M:=by
  rcases Nat.lt_or_ge j M with z | z;exact z;exfalso;have e:j=M:=by lia
  rw[e]at f;lia
 have r:a.natAbs < 2 ^ (M+2):=by
  rw[b,Int.natAbs_pow];exact Nat.pow_lt_pow_right (by decide) (by lia)
 have s:(M+2)*p.toNat<=1000000:=by
  rw[h];exact a8b (Nat.mul_le_mul (show M+2<=3002 by lia) l) (by lia)
 walk_at "d";refine iK (B:=M+2) r (by lia) (by lia) s (by lia) ?_;walk_at "d";rw[h];split;rename_i d;exact .inl ⟨_,m-1,.inl rfl,by lia,j+1,_,by rw[b];exact(Int.pow_succ _ _).symm,by lia,by rw[← b];exact d,rfl⟩;rename_i d;exact k j a b g c (by lia)
def dQ1{n p c:Int}{q M j:Nat}(A:p.toNat=q)(M2:M<=3000)(E:1<=q)(F:q<=60)(J:n < 2 ^ M)(g:c=2 ^ (j+1))(K:j < M)(r:((2:Int) ^ j) ^ q<=n)(s:n < c ^ q){Q:Out->Prop}
  (k:∀ (lo hi:Int) (x:Option Sl),0<=lo->lo < 2 ^ M->lo ^ q<=n->n < (lo+1) ^ q->Q (.nx [some ⟨.val,.int n⟩,some ⟨.val,.int p⟩,some ⟨.val,.int hi⟩,some ⟨.val,.int lo⟩,x])) :
  RS (kW (eQ (aR gtI (aR cK9 (aF 2) (aF 3)) (dC (.int 1)))) (bM (cF 4 (aR bL3 (aR hW (aF 3) (aF 2)) (dC (.int 2)))) (pJ (eQ (aR leI (aQ 2 bA (aA (aF 4) (aA (aF 1) aT))) (aF 0))) (cF 3 (dFz (aF 4))) (cF 2 (dFz (aF 4))))))
   [some ⟨.val,.int n⟩,some ⟨.val,.int p⟩,some ⟨.val,.int c⟩,some ⟨.val,.int (c / 2)⟩,none] Q:=by
 have h:c / 2=2 ^ j:=by rw[g,Int.pow_succ];exact Int.mul_ediv_cancel _ (by decide)
 have L:=fF j;have tm:=uL (i:=j) (j:=M) (by lia);rw[Int.pow_succ]at g;rw[iI];refine kL (λm σ=>∃ (lo hi:Int) (x:Option D),0<=lo/\lo < hi/\hi-lo<=2 ^ m/\hi<=c/\lo ^ q<=n/\n < hi ^ q/\m<=M /\
    σ=[some ⟨.val,.int n⟩,some ⟨.val,.int p⟩,some ⟨.val,.int hi⟩,some ⟨.val,.int lo⟩,x.map λd=>⟨.val,d⟩]) M (by lia) ⟨c / 2,c,none,by lia,by lia,by lia,Int.le_refl _,by rw[h];exact r,s,a4a _,rfl⟩ ?_
 rintro m σ ⟨lo,hi,x,f,G,hd,l,t,u,hm,rfl⟩;have B:hi < 2 ^ (M+2):=by
  have:=sN (i:=j+1) (j:=M+2) (by lia);rw[Int.pow_succ]at this;lia
 walk_at "d";split
 ·rename_i H;have o:lo < (lo+hi) / 2/\(lo+hi) / 2 < hi:=by lia
  have mb:((lo+hi) / 2).natAbs < 2 ^ (M+2):=pI (by lia) (by lia);obtain⟨m',v⟩:∃ m',m=m'+1:=by
   cases m with
   | zero=>rw[Int.pow_zero]at hd;lia
   | succ m'=>exact⟨m',rfl⟩
  subst v;rw[Int.pow_succ]at hd;have I:(M+2)*p.toNat<=1000000:=by
   rw[A];exact a8b (Nat.mul_le_mul (show M+2<=3002 by lia) F) (by lia)
  have fin:CK bA [⟨.val,.int ((lo+hi) / 2)⟩,⟨.val,.int p⟩] λy as'=>y=.val (.int (((lo+hi) / 2) ^ q))/\as'=[⟨.val,.int ((lo+hi) / 2)⟩,⟨.val,.int p⟩]:=
   iK mb (by lia) (by lia) I (by lia) (by rw[A];exact⟨rfl,rfl⟩)
  obtain⟨⟨y,as'⟩,C,rfl,rfl⟩:=hX.mp fin;cases x with
  | none=>
    simp only[Option.map_none];walk_at "d";rw[dF5 C];walk_at "d";split;rename_i b;exact .inl ⟨_,m',.inl rfl,a3e _,_,_,some _,by lia,o.2,by lia,l,b,u,by lia,rfl⟩;rename_i b;exact .inl ⟨_,m',.inl rfl,a3e _,_,_,some _,f,o.1,by lia,by lia,t,by lia,by lia,rfl⟩
  | some x=>
    simp only[Option.map_some];walk_at "d";rw[dF5 C];walk_at "d";split;rename_i b;exact .inl ⟨_,m',.inl rfl,a3e _,_,_,some _,by lia,o.2,by lia,l,b,u,by lia,rfl⟩;rename_i b;exact .inl ⟨_,m',.inl rfl,a3e _,_,_,some _,f,o.1,by lia,by lia,t,by lia,by lia,rfl⟩
 ·rename_i H;have e:hi=lo+1:=by lia
  subst e;have w:lo < 2 ^ M:=by
   by_cases z:lo=0;lia;have:=aM8 (a:=lo) (p:=q) (by lia) E;lia
  exact k lo _ _ f w t u
def cT0{n p:Int}{M:Nat}(M1:1<=M)(M2:M<=3000)(h0:0<=n)(h:n < 2 ^ M)(w:1<=p)(y:p<=60){K:Res->List Sl->Prop}
  (k:∀ r:Int,0<=r->r < 2 ^ M->r ^ p.toNat<=n->n < (r+1) ^ p.toNat->K (.val (.int r)) [⟨.val,.int n⟩,⟨.val,.int p⟩]):CK mX [⟨.val,.int n⟩,⟨.val,.int p⟩] K:=by
 obtain⟨q,b⟩:∃ q:Nat,p.toNat=q:=⟨_,rfl⟩;rw[b]at k;have l:1<=q:=by lia
 have m:q<=60:=by lia
 unfold mX;rw[cZ];show RS sG [_,_,none,none,none] _;unfold sG;walk_at "d";have a:(1:Int) < 2 ^ M:=by have:=sN (i:=0) (j:=M) (by lia);simpa using this
 split
 ·rename_i o;have c:=aE6 (p:=q) h0 (by lia);split;rename_i hn;refine k 1 (by decide) a ?_ c;rw[nK];lia;have:n=0:=by lia
  subst this;refine k 0 (by decide) (by lia) ?_ ?_;rw[Int.zero_pow (by lia)];exact Int.le_refl 0;show(0:Int) < (0+1) ^ q;rw[Int.zero_add,nK];decide
 ·rename_i o;have s:=cS9 (p:=q) h0 (by lia);have d:1<=n:=by have:=fF q;lia
  rw[← iI];refine dQ0 b M2 l m h d λj z e t f g=>?_;walk_at "d";rw[← iI];refine dQ1 b M2 l m h e t f g λlo hi x l1 l2 u v=>?_;walk_at "d";exact k lo l1 l2 u v
def bV1{i:Int}{K:Res->List Sl->Prop}(k:K (.val (.bl true)) [⟨.val,.int i⟩]):CK eG [⟨.val,.int i⟩] K:=by
 unfold eG;rw[cZ];show RS fA [_] _;unfold fA;walk_at "d";exact k
noncomputable def pr(zs:List (List (List Int)×Int)):Int:=zs.foldl (λa p=>a*(p.1.length:Int) ^ p.2.toNat) 1
def bK0(zs:List (List (List Int)×Int))(p:List (List Int)×Int):pr (zs++[p])=pr zs*(p.1.length:Int) ^ p.2.toNat:=by
 unfold pr;rw[List.foldl_append];rfl
def Zs(zs:List (List (List Int)×Int)):Prop:=zs.length<=6/\∀ p∈zs,p.1.length<=40/\0<=p.2/\p.2<=60
def bK1{s n:Nat}(hs:s<=40)(hn:n<=60):0<=(s:Int) ^ n/\(s:Int) ^ n<=2 ^ 360:=by
 refine⟨Int.pow_nonneg (by lia),?_⟩;have a:s ^ n<=(2 ^ 6) ^ 60:=a8b (Nat.pow_le_pow_left (show s<=2 ^ 6 by lia) n) (Nat.pow_le_pow_right (by decide) hn);rw[← Nat.pow_mul]at a
 exact_mod_cast a
theorem dJ6:∀ {zs:List (List (List Int)×Int)},(∀ p∈zs,p.1.length<=40/\0<=p.2/\p.2<=60)->∀ (a:Int) (k:Nat),0<=a->a<=2 ^ k->0<=zs.foldl (λa p=>a*(p.1.length:Int) ^ p.2.toNat) a/\zs.foldl (λa p=>a*(p.1.length:Int) ^ p.2.toNat) a<=2 ^ (k+360*zs.length)
 | [],_,a,k,h0,b=>⟨h0,by simpa using b⟩
 | p::r,h,a,k,h0,b=>by
   obtain⟨d,i,j⟩:=h p a6a;obtain⟨c,e⟩:=bK1 (s:=p.1.length) (n:=p.2.toNat) d (by lia);have g:=dJ6 (zs:=r) (λq f=>h q (a7a _ f)) (a*(p.1.length:Int) ^ p.2.toNat) (k+360) (Int.mul_nonneg h0 c) (by rw[Int.pow_add];exact Int.mul_le_mul b e c (Int.pow_nonneg (by decide)));rw[List.foldl_cons,a1g,show k+360*(r.length+1)=k+360+360*r.length by lia];exact g
def bK2{zs:List (List (List Int)×Int)}(h:Zs zs):0<=pr zs/\pr zs < 2 ^ 2161:=by
 obtain⟨h0,a⟩:=dJ6 h.2 1 0 (by decide) (by decide);refine⟨h0,Int.lt_of_le_of_lt a (sN ?_)⟩;have:=h.1;lia
theorem Zs.take{zs:List (List (List Int)×Int)}(h:Zs zs)(i:Nat):Zs (zs.take i):=⟨by rw[a3d];have:=h.1;lia,λp a=>h.2 p (a1f a)⟩
def bK3{x:Int}{k:Nat}(h0:0<=x)(h:x < 2 ^ k)(a:k<=1000000):Builtin.Int.intBits x<=2 ^ 20:=by
 have:=wH (pI h0 h);have e:(2:Nat) ^ 20=1048576:=by decide
 lia
def aG0{x y:Int}{k l:Nat}(h0:0<=x)(h:x < 2 ^ k)(a:k<=1000000)(b:0<=y)(g:y < 2 ^ l)(hl:l<=1000000):nZ x y:=.inr ⟨bK3 h0 h a,bK3 b g hl⟩
noncomputable abbrev nD(ns:List Int):D:=.tup (ns.map D.int)
theorem cT1:∀ (hs:List (List (List Int))) (ns:List Int),pQ (hs.map rD) (ns.map D.int)=(hs.zip ns).map λp=>.tup [rD p.1,.int p.2]
 | [],_=>by simp[pQ]
 | _::_,[]=>by simp[pQ]
 | q::qs,r::hs=>by
   show D.tup [rD q,.int r]::pQ (qs.map rD) (hs.map D.int)=_;rw[cT1 qs hs];rfl
def aS6{hs:List (List (List Int))}{ns:List Int}(hl:hs.length=ns.length)(hz:Zs (hs.zip ns)){K:Res->List Sl->Prop}(k:K (.val (.int (pr (hs.zip ns)))) [⟨.val,hD hs⟩,⟨.val,nD ns⟩]):CK cT [⟨.val,hD hs⟩,⟨.val,nD ns⟩] K:=by
 unfold cT;rw[cZ];show RS dB [_,_,none,none,none,none] _;unfold dB;walk_at "d";rw[cT1];refine⟨by rw[a1a,a1a];exact hl,fE (λi c=>∃ e f g h a b,c=[_,_,some ⟨.val,.int (pr ((hs.zip ns).take i))⟩,ov e f,ov g h,ov a b]) ⟨false,.non,false,.non,false,.non,rfl⟩ ?_ ?_⟩;rintro i d c hd ⟨e,f,g,h,a,b,rfl⟩;obtain⟨p,l,rfl⟩:=iV hd;obtain⟨m,n,o⟩:=hz.2 p (a4b l);have pm:(p.1.map tI).length=p.1.length:=a1a _;walk_at "d";refine⟨by lia,fE (λj c=>∃ a b,c=[_,_,some ⟨.val,.int (pr ((hs.zip ns).take i)*(p.1.length:Int) ^ j)⟩,_,_,ov a b]) ⟨a,b,by rw[Int.pow_zero,Int.mul_one]⟩ ?_ ?_⟩;rintro j d c hd ⟨a,b,rfl⟩;walk_at "d";rw[pm];exact⟨.inl (.inr ⟨by lia,by lia⟩),_,.inl rfl,true,_,by rw[Int.pow_succ,Int.mul_assoc];rfl⟩;rintro c ⟨a,b,rfl⟩;rw[dF];exact⟨_,.inl rfl,true,_,true,_,a,b,by rw[← nG l,bK0];rfl⟩;rintro c ⟨e,f,g,h,a,b,rfl⟩;rw[a1a,List.take_length];walk_at "d";exact k
def aM9{hs:List (List (List Int))}{ns:List Int}{m:Int}(hl:hs.length=ns.length)(hz:Zs (hs.zip ns)){K:Res->List Sl->Prop}(k:K (.val (.int (pr (hs.zip ns)))) [⟨.val,hD hs⟩,⟨.val,.tup [.int m,nD ns]⟩]):CK bC [⟨.val,hD hs⟩,⟨.val,.tup [.int m,nD ns]⟩] K:=by
 unfold bC;rw[cZ];show RS bY [_,_,none,none,none] _;unfold bY;walk_at "d";rw[cT1];refine⟨by rw[a1a,a1a];exact hl,fE (λi a=>∃ b c e f,a=[_,_,some ⟨.val,.int (pr ((hs.zip ns).take i))⟩,ov b c,ov e f]) ⟨false,.non,false,.non,rfl⟩ ?_ ?_⟩;rintro i d a hd ⟨b,c,e,f,rfl⟩;obtain⟨p,g,rfl⟩:=iV hd;obtain⟨h,j,t⟩:=hz.2 p (a4b g);have pm:(p.1.map tI).length=p.1.length:=a1a _;obtain⟨l,o⟩:=bK2 (hz.take i);obtain⟨q,r⟩:=bK1 (s:=p.1.length) (n:=p.2.toNat) h (by lia);walk_at "d";rw[pm];refine iK (B:=6) (by lia) (by decide) j (by lia) (by lia) ?_;walk_at "d";exact⟨aG0 l o (by decide) q (Int.lt_of_le_of_lt r (sN (show 360 < 361 by decide))) (by decide),_,.inl rfl,true,_,true,_,by rw[← nG g,bK0];rfl⟩;rintro a ⟨b,c,e,f,rfl⟩;rw[a1a,List.take_length];walk_at "d";exact k
def cT2{n p:Int}{M:Nat}(M1:1<=M)(M2:M<=3000)(h0:0<=n)(G:n < 2 ^ M)(H:1<=p)(I:p<=60){K:Res->List Sl->Prop}
  (k:∀ r:Int,0<=r->r < 2 ^ M->r ^ p.toNat<=n->n < (r+1) ^ p.toNat->K (.val (.int r)) [⟨.val,.int n⟩,⟨.val,.int p⟩]):CK dL [⟨.val,.int n⟩,⟨.val,.int p⟩] K:=by
 obtain⟨q,g⟩:∃ q:Nat,p.toNat=q:=⟨_,rfl⟩;rw[g]at k;have o:1<=q:=by lia
 have w:q<=60:=by lia
 have t:(M+2)*p.toNat<=1000000:=by
  rw[g];exact a8b (Nat.mul_le_mul (show M+2<=3002 by lia) w) (by lia)
 unfold dL;rw[cZ];show RS gF [_,_,none,none] _;unfold gF;walk_at "d";refine kL (λm τ=>∃ (j:Nat) (s:Int),s=2 ^ j/\m+j=M/\(j=0\/((2:Int) ^ j) ^ q<=n)/\τ=[_,_,some ⟨.val,.int s⟩,none]) M (by lia) ⟨0,1,rfl,rfl,.inl rfl,rfl⟩ ?_;rintro m τ ⟨j,s,hs,hm,x,rfl⟩;have h:j<=M:=by lia
 have A:j < M:=by
  rcases x with z | z;lia;have:=Int.le_trans (aM8 (fF j) o) z;rcases Nat.lt_or_ge j M with y | y;exact y;have e:j=M:=by lia
  rw[e]at this;lia
 have s2:2*s=2 ^ (j+1):=by rw[hs,Int.pow_succ,Int.mul_comm]
 have C:(2*s).natAbs < 2 ^ (M+2):=by
  rw[s2,Int.natAbs_pow];exact Nat.pow_lt_pow_right (by decide) (by lia)
 walk_at "d";refine nJ (B:=M+2) C (by lia) (by lia) t (by lia) ?_;walk_at "d";rw[g];split;rename_i b;exact .inl ⟨_,m-1,.inl rfl,by lia,j+1,_,s2,by lia,.inr (by rw[← s2];exact b),rfl⟩;rename_i b;have J:=uL (i:=j) (j:=M) h;have sp:=fF j;refine kL (λm τ=>∃ (s f:Int),s=2 ^ m / 2/\m<=j+1/\0<=f/\f ^ q<=n/\n < (f+2 ^ m) ^ q/\τ=[_,_,some ⟨.val,.int s⟩,some ⟨.val,.int f⟩]) (j+1) (by lia) ⟨s,0,by rw[← s2];lia,a4a _,by lia,by rw[Int.zero_pow (by lia)];exact h0,by rw[Int.zero_add,← s2];lia,rfl⟩ ?_;rintro m τ ⟨s,f,es,hm,u,v,l,rfl⟩;have D:f < 2 ^ M:=by
  by_cases z:f=0;have:=fF M;lia;have:=aM8 (a:=f) (p:=q) (by lia) o;lia
 walk_at "d";split
 ·rename_i c;obtain⟨m',rfl⟩:∃ m',m=m'+1:=by
   cases m with
   | zero=>rw[es,Int.pow_zero]at c;exact absurd c (by decide)
   | succ m'=>exact⟨m',rfl⟩
  have d:s=2 ^ m':=by rw[es,Int.pow_succ];lia
  have L:=uL (i:=m') (j:=M) (by lia);have N:(2:Int) ^ (M+2)=4*2 ^ M:=by rw[Int.pow_add,Int.mul_comm];rfl
  have O:=fF m';have E:(f+s).natAbs < 2 ^ (M+2):=pI (by lia) (by lia);refine nJ (B:=M+2) E (by lia) (by lia) t (by lia) ?_;walk_at "d";rw[g];rw[Int.pow_succ]at l;split;rename_i b;exact .inl ⟨_,m',.inl rfl,a3e _,_,_,by rw[d],by lia,by lia,b,by rw[d];rwa[show f+2 ^ m'+2 ^ m'=f+2 ^ m'*2 by lia],rfl⟩;rename_i b;exact .inl ⟨_,m',.inl rfl,a3e _,_,_,by rw[d],by lia,u,v,by rw[← d];lia,rfl⟩
 ·rename_i c;have F:m=0:=by
   cases m with
   | zero=>rfl
   | succ m'=>rw[es,Int.pow_succ]at c;have:=fF m';lia
  subst F;rw[Int.pow_zero]at l;exact k f u D v l
def cT3{len:Nat}{b:DS}{as:List Sl}{K:Res->List Sl->Prop}(h:RS b (ini len as) (cB9 as K)):CK (okR (dL1 len b)) as K:=by
 obtain⟨o,e,q⟩:=hX.mp h;unfold CK okR dL1;rw[e];cases o with
 | nx σ=>exact q
 | rt r σ=>
   obtain⟨d,a,q⟩:=hX.mp q;show OK1 (((bQ7 σ r).bind _).bind _) _;rw[a];exact q
 | bk σ=>exact q.elim
 | ct σ=>exact q.elim
 | ex c f σ=>exact q.elim
def cF3{neg:Bool}{z:Str}{zs:List Str}(hz:As z)(h:∀ z∈zs,As z){K:Res->Prop}(k:K (.val (.bl (if neg=true then !zs.contains z else zs.contains z)))):OK1 (inD neg (.str z) (.tup (zs.map D.str))) K:=by
 show OK1 (if _ then _ else none) K;rw[bD];refine⟨⟨aF8 hz,wG h⟩,?_⟩;have e:((zs.map D.str).any λy=>aI7 y (.str z))=zs.contains z:=by
  rw[List.any_map,List.contains_eq_any_beq];congr 1;funext y;show(y==z)=(z==y);rw[a5f,a4p,a4p,eq_comm]
 rw[e];exact k
def dQ2{n:Nat}{k:Int}(h0:0<=k)(a:k < n):ixN n k=some k.toNat:=by
 unfold ixN;rw[a3Y h0,a3Y (by lia)]
noncomputable def sz(z:Str):List (Str×List Str)->List Int->Int
 | q::r,n::ns=>(if q.2.contains z=true then n else 0)+sz z r ns
 | _,_=>0
theorem bK4(z:Str):∀ (qs:List (Str×List Str)) (ns:List Int),(((qs.zip ns).filter λp=>p.1.2.contains z).map Prod.snd).sum=sz z qs ns
 | [],_=>by simp[sz]
 | _::_,[]=>by simp[sz]
 | q::r,n::ns=>by
   rw[List.zip_cons_cons,List.filter_cons];show _=(if q.2.contains z=true then n else 0)+sz z r ns;rw[← bK4 z r ns];split;rfl;rw[Int.zero_add]
noncomputable def ixs(z:Str)(k:Nat):List (Str×List Str)->List Nat
 | []=>[]
 | q::r=>if q.2.contains z=true then k::ixs z (k+1) r else ixs z (k+1) r
theorem aN0(z:Str)(q:Str×List Str):∀ (qs:List (Str×List Str)) (k:Nat),ixs z k (qs++[q])=ixs z k qs++if q.2.contains z=true then[k+qs.length]else[]
 | [],k=>by unfold ixs;rfl
 | p::r,k=>by
   have a:=aN0 z q r (k+1);rw[show k+1+r.length=k+(p::r).length by rw[a1g];lia]at a;show(if p.2.contains z=true then k::ixs z (k+1) (r++[q])else ixs z (k+1) (r++[q]))=(if p.2.contains z=true then k::ixs z (k+1) r else ixs z (k+1) r)++_;rw[a];split<;>rfl
theorem aG1{z:Str}:∀ {qs:List (Str×List Str)} {k j:Nat},j∈ixs z k qs->k<=j/\∃ q,qs[j-k]? = some q/\q.2.contains z=true
 | [],k,j,h=>nomatch h
 | q::r,k,j,h=>by
   have step:j∈ixs z (k+1) r->k<=j/\∃ q',(q::r)[j-k]? = some q'/\q'.2.contains z=true:=λh=>by
    obtain⟨d,q',a,b⟩:=aG1 h;refine⟨by lia,q',?_,b⟩;rw[show j-k=(j-(k+1))+1 by lia,a8c];exact a
   unfold ixs at h;split at h;rename_i c;rcases a5b.mp h with rfl | h;exact⟨a4a _,q,by rw[Nat.sub_self];rfl,c⟩;exact step h;exact step h
theorem cF4{z:Str}:∀ {qs:List (Str×List Str)} (k:Nat),(∃ q∈qs,z∈q.2)->0 < (ixs z k qs).length
 | [],_,⟨_,h,_⟩=>nomatch h
 | q::r,k,⟨p,h,a⟩=>by
   unfold ixs;split;exact Nat.succ_pos _;rename_i b;rcases a5b.mp h with rfl | h;exact absurd (List.contains_iff_mem.mpr a) b;exact cF4 (k+1) ⟨p,h,a⟩
theorem dJ7(z:Str):∀ (qs:List (Str×List Str)) (ns pre:List Int),qs.length=ns.length->((ixs z pre.length qs).map λj=>(pre++ns).getD j 0).sum=sz z qs ns
 | [],_,_,_=>by simp[sz,ixs]
 | q::r,[],_,h=>by simp at h
 | q::r,n::ns,pre,h=>by
   have a:=dJ7 z r ns (pre++[n]) (by simpa using h);rw[List.append_assoc,a0c,List.length_singleton]at a;show((if q.2.contains z=true then pre.length::ixs z (pre.length+1) r else ixs z (pre.length+1) r).map λj=>(pre++n::ns).getD j 0).sum=(if q.2.contains z=true then n else 0)+sz z r ns;rw[← a];split;rw[a6e,List.sum_cons];congr 1;simp;rw[Int.zero_add];rfl
theorem cF5{c:Int}{z:Str}:∀ {qs:List (Str×List Str)} {ns:List Int} {j:Nat} {q:Str×List Str},qs.length=ns.length->qs[j]? = some q->sz z qs (ns.set j (ns.getD j 0+c))=sz z qs ns+if q.2.contains z=true then c else 0
 | [],_,_,_,_,h=>by simp at h
 | p::r,[],_,_,h,_=>by simp at h
 | p::r,n::ns,0,q,_,a=>by
   obtain rfl:p=q:=by simpa using a
   show(if p.2.contains z=true then n+c else 0)+sz z r ns=(if p.2.contains z=true then n else 0)+sz z r ns+_;split<;>lia
 | p::r,n::ns,j+1,q,b,a=>by
   have d:=cF5 (c:=c) (z:=z) (qs:=r) (ns:=ns) (j:=j) (q:=q) (by simpa using b) (by simpa using a);show(if p.2.contains z=true then n else 0)+sz z r (ns.set j (ns.getD j 0+c))=(if p.2.contains z=true then n else 0)+sz z r ns+_;rw[d,Int.add_assoc]
theorem dJ8{z:Str}:∀ {qs:List (Str×List Str)} {ns:List Int},(∀ n∈ns,0<=n)->0<=sz z qs ns
 | [],_,_=>by unfold sz;exact Int.le_refl _
 | _::_,[],_=>by unfold sz;exact Int.le_refl _
 | q::r,n::ns,h=>by
   have a:=dJ8 (z:=z) (qs:=r) (ns:=ns) λm hm=>h m (a7a _ hm);have:=h n a6a;show 0<=(if q.2.contains z=true then n else 0)+sz z r ns;split<;>lia
noncomputable abbrev g60(t:Int)(p:Int×Int):Int:=if p.1*t+p.2 < 60 then p.1*t+p.2 else 60
theorem aN1{z:Str}{t:Int}(d:1<=t):∀ {qs:List (Str×List Str)} {ns os:List Int},ns.length=os.length->(∀ n∈ns,0<=n)->(∀ n∈os,0<=n)->(if sz z qs ns*t < 60 then sz z qs ns*t else 60)<=sz z qs ((ns.zip os).map (g60 t))
 | [],ns,os,_,_,_=>by simp[sz]
 | q::r,[],os,_,_,_=>by simp[sz]
 | q::r,n::ns,[],h,_,_=>by simp at h
 | q::r,n::ns,o::os,h,b,c=>by
   have a:=aN1 (z:=z) d (qs:=r) (ns:=ns) (os:=os) (by simpa using h) (λm hm=>b m (a7a _ hm)) (λm hm=>c m (a7a _ hm));have e:=b n a6a;have j:=c o a6a;have f:=dJ8 (z:=z) (qs:=r) (ns:=ns) λm hm=>b m (a7a _ hm);have g:0<=n*t:=Int.mul_nonneg e (by lia);have i:0<=sz z r ns*t:=Int.mul_nonneg f (by lia);show(if((if q.2.contains z=true then n else 0)+sz z r ns)*t < 60 then((if q.2.contains z=true then n else 0)+sz z r ns)*t else 60)<=(if q.2.contains z=true then(if n*t+o < 60 then n*t+o else 60)else 0)+sz z r ((ns.zip os).map (g60 t));generalize sz z r ((ns.zip os).map (g60 t))=S at a;cases q.2.contains z;simp only[Bool.false_eq_true,↓reduceIte,Int.zero_add];exact a;simp only[↓reduceIte];rw[Int.add_mul];generalize n*t=A at g;generalize sz z r ns*t=B at i a;split at a<;>split<;>split<;>lia
structure Cv(qs:List (Str×List Str))(m:Int)(ns:List Int):Prop where
 l:ns.length=qs.length
 n:∀ n∈ns,0<=n
 c:∀ z∈bU qs,m<=sz z qs ns
def uM{qs:List (Str×List Str)}(a:Qn qs){K:Res->List Sl->Prop}(k:K (.val (.tup ((bU qs).map D.str))) [⟨.val,qD qs⟩]):CK cM [⟨.val,qD qs⟩] K:=by
 unfold cM;rw[cZ];show RS eE [_,none,none,none,none] _;unfold eE;walk_at "d";refine⟨a7c _,sL a λb c d e=>?_⟩;walk_at "d";exact k
def bK5{qs:List (Str×List Str)}(a:Qn qs):∀ z∈bU qs,As z:=λz b=>by
 obtain⟨q,c,d⟩:=sJ b;exact((a.2 q c).2.2 z d).2
theorem cF6:∀ (qs:List (Str×List Str)) (ns:List Int),pQ (qs.map qP) (ns.map D.int)=(qs.zip ns).map λp=>.tup [qP p.1,.int p.2]
 | [],_=>by simp[pQ]
 | _::_,[]=>by simp[pQ]
 | q::qs,r::hs=>by
   show D.tup [qP q,.int r]::pQ (qs.map qP) (hs.map D.int)=_;rw[cF6 qs hs];rfl
theorem cF7:∀ (qs:List Int) (ns:List Int),pQ (qs.map D.int) (ns.map D.int)=(qs.zip ns).map λp=>.tup [.int p.1,.int p.2]
 | [],_=>by simp[pQ]
 | _::_,[]=>by simp[pQ]
 | q::qs,r::hs=>by
   show D.tup [.int q,.int r]::pQ (qs.map D.int) (hs.map D.int)=_;rw[cF7 qs hs];rfl
def zU{qs:List (Str×List Str)}{m:Int}{ns:List Int}(b:Qn qs)(n:Cv qs m ns){K:Res->List Sl->Prop}(k:K (.val .non) [⟨.val,qD qs⟩,⟨.val,.tup [.int m,nD ns]⟩]):CK bR [⟨.val,qD qs⟩,⟨.val,.tup [.int m,nD ns]⟩] K:=by
 have sl:10000<=sizeLine:=by decide
 have o:=b.1;unfold bR;rw[cZ];show RS bX [_,_,none,none,none,none] _;unfold bX;walk_at "d";refine uM b ?_;walk_at "d";refine fE (λi e=>∃ f g h,e=[_,_,ov f g,fo h,none,none]) ⟨false,.non,none,rfl⟩ ?_ ?_;rintro i d e hd ⟨f,g,h,rfl⟩;obtain⟨z,q,rfl⟩:=iV hd;have a:=a4b q;walk_at "d";rw[cF6];refine⟨by rw[a1a,a1a,n.l],by rw[a1a,List.length_zip];lia,pH (λp=>p.1.2.contains z) (λp=>.int p.2) (λp=>.tup [qP p.1,.int p.2]) (qs.zip ns) [_,_,_,_,none,none] rfl (λp r=>?_) ?_⟩;have j:=b.2 p.1 (List.of_mem_zip r).1;walk_at "d";refine cF3 (bK5 b z a) (λy s=>(j.2.2 y s).2) ?_;walk_at "d";walk_at "d";rw[show(((qs.zip ns).filter λp=>p.1.2.contains z).map λp=>D.int p.2)=(((qs.zip ns).filter λp=>p.1.2.contains z).map Prod.snd).map D.int by rw[List.map_map];rfl];walk_at "d";rw[bK4,a3Z (by have:=n.c z a;lia)];exact⟨_,.inl rfl,true,_,some (true,_),rfl⟩;rintro e ⟨f,g,h,rfl⟩;walk_at "d";exact k
def bK6{qs:List (Str×List Str)}{m:Int}{ns:List Int}(a:Qn qs)(b:Cv qs m ns){K:Res->List Sl->Prop}(k:K (.val .non) [⟨.val,qD qs⟩,⟨.val,.tup [.int m,nD ns]⟩]):CK cN [⟨.val,qD qs⟩,⟨.val,.tup [.int m,nD ns]⟩] K:=by
 unfold cN gU;refine cT3 ?_;show RS eF [_,_,none] _;unfold eF;walk_at "d";refine zU a b ?_;walk_at "d";show OK1 (isD true .non .non) _;rw[show isD true .non .non=some (.val (.bl false)) by unfold isD;simp];walk_at "d";exact k
noncomputable abbrev cvS(a b:Int)(qs:List (Str×List Str))(m:Int)(ns:List Int)(c d e f:Option Sl):Sg:=[some ⟨.par,.lst [.int a,.int b]⟩,some ⟨.val,qD qs⟩,some ⟨.val,.int m⟩,some ⟨.own,.lst (ns.map D.int)⟩,c,d,e,f,none,none,none,none]
noncomputable abbrev iD(j:Nat):D:=.int (j:Int)
def bV2{a b:Int}{qs:List (Str×List Str)}(H:Qn qs){K:Res->List Sl->Prop}(k:∀ m ns g o,1<=m->m<=6->Cv qs m ns->K (.val (.tup [.int m,nD ns])) [⟨.par,.lst [.int g,.int o]⟩,⟨.val,qD qs⟩]) :
  CK eD [⟨.par,.lst [.int a,.int b]⟩,⟨.val,qD qs⟩] K:=by
 have sl:10000<=sizeLine:=by decide
 have Y:=H.1;unfold eD;rw[cZ];show RS eZ [_,_,none,none,none,none,none,none,none,none,none,none] _;unfold eZ;walk_at "d";refine bS (by decide) (by decide) λw a1 Z w0 w1=>?_;walk_at "d";obtain⟨m,hm,m1,m6⟩:∃ m:Int,1+w=m/\1<=m/\m<=6:=⟨_,rfl,by lia,by lia⟩;rw[hm];refine⟨by rw[a1a];lia,eV _ _ (λi acc τ=>∃ (ns:List Int) (g o:Int),acc=ns.map D.int/\ns.length=i/\(∀ n∈ns,0<=n)/\τ=[some ⟨.par,.lst [.int g,.int o]⟩,_,some ⟨.val,.int m⟩,none,none,none,none,none,none,none,none,none]) ⟨[],a1,Z,rfl,rfl,λ_ h=>absurd h List.not_mem_nil,rfl⟩ ?_ ?_⟩;rintro i d acc τ hd ⟨ns,g,o,rfl,hl,hn,rfl⟩;walk_at "d";refine bS (by lia) (by lia) λv a2 N O X=>?_;walk_at "d";refine⟨_,rfl,ns++[v],a2,N,by rw[a2e];rfl,by rw[a0c,hl];rfl,λn h=>?_,rfl⟩;rcases a1c.mp h with h | h;exact hn n h;rw[a3b.mp h];exact O;rintro acc τ ⟨ns,a2,N,rfl,hl,hn,rfl⟩;rw[a1a]at hl;walk_at "d";refine lK H ?_;walk_at "d";refine fE (λi τ=>∃ (ns:List Int) (g o:Int) (P:Bool) (Q:D) (R:Option (Bool×D)) (S:Bool) (T:D) (I:Bool) (J:D),ns.length=qs.length/\(∀ n∈ns,0<=n)/\(∀ (j:Nat) z,j < i->(bU qs)[j]? = some z->m<=sz z qs ns)/\τ=cvS g o qs m ns (ov P Q) (fo R) (ov S T) (ov I J)) ⟨ns,a2,N,false,.non,none,false,.non,false,.non,hl,hn,λj z h=>absurd h (a0g _),rfl⟩ ?_ ?_
 ·rintro i d τ hd ⟨ns,g,o,P,Q,R,S,T,I,J,hl,hn,L,rfl⟩;obtain⟨z,M,rfl⟩:=iV hd;have A:=a4b M;have U:=sJ A;unfold cvS;walk_at "d";refine⟨by rw[eU,a1a];lia,eV _ _ (λi acc τ=>acc=(ixs z 0 (qs.take i)).map iD/\τ=[_,_,_,_,some ⟨.val,.str z⟩,_,_,_,none,none,none,none]) ⟨rfl,rfl⟩ ?_ ?_⟩;rintro i d acc τ hd ⟨rfl,rfl⟩;obtain⟨y,u,rfl⟩:=hZ hd;obtain⟨q,x,rfl⟩:=iV u;have hil:=(a3a.mp x).1;have V:=H.2 q (a4b x);have e:=aN0 z q (qs.take i) 0;rw[nG x,a3d,Nat.min_eq_left (by lia),a6g]at e;walk_at "d";refine cF3 (bK5 H z A) (λy u=>(V.2.2 y u).2) ?_;walk_at "d";split;rename_i h;refine⟨_,rfl,?_⟩;rw[e,a3Y h,a2e];rfl;rename_i h;rw[e,a3Z h,a3g];rintro acc τ ⟨rfl,rfl⟩;rw[eU,a1a,List.take_length];walk_at "d";have B:∀ j∈ixs z 0 qs,j < qs.length:=λj s=>by
   obtain⟨_,q,h,_⟩:=aG1 s;have:=(a3a.mp h).1;lia
  have ix0:=cF4 0 U;have ixh:(ixs z 0 qs).length<=200:=by
   have:∀ (l:List (Str×List Str)) (k:Nat),(ixs z k l).length<=l.length:=λl=>by
    induction l with
    | nil=>intro k;exact a4a _
    | cons p r ih=>intro k;unfold ixs;have:=ih (k+1);split<;>(simp only[List.length_cons];lia)
   have:=this qs 0;lia
  have W:((ixs z 0 qs).map iD).length=(ixs z 0 qs).length:=a1a _;refine⟨by lia,nF (λj=>.int (ns.getD j 0)) iD (ixs z 0 qs) [_,_,_,_,_,some ⟨.lent,.lst ((ixs z 0 qs).map iD)⟩,_,_,none,none,none,none] rfl (λj s=>?_) ?_⟩;have:=B j s;walk_at "d";rw[bJ7 (by lia)];rfl;walk_at "d";have es:=dJ7 z qs ns [] hl.symm;rw[List.nil_append,a5h]at es;rw[show((ixs z 0 qs).map λj=>D.int (ns.getD j 0))=((ixs z 0 qs).map λj=>ns.getD j 0).map D.int by rw[List.map_map];rfl];walk_at "d";rw[es];have next:∀ f:List Int,f.length=qs.length->(∀ n∈f,0<=n)->(∀ y,sz y qs ns<=sz y qs f)->m<=sz z qs f->f.length=qs.length/\(∀ n∈f,0<=n)/\∀ (j:Nat) y,j < i+1->(bU qs)[j]? = some y->m<=sz y qs f:=λf h1 h2 h3 h4=>⟨h1,h2,λj y s u=>by
   by_cases e:j=i;subst e;rw[M]at u;cases u;exact h4;exact Int.le_trans (L j y (by lia) u) (h3 y)⟩
  split
  ·rename_i C;rw[W];refine bS (by lia) (by lia) λv a3 b3 O X=>?_;obtain⟨j,s,E⟩:=dJ3 iD (l:=ixs z 0 qs) (i:=v) O X;obtain⟨_,q,F,G⟩:=aG1 E;rw[Nat.sub_zero]at F;have hjl:=B j E;walk_at "d";rw[s];walk_at "d";rw[bJ7 (by lia)];walk_at "d";rw[dQ2 (by lia) (by rw[a1a];lia)];walk_at "d";have t:=λy=>cF5 (c:=m-sz z qs ns) (z:=y) hl.symm F;obtain⟨n1,n2,n3⟩:=next (ns.set j (ns.getD j 0+(m-sz z qs ns))) (by rw[a9f];exact hl) (λn h=>by
    rcases List.mem_or_eq_of_mem_set h with h | rfl;exact hn n h;have:0<=ns.getD j 0:=by
     rw[a1e,a0a (by lia)];exact hn _ (List.getElem_mem _)
    lia) (λy=>by rw[t y];split<;>lia) (by rw[t z,a3Y G];lia)
   exact⟨_,.inl rfl,ns.set j (ns.getD j 0+(m-sz z qs ns)),a3,b3,true,_,some (true,_),true,_,true,_,n1,n2,n3,by rw[a3j,List.map_set];rfl⟩
  ·rename_i C;obtain⟨n1,n2,n3⟩:=next ns hl hn (λ_=>Int.le_refl _) (by lia)
   exact⟨_,.inl rfl,ns,g,o,true,_,some (true,_),true,_,I,J,n1,n2,n3,rfl⟩
 ·rintro τ ⟨ns,g,o,P,Q,R,S,T,I,J,hl,hn,L,rfl⟩;rw[a1a]at L;unfold cvS;walk_at "d";refine⟨sl2,k m ns g o m1 m6 ⟨hl,hn,λz M=>?_⟩⟩;obtain⟨j,s⟩:=List.mem_iff_getElem?.mp M;exact L j z (a3a.mp s).1 s
def bV3{a b:Int}{qs:List (Str×List Str)}(B:Qn qs){K:Res->List Sl->Prop}(k:∀ m ns g j,1<=m->m<=60->(∀ n∈ns,n<=60)->Cv qs m ns->K (.val (.tup [.int m,nD ns])) [⟨.par,.lst [.int g,.int j]⟩,⟨.val,qD qs⟩]) :
  CK bQ [⟨.par,.lst [.int a,.int b]⟩,⟨.val,qD qs⟩] K:=by
 have sl:10000<=sizeLine:=by decide
 have H:=B.1;unfold bQ;rw[cZ];show RS bW [_,_,none,none,none,none,none,none] _;unfold bW;walk_at "d";refine bV2 B λm ns a1 V m1 I o=>?_;have J:=o.l;walk_at "d";refine⟨sl2,bS (by decide) (by decide) λu a2 L M N=>?_⟩;walk_at "d";obtain⟨t,q,r,O⟩:∃ t:Int,atI [D.int 1,.int 10] u=some (.int t)/\0 < t/\t<=10:=by
  have:u=0\/u=1:=by lia
  rcases this with rfl | rfl<;>exact⟨_,rfl,by decide,by decide⟩
 rw[q];walk_at "d";refine bS r (by lia) λv a3 s C P=>?_;walk_at "d";obtain⟨f,Q,E,w⟩:∃ f:Int,1+v=f/\1<=f/\f<=10:=⟨_,rfl,by lia,by lia⟩;rw[Q];refine⟨by rw[a1a];lia,eV _ _ (λi acc τ=>∃ (os:List Int) (g j:Int),acc=os.map D.int/\os.length=i/\(∀ n∈os,0<=n)/\τ=[some ⟨.par,.lst [.int g,.int j]⟩,_,_,_,some ⟨.val,.int f⟩,none,none,none]) ⟨[],a3,s,rfl,rfl,λ_ h=>absurd h List.not_mem_nil,rfl⟩ ?_ ?_⟩
 ·rintro i d acc τ hd ⟨os,g,j,rfl,hl,hn,rfl⟩;obtain⟨y,_,rfl⟩:=iV hd;walk_at "d";refine⟨sl2,bS (by decide) (by decide) λu a2 L M N=>?_⟩;walk_at "d";obtain⟨t,q,r,O⟩:∃ t:Int,atI [D.int 1,.int 3] u=some (.int t)/\0 < t/\t<=3:=by
   have:u=0\/u=1:=by lia
   rcases this with rfl | rfl<;>exact⟨_,rfl,by decide,by decide⟩
  rw[q];walk_at "d";refine bS r (by lia) λv a3 s C P=>?_;walk_at "d";refine⟨_,rfl,os++[v],a3,s,by rw[a2e];rfl,by rw[a0c,hl];rfl,λn h=>?_,rfl⟩;rcases a1c.mp h with h | h;exact hn n h;rw[a3b.mp h];exact C
 ·rintro acc τ ⟨os,a4,R,rfl,hl,hn,rfl⟩;rw[a1a]at hl;walk_at "d";rw[cF7];refine⟨.inl (.inr ⟨by lia,by lia⟩),by rw[a1a,a1a,hl],by rw[a1a,List.length_zip];lia,nF (λp=>.int (g60 f p)) (λp=>.tup [.int p.1,.int p.2]) (ns.zip os) [_,_,_,_,_,some ⟨.lent,.lst (os.map D.int)⟩,none,none] rfl (λp x=>?_) ?_⟩;walk_at "d";exact .inl (.inr ⟨by lia,by lia⟩);walk_at "d";have S:m*f<=60:=by
   have e:=Int.mul_le_mul I w (by lia) (by decide);exact Int.le_trans e (by decide)
  have A:1<=m*f:=by
   have e:=Int.mul_le_mul m1 E (by decide) (by lia);exact e
  have F:∀ n∈(ns.zip os).map (g60 f),0<=n/\n<=60:=λn h=>by
   obtain⟨p,x,rfl⟩:=a1i.mp h;have e:=o.n p.1 (List.of_mem_zip x).1;have G:=hn p.2 (List.of_mem_zip x).2;have T:0<=p.1*f:=Int.mul_nonneg e (by lia);unfold g60;split<;>lia
  refine⟨sl2,?_⟩;rw[show((ns.zip os).map λp=>D.int (g60 f p))=((ns.zip os).map (g60 f)).map D.int by rw[List.map_map];rfl];refine k (m*f) ((ns.zip os).map (g60 f)) a4 R A S (λn h=>(F n h).2) ⟨by rw[a1a,List.length_zip];lia,λn h=>(F n h).1,λz U=>?_⟩;have e:=aN1 (z:=z) E (qs:=qs) (ns:=ns) (os:=os) hl.symm o.n hn;have G:=o.c z U;have T:=Int.mul_le_mul_of_nonneg_right G (show 0<=f by lia);split at e<;>lia
structure Ask(qs:List (Str×List Str))(hs:List (List (List Int)))(m:Int)(ns:List Int)(w:Int):Prop where
 q:Qs1 qs
 hl:hs.length=qs.length
 hr:∀ ks∈hs,ks.length<=40
 m1:1<=m
 m60:m<=60
 n60:∀ n∈ns,n<=60
 cv:Cv qs m ns
 w0:0<=w
 w1:w < 100000
section
variable{qs:List (Str×List Str)}{hs:List (List (List Int))}{m:Int}{ns:List Int}{w:Int}
def Ask.zs(h:Ask qs hs m ns w):Zs (hs.zip ns):=by
 refine⟨by rw[List.length_zip];have:=h.hl;have:=h.q.2.1;lia,λp b=>?_⟩;obtain⟨c,a⟩:=List.of_mem_zip b;exact⟨h.hr p.1 c,h.cv.n p.2 a,h.n60 p.2 a⟩
theorem Ask.ll(h:Ask qs hs m ns w):hs.length=ns.length:=by rw[h.hl,h.cv.l]
def Ask.cl(h:Ask qs hs m ns w):(bU qs).length<=60:=by
 have b:=sK (qs:=qs) (n:=10) λq a=>(h.q.2.2 q a).2.1.2;have c:=Nat.mul_le_mul_right 10 h.q.2.1;lia
def cT4(h:Ask qs hs m ns w){K:Res->List Sl->Prop}(k:∀ r:Int,0<=r->r < 2 ^ 2161->r ^ m.toNat<=pr (hs.zip ns)->pr (hs.zip ns) < (r+1) ^ m.toNat->K (.val (.int r)) [⟨.val,qD qs⟩,⟨.val,hD hs⟩,⟨.val,.tup [.int m,nD ns]⟩]) :
  CK mY [⟨.val,qD qs⟩,⟨.val,hD hs⟩,⟨.val,.tup [.int m,nD ns]⟩] K:=by
 obtain⟨a,b⟩:=bK2 h.zs;unfold mY;rw[cZ];show RS sH [_,_,_] _;unfold sH;walk_at "d";refine bK6 (aS5 h.q) h.cv ?_;walk_at "d";refine aM9 h.ll h.zs ?_;walk_at "d";refine cT0 (M:=2161) (by decide) (by decide) a b h.m1 h.m60 λr c d e f=>?_;walk_at "d";exact k r c d e f
noncomputable def bK7(qs:List (Str×List Str))(hs:List (List (List Int)))(m:Int)(ns:List Int):Int:=pr (hs.zip ns)*(((bU qs).length:Int)*(qs.length:Int)) ^ m.toNat
def Ask.fac(h:Ask qs hs m ns w):0<=((bU qs).length:Int)*(qs.length:Int)/\((bU qs).length:Int)*(qs.length:Int) < 2 ^ 9:=by
 have a:=h.cl;have b:=h.q.2.1;refine⟨Int.mul_nonneg (by lia) (by lia),?_⟩;have:=Int.mul_le_mul (show((bU qs).length:Int)<=60 by lia) (show(qs.length:Int)<=6 by lia) (by lia) (by decide);exact Int.lt_of_le_of_lt this (by decide)
def Ask.fp(h:Ask qs hs m ns w):0<=(((bU qs).length:Int)*(qs.length:Int)) ^ m.toNat/\(((bU qs).length:Int)*(qs.length:Int)) ^ m.toNat < 2 ^ 541:=by
 obtain⟨a,b⟩:=h.fac;have c:=h.m60;refine⟨Int.pow_nonneg a,?_⟩;have d:=nM (p:=m.toNat) a (Int.le_of_lt b);have e:((2:Int) ^ 9) ^ m.toNat<=2 ^ 540:=by
  have:((2:Nat) ^ 9) ^ m.toNat<=2 ^ 540:=by rw[← Nat.pow_mul];exact Nat.pow_le_pow_right (by decide) (by lia)
  exact_mod_cast this
 exact Int.lt_of_le_of_lt (Int.le_trans d e) (sN (by decide))
def Ask.en(h:Ask qs hs m ns w):0<=bK7 qs hs m ns/\bK7 qs hs m ns < 2 ^ 2703:=by
 obtain⟨a,b⟩:=h.fp;obtain⟨c,d⟩:=bK2 h.zs;unfold bK7;refine⟨Int.mul_nonneg c a,?_⟩;have:=Int.mul_le_mul (Int.le_of_lt d) (Int.le_of_lt b) a (Int.pow_nonneg (by decide));rw[← Int.pow_add]at this;exact Int.lt_of_le_of_lt this (sN (by decide))
def bV4(h:Ask qs hs m ns w){v:Int}(a:0<=v)(b:v < 2 ^ 2704){K:Res->List Sl->Prop}(k:K (.val (.bl (decide (v ^ m.toNat<=bK7 qs hs m ns)))) [⟨.val,qD qs⟩,⟨.val,hD hs⟩,⟨.val,.tup [.int m,nD ns]⟩,⟨.val,.int v⟩]) :
  CK eJ [⟨.val,qD qs⟩,⟨.val,hD hs⟩,⟨.val,.tup [.int m,nD ns]⟩,⟨.val,.int v⟩] K:=by
 obtain⟨c,d⟩:=bK2 h.zs;obtain⟨e,f⟩:=h.fac;obtain⟨g,i⟩:=h.fp;have m1:=h.m1;have m60:=h.m60;have j:((bU qs).map D.str).length=(bU qs).length:=a1a _;have l:(qs.map qP).length=qs.length:=a1a _;have n:=h.cl;have o:=h.q.2.1;unfold eJ;rw[cZ];show RS fC [_,_,_,_,none] _;unfold fC;walk_at "d";refine bK6 (aS5 h.q) h.cv ?_;walk_at "d";refine uM (aS5 h.q) ?_;walk_at "d";rw[j,l];refine⟨.inl (.inr ⟨by lia,by lia⟩),?_⟩;refine iK (B:=2704) (pI a b) (by decide) (by lia) (by lia) (by lia) ?_;walk_at "d";refine aM9 h.ll h.zs ?_;walk_at "d";refine iK (B:=9) (pI e f) (by decide) (by lia) (by lia) (by lia) ?_;walk_at "d";exact⟨aG0 c d (by decide) g i (by decide),k⟩
def bV5{b:Bool}{K:Res->List Sl->Prop}(k:K (.val (.bl true)) [⟨.val,.bl b⟩,⟨.val,.bl b⟩]):CK eI [⟨.val,.bl b⟩,⟨.val,.bl b⟩] K:=by
 unfold eI;rw[cZ];show RS fB [_,_] _;unfold fB;walk_at "d";have e:eqD false (.bl b) (.bl b)=some (.val (.bl true)):=by cases b<;>rfl
 rw[a3Y (by decide),e];exact k
def bV6{e v N:Int}{q:Nat}(f:0<=e)(c:0<=v)(d:e ^ q<=N)(g:N < (e+1) ^ q):decide (v ^ q<=N)=decide (v<=e):=by
 rw[a5f,a4o,a4o];constructor;intro h;rcases Int.lt_or_le e v with z | z;have:=nM (a:=e+1) (b:=v) (p:=q) (by lia) (by lia);lia;exact z;intro h;exact Int.le_trans (nM c h) d
def bV7(h:Ask qs hs m ns w){K:Res->List Sl->Prop}(k:K (.val (.bl true)) [⟨.val,qD qs⟩,⟨.val,hD hs⟩,⟨.val,.tup [.int m,nD ns]⟩,⟨.val,.int w⟩]) :
  CK cW [⟨.val,qD qs⟩,⟨.val,hD hs⟩,⟨.val,.tup [.int m,nD ns]⟩,⟨.val,.int w⟩] K:=by
 obtain⟨f,g⟩:=bK2 h.zs;obtain⟨l,n⟩:=h.fac;obtain⟨o,p⟩:=h.fp;obtain⟨s,n1⟩:=h.en;have m1:=h.m1;have m60:=h.m60;have w0:=h.w0;have w1:=h.w1;have t:((bU qs).map D.str).length=(bU qs).length:=a1a _;have u:(qs.map qP).length=qs.length:=a1a _;have y:=h.cl;have z:=h.q.2.1;unfold cW;rw[cZ];show RS fD [_,_,_,_,none,none,none,none,none,none,none] _;unfold fD;walk_at "d";refine aS6 h.ll h.zs ?_;walk_at "d";refine cT4 h λr A J C E=>?_;walk_at "d";refine bV1 ?_;walk_at "d";rw[a3Z (by lia)];have L:=sN (i:=2161) (j:=2162) (by decide);have N:=uL (i:=2161) (j:=2703) (by decide);have O:(2:Int) ^ 2162=2*2 ^ 2161:=by rw[Int.pow_succ,Int.mul_comm]
 have P:=fF 2161;refine nJ (B:=2162) (pI A (by lia)) (by decide) (by lia) (by lia) (by lia) ?_;walk_at "d";rw[a3Y (by simpa using C)];refine nJ (B:=2162) (pI (by lia) (by lia)) (by decide) (by lia) (by lia) (by lia) ?_;walk_at "d";rw[a4C E];walk_at "d";refine lK (aS5 h.q) ?_;walk_at "d";rw[t,u];refine⟨.inl (.inr ⟨by lia,by lia⟩),?_⟩;refine nJ (B:=9) (pI l n) (by decide) (by lia) (by lia) (by lia) ?_;walk_at "d";refine⟨aG0 f g (by decide) o p (by decide),?_⟩;show CK dL [⟨.val,.int (bK7 qs hs m ns)⟩,_] _;refine cT2 (M:=2703) (by decide) (by decide) s n1 m1 m60 λe b Q F G=>?_;walk_at "d";have R:(2:Int) ^ 2704=2*2 ^ 2703:=by rw[Int.pow_succ,Int.mul_comm]
 have S:(131072:Int)<=2 ^ 2703:=uL (i:=17) (j:=2703) (by decide);refine⟨by decide,fE (λi a=>∃ x d,a=[_,_,_,_,_,_,_,_,_,some ⟨.val,.int e⟩,ov x d]) ⟨false,.non,rfl⟩ ?_ ?_⟩
 ·rintro i d a hd ⟨x,H,rfl⟩;obtain⟨v,rfl,c,I⟩:∃ v:Int,d=.int v/\0<=v/\v < 2 ^ 2704:=by
   have hm:=a4b hd;simp only[List.mem_cons,List.not_mem_nil,or_false]at hm;rcases hm with rfl | rfl | rfl | rfl;exact⟨_,rfl,b,by lia⟩;exact⟨_,rfl,by lia,by lia⟩;exact⟨_,rfl,by decide,by lia⟩;exact⟨_,rfl,w0,by lia⟩
  walk_at "d";refine bV4 h c I ?_;walk_at "d";rw[bV6 b c F G];refine bV5 ?_;walk_at "d";exact⟨_,.inl rfl,true,_,rfl⟩
 ·rintro a ⟨x,H,rfl⟩;walk_at "d";exact k
end
def cT5{as:List Sl}{K:Res->List Sl->Prop}{o:Out}(h:cB9 as K o):dS2 as K o:=by
 cases o with
 | nx σ=>exact h
 | rt r σ=>exact hX.mp h
 | bk σ=>exact h
 | ct σ=>exact h
 | ex c f σ=>exact h
structure Cs where
 qs:List (Str×List Str)
 hs:List (List (List Int))
 m:Int
 ns:List Int
 w:Int
 ok:Ask qs hs m ns w
noncomputable abbrev cD(c:Cs):D:=.tup [qD c.qs,hD c.hs,.tup [.int c.m,nD c.ns],.int c.w]
noncomputable def cT6:DS:=bM (lF (dIt (aR hW (aF 1) (dSl (aF 1) bA7 (dP (dC (.int 1)))))) (dY 4 (aN (dgN 4) (aN (dgN 5) (aN (dgN 6) (aN (dgN 7) dX)))))
 (pJ (bP5 (eQ (aQ 4 cW (aA (aF 4) (aA (aF 5) (aA (aF 6) (aA (aF 7) aT))))))) (jE (dC (.bl false))) hV))
 (jE (dC (.bl true)))
def dQ3{o s2 p:Option Sl}{g:List Cs}{a b:Bool}{e f:D}(hl:g.length<=100){Q:Out->Prop}
  (k:∀ σ,Q (.rt (.val (.bl true)) σ)):RS cT6 [o,some ⟨.own,.lst (g.map cD)⟩,s2,p,ov a e,ov b f,none,none] Q:=by
 have sl:10000<=sizeLine:=by decide
 unfold cT6;walk_at "d";have q:bQ9 (g.map cD) none (some 1)=(g.take 1).map cD:=by rw[cF2 _ (by decide),a9j];rfl
 rw[q,← a2e];refine⟨by rw[a1a,a1a,a3d];lia,fE (λi h=>∃ a e b f j l m n,h=[_,_,_,_,ov a e,ov b f,ov j l,ov m n]) ⟨a,e,b,f,false,.non,false,.non,rfl⟩ ?_ ?_⟩;rintro i d h hd ⟨a,e,b,f,j,l,m,n,rfl⟩;obtain⟨c,r,rfl⟩:=iV hd;walk_at "d";refine bV7 c.ok ?_;walk_at "d";exact⟨_,.inl rfl,true,_,true,_,true,_,true,_,rfl⟩;rintro h ⟨a,e,b,f,j,l,m,n,rfl⟩;walk_at "d";exact k _
def cT7{i n:Nat}{C:MC}{d:DA}{σ:Sg}{Q:Out->Prop}:aR8 i n C d σ Q=RA d σ λrs a=>AK a rs λas=>(as.length=n/\dJ rs=true)/\C as λy as'=>BK rs as' a λb=>PtK i y b λc=>Q (.nx c):=by
 unfold aR8 RA AK BK PtK;congr 1;funext x;congr 1;funext as;apply propext;constructor;rintro⟨h,q⟩;simp only[bR8 h.2]at q;exact⟨h,q⟩;rintro⟨h,q⟩;simp only[← bR8 h.2]at q;exact⟨h,q⟩
def bK8{a b:MS}{σ:Sg}{Q:Out->Prop}:cE9 a b σ Q=a σ (sqM b Q):=rfl
def cT8{ri:DI}{g:DG}{b:MS}{σ:Sg}{Q:Out->Prop}:cU5 ri g b σ Q=RI ri σ λl lk a=>sW g b (λo=>Q (mI lk a o)) l (lendO lk a):=rfl
def bV8(ns:List Int)(hn:ns.length<=63):sI [⟨.val,.lst (ns.map D.int)⟩] λy _=>y=.val (.bl true):=by
 have sl:10000<=sizeLine:=by decide
 unfold sI dK7;refine aF6 _ _ _ (λo h=>cT5 h) ?_;show uI [_,none,none,none,none,none,none,none] _;unfold uI;show RS _ _ (sqM _ _);walk_at "d";refine⟨a7c _,?_⟩;rw[bK8,cT8];walk_at "d";refine bI0 (iU lA (iU (qF aM2) lA)) _ (λi τ=>∃ (c:List Cs) (f:Bool) (g:D) (j:Option (Bool×D)) (k:Bool) (l:D) (n:Bool) (p:D),c.length=i/\τ=[some ⟨.val,.lst (ns.map D.int)⟩,some ⟨.own,.lst (c.map cD)⟩,ov f g,fo j,ov k l,ov n p,none,none]) ⟨[],false,.non,none,false,.non,false,.non,rfl,rfl⟩ ?_ ?_;rintro i d τ hd ⟨c,f,g,j,k,l,n,p,hl,rfl⟩;obtain⟨hi,rfl⟩:=kO hd;have s:i < 2:=hi;have cl:(c.map cD).length=c.length:=a1a _;walk_at "d";show RS _ _ (sqM _ _);walk_at "d";refine dI6 (by lia) (by lia) λa b=>?_;walk_at "d";rw[bK8,cT7];walk_at "d";refine⟨a,b,3,rfl,by decide,by decide,λqs a1 t e=>?_⟩;walk_at "d";refine bU9 e λhs a2 u q r=>?_;walk_at "d";refine bV3 (aS5 e) λm ns a3 v m1 m60 n60 cv=>?_;walk_at "d";refine bS (by decide) (by decide) λw a4 x w0 w1=>?_;walk_at "d";exact⟨a8b (by decide:4<=10000) sl,by lia,_,.inl rfl,c++[⟨qs,hs,m,ns,w,⟨e,q,r,m1,m60,n60,cv,w0,w1⟩⟩],true,_,some (true,_),true,_,true,_,by rw[a0c,hl];rfl,by rw[a2e];rfl⟩;rintro τ ⟨c,f,g,j,k,l,n,p,hl,rfl⟩;rw[dF]at hl;show RS cT6 _ _;exact dQ3 (by rw[hl];decide) λσ=>rfl
end Mr
namespace Mr
open PySem L2 Dv
noncomputable def adr:Adr:=⟨44,24,105,Hd.bW0,112,Hd.bW1,124,Hd.bW3,119,Hd.bW2,131,Hd.bW4,138,Hd.bW5,145,Hd.bW6,150,Hd.bW7,157,Hd.bW8,162,Hd.bW9,169,Hd.bX0,174,Hd.bX1,179,Hd.bX2,191,Hd.bX4,198,Hd.bX5,51,Hd.cU7,56,Hd.cU8,41,Hd.cU6,77,Hd.cV1,63,Hd.cU9,70,Hd.cV0,84,Hd.cV2,91,Hd.cV3,205,Hd.bX6,186,Hd.bX3,219,Hd.bX8,212,Hd.bX7,98,Hd.cV4,226,Hd.bX9,233,Hd.aG2⟩
def dV6{K:W.Frag}{x q:Str}{s:Stmt}{f:Addr}{fd:FuncData}(m:Value)(c:Addr)(e:fd=W.fnOf x q (aA4 s) (jG s) (aH s) .none .none .none m none (.ref c) .none)(l:K.lookup f=some ⟨.type "function",none,.func fd,#[]⟩)(d:W.codeIn K (.ref c) q=true)(k:W.keepIn K (.ref f)=true):Fun K x q s f fd:=⟨⟨_,_,_,_,_,_,_,_,_,e,l,d⟩,k⟩
def txt{P:Params}{h:Heap}{mg:Str->Option Value}(X:(Hd.KF P).In h)(G:h.Ns mainGlobals mg):Txt (Hd.KF P) mg adr:=by
 constructor<;>first | exact W.mg_of X G (by kernel_rfl) | exact W.mg_none_of X G (by kernel_rfl) | exact dV6 _ _ rfl (by kernel_rfl) (by kernel_rfl) (by kernel_rfl) | kernel_rfl
def dJ9{P:Program}{w:World}{mg:Str->Option Value}{base:Heap}(T:Txt (Hd.KF w.params) mg adr):FnOk P w (Hd.KF w.params) mg base CX0 6 233 Hd.aG2 ["_law_script"] (bQ8 1 sI):=
 dI5 T ((pO T ((@zM P w _ mg base _ T).imp aS2)).imp sX)
def bV9:W.WalkO Hd.Vw [] (W.XL Hd.Vw []) (W.InK Hd.KF) PySem.Challenge.rw_mostrows_k36_most_by_covers.row.toRowW Hd.dL4 [] (λf vs=>PySem.call f vs):=by
 refine L2.cH3 (l:=PySem.Challenge.rw_mostrows_k36_most_by_covers) (K:=Hd.KF) (n:=63) (k:=6) (x:="_law_script") (CX:=λ_=>CX0) (sp:=λw=>bQ8 1 sI) rfl (by decide) (by kernel_rfl) ⟨rfl,by decide,by decide⟩ (λw h Y=>Y) (λw mg g h X G e=>?_) (λw _ a ns hl b c=>aR9 (cR8 aF6) (by kernel_rfl) b c (bV8 ns hl)) λ_ _ _ _ _ z=>z;have T:=txt X G;have d:=T.a3R.symm.trans e;cases d;exact⟨Hd.aG2,λs v=>.of_eq (by kernel_rfl),λbase _ _=>dJ9 T⟩
end Mr
open PySem PySem.W PyProof.Rows
theorem PySem.Challenge.cw_mostrows_k36_most_by_covers_holds : PySem.Challenge.rw_mostrows_k36_most_by_covers.Holds :=
 Hd.dT0 Mr.bV9
#print axioms PySem.Challenge.cw_mostrows_k36_most_by_covers_holds
