import PyProof.Rows.All
import Wide.All
import OpenK.AllK
import Wide.FinOn
import Lean
import PyProof.EqAt
import PyProof.EqKinds
import PyProof.TupleCall
import PyProof.StationsW
import PyProof.RulesAs
import PyProof.ExcClass2
import PyProof.Rows.Exc
import OpenK.KMake
import PyProof.InstStoreFacts
import OpenK.KCls
import PyProof.ExcArgsOwn
import PyProof.ExcAttrAll.ValueError
import PyProof.FitsInt
import PyProof.FString
import PyProof.FString4
import PyProof.StrLawsRepr
import PyProof.NsDelKeeps
import PyProof.NoPylong
import PyProof.FitsBits
import PyProof.Rows.RuleM_int
import PyProof.P3In
import PyProof.NeData
import PyProof.Draws
import PyProof.ZipIter
import PyProof.EnumMake
import PySem.SetOps
import PyProof.SetScanFacts
import PyProof.WalksMore
import PyProof.SetNew
import PyProof.SetKind
import PyProof.Rows.SetFrom
import PyProof.TupleKey
import PyProof.IsRules
import PyProof.SetRoads
import PyProof.DictRoadsH
import PyProof.AttrMissHeap
import PySem.Challenge.RW_mostrows_k15_taken_apart_and_joined
set_option compiler.extract_closed false
set_option Elab.async false
set_option linter.all false
set_option maxRecDepth 100000
set_option maxHeartbeats 4000000
def a3r:=@PySem.wpAny_bind
def a3s:=@if_pos
def a3t:=@PySem.wpAny_pure
def a3u:=@if_neg
def a3v:=@beq_iff_eq
def a3w:=@decide_eq_true_eq
def a3x:=@PySem.wpAny_holding
def a3y:=@decide_eq_false
def a3z:=@if_false
def a3A:=@decide_eq_true
def a3B:=@PySem.wpAny_newObj_type
def a3C:=@if_true
def a3D:=@congrArg
def a3E:=@PySem.wpAny_call_entry
def a3F:=@PySem.wpAny_mono
def a3G:=@PySem.sizeLine_eq
def a3H:=@PySem.wpAny_passesOwn
def a3I:=@PySem.codeAny_builtin
def a3J:=@bne_self_eq_false
def a3K:=@PySem.wpAny_rule
def a3L:=@PySem.wpAny_getItem_str_slice
def a3M:=@PySem.wpAny_Call_Name_kw
def a3N:=@PySem.wpAny_truthy_bool
def a3O:=@PySem.wpAny_askSetting
def a3P:=@PySem.wpAny_loadPart'
def a3Q:=@PySem.wpAny_typeOf
def a3R:=@PySem.call_meets
def a3S:=@PySem.plainId_quiet
def a3T:=@PySem.codeAny_mono
def a3U:=@PySem.wpAny_setEntries_of
def a3V:=@PySem.putSet_of
def a3W:=@PySem.wpAny_standAt
def a3X:=@PySem.wpAny_specialOf
def a3Y:=@PySem.wpAny_updateSeq
def a3Z:=@PySem.wpAny_ite_split
def a0a:=@List.getElem?_eq_getElem
def a1a:=@List.getElem?_eq_some_iff
def a2a:=@List.length_map
def a3a:=@List.mem_cons_self
def a4a:=@List.getElem?_set_ne
def a5a:=@List.mem_cons_of_mem
def a6a:=@Nat.le_refl
def a7a:=@Option.some.inj
def a8a:=@PySem.Heap.get?_push_of_some
def a9a:=@List.length_append
def a0b:=@List.getElem?_map
def a1b:=@List.mem_singleton
def a2b:=@List.mem_of_getElem?
def a3b:=@Nat.le_trans
def a4b:=@List.size_toArray
def a5b:=@List.getElem?_append_right
def a6b:=@List.getElem?_set_self
def a7b:=@Option.map_eq_some_iff
def a8b:=@PySem.Heap.lt_size
def a9b:=@PySem.Heap.get?_push_size
def a0c:=@Array.getElem?_toList
def a1c:=@List.mem_cons
def a2c:=@List.take_of_length_le
def a3c:=@List.mem_append
def a4c:=@Nat.lt_of_lt_of_le
def a5c:=@Array.getElem?_eq_getElem
def a6c:=@List.getElem?_toArray
def a7c:=@List.getElem?_append_left
def a8c:=@List.mem_append_right
def a9c:=@List.getElem?_cons_succ
def a0d:=@List.eq_nil_of_length_eq_zero
def a1d:=@List.getElem?_eq_none_iff
def a2d:=@Nat.zero_le
def a3d:=@Bool.false_ne_true
def a4d:=@List.map_append
def a5d:=@Ne.symm
def a6d:=@List.map_cons
def a7d:=@PySem.W.mg_of
def a8d:=@Array.length_toList
def a9d:=@PySem.F.plainAttrs_list
def a0e:=@Nat.ne_of_lt
def a1e:=@Bool.and_eq_true
def a2e:=@List.mem_map
def a3e:=@List.getElem_of_mem
def a4e:=@PySem.Heap.get?_update_other
def a5e:=@List.take_add_one
def a6e:=@PySem.Heap.get?_update_self
def a7e:=@PySem.PassesOwn.never
def a8e:=@PySem.W.mg_none_of
def a9e:=@PyProof.Rows.slot_tuple_getitem
def a0f:=@PySem.F.slot_list_append
def a1f:=@PySem.F.type_list_append
def a2f:=@Array.getElem?_eq_some_iff
def a3f:=@Classical.byContradiction
def a4f:=@List.length_set
def a5f:=@List.length_cons
def a6f:=@Nat.lt_irrefl
def a7f:=@List.mem_of_mem_take
def a8f:=@Nat.zero_add
def a9f:=@List.pairwise_cons
def a0g:=@PySem.W.kia_one
def a1g:=@List.append_nil
def a2g:=@List.length_take
def a3g:=@Bool.eq_iff_iff
def a4g:=@Int.emod_lt_of_pos
def a5g:=@List.mem_append_left
def a6g:=@List.nodup_iff_pairwise_ne
def a7g:=@List.length_drop
def a8g:=@List.all_eq_true
def a9g:=@List.getElem_mem
def a0h:=@PySem.Around.under_plainId
def a1h:=@List.mem_range
def a2h:=@Nat.le_of_lt
def a3h:=@Nat.lt_trans
def a4h:=@Nat.pow_succ
def a5h:=@PyProof.Rows.F.plain_set_update_loop
def a6h:=@Array.toList_push
def a7h:=@List.filterMap_cons
def a8h:=@PyProof.Rows.callWith_type1
def a9h:=@List.nodup_cons
def a0i:=@Array.getD_eq_getD_getElem?
def a1i:=@PySem.Heap.SameBut.update
def a2i:=@List.getD_eq_getElem?_getD
def a3i:=@Nat.lt_succ_self
def a4i:=@Nat.not_lt_zero
def a5i:=@List.ext_getElem?
def a6i:=@Int.emod_nonneg
def a7i:=@Nat.mul_comm
def a8i:=@PySem.mem_of_lookup
def a9i:=@PySem.F.plain_extend_loop
def a0j:=@List.lookup_cons
def a1j:=@Nat.lt_of_le_of_lt
def a2j:=@List.getElem?_eq_none
def a3j:=@Nat.le_of_not_lt
def a4j:=@Nat.lt_of_not_le
def a5j:=@Nat.not_lt
def a6j:=@Nat.mul_assoc
namespace Hd
open PySem PySem.W
noncomputable def top(i:Nat):Stmt:=PySem.Challenge.pw_mostrows_k15_taken_apart_and_joined.main.body.getD i (.Pass ⟨0,0,0,0⟩)
noncomputable def kG(x q:Str)(s:Stmt)(m:Value)(c:Addr):FuncData:=match s with
 | .FunctionDef _ a b _ _ _ e _ _ _=>fnOf x q a b e .none .none .none m none (.ref c) .none
 | _=>default
noncomputable def dM0:DefRec:=match top 27 with
 | .FunctionDef n a b _ _ _ e _ _ p=>⟨n,a,b,e,p⟩
 | _=>⟨"",default,[],default,default⟩
noncomputable def kE(P:Params)(x:Str)(t:Tok)(v:Value):DictEntry:=⟨PyData.keyHash P x,.str x t,v⟩
noncomputable def kT(l:List Value):Obj:=⟨.type "tuple",none,.seq l.toArray 0,#[]⟩
noncomputable def kF(f:FuncData):Obj:=⟨.type "function",none,.func f,#[]⟩
noncomputable def cU8:=kG "table_of" "table_of" (top 1) (.str "mostrows.tables" 187) 20
noncomputable def cU9:=kG "places_of" "places_of" (top 2) (.str "mostrows.tables" 187) 25
noncomputable def cV0:=kG "picked" "picked" (top 3) (.str "mostrows.tables" 187) 30
noncomputable def cV1:=kG "cut" "cut" (top 4) (.str "mostrows.tables" 187) 35
noncomputable def cV2:=kG "common_columns" "common_columns" (top 5) (.str "mostrows.tables" 187) 40
noncomputable def cV3:=kG "grouped" "grouped" (top 6) (.str "mostrows.tables" 187) 47
noncomputable def cV4:=kG "joined" "joined" (top 7) (.str "mostrows.tables" 187) 52
noncomputable def cV5:=kG "all_joined" "all_joined" (top 8) (.str "mostrows.tables" 187) 59
noncomputable def cV6:=kG "apart" "apart" (top 10) (.str "mostrows.apart" 249) 64
noncomputable def cV7:=kG "together" "together" (top 11) (.str "mostrows.apart" 249) 71
noncomputable def cV8:=kG "_law_box" "_law_box" (top 13) (.str "law_mostrows_k15_taken_apart_and_joined" 267) 78
noncomputable def cV9:=kG "_law_take" "_law_take" (top 14) (.str "law_mostrows_k15_taken_apart_and_joined" 267) 85
noncomputable def cW0:=kG "_law_order" "_law_order" (top 15) (.str "law_mostrows_k15_taken_apart_and_joined" 267) 92
noncomputable def cW1:=kG "_law_names" "_law_names" (top 16) (.str "law_mostrows_k15_taken_apart_and_joined" 267) 97
noncomputable def cB1:=kG "_law_rows" "_law_rows" (top 17) (.str "law_mostrows_k15_taken_apart_and_joined" 267) 102
noncomputable def cB2:=kG "_law_table" "_law_table" (top 18) (.str "law_mostrows_k15_taken_apart_and_joined" 267) 109
noncomputable def cB3:=kG "_law_whole" "_law_whole" (top 19) (.str "law_mostrows_k15_taken_apart_and_joined" 267) 116
noncomputable def cB4:=kG "_law_is_table" "_law_is_table" (top 20) (.str "law_mostrows_k15_taken_apart_and_joined" 267) 121
noncomputable def cB5:=kG "_law_at" "_law_at" (top 21) (.str "law_mostrows_k15_taken_apart_and_joined" 267) 126
noncomputable def cB6:=kG "_law_joined" "_law_joined" (top 22) (.str "law_mostrows_k15_taken_apart_and_joined" 267) 131
noncomputable def cB7:=kG "_law_some" "_law_some" (top 23) (.str "law_mostrows_k15_taken_apart_and_joined" 267) 136
noncomputable def cB8:=kG "_law_pieces" "_law_pieces" (top 24) (.str "law_mostrows_k15_taken_apart_and_joined" 267) 141
noncomputable def cB9:=kG "_law_due" "_law_due" (top 25) (.str "law_mostrows_k15_taken_apart_and_joined" 267) 146
noncomputable def cC0:=kG "_law_fits" "_law_fits" (top 26) (.str "law_mostrows_k15_taken_apart_and_joined" 267) 153
noncomputable def aT3:=kG "law" "law" (top 27) (.str "law_mostrows_k15_taken_apart_and_joined" 267) 158
noncomputable def kC(x:Str)(a:Tok)(q:Str)(b c:Tok)(d e f:Int)(g:Addr)(h:Int)(i j k l:Addr)(m n:Int)(o:Tok):Obj:=⟨.type "code",none,.fields #[.str x a,.str q b,.str "/claim/cut.py" c,.int d 0,.int e 0,.int 0 0,.int 0 0,.int f 0,.ref g,.bool true,.int h 0,.ref i,.none,.ref j,.ref k,.ref l,.int m 0,.int n 0,.str "/claim/cut.py" o],#[]⟩
noncomputable def KF(P:Params):W.Frag:=[
(2,⟨.none,none,(.dict #[] 0),#[]⟩),
(3,⟨(.type "dict"),none,(.dict #[kE P "__name__" 165 (.str "law_mostrows_k15_taken_apart_and_joined" 267),kE P "__doc__" 166 .none,kE P "__package__" 167 .none,kE P "__loader__" 168 (.builtin "__main__.__loader__#opaque"),kE P "__spec__" 169 .none,kE P "__annotations__" 170 (.ref 6),kE P "__builtins__" 171 (.ref 4),kE P "__file__" 173 (.str "/claim/cut.py" 172),kE P "__cached__" 174 .none,kE P "table_of" 196 (.ref 21),kE P "places_of" 202 (.ref 26),kE P "picked" 208 (.ref 31),kE P "cut" 214 (.ref 36),kE P "common_columns" 220 (.ref 41),kE P "grouped" 233 (.ref 48),kE P "joined" 239 (.ref 53),kE P "all_joined" 248 (.ref 60),kE P "apart" 256 (.ref 65),kE P "together" 266 (.ref 72),kE P "_law_box" 278 (.ref 79),kE P "_law_take" 288 (.ref 86),kE P "_law_order" 298 (.ref 93),kE P "_law_names" 304 (.ref 98),kE P "_law_rows" 310 (.ref 103),kE P "_law_table" 320 (.ref 110),kE P "_law_whole" 327 (.ref 117),kE P "_law_is_table" 333 (.ref 122),kE P "_law_at" 339 (.ref 127),kE P "_law_joined" 345 (.ref 132),kE P "_law_some" 351 (.ref 137),kE P "_law_pieces" 357 (.ref 142),kE P "_law_due" 363 (.ref 147),kE P "_law_fits" 373 (.ref 154),kE P "law" 379 (.ref 159)] 34),#[]⟩),
(15,kT []),
(17,kT [(.str "columns" 192),(.str "rows" 193)]),
(18,kT []),
(20,kC "table_of" 189 "table_of" 190 191 2 2 3 15 181 16 17 18 19 194 2 195),
(21,kF cU8),
(22,kT []),
(25,⟨(.type "code"),none,(.fields #[(.str "places_of" 197),(.str "places_of" 198),(.str "/claim/cut.py" 199),(.int 4 0),(.int 2 0),(.int 0 0),(.int 0 0),(.int 3 0),(.ref 22),(.bool true),(.int 181 0),(.ref 23),.none,.none,.none,(.ref 24),(.int 200 0),(.int 4 0),(.str "/claim/cut.py" 201)]),#[]⟩),
(26,kF cU9),
(27,kT []),
(30,⟨(.type "code"),none,(.fields #[(.str "picked" 203),(.str "picked" 204),(.str "/claim/cut.py" 205),(.int 6 0),(.int 2 0),(.int 0 0),(.int 0 0),(.int 3 0),(.ref 27),(.bool true),(.int 181 0),(.ref 28),.none,.none,.none,(.ref 29),(.int 206 0),(.int 6 0),(.str "/claim/cut.py" 207)]),#[]⟩),
(31,kF cV0),
(32,kT []),
(35,⟨(.type "code"),none,(.fields #[(.str "cut" 209),(.str "cut" 210),(.str "/claim/cut.py" 211),(.int 8 0),(.int 2 0),(.int 0 0),(.int 0 0),(.int 3 0),(.ref 32),(.bool true),(.int 181 0),(.ref 33),.none,.none,.none,(.ref 34),(.int 212 0),(.int 8 0),(.str "/claim/cut.py" 213)]),#[]⟩),
(36,kF cV1),
(37,kT []),
(40,⟨(.type "code"),none,(.fields #[(.str "common_columns" 215),(.str "common_columns" 216),(.str "/claim/cut.py" 217),(.int 11 0),(.int 2 0),(.int 0 0),(.int 0 0),(.int 3 0),(.ref 37),(.bool true),(.int 181 0),(.ref 38),.none,.none,.none,(.ref 39),(.int 218 0),(.int 11 0),(.str "/claim/cut.py" 219)]),#[]⟩),
(41,kF cV2),
(42,kT []),
(44,kT [(.str "table" 224),(.str "columns" 225),(.str "others" 226),(.str "places" 227),(.str "other_places" 228),(.str "groups" 229),(.str "row" 230)]),
(45,kT []),
(47,kC "grouped" 221 "grouped" 222 223 13 3 3 42 181 43 44 45 46 231 13 232),
(48,kF cV3),
(49,kT []),
(52,⟨(.type "code"),none,(.fields #[(.str "joined" 234),(.str "joined" 235),(.str "/claim/cut.py" 236),(.int 20 0),(.int 2 0),(.int 0 0),(.int 0 0),(.int 3 0),(.ref 49),(.bool true),(.int 181 0),(.ref 50),.none,.none,.none,(.ref 51),(.int 237 0),(.int 20 0),(.str "/claim/cut.py" 238)]),#[]⟩),
(53,kF cV4),
(54,kT []),
(56,kT [(.str "tables" 243),(.str "whole" 244),(.str "table" 245)]),
(57,kT []),
(59,kC "all_joined" 240 "all_joined" 241 242 29 1 3 54 181 55 56 57 58 246 29 247),
(60,kF cV5),
(61,kT []),
(64,⟨(.type "code"),none,(.fields #[(.str "apart" 251),(.str "apart" 252),(.str "/claim/cut.py" 253),(.int 35 0),(.int 2 0),(.int 0 0),(.int 0 0),(.int 3 0),(.ref 61),(.bool true),(.int 181 0),(.ref 62),.none,.none,.none,(.ref 63),(.int 254 0),(.int 35 0),(.str "/claim/cut.py" 255)]),#[]⟩),
(65,kF cV6),
(66,kT []),
(68,kT [(.str "table" 260),(.str "some" 261),(.str "again" 262),(.str "row" 263)]),
(69,kT []),
(71,kC "together" 257 "together" 258 259 37 2 3 66 181 67 68 69 70 264 37 265),
(72,kF cV7),
(73,kT []),
(75,kT [(.str "_law_script" 272),(.str "_law_k" 273),(.str "_law_cell" 274),(.str "_law_seed" 275)]),
(76,kT []),
(78,kC "_law_box" 269 "_law_box" 270 271 44 2 3 73 181 74 75 76 77 276 44 277),
(79,kF cV8),
(80,kT []),
(82,kT [(.str "_law_box_here" 282),(.str "_law_many" 283),(.str "_law_digit" 284),(.str "_law_one" 285)]),
(83,kT []),
(85,kC "_law_take" 279 "_law_take" 280 281 52 2 3 80 181 81 82 83 84 286 52 287),
(86,kF cV9),
(87,kT []),
(89,kT [(.str "_law_box_here" 292),(.str "_law_things" 293),(.str "_law_left" 294),(.str "_law_found" 295)]),
(90,kT []),
(92,kC "_law_order" 289 "_law_order" 290 291 60 2 3 87 181 88 89 90 91 296 60 297),
(93,kF cW0),
(94,kT []),
(97,⟨(.type "code"),none,(.fields #[(.str "_law_names" 299),(.str "_law_names" 300),(.str "/claim/cut.py" 301),(.int 66 0),(.int 2 0),(.int 0 0),(.int 0 0),(.int 3 0),(.ref 94),(.bool true),(.int 181 0),(.ref 95),.none,.none,.none,(.ref 96),(.int 302 0),(.int 66 0),(.str "/claim/cut.py" 303)]),#[]⟩),
(98,kF cW1),
(99,kT []),
(102,⟨(.type "code"),none,(.fields #[(.str "_law_rows" 305),(.str "_law_rows" 306),(.str "/claim/cut.py" 307),(.int 86 0),(.int 3 0),(.int 0 0),(.int 0 0),(.int 3 0),(.ref 99),(.bool true),(.int 181 0),(.ref 100),.none,.none,.none,(.ref 101),(.int 308 0),(.int 86 0),(.str "/claim/cut.py" 309)]),#[]⟩),
(103,kF cB1),
(104,kT []),
(106,kT [(.str "_law_box_here" 314),(.str "_law_names_here" 315),(.str "_law_ceiling" 316),(.str "_law_columns" 317)]),
(107,kT []),
(109,kC "_law_table" 311 "_law_table" 312 313 90 3 3 104 181 105 106 107 108 318 90 319),
(110,kF cB2),
(111,kT []),
(113,kT [(.str "_law_found" 324)]),
(114,kT []),
(116,kC "_law_whole" 321 "_law_whole" 322 323 93 1 3 111 181 112 113 114 115 325 93 326),
(117,kF cB3),
(118,kT []),
(121,⟨(.type "code"),none,(.fields #[(.str "_law_is_table" 328),(.str "_law_is_table" 329),(.str "/claim/cut.py" 330),(.int 95 0),(.int 3 0),(.int 0 0),(.int 0 0),(.int 3 0),(.ref 118),(.bool true),(.int 181 0),(.ref 119),.none,.none,.none,(.ref 120),(.int 331 0),(.int 95 0),(.str "/claim/cut.py" 332)]),#[]⟩),
(122,kF cB4),
(123,kT []),
(126,⟨(.type "code"),none,(.fields #[(.str "_law_at" 334),(.str "_law_at" 335),(.str "/claim/cut.py" 336),(.int 102 0),(.int 3 0),(.int 0 0),(.int 0 0),(.int 3 0),(.ref 123),(.bool true),(.int 181 0),(.ref 124),.none,.none,.none,(.ref 125),(.int 337 0),(.int 102 0),(.str "/claim/cut.py" 338)]),#[]⟩),
(127,kF cB5),
(128,kT []),
(131,⟨(.type "code"),none,(.fields #[(.str "_law_joined" 340),(.str "_law_joined" 341),(.str "/claim/cut.py" 342),(.int 104 0),(.int 2 0),(.int 0 0),(.int 0 0),(.int 3 0),(.ref 128),(.bool true),(.int 181 0),(.ref 129),.none,.none,.none,(.ref 130),(.int 343 0),(.int 104 0),(.str "/claim/cut.py" 344)]),#[]⟩),
(132,kF cB6),
(133,kT []),
(136,⟨(.type "code"),none,(.fields #[(.str "_law_some" 346),(.str "_law_some" 347),(.str "/claim/cut.py" 348),(.int 113 0),(.int 2 0),(.int 0 0),(.int 0 0),(.int 3 0),(.ref 133),(.bool true),(.int 181 0),(.ref 134),.none,.none,.none,(.ref 135),(.int 349 0),(.int 113 0),(.str "/claim/cut.py" 350)]),#[]⟩),
(137,kF cB7),
(138,kT []),
(141,⟨(.type "code"),none,(.fields #[(.str "_law_pieces" 352),(.str "_law_pieces" 353),(.str "/claim/cut.py" 354),(.int 121 0),(.int 2 0),(.int 0 0),(.int 0 0),(.int 3 0),(.ref 138),(.bool true),(.int 181 0),(.ref 139),.none,.none,.none,(.ref 140),(.int 355 0),(.int 121 0),(.str "/claim/cut.py" 356)]),#[]⟩),
(142,kF cB8),
(143,kT []),
(146,⟨(.type "code"),none,(.fields #[(.str "_law_due" 358),(.str "_law_due" 359),(.str "/claim/cut.py" 360),(.int 126 0),(.int 2 0),(.int 0 0),(.int 0 0),(.int 3 0),(.ref 143),(.bool true),(.int 181 0),(.ref 144),.none,.none,.none,(.ref 145),(.int 361 0),(.int 126 0),(.str "/claim/cut.py" 362)]),#[]⟩),
(147,kF cB9),
(148,kT []),
(150,kT [(.str "_law_pieces_here" 367),(.str "_law_product" 368),(.str "_law_columns" 369),(.str "_law_rows_here" 370)]),
(151,kT []),
(153,kC "_law_fits" 364 "_law_fits" 365 366 135 1 3 148 181 149 150 151 152 371 135 372),
(154,kF cC0),
(155,kT []),
(158,⟨(.type "code"),none,(.fields #[(.str "law" 374),(.str "law" 375),(.str "/claim/cut.py" 376),(.int 140 0),(.int 1 0),(.int 0 0),(.int 0 0),(.int 3 0),(.ref 155),(.bool true),(.int 181 0),(.ref 156),.none,.none,.none,(.ref 157),(.int 377 0),(.int 140 0),(.str "/claim/cut.py" 378)]),#[]⟩),
(159,kF aT3)]
noncomputable def Vw:Program:=view PySem.Challenge.pw_mostrows_k15_taken_apart_and_joined [1,2,3,4,5,6,7,8,10,11,13,14,15,16,17,18,19,20,21,22,23,24,25,26,27]
def dU6:PySem.Challenge.rw_mostrows_k15_taken_apart_and_joined.wellSaid=true:=by kernel_rfl
def left:LeftO PySem.Challenge.rw_mostrows_k15_taken_apart_and_joined.row.prog Vw [] (λs=>xlAt Vw [] s&&recOk (RowW.records PySem.Challenge.rw_mostrows_k15_taken_apart_and_joined.row.toRowW) s) (λs=>[2,3,15,17,18,20,21,22,25,26,27,30,31,32,35,36,37,40,41,42,44,45,47,48,49,52,53,54,56,57,59,60,61,64,65,66,68,69,71,72,73,75,76,78,79,80,82,83,85,86,87,89,90,92,93,94,97,98,99,102,103,104,106,107,109,110,111,113,114,116,117,118,121,122,123,126,127,128,131,132,133,136,137,138,141,142,143,146,147,148,150,151,153,154,155,158,159].map s.heap.get?) (λw=>(KF w.params).map λp=>some p.2) 1594:=λw=>by kernel_rfl
def dU7(h:WalkO Vw [] (XL Vw []) (InK KF) PySem.Challenge.rw_mostrows_k15_taken_apart_and_joined.row.toRowW dM0 [] (λf vs=>PySem.call f vs)):PySem.Challenge.rw_mostrows_k15_taken_apart_and_joined.Holds:=
 holds_law dU6 λe=>holds_open (d:=dM0) (kwd:=[]) left (InK.of λ_=>by kernel_rfl) InK.keeps (λs e=>xl_of s (Bool.and_eq_true_iff.mp e).1) XL.keeps (by kernel_rfl) (by kernel_rfl) (by kernel_rfl) (λs e=>recFacts_of (Bool.and_eq_true_iff.mp e).2) (by kernel_rfl) e (by kernel_rfl) ⟨rfl,rfl,rfl,rfl,rfl,by decide +kernel⟩ (by w_witness2) h
end Hd
namespace L2
open PySem PySem.Spec PyProof.Rows
abbrev Key:=Sum Int Str
noncomputable def bA1:Key->Value->Bool
 | .inl k,v=>Value.isInt k v
 | .inr x,v=>Value.isStrOf x v
noncomputable def dU8(w:World):Key->Int
 | .inl k=>hashInt k
 | .inr x=>hashStr w x
def cJ:∀ {k:Key} {v:Value},bA1 k v=true->(∃ i t,k=Sum.inl i/\v=Value.int i t)\/(∃ x t,k=Sum.inr x/\v=Value.str x t)
 | .inl i,v,h=>by
   obtain⟨t,e⟩:=Value.isInt_shape (k:=i) (v:=v) h;exact .inl ⟨i,t,rfl,e⟩
 | .inr x,v,h=>by
   obtain⟨t,e⟩:=Value.isStrOf_shape (x:=x) (v:=v) h;exact .inr ⟨x,t,rfl,e⟩
def bE9(i:Int)(t:Tok):bA1 (.inl i) (.int i t)=true:=by simp[bA1,Value.isInt]
def bF0(x:Str)(t:Tok):bA1 (.inr x) (.str x t)=true:=by simp[bA1,Value.isStrOf]
def cW2(a b:Int):decide ((Sum.inl a:Key)=Sum.inl b)=(a==b):=by
 by_cases e:a=b;subst e;simp;have h:¬ (Sum.inl a:Key)=Sum.inl b:=λq=>e (Sum.inl.inj q);rw[a3y h];exact(beq_eq_false_iff_ne.mpr e).symm
def cW3(a b:Str):decide ((Sum.inr a:Key)=Sum.inr b)=decide (a=b):=by
 by_cases e:a=b;subst e;simp;have h:¬ (Sum.inr a:Key)=Sum.inr b:=λq=>e (Sum.inr.inj q);rw[a3y h,a3y e]
def cW4(a:Int)(b:Str):decide ((Sum.inl a:Key)=Sum.inr b)=false:=a3y (λq=>nomatch q)
def cW5(a:Str)(b:Int):decide ((Sum.inr a:Key)=Sum.inl b)=false:=a3y (λq=>nomatch q)
noncomputable def dI(prog:Program)(w:World):PySem.KeyKind prog w Key where
 is:=bA1
 hash:=dU8 w
 inj:=λv a b ha hb=>by
  rcases cJ ha with⟨i,t,rfl,rfl⟩ | ⟨x,t,rfl,rfl⟩
  ·rcases cJ hb with⟨j,u,rfl,e⟩ | ⟨y,u,rfl,e⟩
   ·injection e with c _;rw[c]
   ·exact nomatch e
  ·rcases cJ hb with⟨j,u,rfl,e⟩ | ⟨y,u,rfl,e⟩;exact nomatch e;injection e with c _;rw[c]
 byValue:=λk v h=>by
  rcases cJ h with⟨i,t,rfl,rfl⟩ | ⟨x,t,rfl,rfl⟩<;>rfl
 pyHash:=λd h=>by
  rcases cJ d with⟨i,t,rfl,rfl⟩ | ⟨x,t,rfl,rfl⟩;exact wpAny_pyHash_int h;exact wpAny_pyHash_str h
 eqBool:=λf d h=>by
  rcases cJ f with⟨i,t,rfl,rfl⟩ | ⟨x,t,rfl,rfl⟩;rcases cJ d with⟨j,u,rfl,rfl⟩ | ⟨y,u,rfl,rfl⟩;rw[cW2]at h;exact wpAny_eqBool_int h;rw[cW4]at h;exact SeqAt.EqAt.int_str i t y u _ _ _ _ h;rcases cJ d with⟨j,u,rfl,rfl⟩ | ⟨y,u,rfl,rfl⟩;rw[cW5]at h;exact SeqAt.EqAt.str_int x t j u _ _ _ _ h;rw[cW3]at h;exact wpAny_eqBool_str h
 «strs»:=λk x t v h=>by
  rcases cJ h with⟨i,u,rfl,e⟩ | ⟨y,u,rfl,e⟩;exact nomatch e;injection e with c _
  subst c;cases v<;>rfl
def aN5(prog:Program)(w:World)(i:Int)(t:Tok):(dI prog w).is (.inl i) (.int i t)=true:=bE9 i t
def aN6(prog:Program)(w:World)(x:Str)(t:Tok):(dI prog w).is (.inr x) (.str x t)=true:=bF0 x t
inductive V where
 | non | bl (b:Bool) | int (i:Int) | str (x:Str) | byt (b:Array UInt8) | flt (b:UInt64) | ref (a:Addr) | ty (n:String)
 deriving DecidableEq
def eA:V->Value->Prop
 | .non,u=>u=Value.none
 | .bl b,u=>u=Value.bool b
 | .int i,u=>∃ t,u=Value.int i t
 | .str x,u=>∃ t,u=Value.str x t
 | .byt b,u=>∃ t,u=Value.bytes b t
 | .flt b,u=>∃ t,u=Value.float b t
 | .ref a,u=>u=Value.ref a
 | .ty n,u=>u=Value.type n
abbrev cA:List V->List Value->Prop:=Paired eA
theorem cA.length{xs:List V}{us:List Value}(r:cA xs us):xs.length=us.length:=Paired.length r
theorem cA.get:∀ {xs:List V} {us:List Value} {i:Nat} {x:V},cA xs us->xs[i]? = some x->∃ u,us[i]? = some u/\eA x u
 | _,_,_,_,.nil,e=>by simp at e
 | _,_,0,_,.cons r _,e=>by simp at e;subst e;exact⟨_,rfl,r⟩
 | _,_,i+1,x,.cons _ t,e=>by
   obtain⟨u,a,b⟩:=cA.get (i:=i) (x:=x) t (by simpa using e);exact⟨u,by simpa using a,b⟩
theorem cA.set{x:V}{u:Value}(r:eA x u):∀ {xs:List V} {us:List Value} (i:Nat),cA xs us->cA (xs.set i x) (us.set i u)
 | _,_,_,.nil=>.nil
 | _,_,0,.cons _ t=>.cons r t
 | _,_,i+1,.cons q t=>.cons q (cA.set r i t)
theorem cA.append:∀ {xs ys:List V} {us ws:List Value},cA xs us->cA ys ws->cA (xs++ys) (us++ws)
 | _,_,_,_,.nil,s=>s
 | _,_,_,_,.cons r t,s=>.cons r (cA.append t s)
theorem cA.take:∀ {xs:List V} {us:List Value} (n:Nat),cA xs us->cA (xs.take n) (us.take n)
 | _,_,0,_=>.nil
 | _,_,_+1,.nil=>.nil
 | _,_,n+1,.cons r t=>.cons r (cA.take n t)
theorem cA.drop:∀ {xs:List V} {us:List Value} (n:Nat),cA xs us->cA (xs.drop n) (us.drop n)
 | _,_,0,r=>r
 | _,_,_+1,.nil=>.nil
 | _,_,n+1,.cons _ t=>cA.drop n t
def cT2:Option V->Option Value->Prop
 | some v,some u=>eA v u
 | none,none=>True
 | _,_=>False
def KV{κ:Type}:List (κ×V)->List (κ×Value)->Prop:=Paired λ(p:κ×V) (q:κ×Value)=>p.1=q.1/\eA p.2 q.2
noncomputable def kV:Key->V
 | .inl i=>.int i
 | .inr x=>.str x
inductive HO where
 | lst (xs:List V)
 | tup (xs:List V)
 | dK (kvs:List (Key×V)) | dT (kvs:List (List Key×V))
 | set (S:Int->Bool) (n:Nat)
 | ins (C dx:Addr) (fs:List (Str×V))
 | own (x:Addr)
 | xd (fs:List (Str×V))
 | met (f x:Addr)
 | rng (lo hi:Int)
 | frz (o:Obj) (u:HO)
 | tbl (ps:Array Value)
 | ext (φ:Heap->Prop)
abbrev Hp:=Addr->Option HO
noncomputable def upd(H:Hp)(a:Addr)(o:HO):Hp:=λb=>if b=a then some o else H b
def aJ{H:Hp}{a:Addr}{o:HO}:upd H a o a=some o:=by unfold upd;rw[a3s rfl]
def aG{H:Hp}{a b:Addr}{o:HO}(h:b≠a):upd H a o b=H b:=by unfold upd;rw[a3u h]
def dM1{H:Hp}{a b:Addr}{o u:HO}(h:H a=some o)(h':H b=some u)(d:o≠u):a≠b:=by
 intro e;subst e;rw[h]at h';exact d (a7a h')
def aL{H:Hp}{a b:Addr}{o:HO}(h:H a=some o)(h':H b=none):a≠b:=by
 intro e;subst e;rw[h]at h';cases h'
def dU9(h:Heap)(a:Addr):Prop:=∃ o,h.get? a=some o/\o.dict=none
section
variable(P:Program)(w:World)
def dJ(H:Hp)(h:Heap)(a:Addr):HO->Prop
 | .lst xs=>xs.length<=sizeLine/\∃ (its:List Value) (n:Nat),cA xs its/\h.get? a=some {cls:=.type "list",data:=.seq its.toArray n}
 | .tup xs=>xs.length<=sizeLine/\∃ its:List Value,cA xs its/\IsTup h a its.toArray/\dU9 h a
 | .dK kvs=>kvs.length<=sizeLine/\(a==sysModules)=false/\∃ vs,KV kvs vs/\h.DictOf (dI P w) a vs
 | .dT kvs=>kvs.length<=sizeLine/\(a==sysModules)=false/\∃ xs:List (List Key×Addr×Value),
   Paired (λ(p:List Key×V) (q:List Key×Addr×Value)=>p.1=q.1/\H q.2.1=some (.tup (p.1.map kV))/\eA p.2 q.2.2) kvs xs /\
   ∃ o es ep,h.get? a=some o/\o.ExactDict/\o.data=.dict es ep/\es.toList=xs.map (entryOfKey (tupleKind (dI P w)))/\(xs.map (·.1)).Nodup
 | .set S n=>h.SetOf (intKind P w) a S n
 | .ins C dx fs=>H dx=some (.own a)/\fs.length<=1000/\dx≠a/\h.get? a=some (W.instObj C dx) /\
   ∃ mA,h.Ns1 dx mA/\(∀ f,cT2 (fs.lookup f) (mA f))/\Within mA (fs.map (·.1))
 | .own _=>∃ o,h.get? a=some o
 | .xd fs=>∃ mA,h.Ns1 a mA/\∀ f,cT2 (fs.lookup f) (mA f)
 | .rng lo hi=>∃ t u v,h.get? a=some {cls:=.type "range",data:=.fields #[.int lo t,.int hi u,.int 1 v]}
 | .frz o u=>h.get? a=some o/\dJ H h a u
 | .tbl ps=>h.get? a=some {cls:=.none,data:=.fields ps}
 | .met f x=>h.get? a=some (W.methodObj (.ref f) (.ref x))
 | .ext φ=>φ h/\(∃ o,h.get? a=some o)/\∀ b c:Heap,φ b->(∀ o,b.get? a=some o->c.get? a=some o)->φ c
def HOk(H:Hp)(h:Heap):Prop:=∀ a o,H a=some o->dJ P w H h a o
end
section
variable{P:Program}{w:World}{H H':Hp}{h h':Heap}{a:Addr}{o:HO}
theorem dJ.lt(x:dJ P w H h a o):a < h.objs.size:=by
 cases o with
 | lst xs=>obtain⟨_,_,_,_,e⟩:=x;exact a8b e
 | tup xs=>obtain⟨_,_,_,p,_⟩:=x;exact p.lt
 | dK kvs=>obtain⟨_,_,_,_,o,_,_,e,_⟩:=x;exact a8b e
 | dT kvs=>obtain⟨_,_,_,_,o,_,_,e,_⟩:=x;exact a8b e
 | set S n=>obtain⟨o,_,_,_,e,_⟩:=x;exact a8b e
 | ins C dx fs=>obtain⟨_,_,_,e,_⟩:=x;exact a8b e
 | own y=>obtain⟨_,e⟩:=x;exact a8b e
 | xd fs=>obtain⟨_,⟨_,_,_,e,_⟩,_⟩:=x;exact a8b e
 | rng lo hi=>obtain⟨_,_,_,e⟩:=x;exact a8b e
 | frz ob u=>obtain⟨e,_⟩:=x;exact a8b e
 | tbl ps=>exact a8b (show h.get? a=some _ from x)
 | met f y=>exact a8b (show h.get? a=some _ from x)
 | ext φ=>obtain⟨_,⟨_,e⟩,_⟩:=x;exact a8b e
theorem Paired.mapP{c d:Type}{F G:c->d->Prop}:∀ {l₁:List c} {l₂:List d},Paired F l₁ l₂->(∀ a b,F a b->G a b)->Paired G l₁ l₂
 | _,_,.nil,_=>.nil
 | _,_,.cons r t,f=>.cons (f _ _ r) (Paired.mapP t f)
def dJ.stay(x:dJ P w H h a o)(k:∀ b u,(b=a\/H b=some (.own a))->h.get? b=some u->h'.get? b=some u)
  (j:∀ b,H b=some (.own a)->H' b=some (.own a)) (l:∀ b xs,H b=some (.tup xs)->H' b=some (.tup xs)):dJ P w H' h' a o:=by
 induction o with
 | lst xs=>obtain⟨z,its,n,r,e⟩:=x;exact⟨z,its,n,r,k _ _ (.inl rfl) e⟩
 | tup xs=>obtain⟨z,its,r,⟨ob,e,c⟩,⟨g,i,m⟩⟩:=x;exact⟨z,its,r,⟨ob,k _ _ (.inl rfl) e,c⟩,⟨g,k _ _ (.inl rfl) i,m⟩⟩
 | dK kvs=>obtain⟨z,y,vs,r,ob,es,ep,e,c⟩:=x;exact⟨z,y,vs,r,ob,es,ep,k _ _ (.inl rfl) e,c⟩
 | dT kvs=>
   obtain⟨z,y,xs,r,ob,es,ep,e,c⟩:=x;exact⟨z,y,xs,Paired.mapP r λp q z=>⟨z.1,l _ _ z.2.1,z.2.2⟩,ob,es,ep,k _ _ (.inl rfl) e,c⟩
 | set S n=>obtain⟨ob,es,ep,t,e,c⟩:=x;exact⟨ob,es,ep,t,k _ _ (.inl rfl) e,c⟩
 | ins C dx fs=>
   obtain⟨d,z,ne,e,mA,⟨od,es,ep,i,c⟩,r⟩:=x;exact⟨j _ d,z,ne,k _ _ (.inl rfl) e,mA,⟨od,es,ep,k _ _ (.inr d) i,c⟩,r⟩
 | own y=>obtain⟨ob,e⟩:=x;exact⟨ob,k _ _ (.inl rfl) e⟩
 | xd fs=>obtain⟨mA,⟨od,es,ep,e,c⟩,r⟩:=x;exact⟨mA,⟨od,es,ep,k _ _ (.inl rfl) e,c⟩,r⟩
 | rng lo hi=>obtain⟨t,u,v,e⟩:=x;exact⟨t,u,v,k _ _ (.inl rfl) e⟩
 | frz ob u s=>obtain⟨e,q⟩:=x;exact⟨k _ _ (.inl rfl) e,s q⟩
 | tbl ps=>
   have e:h.get? a=some {cls:=.none,data:=.fields ps}:=x;show h'.get? a=some {cls:=.none,data:=.fields ps};exact k a _ (.inl rfl) e
 | met f y=>
   have e:h.get? a=some (W.methodObj (.ref f) (.ref y)):=x;show h'.get? a=some (W.methodObj (.ref f) (.ref y));exact k a _ (.inl rfl) e
 | ext φ=>obtain⟨p,⟨o,e⟩,st⟩:=x;exact⟨st _ _ p λo q=>k _ _ (.inl rfl) q,⟨o,k _ _ (.inl rfl) e⟩,st⟩
theorem HOk.lt(x:HOk P w H h)(e:H a=some o):a < h.objs.size:=(x a o e).lt
theorem HOk.fresh(x:HOk P w H h)(e:h.objs.size<=a):H a=none:=by
 cases q:H a with
 | none=>rfl
 | some u=>exact absurd (a4c (x.lt q) e) (a6f _)
def HOk.kept(x:HOk P w H h)(k:∀ b u,h.get? b=some u->h'.get? b=some u):HOk P w H h':=λa o e=>
 (x a o e).stay (λb u _ q=>k b u q) (λ_ q=>q) λ_ _ q=>q
def HOk.laid(x:HOk P w H h)(k:∀ b u,h.get? b=some u->h'.get? b=some u)(f:h.objs.size<=a)(d:dJ P w (upd H a o) h' a o):HOk P w (upd H a o) h':=λb u e=>by
 have hn:=x.fresh f;by_cases hb:b=a;subst hb;rw[aJ]at e;cases e;exact d;rw[aG hb]at e;exact(x b u e).stay (λc v _ q=>k c v q) (λc q=>by rw[aG (aL q hn)];exact q) λc xs q=>by rw[aG (aL q hn)];exact q
end
def Rd(H:Hp)(a:Addr)(u:HO):Prop:=H a=some u\/∃ o,H a=some (.frz o u)
theorem Rd.ok{P:Program}{w:World}{H:Hp}{h:Heap}{a:Addr}{u:HO}(r:Rd H a u)(x:HOk P w H h):dJ P w H h a u:=by
 rcases r with r | ⟨o,r⟩;exact x a u r;obtain⟨_,q⟩:=x a _ r;exact q
def Mut:Option HO->Prop
 | some (.lst _)=>True
 | some (.dK _)=>True
 | some (.dT _)=>True
 | some (.set _ _)=>True
 | some (.ins _ _ _)=>True
 | some (.ext _)=>True
 | _=>False
section
variable{P:Program}{w:World}{H:Hp}{h h':Heap}{x e:Addr}{o':HO}
def HOk.write(ok:HOk P w H h)(mu:Mut (H x))(l:e=x\/H e=some (.own x))(k:∀ b u,b≠e->h.get? b=some u->h'.get? b=some u)(i:∃ u,h'.get? e=some u)
  (j:dJ P w (upd H x o') h' x o'):HOk P w (upd H x o') h':=λb u q=>by
 have d:∀ c y,H c=some (.own y)->c≠x:=λc y r z=>by subst z;rw[r]at mu;exact mu
 have f:∀ c xs,H c=some (.tup xs)->c≠x:=λc xs r z=>by subst z;rw[r]at mu;exact mu
 by_cases hb:b=x;subst hb;rw[aJ]at q;cases q;exact j;rw[aG hb]at q;by_cases a:b=e
 ·have m:H b=some (.own x):=by
   rcases l with z | z;exact absurd (a.trans z) hb;rw[a];exact z
  rw[q]at m;cases m;obtain⟨v,n⟩:=i;exact⟨v,by rw[a];exact n⟩
 ·refine(ok b u q).stay (λc v g r=>k c v ?_ r) (λc r=>by rw[aG (d c b r)];exact r) λc xs r=>by rw[aG (f c xs r)];exact r
  rcases g with rfl | g;exact a;rintro rfl;rcases l with z | z;exact d c b g z;rw[g]at z;cases z;exact hb rfl
end
structure Un(fs ex:List Addr)(H H':Hp)(h h':Heap):Prop where
 keep:∀ b o,h.get? b=some o->H b=none->b∉fs->b∉ex->h'.get? b=some o
 slot:∀ b o,h.get? b=some o->H b=none->b∈fs->b∉ex->∃ sl,h'.get? b=some {o with slots:=sl}
 free:∀ b o,h.get? b=some o->H b=none->b∉ex->H' b=none
 there:∀ b o,h.get? b=some o->b∉ex->∃ o',h'.get? b=some o'
 tups:∀ b xs,H b=some (.tup xs)->H' b=some (.tup xs)
 frzs:∀ b o u,H b=some (.frz o u)->H' b=some (.frz o u)
 tbls:∀ b ps,H b=some (.tbl ps)->∃ more,H' b=some (.tbl (ps++more))
section
variable{fs fs' ex ex':List Addr}{H H1 H2:Hp}{h h1 h2 h':Heap}{a x e:Addr}{o:HO}
def Un.any(u:Un fs ex H H1 h h1){b:Addr}{ob:Obj}(q:h.get? b=some ob)(n:H b=none)(a:b∉ex):∃ sl,h1.get? b=some {ob with slots:=sl}:=by
 by_cases hb:b∈fs;exact u.slot b ob q n hb a;exact⟨ob.slots,u.keep b ob q n hb a⟩
def Un.kept(k:∀ b u,h.get? b=some u->h'.get? b=some u):Un fs ex H H h h':=
 ⟨λb ob q _ _ _=>k b ob q,λb ob q _ _ _=>⟨ob.slots,k b ob q⟩,λ_ _ _ n _=>n,λb ob q _=>⟨ob,k b ob q⟩,λ_ _ q=>q,λ_ _ _ q=>q,λ_ ps q=>⟨#[],by rw[q];simp⟩⟩
def Un.refl:Un fs ex H H h h:=Un.kept λ_ _ q=>q
def Un.laid(k:∀ b u,h.get? b=some u->h'.get? b=some u)(c:h.objs.size<=a)(hn:H a=none):Un fs ex H (upd H a o) h h' where
 keep:=λb u q _ _ _=>k b u q
 slot:=λb u q _ _ _=>⟨u.slots,k b u q⟩
 free:=λb u q n _=>by rw[aG (a0e (a4c (a8b q) c))];exact n
 there:=λb u q _=>⟨u,k b u q⟩
 tups:=λb xs q=>by rw[aG (aL q hn)];exact q
 frzs:=λb u xs q=>by rw[aG (aL q hn)];exact q
 tbls:=λb ps q=>⟨#[],by rw[aG (aL q hn),q];simp⟩
def Un.write(mu:Mut (H x))(f:e=x\/H e=some (.own x))(k:∀ b u,b≠e->h.get? b=some u->h'.get? b=some u)(c:∃ u,h'.get? e=some u):Un fs ex H (upd H x o) h h':=by
 have d:∀ b,H b=none->b≠x:=λb n z=>by subst z;rw[n]at mu;exact mu
 have hb:∀ b,H b=none->b≠e:=λb n z=>by
  subst z;rcases f with r | r;exact d b n r;rw[n]at r;cases r
 have hm:∀ b u,H b=some u->¬ Mut (some u)->b≠x:=λb u q g z=>by subst z;rw[q]at mu;exact g mu
 refine⟨λb u q n _ _=>k b u (hb b n) q,λb u q n _ _=>⟨u.slots,k b u (hb b n) q⟩,λb u q n _=>by rw[aG (d b n)];exact n,λb u q _=>?_,
  λb xs q=>by rw[aG (hm b _ q λz=>z)];exact q,λb u xs q=>by rw[aG (hm b _ q λz=>z)];exact q,λb ps q=>⟨#[],by rw[aG (hm b _ q λz=>z),q];simp⟩⟩
 by_cases a:b=e;subst a;exact c;exact⟨u,k b u a q⟩
end
noncomputable def trk(h:Heap)(H:Hp):List Addr:=(List.range h.objs.size).filter λa=>(H a).isSome
noncomputable def bS2(h:Heap)(H:Hp):Heap:=W.hideAll h (trk h H)
def bF1(h:Heap)(H:Hp):(bS2 h H).objs.size=h.objs.size:=W.hideAll_size _ _
def bS3{h:Heap}{H:Hp}{b:Addr}{o:Obj}(e:h.get? b=some o)(n:H b=none):(bS2 h H).get? b=some o:=
 W.hideAll_get _ e λhm=>by
  have q:(H b).isSome=true:=(List.mem_filter.mp hm).2;rw[n]at q;simp at q
def cH1{h:Heap}{H:Hp}{b:Addr}{o:Obj}(e:(bS2 h H).get? b=some o):h.get? b=some o/\H b=none:=by
 have a:h.get? b=some o:=W.of_hideAll (trk h H) e;refine⟨a,?_⟩;cases q:H b with
 | none=>rfl
 | some x=>
   have hm:b∈trk h H:=List.mem_filter.mpr ⟨a1h.mpr (a8b a),by simp[q]⟩;have z:(bS2 h H).get? b=none:=W.hideAll_none (trk h H) hm;rw[z]at e;cases e
noncomputable def cH2(g h:Heap)(L:Addr):List (Addr×Obj):=(List.range h.objs.size).filterMap λa=>if a=L\/(g.get? a).isSome=true then none else(h.get? a).map λo=>(a,o)
noncomputable def eZ(g h:Heap)(L d:Addr):List (Addr×Obj):=(cH2 g h L).filter λp=>decide (p.1≠d)
structure Mod(K:W.Frag)(mg:Str->Option Value)(base:Heap):Prop where
 kin:K.In base
 glob:base.Ns mainGlobals mg
 blt:∃ mb,base.Ns builtinsNs mb/\∀ x:Str,x≠"__name__"->mb x=bootBuiltins x
 nolimit:base.NoLimit
structure Cx where
 prog:Program
 w:World
 K:W.Frag
 mg:Str->Option Value
 base:Heap
 A:Around
 N:List Str
 s₀:Shared
 H₀:Hp
 env:Env
 outer:List Env
 stack:List Env
 ex:List Addr
 fn:Str->Bool
 calm:Bool
 pn:List (Addr×Obj)
 xe:Value->Shared->Prop
noncomputable def frs(l:List Env):List Addr:=l.filterMap (·.frame)
noncomputable abbrev Cx.fs(X:Cx):List Addr:=frs X.outer
def Vis(sc:Scope)(x:Str):Prop:=sc.names.lookup x=some .local\/sc.names.lookup x=some .cell\/sc.names.lookup x=some .free
def Loc(sc:Scope)(x:Str):Prop:=sc.names.lookup x=some .local\/sc.names.lookup x=some .cell
def dV0(env:Env)(h:Heap)(m:Str->Option Value)(x:Str)(u:Value):Prop:=
 (env.kindOf x=some .local/\m x=some u)\/((env.kindOf x=some .cell\/env.kindOf x=some .free)/\∃ c,env.cells.lookup x=some c/\h.IsCell c (some u))
structure Cx.Ok(X:Cx):Prop where
 mod:Mod X.K X.mg X.base
 kind:X.env.scope.kind=.function
 glob:X.env.globals=mainGlobals
 blt:X.env.builtins=builtinsNs
 above:X.s₀.heap.objs.size<=X.env.locals
 inj:∀ x y c,X.env.cells.lookup x=some c->X.env.cells.lookup y=some c->x=y
 has:∀ x,(X.env.kindOf x=some .cell\/X.env.kindOf x=some .free)->∃ c,X.env.cells.lookup x=some c
 cab:∀ x c,X.fn x=true->X.env.cells.lookup x=some c->X.s₀.heap.objs.size<=c
 hd:X.calm=true->X.A.handled=none
 frames:X.A.frames=some X.stack
 stk:X.stack=X.outer\/(X.stack=X.env::X.outer/\X.env.frame=some X.env.locals)
 exf:∀ b∈X.ex,b≠X.env.locals/\∀ x c,X.env.cells.lookup x=some c->c≠b
 bs:∀ b o,X.base.get? b=some o->X.s₀.heap.get? b=some o/\X.H₀ b=none
 bsz:X.base.objs.size<=X.s₀.heap.objs.size
 noex:∀ b o,X.base.get? b=some o->b∉X.ex
 exfs:∀ b∈X.ex,b∉X.fs
 funs:X.s₀.heap.FunFrames X.base X.outer
 frf:∀ b∈X.fs,X.H₀ b=none
structure Inv(X:Cx)(pins:List (Addr×Obj))(σ:List (Option V))(H:Hp)(s:Shared):Prop where
 ok:X.Ok
 os:s.os=X.s₀.os
 bare:AllBare s.gens
 base:Un X.fs X.ex X.H₀ H X.s₀.heap s.heap
 loc:∃ m,s.heap.Ns X.env.locals m/\∀ (i:Nat) (x:Str) (v:V),X.N[i]? = some x->σ[i]? = some (some v)->Vis X.env.scope x->∃ u,eA v u/\dV0 X.env s.heap m x u
 cell:∀ x c,X.env.cells.lookup x=some c->∃ v,s.heap.IsCell c v
 free:H X.env.locals=none
 freeC:∀ x c,X.env.cells.lookup x=some c->H c=none
 pin:∀ p∈X.pn++pins,s.heap.get? p.1=some p.2/\H p.1=none/\p.1≠X.env.locals/\p.1∉X.fs/\∀ v,p.2.data≠.cell v
 hok:HOk X.prog X.w H s.heap
 len:σ.length=X.N.length
section
variable{X:Cx}{pins:List (Addr×Obj)}{σ:List (Option V)}{H H':Hp}{s:Shared}{h':Heap}
def Cx.Ok.nofr(ok:X.Ok){b:Addr}{o:Obj}(e:X.base.get? b=some o):b∉X.fs:=λhb=>by
 have:=(ok.funs.mem hb).1;rw[e]at this;cases this
theorem Inv.bs(I:Inv X pins σ H s):∀ b o,X.base.get? b=some o->s.heap.get? b=some o/\H b=none:=λb o e=>
 ⟨I.base.keep b o (I.ok.bs b o e).1 (I.ok.bs b o e).2 (I.ok.nofr e) (I.ok.noex b o e),I.base.free b o (I.ok.bs b o e).1 (I.ok.bs b o e).2 (I.ok.noex b o e)⟩
def Inv.bk(I:Inv X pins σ H s):∀ b o,X.base.get? b=some o->s.heap.get? b=some o:=λb o e=>(I.bs b o e).1
theorem Inv.mod(I:Inv X pins σ H s):Mod X.K X.mg X.base:=I.ok.mod
def Inv.kIn(I:Inv X pins σ H s):X.K.In s.heap:=I.ok.mod.kin.keeps I.bk
theorem Inv.lt(I:Inv X pins σ H s):X.env.locals < s.heap.objs.size:=let ⟨_,hn,_⟩:=I.loc;hn.lt
def Inv.sz(I:Inv X pins σ H s):X.s₀.heap.objs.size<=s.heap.objs.size:=a3b I.ok.above (a2h I.lt)
def Inv.nofs(I:Inv X pins σ H s){a:Addr}(h:s.heap.objs.size<=a):a∉X.fs:=λhb=>by
 obtain⟨_,o,b,_⟩:=I.ok.funs.mem hb;exact absurd (a4c (a8b b) (a3b I.sz h)) (a6f _)
def Inv.cne(I:Inv X pins σ H s):∀ x c,X.env.cells.lookup x=some c->c≠X.env.locals:=λx c e z=>by
 obtain⟨v,o,d,hd⟩:=I.cell x c e;obtain⟨m,⟨o',es,ep,a,b,_⟩,_⟩:=I.loc;rw[z,a]at d;cases d;rw[b]at hd;cases hd
theorem Inv.funs(I:Inv X pins σ H s):s.heap.FunFrames X.base X.outer:=by
 have all:∀ (l:List Env),(∀ b∈frs l,b∈X.fs)->X.s₀.heap.FunFrames X.base l->s.heap.FunFrames X.base l:=by
  intro l
  induction l with
  | nil=>intro _ _;trivial
  | cons env r d=>
    intro hs f;obtain⟨g,⟨L,o,a,hn,h,hd⟩,i⟩:=f;have c:L∈X.fs:=hs L (by unfold frs;rw[a7h,a];exact a3a);obtain⟨sl,e⟩:=I.base.slot L o h (I.ok.frf L c) c λz=>I.ok.exfs L z c;exact⟨g,⟨L,_,a,hn,e,hd⟩,d (λb hb=>hs b (by unfold frs;rw[a7h,a];exact a5a _ hb)) i⟩
 exact all X.outer (λ_ hb=>hb) I.ok.funs
theorem Inv.stack(I:Inv X pins σ H s):s.heap.FunFrames X.base X.stack:=by
 rcases I.ok.stk with e | ⟨e,a⟩;rw[e];exact I.funs;rw[e];obtain⟨m,hn,_⟩:=I.loc;refine .cons (by rw[I.ok.kind];decide) a hn ?_ I.funs;exact Heap.get?_none_of_le (a3b I.ok.bsz I.ok.above)
def Inv.stkSub(I:Inv X pins σ H s):∀ b∈frs X.stack,b∈X.env.locals::X.fs:=λb hb=>by
 rcases I.ok.stk with e | ⟨e,a⟩;rw[e]at hb;exact a5a _ hb;rw[e]at hb;unfold frs at hb;rw[a7h,a]at hb;exact hb
def Inv.stkFree(I:Inv X pins σ H s):∀ b∈frs X.stack,H b=none:=λb hb=>by
 rcases a1c.mp (I.stkSub b hb)with e | hb;rw[e];exact I.free;obtain⟨_,o,a,_⟩:=I.ok.funs.mem hb;exact I.base.free b o a (I.ok.frf b hb) λz=>I.ok.exfs b z hb
def Inv.step{g':Array GenState}{t':Nat}{d':Drawn}{ch:List Addr}(I:Inv X pins σ H s)
  (f:∀ b∈ch,(b∈X.ex\/X.s₀.heap.objs.size<=b)/\b≠X.env.locals/\(∀ x c,X.env.cells.lookup x=some c->c≠b)/\∀ p∈X.pn++pins,p.1≠b)
  (keep:∀ b o,b≠X.env.locals->b∉X.fs->b∉ch->s.heap.get? b=some o->H b=none->h'.get? b=some o)
  (slot:∀ b o,b≠X.env.locals->b∈X.fs->b∉ch->s.heap.get? b=some o->H b=none->∃ sl,h'.get? b=some {o with slots:=sl}) (free:∀ b o,b∉ch->s.heap.get? b=some o->H b=none->H' b=none)
  (there:∀ b o,b∉ch->s.heap.get? b=some o->∃ o',h'.get? b=some o')
  (tups:∀ b xs,H b=some (.tup xs)->H' b=some (.tup xs)) (frzs:∀ b o u,H b=some (.frz o u)->H' b=some (.frz o u)) (tbls:∀ b ps,H b=some (.tbl ps)->∃ more,H' b=some (.tbl (ps++more)))
  (ns:∀ m,s.heap.Ns X.env.locals m->h'.Ns X.env.locals m) (hok:HOk X.prog X.w H' h') (G:AllBare g') :
  Inv X pins σ H' {s with heap:=h',gens:=g',drawn:=d',toks:=t'}:=by
 have A:∀ b o,X.s₀.heap.get? b=some o->b≠X.env.locals:=λb o e=>a0e (a4c (a8b e) I.ok.above);have j:∀ b o,X.s₀.heap.get? b=some o->b∉X.ex->b∉ch:=λb o e a hb=>by
  rcases(f b hb).1 with z | z;exact a z;exact absurd (a4c (a8b e) z) (a6f _)
 have g:∀ x c,X.env.cells.lookup x=some c->∀ v,s.heap.IsCell c v->h'.IsCell c v:=λx c e v ⟨o,y,hd⟩=>by
  have h:c∉ch:=λz=>(f c z).2.2.1 x c e rfl;by_cases D:c∈X.fs;obtain⟨sl,q⟩:=slot c o (I.cne x c e) D h y (I.freeC x c e);exact⟨_,q,hd⟩;exact⟨o,keep c o (I.cne x c e) D h y (I.freeC x c e),hd⟩
 refine⟨I.ok,I.os,G,⟨λb o e n hb a=>?_,λb o e n hb a=>?_,λb o e n a=>?_,λb o e a=>?_,λb xs e=>tups b xs (I.base.tups b xs e),λb o xs e=>frzs b o xs (I.base.frzs b o xs e),λb ps e=>?_⟩,?_,λx c e=>?_,?_,λx c e=>?_,λp E=>?_,hok,I.len⟩;exact keep b o (A b o e) hb (j b o e a) (I.base.keep b o e n hb a) (I.base.free b o e n a);obtain⟨sl,t⟩:=I.base.slot b o e n hb a;obtain⟨C,B⟩:=slot b _ (A b o e) hb (j b o e a) t (I.base.free b o e n a);exact⟨C,B⟩;obtain⟨o',t⟩:=I.base.there b o e a;exact free b o' (j b o e a) t (I.base.free b o e n a);obtain⟨o',t⟩:=I.base.there b o e a;exact there b o' (j b o e a) t;obtain⟨J,t⟩:=I.base.tbls b ps e;obtain⟨K,B⟩:=tbls b _ t;exact⟨J++K,by rw[B,Array.append_assoc]⟩;obtain⟨m,hn,L⟩:=I.loc;refine⟨m,ns m hn,λi x v t B M=>?_⟩;obtain⟨u,r,l⟩:=L i x v t B M;refine⟨u,r,?_⟩;rcases l with l | ⟨k,c,e,z⟩;exact .inl l;exact .inr ⟨k,c,e,g x c e _ z⟩;obtain⟨v,z⟩:=I.cell x c e;exact⟨v,g x c e v z⟩;obtain⟨m,⟨o,_,_,y,_⟩,_⟩:=I.loc;exact free _ o (λz=>(f _ z).2.1 rfl) y I.free;obtain⟨v,o,y,hd⟩:=I.cell x c e;exact free c o (λz=>(f c z).2.2.1 x c e rfl) y (I.freeC x c e);obtain⟨e,n,ne,F,d⟩:=I.pin p E;have h:p.1∉ch:=λz=>(f p.1 z).2.2.2 p E rfl;exact⟨keep p.1 p.2 ne F h e n,free p.1 p.2 h e n,ne,F,d⟩
def Inv.un{t':Nat}(I:Inv X pins σ H s)(u:Un X.fs [] H H' s.heap h')(hok:HOk X.prog X.w H' h'):Inv X pins σ H' {s with heap:=h',toks:=t'}:=by
 obtain⟨m,⟨o,es,ep,f,r⟩,_⟩:=id I.loc;obtain⟨sl,g⟩:=u.any f I.free (by simp);exact I.step (g':=s.gens) (d':=s.drawn) (ch:=[]) (λ_ z=>nomatch z) (λb o _ hb _ e n=>u.keep b o e n hb (by simp)) (λb o _ hb _ e n=>u.slot b o e n hb (by simp)) (λb o _ e n=>u.free b o e n (by simp)) (λb o _ e=>u.there b o e (by simp)) u.tups u.frzs u.tbls (λm' hm=>by
  obtain⟨o',c,d,a,h⟩:=hm;rw[f]at a;cases a;exact⟨_,c,d,g,h⟩) hok I.bare
def Inv.call{g':Array GenState}{t':Nat}{d':Drawn}{ch:List Addr}(I:Inv X pins σ H s)(u:Un (frs X.stack) ch H H' s.heap h')(hok:HOk X.prog X.w H' h')(k:AllBare g')
  (d:∀ b∈ch,(b∈X.ex\/X.s₀.heap.objs.size<=b)/\b≠X.env.locals/\(∀ x c,X.env.cells.lookup x=some c->c≠b)/\∀ p∈X.pn++pins,p.1≠b) :
  Inv X pins σ H' {s with heap:=h',gens:=g',drawn:=d',toks:=t'}:=by
 obtain⟨m,⟨o,es,ep,j,r⟩,_⟩:=id I.loc;obtain⟨sl,g⟩:=u.any j I.free λz=>(d _ z).2.1 rfl;exact I.step (ch:=ch) d (λb o g hb a e n=>u.keep b o e n (λz=>(a1c.mp (I.stkSub b z)).elim g hb) a) (λb o _ _ a e n=>u.any e n a) (λb o a e n=>u.free b o e n a) (λb o a e=>u.there b o e a) u.tups u.frzs u.tbls (λm' hm=>by
  obtain⟨o',h,i,f,l⟩:=hm;rw[j]at f;cases f;exact⟨_,h,i,g,l⟩) hok k
def Inv.turned{t':Nat}{it:Addr}(I:Inv X pins σ H s)(k:∀ b o,b≠it->s.heap.get? b=some o->h'.get? b=some o)(hn:H it=none)(f:it≠X.env.locals)
  (g:it∈X.ex\/X.s₀.heap.objs.size<=it) (h:∀ x c,X.env.cells.lookup x=some c->c≠it) (i:∀ p∈X.pn++pins,p.1≠it):Inv X pins σ H {s with heap:=h',toks:=t'}:=by
 have d:∀ b u,H b=some u->b≠it:=λb u e z=>by rw[z,hn]at e;cases e
 refine I.step (g':=s.gens) (d':=s.drawn) (ch:=[it]) (λb hb=>?_) (λb o _ _ a e _=>k b o (λz=>a (by simp[z])) e) (λb o _ _ a e _=>⟨o.slots,k b o (λz=>a (by simp[z])) e⟩) (λ_ _ _ _ n=>n)
  (λb o a e=>⟨o,k b o (λz=>a (by simp[z])) e⟩) (λ_ _ e=>e) (λ_ _ _ e=>e) (λb ps e=>⟨#[],by rw[e];simp⟩) (λm hm=>?_) (λb u e=>?_) I.bare
 ·have e:b=it:=by simpa using hb
  subst e;exact⟨g,f,h,i⟩
 ·obtain⟨o,es,ep,j,r⟩:=hm;exact⟨o,es,ep,k _ o (a5d f) j,r⟩
 ·refine(I.hok b u e).stay (λc v a q=>k c v ?_ q) (λ_ q=>q) λ_ _ q=>q;rcases a with z | z;rw[z];exact d b u e;exact d c _ z
def Inv.tok(I:Inv X pins σ H s)(t:Nat):Inv X pins σ H {s with toks:=t}:=I.un (h':=s.heap) (t':=t) Un.refl I.hok
theorem Inv.kept{t':Nat}(I:Inv X pins σ H s)(k:∀ b u,s.heap.get? b=some u->h'.get? b=some u):Inv X pins σ H {s with heap:=h',toks:=t'}:=I.un (Un.kept k) (I.hok.kept k)
theorem Inv.laid{a:Addr}{o:HO}{t':Nat}(I:Inv X pins σ H s)(k:∀ b u,s.heap.get? b=some u->h'.get? b=some u)(c:s.heap.objs.size<=a)(d:dJ X.prog X.w (upd H a o) h' a o) :
  Inv X pins σ (upd H a o) {s with heap:=h',toks:=t'}:=I.un (Un.laid k c (I.hok.fresh c)) (I.hok.laid k c d)
theorem Inv.write{x e:Addr}{o:HO}{t':Nat}(I:Inv X pins σ H s)(mu:Mut (H x))(d:e=x\/H e=some (.own x))(k:∀ b u,b≠e->s.heap.get? b=some u->h'.get? b=some u)(a:∃ u,h'.get? e=some u)
  (c:dJ X.prog X.w (upd H x o) h' x o):Inv X pins σ (upd H x o) {s with heap:=h',toks:=t'}:=I.un (Un.write mu d k a) (I.hok.write mu d k a c)
def Inv.weak{σ':List (Option V)}(I:Inv X pins σ H s)(b:σ'.length=σ.length)(w:∀ (i:Nat) v,σ'[i]? = some (some v)->σ[i]? = some (some v)):Inv X pins σ' H s:=
 ⟨I.ok,I.os,I.bare,I.base,let ⟨m,hn,a⟩:=I.loc;⟨m,hn,λi x v c d e=>a i x v c (w i v d) e⟩,I.cell,I.free,I.freeC,I.pin,I.hok,b.trans I.len⟩
def Inv.pins_of{a:List (Addr×Obj)}(I:Inv X pins σ H s)(h:∀ p∈a,s.heap.get? p.1=some p.2/\H p.1=none/\p.1≠X.env.locals/\p.1∉X.fs/\∀ v,p.2.data≠.cell v):Inv X a σ H s:=
 ⟨I.ok,I.os,I.bare,I.base,I.loc,I.cell,I.free,I.freeC,λp b=>(a3c.mp b).elim (λz=>I.pin p (a5g _ z)) (h p),I.hok,I.len⟩
def aT4{N:List Str}(c:N.Nodup){i j:Nat}{x:Str}(a:N[i]? = some x)(b:N[j]? = some x):i=j:=by
 obtain⟨f,d⟩:=a1a.mp a;obtain⟨g,e⟩:=a1a.mp b;exact(List.getElem_inj c).mp (d.trans e.symm)
def aE4{M:Model}{A:Around}{E:Value->Shared->Prop}{i:Nat}{x:Str}{v:V}{u:Value}{Q:Unit->Shared->Prop}(I:Inv X pins σ H s)(hN:X.N.Nodup)(hi:X.N[i]? = some x)(t:Loc X.env.scope x)(r:eA v u)
  (h:∀ s',Inv X pins (σ.set i (some v)) H s'->(∃ a,Heap.SameBut a s.heap s'.heap/\(a=X.env.locals\/X.env.cells.lookup x=some a))->Q () s') (hf:X.fn x=true\/X.env.scope.names.lookup x=some .local:=by first | exact .inl rfl | exact .inr rfl | assumption):wpAny M A (storeName X.env x u) Q E s:=by
 obtain⟨m,hn,hl⟩:=id I.loc;have J:(X.env.scope.kind==.class||(X.env.scope.kind==.module&&X.env.locals != X.env.globals))=false:=by rw[I.ok.kind];rfl
 have D:i < σ.length:=by rw[I.len];exact(a1a.mp hi).1
 have cne:=I.cne;have f:∀ {a:Addr} {h':Heap},(∃ o,s.heap.get? a=some o/\H a=none)->Heap.SameBut a s.heap h'->HOk X.prog X.w H h':=λ{a h'} ha hs b ob e=>by
  obtain⟨_,_,B⟩:=ha;refine(I.hok b ob e).stay (λc R l q=>(hs.2 c ?_).trans q) (λ_ q=>q) λ_ _ q=>q;rintro rfl;rcases l with rfl | l;rw[B]at e;cases e;rw[B]at l;cases l
 rcases t with F | F
 ·refine wpAny_storeName_local F hn (λh' T hs=>?_) J;obtain⟨oL,_,_,U,_⟩:=id hn;refine h _ ⟨I.ok,I.os,I.bare,⟨λb o e n hb t=>?_,λb o e n hb t=>?_,I.base.free,λb o e t=>?_,I.base.tups,I.base.frzs,I.base.tbls⟩,⟨_,T,λj y W g C Y=>?_⟩,λy c e=>?_,I.free,I.freeC,λp Z=>?_,f ⟨oL,U,I.free⟩ hs,by simpa using I.len⟩ ⟨_,hs,.inl rfl⟩;exact(hs.2 b (a0e (a4c (a8b e) I.ok.above))).trans (I.base.keep b o e n hb t);obtain⟨sl,g⟩:=I.base.slot b o e n hb t;exact⟨sl,(hs.2 b (a0e (a4c (a8b e) I.ok.above))).trans g⟩;obtain⟨o',g⟩:=I.base.there b o e t;exact⟨o',(hs.2 b (a0e (a4c (a8b e) I.ok.above))).trans g⟩;by_cases hj:j=i;subst hj;rw[hi]at g;cases g;rw[a6b D]at C;cases C;exact⟨u,r,.inl ⟨F,by simp⟩⟩;rw[a4a (a5d hj)]at C;obtain⟨u',r',q⟩:=hl j y W g C Y;refine⟨u',r',?_⟩;rcases q with⟨k,e⟩ | ⟨k,c,e,z⟩;refine .inl ⟨k,?_⟩;have:y≠x:=λe=>hj (aT4 hN g (e ▸ hi));simp[this,e];exact .inr ⟨k,c,e,z.sameBut hs (cne y c e)⟩;obtain⟨R,z⟩:=I.cell y c e;exact⟨R,z.sameBut hs (cne y c e)⟩;obtain⟨e,n,ne,nf,d⟩:=I.pin p Z;exact⟨(hs.2 p.1 ne).trans e,n,ne,nf,d⟩
 ·have G:X.fn x=true:=by
   rcases hf with z | z;exact z;rw[z]at F;cases F
  obtain⟨c,l⟩:=I.ok.has x (.inl F);obtain⟨R,z⟩:=I.cell x c l;refine wpAny_storeName_cell I.ok.kind F l z (λh' K hs=>?_);obtain⟨oc,L,O⟩:=id z;refine h {s with heap:=h'} ⟨I.ok,I.os,I.bare,⟨λb o e n hb t=>?_,λb o e n hb t=>?_,I.base.free,λb o e t=>?_,I.base.tups,I.base.frzs,I.base.tbls⟩,⟨m,hn.sameBut hs (a5d (cne x c l)),λj y W g C Y=>?_⟩,λy S e=>?_,I.free,I.freeC,λp Z=>?_,f ⟨oc,L,I.freeC x c l⟩ hs,by simpa using I.len⟩ ⟨c,hs,.inr l⟩;exact(hs.2 b (a0e (a4c (a8b e) (I.ok.cab x c G l)))).trans (I.base.keep b o e n hb t);obtain⟨sl,g⟩:=I.base.slot b o e n hb t;exact⟨sl,(hs.2 b (a0e (a4c (a8b e) (I.ok.cab x c G l)))).trans g⟩;obtain⟨o',g⟩:=I.base.there b o e t;exact⟨o',(hs.2 b (a0e (a4c (a8b e) (I.ok.cab x c G l)))).trans g⟩;by_cases hj:j=i;subst hj;rw[hi]at g;cases g;rw[a6b D]at C;cases C;exact⟨u,r,.inr ⟨.inl F,c,l,K⟩⟩;rw[a4a (a5d hj)]at C;obtain⟨u',r',q⟩:=hl j y W g C Y;refine⟨u',r',?_⟩;rcases q with q | ⟨k,S,e,z'⟩;exact .inl q;refine .inr ⟨k,S,e,z'.sameBut hs ?_⟩;rintro rfl;exact hj (aT4 hN g (I.ok.inj _ _ _ e l ▸ hi));by_cases P:S=c;subst P;exact⟨_,K⟩;obtain⟨w2,z2⟩:=I.cell y S e;exact⟨w2,z2.sameBut hs P⟩;obtain⟨e,n,ne,nf,d⟩:=I.pin p Z;refine⟨(hs.2 p.1 ?_).trans e,n,ne,nf,d⟩;intro q;rw[q,L]at e;have q':oc=p.2:=a7a e;exact d R (by rw[← q'];exact O)
def aT5{M:Model}{A:Around}{E:Value->Shared->Prop}{i:Nat}{x:Str}{v:V}{u:Value}{Q:Unit->Shared->Prop}(I:Inv X pins σ H s)(a:X.N.Nodup)(hi:X.N[i]? = some x)(b:Loc X.env.scope x)(r:eA v u)
  (h:∀ s',Inv X pins (σ.set i (some v)) H s'->Q () s') (c:X.fn x=true\/X.env.scope.names.lookup x=some .local:=by first | exact .inl rfl | exact .inr rfl | assumption):wpAny M A (storeName X.env x u) Q E s:=
 aE4 I a hi b r (λs' d _=>h s' d) c
def Inv.call'{s':Shared}{ch:List Addr}(I:Inv X pins σ H s)(d:s'.os=s.os)(u:Un (frs X.stack) ch H H' s.heap s'.heap)(hok:HOk X.prog X.w H' s'.heap)(f:AllBare s'.gens)
  (a:∀ b∈ch,(b∈X.ex\/X.s₀.heap.objs.size<=b)/\b≠X.env.locals/\(∀ x c,X.env.cells.lookup x=some c->c≠b)/\∀ p∈X.pn++pins,p.1≠b):Inv X pins σ H' s':=by
 obtain⟨h',g',d',t',o'⟩:=s';have e:o'=s.os:=d;subst e;exact I.call (g':=g') (t':=t') (d':=d') u hok f a
end
abbrev XK:=Value->Option Addr->Hp->Prop
abbrev St:=List (Option V)
abbrev VK:=V->Hp->Prop
abbrev TE:=St->Hp->VK->Prop
abbrev TT:=St->Hp->(Bool->Hp->Prop)->Prop
abbrev TA:=St->Hp->(List V->Hp->Prop)->Prop
structure Ends where
 nx:St->Hp->Prop
 rt:VK
 bk:St->Hp->Prop:=λ_ _=>False
 ct:St->Hp->Prop:=λ_ _=>False
abbrev TS:=Ends->St->Hp->Prop
def EP(X:Cx)(pins:List (Addr×Obj))(σ:St)(Q:VK)(u:Value)(s':Shared):Prop:=∃ v H',Inv X pins σ H' s'/\eA v u/\Q v H'
def TP(X:Cx)(pins:List (Addr×Obj))(σ:St)(Q:Bool->Hp->Prop)(b:Bool)(s':Shared):Prop:=∃ H',Inv X pins σ H' s'/\Q b H'
def AP(X:Cx)(pins:List (Addr×Obj))(σ:St)(Q:List V->Hp->Prop)(us:List Value)(s':Shared):Prop:=∃ vs H',Inv X pins σ H' s'/\cA vs us/\Q vs H'
def SP(X:Cx)(pins:List (Addr×Obj))(D:Ends)(f:Flow)(s':Shared):Prop:=
 match f with
 | .next=>∃ σ' H',Inv X pins σ' H' s'/\D.nx σ' H'
 | .brk=>∃ σ' H',Inv X pins σ' H' s'/\D.bk σ' H'
 | .cont=>∃ σ' H',Inv X pins σ' H' s'/\D.ct σ' H'
 | .ret u=>∃ v σ' H',Inv X pins σ' H' s'/\eA v u/\D.rt v H'
def PE(X:Cx)(e:Expr)(t:TE):Prop:=
 ∀ (pins:List (Addr×Obj)) (s:Shared) (σ:St) (H:Hp) (Q:VK),Inv X pins σ H s->t σ H Q->wpAny (model X.prog X.w) X.A (eval e X.env) (EP X pins σ Q) X.xe s
def PT(X:Cx)(e:Expr)(t:TT):Prop:=
 ∀ (pins:List (Addr×Obj)) (s:Shared) (σ:St) (H:Hp) (Q:Bool->Hp->Prop),Inv X pins σ H s->t σ H Q->wpAny (model X.prog X.w) X.A (isTrue e X.env (eval e X.env)) (TP X pins σ Q) X.xe s
def PW(X:Cx)(e:Expr)(t:TT):Prop:=
 ∀ (a:Sem Value) (pins:List (Addr×Obj)) (s:Shared) (σ:St) (H:Hp) (Q:Bool->Hp->Prop),Inv X pins σ H s->t σ H Q->wpAny (model X.prog X.w) X.A (isTrue e X.env a) (TP X pins σ Q) X.xe s
def PW.pt{X:Cx}{e:Expr}{t:TT}(h:PW X e t):PT X e t:=h _
def PA(X:Cx)(es:List Expr)(t:TA):Prop:=
 ∀ (a:Pos) (pins:List (Addr×Obj)) (s:Shared) (σ:St) (H:Hp) (Q:List V->Hp->Prop),Inv X pins σ H s->t σ H Q->wpAny (model X.prog X.w) X.A (spliced (backTo a (starEach es X.env))) (AP X pins σ Q) X.xe s
def PS(X:Cx)(st:Stmt)(t:TS):Prop:=
 ∀ (pins:List (Addr×Obj)) (s:Shared) (σ:St) (H:Hp) (D:Ends),Inv X pins σ H s->t D σ H->wpAny (model X.prog X.w) X.A (exec st X.env) (SP X pins D) X.xe s
def PSs(X:Cx)(st:List Stmt)(t:TS):Prop:=
 ∀ (pins:List (Addr×Obj)) (s:Shared) (σ:St) (H:Hp) (D:Ends),Inv X pins σ H s->t D σ H->wpAny (model X.prog X.w) X.A (execs st X.env) (SP X pins D) X.xe s
def thn{b:Type}{t:Sem b}{Q c:b->Shared->Prop}{M:Model}{A:Around}{E:Value->Shared->Prop}{s:Shared}(h:wpAny M A t Q E s)(d:∀ a s,Q a s->c a s):wpAny M A t c E s:=a3F h d λ_ _ x=>x
section
variable{X:Cx}
def aT6(i:Nat):TE:=λσ H Q=>∃ v,σ[i]? = some (some v)/\Q v H
def tC(v:V):TE:=λ_ H Q=>Q v H
def cW6{i:Nat}{x:Str}{pos:Pos}(g:X.N[i]? = some x)(j:Vis X.env.scope x)(hd:(x==("__debug__":Str))=false:=by decide)(d:(x==("__classdict__":Str))=false:=by decide):PE X (.Name x pos) (aT6 i):=by
 intro pins s σ H Q I h;obtain⟨v,e,h⟩:=h;obtain⟨m,hn,k⟩:=I.loc;obtain⟨u,r,l⟩:=k i x v g e j;have fin:EP X pins σ Q u s:=⟨v,H,I,r,h⟩;rcases l with⟨b,hm⟩ | ⟨b,c,f,a⟩;exact wpAny_Name (wpAny_loadName_local I.ok.kind b hn hm fin) hd;rcases b with b | b;exact wpAny_Name (wpAny_loadName_cell I.ok.kind b f a fin) hd;exact wpAny_Name (wpAny_loadName_free I.ok.kind b f a fin d) hd
def dN{i j pos}:PE X (.Constant (.int i) j pos) (tC (.int i)):=λ_ _ _ H _ I h=>wpAny_Constant_int ⟨.int i,H,I.tok _,⟨_,rfl⟩,h⟩
def cW7{b j pos}:PE X (.Constant (.bool b) j pos) (tC (.bl b)):=λ_ _ _ H _ I h=>Constant_bool ⟨.bl b,H,I,rfl,h⟩
def cC1{x j pos}:PE X (.Constant (.str x) j pos) (tC (.str x)):=λ_ _ _ H _ I h=>Calls.Constant_str ⟨.str x,H,I.tok _,⟨_,rfl⟩,h⟩
def Gl(X:Cx)(x:Str):Prop:=X.env.kindOf x=some .globalImplicit
def cH3{E:Value->Shared->Prop}{pins:List (Addr×Obj)}{s:Shared}{σ:St}{H:Hp}{x:Str}{u:Value}{pos:Pos}{Q:Value->Shared->Prop}(I:Inv X pins σ H s)(a:Gl X x)(hm:X.mg x=some u)(h:Q u s)
  (hd:(x==("__debug__":Str))=false:=by decide):wpAny (model X.prog X.w) X.A (eval (.Name x pos) X.env) Q E s:=
 Calls.Name_function_global I.ok.kind a (Calls.loadGlobal_global (by rw[I.ok.glob];exact I.mod.glob.keeps I.bk) hm h) hd
def vR{E:Value->Shared->Prop}{pins:List (Addr×Obj)}{s:Shared}{σ:St}{H:Hp}{x:Str}{u:Value}{pos:Pos}{Q:Value->Shared->Prop}(I:Inv X pins σ H s)(a:Gl X x)(hm:X.mg x=none)(b:bootBuiltins x=some u)(h:Q u s)
  (hn:x≠"__name__":=by decide) (hd:(x==("__debug__":Str))=false:=by decide):wpAny (model X.prog X.w) X.A (eval (.Name x pos) X.env) Q E s:=by
 obtain⟨mb,c,d⟩:=I.mod.blt;exact Calls.Name_function_global I.ok.kind a (Calls.loadGlobal_builtin (by rw[I.ok.glob];exact I.mod.glob.keeps I.bk) hm (by rw[I.ok.blt];exact c.keeps I.bk) ((d x hn).trans b) h) hd
def jK{x:Str}{v:V}{u:Value}{pos:Pos}(a:Gl X x)(hm:X.mg x=none)(b:bootBuiltins x=some u)(r:eA v u)(hn:x≠"__name__":=by decide)(hd:(x==("__debug__":Str))=false:=by decide):PE X (.Name x pos) (tC v):=
 λ_ _ _ H _ I h=>vR I a hm b ⟨v,H,I,r,h⟩ hn hd
variable{a b:Expr}{ta tb:TE}{pos:Pos}
def tB(t:TE):TT:=λσ H Q=>t σ H λx a=>∃ c,x=.bl c/\Q c a
def cW8{e:Expr}{t:TE}(h:PE X e t)(b:∀ a,isTrue e X.env a=(do let v ← a;standAt e.pos;holding [v] (truthy v)):=by intro _;rfl):PT X e (tB t):=by
 intro pins s σ H Q I c;refine isTrue_plain (thn (h pins s σ H _ I c) λv s1 Z0=>?_) (b _);obtain⟨x,f,g,i,j⟩:=Z0;obtain⟨d,rfl,q⟩:=j;cases i;exact a3N ⟨f,g,q⟩
variable{tA tB':TT}{eZ:List Expr}
def dR6(t u:TT):TT:=λσ H Q=>t σ H λc a=>if c=true then u σ a Q else Q false a
def tOr(t u:TT):TT:=λσ H Q=>t σ H λc a=>if c=true then Q true a else u σ a Q
def dR7(t:TT):TT:=λσ H Q=>t σ H λc a=>Q (!c) a
def cH4(ha:PT X a tA):PW X (.BoolOp .And [a] pos) tA:=by
 intro b pins s σ H Q I h;refine isTrue_and (thn (ha pins s σ H Q I h) λc s1 e=>?_);cases c with
 | true=>exact isTrue_and_nil e
 | false=>exact e
def cW9(ha:PT X a tA):PW X (.BoolOp .Or [a] pos) tA:=by
 intro b pins s σ H Q I h;refine isTrue_or (thn (ha pins s σ H Q I h) λc s1 e=>?_);cases c with
 | false=>exact isTrue_or_nil e
 | true=>exact e
def cX0(ha:PT X a tA)(hb:PW X (.BoolOp .And (b::eZ) pos) tB'):PW X (.BoolOp .And (a::b::eZ) pos) (dR6 tA tB'):=by
 intro g pins s σ H Q I h;refine isTrue_and (thn (ha pins s σ H _ I h) λc s1 Z0=>?_);obtain⟨d,e,f⟩:=Z0;cases c with
 | true=>exact hb g pins s1 σ d Q e f
 | false=>exact⟨d,e,f⟩
def dM2(ha:PT X a tA)(hb:PW X (.BoolOp .Or (b::eZ) pos) tB'):PW X (.BoolOp .Or (a::b::eZ) pos) (tOr tA tB'):=by
 intro g pins s σ H Q I h;refine isTrue_or (thn (ha pins s σ H _ I h) λc s1 Z0=>?_);obtain⟨d,e,f⟩:=Z0;cases c with
 | true=>exact⟨d,e,f⟩
 | false=>exact hb g pins s1 σ d Q e f
def cX1(ha:PT X a tA):PT X (.UnaryOp .Not a pos) (dR7 tA):=by
 intro pins s σ H Q I h;exact isTrue_not (ha pins s σ H (λc b=>Q (!c) b) I h)
def cX2(ta tb:TE):TE:=λσ H Q=>ta σ H λx a=>∃ c,x=.bl c/\if c=true then tb σ a Q else Q (.bl false) a
def dV1(ta tb:TE):TE:=λσ H Q=>ta σ H λx a=>∃ c,x=.bl c/\if c=true then Q (.bl true) a else tb σ a Q
def cX3(ta:TE):TE:=λσ H Q=>ta σ H λx a=>∃ c,x=.bl c/\Q (.bl (!c)) a
def cX4{op}{t:TE}(h:PE X a t):PE X (.BoolOp op [a] pos) t:=λpins s σ H Q I b=>BoolOp_one (h pins s σ H Q I b)
def cX5(ha:PE X a ta)(hb:PE X (.BoolOp .And (b::eZ) pos) tb):PE X (.BoolOp .And (a::b::eZ) pos) (cX2 ta tb):=by
 intro pins s σ H Q I h;refine BoolOp_and (thn (ha pins s σ H _ I h) λv s1 Z0=>?_);obtain⟨x,e,f,g,d⟩:=Z0;obtain⟨c,rfl,d⟩:=d;cases g;refine a3N ?_;cases c with
 | true=>exact hb pins s1 σ e Q f d
 | false=>exact⟨.bl false,e,f,rfl,d⟩
def cX6(ha:PE X a ta):PE X (.UnaryOp .Not a pos) (cX3 ta):=by
 intro pins s σ H Q I h;refine UnaryOp_ (thn (ha pins s σ H _ I h) λv s1 Z0=>?_);obtain⟨x,d,e,f,b⟩:=Z0;obtain⟨c,rfl,b⟩:=b;cases f;exact not_of (a3N ⟨.bl (!c),d,e,rfl,b⟩)
def tIf(t:TT)(ta tb:TE):TE:=λσ H Q=>t σ H λc a=>if c=true then ta σ a Q else tb σ a Q
end
def SqL(K:W.Frag)(H:Hp)(a:Addr)(xs:List V):Prop:=
 Rd H a (.lst xs) \/
  ∃ (o:Obj) (its:Array Value) (n:Nat),K.lookup a=some o/\o.cls=.type "list"/\o.dict=none/\o.data=.seq its n/\its.size<=sizeLine/\cA xs its.toList
def SqT(K:W.Frag)(H:Hp)(a:Addr)(xs:List V):Prop:=
 Rd H a (.tup xs) \/
  ∃ (o:Obj) (its:Array Value) (n:Nat),K.lookup a=some o/\o.cls=.type "tuple"/\o.data=.seq its n/\its.size<=sizeLine/\cA xs its.toList
noncomputable def dV2:Value->Option V
 | .none=>some .non
 | .bool b=>some (.bl b)
 | .int i _=>some (.int i)
 | .str x _=>some (.str x)
 | .bytes b _=>some (.byt b)
 | .float b _=>some (.flt b)
 | .ref a=>some (.ref a)
 | .type n=>some (.ty n)
 | _=>none
def eA.abs{x:V}{u:Value}(r:eA x u):dV2 u=some x:=by
 cases x with
 | non=>cases r;rfl
 | bl _=>cases r;rfl
 | int _=>obtain⟨t,rfl⟩:=r;rfl
 | str _=>obtain⟨t,rfl⟩:=r;rfl
 | byt _=>obtain⟨t,rfl⟩:=r;rfl
 | flt _=>obtain⟨t,rfl⟩:=r;rfl
 | ref _=>cases r;rfl
 | ty _=>cases r;rfl
def eA.inj{x y:V}{u:Value}(r:eA x u)(q:eA y u):x=y:=a7a (r.abs.symm.trans q.abs)
theorem cA.inj:∀ {xs ys:List V} {us:List Value},cA xs us->cA ys us->xs=ys
 | _,_,_,.nil,.nil=>rfl
 | _,_,_,.cons r t,.cons a b=>by rw[r.inj a,cA.inj t b]
section
variable{X:Cx}{pins:List (Addr×Obj)}{σ:St}{H:Hp}{s:Shared}{a:Addr}{xs ys:List V}
def SqL.of{K:W.Frag}(h:H a=some (.lst xs)):SqL K H a xs:=.inl (.inl h)
def SqT.of{K:W.Frag}(h:H a=some (.tup xs)):SqT K H a xs:=.inl (.inl h)
def Inv.list(I:Inv X pins σ H s)(h:SqL X.K H a xs):∃ its:List Value,cA xs its/\PlainL s.heap a its.toArray/\xs.length<=sizeLine:=by
 rcases h with h | ⟨o,its,n,b,c,hd,hs,d,r⟩;obtain⟨z,its,n,r,e⟩:=h.ok I.hok;exact⟨its,r,⟨_,n,e,rfl,rfl,rfl⟩,z⟩;refine⟨its.toList,r,⟨o,n,I.kIn a o b,c,hd,by simpa using hs⟩,?_⟩;have e:=r.length;simp only[Array.length_toList]at e;lia
def Inv.tuple(I:Inv X pins σ H s)(h:SqT X.K H a xs):∃ its:List Value,cA xs its/\IsTup s.heap a its.toArray/\xs.length<=sizeLine:=by
 rcases h with h | ⟨o,its,n,b,c,hs,d,r⟩;obtain⟨z,its,r,p,_⟩:=h.ok I.hok;exact⟨its,r,p,z⟩;refine⟨its.toList,r,⟨o,I.kIn a o b,c,n,by simpa using hs⟩,?_⟩;have e:=r.length;simp only[Array.length_toList]at e;lia
def Inv.list_inj(I:Inv X pins σ H s)(h:SqL X.K H a xs)(h':SqL X.K H a ys):xs=ys:=by
 obtain⟨its,r,⟨o,n,e,_,_,d⟩,_⟩:=I.list h;obtain⟨b,f,⟨o',i,c,_,_,d'⟩,_⟩:=I.list h';rw[e]at c;cases c;rw[d]at d';injection d' with g _
 have:its=b:=by simpa using a3D Array.toList g
 subst this;exact r.inj f
def Inv.tuple_inj(I:Inv X pins σ H s)(h:SqT X.K H a xs)(h':SqT X.K H a ys):xs=ys:=by
 obtain⟨its,r,⟨o,e,_,n,d⟩,_⟩:=I.tuple h;obtain⟨b,f,⟨o',c,_,i,d'⟩,_⟩:=I.tuple h';rw[e]at c;cases c;rw[d]at d';injection d' with g _
 have:its=b:=by simpa using a3D Array.toList g
 subst this;exact r.inj f
end
noncomputable abbrev Cx.wish(X:Cx)(E:Value->Shared->Prop):Cx:={X with xe:=E}
noncomputable abbrev Cx.nox(X:Cx):Cx:=X.wish λ_ _=>False
theorem Cx.Ok.wish{X:Cx}(ok:X.Ok)(E:Value->Shared->Prop):(X.wish E).Ok:=
 ⟨ok.mod,ok.kind,ok.glob,ok.blt,ok.above,ok.inj,ok.has,ok.cab,ok.hd,ok.frames,ok.stk,ok.exf,ok.bs,ok.bsz,ok.noex,ok.exfs,ok.funs,ok.frf⟩
def Cx.Ok.unwish{X:Cx}{E:Value->Shared->Prop}(ok:(X.wish E).Ok):X.Ok:=
 ⟨ok.mod,ok.kind,ok.glob,ok.blt,ok.above,ok.inj,ok.has,ok.cab,ok.hd,ok.frames,ok.stk,ok.exf,ok.bs,ok.bsz,ok.noex,ok.exfs,ok.funs,ok.frf⟩
section
variable{X:Cx}{pins:List (Addr×Obj)}{σ:St}{H:Hp}{s:Shared}{E:Value->Shared->Prop}
theorem Inv.wish(I:Inv X pins σ H s)(E:Value->Shared->Prop):Inv (X.wish E) pins σ H s:=⟨I.ok.wish E,I.os,I.bare,I.base,I.loc,I.cell,I.free,I.freeC,I.pin,I.hok,I.len⟩
theorem Inv.unwish(I:Inv (X.wish E) pins σ H s):Inv X pins σ H s:=⟨I.ok.unwish,I.os,I.bare,I.base,I.loc,I.cell,I.free,I.freeC,I.pin,I.hok,I.len⟩
theorem SP.unwish{D:Ends}{f:Flow}{s':Shared}(h:SP (X.wish E) pins D f s'):SP X pins D f s':=by
 cases f with
 | next=>obtain⟨σ',H',I,q⟩:=h;exact⟨σ',H',I.unwish,q⟩
 | brk=>obtain⟨σ',H',I,q⟩:=h;exact⟨σ',H',I.unwish,q⟩
 | cont=>obtain⟨σ',H',I,q⟩:=h;exact⟨σ',H',I.unwish,q⟩
 | ret u=>obtain⟨v,σ',H',I,r,q⟩:=h;exact⟨v,σ',H',I.unwish,r,q⟩
theorem PSs.nox{st:List Stmt}{t:TS}(h:PSs X.nox st t):PSs X st t:=λpins s σ H D I a=>
 a3F (h pins s σ H D (I.wish _) a) (λ_ _ q=>q.unwish) λ_ _ z=>False.elim z
end
section
variable{X:Cx}{st:Stmt}{eZ:List Stmt}{t u:TS}{e:Expr}{te:TE}{pos:Pos}
def cX7:TS:=λD σ H=>D.nx σ H
def cT3(t u:TS):TS:=λD σ H=>t {D with nx:=u D} σ H
def aN7:PSs X [] cX7:=λ_ _ σ H _ I h=>wpAny_execs_nil ⟨σ,H,I,h⟩
def cK(a:PS X st t)(b:PSs X eZ u):PSs X (st::eZ) (cT3 t u):=by
 intro pins s σ H D I h;refine wpAny_execs_cons (thn (a pins s σ H {D with nx:=u D} I h) λf s1 q=>?_);cases f with
 | next=>
   obtain⟨σ',H',c,q⟩:=q;exact b pins s1 σ' H' D c q
 | ret v=>exact q
 | brk=>exact q
 | cont=>exact q
def gD(a:PS X st t):PSs X [st] t:=by
 intro pins s σ H D I h;refine wpAny_execs_cons (thn (a pins s σ H D I h) λf s1 q=>?_);cases f with
 | next=>exact wpAny_execs_nil q
 | ret v=>exact q
 | brk=>exact q
 | cont=>exact q
def Inv.quiet{pins:List (Addr×Obj)}{σ:St}{H:Hp}{s:Shared}(I:Inv X pins σ H s):interactive X.env=false:=by simp[interactive,I.ok.kind]
def bF2(te:TE):TS:=λD σ H=>te σ H λ_ a=>D.nx σ a
def vS(a:PE X e te)(hs:swapsWith e none pos.line X.env=pure false:=by rfl):PS X (.Expr e pos) (bF2 te):=by
 intro pins s σ H D I h;exact wpAny_Expr_any (thn (a pins s σ H _ I h) λv s1 ⟨x,b,c,f,d⟩=>⟨σ,b,c,d⟩) I.quiet hs
def dK4(te:TE):TS:=λD σ H=>te σ H D.rt
def yF(a:PE X e te):PS X (.Return (some e) pos) (dK4 te):=by
 intro pins s σ H D I h;exact wpAny_Return_some (thn (a pins s σ H _ I h) λv s1 ⟨x,b,c,d,f⟩=>⟨x,σ,b,c,d,f⟩)
def dM3:TS:=λD _ H=>D.rt .non H
def dR8(c:TT)(t u:TS):TS:=λD σ H=>c σ H λb a=>if b=true then t D σ a else u D σ a
def cH5{c:Expr}{a b:List Stmt}{e:TT}(j:PT X c e)(ha:PSs X a t)(hb:PSs X b u):PS X (.If c a b pos) (dR8 e t u):=by
 intro pins s σ H D I h;refine wpAny_If (thn (j pins s σ H _ I h) λd s1 Z0=>?_);obtain⟨f,g,i⟩:=Z0;cases d with
 | true=>exact ha pins s1 σ f D g i
 | false=>exact hb pins s1 σ f D g i
end
abbrev TG:=V->St->Hp->(St->Hp->Prop)->Prop
abbrev TGs:=List V->St->Hp->(St->Hp->Prop)->Prop
def PG(X:Cx)(a:Expr)(t:TG):Prop:=
 ∀ (pins:List (Addr×Obj)) (s:Shared) (σ:St) (H:Hp) (v:V) (u:Value) (Q:St->Hp->Prop),Inv X pins σ H s->eA v u->t v σ H Q ->
   wpAny (model X.prog X.w) X.A (assign a X.env u) (λ_ s'=>∃ σ' H',Inv X pins σ' H' s'/\Q σ' H') X.xe s
def PGs(X:Cx)(a:List Expr)(t:TGs):Prop:=
 ∀ (pins:List (Addr×Obj)) (s:Shared) (σ:St) (H:Hp) (vs:List V) (us:List Value) (Q:St->Hp->Prop),Inv X pins σ H s->cA vs us->t vs σ H Q ->
   wpAny (model X.prog X.w) X.A (assignInOrder ((assignEach a X.env).map (·.2)) us) (λ_ s'=>∃ σ' H',Inv X pins σ' H' s'/\Q σ' H') X.xe s
abbrev oM:=V->V->V->Hp->(Hp->Prop)->Prop
def dR9(X:Cx)(t:oM):Prop:=
 ∀ (pins:List (Addr×Obj)) (s:Shared) (σ:St) (H:Hp) (o i v:V) (ov a u:Value) (Q:Hp->Prop),Inv X pins σ H s->eA o ov->eA i a->eA v u->t o i v H Q ->
   wpAny (model X.prog X.w) X.A (setItem ov a u) (λ_ s'=>∃ H',Inv X pins σ H' s'/\Q H') X.xe s
section
variable{X:Cx}{pos:Pos}
def nD(i:Nat):TG:=λv σ H Q=>Q (σ.set i (some v)) H
def aU{i:Nat}{x:Str}(a:X.N.Nodup)(hi:X.N[i]? = some x)(b:Loc X.env.scope x)(c:X.fn x=true\/X.env.scope.names.lookup x=some .local:=by first | exact .inl rfl | exact .inr rfl | assumption):PG X (.Name x pos) (nD i):=by
 intro pins s σ H v u Q I r h;exact wpAny_assign_Name (aT5 I a hi b r (λs' d=>⟨_,H,d,h⟩) c)
def dM4:TGs:=λvs σ H Q=>vs=[]/\Q σ H
def cH6(t:TG)(u:TGs):TGs:=λvs σ H Q=>∃ v r,vs=v::r/\t v σ H λσ' H'=>u r σ' H' Q
def aN8:PGs X [] dM4:=by
 intro pins s σ H vs us Q I r h;obtain⟨e,h⟩:=h;subst e;cases r;exact assignInOrder_nil ⟨σ,H,I,h⟩
def iU{e:Expr}{es:List Expr}{t:TG}{u:TGs}(b:PG X e t)(c:PGs X es u)
  (hs:(assignEach (e::es) X.env).map (·.2)=assign e X.env::(assignEach es X.env).map (·.2):=by rfl):PGs X (e::es) (cH6 t u):=by
 intro pins s σ H vs us Q I r h;obtain⟨v,k,d,h⟩:=h;subst d;cases r with
 | cons r f=>
   rw[hs];refine assignInOrder_cons (thn (b pins s σ H _ _ _ I r h) λ_ s1 Z0=>?_);obtain⟨a,g,i,j⟩:=Z0;exact c pins s1 a g _ _ Q i f j
def dV3(K:W.Frag)(n:Nat)(t:TGs):TG:=λv σ H Q=>∃ a xs,v=.ref a/\SqT K H a xs/\xs.length=n/\t xs σ H Q
def cX8{es:List Expr}{k:Nat}{t:TGs}{n:Nat}(g:X.calm=true)(h:PGs X es t)
  (hn:(assignEach es X.env).length=n:=by rfl) (c:(assignEach es X.env).findIdx? (·.1)=none:=by rfl):PG X (.Tuple es k pos) (dV3 X.K n t):=by
 intro pins s σ H v u Q I r d;obtain⟨a,xs,i,j,l,d⟩:=d;subst i;cases r;obtain⟨its,f,m,w⟩:=I.tuple j;refine assign_Tuple_tuple (I.ok.hd g) m (by simp[hn,← l,f.length]) c λh' p=>?_;have q:Inv X pins σ H {s with heap:=h'}:=I.kept (t':=s.toks) λb o e=>p b o (a0e (a8b e)) e;exact h pins _ σ H xs _ Q q (by simpa using f) d
def dM5(to a:TE)(t:oM):TG:=λv σ H Q=>to σ H λo b=>a σ b λi c=>t o i v c λd=>Q σ d
def aE5{o i:Expr}{to b:TE}{t:oM}(c:PE X o to)(hi:PE X i b)(hs:dR9 X t)
  (ha:∀ v,assign (.Subscript o i pos) X.env v=(do
   let ov ← holding [v] (eval o X.env)
   let a ← holding [v,ov] (eval i X.env)
   standAt pos
   holding [v,ov,a] (setItem ov a v)
   release [v,ov,a] []):=by intro _;rfl):PG X (.Subscript o i pos) (dM5 to b t):=by
 intro pins s σ H v u Q I r h;rw[ha];refine a3r (a3x (thn (c pins s σ H _ I h) λov s1 Z0=>?_));obtain⟨x,d,e,f,g⟩:=Z0;refine a3r (a3x (thn (hi pins s1 σ d _ e g) λa s2 ⟨y,j,k,l,m⟩=>?_));refine a3r (a3W (a3r (a3x (thn (hs pins s2 σ j x y v ov a u _ k f l r m) λ_ w ⟨n,p,q⟩=>?_))));exact wpAny_release ⟨σ,n,p,q⟩
def bS4(a:TE)(g:TG):TS:=λD σ H=>a σ H λx b=>g x σ b D.nx
def yG{tg e:Expr}{a:TE}{g:TG}(b:PE X e a)(c:PG X tg g)(hs:swapsWithSole [tg] e pos.line X.env=pure false:=by rfl)(d:swappedStores [tg] e X.env=pure none:=by rfl)
  (f:(assignEach [tg] X.env).map (·.2)=[assign tg X.env]:=by rfl):PS X (.Assign [tg] e pos) (bS4 a g):=by
 intro pins s σ H D I h;refine wpAny_Assign_stores (thn (b pins s σ H _ I h) λv s1 Z0=>?_) hs d;obtain⟨x,i,j,k,l⟩:=Z0;rw[f];exact thn (c pins s1 σ i x v _ j k l) λ_ s2 q=>q
def pC{i:Nat}{x:Str}{e:Expr}{b:TE}{a:Pos}(c:X.N.Nodup)(hi:X.N[i]? = some x)(d:Loc X.env.scope x)(f:PE X e b)(hs:swapsWith e (some (.Name x a)) pos.line X.env=pure false:=by rfl)(g:X.fn x=true\/X.env.scope.names.lookup x=some .local:=by first | exact .inl rfl | exact .inr rfl | assumption) :
  PS X (.Assign [.Name x a] e pos) (bS4 b (nD i)):=by
 intro pins s σ H D I h;refine wpAny_Assign_Name (thn (f pins s σ H _ I h) λv s1 Z0=>?_) hs;obtain⟨y,j,k,l,m⟩:=Z0;exact aT5 k c hi d l (λs2 n=>⟨_,j,n,m⟩) g
def dV4(i j:Nat)(a:TA):TS:=λD σ H=>a σ H λvs b=>∃ v w,vs=[v,w]/\D.nx ((σ.set i (some v)).set j (some w)) b
end
section
variable{X:Cx}{pos:Pos}
def aT7(c:TT)(tb:TS):TS:=λD σ H=>∃ W:Nat->St->Hp->Prop,(∃ m,W m σ H)/\∀ m σ H,W m σ H ->
 c σ H λb a=>if b=true then ∃ N:St->Hp->Prop,(∀ σ' H',N σ' H'->∃ m',m' < m/\W m' σ' H')/\tb {D with nx:=N,ct:=N,bk:=D.nx} σ a else D.nx σ a
def aT8{c:Expr}{e:List Stmt}{m:TT}{o:TS}(p:PassesOwn (model X.prog X.w) X.A X.env X.xe)(x:PT X c m)(hb:PSs X e o):PS X (.While c e [] pos) (aT7 m o):=by
 intro pins s σ H D I h;obtain⟨W,⟨y,z⟩,turn⟩:=h;refine wpAny_While (codeAny_whileLoop (λn s'=>∃ σ' H',Inv X pins σ' H' s'/\W n σ' H') ?_ y ⟨σ,H,I,z⟩);rintro n s1 ⟨d,q,B,C⟩;refine a3H p (thn (x pins s1 d q _ B (turn n d q C)) λb s2 Z0=>?_);obtain⟨r,t,i⟩:=Z0;cases b with
 | true=>
   obtain⟨N,u,i⟩:=i;rw[a3s rfl];refine a3H p (thn (hb pins s2 d r _ t i) λf E j=>?_);cases f with
   | next=>
     obtain⟨a,g,k,n3⟩:=j;obtain⟨m',hm,l⟩:=u a g n3;exact⟨m',hm,a,g,k,l⟩
   | cont=>
     obtain⟨a,g,k,n3⟩:=j;obtain⟨m',hm,l⟩:=u a g n3;exact⟨m',hm,a,g,k,l⟩
   | brk=>exact j
   | ret v=>exact j
 | false=>
   rw[a3u a3d];exact wpAny_execs_nil ⟨d,r,t,i⟩
end
structure It where
 go:Nat->Hp->Prop
 yld:Nat->Hp->V->Hp->Prop
 stop:Nat->Hp->Prop
def bF3(X:Cx)(pins:List (Addr×Obj))(H:Hp)(b:Addr):Prop:=
 H b=none/\b≠X.env.locals/\b∉X.fs/\(b∈X.ex\/X.s₀.heap.objs.size<=b)/\(∀ x c,X.env.cells.lookup x=some c->c≠b)/\∀ p∈X.pn++pins,p.1≠b
def Inv.fpOk{X:Cx}{pins:List (Addr×Obj)}{σ:St}{H H':Hp}{s:Shared}{b:Addr}(I:Inv X pins σ H s)(hb:s.heap.objs.size<=b)(hn:H' b=none):bF3 X pins H' b:=by
 refine⟨hn,Nat.ne_of_gt (a4c I.lt hb),I.nofs hb,.inr (a3b I.sz hb),λx c e z=>?_,λp a z=>?_⟩;obtain⟨v,q⟩:=I.cell x c e;exact absurd (a4c q.lt (by rw[z];exact hb)) (a6f _);exact absurd (a4c (a8b (I.pin p a).1) (by rw[z];exact hb)) (a6f _)
structure Turn(P:Program)(w:World)(K:W.Frag)(tg:Expr)(J:It)(fp:List Addr)(it:Addr)(tn:Nat->Heap->Prop):Prop where
 mem:it∈fp
 obj:∀ i h,tn i h->∀ b∈fp,∃ o,h.get? b=some o/\∀ v,o.data≠.cell v
 keep:∀ i h h',tn i h->(∀ b∈fp,∀ o,h.get? b=some o->h'.get? b=some o)->tn i h'
 item:∀ (X:Cx),X.prog=P->X.w=w->X.K=K->X.calm=true->∀ (i:Nat) (pins:List (Addr×Obj)) (s:Shared) (σ:St) (H:Hp) (E:Value->Shared->Prop),Inv X pins σ H s->(∀ b∈fp,bF3 X pins H b)->tn i s.heap->J.go i H ->
  wpAny (model P w) X.A (pyNext (.ref it)) (λr s1=>∃ u,r=some u /\
   wpAny (model P w) X.A (letOwnedTupleGo tg (.ref it) u) (λ_ s2=>∃ x H',Inv X pins σ H' s2/\eA x u/\J.yld i H x H'/\tn (i+1) s2.heap/\∀ b∈fp,H' b=none) E s1) E s
 done:∀ (X:Cx),X.prog=P->X.w=w->X.K=K->X.calm=true->∀ (i:Nat) (pins:List (Addr×Obj)) (s:Shared) (σ:St) (H:Hp) (E:Value->Shared->Prop),Inv X pins σ H s->(∀ b∈fp,bF3 X pins H b)->tn i s.heap->J.stop i H ->
  wpAny (model P w) X.A (pyNext (.ref it)) (λr s1=>r=none/\Inv X pins σ H s1) E s
 self:∀ (A:Around) (i:Nat) (s:Shared) (Q:Value->Shared->Prop) (E:Value->Shared->Prop),tn i s.heap->Q (.ref it) s->wpAny (model P w) A (pyIter (.ref it)) Q E s
abbrev TI:=St->Hp->(It->Hp->Prop)->Prop
def PIE(X:Cx)(pins:List (Addr×Obj))(σ:St)(tg:Expr)(R:It->Hp->Prop)(a:Value)(s2:Shared):Prop:=
 ∃ (it:Addr) (fp:List Addr) (tn:Nat->Heap->Prop) (J:It) (H':Hp),a=.ref it/\Inv X pins σ H' s2/\Turn X.prog X.w X.K tg J fp it tn/\tn 0 s2.heap/\(∀ b∈fp,bF3 X pins H' b)/\R J H'
def PI(X:Cx)(tg iter:Expr)(a:TI):Prop:=
 ∀ (pins:List (Addr×Obj)) (s:Shared) (σ:St) (H:Hp) (R:It->Hp->Prop),Inv X pins σ H s->a σ H R ->
   wpAny (model X.prog X.w) X.A (eval iter X.env) (λv s1=>wpAny (model X.prog X.w) X.A (pyIter v) (PIE X pins σ tg R) X.xe s1) X.xe s
def bF4{M:Model}{A:Around}{E:Value->Shared->Prop}{s:Shared}{tg:Expr}{it:Addr}{u:Value}{o:Obj}{n:String}{vs:Array Value}{Q:Unit->Shared->Prop}(b:s.heap.get? it=some o)(c:o.cls=.type n)(hd:o.data=.fields vs)
  (hn:["enumerate","zip","dict_itemiterator","dict_reverseitemiterator","odict_iterator","itertools.zip_longest","itertools.pairwise"].contains n=false) (a:Q () s):wpAny M A (letOwnedTupleGo tg (.ref it) u) Q E s:=by
 unfold letOwnedTupleGo;cases tg<;>first
  | exact a3t a
  | (cases u<;>first
    | exact a3t a
    | (refine a3r (wpAny_load b ?_)
       rw[c,hd];show wpAny M A (if(["enumerate","zip","dict_itemiterator","dict_reverseitemiterator","odict_iterator","itertools.zip_longest","itertools.pairwise"].contains n&&vs[0]? == some (rawInt _))=true then _ else _) Q E s;rw[a3u (by intro h;rw[hn,Bool.false_and]at h;cases h)];exact a3t a))
noncomputable def Itl(K:W.Frag)(a:Addr):It:=
 ⟨λi H=>∃ xs x,SqL K H a xs/\xs[i]? = some x,λi H x H'=>H'=H/\∀ xs,SqL K H a xs->xs[i]? = some x,λi H=>∃ xs,SqL K H a xs/\xs.length<=i⟩
noncomputable def Itt(K:W.Frag)(a:Addr):It:=
 ⟨λi H=>∃ xs x,SqT K H a xs/\xs[i]? = some x,λi H x H'=>H'=H/\∀ xs,SqT K H a xs->xs[i]? = some x,λi H=>∃ xs,SqT K H a xs/\xs.length<=i⟩
noncomputable def Itr(lo:Int)(n:Nat):It:=⟨λi _=>i < n,λi H x H'=>H'=H/\x=.int (lo+i),λi _=>n<=i⟩
def bF5{P:Program}{w:World}{K:W.Frag}{tg:Expr}(a it:Addr):Turn P w K tg (Itl K a) [it] it (λi h=>h.IsListIter it a i) where
 mem:=by simp
 obj:=λi h st b hb=>by
  have e:b=it:=by simpa using hb
  subst e;obtain⟨o,e,c,d⟩:=st;exact⟨o,e,λv z=>by rw[d]at z;cases z⟩
 keep:=λi h h' st k=>st.at λo e=>k it (by simp) o e
 item:=by
  intro X j l m D i pins s σ H E I f st n;subst j l m;obtain⟨xs,x,g,q⟩:=n;obtain⟨its,r,p,F⟩:=I.list g;obtain⟨u,G,J⟩:=r.get q;obtain⟨t,y,L,A,B,C⟩:=f it (by simp);refine wpAny_pyNext_list_item st p.isList (x:=u) (by simpa using G) λh' st' M=>?_;have N:Inv X pins σ H {s with heap:=h'}:=I.turned (t':=s.toks) (λb o hb e=>(M.2 b hb).trans e) t y A B C;obtain⟨o,e,c,d⟩:=id st';exact⟨u,rfl,bF4 (s:={s with heap:=h'}) e c d (by decide) ⟨x,H,N,J,⟨rfl,λys O=>by rw[I.list_inj O g];exact q⟩,st',λb hb=>(f b hb).1⟩⟩
 done:=by
  intro X j l m D i pins s σ H E I f st n;subst j l m;obtain⟨xs,g,q⟩:=n;obtain⟨its,r,p,F⟩:=I.list g;obtain⟨t,y,L,A,B,C⟩:=f it (by simp);have R:=r.length;exact wpAny_pyNext_list_end (I.ok.hd D) st p.isList (by simp;lia) λh' Q=>⟨rfl,I.turned (t':=s.toks) (λb o hb e=>Q b o hb e) t y A B C⟩
 self:=λ_ _ _ _ _ st h=>wpAny_pyIter_listiter st h
def bA2{P:Program}{w:World}{K:W.Frag}{tg:Expr}(a it:Addr):Turn P w K tg (Itt K a) [it] it (λi h=>h.IsTupleIter it a i) where
 mem:=by simp
 obj:=λi h st b hb=>by
  have e:b=it:=by simpa using hb
  subst e;obtain⟨o,e,c,d⟩:=st;exact⟨o,e,λv z=>by rw[d]at z;cases z⟩
 keep:=λi h h' st k=>st.at λo e=>k it (by simp) o e
 item:=by
  intro X j l m D i pins s σ H E I f st n;subst j l m;obtain⟨xs,x,g,q⟩:=n;obtain⟨its,r,p,F⟩:=I.tuple g;obtain⟨u,G,J⟩:=r.get q;obtain⟨t,y,L,A,B,C⟩:=f it (by simp);refine wpAny_pyNext_tuple_item st (show s.heap.IsTuple a its.toArray from p) (x:=u) (by simpa using G) λh' st' M=>?_;have N:Inv X pins σ H {s with heap:=h'}:=I.turned (t':=s.toks) (λb o hb e=>(M.2 b hb).trans e) t y A B C;obtain⟨o,e,c,d⟩:=id st';exact⟨u,rfl,bF4 (s:={s with heap:=h'}) e c d (by decide) ⟨x,H,N,J,⟨rfl,λys O=>by rw[I.tuple_inj O g];exact q⟩,st',λb hb=>(f b hb).1⟩⟩
 done:=by
  intro X j l m D i pins s σ H E I f st n;subst j l m;obtain⟨xs,g,q⟩:=n;obtain⟨its,r,p,F⟩:=I.tuple g;obtain⟨t,y,L,A,B,C⟩:=f it (by simp);have R:=r.length;exact wpAny_pyNext_tuple_end (I.ok.hd D) st (show s.heap.IsTuple a its.toArray from p) (by simp;lia) λh' Q=>⟨rfl,I.turned (t':=s.toks) (λb o hb e=>Q b o hb e) t y A B C⟩
 self:=λ_ _ _ _ _ st h=>wpAny_pyIter_tupleiter st h
def bA3{P:Program}{w:World}{K:W.Frag}{tg:Expr}(it:Addr)(lo:Int)(n:Nat):Turn P w K tg (Itr lo n) [it] it (λi h=>IsRangeIter h it (lo+(i:Nat)*1) ((n:Int)-(i:Nat)) 1) where
 mem:=by simp
 obj:=λi h st b hb=>by
  have e:b=it:=by simpa using hb
  subst e;exact⟨_,st,λv z=>by
   have u:Data.fields _=Data.cell v:=z;cases u⟩
 keep:=λi h h' st k=>k it (by simp) _ st
 item:=by
  intro X c d f g i pins s σ H E I a st j;subst c d f;obtain⟨l,m,x,p,q,r⟩:=a it (by simp);have W:=Walks.range (prog:=X.prog) (w:=X.w) (I.ok.hd g) it lo 1 n;refine W.item i s _ _ j st λv h' tk y st' A=>?_;obtain⟨t,rfl⟩:=y;have B:Inv X pins σ H {s with heap:=h',toks:=tk}:=I.turned (λb o hb e=>A b o (by simpa using hb) e) l m p q r;refine⟨_,rfl,bF4 (s:={s with heap:=h',toks:=tk}) (n:="range_iterator") st' rfl rfl (by decide) ⟨.int (lo+i),H,B,⟨t,?_⟩,⟨rfl,rfl⟩,st',λb hb=>(a b hb).1⟩⟩;rw[Int.mul_one]
 done:=by
  intro X c d f g i pins s σ H E I a st j;subst c d f;obtain⟨l,m,x,p,q,r⟩:=a it (by simp);exact wpAny_pyNext_range_end (I.ok.hd g) st (by have:n<=i:=j;lia) λh' C=>⟨rfl,I.turned (t':=s.toks) (λb o hb e=>C b o hb e) l m p q r⟩
 self:=λ_ _ _ _ _ st h=>wpAny_pyIter_rangeiter st h
section
variable{X:Cx}{tg:Expr}
def bS5{pins:List (Addr×Obj)}{σ:St}{H:Hp}{s:Shared}{R:It->Hp->Prop}{E:Value->Shared->Prop}{lo hi:Int}{t u v:Tok}{tk:Nat}(I:Inv X pins σ H s)(c:-(2 ^ 62)<=lo)(d:lo < 2 ^ 62)(f:-(2 ^ 62)<=hi)(g:hi < 2 ^ 62)
  (q:R (Itr lo (hi-lo).toNat) H):wpAny (model X.prog X.w) X.A (pyIter (.ref s.heap.objs.size)) (PIE X pins σ tg R) E {s with heap:=s.heap.push {cls:=.type "range",data:=.fields #[.int lo t,.int hi u,.int 1 v]},toks:=tk}:=by
 refine wpAny_pyIter_range (IsRange.new ..) (small_one c d f g) ?_;have a:Inv X pins σ H {s with heap:=s.heap.push {cls:=.type "range",data:=.fields #[.int lo t,.int hi u,.int 1 v]},toks:=tk}:=I.kept λb o e=>a8a _ e;refine⟨(s.heap.push {cls:=.type "range",data:=.fields #[.int lo t,.int hi u,.int 1 v]}).objs.size,[(s.heap.push {cls:=.type "range",data:=.fields #[.int lo t,.int hi u,.int 1 v]}).objs.size],_,_,H,rfl,
  a.kept (t':=tk) λb o e=>a8a _ e,bA3 _ lo (hi-lo).toNat,?_,λb hb=>?_,q⟩
 ·have h:lo+((0:Nat):Int)*1=lo:=by simp
  have i:(((hi-lo).toNat:Nat):Int)-((0:Nat):Int)=Builtin.Range.rangeSize lo hi 1:=by rw[rangeSize_one];split<;>lia
  show IsRangeIter _ _ (lo+((0:Nat):Int)*1) ((((hi-lo).toNat:Nat):Int)-((0:Nat):Int)) 1;rw[h,i];exact a9b _ rfl
 ·have e:b=(s.heap.push {cls:=.type "range",data:=.fields #[.int lo t,.int hi u,.int 1 v]}).objs.size:=by simpa using hb
  subst e;exact a.fpOk (a6a _) (a.hok.fresh (a6a _))
def cH7(a:TA):TI:=λσ H R=>a σ H λvs b=>∃ j:Int,vs=[.int j] /\ -(2 ^ 62)<=j/\j < 2 ^ 62/\R (Itr 0 j.toNat) b
def dM6(a:TA):TI:=λσ H R=>a σ H λvs b=>∃ i j:Int,vs=[.int i,.int j]/\(-(2 ^ 62)<=i/\i < 2 ^ 62 /\ -(2 ^ 62)<=j/\j < 2 ^ 62)/\R (Itr i (j-i).toNat) b
def nE{a:Expr}{c:TA}{p pos:Pos}(d:Gl X "range")(hm:X.mg "range"=none)(ha:PA X [a] c)(hs:starEach [a] X.env=[(false,eval a X.env)]:=by rfl):PI X tg (.Call (.Name "range" p) [a] [] pos) (cH7 c):=by
 intro pins s σ H R I h;refine Call_ (vR I d hm boot_range (a8h (thn (ha pos pins s σ H _ I h) λus s1 Z0=>?_) hs rfl));obtain⟨vs,l,f,g,b⟩:=Z0;obtain⟨j,e,b,i,q⟩:=b;subst e;cases g with
 | cons r k=>
   cases k;obtain⟨t,rfl⟩:=r;exact call_range_1 (bS5 f (by lia) (by lia) b i (by simpa using q))
def cT4(b:TI)(g:TG)(c:TS):TS:=λD σ H=>b σ H λJ d=>∃ W:Nat->Nat->St->Hp->Prop,(∃ m,W 0 m σ d)/\∀ i m σ H,W i m σ H ->
 (J.stop i H/\D.nx σ H)\/(J.go i H/\∃ N:St->Hp->Prop,(∀ σ' H',N σ' H'->∃ m',m' < m/\W (i+1) m' σ' H')/\∀ x H',J.yld i H x H'->g x σ H' λa e=>c {D with nx:=N,ct:=N,bk:=D.nx} a e)
noncomputable def vT(fp:List Addr)(h:Heap):List (Addr×Obj):=fp.filterMap λb=>(h.get? b).map λo=>(b,o)
def lX{fp:List Addr}{h:Heap}{b:Addr}{o:Obj}(hb:b∈fp)(e:h.get? b=some o):(b,o)∈vT fp h:=List.mem_filterMap.mpr ⟨b,hb,by rw[e];rfl⟩
def bF6{fp:List Addr}{h:Heap}{p:Addr×Obj}(a:p∈vT fp h):p.1∈fp/\h.get? p.1=some p.2:=by
 obtain⟨b,hb,e⟩:=List.mem_filterMap.mp a;cases q:h.get? b with
 | none=>rw[q]at e;cases e
 | some o=>
   rw[q]at e;have c:(b,o)=p:=a7a e;subst c;exact⟨hb,q⟩
def Inv.pinned{pins:List (Addr×Obj)}{σ:St}{H:Hp}{s:Shared}{fp:List Addr}(I:Inv X pins σ H s)(c:∀ b∈fp,bF3 X pins H b)(f:∀ b∈fp,∃ o,s.heap.get? b=some o/\∀ v,o.data≠.cell v):Inv X (pins++vT fp s.heap) σ H s:=
 I.pins_of λp g=>(a3c.mp g).elim (λz=>I.pin p (a8c _ z)) λz=>by
  obtain⟨hb,e⟩:=bF6 z;obtain⟨h,i,j,_⟩:=c p.1 hb;obtain⟨o,a,d⟩:=f p.1 hb;rw[e]at a;cases a;exact⟨e,h,i,j,d⟩
def Inv.unpinned{pins pl:List (Addr×Obj)}{σ:St}{H:Hp}{s:Shared}(I:Inv X (pins++pl) σ H s):Inv X pins σ H s:=I.pins_of λp a=>I.pin p (a8c _ (a5g _ a))
def iN{iter:Expr}{p:List Stmt}{R:TI}{g:TG}{S:TS}{pos:Pos}(z:PassesOwn (model X.prog X.w) X.A X.env X.xe)(U:X.calm=true)(hi:PI X tg iter R)(hg:PG X tg g)(hb:PSs X p S)
  (hs:∀ x,foldedSetIterable iter X.env x=pure x:=by intro _;rfl):PS X (.For tg iter p [] pos) (cT4 R g S):=by
 intro pins s σ H D I h;refine wpAny_For (thn (hi pins s σ H _ I h) λv s1 h1=>thn h1 λitv s2 h2=>?_) hs;obtain⟨it,fp,tn,J,H2,e,I2,T,G,V,W,⟨m0,w0⟩,turn⟩:=h2;subst e
 -- Y stays true of K q objects through K loop
 have c:∀ {H':Hp},(∀ b∈fp,H' b=none)->∀ b∈fp,bF3 X pins H' b:=λhn b hb=>⟨hn b hb,(V b hb).2⟩;refine codeAny_forLoop_any (λn s'=>∃ i σ' H',Inv X pins σ' H' s'/\tn i s'.heap/\(∀ b∈fp,H' b=none)/\W i n σ' H') ?_ m0 ⟨0,σ,H2,I2,G,λb hb=>(V b hb).1,w0⟩;rintro n Z ⟨i,j,F,I3,B,C,w3⟩;rcases turn i n j F w3 with⟨stop,qn⟩ | ⟨go,N,hN,step⟩
 ·refine a3H z (thn (T.done X rfl rfl rfl U i pins Z j F X.xe I3 (c C) B stop) λr s4 Z0=>?_);obtain⟨L,I4⟩:=Z0;subst L;exact wpAny_execs_nil ⟨j,F,I4,qn⟩
 ·refine a3H z (thn (T.item X rfl rfl rfl U i pins Z j F X.xe I3 (c C) B go) λr s4 Z0=>?_);obtain⟨u,L,h4⟩:=Z0;subst L;refine a3H z (thn h4 λ_ s5 ⟨x,H5,I5,r5,y5,y,M⟩=>?_);have O:=I5.pinned (c M) (T.obj _ _ y);refine a3H z (thn (hg _ s5 j H5 x u _ O r5 (step x H5 y5)) λ_ s6 ⟨P,H6,I6,q6⟩=>?_);refine a3H z (thn (hb _ s6 P H6 _ I6 q6) λf Q t=>?_);have again:∀ {a:St} {k:Hp},Inv X (pins++vT fp s5.heap) a k Q->N a k->∃ m,m < n/\∃ i σ' H',Inv X pins σ' H' Q/\tn i Q.heap/\(∀ b∈fp,H' b=none)/\W i m σ' H':=λ{a k} l E=>by
   obtain⟨m',hm,w7⟩:=hN a k E;refine⟨m',hm,i+1,a,k,l.unpinned,T.keep _ _ _ y λb hb o e=>(l.pin (b,o) (a8c _ (a8c _ (lX hb e)))).1,λb hb=>?_,w7⟩;obtain⟨o,e,d⟩:=T.obj _ _ y b hb;exact(l.pin (b,o) (a8c _ (a8c _ (lX hb e)))).2.1
  cases f with
  | next=>obtain⟨a,k,l,E⟩:=t;exact again l E
  | cont=>obtain⟨a,k,l,E⟩:=t;exact again l E
  | brk=>obtain⟨a,k,l,t⟩:=t;exact⟨a,k,l.unpinned,t⟩
  | ret v=>obtain⟨x7,a,k,l,r7,t⟩:=t;exact⟨x7,a,k,l.unpinned,r7,t⟩
end
abbrev R2:=V->V->Hp->VK->Prop
def OpR(X:Cx)(f:Value->Value->Sem Value)(r:R2):Prop:=
 ∀ (pins:List (Addr×Obj)) (s:Shared) (σ:St) (H:Hp) (x y:V) (v u:Value) (Q:VK),Inv X pins σ H s->eA x v->eA y u->r x y H Q ->
   wpAny (model X.prog X.w) X.A (f v u) (EP X pins σ Q) X.xe s
def mK(X:Cx)(f:Value)(r:List V->Hp->VK->Prop):Prop:=
 ∀ (pins:List (Addr×Obj)) (s:Shared) (σ:St) (H:Hp) (xs:List V) (us:List Value) (Q:VK),Inv X pins σ H s->cA xs us->r xs H Q ->
   wpAny (model X.prog X.w) X.A (call f us) (EP X pins σ Q) X.xe s
def tOp(r:R2)(a b:TE):TE:=λσ H Q=>a σ H λx c=>b σ c λy d=>r x y d Q
def tUn(r:V->Hp->VK->Prop)(a:TE):TE:=λσ H Q=>a σ H λx b=>r x b Q
def rI(C:Int->Int->Prop)(g:Int->Int->V):R2:=λx y H Q=>∃ i j,x=.int i/\y=.int j/\C i j/\Q (g i j) H
def rI0(g:Int->Int->V):R2:=λx y H Q=>∃ i j,x=.int i/\y=.int j/\Q (g i j) H
section
variable{X:Cx}{a b c:Expr}{ta tb tc:TE}{pos:Pos}
def dM7(ha:PE X a ta)(hb:PE X b tb){pins:List (Addr×Obj)}{s:Shared}{σ:St}{H:Hp}{R:V->V->Hp->Prop}(I:Inv X pins σ H s)
  (h:ta σ H λx g=>tb σ g λy c=>R x y c) {Q:Value->Shared->Prop} {f:Value->Value->Sem Value}
  (i:∀ v u s2 x y c,Inv X pins σ c s2->eA x v->eA y u->R x y c->wpAny (model X.prog X.w) X.A (f v u) Q X.xe s2) :
  wpAny (model X.prog X.w) X.A (eval a X.env) (λv d=>wpAny (model X.prog X.w) X.A (eval b X.env) (λu e=>wpAny (model X.prog X.w) X.A (f v u) Q X.xe e) X.xe d) X.xe s:=by
 refine thn (ha pins s σ H _ I h) λv s1 Z0=>?_;obtain⟨x,g,j,k,l⟩:=Z0;refine thn (hb pins s1 σ g _ j l) λu s2 ⟨y,c,m,n,o⟩=>?_;exact i v u s2 x y c m k n o
def mS{op:Operator}{r:R2}(c:OpR X (binaryOp op) r)(ha:PE X a ta)(hb:PE X b tb):PE X (.BinOp a op b pos) (tOp r ta tb):=by
 intro pins s σ H Q I h;exact wpAny_BinOp (dM7 ha hb I h λv u s2 x y d e f g q=>c pins s2 σ d x y v u Q e f g q)
def opI{f:Value->Value->Sem Value}{C:Int->Int->Prop}{g:Int->Int->Int}
  (rule:∀ (i j:Int) (t u:Tok) (s:Shared) (Q:Value->Shared->Prop) (E:Value->Shared->Prop),C i j->Q (.int (g i j) s.toks) {s with toks:=s.toks+1}->wpAny (model X.prog X.w) X.A (f (.int i t) (.int j u)) Q E s) :
  OpR X f (rI C λi j=>.int (g i j)):=by
 intro pins s σ H x y v u Q I a b h;obtain⟨i,j,rfl,rfl,c,q⟩:=h;obtain⟨t,rfl⟩:=a;obtain⟨d,rfl⟩:=b;exact rule i j t d s _ _ c ⟨.int (g i j),H,I.tok _,⟨_,rfl⟩,q⟩
def dV5{f:Value->Value->Sem Value}{g:Int->Int->Int}
  (rule:∀ (i j:Int) (t u:Tok) (s:Shared) (Q:Value->Shared->Prop) (E:Value->Shared->Prop),Q (.int (g i j) s.toks) {s with toks:=s.toks+1}->wpAny (model X.prog X.w) X.A (f (.int i t) (.int j u)) Q E s) :
  OpR X f (rI0 λi j=>.int (g i j)):=by
 intro pins s σ H x y v u Q I a b h;obtain⟨i,j,rfl,rfl,q⟩:=h;obtain⟨t,rfl⟩:=a;obtain⟨c,rfl⟩:=b;exact rule i j t c s _ _ ⟨.int (g i j),H,I.tok _,⟨_,rfl⟩,q⟩
def dK5{f:Value->Value->Sem Value}{g:Int->Int->Bool}
  (rule:∀ (i j:Int) (t u:Tok) (s:Shared) (Q:Value->Shared->Prop) (E:Value->Shared->Prop),Q (.bool (g i j)) s->wpAny (model X.prog X.w) X.A (f (.int i t) (.int j u)) Q E s) :
  OpR X f (rI0 λi j=>.bl (g i j)):=by
 intro pins s σ H x y v u Q I a b h;obtain⟨i,j,rfl,rfl,q⟩:=h;obtain⟨t,rfl⟩:=a;obtain⟨c,rfl⟩:=b;exact rule i j t c s _ _ ⟨.bl (g i j),H,I,rfl,q⟩
def cX9(i j:Int):Prop:=0 < j/\j < 1073741824
def cT5(i j:Int):Prop:=0<=j/\j<=1000000/\i.natAbs < 2 ^ 64
def bS6(i j:Int):Prop:=(-(2 ^ 64) < i/\i < 2 ^ 64)\/(-(2 ^ 64) < j/\j < 2 ^ 64)
theorem bS6.ok{i j:Int}(h:bS6 i j):IntMulOk i j:=by
 rcases h with⟨a,b⟩ | ⟨a,b⟩;exact .of_left (intBits_le_64 a b);exact .of_right (intBits_le_64 a b)
def cY0:OpR X (binaryOp .Add) (rI0 λi j=>.int (i+j)):=dV5 λ_ _ _ _ _ _ _ q=>add_int q
def cY1:OpR X (binaryOp .Mult) (rI bS6 λi j=>.int (i*j)):=opI λ_ _ _ _ _ _ _ a q=>mul_int q a.ok
def bF7:OpR X (binaryOp .FloorDiv) (rI cX9 λi j=>.int (i / j)):=opI λi j _ _ _ _ _ a q=>by
 have b:(0:Int) < j:=a.1;have c:j < 1073741824:=a.2;exact floordiv_int (by lia) (by rw[Int.fdiv_eq_ediv_of_nonneg i (by lia)];exact q) (.inl (PyProof.noPylong_small (by lia)))
def gW:OpR X (binaryOp .Mod) (rI (λ_ j=>0 < j) λi j=>.int (i % j)):=opI λi j _ _ _ _ _ a q=>by
 have b:(0:Int) < j:=a;exact mod_int' (by lia) (by rw[Int.fmod_eq_emod_of_nonneg i (by lia)];exact q)
def cY2:OpR X (binaryOp .Pow) (rI cT5 λi j=>.int (i ^ j.toNat)):=opI λ_ _ _ _ _ _ _ a q=>pow_int_small a.1 a.2.1 a.2.2 q
end
section
variable{X:Cx}{a b c:Expr}{ta tb tc:TE}{pos:Pos}
def cC2{pins:List (Addr×Obj)}{σ:St}{H:Hp}{s:Shared}{Q:VK}{k a:Bool}(I:Inv X pins σ H s)(q:Q (.bl k) H)(e:k=a):EP X pins σ Q (.bool a) s:=by
 subst e;exact⟨.bl k,H,I,rfl,q⟩
def dM8:OpR X (compareOp .Lt) (rI0 λi j=>.bl (decide (i < j))):=dK5 λ_ _ _ _ _ _ _ q=>lt_int q
def dM9:OpR X (compareOp .LtE) (rI0 λi j=>.bl (decide (i<=j))):=dK5 λ_ _ _ _ _ _ _ q=>le_int q
def bF8:OpR X (compareOp .Gt) (rI0 λi j=>.bl (decide (j < i))):=dK5 λ_ _ _ _ _ _ _ q=>gt_int q
def dN0:OpR X (compareOp .GtE) (rI0 λi j=>.bl (decide (j<=i))):=dK5 λ_ _ _ _ _ _ _ q=>ge_int q
def aE6:OpR X (compareOp .In) (λx y H Q=>∃ i j,x=.str i/\y=.str j/\Q (.bl (!(Builtin.Str.occurrences j i 0 j.length 1).isEmpty)) H):=by
 intro pins s σ H x y v u Q I a b h;obtain⟨i,j,rfl,rfl,q⟩:=h;obtain⟨t,rfl⟩:=a;obtain⟨c,rfl⟩:=b;exact in_str (cC2 I q rfl)
def aE7:OpR X (compareOp .NotIn) (λx y H Q=>∃ i j,x=.str i/\y=.str j/\Q (.bl (!(!(Builtin.Str.occurrences j i 0 j.length 1).isEmpty))) H):=by
 intro pins s σ H x y v u Q I a b h;obtain⟨i,j,rfl,rfl,q⟩:=h;obtain⟨t,rfl⟩:=a;obtain⟨c,rfl⟩:=b;exact notIn_str (cC2 I q rfl)
def OpR.or{f:Value->Value->Sem Value}{r a:R2}(h:OpR X f r)(h':OpR X f a):OpR X f (λx y H Q=>r x y H Q\/a x y H Q):=by
 intro pins s σ H x y v u Q I b c q;rcases q with q | q;exact h pins s σ H x y v u Q I b c q;exact h' pins s σ H x y v u Q I b c q
def dG(b:Expr){op:CmpOp}(h:op≠.In:=by decide)(a:op≠.NotIn:=by decide):behindInMarks op b=false:=by
 have c:(op==CmpOp.In)=false:=by cases op<;>first | rfl | exact absurd rfl h
 have d:(op==CmpOp.NotIn)=false:=by cases op<;>first | rfl | exact absurd rfl a
 cases b<;>simp[behindInMarks,c,d]
def bF9{op:CmpOp}{r:R2}(c:OpR X (compareOp op) r)(ha:PE X a ta)(hb:PE X b tb)(hm:behindInMarks op b=false):PE X (.Compare a [op] [b] pos) (tOp r ta tb):=by
 intro pins s σ H Q I h;exact wpAny_Compare1 (dM7 ha hb I h λv u s2 x y d e f g q=>c pins s2 σ d x y v u Q e f g q) hm
def cY3(t:TE):TT:=λσ H Q=>t σ H λx H'=>∃ k,x=.bl k/\Q k H'
def zT{op:CmpOp}{r:R2}(d:OpR X (compareOp op) r)(ha:PE X a ta)(hb:PE X b tb)(hm:behindInMarks op b=false):PT X (.Compare a [op] [b] pos) (cY3 (tOp r ta tb)):=by
 intro pins s σ H Q I h;refine wpAny_isTrue_Compare1 (thn (ha pins s σ H _ I h) λv s1 ⟨x,f,g,i,j⟩=>thn (hb pins s1 σ f _ g j) λu s2 ⟨y,l,m,n,o⟩=>
  thn (d pins s2 σ l x y v u _ m i n o) λc A ⟨z,p,q,t,k,e,w⟩=>?_) hm
 subst e;cases t;exact a3N ⟨p,q,w⟩
def cY4(r b:R2)(ta tb tc:TE):TE:=λσ H Q=>ta σ H λx c=>tb σ c λy d=>r x y d λz a=>∃ k,z=.bl k /\
 (if k=true then tc σ a λe f=>b y e f Q else Q (.bl false) a)
def vU:(sizeLine:Nat) < 2 ^ 63:=by rw[a3G];decide
def bA4:OpR X (binaryOp .Add) (λx y H Q=>∃ i j,x=.str i/\y=.str j/\i.length+j.length<=sizeLine/\Q (.str (i++j)) H):=by
 intro pins s σ H x y v u Q I a b h;obtain⟨i,j,rfl,rfl,c,q⟩:=h;obtain⟨t,rfl⟩:=a;obtain⟨d,rfl⟩:=b;exact add_str (λd tk=>⟨.str (i++j),H,I.tok _,⟨_,rfl⟩,q⟩) c
def aE8{x:V}{us:List Value}(r:cA [x] us):∃ u,us=[u]/\eA x u:=by
 cases r with
 | cons a b=>cases b;exact⟨_,rfl,a⟩
def cY5{x y:V}{us:List Value}(r:cA [x,y] us):∃ u a,us=[u,a]/\eA x u/\eA y a:=by
 cases r with
 | cons b c=>
   cases c with
   | cons d e=>cases e;exact⟨_,_,rfl,b,d⟩
def bG0(a:X.calm=true):mK X (.builtin "max") (λxs H Q=>∃ i j,xs=[.int i,.int j]/\Q (.int (if j > i then j else i)) H):=by
 intro pins s σ H xs us Q I r h;obtain⟨i,j,rfl,q⟩:=h;obtain⟨u,b,rfl,⟨t,rfl⟩,⟨c,rfl⟩⟩:=cY5 r;refine max_two_ints (I.ok.hd a) λh' tk k=>⟨_,H,I.kept k,?_,q⟩;by_cases hj:j > i;rw[a3s hj,a3s hj];exact⟨_,rfl⟩;rw[a3u hj,a3u hj];exact⟨_,rfl⟩
def aE9:mK X (.type "int") (λxs H Q=>(∃ i,xs=[.int i]/\Q (.int i) H)\/∃ k,xs=[.bl k]/\Q (.int (if k then 1 else 0)) H):=by
 intro pins s σ H xs us Q I r h;rcases h with⟨i,rfl,q⟩ | ⟨k,rfl,q⟩;obtain⟨u,rfl,t,rfl⟩:=aE8 r;exact call_int_int ⟨.int i,H,I,⟨_,rfl⟩,q⟩;obtain⟨u,rfl,a⟩:=aE8 r;cases a;exact call_int_bool ⟨.int (if k then 1 else 0),H,I.tok _,⟨_,rfl⟩,q⟩
end
structure ObjM(h:Heap)(x dx C:Addr)(mA:Str->Option Value):Prop where
 obj:h.get? x=some (W.instObj C dx)
 ns:h.Ns1 dx mA
 ne:dx≠x
def bG1{h:Heap}{dx:Addr}{mA:Str->Option Value}(n:h.Ns1 dx mA):∃ od,h.get? dx=some od/\∀ name,W.lookIn name od=some (mA name):=by
 obtain⟨o,es,ep,c,hd,d,_,hm⟩:=n;refine⟨o,c,λname=>?_⟩;have e:=hm name;unfold nsFind findBy at e;rw[← Array.find?_toList]at e;unfold W.lookIn;rw[hd];dsimp only;split;rename_i y q;rw[q]at e;exact a3D some e;rename_i q;rw[q]at e;have a:es.toList.any (·.refKey)=false:=by
  rw[List.any_eq_false];intro y f;obtain⟨z,t,b⟩:=d y (Array.mem_toList_iff.mp f);simp[DictEntry.refKey,b]
 have g:¬ es.toList.any (·.refKey)=true:=by rw[a];exact a3d
 rw[a3u g];exact a3D some e
def ObjM.look{h:Heap}{x dx C:Addr}{mA:Str->Option Value}(I:ObjM h x dx C mA):∃ od,W.InstAt h x (W.instObj C dx) C (some od)/\∀ name,W.lookIn name od=some (mA name):=
 let ⟨od,a,hl⟩:=bG1 I.ns
 ⟨od,⟨I.obj,rfl,rfl,a⟩,hl⟩
section
variable{prog:Program}{w:World}{A:Around}{E:Value->Shared->Prop}{s:Shared}{K:W.Frag}{x dx C f:Addr}{mA:Str->Option Value}{name:Str}{v:Value}
end
section
variable{P:Program}{w:World}{H H':Hp}{h h':Heap}{a C dx:Addr}{fs fs':List (Str×V)}
def iG(hok:HOk P w H h)(e:H a=some (.ins C dx fs)):∃ mA,ObjM h a dx C mA/\(∀ f,cT2 (fs.lookup f) (mA f))/\Within mA (fs.map (·.1))/\fs.length<=1000/\H dx=some (.own a):=by
 obtain⟨d,z,ne,ob,mA,n,r,q⟩:=(show dJ P w H h a (.ins C dx fs)from hok a _ e);exact⟨mA,⟨ob,n,ne⟩,r,q,z,d⟩
end
structure Cls(K:W.Frag)(C:Addr):Prop where
 pg:W.plainGet K C Str.empty=true
 hd:W.hasDictIn K C=true
 po:W.plainOver K C=true
 sa:W.findIn K (.ref C) "__setattr__"=some (some (.builtin "object.__setattr__"))
def Cls.get{K:W.Frag}{C:Addr}(c:Cls K C)(f:Str):W.plainGet K C f=true:=c.pg
section
variable{X:Cx}{pins:List (Addr×Obj)}{σ:St}{H:Hp}{s:Shared}{a C dx:Addr}{fs:List (Str×V)}{f:Str}{v:V}{A:Around}{E:Value->Shared->Prop}
end
section
variable{X:Cx}{o e value:Expr}{f:Str}{pos pos' tpos:Pos}{ta tv:TE}
end
section
variable{X:Cx}{pins:List (Addr×Obj)}{σ:St}{H:Hp}{s:Shared}{A:Around}{E:Value->Shared->Prop}{Q:Value->Shared->Prop}{c:Value}{b:Bool}
inductive TyOf(K:W.Frag)(H:Hp):V->Value->Prop where
 | non:TyOf K H .non (.type "NoneType")
 | bl (x:Bool):TyOf K H (.bl x) (.type "bool")
 | int (i:Int):TyOf K H (.int i) (.type "int")
 | str (x:Str):TyOf K H (.str x) (.type "str")
 | flt (x:UInt64):TyOf K H (.flt x) (.type "float")
 | lst {a:Addr} {xs:List V} (e:H a=some (.lst xs)):TyOf K H (.ref a) (.type "list")
 | frz {a:Addr} {o:Obj} {xs:List V} (e:H a=some (.frz o (.lst xs))):TyOf K H (.ref a) (.type "list")
 | tup {a:Addr} {xs:List V} (e:H a=some (.tup xs)):TyOf K H (.ref a) (.type "tuple")
 | dK {a:Addr} {kvs:List (Key×V)} (e:H a=some (.dK kvs)):TyOf K H (.ref a) (.type "dict")
 | dT {a:Addr} {kvs:List (List Key×V)} (e:H a=some (.dT kvs)):TyOf K H (.ref a) (.type "dict")
 | ins {a C dx:Addr} {fs:List (Str×V)} (e:H a=some (.ins C dx fs)) (cl:Cls K C) (ha:W.findIn K (.ref C) "__class__"=some (some (.builtin "object.__class__")))
   (hn:W.specialIn K (.builtin "object.__class__") "__get__"=some (some (.builtin "getset_descriptor.__get__"))) (htk:W.takesIn K (.builtin "object.__class__")=some true)
   (hm:W.mroIn K C (.type "object")=some true):TyOf K H (.ref a) (.ref C)
def bG2{x:V}{u t:Value}(I:Inv X pins σ H s)(d:eA x u)(ty:TyOf X.K H x t)(e:W.kitOne X.K t c=some b)(h:∀ tk,Q (.bool b) {s with toks:=tk}) :
  wpAny (model X.prog X.w) A (call (.builtin "isinstance") [u,c]) Q E s:=by
 cases ty with
 | non=>cases (show u=Value.none from d);exact a0g W.kitx_none I.kIn True.intro e (λz=>nomatch z) h
 | bl y=>cases (show u=Value.bool y from d);exact a0g W.kitx_bool I.kIn True.intro e (λz=>nomatch z) h
 | int i=>obtain⟨t,q⟩:=(show ∃ t,u=Value.int i t from d);cases q;exact a0g W.kitx_int I.kIn True.intro e (λz=>nomatch z) h
 | str y=>obtain⟨t,q⟩:=(show ∃ t,u=Value.str y t from d);cases q;exact a0g W.kitx_str I.kIn True.intro e (λz=>nomatch z) h
 | flt y=>obtain⟨t,q⟩:=(show ∃ t,u=Value.float y t from d);cases q;exact a0g W.kitx_float I.kIn True.intro e (λz=>nomatch z) h
 | @lst a xs f=>
   cases (show u=Value.ref a from d);obtain⟨_,_,n,_,g⟩:=(show dJ X.prog X.w H s.heap a (.lst xs)from I.hok a _ f);exact a0g W.kitx_list I.kIn ⟨_,g,rfl⟩ e (λz=>nomatch z) h
 | @frz a ob xs f=>
   cases (show u=Value.ref a from d);obtain⟨_,_,_,n,_,g⟩:=(show dJ X.prog X.w H s.heap a (.frz ob (.lst xs))from I.hok a _ f);exact a0g W.kitx_list I.kIn ⟨_,g,rfl⟩ e (λz=>nomatch z) h
 | @tup a xs f=>
   cases (show u=Value.ref a from d);obtain⟨_,_,_,p,_⟩:=(show dJ X.prog X.w H s.heap a (.tup xs)from I.hok a _ f);obtain⟨o,g,j,_⟩:=p;exact a0g W.kitx_tuple I.kIn ⟨o,g,j⟩ e (λz=>nomatch z) h
 | @dK a kvs f=>
   cases (show u=Value.ref a from d);obtain⟨_,_,vs,_,p⟩:=(show dJ X.prog X.w H s.heap a (.dK kvs)from I.hok a _ f);obtain⟨o,es,ep,g,j,_⟩:=p;exact a0g W.kitx_dict I.kIn ⟨o,g,j.1⟩ e (λz=>nomatch z) h
 | @dT a kvs f=>
   cases (show u=Value.ref a from d);obtain⟨_,_,xs,_,o,es,ep,g,j,_⟩:=(show dJ X.prog X.w H s.heap a (.dT kvs)from I.hok a _ f);exact a0g W.kitx_dict I.kIn ⟨o,g,j.1⟩ e (λz=>nomatch z) h
 | @ins a C dx fs f cl ha hn htk hm=>
   cases (show u=Value.ref a from d);obtain⟨mA,O,_⟩:=iG I.hok f;obtain⟨od,J,_⟩:=O.look;exact a0g (W.kitx_own (cl.get _) cl.hd ha hn htk hm) I.kIn J e (λz=>nomatch z) h
end
structure Room(k:Nat)(A:Around):Prop where
 hd:A.handled=none
 dp:A.depth+3*k+5 < recursionLimit
 un:A.units+16*k+200 < cLine
def Room.mono{j k:Nat}{A:Around}(r:Room k A)(h:j<=k):Room j A:=⟨r.hd,by have:=r.dp;lia,by have:=r.un;lia⟩
theorem Room.deeper{k:Nat}{A:Around}(r:Room (k+1) A)(env:Env):Room k (A.deeper env):=
 ⟨r.hd,by have:=r.dp;show A.depth+1+3*k+5 < _;lia,by have:=r.un;show A.units+3+16*k+200 < _;lia⟩
theorem Room.depth{k:Nat}{A:Around}(r:Room k A):A.depth < recursionLimit:=by have:=r.dp;lia
theorem Room.units{k:Nat}{A:Around}(r:Room k A):A.units+64 < cLine:=by have:=r.un;lia
def Room.units0{k:Nat}{A:Around}(r:Room k A):A.units < cLine:=by have:=r.un;lia
def cY6:TA:=λ_ H Q=>Q [] H
def bS7(a:TE)(tr:TA):TA:=λσ H Q=>a σ H λx b=>tr σ b λxs c=>Q (x::xs) c
section
variable{X:Cx}{e:Expr}{es:List Expr}{te:TE}{t:TA}{pos:Pos}
def bY:PA X [] cY6:=λ_ _ _ _ H Q I h=>Calls.spliced_nil ⟨[],H,I,.nil,h⟩
def aS(ha:PE X e te)(a:PA X es t)(hs:starEach (e::es) X.env=(false,eval e X.env)::starEach es X.env:=by rfl):PA X (e::es) (bS7 te t):=by
 intro pos pins s σ H Q I h;rw[hs];show wpAny _ _ (spliced ((false,eval e X.env)::backTo pos (starEach es X.env))) _ _ s;refine Calls.spliced_cons (thn (ha pins s σ H _ I h) λu s1 Z0=>?_);obtain⟨x,b,c,d,f⟩:=Z0;exact thn (a pos pins s1 σ b _ c f) λus s2 ⟨xs,g,i,j,k⟩=>⟨x::xs,g,i,.cons d j,k⟩
def dS0(t:TA):TE:=λσ H Q=>t σ H λxs a=>xs.length<=sizeLine/\∀ p,a p=none->Q (.ref p) (upd a p (.tup xs))
def dK6(t:TA):TE:=λσ H Q=>t σ H λxs a=>xs.length<=sizeLine/\∀ p,a p=none->Q (.ref p) (upd a p (.lst xs))
def cY7{d}(h:PA X es t):PE X (.Tuple es d pos) (dS0 t):=by
 intro pins s σ H Q I f;refine wpAny_Tuple_spliced (thn (h pos pins s σ H _ I f) λus s1 ⟨xs,a,c,r,z,q⟩=>⟨by rw[← r.length];exact z,?_⟩);have g:a s1.heap.objs.size=none:=c.hok.fresh (a6a _);refine⟨.ref s1.heap.objs.size,upd a s1.heap.objs.size (.tup xs),c.laid (t':=s1.toks) (λb u e=>a8a _ e) (a6a _) ?_,rfl,q _ g⟩;exact⟨z,us,r,⟨_,a9b _ rfl,rfl,_,rfl⟩,⟨_,a9b _ rfl,rfl⟩⟩
def aT9(h:PA X es t):PE X (.List es pos) (dK6 t):=by
 intro pins s σ H Q I d;refine wpAny_List_spliced (thn (h pos pins s σ H _ I d) λus s1 ⟨xs,a,c,r,z,q⟩=>⟨by rw[← r.length];exact z,?_⟩);have f:a s1.heap.objs.size=none:=c.hok.fresh (a6a _);refine⟨.ref s1.heap.objs.size,upd a s1.heap.objs.size (.lst xs),c.laid (t':=s1.toks) (λb u e=>a8a _ e) (a6a _) ?_,rfl,q _ f⟩;exact⟨z,us,0,r,a9b _ rfl⟩
end
abbrev Sp:=List V->Hp->VK->XK->Prop
abbrev CXT:=List Env->Hp->Shared->XK->Value->Shared->Prop
structure Env0(P:Program)(w:World)(K:W.Frag)(mg:Str->Option Value)(base:Heap)(A:Around)(outer:List Env)(s:Shared)(H:Hp):Prop where
 frames:A.frames=some outer
 mod:Mod K mg base
 bs:∀ b o,base.get? b=some o->s.heap.get? b=some o/\H b=none
 bsz:base.objs.size<=s.heap.objs.size
 funs:s.heap.FunFrames base outer
 frf:∀ b∈frs outer,H b=none
 hok:HOk P w H s.heap
 bare:AllBare s.gens
def CE(outer:List Env)(P:Program)(w:World)(H:Hp)(s:Shared)(Q:VK)(u:Value)(s':Shared):Prop:=
 ∃ v H',s'.os=s.os/\AllBare s'.gens/\Un (frs outer) [] H H' s.heap s'.heap/\HOk P w H' s'.heap/\eA v u/\Q v H'
def CR(CX:CXT)(outer:List Env)(P:Program)(w:World)(H:Hp)(s:Shared)(Q:VK)(E:XK)(r:Result)(s':Shared):Prop:=
 match r with
 | .ok (.ret u)=>CE outer P w H s Q u s'
 | .ok _=>False
 | .error e=>CX outer H s E e s'
structure FnOk(P:Program)(w:World)(K:W.Frag)(mg:Str->Option Value)(base:Heap)(CX:CXT)(k:Nat)(f:Addr)(fd:FuncData)(ps:List Str)(sp:Sp):Prop where
 len:∀ vs H Q E,sp vs H Q E->vs.length=ps.length
 run:∀ (A:Around) (outer:List Env) (s:Shared) (H:Hp) (args:Args) (us:List Value) (vs:List V) (Q:VK) (E:XK),Room k A->Env0 P w K mg base A outer s H->BindsTo s fd args (ps.zip us)->cA vs us->sp vs H Q E ->
  codeAny (model P w) A (.call (.ref f) args) (CR CX outer P w H s Q E) s
def FnOk.imp{P:Program}{w:World}{K:W.Frag}{mg:Str->Option Value}{base:Heap}{CX:CXT}{k:Nat}{f:Addr}{fd:FuncData}{ps:List Str}{sp a:Sp}(F:FnOk P w K mg base CX k f fd ps sp)
  (h:∀ vs H Q E,a vs H Q E->sp vs H Q E):FnOk P w K mg base CX k f fd ps a:=
 ⟨λvs H Q E q=>F.len vs H Q E (h _ _ _ _ q),λA outer s H args us vs Q E b c hb d hs=>F.run A outer s H args us vs Q E b c hb d (h _ _ _ _ hs)⟩
section
variable{X:Cx}{pins:List (Addr×Obj)}{σ:St}{H:Hp}{s s':Shared}
def Inv.env0(I:Inv X pins σ H s):Env0 X.prog X.w X.K X.mg X.base X.A X.stack s H:=
 ⟨I.ok.frames,I.ok.mod,I.bs,a3b I.ok.bsz I.sz,I.stack,I.stkFree,I.hok,I.bare⟩
def Inv.after{Q:VK}{u:Value}(I:Inv X pins σ H s)(h:CE X.stack X.prog X.w H s Q u s'):EP X pins σ Q u s':=by
 obtain⟨v,H',os,bare,un,hok,r,q⟩:=h;obtain⟨c,g,d,t,a⟩:=s';obtain rfl:a=s.os:=os;exact⟨v,H',I.call (h':=c) (g':=g) (d':=d) (t':=t) (ch:=[]) un hok bare (λb z=>absurd z (by simp)),r,q⟩
end
def bA5(sp:Sp)(a:List V)(E:XK)(t:TA):TE:=λσ H Q=>t σ H λvs b=>sp (vs++a) b Q E
def eB(K:W.Frag)(fd:FuncData)(ps:List Str)(ds:List Value):Prop:=
 ∀ (s:Shared) (us:List Value),K.In s.heap->(us++ds).length=ps.length->BindsTo s fd ⟨us,[]⟩ (ps.zip (us++ds))
def eB.all{K:W.Frag}{fd:FuncData}{ps:List Str}(h:∀ us:List Value,us.length=ps.length->bindArgs fd ⟨us,[]⟩=pure (ps.zip us)):eB K fd ps []:=λs us _ a=>by
 rw[a1g]at a ⊢;exact .of_eq (h us a)
def bG3(CX:CXT)(X:Cx)(E:XK):Prop:=∀ (pins:List (Addr×Obj)) (σ:St) (H:Hp) (s:Shared) (e:Value) (s':Shared),Inv X pins σ H s->CX X.stack H s E e s'->X.xe e s'
section
variable{X:Cx}{CX:CXT}{k:Nat}{f C:Addr}{fd:FuncData}{ps:List Str}{sp:Sp}{dvs:List V}{ds:List Value}{E:XK}{x m:Str}{p pos apos:Pos}{e o:Expr}{es:List Expr}{ta:TE}{t:TA}
def cY8{pins:List (Addr×Obj)}{σ:St}{H:Hp}{s:Shared}{Q:VK}{us:List Value}{vs:List V}(F:FnOk X.prog X.w X.K X.mg X.base CX k f fd ps sp)(c:Room k X.A)(hb:eB X.K fd ps ds)(hd:cA dvs ds)(d:bG3 CX X E)
  (I:Inv X pins σ H s) (r:cA vs us) (h:sp (vs++dvs) H Q E):wpAny (model X.prog X.w) X.A (call (.ref f) us) (EP X pins σ Q) X.xe s:=by
 have b:cA (vs++dvs) (us++ds):=r.append hd;have g:(us++ds).length=ps.length:=by rw[← b.length];exact F.len _ _ _ _ h
 refine wpAny_call (a3T (F.run X.A X.stack s H ⟨us,[]⟩ (us++ds) (vs++dvs) Q E c I.env0 (hb s us I.kIn g) b h) λr s' a=>?_);cases r with
 | error e=>exact d pins σ H s e s' I a
 | ok i=>
   cases i with
   | ret u=>exact I.after a
   | next=>exact False.elim a
   | brk=>exact False.elim a
   | cont=>exact False.elim a
def aI(F:FnOk X.prog X.w X.K X.mg X.base CX k f fd ps sp)(d:Room k X.A)(g:Gl X x)(hm:X.mg x=some (.ref f))(i:W.keepIn X.K (.ref f)=true)(hb:eB X.K fd ps ds)(hd:cA dvs ds)(j:bG3 CX X E)
  (ha:PA X (e::es) t) (a:(x==("__debug__":Str))=false:=by decide) (l:starEach (e::es) X.env=(false,eval e X.env)::starEach es X.env:=by rfl) (b:(backTo pos (starEach es X.env)).any (·.1)=false:=by rfl) :
  PE X (.Call (.Name x p) (e::es) [] pos) (bA5 sp dvs E t):=by
 intro pins s σ H Q I h;refine a3M (cH3 I g hm ?_ a);refine W.callWith_K (h₀:=X.base) I.ok.mod.kin i (thn (ha pos pins s σ H _ I h) λus s1 ⟨vs,m,c,r,q⟩=>⟨c.kIn,?_⟩) l b;exact cY8 F d hb hd j c r q
end
def PK(X:Cx)(a:List Keyword)(t:TA):Prop:=
 ∀ (b:Pos) (pins:List (Addr×Obj)) (s:Shared) (σ:St) (H:Hp) (Q:List V->Hp->Prop),Inv X pins σ H s->t σ H Q->wpAny (model X.prog X.w) X.A (evalAll ((backToKw b (keywordEach a X.env)).map (·.2))) (AP X pins σ Q) X.xe s
section
variable{X:Cx}{CX:CXT}{k:Nat}{f C:Addr}{fd:FuncData}{ps ks:List Str}{sp:Sp}{E:XK}{x m:Str}{p pos apos kpos:Pos}{e o:Expr}{es:List Expr}{kws:List Keyword}{te ta:TE}{t tk:TA}{nm:Option Str}
variable{g:List Value->List Value->List Value}{gV:List V->List V->List V}
end
structure FnScope(N P:List Str)(sc:Scope):Prop where
 kind:sc.kind=.function
 co:sc.isCoroutine=false
 gen:sc.isGenerator=false
 nd:N.Nodup
 pre:N.take P.length=P
 par:∀ x∈P,sc.names.lookup x=some .local\/sc.names.lookup x=some .cell
 nofree:∀ y∈sc.names,y.2≠.free
theorem aF0{kindOf:Str->Option NameKind}{x:Str}:∀ {binds:List (Str×Value)} {m:Str->Option Value},(∀ v,(x,v)∉binds)->bindL kindOf binds m x=m x
 | [],_,_=>rfl
 | (n,v)::r,m,h=>by
   unfold bindL;rw[aF0 λw a=>h w (a5a _ a)];split
   ·have:x≠n:=by rintro rfl;exact h v a3a
    simp[this]
   ·rfl
theorem aF1{kindOf:Str->Option NameKind}{x:Str}:∀ {binds:List (Str×Value)} {m:Str->Option Value},(∀ v,(x,v)∉binds)->bindC kindOf binds m x=m x
 | [],_,_=>rfl
 | (n,v)::r,m,h=>by
   unfold bindC;rw[aF1 λw a=>h w (a5a _ a)];split;rfl
   ·have:x≠n:=by rintro rfl;exact h v a3a
    simp[this]
theorem aF2{kindOf:Str->Option NameKind}{x:Str}{v:Value}:∀ {P:List Str} {vs:List Value} {i:Nat} {m:Str->Option Value},P.Nodup->P[i]? = some x->vs[i]? = some v->kindOf x=some .local ->
  bindL kindOf (P.zip vs) m x=some v
 | [],_,_,_,_,h,_,_=>by simp at h
 | _::_,[],_,_,_,_,h,_=>by simp at h
 | p::P,w::vs,0,m,nd,a,b,c=>by
   simp at a b;subst a;subst b;show bindL kindOf ((p,w)::P.zip vs) m p=_;unfold bindL;rw[aF0 λv d=>(a9h.mp nd).1 (List.of_mem_zip d).1,a3s c];simp
 | p::P,w::vs,i+1,m,nd,a,b,c=>by
   show bindL kindOf ((p,w)::P.zip vs) m x=_;unfold bindL;exact aF2 (i:=i) (a9h.mp nd).2 (by simpa using a) (by simpa using b) c
theorem aF3{kindOf:Str->Option NameKind}{x:Str}{v:Value}:∀ {P:List Str} {vs:List Value} {i:Nat} {m:Str->Option Value},P.Nodup->P[i]? = some x->vs[i]? = some v->kindOf x≠some .local ->
  bindC kindOf (P.zip vs) m x=some v
 | [],_,_,_,_,h,_,_=>by simp at h
 | _::_,[],_,_,_,_,h,_=>by simp at h
 | p::P,w::vs,0,m,nd,a,b,c=>by
   simp at a b;subst a;subst b;show bindC kindOf ((p,w)::P.zip vs) m p=_;unfold bindC;rw[aF1 λv d=>(a9h.mp nd).1 (List.of_mem_zip d).1,a3u c];simp
 | p::P,w::vs,i+1,m,nd,a,b,c=>by
   show bindC kindOf ((p,w)::P.zip vs) m x=_;unfold bindC;exact aF3 (i:=i) (a9h.mp nd).2 (by simpa using a) (by simpa using b) c
noncomputable def iH(N:List Str)(vs:List V):St:=vs.map some++List.replicate (N.length-vs.length) none
noncomputable def cC3(CX:CXT)(P:Program)(w:World)(K:W.Frag)(mg:Str->Option Value)(base:Heap)(N:List Str)(qual:Str)(scope:Scope)(f:Addr)(b:Value)(A:Around)(outer:List Env)(s:Shared)(H:Hp)(E:XK):Cx where
 prog:=P
 w:=w
 K:=K
 mg:=mg
 base:=base
 A:=A.deeper (envOfC qual scope s.heap.objs.size f b)
 N:=N
 s₀:=s
 H₀:=H
 env:=envOfC qual scope s.heap.objs.size f b
 outer:=outer
 stack:=envOfC qual scope s.heap.objs.size f b::outer
 ex:=[]
 calm:=true
 fn:=λ_=>true
 pn:=[]
 xe:=λe s'=>wpAny (model P w) (A.deeper (envOfC qual scope s.heap.objs.size f b)) (leaving (envOfC qual scope s.heap.objs.size f b) e) (λ_ a=>CX outer H s E e a) (λc a=>CX outer H s E c a) s'
def aU0{sc:Scope}{n:Nat}{x:Str}(h:sc.names.lookup x=some .cell):∃ c,(cellsFrom n sc.names []).lookup x=some c:=by
 have q:=W.cellsFrom_some sc.names n [] (.inl h);exact Option.isSome_iff_exists.mp q
def bG4{CX:CXT}{P:Program}{w:World}{K:W.Frag}{mg:Str->Option Value}{base:Heap}{N ps:List Str}{qual:Str}{scope:Scope}{f:Addr}{t:Value}{A:Around}{outer:List Env}{s s1:Shared}{H:Hp}{E:XK}{us:List Value}{vs:List V}
  (S:FnScope N ps scope) (hd:A.handled=none) (g:Env0 P w K mg base A outer s H) (I:vs.length=ps.length) (r:cA vs us)
  (x:InCallC s s.heap.objs.size (bindL (envOfC qual scope s.heap.objs.size f t).kindOf (ps.zip us) λ_=>none) (cellsFrom (s.heap.objs.size+1) scope.names []) (bindC (envOfC qual scope s.heap.objs.size f t).kindOf (ps.zip us) λ_=>none) s1) :
  Inv (cC3 CX P w K mg base N qual scope f t A outer s H E) [] (iH N vs) H s1:=by
 have F:ps.length<=N.length:=by have:=a3D List.length S.pre;rw[a2g]at this;lia
 obtain⟨B,tk,rfl,C⟩:=x.done;have j:∀ b:Addr,b∉(cC3 CX P w K mg base N qual scope f t A outer s H E).ex:=λb z=>absurd (show b∈([]:List Addr)from z) (by simp);refine⟨⟨g.mod,S.kind,rfl,rfl,a6a _,λy z c B d=>?_,λy l=>?_,λy c _ h=>?_,λ_=>hd,Around.frames_deeper g.frames,.inr ⟨rfl,rfl⟩,λb z=>absurd z (j b),g.bs,g.bsz,λb _ _=>j b,λb z=>absurd z (j b),g.funs,g.frf⟩,
  rfl,g.bare,Un.kept C,⟨_,x.toInCall.ns,λi y v B d J=>?_⟩,λy c h=>⟨_,x.cell y c h⟩,g.hok.fresh (a6a _),λy c h=>?_,λp m=>absurd (show p∈([]:List (Addr×Obj))from m) (by simp),g.hok.kept C,?_⟩
 ·exact name_of_addr x.apart (a8i B) (a8i d)
 ·have l:scope.names.lookup y=some .cell\/scope.names.lookup y=some .free:=l;rcases l with l | l;exact aU0 l;exact absurd rfl (S.nofree _ (a8i l))
 ·exact a2h (x.above y c (a8i h))
 ·have hi:i < vs.length:=by
   unfold iH at d;by_cases hi:i < vs.length;exact hi;rw[a5b (by simpa using hi)]at d;rw[List.getElem?_replicate]at d;split at d<;>cases d
  have ha:vs[i]? = some v:=by
   unfold iH at d;rw[a7c (by simpa using hi),a0b]at d;cases e:vs[i]? with
   | none=>rw[e]at d;cases d
   | some a=>rw[e]at d;cases d;rfl
  obtain⟨u,D,G⟩:=r.get ha;have m:ps[i]? = some y:=by
   rw[← S.pre,List.getElem?_take_of_lt (by lia)];exact B
  have o:ps.Nodup:=by rw[← S.pre];exact S.nd.sublist (List.take_sublist _ _)
  refine⟨u,G,?_⟩;rcases S.par y (a2b m)with k | k;exact .inl ⟨k,aF2 o m D k⟩;obtain⟨c,e⟩:=aU0 (n:=s.heap.objs.size+1) k;refine .inr ⟨.inl k,c,e,?_⟩;have q:=x.cell y c e;rw[aF3 o m D (by show scope.names.lookup y≠_;rw[k];decide)]at q;exact q
 ·exact g.hok.fresh (a2h (x.above y c (a8i h)))
 ·unfold iH;show _=N.length;rw[a9a,a2a,List.length_replicate];lia
def dN1{CX:CXT}{P:Program}{w:World}{K:W.Frag}{mg:Str->Option Value}{base:Heap}{k:Nat}{f:Addr}{name qual:Str}{a:Arguments}{c:List Stmt}{scope:Scope}{z kV doc pm cdv ct oc:Value}{an od:Option Addr}
  {osl:Array (Option Value)} {N ps:List Str} {sp:Sp} (lk:K.lookup f=some ⟨oc,od,.func (W.fnOf name qual a c scope z kV doc pm an cdv ct),osl⟩) (j:W.codeIn K cdv qual=true) (S:FnScope N ps scope)
  (len:∀ vs H Q E,sp vs H Q E->vs.length=ps.length)
  (d:∀ (A:Around) (outer:List Env) (s:Shared) (H:Hp) (vs:List V) (Q:VK) (E:XK),Room k (A.deeper (envOfC qual scope s.heap.objs.size f cdv))->sp vs H Q E ->
   ∃ t,PSs (cC3 CX P w K mg base N qual scope f cdv A outer s H E) c t/\t {nx:=λ_ H'=>Q .non H',rt:=Q} (iH N vs) H) :
  FnOk P w K mg base CX (k+1) f (W.fnOf name qual a c scope z kV doc pm an cdv ct) ps sp:=by
 refine⟨len,λA outer s H args us vs Q E l h hb r i=>?_⟩;have C:=len _ _ _ _ i;have B:K.In s.heap:=h.mod.kin.keeps λb o e=>(h.bs b o e).1;have m:s.heap.NoLimit:=h.mod.nolimit.keeps λb o e=>(h.bs b o e).1;have g:∀ y∈ps.zip us,scope.names.lookup y.1=some .local\/(scope.names.lookup y.1=some .cell/\((cellsFrom (s.heap.objs.size+1) scope.names []).lookup y.1).isSome=true):=λ⟨n,v⟩ D=>by
  rcases S.par n (List.of_mem_zip D).1 with q | q;exact .inl q;exact .inr ⟨q,W.cellsFrom_some _ _ _ (.inl q)⟩
 refine codeAny_call_function l.depth (B _ _ lk) rfl S.co S.gen rfl (W.codeRec_of B j) (hb _ _ _ _ ?_);refine wpAny_newFunctionEnv_cells S.kind g λenv F s1 x=>?_;subst F;refine⟨m.keeps x.toInCall.keep,codeAny_func ?_⟩;obtain⟨t,G,L⟩:=d A outer s H vs Q E (l.deeper _) i;have I:Inv (cC3 CX P w K mg base N qual scope f cdv A outer s H E) [] (iH N vs) H s1:=bG4 S l.hd h C r x;refine a3F (G [] s1 (iH N vs) H _ I L) (λM s' hs=>?_) λe s' hs=>hs;have fin:∀ {σ':St} {H':Hp} {v:V} {u:Value},Inv (cC3 CX P w K mg base N qual scope f cdv A outer s H E) [] σ' H' s'->eA v u->Q v H'->CE outer P w H s Q u s':=
  λ{σ' H' v u} J p q=>⟨v,H',J.os,J.bare,J.base,J.hok,p,q⟩
 cases M with
 | ret u=>
   obtain⟨v,σ',H',J,p,q⟩:=hs;exact fin J p q
 | next=>
   obtain⟨σ',H',J,q⟩:=hs;exact fin (v:=V.non) (u:=Value.none) J rfl q
 | brk=>
   obtain⟨_,_,_,q⟩:=hs;exact False.elim q
 | cont=>
   obtain⟨_,_,_,q⟩:=hs;exact False.elim q
section
variable{X:Cx}{x:Str}{p pos:Pos}{e:Expr}{es:List Expr}{t:TA}{id T:String}{r:List V->Hp->VK->Prop}
def tCB(r:List V->Hp->VK->Prop)(t:TA):TE:=λσ H Q=>t σ H λvs a=>r vs a Q
def aV(c:mK X (.builtin id) r)(d:Gl X x)(hm:X.mg x=none)(f:bootBuiltins x=some (.builtin id))(ha:PA X (e::es) t)(hn:x≠"__name__":=by decide)(a:(x==("__debug__":Str))=false:=by decide)
  (g:starEach (e::es) X.env=(false,eval e X.env)::starEach es X.env:=by rfl) (b:(backTo pos (starEach es X.env)).any (·.1)=false:=by rfl):PE X (.Call (.Name x p) (e::es) [] pos) (tCB r t):=by
 intro pins s σ H Q I h;refine a3M (vR I d hm f ?_ hn a);exact PyProof.Rows.callWith_builtin1 (thn (ha pos pins s σ H _ I h) λus s1 ⟨vs,i,j,k,l⟩=>c pins s1 σ i vs us Q j k l) g b
def bG(c:mK X (.type T) r)(d:Gl X x)(hm:X.mg x=none)(f:bootBuiltins x=some (.type T))(ha:PA X (e::es) t)(hn:x≠"__name__":=by decide)(a:(x==("__debug__":Str))=false:=by decide)
  (g:starEach (e::es) X.env=(false,eval e X.env)::starEach es X.env:=by rfl) (b:(backTo pos (starEach es X.env)).any (·.1)=false:=by rfl):PE X (.Call (.Name x p) (e::es) [] pos) (tCB r t):=by
 intro pins s σ H Q I h;refine a3M (vR I d hm f ?_ hn a);exact a8h (thn (ha pos pins s σ H _ I h) λus s1 ⟨vs,i,j,k,l⟩=>c pins s1 σ i vs us Q j k l) g b
end
end L2
namespace HT
open PySem PyProof.Rows
noncomputable def lexLt:List Int->List Int->Bool
 | [],[]=>false
 | [],_::_=>true
 | _::_,[]=>false
 | x::xs,y::ys=>if x=y then lexLt xs ys else decide (x < y)
def lexLt_cons(x y:Int)(xs ys:List Int):lexLt (x::xs) (y::ys)=if x=y then lexLt xs ys else decide (x < y):=rfl
def zU:lexLt [] []=false:=rfl
def xU(y:Int)(ys:List Int):lexLt [] (y::ys)=true:=rfl
def xV(x:Int)(xs:List Int):lexLt (x::xs) []=false:=rfl
def bS8(A:Around)(s:Shared)(a:Int)(t:Tok)(c:Int)(u:Tok):∃ e,SeqAt.EqAt A s (.int a t) (.int c u) e/\(e=true↔a=c):=
 ⟨(a==c),SeqAt.EqAt.int_int a t c u,by simp⟩
def bS9(A:Around)(s:Shared)(a:Int)(t:Tok)(c:Int)(u:Tok)(prog:Program)(w:World)(E:Value->Shared->Prop)(Q:Value->Shared->Prop)(h:Q (.bool (decide (a < c))) s) :
  wpAny (model prog w) A (richCompare .Lt (.int a t) (.int c u)) Q E s:=
 (PyProof.Rows.lt_int h:wpAny (model prog w) A (compareOp .Lt (.int a t) (.int c u)) Q E s)
section
open PySem.SeqAt
open PySem.AutoSeq1 (wpAny_loadPart')
open PySem.MeetsSeq PySem.MeetsSeq2 PySem.MeetsSeq3
def zV(l b:Addr)(items f:Array Value)(n n2:Nat)(I E:Option Addr)(sl sl2:Array (Option Value))(ns C:List Int)(hi:IntsAre items.toList ns)(hj:IntsAre f.toList C) :
  Meets (Builtin.«tuple.__lt__» ⟨[.ref l,.ref b],[]⟩)
   (λ_ R s=>s.heap.get? l=some {cls:=.type "tuple",dict:=I,data:=.seq items n,slots:=sl}/\s.heap.get? b=some {cls:=.type "tuple",dict:=E,data:=.seq f n2,slots:=sl2} /\
    R (.ok (.ret (.bool (lexLt ns C)))) s):=
 .of_wp λprog w A R s h=>by
  obtain⟨D,g,d,tk,os⟩:=s;obtain⟨J,hb,h⟩:=h;have N:=AutoSeq1.sub_tuple_tuple;have O:items.size=ns.length:=by rw[← hi.length];simp
  have P:f.size=C.length:=by rw[← hj.length];simp
  wp_walk using a3P J,a3P hb,wpAny_forIn_list _ (λeZ b s'=>b.1=none/\s'=⟨D,g,d,tk,os⟩/\∃ (vs ws:List Value) (ns' i:List Int),eZ=vs.zip ws /\
   IntsAre vs ns'/\IntsAre ws i/\ns'.length+f.size=i.length+items.size/\R (.ok (.ret (.bool (lexLt ns' i)))) ⟨D,g,d,tk,os⟩) _
  case turn=>
   rintro⟨y,x⟩ eZ b s' ⟨p,rfl,vs,ws,ns',i,j,r,k,hlen,m⟩;cases r with
   | nil=>rw[List.zip_nil_left]at j;cases j
   | cons a t z=>
     cases k with
     | nil=>rw[List.zip_nil_right]at j;cases j
     | cons c u B=>
       rw[List.zip_cons_cons]at j;injection j with F v
       injection F with K L
       subst K L;rw[lexLt_cons]at m;simp only[List.length_cons]at hlen;obtain⟨e,M,o⟩:=bS8 A.in1 ⟨D,g,d,tk,os⟩ a t c u;refine a3r (M prog w _ _ ?_);cases e with
       | true=>
         rw[a3s (o.mp rfl)]at m
         wp_walk
         exact⟨rfl,rfl,_,_,_,_,v,z,B,by lia,m⟩
       | false=>
         rw[a3u (λq=>absurd (o.mpr q) a3d)]at m;have G:=bS9 A.in1 ⟨D,g,d,tk,os⟩ a t c u prog w
         wp_walk using G
         exact⟨_,rfl,by simpa using m⟩
  case fin=>
   rintro⟨Q,S⟩ s' ⟨p,rfl,vs,ws,ns',i,j,r,k,hlen,m⟩;simp only at p;subst p;have H:lexLt ns' i=decide (items.size < f.size):=by
    cases r with
    | nil=>
      cases k with
      | nil=>
        simp only[List.length_nil]at hlen;rw[zU];exact(a3y (by lia)).symm
      | cons c u hw=>
        simp only[List.length_nil,List.length_cons]at hlen;rw[xU];exact(a3A (by lia)).symm
    | cons a t H=>
      cases k with
      | nil=>
        simp only[List.length_nil,List.length_cons]at hlen;rw[xV];exact(a3y (by lia)).symm
      | cons c u hw=>
        rw[List.zip_cons_cons]at j;cases j
   rw[H]at m
   wp_walk
   exact⟨_,rfl,by simpa[Builtin.Tuple.tupleCompareSizes]using m⟩
  case h=>
   exact⟨rfl,rfl,items.toList,f.toList,ns,C,rfl,hi,hj,by lia,h⟩
end
section
variable{prog:Program}{w:World}{A:Around}{E:Value->Shared->Prop}{s:Shared}
def lt_tupInts{l b:Addr}{items a:Array Value}{ns c:List Int}{Q:Value->Shared->Prop}(k:IsTup s.heap l items)(hb:IsTup s.heap b a)(hi:IntsAre items.toList ns)(hj:IntsAre a.toList c)
  (m:A.units < cLine) (h:Q (.bool (lexLt ns c)) s):wpAny (model prog w) A (compareOp .Lt (.ref l) (.ref b)) Q E s:=by
 obtain⟨⟨cls,o,data,sl⟩,g,i,n,hd⟩:=id k;obtain⟨⟨j,f,data2,sl2⟩,d,e,n2,hd2⟩:=id hb;simp only at i hd e hd2;subst i hd e hd2;exact richCompare_meets_room (op:=.Lt) ⟨_,g,rfl⟩ ⟨_,d,rfl⟩ F.slot_tuple_lt F.entry_tuple_lt (F.args_tuple_lt_2 _ _) (zV l b items a n n2 o f sl sl2 ns c hi hj)
  ⟨g,d,show Value.bool (lexLt ns c)≠Value.notImplemented/\Q (.bool (lexLt ns c)) s from⟨(λx=>nomatch x),h⟩⟩ m
def cat_tup{t b:Addr}{vs ws:List Value}{Q:Value->Shared->Prop}(l:IsTup s.heap t vs.toArray)(hb:IsTup s.heap b ws.toArray)(h:vs≠[])
  (m:ws=[]->Q (.ref t) s) (o:ws≠[]->Q (.ref s.heap.objs.size) {s with heap:=s.heap.push {cls:=.type "tuple",data:=.seq (vs++ws).toArray}})
  (hsz:vs.length+ws.length<=sizeLine):wpAny (model prog w) A (binaryOp .Add (.ref t) (.ref b)) Q E s:=by
 obtain⟨⟨cls,i,data,sl⟩,f,j,n,hd⟩:=id l;obtain⟨⟨k,c,data2,sl2⟩,a,d,n2,hd2⟩:=id hb;simp only at j hd d hd2;subst j hd d hd2;have e:vs.toArray++ws.toArray=(vs++ws).toArray:=by simp
 by_cases g:ws=[]
 ·exact concat_meets ⟨_,f,rfl⟩ ⟨_,a,rfl⟩ noFill_tuple_add seq_tuple_add F.slot_tuple_add F.entry_tuple_add (F.args_tuple_add_2 _ _)
   (tuple_addW1 t b vs.toArray ws.toArray n n2 i c sl sl2 (by simpa using h) (by simp[g])) ⟨f,a,m g⟩
 ·refine concat_meets ⟨_,f,rfl⟩ ⟨_,a,rfl⟩ noFill_tuple_add seq_tuple_add F.slot_tuple_add F.entry_tuple_add (F.args_tuple_add_2 _ _)
   (tuple_addW2 t b vs.toArray ws.toArray n n2 i c sl sl2 (by simpa using h) (by simpa using g) (by rw[List.size_toArray,List.size_toArray];exact hsz)) ⟨f,a,?_⟩
  rw[e];exact o g
noncomputable def sIx(n d:Nat):Option Int->Nat
 | none=>d
 | some v=>if v < 0 then(v+(n:Int)).toNat else min v.toNat n
def sIx_none(n d:Nat):sIx n d none=d:=rfl
def sIx_nat(n d k:Nat):sIx n d (some (k:Int))=min k n:=by
 show(if(k:Int) < 0 then((k:Int)+(n:Int)).toNat else min (k:Int).toNat n)=min k n;rw[a3u (by lia),Int.toNat_natCast]
def cY9(n d:Nat)(hd:d<=n)(o:Option Int):sIx n d o<=n:=by
 cases o with
 | none=>exact hd
 | some v=>
   show(if v < 0 then(v+(n:Int)).toNat else min v.toNat n)<=n;by_cases a:v < 0;rw[a3s a];lia;rw[a3u a];exact Nat.min_le_right _ _
def bG5(v:Int)(n d:Nat):(if v < 0 then max (v+(n:Int)) 0 else min v (n:Int))=((sIx n d (some v):Nat):Int):=by
 show(if v < 0 then max (v+(n:Int)) 0 else min v (n:Int))=(((if v < 0 then(v+(n:Int)).toNat else min v.toNat n):Nat):Int);by_cases a:v < 0;simp only[if_pos a];lia;simp only[if_neg a];lia
def bA6(lo hi:Option Int)(n:Nat):Builtin.Slice.sliceAdjust lo hi 1 (n:Int)=(((sIx n 0 lo:Nat):Int),((sIx n n hi:Nat):Int)):=by
 have a:¬ ((1:Int) < 0):=by lia
 unfold Builtin.Slice.sliceAdjust;simp only[a,if_false];refine Prod.ext ?_ ?_
 ·cases lo with
  | none=>rfl
  | some v=>exact bG5 v n 0
 ·cases hi with
  | none=>rfl
  | some v=>exact bG5 v n n
def bA7(i j:Nat):Builtin.Slice.slicePlaces (i:Int) (j:Int) 1=j-i:=by
 unfold Builtin.Slice.slicePlaces;have a:(1:Int) > 0:=by lia
 simp only[a,if_true,Int.ediv_one];split<;>lia
def yH{v:Value}{o:Option Int}{Q:Option Int->Shared->Prop}(p:IsPart v o)(h:Q o s):wpAny (model prog w) A (Builtin.Slice.slicePartIndex v) Q E s:=by
 cases p with
 | none=>exact slicePart_none h
 | int i t=>exact slicePart_int h
def jF{sl:Addr}{c d:Value}{lo hi:Option Int}{n:Nat}{Q:Int×Int×Nat->Shared->Prop}(hs:s.heap.IsSliceOf sl c d .none)(pl:IsPart c lo)(e:IsPart d hi)
  (h:Q (((sIx n 0 lo:Nat):Int),1,sIx n n hi-sIx n 0 lo) s):wpAny (model prog w) A (Builtin.Slice.sliceApplied (.ref sl) (pure (n:Int))) Q E s:=by
 obtain⟨os,a,f,b⟩:=id hs;unfold Builtin.Slice.sliceApplied Builtin.Slice.sliceFields;refine a3r (a3r (wpAny_field a b (x:=c) rfl (a3r (wpAny_field a b (x:=d) rfl (a3r (wpAny_field a b (x:=.none) rfl (a3t ?_)))))));refine a3r (slicePart_none ?_);show wpAny _ _ (if((1:Int)==0)=true then _ else _) _ _ s;rw[a3u (by decide)];refine a3r (yH pl (a3r (yH e (a3r (a3t ?_)))));show wpAny _ _ (match Builtin.Slice.sliceAdjust lo hi 1 (n:Int)with | (lo,hi)=>pure (lo,(1:Int),Builtin.Slice.slicePlaces lo hi 1)) _ _ s;rw[bA6 lo hi n];show wpAny _ _ (pure (((sIx n 0 lo:Nat):Int),(1:Int),Builtin.Slice.slicePlaces ((sIx n 0 lo:Nat):Int) ((sIx n n hi:Nat):Int) 1)) _ _ s;rw[bA7];exact a3t h
def bT0(xs:Array Value)(i k:Nat):((List.range k).filterMap λ(m:Nat)=>xs[((i:Int)+(m:Int)*1).toNat]?).toArray=((xs.toList.drop i).take k).toArray:=by
 have e:(λ(m:Nat)=>xs[((i:Int)+(m:Int)*1).toNat]?)=λm=>xs[i+m]?:=by
  funext m;have:((i:Int)+(m:Int)*1).toNat=i+m:=by lia
  rw[this]
 rw[e];have:=pick_run xs i k;rw[List.filterMap_map]at this;have a:((λx=>xs[x]?) ∘ λx=>i+x)=λm=>xs[i+m]?:=rfl;rw[a]at this;rw[this]
def getItem_tuple_cut{t sl:Addr}{items:Array Value}{g i:Value}{lo hi:Option Int}{Q:Value->Shared->Prop}(b:IsTup s.heap t items)(hs:s.heap.IsSliceOf sl g i .none)(pl:IsPart g lo)(j:IsPart i hi)
  (k:¬ (sIx items.size 0 lo=0/\sIx items.size items.size hi=items.size))
  (h:Q (.ref s.heap.objs.size) {s with heap:=s.heap.push {cls:=.type "tuple",data:=.seq ((items.toList.drop (sIx items.size 0 lo)).take (sIx items.size items.size hi-sIx items.size 0 lo)).toArray}})
  (hsz:items.size<=sizeLine):wpAny (model prog w) A (getItem (.ref t) (.ref sl)) Q E s:=by
 have a:sizeOk (.seq ((items.toList.drop (sIx items.size 0 lo)).take (sIx items.size items.size hi-sIx items.size 0 lo)).toArray):=by
  show((items.toList.drop (sIx items.size 0 lo)).take (sIx items.size items.size hi-sIx items.size 0 lo)).toArray.size<=sizeLine;rw[a4b,a2g,a7g,a8d];lia
 have hj:sIx items.size items.size hi<=items.size:=cY9 _ _ (a6a _) hi;obtain⟨os,c,d,l⟩:=id hs;have e:s.TypeIs (.ref sl) "slice":=⟨os,c,d⟩;unfold getItem
 try with_reducible refine a3x ?_
 first | refine a3r (a3t ?_) | skip
 refine a3r (wpAny_sequenceKey b.typeIs (by decide) ?_);refine a3r (wpAny_callSpecial?_slot (name:=Str.ofString "__getitem__") b.typeIs a9e
  (a3E a9e b.typeIs entry_tuple_getitem ?_ (args_tuple_getitem _ _)))
 show wpAny _ _ (Builtin.Tuple.tupleItemsOf (.ref t) >>= _) _ _ s;refine a3r (tupleItemsOf_ b ?_);refine a3r (a3Q e ?_);rw[a3s (by decide)];refine a3r (jF hs pl j ?_);have f:¬ ((((sIx items.size 0 lo:Nat):Int)==0&&(1:Int)==1&&(sIx items.size items.size hi-sIx items.size 0 lo)==items.size)=true):=by
  intro q;rw[a1e,a1e]at q;have n:((sIx items.size 0 lo:Nat):Int)=0:=eq_of_beq q.1.1;have o:sIx items.size items.size hi-sIx items.size 0 lo=items.size:=eq_of_beq q.2;exact k ⟨by lia,by lia⟩
 show wpAny _ _ (if(((sIx items.size 0 lo:Nat):Int)==0&&(1:Int)==1&&(sIx items.size items.size hi-sIx items.size 0 lo)==items.size)=true then _ else _) _ _ s;rw[a3u f,bT0]
 first
  | exact a3r (m:=Builtin.Tuple.tupleExact _) (a3B (a3t ⟨_,rfl,a3t h⟩) a)
  | exact a3r (m:=Builtin.Tuple.tupleExact _) (a3B (a3r (a3t (a3t ⟨_,rfl,a3t h⟩))) a)
  | exact a3r (a3r (m:=Builtin.Tuple.tupleExact _) (a3B (a3t (a3t ⟨_,rfl,a3t h⟩)) a))
  | exact a3r (a3r (m:=Builtin.Tuple.tupleExact _) (a3B (a3t ⟨_,rfl,a3t h⟩) a))
end
end HT
namespace L2
open PySem PySem.Spec PyProof.Rows
abbrev TO:=St->Hp->(Option Int->Hp->Prop)->Prop
def PO(X:Cx)(e:Option Expr)(t:TO):Prop:=
 ∀ (pins:List (Addr×Obj)) (s:Shared) (σ:St) (H:Hp) (Q:Option Int->Hp->Prop),Inv X pins σ H s->t σ H Q ->
   wpAny (model X.prog X.w) X.A (evalPart e X.env) (λu s'=>∃ o H',Inv X pins σ H' s'/\IsPart u o/\Q o H') X.xe s
def bG6:TO:=λ_ H Q=>Q none H
def cZ0(t:TE):TO:=λσ H Q=>t σ H λx a=>∃ i,x=.int i/\Q (some i) a
def yI{ns:List Int}:∀ {us:List Value},cA (ns.map V.int) us->IntsAre us ns:=by
 induction ns with
 | nil=>intro us r;rw[List.map_nil]at r;cases r;exact .nil
 | cons n ns a=>
   intro us r;rw[a6d]at r;cases r with
   | cons b c=>
     obtain⟨t,e⟩:=b;subst e;exact .cons n t (a c)
section
variable{X:Cx}{e:Expr}{te:TE}{lo hi:Option Expr}{tl th:TO}{pos p2:Pos}
def bG7:PO X none bG6:=by
 intro pins s σ H Q I h;rw[evalPart_none];exact a3t ⟨none,H,I,.none,h⟩
def bG8(h:PE X e te):PO X (some e) (cZ0 te):=by
 intro pins s σ H Q I a;rw[evalPart_some];refine thn (h pins s σ H _ I a) λu s1 Z0=>?_;obtain⟨x,b,c,d,f⟩:=Z0;obtain⟨i,rfl,q⟩:=f;obtain⟨t,rfl⟩:=d;exact⟨some i,b,c,.int i t,q⟩
def SlR(X:Cx)(r:V->Option Int->Option Int->Hp->VK->Prop):Prop:=
 ∀ (pins:List (Addr×Obj)) (s:Shared) (σ:St) (H:Hp) (x:V) (v a b:Value) (lo hi:Option Int) (sl:Addr) (Q:VK),Inv X pins σ H s->eA x v->s.heap.IsSliceOf sl a b .none->IsPart a lo->IsPart b hi->r x lo hi H Q ->
   ∃ T id,typeLookup (.type T) "__getitem__"=pure (some (.builtin id))/\s.TypeIs v T/\wpAny (model X.prog X.w) X.A (getItem v (.ref sl)) (EP X pins σ Q) X.xe s
def tSl(r:V->Option Int->Option Int->Hp->VK->Prop)(te:TE)(tl th:TO):TE:=λσ H Q=>te σ H λx a=>tl σ a λl b=>th σ b λu c=>r x l u c Q
def aU1{r:V->Option Int->Option Int->Hp->VK->Prop}(g:SlR X r)(i:PE X e te)(j:PO X lo tl)(k:PO X hi th):PE X (.Subscript e (.Slice lo hi none p2) pos) (tSl r te tl th):=by
 intro pins s σ H Q I h;refine Subscript_ (thn (i pins s σ H _ I h) λv s1 Z0=>?_);obtain⟨x,m,n,o,p⟩:=Z0;refine wpAny_Slice (thn (j pins s1 σ m _ n p) λc s2 ⟨l,t,y,pl,z⟩=>thn (k pins s2 σ t _ y z) λd a ⟨u,f,B,C,D⟩=>?_);rw[evalPart_none];refine a3t ?_;have E:Inv X pins σ f {a with heap:=a.heap.push {cls:=.type "slice",data:=.fields #[c,d,.none]}}:=B.kept (t':=a.toks) λb ob q=>a8a _ q;obtain⟨T,id,F,G,J⟩:=g pins {a with heap:=a.heap.push {cls:=.type "slice",data:=.fields #[c,d,.none]}} σ f x v c d l u a.heap.objs.size Q E o (Heap.IsSliceOf.new ..) pl C D;show wpAny (model X.prog X.w) X.A (subscriptTail e (.Slice lo hi none p2) v (.ref a.heap.objs.size)) (EP X pins σ Q) X.xe {a with heap:=a.heap.push {cls:=.type "slice",data:=.fields #[c,d,.none]}};exact tail_any (ops:=[.ref a.heap.objs.size,v]) G F J (by with_unfolding_all rfl)
noncomputable def aE2(xs:List V)(lo hi:Option Int):List V:=(xs.drop (HT.sIx xs.length 0 lo)).take (HT.sIx xs.length xs.length hi-HT.sIx xs.length 0 lo)
def vV(xs:List V)(lo hi:Option Int):(aE2 xs lo hi).length<=xs.length:=by
 unfold aE2;rw[a2g,a7g];lia
def dV6(K:W.Frag):V->Option Int->Option Int->Hp->VK->Prop:=λx lo hi H Q=>∃ a xs,x=.ref a/\SqT K H a xs /\
 ¬ (HT.sIx xs.length 0 lo=0/\HT.sIx xs.length xs.length hi=xs.length)/\∀ p,H p=none->Q (.ref p) (upd H p (.tup (aE2 xs lo hi)))
def cZ1:SlR X (dV6 X.K):=by
 intro pins s σ H x v k l lo hi sl Q I f hs pl g h;obtain⟨a,xs,rfl,i,j,q⟩:=h;cases f;obtain⟨its,r,d,e⟩:=I.tuple i;have c:its.toArray.size=xs.length:=by rw[a4b];exact r.length.symm
 refine⟨"tuple",_,a9e.lookup,d.typeIs,?_⟩;refine HT.getItem_tuple_cut d hs pl g (by rw[c];exact j) ?_ (by rw[c];exact e);rw[c];refine⟨.ref s.heap.objs.size,_,I.laid (t':=s.toks) (o:=.tup (aE2 xs lo hi)) (λb ob q=>a8a _ q) (a6a _) ?_,rfl,q _ (I.hok.fresh (a6a _))⟩;exact⟨a3b (vV xs lo hi) e,_,(r.drop (HT.sIx xs.length 0 lo)).take (HT.sIx xs.length xs.length hi-HT.sIx xs.length 0 lo),IsTup.new _ _,⟨_,a9b _ rfl,rfl⟩⟩
def dV7(K:W.Frag):R2:=λx y H Q=>∃ a b ns c,x=.ref a/\y=.ref b/\SqT K H a (ns.map V.int)/\SqT K H b (c.map V.int)/\Q (.bl (HT.lexLt ns c)) H
def cZ2(d:X.A.units < cLine):OpR X (compareOp .Lt) (dV7 X.K):=by
 intro pins s σ H x y v u Q I e f h;obtain⟨a,b,ns,ms,rfl,rfl,ha,hb,q⟩:=h;cases e;cases f;obtain⟨its,g,i,_⟩:=I.tuple ha;obtain⟨c,j,p2,_⟩:=I.tuple hb;have k:IntsAre its.toArray.toList ns:=yI g;have l:IntsAre c.toArray.toList ms:=yI j;exact HT.lt_tupInts i p2 k l d ⟨.bl (HT.lexLt ns ms),H,I,rfl,q⟩
def dN2(K:W.Frag):R2:=λx y H Q=>∃ a b xs ys,x=.ref a/\y=.ref b/\SqT K H a xs/\SqT K H b ys/\xs≠[]/\xs.length+ys.length<=sizeLine /\
 (ys=[]->Q (.ref a) H)/\(ys≠[]->∀ p,H p=none->Q (.ref p) (upd H p (.tup (xs++ys))))
def cA.nil_iff{xs:List V}{us:List Value}(r:cA xs us):us=[]↔xs=[]:=by
 cases r with
 | nil=>simp
 | cons _ _=>simp
def cH8:OpR X (binaryOp .Add) (dN2 X.K):=by
 intro pins s σ H x y v u Q I g i h;obtain⟨a,b,xs,ys,rfl,rfl,ha,hb,j,e,k,l⟩:=h;cases g;cases i;obtain⟨its,d,m,_⟩:=I.tuple ha;obtain⟨f,c,p2,_⟩:=I.tuple hb;refine HT.cat_tup m p2 (λz=>j (d.nil_iff.mp z)) (λz=>⟨.ref a,H,I,rfl,k (c.nil_iff.mp z)⟩) (λz=>?_) (by rw[← d.length,← c.length];exact e);refine⟨.ref s.heap.objs.size,_,I.laid (t':=s.toks) (o:=.tup (xs++ys)) (λb ob q=>a8a _ q) (a6a _) ?_,rfl,l (λw=>z (c.nil_iff.mpr w)) _ (I.hok.fresh (a6a _))⟩;exact⟨by rw[a9a];exact e,_,d.append c,IsTup.new _ _,⟨_,a9b _ rfl,rfl⟩⟩
end
noncomputable def ixN(n:Nat)(i:Int):Option Nat:=if 0<=i then(if i < n then some i.toNat else none)else if -(n:Int)<=i then some (i+n).toNat else none
noncomputable def atI{α:Type}(xs:List α)(i:Int):Option α:=(ixN xs.length i).bind λj=>xs[j]?
def zW{n:Nat}{i:Int}{j:Nat}(h:ixN n i=some j):seqIndex? i n=some j/\j < n /\ -(n:Int)<=i/\i < n:=by
 unfold ixN at h;by_cases h0:0<=i;rw[a3s h0]at h;by_cases a:i < n;rw[a3s a]at h;have e:i.toNat=j:=a7a h;exact⟨by rw[seqIndex_of h0 a,e],by lia,by lia,a⟩;rw[a3u a]at h;cases h;rw[a3u h0]at h;by_cases a:-(n:Int)<=i;rw[a3s a]at h;have e:(i+n).toNat=j:=a7a h;exact⟨by rw[seqIndex_neg (by lia) a,e],by lia,a,by lia⟩;rw[a3u a]at h;cases h
def zX{a:Type}{xs:List a}{i:Int}{v:a}(h:atI xs i=some v):∃ j,seqIndex? i xs.length=some j/\xs[j]? = some v/\j < xs.length /\ -(xs.length:Int)<=i/\i < xs.length:=by
 unfold atI at h;cases e:ixN xs.length i with
 | none=>rw[e]at h;cases h
 | some j=>
   rw[e]at h;obtain⟨b,c,d,f⟩:=zW e;exact⟨j,b,h,c,d,f⟩
def bG9{a:Type}{xs:List a}{j:Nat}{v:a}(h:xs[j]? = some v):atI xs (j:Int)=some v:=by
 have hj:j < xs.length:=(a1a.mp h).1;have e:ixN xs.length (j:Int)=some j:=by
  unfold ixN;rw[a3s (by lia),a3s (by lia)];simp
 unfold atI;rw[e];exact h
def bH0(b:Expr):Prop:=∀ o i,subscripted b false o i=operate [o,i] (getItem o i)
def IxR(X:Cx)(r:R2):Prop:=
 ∀ (b a:Expr) (pins:List (Addr×Obj)) (s:Shared) (σ:St) (H:Hp) (x y:V) (v u:Value) (Q:VK),Inv X pins σ H s->eA x v->eA y u->r x y H Q ->
   subscripted a false v u=operate [v,u] (getItem v u)->wpAny (model X.prog X.w) X.A (subscriptTail b a v u) (EP X pins σ Q) X.xe s
def MtR(X:Cx)(id:String)(r:V->List V->Hp->VK->Prop):Prop:=
 ∀ (pins:List (Addr×Obj)) (s:Shared) (σ:St) (H:Hp) (x:V) (xs:List V) (v:Value) (us:List Value) (Q:VK),Inv X pins σ H s->eA x v->cA xs us->r x xs H Q ->
   wpAny (model X.prog X.w) X.A (call (.builtin id) (v::us)) (EP X pins σ Q) X.xe s
section
variable{X:Cx}{a b:Expr}{ta tb:TE}{pos:Pos}
def aN9{r:R2}(c:IxR X r)(ha:PE X a ta)(hb:PE X b tb)(hs:bH0 b):PE X (.Subscript a b pos) (tOp r ta tb):=by
 intro pins s σ H Q I h;exact Subscript_ (dM7 ha hb I h λv u s2 x y d e f g q=>c a b pins s2 σ d x y v u Q e f g q (hs _ _))
def dV8(K:W.Frag):R2:=λx y H Q=>∃ p xs i v,x=.ref p/\y=.int i/\SqL K H p xs/\atI xs i=some v/\Q v H
def dV9(K:W.Frag):R2:=λx y H Q=>∃ p xs i v,x=.ref p/\y=.int i/\SqT K H p xs/\atI xs i=some v/\Q v H
def dW0:R2:=λx y H Q=>∃ z i c,x=.str z/\y=.int i/\z.length<=sizeLine/\atI z.cps.toList i=some c/\Q (.str ⟨#[c]⟩) H
def cH9:IxR X (dV8 X.K):=by
 intro b c pins s σ H x y v u Q I f g h hs;obtain⟨p,xs,i,z,rfl,rfl,k,l,q⟩:=h;cases f;obtain⟨t,rfl⟩:=g;obtain⟨its,r,pl,B⟩:=I.list k;obtain⟨j,a,m,C,n,o⟩:=zX l;obtain⟨w,e,d⟩:=r.get m;have A:=r.length;have hn:=vU;have fin:EP X pins σ Q w s:=⟨z,H,I,d,q⟩;by_cases h0:0<=i
 ·have hj:i.toNat=j:=by
   rw[seqIndex_of h0 o]at a;exact a7a a
  exact item_listR pl.isList h0 (by lia) (by rw[hj];simpa using e) fin hs
 ·have hj:(i+(its.toArray.size:Int)).toNat=j:=by
   rw[seqIndex_neg (by lia) n]at a;rw[a4b,← A];exact a7a a
  exact subscriptTail_builtinR (x:=w) pl.isList.typeIs slot_list_getitem.lookup
   (wpAny_getItem_list_neg (Q:=λr s'=>r=w/\EP X pins σ Q r s') pl.isList (by lia) (by rw[a4b]<;>lia) (by lia) (by rw[hj];simpa using e) ⟨rfl,fin⟩) hs
def cZ3:IxR X (dV9 X.K):=by
 intro a b pins s σ H x y v u Q I d e h hs;obtain⟨p,xs,i,z,rfl,rfl,f,g,q⟩:=h;cases d;obtain⟨t,rfl⟩:=e;obtain⟨its,r,pl,o⟩:=I.tuple f;obtain⟨j,k,l,A,B,C⟩:=zX g;obtain⟨w,m,c⟩:=r.get l;have n:=r.length;have hn:=vU;have fin:EP X pins σ Q w s:=⟨z,H,I,c,q⟩;exact subscriptTail_builtinR (x:=w) pl.typeIs slot_tuple_getitem.lookup
  (getItem_tuple (j:=j) (Q:=λr s'=>r=w/\EP X pins σ Q r s') pl (by lia) (by lia) (by rw[a4b,← n];exact k) (by simpa using m) ⟨rfl,fin⟩) hs
def cZ4:IxR X dW0:=by
 intro a b pins s σ H x y v u Q I e f h hs;obtain⟨z,i,c,rfl,rfl,r,g,q⟩:=h;obtain⟨t,rfl⟩:=e;obtain⟨w,rfl⟩:=f;obtain⟨j,d,k,A,l,m⟩:=zX g;have n:z.cps.toList.length=z.length:=by simp[Str.length]
 rw[n]at d l m;have hn:=vU;exact tail_any (typeIs_str s z t) slot_str_getitem.lookup (getItem_str (c:=c) (by
  have o:decide (i < -(2 ^ 63:Int))=false:=a3y (by lia);have p:decide (i ≥ 2 ^ 63)=false:=a3y (by lia);rw[o,p,Bool.or_false]) (by rw[d];simpa using k) ⟨.str ⟨#[c]⟩,H,I.tok _,⟨_,rfl⟩,q⟩) hs
def bA8(its:List Value)(n j:Nat)(u:Value):Obj.mapSeq (·.setIfInBounds j u) {cls:=.type "list",data:=.seq its.toArray n}={cls:=.type "list",data:=.seq (its.set j u).toArray n}:=by
 simp[Obj.mapSeq]
theorem Inv.lst{pins:List (Addr×Obj)}{σ:St}{H:Hp}{s:Shared}{p:Addr}{xs:List V}(I:Inv X pins σ H s)(h:H p=some (.lst xs)) :
  ∃ (its:List Value) (n:Nat),cA xs its/\s.heap.get? p=some {cls:=.type "list",data:=.seq its.toArray n}/\xs.length<=sizeLine:=by
 obtain⟨z,its,n,r,e⟩:=I.hok p _ h;exact⟨its,n,r,e,z⟩
def Inv.lstUpd{pins:List (Addr×Obj)}{σ:St}{H:Hp}{s:Shared}{p:Addr}{xs ys:List V}{its its':List Value}{n a:Nat}{f:Obj->Obj}(I:Inv X pins σ H s)(h:H p=some (.lst xs))
  (d:s.heap.get? p=some {cls:=.type "list",data:=.seq its.toArray n}) (c:f {cls:=.type "list",data:=.seq its.toArray n}={cls:=.type "list",data:=.seq its'.toArray a}) (r:cA ys its') (hz:ys.length<=sizeLine) (t:Nat) :
  Inv X pins σ (upd H p (.lst ys)) {s with heap:=s.heap.update p f,toks:=t}:=by
 have e:(s.heap.update p f).get? p=some {cls:=.type "list",data:=.seq its'.toArray a}:=by
  rw[a6e f d (by rw[c]<;>rfl),c]
 refine I.write (x:=p) (e:=p) (by rw[h];trivial) (.inl rfl) (λb u hb q=>(a4e _ _ (a5d hb)).trans q) ⟨_,e⟩ ?_;exact⟨hz,its',a,r,e⟩
def cI0:V->V->V->Hp->(Hp->Prop)->Prop:=λo i v H Q=>∃ p xs k j,o=.ref p/\i=.int k/\H p=some (.lst xs)/\ixN xs.length k=some j/\Q (upd H p (.lst (xs.set j v)))
def nF:dR9 X cI0:=by
 intro pins s σ H o i v ov y u Q I m ri w h;obtain⟨p,xs,k,j,rfl,rfl,e,hj,q⟩:=h;cases m;obtain⟨t,rfl⟩:=ri;obtain⟨its,n,r,b,x⟩:=I.lst e;obtain⟨a,z,f,g⟩:=zW hj;have c:=r.length;have hn:=vU;have l:Inv X pins σ (upd H p (.lst (xs.set j v))) {s with heap:=s.heap.update p (Obj.mapSeq (·.setIfInBounds j u))}:=
  I.lstUpd e b (bA8 its n j u) (r.set w j) (by rw[a4f];exact x) s.toks
 by_cases h0:0<=k
 ·have d:k.toNat=j:=by
   rw[seqIndex_of h0 g]at a;exact a7a a
  exact W.ki_setAt b h0 (by lia) (by rw[a4b,← c];exact g) (by rw[d];exact⟨_,l,q⟩)
 ·have d:(k+(its.toArray.size:Int)).toNat=j:=by
   rw[seqIndex_neg (by lia) f]at a;rw[a4b,← c];exact a7a a
  exact W.ki_setBack b (by lia) (by rw[a4b,← c];exact f) (by lia) (by rw[d];exact⟨_,l,q⟩)
def aF4(lo hi:Option Int)(n:Nat):(sliceBounds lo hi none n).1=((HT.sIx n 0 lo:Nat):Int)/\(sliceBounds lo hi none n).2.1=((HT.sIx n n hi:Nat):Int)/\(sliceBounds lo hi none n).2.2=1:=by
 refine⟨?_,?_,rfl⟩
 ·cases lo with
  | none=>simp[sliceBounds,HT.sIx]
  | some i=>
    simp only[sliceBounds,HT.sIx,Option.getD_none,show(1:Int) > 0 by decide,if_true];by_cases h:i < 0;simp only[h,if_true]<;>lia;simp only[h,if_false]<;>lia
 ·cases hi with
  | none=>simp[sliceBounds,HT.sIx]
  | some i=>
    simp only[sliceBounds,HT.sIx,Option.getD_none,show(1:Int) > 0 by decide,if_true];by_cases h:i < 0;simp only[h,if_true]<;>lia;simp only[h,if_false]<;>lia
def zY(its:List Value)(lo hi:Option Int):slicePick its.toArray lo hi none=((its.drop (HT.sIx its.length 0 lo)).take (HT.sIx its.length its.length hi-HT.sIx its.length 0 lo)).toArray:=by
 obtain⟨a,b,c⟩:=aF4 lo hi its.toArray.size;unfold slicePick;rw[a,b,c];simp only[sliceRange_one,pick_run,List.size_toArray]<;>rfl
def dW1(K:W.Frag):V->Option Int->Option Int->Hp->VK->Prop:=λx lo hi H Q=>∃ a xs,x=.ref a/\SqL K H a xs/\∀ p,H p=none->Q (.ref p) (upd H p (.lst (aE2 xs lo hi)))
def cI1:SlR X (dW1 X.K):=by
 intro pins s σ H x v j k lo hi sl Q I e hs pl f h;obtain⟨a,xs,rfl,g,q⟩:=h;cases e;obtain⟨its,r,d,i⟩:=I.list g;have c:=r.length;refine⟨"list",_,slot_list_getitem.lookup,d.isList.typeIs,?_⟩;refine wpAny_getItem_list_slice d.isList hs pl f .none (by simp) ?_ (by rw[List.size_toArray]<;>lia);rw[zY,← c];refine⟨.ref s.heap.objs.size,_,I.laid (t':=s.toks) (o:=.lst (aE2 xs lo hi)) (λb ob q=>a8a _ q) (a6a _) ?_,rfl,q _ (I.hok.fresh (a6a _))⟩;exact⟨a3b (vV xs lo hi) i,_,0,(r.drop (HT.sIx xs.length 0 lo)).take (HT.sIx xs.length xs.length hi-HT.sIx xs.length 0 lo),a9b _ rfl⟩
noncomputable def vA:V->Bool
 | .non=>true
 | .bl _=>true
 | .int _=>true
 | .str _=>true
 | _=>false
noncomputable def eqV:V->V->Bool
 | .non,.non=>true
 | .bl a,.bl b=>a==b
 | .bl a,.int b=>(if a then 1 else 0)==b
 | .int a,.bl b=>a==(if b then 1 else 0)
 | .int a,.int b=>a==b
 | .str a,.str b=>a==b
 | _,_=>false
def cZ5{A:Around}{s:Shared}{y x:V}{u v:Value}(e:eA y u)(c:eA x v)(g:vA y=true)(f:vA x=true):SeqAt.EqAt A s u v (eqV y x):=by
 cases y with
 | non=>
   cases e;cases x with
   | non=>cases c;exact SeqAt.EqAt.same _
   | bl b=>cases c;exact SeqAt.EqAt.none_bool b
   | int b=>obtain⟨t,rfl⟩:=c;exact SeqAt.EqAt.none_int b t
   | str b=>obtain⟨t,rfl⟩:=c;exact SeqAt.EqAt.none_str b t
   | _=>exact absurd (show false=true from f) a3d
 | bl a=>
   cases e;cases x with
   | non=>cases c;exact SeqAt.EqAt.bool_none a
   | bl b=>cases c;exact SeqAt.EqAt.bool_bool a b
   | int b=>obtain⟨t,rfl⟩:=c;exact SeqAt.EqAt.bool_int a b t
   | str b=>obtain⟨t,rfl⟩:=c;exact SeqAt.EqAt.bool_str a b t
   | _=>exact absurd (show false=true from f) a3d
 | int a=>
   obtain⟨d,rfl⟩:=e;cases x with
   | non=>cases c;exact SeqAt.EqAt.int_none a d
   | bl b=>cases c;exact SeqAt.EqAt.int_bool a d b
   | int b=>obtain⟨t,rfl⟩:=c;exact SeqAt.EqAt.int_int a d b t
   | str b=>obtain⟨t,rfl⟩:=c;exact SeqAt.EqAt.int_str a d b t
   | _=>exact absurd (show false=true from f) a3d
 | str a=>
   obtain⟨d,rfl⟩:=e;cases x with
   | non=>cases c;exact SeqAt.EqAt.str_none a d
   | bl b=>cases c;exact SeqAt.EqAt.str_bool a d b
   | int b=>obtain⟨t,rfl⟩:=c;exact SeqAt.EqAt.str_int a d b t
   | str b=>obtain⟨t,rfl⟩:=c;exact SeqAt.EqAt.str_str a d b t
   | _=>exact absurd (show false=true from f) a3d
 | _=>exact absurd (show false=true from g) a3d
noncomputable def eqU(x:V)(u:Value):Bool:=match u with
 | .none=>eqV .non x
 | .bool b=>eqV (.bl b) x
 | .int i _=>eqV (.int i) x
 | .str z _=>eqV (.str z) x
 | _=>false
def cC4{x y:V}{u:Value}(r:eA y u)(f:vA y=true):eqU x u=eqV y x:=by
 cases y with
 | non=>cases r;rfl
 | bl b=>cases r;rfl
 | int i=>obtain⟨t,rfl⟩:=r;rfl
 | str z=>obtain⟨t,rfl⟩:=r;rfl
 | _=>exact absurd (show false=true from f) a3d
theorem vW{x:V}:∀ {xs:List V} {us:List Value},cA xs us->xs.all vA=true->us.any (eqU x)=xs.any λy=>eqV y x
 | _,_,.nil,_=>rfl
 | y::xs,u::us,.cons r t,f=>by
   rw[List.all_cons,a1e]at f;rw[List.any_cons,List.any_cons,cC4 r f.1,vW t f.2]
theorem nG{A:Around}{s:Shared}{x:V}{v:Value}(b:eA x v)(c:vA x=true):∀ {xs:List V} {us:List Value},cA xs us->xs.all vA=true->∀ u∈us,SeqAt.EqAt A s u v (eqU x u)
 | _,_,.nil,_=>λu a=>by cases a
 | y::xs,u::us,.cons r t,f=>λd a=>by
   rw[List.all_cons,a1e]at f;rcases a1c.mp a with rfl | a;rw[cC4 r f.1];exact cZ5 r b f.1 c;exact nG b c t f.2 d a
noncomputable def inV(x:V)(xs:List V):Bool:=xs.any λy=>eqV y x
def rIn(K:W.Frag)(neg:Bool):R2:=λx y H Q=>∃ p xs,y=.ref p/\(SqL K H p xs\/SqT K H p xs)/\vA x=true/\xs.all vA=true/\Q (.bl (if neg then !inV x xs else inV x xs)) H
def bH1:OpR X (compareOp .In) (rIn X.K false):=by
 intro pins s σ H x y v u Q I c e h;obtain⟨p,xs,rfl,a,d,fs,q⟩:=h;cases e;rcases a with a | a;obtain⟨its,r,pl,f⟩:=I.list a;refine SeqAt.in_listAt (eqU x) pl.isList (λw b=>nG c d r fs w (by simpa using b)) ⟨.bl _,H,I,rfl,?_⟩;rw[show its.toArray.any (eqU x)=its.any (eqU x) by simp,vW r fs];exact q;obtain⟨its,r,pl,f⟩:=I.tuple a;refine SeqAt.in_tupleAt (eqU x) pl (λw b=>nG c d r fs w (by simpa using b)) ⟨.bl _,H,I,rfl,?_⟩;rw[show its.toArray.any (eqU x)=its.any (eqU x) by simp,vW r fs];exact q
def aF5:OpR X (compareOp .NotIn) (rIn X.K true):=by
 intro pins s σ H x y v u Q I c e h;obtain⟨p,xs,rfl,a,d,fs,q⟩:=h;cases e;rcases a with a | a;obtain⟨its,r,pl,f⟩:=I.list a;refine SeqAt.notIn_listAt (eqU x) pl.isList (λw b=>nG c d r fs w (by simpa using b)) ⟨.bl _,H,I,rfl,?_⟩;rw[show its.toArray.any (eqU x)=its.any (eqU x) by simp,vW r fs];exact q;obtain⟨its,r,pl,f⟩:=I.tuple a;refine SeqAt.notIn_tupleAt (eqU x) pl (λw b=>nG c d r fs w (by simpa using b)) ⟨.bl _,H,I,rfl,?_⟩;rw[show its.toArray.any (eqU x)=its.any (eqU x) by simp,vW r fs];exact q
def aF6:OpR X (compareOp .NotIn) (λx y H Q=>∃ i j,x=.str i/\y=.str j/\Q (.bl (!(!(Builtin.Str.occurrences j i 0 j.length 1).isEmpty))) H):=by
 intro pins s σ H x y v u Q I a b h;obtain⟨i,j,rfl,rfl,q⟩:=h;obtain⟨t,rfl⟩:=a;obtain⟨c,rfl⟩:=b;exact notIn_str ⟨.bl _,H,I,rfl,q⟩
def pD:mK X (.builtin "len") (λxs H Q=>∃ p ys,xs=[.ref p]/\(SqL X.K H p ys\/SqT X.K H p ys)/\Q (.int ys.length) H):=by
 intro pins s σ H xs us Q I r h;obtain⟨p,ys,rfl,b,q⟩:=h;obtain⟨u,rfl,d⟩:=aE8 r;cases d;have hn:=vU;rcases b with b | b;obtain⟨its,c,pl,e⟩:=I.list b;have a:=c.length;exact Calls.call_len_list pl.isList (by simp only[List.size_toArray]<;>lia) ⟨.int ys.length,H,I.tok _,⟨s.toks+1,by rw[a4b,a]⟩,q⟩;obtain⟨its,c,pl,e⟩:=I.tuple b;have a:=c.length;exact len_tuple pl (by simp only[List.size_toArray]<;>lia) ⟨.int ys.length,H,I.tok _,⟨s.toks+1,by rw[a4b,a]⟩,q⟩
def aF7:mK X (.builtin "len") (λxs H Q=>∃ z,xs=[.str z]/\z.length<=sizeLine/\Q (.int z.length) H):=by
 intro pins s σ H xs us Q I r h;obtain⟨z,rfl,a,q⟩:=h;obtain⟨u,rfl,t,rfl⟩:=aE8 r;have hn:=vU;exact len_str (by lia) ⟨.int z.length,H,I.tok _,⟨_,rfl⟩,q⟩
def pE:mK X (.type "list") (λxs H Q=>∃ p ys,xs=[.ref p]/\(SqL X.K H p ys\/SqT X.K H p ys)/\∀ l,H l=none->Q (.ref l) (upd H l (.lst ys))):=by
 intro pins s σ H xs us Q I r h;obtain⟨p,ys,rfl,d,q⟩:=h;obtain⟨u,rfl,k⟩:=aE8 r;cases k;have fin:∀ (its:List Value),cA ys its->ys.length<=sizeLine->∀ (h':Heap) (a:Nat),(∀ b o',s.heap.get? b=some o'->h'.get? b=some o') ->
   h'.get? s.heap.objs.size=some {cls:=.type "list",dict:=none,data:=.seq its.toArray a,slots:=#[]}->EP X pins σ Q (.ref s.heap.objs.size) {s with heap:=h'}:=λits c f h' a kp e=>
  ⟨.ref s.heap.objs.size,_,I.laid (t':=s.toks) kp (a6a _) (show dJ X.prog X.w _ h' _ (.lst ys)from⟨f,its,a,c,e⟩),rfl,q _ (I.hok.fresh (a6a _))⟩
 rcases d with d | d;obtain⟨its,c,pl,f⟩:=I.list d;have g:=c.length;obtain⟨o,i,j,n,hd⟩:=pl.isList;exact call_list_seq p (.inl rfl) i j hd (λh' a kp e=>fin its c f h' a kp e) (by simp only[List.size_toArray]<;>lia);obtain⟨its,c,pl,f⟩:=I.tuple d;have g:=c.length;obtain⟨o,i,j,n,hd⟩:=pl;exact call_list_seq p (.inr rfl) i j hd (λh' a kp e=>fin its c f h' a kp e) (by simp only[List.size_toArray]<;>lia)
def nH:mK X (.type "tuple") (λxs H Q=>∃ p ys,xs=[.ref p]/\((SqL X.K H p ys/\∀ l,H l=none->Q (.ref l) (upd H l (.tup ys)))\/(SqT X.K H p ys/\Q (.ref p) H))):=by
 intro pins s σ H xs us Q I r h;obtain⟨p,ys,rfl,h⟩:=h;obtain⟨u,rfl,i⟩:=aE8 r;cases i;rcases h with⟨a,q⟩ | ⟨a,q⟩
 ·obtain⟨its,c,pl,d⟩:=I.list a;have f:=c.length;refine call_tuple_list pl.isList (λh' kp=>?_) (by simp only[List.size_toArray]<;>lia);have g:Inv X pins σ H {s with heap:=h'}:=I.kept (t':=s.toks) kp;have j:Inv X pins σ (upd H h'.objs.size (.tup ys)) {s with heap:=h'.push {cls:=.type "tuple",data:=.seq its.toArray}}:=
   g.laid (t':=s.toks) (λb o e=>a8a _ e) (a6a _) (show dJ X.prog X.w _ _ _ (.tup ys)from⟨d,its,c,IsTup.new _ _,⟨_,a9b _ rfl,rfl⟩⟩)
  exact⟨.ref h'.objs.size,_,j,rfl,q _ (g.hok.fresh (a6a _))⟩
 ·obtain⟨its,c,pl,d⟩:=I.tuple a;exact call_tuple_same pl ⟨.ref p,H,I,rfl,q⟩
def tyV(K:W.Frag)(T:String)(x:V)(H:Hp):Prop:=match x with
 | .str _=>T="str"
 | .int _=>T="int"
 | .ref p=>(T="list"/\∃ xs,SqL K H p xs)\/(T="tuple"/\∃ o,K.lookup p=some o/\o.cls=.type "tuple"/\o.dict=none) \/
   (T="dict"/\((∃ kvs,H p=some (.dK kvs))\/∃ kvs,H p=some (.dT kvs)))\/(T="set"/\∃ S n,H p=some (.set S n))
 | _=>False
def cC5{pins:List (Addr×Obj)}{σ:St}{H:Hp}{s:Shared}{T:String}{x:V}{v:Value}(I:Inv X pins σ H s)(r:eA x v)(ty:tyV X.K T x H) :
  s.TypeIs v T/\∀ a,v=.ref a->∃ ob,s.heap.get? a=some ob/\ob.dict=none:=by
 cases x with
 | str z=>
   obtain⟨t,rfl⟩:=r;cases (show T="str" from ty);exact⟨typeIs_str s z t,λ_ e=>nomatch e⟩
 | int i=>
   obtain⟨t,rfl⟩:=r;cases (show T="int" from ty);exact⟨typeIs_int s i t,λ_ e=>nomatch e⟩
 | ref p=>
   cases r;rcases ty with⟨rfl,xs,f⟩ | ⟨rfl,o,b,g,hd⟩ | ⟨rfl,b⟩ | ⟨rfl,S,n,b⟩;obtain⟨its,_,pl,_⟩:=I.list f;refine⟨pl.isList.typeIs,λa e=>?_⟩;cases e;obtain⟨o,n,e,c,hd,_⟩:=pl;exact⟨o,e,hd⟩;refine⟨⟨o,I.kIn p o b,g⟩,λa e=>?_⟩;cases e;exact⟨o,I.kIn _ o b,hd⟩
   ·have z:∃ o,s.heap.get? p=some o/\o.ExactDict:=by
     rcases b with⟨kvs,b⟩ | ⟨kvs,b⟩;obtain⟨_,_,_,_,o,_,_,e,ex,_⟩:=I.hok p _ b;exact⟨o,e,ex⟩;obtain⟨_,_,_,_,o,_,_,e,ex,_⟩:=I.hok p _ b;exact⟨o,e,ex⟩
    obtain⟨o,e,ex⟩:=z;refine⟨⟨o,e,ex.1⟩,λa d=>?_⟩;cases d;exact⟨o,e,ex.2.1⟩
   ·obtain⟨o,_,_,_,e,ex,_⟩:=I.hok p _ b;refine⟨⟨o,e,ex.1⟩,λa d=>?_⟩;cases d;exact⟨o,e,ex.2.1⟩
 | _=>exact False.elim ty
def dK7(K:W.Frag)(T:String)(r:V->List V->Hp->VK->Prop)(to:TE):TE:=λσ H Q=>to σ H λx a=>tyV K T x a/\r x [] a Q
def tBM(K:W.Frag)(T:String)(r:V->List V->Hp->VK->Prop)(to:TE)(t:TA):TE:=λσ H Q=>to σ H λx a=>tyV K T x a/\t σ a λxs b=>r x xs b Q
variable{o e:Expr}{es:List Expr}{to:TE}{t:TA}{name:Str}{apos cpos:Pos}{T id:String}{r:V->List V->Hp->VK->Prop}
def cZ6(pa:PlainAttrs T)(slot:Slot T name id)(c:typeOf (.builtin id)=pure (.type "method_descriptor"))(hm:MtR X id r)(f:PE X o to)
  (a:attributeBase o name X.env (eval o X.env)=eval o X.env:=by rfl) (b:(apos.endLine==cpos.line)=true:=by rfl):PE X (.Call (.Attribute o name apos) [] [] cpos) (dK7 X.K T r to):=by
 intro pins s σ H Q I h;refine wpAny_Call_method0_late a b (thn (f pins s σ H _ I h) λv s1 Z0=>?_);obtain⟨x,g,d,e,ty,i⟩:=Z0;obtain⟨j,k⟩:=cC5 d e ty;exact⟨T,id,pa,slot,c,j,k,Calls.callWith_builtin rfl (PySem.evalArgs_none (hm pins s1 σ g x [] v [] Q d e .nil i))⟩
def dN3(pa:PlainAttrs T)(slot:Slot T name id)(f:typeOf (.builtin id)=pure (.type "method_descriptor"))(hm:MtR X id r)(k:PE X o to)(ha:PA X (e::es) t)
  (b:attributeBase o name X.env (eval o X.env)=eval o X.env:=by rfl)
  (d:((backTo cpos (starEach (e::es) X.env)).all (λx=>!x.1)&&(backToKw cpos (keywordEach [] X.env)).all (λx=>x.1.isSome)
   && decide ((e::es).length+([]:List Keyword).length+(if([]:List Keyword).isEmpty then 0 else 1) < 30))=true:=by rfl)
  (c:(apos.endLine==cpos.line)=true:=by rfl) (hs:starEach (e::es) X.env=(false,eval e X.env)::starEach es X.env:=by rfl) (a:(backTo cpos (starEach es X.env)).any (·.1)=false:=by rfl) :
  PE X (.Call (.Attribute o name apos) (e::es) [] cpos) (tBM X.K T r to t):=by
 intro pins s σ H Q I h;refine wpAny_Call_method_late b d c rfl (thn (k pins s σ H _ I h) λv s1 Z0=>?_);obtain⟨x,l,g,i,ty,m⟩:=Z0;obtain⟨n,p⟩:=cC5 g i ty;refine⟨T,id,pa,slot,f,n,p,?_⟩;have j:=ha cpos pins s1 σ l _ g m;rw[hs]at j ⊢;refine Calls.callWith_builtin (by show(false||(backTo cpos (starEach es X.env)).any (·.1))=false;rw[a]<;>rfl) (Calls.evalArgs_plain ?_);exact thn j λus s2 ⟨vs,q,u,w,y⟩=>hm pins s2 σ q x vs v us Q u i w y
end
def MtM(X:Cx)(id:String)(r:V->List V->Hp->VK->Prop):Prop:=
 ∀ (pins:List (Addr×Obj)) (s:Shared) (σ:St) (H:Hp) (x:V) (xs:List V) (v:Value) (us:List Value) (Q:VK),Inv X pins σ H s->eA x v->cA xs us->r x xs H Q ->
   wpAny (model X.prog X.w) X.A (call (.builtin id) (v::us)) (EP X pins σ Q) X.xe s
def cA.one:∀ {x:V} {us:List Value},cA [x] us->∃ u,us=[u]/\eA x u
 | _,_,.cons r .nil=>⟨_,rfl,r⟩
def cA.two:∀ {x y:V} {us:List Value},cA [x,y] us->∃ u v,us=[u,v]/\eA x u/\eA y v
 | _,_,_,.cons r (.cons q .nil)=>⟨_,_,rfl,r,q⟩
def cA.zero:∀ {us:List Value},cA [] us->us=[]
 | _,.nil=>rfl
theorem cA.dropLast{xs:List V}{us:List Value}(h:cA xs us):cA xs.dropLast us.dropLast:=by
 induction h with
 | nil=>exact .nil
 | cons r t a=>
   cases t with
   | nil=>exact .nil
   | cons q b=>exact .cons r a
theorem cA.eraseIdx:∀ {xs:List V} {us:List Value} (i:Nat),cA xs us->cA (xs.eraseIdx i) (us.eraseIdx i)
 | _,_,_,.nil=>.nil
 | _,_,0,.cons _ t=>t
 | _,_,i+1,.cons r t=>.cons r (cA.eraseIdx i t)
def bA9{c:Type}(l:List c):l.eraseIdx (l.length-1)=l.dropLast:=by
 induction l with
 | nil=>rfl
 | cons a r d=>
   cases r with
   | nil=>rfl
   | cons b r=>
     have e:(a::b::r).length-1=((b::r).length-1)+1:=by
      have f:(a::b::r).length=r.length+2:=rfl;have g:(b::r).length=r.length+1:=rfl;lia
     rw[e,List.eraseIdx_cons_succ,d]
     all_goals rfl
theorem aF8{a:Type}:∀ (l:List a) (i:Nat),(l.eraseIdx i).length<=l.length
 | [],_=>a6a _
 | _::_,0=>Nat.le_succ _
 | _::r,i+1=>Nat.succ_le_succ (aF8 r i)
section
variable{X:Cx}{pins:List (Addr×Obj)}{σ:St}{H:Hp}{s:Shared}{l b:Addr}{xs ys zs:List V}
def Inv.lset{its its':List Value}{n:Nat}{f:Array Value->Array Value}{t':Nat}(I:Inv X pins σ H s)(a:H l=some (.lst xs))
  (e:s.heap.get? l=some {cls:=.type "list",data:=.seq its.toArray n}) (b:f its.toArray=its'.toArray) (c:cA ys its') (hz:ys.length<=sizeLine) :
  Inv X pins σ (upd H l (.lst ys)) {s with heap:=s.heap.update l (Obj.mapSeq f),toks:=t'}:=by
 have q:=PySem.IsL.update e f;rw[b]at q;refine I.write (x:=l) (e:=l) (by rw[a];exact trivial) (.inl rfl) (λg u hb d=>(a4e s.heap (Obj.mapSeq f) (a5d hb)).trans d) ⟨_,q⟩ ?_;exact⟨hz,its',_,c,q⟩
def Inv.lnew{its:List Value}{t':Nat}(I:Inv X pins σ H s)(a:cA ys its)(hz:ys.length<=sizeLine) :
  Inv X pins σ (upd H s.heap.objs.size (.lst ys)) {s with heap:=s.heap.push {cls:=.type "list",data:=.seq its.toArray},toks:=t'}:=
 I.laid (λ_ _ q=>a8a _ q) (a6a _) ⟨hz,its,0,a,a9b _ rfl⟩
theorem Inv.fresh(I:Inv X pins σ H s):H s.heap.objs.size=none:=I.hok.fresh (a6a _)
def Inv.lstM(I:Inv X pins σ H s)(a:H l=some (.lst xs)):xs.length<=sizeLine/\∃ (its:List Value) (n:Nat),cA xs its/\xs.length=its.length/\s.heap.get? l=some {cls:=.type "list",data:=.seq its.toArray n}:=by
 obtain⟨z,its,n,r,e⟩:=I.hok l _ a;exact⟨z,its,n,r,r.length,e⟩
def aU2{n:Nat}(h:n<=sizeLine):Builtin.List.listTooLong n=false:=by
 unfold Builtin.List.listTooLong;exact a3y (by lia)
end
section
variable{X:Cx}
def vX:V->List V->Hp->VK->Prop:=λx vs H Q=>∃ l xs y,x=.ref l/\vs=[y]/\H l=some (.lst xs)/\xs.length < sizeLine/\Q .non (upd H l (.lst (xs++[y])))
def fB:MtM X "list.append" vX:=by
 intro pins s σ H x vs v us Q I b c h;obtain⟨l,xs,y,rfl,rfl,a,f,q⟩:=h;cases b;obtain⟨u,rfl,d⟩:=c.one;obtain⟨z,its,n,r,g,e⟩:=I.lstM a;refine a3R F.slot_list_append ⟨_,e,rfl⟩ F.entry_list_append (F.args_list_append_2 _ _) (PySem.list_append l its.toArray n u (by rw[a4b];lia)) ⟨e,?_⟩;refine⟨.non,_,I.lset (its':=its++[u]) a e (by simp) (r.append (.cons d .nil)) ?_,rfl,q⟩;rw[a9a,List.length_singleton];lia
def cI2:V->List V->Hp->VK->Prop:=λx vs H Q=>∃ l b xs zs,x=.ref l/\vs=[.ref b]/\H l=some (.lst xs)/\H b=some (.lst zs)/\xs.length+zs.length<=sizeLine/\Q .non (upd H l (.lst (xs++zs)))
def cZ7:MtM X "list.extend" cI2:=by
 intro pins s σ H x vs v us Q I g i h;obtain⟨l,b,xs,t,rfl,rfl,f,j,w,q⟩:=h;cases g;obtain⟨u,rfl,k⟩:=i.one;cases k;obtain⟨z,its,n,r,y,e⟩:=I.lstM f;obtain⟨A,a,n2,m,o,p⟩:=I.lstM j;have d:its.toArray.size+a.toArray.size<=sizeLine:=by rw[a4b,a4b];lia
 have c:¬ (!its.toArray.isEmpty&&Builtin.List.listTooLong (its.toArray.size+a.toArray.size))=true:=by
  rw[aU2 d,Bool.and_false];exact a3d
 refine a3R F.slot_list_extend ⟨_,e,rfl⟩ F.entry_list_extend (F.args_list_extend_2 _ _)
  (AutoSeq1.list_extend_list_list_0 l its.toArray n b a.toArray n2 c (by rw[a4b];lia) (by lia)) ⟨e,p,?_⟩
 refine⟨.non,_,I.lset (its':=its++a) f e (by simp) (r.append m) ?_,rfl,q⟩;rw[a9a];lia
def dW2:V->List V->Hp->VK->Prop:=λx vs H Q=>∃ l xs y,x=.ref l/\vs=[]/\H l=some (.lst xs)/\xs[xs.length-1]? = some y/\Q y (upd H l (.lst xs.dropLast))
def dS1:MtM X "list.pop" dW2:=by
 intro pins s σ H x vs v us Q I d f h;obtain⟨l,xs,y,rfl,rfl,c,g,q⟩:=h;cases d;have a:=f.zero;subst a;obtain⟨z,its,n,r,i,e⟩:=I.lstM c;obtain⟨u,j,k⟩:=r.get g;have b:its.toArray[its.toArray.size-1]? = some u:=by
  show its.toArray[its.length-1]? = some u;rw[← a0c,← i];exact j
 refine a3R F.slot_list_pop ⟨_,e,rfl⟩ F.entry_list_pop (F.args_list_pop_1 _) (MeetsSeq.list_pop_last l its.toArray n u b (by rw[a4b];lia)) ⟨e,?_⟩;refine⟨y,_,I.lset (its':=its.dropLast) c e ?_ r.dropLast ?_,k,q⟩;show its.toArray.eraseIdxIfInBounds (its.toArray.size-1)=its.dropLast.toArray;rw[a4b,List.eraseIdxIfInBounds_toArray,bA9];rw[List.length_dropLast];lia
def cC6:V->List V->Hp->VK->Prop:=λx vs H Q=>∃ l xs i k y,x=.ref l/\vs=[.int i]/\H l=some (.lst xs) /\ -(2 ^ 63)<=i/\i < 2 ^ 63/\seqIndex? i xs.length=some k/\xs[k]? = some y/\Q y (upd H l (.lst (xs.eraseIdx k)))
def aU3:MtM X "list.pop" cC6:=by
 intro pins s σ H x vs v us Q I c d h;obtain⟨l,xs,i,k,y,rfl,rfl,b,f,g,j,m,q⟩:=h;cases c;obtain⟨u,rfl,o⟩:=d.one;obtain⟨t,rfl⟩:=o;obtain⟨z,its,n,r,p,e⟩:=I.lstM b;obtain⟨w,A,a⟩:=r.get m;refine a3R F.slot_list_pop ⟨_,e,rfl⟩ F.entry_list_pop (F.args_list_pop_2 _ _)
  (MeetsSeq.list_pop_at l its.toArray n i t k w (fitsIndex_both f g) (by rw[a4b,← p];exact j) (by rw[← a0c];exact A) (by rw[a4b];lia)) ⟨e,?_⟩
 refine⟨y,_,I.lset (its':=its.eraseIdx k) b e ?_ (r.eraseIdx k) ?_,a,q⟩;show its.toArray.eraseIdxIfInBounds k=(its.eraseIdx k).toArray;rw[List.eraseIdxIfInBounds_toArray];have:=aF8 xs k;lia
def cC7:V->List V->Hp->VK->Prop:=λx vs H Q=>∃ l xs,x=.ref l/\vs=[]/\H l=some (.lst xs)/\Q .non (upd H l (.lst []))
def bT1:MtM X "list.clear" cC7:=by
 intro pins s σ H x vs v us Q I c d h;obtain⟨l,xs,rfl,rfl,b,q⟩:=h;cases c;have a:=d.zero;subst a;obtain⟨z,its,n,r,f,e⟩:=I.lstM b;refine a3R F.slot_list_clear ⟨_,e,rfl⟩ F.entry_list_clear (F.args_list_clear_1 _) (AutoSeq1.list_clear_list_0 l its.toArray n (by rw[a4b];lia)) ⟨e,?_⟩;exact⟨.non,_,I.lset (its':=[]) (ys:=[]) b e rfl .nil (a2d _),rfl,q⟩
def dW3:R2:=λx y H Q=>∃ l b xs zs,x=.ref l/\y=.ref b/\H l=some (.lst xs)/\H b=some (.lst zs)/\xs.length+zs.length<=sizeLine/\∀ p,H p=none->Q (.ref p) (upd H p (.lst (xs++zs)))
def cZ8:OpR X (binaryOp .Add) dW3:=by
 intro pins s σ H x y v u Q I c d h;obtain⟨l,b,xs,o,rfl,rfl,f,g,p,q⟩:=h;cases c;cases d;obtain⟨z,its,n,r,t,e⟩:=I.lstM f;obtain⟨w,a,n2,i,j,k⟩:=I.lstM g;refine PySem.P.add_list e k ?_ (by rw[a4b,a4b];lia);have m:its.toArray++a.toArray=(its++a).toArray:=by simp
 rw[m];exact⟨.ref _,_,I.lnew (t':=s.toks) (r.append i) (by rw[a9a];lia),rfl,q _ I.fresh⟩
end
section
variable{prog:Program}{w:World}{A:Around}{E:Value->Shared->Prop}{s:Shared}
set_option maxRecDepth 100000 in
end
section
variable{X:Cx}
end
end L2
namespace Att
open PySem PySem.W PySem.Calls PyProof.Rows
def vY{P:Params}{h:Heap}:∀ (ns:List Int) (vs:List Value),WellAll P h vs (ns.map WData.int)->IntsAre vs ns:=by
 intro ns
 induction ns with
 | nil=>
   intro vs w;rw[List.map_nil]at w;cases w;exact .nil
 | cons n ns c=>
   intro vs w;rw[a6d]at w;cases w with
   | cons a b=>
     cases a;exact .cons _ _ (c _ b)
def bH2{l:OpenLaw}{n:Nat}(hn:l.most=some n){P:Params}{h:Heap}{args:List WData}{vals:List Value}
  (b:l.row.toRowW.claim.pre args=true) (i:WellAll P h vals args) :
  ∃ a vs ns,vals=[Value.ref a]/\args=[WData.list (ns.map WData.int)]/\h.get? a=some {cls:=.type "list",data:=.seq vs.toArray}/\IntsAre vs ns/\ns.length<=n:=by
 have j:WShape.hasAll [] args [.list .int]=true:=(pre_splitW b).1;have k:l.pre.holds [] {args:=args}=true:=(pre_splitW b).2;obtain⟨d,r,rfl,m,o⟩:=hasAllW_cons j;obtain rfl:=hasAllW_nil o;obtain⟨xs,rfl,p⟩:=hasW_list m;obtain⟨ns,rfl⟩:=items_int p;have c:ns.length<=n:=by
  unfold OpenLaw.pre at k;have f:(WTm.not (.lt (.lit (.int (n:Int))) (.len (.arg 0)))).holds [] {args:=[.list (ns.map .int)]}=true:=by
   have f:=(holds_andW k).1;rw[hn]at f;exact f
  have g:=condW_of f (w_not (w_lt w_lit (w_len_list (w_arg rfl))));rw[a2a]at g;refine a3j λq=>?_;have s:(n:Int) < ((ns.length:Nat):Int):=by lia
  first
   | (rw[a3A s]at g;exact absurd g (by decide))
   | (simp at g;lia)
 cases i with
 | cons t u=>
   cases u;cases t with
   | list v e=>exact⟨_,_,ns,rfl,rfl,v,vY ns _ e,c⟩
def bH3(l:OpenLaw)(args:List WData):l.row.toRowW.claim.post args (.bool true) args=true:=
 postW_of (r:=l.row.toRowW) (X:=(true==true))
  (show WShape.has [] (.bool true) .bool=true by first | rfl | decide | simp[WShape.has,WShape.arms,WShape.armsAll])
  (show(WTm.eq .res (.lit (.bool true))).value [] {args:=args,res:=some (.bool true),after:=args}=some (.bool (true==true))from w_eq_bool (w_res rfl) w_lit) rfl
def attach_call{l:OpenLaw}{n:Nat}{q:Program}{c:List Str}{u:(Str->Option Value)->Heap->Prop}{v:World->Heap->Prop}{d:DefRec}
  (hn:l.most=some n) (m:d.params.defaults=[])
  (call:∀ (w:World) (s₀ b:Shared) (mg mb:Str->Option Value) (g:Addr) (o:Obj) (pm k doc:Value) (a:Addr) (vs:List Value) (ns:List Int),
   Ground q c [] u w s₀ mg mb b.heap->v w b.heap ->
   b.heap.get? g=some o->o.data=.func (docDef d.name d.params d.body d.scope pm k doc)->b.heap.CodeRec k d.name->mg d.name=some (.ref g) ->
   b.heap.get? a=some {cls:=.type "list",data:=.seq vs.toArray}->IntsAre vs ns->ns.length<=n->b.gens=#[] ->
   codeAny (model l.prog w) callerA (.call (.ref g) ⟨[.ref a],[]⟩) (λr s'=>r=.ok (.ret (.bool true))/\OldK b.heap s'.heap/\s'.os=b.os/\AllBare s'.gens) b) :
  WalkO q c u v l.row.toRowW d [] (λf vs=>PySem.call f vs):=by
 intro w s₀ b mg mb G Y g o pm k doc z kV A hd p x s B args vals as h y C t D;obtain rfl:z=.none:=Dflts.none x m;obtain rfl:kV=.none:=Dflts.noKw x;obtain⟨a,vs,ns,rfl,rfl,i,e,j⟩:=bH2 hn h t;refine enter_call (a3T (call w s₀ b mg mb g o pm k doc a vs ns G Y A (fd_plain hd) p s i e j B) λr s' E=>?_);obtain⟨rfl,F,H,I⟩:=E;exact⟨.inl ⟨.bool true,.bool true,[],rfl,λ_=>rfl,.bool true,bH3 l _,λ_=>⟨List.Pairwise.nil,λ_ hm=>(nomatch hm)⟩⟩,F,H,I⟩
section
variable{prog:Program}{w:World}{A:Around}{E:Value->Shared->Prop}{s:Shared}{K:Frag}
end
end Att
namespace L2
open PySem PySem.Spec PyProof.Rows
theorem aF9:∀ {vs:List Value} {ns:List Int},IntsAre vs ns->cA (ns.map V.int) vs
 | _,_,.nil=>.nil
 | _,_,.cons n t h=>.cons ⟨t,rfl⟩ (aF9 h)
def cZ9(H:Hp):Prop:=∀ b,H b=none\/∃ o xs,H b=some (.frz o (.lst xs))
def bT2{P:Program}{w:World}{K:W.Frag}{mg mb:Str->Option Value}{CX:CXT}{k:Nat}{G a:Addr}{fd:FuncData}{x:Str}{sp:Sp}{c:Shared}{vs:List Value}{ns:List Int}
  (R:K.In c.heap) (t:c.heap.Ns mainGlobals mg) (hb:c.heap.Ns builtinsNs mb) (I:∀ x:Str,x≠"__name__"->mb x=bootBuiltins x) (y:c.heap.NoLimit) (Z:c.gens=#[])
  (ha:c.heap.get? a=some {cls:=.type "list",data:=.seq vs.toArray}) (hi:IntsAre vs ns) (S:ns.length<=sizeLine) (hr:Room k callerA)
  (F:∀ base:Heap,K.In base->base.Ns mainGlobals mg->FnOk P w K mg base CX k G fd [x] sp) (l:∀ (s:Shared) (u:Value),BindsTo s fd ⟨[u],[]⟩ [(x,u)])
  (J:∀ H:Hp,cZ9 H->SqL K H a (ns.map V.int)->sp [.ref a] H (λv _=>v=.bl true) λ_ _ _=>False)
  (L:∀ H e s',CX [] H c (λ_ _ _=>False) e s'->False) :
  codeAny (model P w) callerA (.call (.ref G) ⟨[.ref a],[]⟩) (λr s'=>r=.ok (.ret (.bool true))/\OldK c.heap s'.heap/\s'.os=c.os/\AllBare s'.gens) c:=by
 have T:=aF9 hi;have A:=hi.length
 -- from an abstract heap in M nothing but B g may be tracked
 have j:∀ H:Hp,cZ9 H->SqL K H a (ns.map V.int)->HOk P w H c.heap->(∀ b,H b≠none->b=a)->(H a≠none->K.lookup a=none) ->
   codeAny (model P w) callerA (.call (.ref G) ⟨[.ref a],[]⟩) (λr s'=>r=.ok (.ret (.bool true))/\OldK c.heap s'.heap/\s'.os=c.os/\AllBare s'.gens) c:=by
  intro H U hS hok X hK;have f:∀ {b:Addr} {o:Obj},c.heap.get? b=some o->H b=none->(bS2 c.heap H).get? b=some o:=λe n=>bS3 e n;have N:∀ {b:Addr} {o:Obj} {es:Array DictEntry} {ep:Nat},c.heap.get? b=some o->o.data=.dict es ep->H b=none:=λ{b o es ep} e d=>by
   cases q:H b with
   | none=>rfl
   | some u=>
     have O:b=a:=X b (by rw[q];simp);subst O;rw[ha]at e;cases e;have d':Data.seq vs.toArray _=Data.dict es ep:=d;cases d'
  have i:∀ {b:Addr} {m:Str->Option Value},c.heap.Ns b m->(bS2 c.heap H).Ns b m:=λ{b m} ⟨o,es,ep,e,d,r⟩=>⟨o,es,ep,f e (N e d),d,r⟩;have C:K.In (bS2 c.heap H):=λb o e=>f (R b o e) (by
   cases q:H b with
   | none=>rfl
   | some u=>
     have O:b=a:=X b (by rw[q];simp);subst O;rw[hK (by rw[q];simp)]at e;cases e)
  have hM:Mod K mg (bS2 c.heap H):=⟨C,i t,⟨mb,i hb,I⟩,let ⟨mc,h1,h2⟩:=y;⟨mc,i h1,h2⟩⟩;have e0:Env0 P w K mg (bS2 c.heap H) callerA [] c H:=⟨rfl,hM,λb o e=>cH1 e,Nat.le_of_eq (bF1 _ _),trivial,λb hb=>absurd (show b∈([]:List Addr)from hb) (by simp),hok,.of_eq Z⟩;refine a3T ((F _ C (i t)).run callerA [] c H ⟨[.ref a],[]⟩ [.ref a] [.ref a] _ _ hr e0 (l c (.ref a)) (.cons rfl .nil) (J H U hS)) λr s' h=>?_;cases r with
  | error e=>exact(L H e s' h).elim
  | ok fl=>
    cases fl with
    | next=>exact False.elim h
    | brk=>exact False.elim h
    | cont=>exact False.elim h
    | ret u=>
      obtain⟨v,H',os,bare,un,D,r',q⟩:=h;have q':v=.bl true:=q;subst q';obtain rfl:u=Value.bool true:=r';refine⟨rfl,OldK.of_keep λb o e=>?_,os,bare⟩;cases q:H b with
      | none=>exact un.keep b o e q (by intro z;exact absurd (show b∈([]:List Addr)from z) (by simp)) (by simp)
      | some u=>
        rcases U b with z | ⟨ob,xs,z⟩;rw[q]at z;cases z;have z2:=un.frzs b ob _ z;obtain⟨Y,_⟩:=hok b _ z;obtain⟨e2,_⟩:=D b _ z2;rw[e]at Y;cases Y;exact e2
 cases Q:K.lookup a with
 | some o=>
   -- B g is one of B p own objects
   have e:=R a o Q;rw[ha]at e;cases e;refine j (λ_=>none) (λ_=>.inl rfl) (.inr ⟨_,vs.toArray,_,Q,rfl,rfl,rfl,by rw[a4b,A];exact S,by simpa using T⟩) (λb u z=>by have E:(none:Option HO)=some u:=z;cases E) (λb z=>absurd rfl z) λz=>absurd rfl z
 | none=>
   refine j (λb=>if b=a then some (.frz {cls:=.type "list",data:=.seq vs.toArray} (.lst (ns.map V.int)))else none) (λb=>?_) (.inl (.inr ⟨{cls:=.type "list",data:=.seq vs.toArray},a3s rfl⟩)) (λb u z=>?_) (λb z=>?_) λ_=>Q;by_cases hb:b=a;exact .inr ⟨_,_,a3s hb⟩;exact .inl (a3u hb);by_cases hb:b=a;have E:=(a3s hb).symm.trans z;cases E;subst hb;exact⟨ha,by rw[a2a];exact S,vs,_,T,ha⟩;have E:=(a3u hb).symm.trans z;cases E;by_cases hb:b=a;exact hb;exact absurd (a3u hb) z
def cI3{l:W.OpenLaw}{n k:Nat}{q:Program}{i:List Str}{E:(Str->Option Value)->Heap->Prop}{C:World->Heap->Prop}{d:DefRec}{K:Params->W.Frag}{CX:World->CXT}{sp:World->Sp}{x:Str}
  (hn:l.most=some n) (t:n<=sizeLine) (y:d.params.defaults=[]) (I:Room k callerA)
  (J:∀ (w:World) (h:Heap),C w h->(K w.params).In h)
  (F:∀ (w:World) (mg:Str->Option Value) (r:Addr) (h:Heap),(K w.params).In h->h.Ns mainGlobals mg->mg d.name=some (.ref r) ->
   ∃ fd:FuncData,(∀ (s:Shared) (u:Value),BindsTo s fd ⟨[u],[]⟩ [(x,u)]) /\
     ∀ base:Heap,(K w.params).In base->base.Ns mainGlobals mg->FnOk l.prog w (K w.params) mg base (CX w) k r fd [x] (sp w))
  (z:∀ (w:World) (H:Hp) (a:Addr) (ns:List Int),ns.length<=n->cZ9 H->SqL (K w.params) H a (ns.map V.int)->sp w [.ref a] H (λv _=>v=.bl true) λ_ _ _=>False)
  (A:∀ (w:World) (H:Hp) (s:Shared) (e:Value) (s':Shared),CX w [] H s (λ_ _ _=>False) e s'->False) :
  W.WalkO q i E C l.row.toRowW d [] (λf vs=>PySem.call f vs):=by
 refine Att.attach_call hn y λw s₀ m mg mb r o pm Q doc a vs ns G Y R hd L B p j c M=>?_;have D:=J w _ Y;obtain⟨fd,hb,N⟩:=F w mg r _ D G.T.g B;exact bT2 D G.T.g G.T.b G.T.builtins G.T.nolimit M p j (a3b c t) I N hb (λH O P=>z w H a ns c O P) λH e s'=>A w H m e s'
noncomputable def aO0(s:Stmt):Arguments:=match s with
 | .FunctionDef _ a _ _ _ _ _ _ _ _=>a
 | _=>{posonlyargs:=[],args:=[],vararg:=none,kwonlyargs:=[],kw_defaults:=[],kwarg:=none,defaults:=[]}
noncomputable def oN(s:Stmt):List Stmt:=match s with
 | .FunctionDef _ _ b _ _ _ _ _ _ _=>b
 | _=>[]
noncomputable def aQ(s:Stmt):Scope:=match s with
 | .FunctionDef _ _ _ _ _ _ sc _ _ _=>sc
 | _=>{kind:=.function,names:=[],isGenerator:=false,isCoroutine:=false}
abbrev CX0:CXT:=λ_ _ _ _ _ _=>False
abbrev E0:XK:=λ_ _ _=>False
def bE{X:Cx}:bG3 CX0 X E0:=λ_ _ _ _ _ _ _ h=>h.elim
structure Fun(K:W.Frag)(x qual:Str)(st:Stmt)(f:Addr)(fd:FuncData):Prop where
 ex:∃ (oc:Value) (od:Option Addr) (kV doc pm:Value) (an:Option Addr) (cdv ct:Value) (osl:Array (Option Value)),
  fd=W.fnOf x qual (aO0 st) (oN st) (aQ st) .none kV doc pm an cdv ct/\K.lookup f=some ⟨oc,od,.func fd,osl⟩/\W.codeIn K cdv qual=true
 kp:W.keepIn K (.ref f)=true
section
variable{P:Program}{w:World}{K:W.Frag}{mg:Str->Option Value}{base:Heap}
theorem Fun.ok{x qual:Str}{st:Stmt}{f:Addr}{fd:FuncData}{N ps:List Str}{k:Nat}{sp:Sp}(F:Fun K x qual st f fd)(S:FnScope N ps (aQ st))(len:∀ vs H Q E,sp vs H Q E->vs.length=ps.length)
  (a:∀ (cdv:Value) (A:Around) (outer:List Env) (s:Shared) (H:Hp) (vs:List V) (Q:VK) (E:XK),Room k (A.deeper (envOfC qual (aQ st) s.heap.objs.size f cdv))->sp vs H Q E ->
   ∃ t,PSs (cC3 CX0 P w K mg base N qual (aQ st) f cdv A outer s H E).nox (oN st) t/\t {nx:=λ_ H'=>Q .non H',rt:=Q} (iH N vs) H):FnOk P w K mg base CX0 (k+1) f fd ps sp:=by
 obtain⟨oc,od,kV,doc,pm,an,cdv,ct,osl,rfl,lk,b⟩:=F.ex;refine dN1 lk b S len λA outer s H vs Q E d c=>?_;obtain⟨t,h,q⟩:=a cdv A outer s H vs Q E d c;exact⟨t,h.nox,q⟩
def Fun.binds{x qual:Str}{st:Stmt}{f:Addr}{fd:FuncData}{ps:List Str}(F:Fun K x qual st f fd)
  (h:∀ (kV doc pm:Value) (an:Option Addr) (cdv ct:Value) (us:List Value),us.length=ps.length->bindArgs (W.fnOf x qual (aO0 st) (oN st) (aQ st) .none kV doc pm an cdv ct) ⟨us,[]⟩=pure (ps.zip us)):eB K fd ps []:=by
 obtain⟨oc,od,kV,doc,pm,an,cdv,ct,osl,rfl,lk,a⟩:=F.ex;exact .all (h kV doc pm an cdv ct)
end
def dA0{A:Around}{k:Nat}(a:Room k A):A.units+1 < cLine:=a1j (Nat.add_le_add_left (by decide:1<=64) _) a.units
section
variable{X:Cx}
def pv(i:Nat){x:Str}{pos:Pos}(b:X.N[i]? = some x:=by rfl)(c:Vis X.env.scope x:=by first | exact Or.inl rfl | exact Or.inr (Or.inl rfl) | exact Or.inr (Or.inr rfl))(hd:(x==("__debug__":Str))=false:=by decide)
  (a:(x==("__classdict__":Str))=false:=by decide):PE X (.Name x pos) (aT6 i):=cW6 b c hd a
end
def dK8{c A B:Prop}[Decidable c](a:c->A)(b:¬ c->B):if c then A else B:=by
 by_cases h:c;rw[a3s h];exact a h;rw[a3u h];exact b h
def zZ(H H':Hp):Prop:=∀ b o,H b=some o->H' b=some o
def zZ.refl(H:Hp):zZ H H:=λ_ _ h=>h
def bB0{scope:Scope}{env:Env}(h:∀ y∈scope.names,y.2=.free->∃ c,env.cells.lookup y.1=some c) :
  ∃ cl:List (Str×Addr),closureFor scope env=pure cl/\(∀ x c,cl.lookup x=some c->env.cells.lookup x=some c)/\∀ y∈scope.names,y.2=.free->∃ c,cl.lookup y.1=some c:=by
 have p:∀ (l:List (Str×NameKind)) (acc:List (Str×Addr)),(∀ y∈l,y.2=.free->∃ c,env.cells.lookup y.1=some c)->(∀ x c,acc.lookup x=some c->env.cells.lookup x=some c) ->
   ∃ cl:List (Str×Addr),((forIn l acc λ(x:Str×NameKind) (r:List (Str×Addr))=>if(x.2==NameKind.free)=true then do let a ← cellOf env x.1;pure (ForInStep.yield ((x.1,a)::r))else pure (ForInStep.yield r)):Sem (List (Str×Addr)))=pure cl /\
     (∀ x c,cl.lookup x=some c->env.cells.lookup x=some c)/\(∀ x c,acc.lookup x=some c->∃ d,cl.lookup x=some d)/\∀ y∈l,y.2=.free->∃ c,cl.lookup y.1=some c:=by
  intro l
  induction l with
  | nil=>intro acc _ ha;exact⟨acc,rfl,ha,λx c e=>⟨c,e⟩,λ_ b=>nomatch b⟩
  | cons y r t=>
    intro acc q ha;obtain⟨n,k⟩:=y;rw[List.forIn_cons];by_cases i:(k==NameKind.free)=true
    ·have s:k=.free:=by simpa using i
     obtain⟨c,u⟩:=q (n,k) a3a s;have v:cellOf env n=pure c:=by unfold cellOf;rw[u]
     obtain⟨cl,e,f,j,g⟩:=t ((n,c)::acc) (λy b=>q y (a5a _ b)) (λx d e=>by
      rw[a0j]at e;split at e
      ·rename_i m;have:x=n:=by simpa using m
       cases e;rw[this];exact u
      ·exact ha x d e)
     have has:∃ d,cl.lookup n=some d:=j n c (by rw[a0j];simp);refine⟨cl,?_,f,λx d e=>?_,λy b o=>?_⟩;simp only[i,if_true,v];exact e
     ·by_cases m:x=n;subst m;exact has;exact j x d (by rw[a0j];have:(x==n)=false:=by simpa using m
                                                       rw[this];exact e)
     ·rcases a1c.mp b with rfl | b;exact has;exact g y b o
    ·obtain⟨cl,e,f,j,g⟩:=t acc (λy b=>q y (a5a _ b)) ha;refine⟨cl,?_,f,j,λy b o=>?_⟩;simp only[i];exact e;rcases a1c.mp b with rfl | b;exact absurd (by simpa using o) i;exact g y b o
 obtain⟨cl,e,f,_,g⟩:=p scope.names [] h (λx c e=>nomatch e);refine⟨cl,?_,f,g⟩;unfold closureFor;simp only[bind_pure];exact e
def jL{a:Type}{x n:Str}{v:a}{r:List (Str×a)}(h:(x==n)=true):List.lookup x ((n,v)::r)=some v:=by rw[a0j,h]
def fC{a:Type}{x n:Str}{v:a}{r:List (Str×a)}(h:(x==n)=false):List.lookup x ((n,v)::r)=List.lookup x r:=by rw[a0j,h]
def cC8{scope:Scope}{env:Env}{x:Str}(h:(relabel scope env).names.lookup x=some .cell\/(relabel scope env).names.lookup x=some .free)(d:∀ y∈scope.names,y.2≠.cell) :
  (x,NameKind.free)∈scope.names:=by
 unfold relabel at h;dsimp only at h;revert h d;generalize scope.names=l;intro h d
 induction l with
 | nil=>rcases h with h | h<;>cases h
 | cons y r i=>
   obtain⟨n,k⟩:=y;rw[a6d]at h;dsimp only at h;have c:=λh=>i h λy j=>d y (a5a _ j);have f:k≠.cell:=d (n,k) a3a;by_cases e:(k==NameKind.free&&env.scope.kind==.function&&env.kindOf n==some .cell)=true
   ·have g:k=.free:=by
     simp only[Bool.and_eq_true,beq_iff_eq]at e;exact e.1.1
    rw[a3s e]at h;cases b:x==n with
    | true=>
      have a:x=n:=by simpa using b
      subst a g;exact a3a
    | false=>
      rw[fC b]at h;exact a5a _ (c h)
   ·rw[a3u e]at h;cases b:x==n with
    | true=>
      have a:x=n:=by simpa using b
      rw[jL b]at h;subst a;rcases h with h | h;exact absurd (a7a h) f
      ·rw[a7a h];exact a3a
    | false=>
      rw[fC b]at h;exact a5a _ (c h)
def nJ{scope:Scope}{env:Env}{x:Str}(h:(relabel scope env).names.lookup x=some .cell\/(relabel scope env).names.lookup x=some .free) :
  (x,NameKind.free)∈scope.names\/scope.names.lookup x=some .cell:=by
 unfold relabel at h;dsimp only at h;revert h;generalize scope.names=l;intro h
 induction l with
 | nil=>rcases h with h | h<;>cases h
 | cons y r e=>
   obtain⟨n,k⟩:=y;rw[a6d]at h;dsimp only at h;by_cases c:(k==NameKind.free&&env.scope.kind==.function&&env.kindOf n==some .cell)=true
   ·have d:k=.free:=by
     simp only[Bool.and_eq_true,beq_iff_eq]at c;exact c.1.1
    rw[a3s c]at h;cases a:x==n with
    | true=>
      have b:x=n:=by simpa using a
      subst b d;exact .inl a3a
    | false=>
      rw[fC a]at h;rcases e h with z | z;exact .inl (a5a _ z)
      ·exact .inr (by rw[fC a];exact z)
   ·rw[a3u c]at h;cases a:x==n with
    | true=>
      have b:x=n:=by simpa using a
      rw[jL a]at h;subst b;rcases h with h | h;exact .inr (by rw[jL a];exact h)
      ·rw[a7a h];exact .inl a3a
    | false=>
      rw[fC a]at h;rcases e h with z | z;exact .inl (a5a _ z);exact .inr (by rw[fC a];exact z)
theorem dB:∀ (names:List (Str×NameKind)) (n:Nat) (acc:List (Str×Addr)),cellsFrom n names acc=cellsFrom n names []++acc
 | [],n,acc=>rfl
 | (x,k)::r,n,acc=>by
   unfold cellsFrom;split;rw[dB r (n+1) ((x,n)::acc),dB r (n+1) [(x,n)],List.append_assoc];rfl;exact dB r n acc
theorem iV:∀ (names:List (Str×NameKind)) (n:Nat) (x:Str) (c:Addr),(x,c)∈cellsFrom n names []->(x,NameKind.cell)∈names
 | [],n,x,c,h=>nomatch h
 | (y,k)::r,n,x,c,h=>by
   unfold cellsFrom at h;split at h
   ·rename_i b;have a:k=.cell:=by simpa using b
    rw[dB]at h;rcases a3c.mp h with z | z;exact a5a _ (iV r _ x c z);have e:=a1b.mp z;cases e;rw[a];exact a3a
   ·exact a5a _ (iV r _ x c h)
theorem eC:∀ (names:List (Str×NameKind)) (n:Nat) (x:Str),(x,NameKind.cell)∈names->∃ c,(cellsFrom n names []).lookup x=some c
 | [],n,x,h=>nomatch h
 | (y,k)::r,n,x,h=>by
   have a:∀ m,(x,NameKind.cell)∈r->∃ c,(cellsFrom m r []).lookup x=some c:=λm hm=>eC r m x hm;unfold cellsFrom;split
   ·rename_i b;rw[dB,List.lookup_append];rcases a1c.mp h with z | z
    ·cases z;cases e:(cellsFrom (n+1) r []).lookup y with
     | some c=>exact⟨c,rfl⟩
     | none=>exact⟨n,by simp⟩
    ·obtain⟨c,d⟩:=a (n+1) z;exact⟨c,by rw[d];rfl⟩
   ·rename_i b;rcases a1c.mp h with z | z;cases z;exact absurd rfl b;exact a n z
def cI4{M:Model}{A:Around}{E:Value->Shared->Prop}{s:Shared}{scope:Scope}{globals:Addr}{cl:List (Str×Addr)}{qual:Str}{env:Env}{Q:Env->Shared->Prop}
  (c:Q (newEnv scope s.heap.objs.size globals (cellsFrom (s.heap.objs.size+1) scope.names cl) qual none .none (some env) builtinsNs) {s with heap:=pushCells (s.heap.push {cls:=.type "dict",data:=.dict #[]}) scope.names}) :
  wpAny M A (newFunctionEnv scope globals cl [] qual none .none (some env)) Q E s:=by
 simp only[newFunctionEnv,Option.isSome_some,if_true];refine a3r (wpAny_alloc ?_);refine a3r (wpAny_layCells _ (λb kind cells=>by cases a:kind==NameKind.cell<;>simp[a]) _ _ _ _ ?_);rw[show({s with heap:=s.heap.push {cls:=.type "dict",data:=.dict #[]}}:Shared).heap.objs.size=s.heap.objs.size+1 from Heap.size_push ..];refine a3r ?_;rw[List.forIn_nil];exact a3t (a3t c)
def aA0{scope:Scope}{env:Env}{x:Str}(h:(relabel scope env).names.lookup x=some .local):scope.names.lookup x=some .local:=by
 unfold relabel at h;dsimp only at h;revert h;generalize scope.names=l;intro h
 induction l with
 | nil=>cases h
 | cons y r b=>
   obtain⟨n,k⟩:=y;rw[a6d]at h;dsimp only at h;by_cases c:(k==NameKind.free&&env.scope.kind==.function&&env.kindOf n==some .cell)=true
   ·rw[a3s c]at h;cases a:x==n with
    | true=>rw[jL a]at h;cases h
    | false=>rw[fC a]at h ⊢;exact b h
   ·rw[a3u c]at h;cases a:x==n with
    | true=>rw[jL a]at h ⊢;exact h
    | false=>rw[fC a]at h ⊢;exact b h
def Inv.adopt{X:Cx}{pins:List (Addr×Obj)}{σ:St}{H:Hp}{s:Shared}{a:Addr}{o:HO}(I:Inv X pins σ H s)(hn:H a=none)(g:X.s₀.heap.objs.size<=a)(h:a≠X.env.locals)
  (i:∀ x c,X.env.cells.lookup x=some c->c≠a) (j:∀ p∈X.pn++pins,p.1≠a) (d:dJ X.prog X.w (upd H a o) s.heap a o):Inv X pins σ (upd H a o) s:=by
 have ne:∀ b u,H b=some u->b≠a:=λb u e=>aL e hn;refine⟨I.ok,I.os,I.bare,⟨I.base.keep,I.base.slot,λb ob q n k=>?_,I.base.there,λb xs q=>?_,λb ob u q=>?_,λb ps q=>?_⟩,I.loc,I.cell,?_,λx c e=>?_,λp f=>?_,λb u e=>?_,I.len⟩;rw[aG (a0e (a4c (a8b q) g))];exact I.base.free b ob q n k;have:=I.base.tups b xs q;rw[aG (ne b _ this)];exact this;have:=I.base.frzs b ob u q;rw[aG (ne b _ this)];exact this;obtain⟨m,this⟩:=I.base.tbls b ps q;exact⟨m,by rw[aG (ne b _ this)];exact this⟩;rw[aG (a5d h)];exact I.free;rw[aG (i x c e)];exact I.freeC x c e;obtain⟨e,n,r⟩:=I.pin p f;exact⟨e,by rw[aG (j p f)];exact n,r⟩;by_cases hb:b=a;subst hb;rw[aJ]at e;cases e;exact d;rw[aG hb]at e;exact(I.hok b u e).stay (λc v _ q=>q) (λc q=>by rw[aG (ne c _ q)];exact q) λc xs q=>by rw[aG (ne c _ q)];exact q
def aO1{prog:Program}{w:World}{A:Around}{R:Result->Shared->Prop}{s:Shared}{elt a iter:Expr}{l:List Expr}{scope:Scope}{pos:Pos}{it acc:Value}{env:Env}(I:Nat->Shared->Prop)
  (turn:∀ n s,I n s->wpAny (model prog w) A (pyNext it) (λr e=>match r with
   | none=>R (.ok .next) e
   | some v=>wpAny (model prog w) A (letOwnedTupleGo a it v) (λ_ f=>wpAny (model prog w) A (assign a env v) (λ_ i=>
     wpAny (model prog w) A (forIn l true λc r=>if r=true then do let ok ← isTrue c env (eval c env);pure (ForInStep.yield ok)else pure (ForInStep.yield r)) (λok g=>
      if ok=true then wpAny (model prog w) A (eval elt env) (λx j=>
       wpAny (model prog w) A (call (.builtin "list.append") [acc,x]) (λ_ k=>∃ m,m < n/\I m k) (λ_ _=>False) j) (λ_ _=>False) g
      else ∃ m,m < n/\I m g) (λ_ _=>False) i) (λ_ _=>False) f) (λ_ _=>False) e) (λ_ _=>False) s)
  (n:Nat) (h:I n s) :
  codeAny (model prog w) A (.compLoop (.ListComp elt [⟨a,iter,l,0⟩] scope pos) 0 it acc env) R s:=by
 refine codeAny_loop rfl I (λn s t=>?_) n h;show wpAny _ A ((compTurn (.ListComp elt [⟨a,iter,l,0⟩] scope pos) 0 it acc env).onRaise (λx=>do noteFrame x env;theTreesLotGoes x)) _ _ s;refine wpAny_noted ?_;rw[compTurn_list];refine a3r (a3W (a3r (a3F (turn n s t) (λr e d=>?_) λ_ _ h'=>h'.elim)));cases r with
 | none=>exact a3t d
 | some v=>
   refine a3r (a3F d (λ_ f d=>?_) λ_ _ h'=>h'.elim);refine a3r (a3F d (λ_ i o=>a3r (a3F o (λok g b=>?_) λ_ _ h'=>h'.elim)) λ_ _ h'=>h'.elim);cases ok with
   | true=>
     simp only[if_true]at b ⊢;refine a3r (a3r (a3F b (λx j p=>a3r (a3F p (λ_ k q=>a3t (a3t ⟨rfl,q⟩)) λ_ _ h'=>h'.elim)) λ_ _ h'=>h'.elim))
   | false=>
     simp only[Bool.false_eq_true,if_false]at b ⊢
     first
      | exact a3r (a3t (a3t ⟨rfl,b⟩))
      | exact a3t ⟨rfl,b⟩
noncomputable abbrev cxC(X:Cx)(scope:Scope)(cl:List (Str×Addr))(ex:List Addr)(s:Shared)(H:Hp):Cx:=
 {X with s₀:=s,H₀:=H,env:=compEnvC scope cl s.heap.objs.size X.env,outer:=X.stack,ex:=ex,fn:=λx=>scope.names.lookup x==some .cell,xe:=λ_ _=>False}
noncomputable def blank(own:List Nat)(σ:St):St:=own.foldl (λσ i=>σ.set i none) σ
theorem pF:∀ (own:List Nat) (σ:St),(blank own σ).length=σ.length
 | [],_=>rfl
 | i::r,σ=>(pF r (σ.set i none)).trans (by simp)
theorem oO:∀ (own:List Nat) (σ:St) (i:Nat) (v:V),(blank own σ)[i]? = some (some v)->i∉own/\σ[i]? = some (some v)
 | [],_,_,_,h=>⟨by simp,h⟩
 | j::r,σ,i,v,h=>by
   obtain⟨b,a⟩:=oO r (σ.set j none) i v h;by_cases e:i=j;subst e;rw[List.getElem?_set]at a;simp at a;rw[a4a (a5d e)]at a;exact⟨by simp[e,b],a⟩
def cI5(own:List Nat)(g:TG):Prop:=∀ x σ H Q,g x σ H Q->g x σ H λσ' H'=>Q σ' H'/\σ'.length=σ.length/\∀ i,i∉own->σ'[i]? = σ[i]?
def bT3(own:List Nat)(g:TGs):Prop:=∀ x σ H Q,g x σ H Q->g x σ H λσ' H'=>Q σ' H'/\σ'.length=σ.length/\∀ i,i∉own->σ'[i]? = σ[i]?
def bB{own:List Nat}{i:Nat}(h:i∈own):cI5 own (nD i):=λx σ H Q q=>
 ⟨q,by simp,λj hj=>List.getElem?_set_ne (λe:i=j=>hj (by rw[← e];exact h))⟩
def bH4{own:List Nat}:bT3 own dM4:=λx σ H Q q=>⟨q.1,q.2,rfl,λ_ _=>rfl⟩
def yJ{own:List Nat}{t:TG}{u:TGs}(k:cI5 own t)(l:bT3 own u)(mt:∀ x σ H Q h,(∀ a b,Q a b->h a b)->t x σ H Q->t x σ H h):bT3 own (cH6 t u):=by
 intro x σ H Q q;obtain⟨v,r,e,q⟩:=q;refine⟨v,r,e,mt _ _ _ _ _ (λd m g=>?_) (k _ _ _ _ q)⟩;obtain⟨g,l1,j⟩:=g;have:=l _ _ _ _ g;revert this;exact λthis=>by
  have f:u r d m (λσ' H'=>Q σ' H'/\σ'.length=d.length/\∀ i,i∉own->σ'[i]? = d[i]?):=this;rw[l1]at f;have n:(λ(σ':St) H'=>Q σ' H'/\σ'.length=σ.length/\∀ i,i∉own->σ'[i]? = d[i]?)=(λ(σ':St) H'=>Q σ' H'/\σ'.length=σ.length/\∀ i,i∉own->σ'[i]? = σ[i]?):=by
   funext σ' H';apply propext;constructor;rintro⟨a,b,c⟩;exact⟨a,b,λi hi=>(c i hi).trans (j i hi)⟩;rintro⟨a,b,c⟩;exact⟨a,b,λi hi=>(c i hi).trans (j i hi).symm⟩
  rw[← n];exact f
def yK{i:Nat}:∀ x σ H (Q c:St->Hp->Prop),(∀ a b,Q a b->c a b)->nD i x σ H Q->nD i x σ H c:=λ_ _ _ _ _ f q=>f _ _ q
def cC9(X:Cx)(a:List Expr)(t:TT):Prop:=
 ∀ (pins:List (Addr×Obj)) (s:Shared) (σ:St) (H:Hp) (Q:Bool->Hp->Prop),Inv X pins σ H s->t σ H Q ->
   wpAny (model X.prog X.w) X.A (forIn a true λc r=>if r=true then do let ok ← isTrue c X.env (eval c X.env);pure (ForInStep.yield ok)else pure (ForInStep.yield r)) (TP X pins σ Q) X.xe s
def dA1:TT:=λ_ H Q=>Q true H
def aA1{X:Cx}:cC9 X [] dA1:=λ_ _ _ H _ I h=>wpAny_tests_nil ⟨H,I,h⟩
def bT4{X:Cx}{c:Expr}{t:TT}(h:PT X c t):cC9 X [c] t:=λpins s σ H Q I q=>wpAny_tests_one (h pins s σ H Q I q)
structure CompScope(X:Cx)(scope:Scope)(own:List Nat):Prop where
 kind:scope.kind=.function
 cells:∀ y∈scope.names,y.2=.cell->scope.names.lookup y.1=some .cell
 names:∀ y∈scope.names,y.2=.local->scope.names.lookup y.1=some .local
 free:∀ y∈scope.names,y.2=.free->X.env.kindOf y.1=some .cell\/X.env.kindOf y.1=some .free
 own:∀ i x,X.N[i]? = some x->(scope.names.lookup x=some .local\/scope.names.lookup x=some .cell)->i∈own
 calm:X.calm=true
def cD0(own:List Nat)(d:TI)(g:TG)(e:TT)(f:TE)(σ:St)(H:Hp)(F:List V->Hp->Prop):Prop:=
 d σ H λJ h=>∃ W:Nat->Nat->List V->Hp->Prop,(∃ m,W 0 m [] h)/\∀ i m ys H,W i m ys H->ys.length<=sizeLine /\
  ((J.stop i H/\F ys H)\/(J.go i H/\∀ x H',J.yld i H x H'->g x (blank own σ) H' λa j=>e a j λb c=>
    if b=true then f a c λv k=>∃ m',m' < m/\W (i+1) m' (ys++[v]) k else ∃ m',m' < m/\W (i+1) m' ys c))
def bB1(own:List Nat)(a:TI)(g:TG)(b:TT)(c:TE):TE:=λσ H Q=>cD0 own a g b c σ H λys H'=>∀ p,H' p=none->Q (.ref p) (upd H' p (.lst ys))
structure Stray(X:Cx)(pins:List (Addr×Obj))(H:Hp)(b:Addr):Prop where
 un:H b=none
 loc:b≠X.env.locals
 young:X.s₀.heap.objs.size<=b
 cell:∀ x c,X.env.cells.lookup x=some c->c≠b
 pin:∀ p∈X.pn++pins,p.1≠b
def Inv.stray{X:Cx}{pins:List (Addr×Obj)}{σ:St}{H H':Hp}{s:Shared}{b:Addr}(I:Inv X pins σ H s)(hb:s.heap.objs.size<=b)(hn:H' b=none):Stray X pins H' b:=by
 obtain⟨a,c,f,g,d,e⟩:=I.fpOk hb hn;exact⟨a,c,a3b I.sz hb,d,e⟩
set_option maxHeartbeats 8000000 in
def bB2{X:Cx}{tg iter elt:Expr}{ifs:List Expr}{scope:Scope}{pos:Pos}{own:List Nat}{g:TG}{tt:TT}{te:TE}{use:Option (Value->Sem Unit)}{Qf:Value->Shared->Prop}
  (S:CompScope X scope own) (hg:∀ cl ex s H,PG (cxC X scope cl ex s H) tg g) (hG:cI5 own g)
  (ht:∀ cl ex s H,cC9 (cxC X scope cl ex s H) ifs tt) (he:∀ cl ex s H,PE (cxC X scope cl ex s H) elt te)
  {pins:List (Addr×Obj)} {a:Shared} {σ:St} {h:Hp} {F:List V->Hp->Prop} {cl:List (Str×Addr)} {J:It} {fp:List Addr} {it D:Addr} {tn:Nat->Heap->Prop} {h₁:Heap} {mC:Str->Option Value} {tk m0:Nat} {W:Nat->Nat->List V->Hp->Prop}
  (l:Inv X pins σ h a) (T:Turn X.prog X.w X.K tg J fp it tn) (M:∀ x c,cl.lookup x=some c->(X.env.cells.lookup x=some c/\scope.names.lookup x≠some .cell)\/(a.heap.objs.size < c/\scope.names.lookup x=some .cell/\h₁.IsCell c none)) (cl2:∀ y∈scope.names,y.2=.free\/y.2=.cell->∃ c,cl.lookup y.1=some c)
  (cl3:∀ x y c,cl.lookup x=some c->cl.lookup y=some c->x=y)
  (P:∀ b∈fp,bF3 X pins h b) (L:∀ b∈fp,b < D) (B:D < a.heap.objs.size) (E:∀ b,b∈frs X.stack->b < D) (hbase:∀ b o,X.base.get? b=some o->b < D) (f:Stray X pins h D)
  (hD3:a.heap.get? D=some {cls:=.type "list",data:=.seq ([]:List Value).toArray}) (st3:tn 0 a.heap) (Q:h₁.Ns a.heap.objs.size mC) (t:∀ b o,a.heap.get? b=some o->h₁.get? b=some o)
  (w0:W 0 m0 [] h) (turn:∀ i m ys H,W i m ys H->ys.length<=sizeLine /\
  ((J.stop i H/\F ys H)\/(J.go i H/\∀ x H',J.yld i H x H'->g x (blank own σ) H' λσ2 h=>tt σ2 h λb H3=>
    if b=true then te σ2 H3 λv O=>∃ m',m' < m/\W (i+1) m' (ys++[v]) O else ∃ m',m' < m/\W (i+1) m' ys H3)))
  (fin:∀ D C ys H' s' m,Inv X pins σ (upd H' D (.lst ys)) s'->H' D=none->s'.heap.Ns C m->Stray X pins (upd H' D (.lst ys)) C->F ys H' ->
   compPost (model X.prog X.w) X.A X.xe use Qf (.ref D) C (.ok .next) s') :
  codeAny (model X.prog X.w) X.A (.compLoop (.ListComp elt [⟨tg,iter,ifs,0⟩] scope pos) 0 (.ref it) (.ref D) (compEnvC scope cl a.heap.objs.size X.env))
   (compPost (model X.prog X.w) X.A X.xe use Qf (.ref D) a.heap.objs.size) {a with heap:=h₁,toks:=tk}:=by
 have cneD:∀ x c,cl.lookup x=some c->c≠D:=λx c q=>by
  rcases M x c q with z | z;exact f.cell x c z.1;exact(a0e (a3h B z.1)).symm
 have cneF:∀ b∈fp,∀ x c,cl.lookup x=some c->c≠b:=λb hb x c q=>by
  rcases M x c q with z | z;exact(P b hb).2.2.2.2.1 x c z.1;exact(a0e (a3h (a3h (L b hb) B) z.1)).symm
 have okY:(cxC X scope cl (D::fp) a h).Ok:=by
  refine⟨l.ok.mod,S.kind,l.ok.glob,l.ok.blt,a6a _,cl3,λx hk=>?_,λx c hf q=>?_,l.ok.hd,l.ok.frames,.inl rfl,λb hb=>?_,λb o q=>?_,?_,λb o q hb=>?_,λb hb R=>?_,l.stack,l.stkFree⟩;rcases nJ hk with z | z;exact cl2 _ z (.inl rfl);exact cl2 _ (mem_of_lookup z) (.inr rfl)
  ·rcases M x c q with z | z
   ·have hf':scope.names.lookup x=some .cell:=by simpa using hf
    exact absurd hf' z.2
   ·exact a2h z.1
  ·constructor;show b≠a.heap.objs.size;rcases a1c.mp hb with z | z;rw[z];exact a0e B;exact a0e (a3h (L b z) B);intro x c q;rcases a1c.mp hb with z | z;rw[z];exact cneD x c q;exact cneF b z x c q
  ·exact l.bs b o q
  ·exact a3b l.ok.bsz l.sz
  ·rcases a1c.mp hb with z | z;have:=hbase b o q;rw[z]at this;exact a6f _ this;rcases(P b z).2.2.2.1 with y | y;exact l.ok.noex b o q y;exact a6f _ (a4c (a8b q) (a3b l.ok.bsz y))
  ·rcases a1c.mp hb with z | z;have:=E b R;rw[z]at this;exact a6f _ this;rcases a1c.mp (l.stkSub b R)with y | y;exact(P b z).2.1 y;exact(P b z).2.2.1 y
 have IY:Inv (cxC X scope cl (D::fp) a h) pins (blank own σ) h {a with heap:=h₁,toks:=tk}:=by
  refine⟨okY,rfl,l.bare,Un.kept t,⟨_,Q,λi x v e1 e2 e3=>?_⟩,λx c q=>?_,l.hok.fresh (a6a _),λx c q=>by
   rcases M x c q with z | z;exact l.freeC x c z.1;exact l.hok.fresh (a2h z.1),λp hp=>?_,l.hok.kept t,(pF own σ).trans l.len⟩
  ·obtain⟨hno,e2'⟩:=oO own σ i v e2;have hnl:¬ (relabel scope X.env).names.lookup x=some .local:=λz=>hno (S.own i x e1 (.inl (aA0 z)));have hnc:¬ scope.names.lookup x=some .cell:=λz=>hno (S.own i x e1 (.inr z));have hcf:(relabel scope X.env).names.lookup x=some .cell\/(relabel scope X.env).names.lookup x=some .free:=by
    rcases e3 with z | z | z;exact absurd z hnl;exact .inl z;exact .inr z
   have hmem:=(nJ hcf).resolve_right hnc;have U:=S.free _ hmem rfl;obtain⟨m,hm,hl⟩:=l.loc;obtain⟨u,r,lk⟩:=hl i x v e1 e2' (by rcases U with z | z;exact .inr (.inl z);exact .inr (.inr z));obtain⟨c,hc⟩:=cl2 _ hmem (.inl rfl);refine⟨u,r,.inr ⟨hcf,c,hc,?_⟩⟩;rcases lk with⟨z,_⟩ | ⟨_,c',hc',ic⟩;dsimp only at U;rw[z]at U;rcases U with y | y<;>cases y;have:=((M _ c hc).resolve_right λz=>hnc z.2.1).1;dsimp only at this;rw[hc']at this;cases this;obtain⟨o,ho,hd⟩:=ic;exact⟨o,t _ _ ho,hd⟩
  ·rcases M x c q with z | z;obtain⟨v,o,ho,hd⟩:=l.cell x c z.1;exact⟨v,o,t _ _ ho,hd⟩;exact⟨_,z.2.2⟩
  ·obtain⟨q,n,ne,nf,d⟩:=l.pin p hp;refine⟨t _ _ q,n,a0e (a8b q),λhb=>?_,d⟩;rcases a1c.mp (l.stkSub _ hb)with y | y;exact ne y;exact nf y
 have DY:D≠a.heap.objs.size:=a0e B;have statY:∀ {H':Hp},(∀ b∈fp,H' b=none)->∀ b∈fp,bF3 (cxC X scope cl (D::fp) a h) pins H' b:=λhn b hb=>by
  refine⟨hn b hb,?_,?_,.inl (a5a _ hb),cneF b hb,(P b hb).2.2.2.2.2⟩;show b≠a.heap.objs.size;exact a0e (a3h (L b hb) B);intro R;rcases a1c.mp (l.stkSub b R)with y | y;exact(P b hb).2.1 y;exact(P b hb).2.2.1 y
 have hDfp:D∉fp:=λz=>a6f _ (L D z);have hDstk:D∉frs X.stack:=λz=>a6f _ (E D z);have G:∀ {H':Hp} {o:Obj},(∀ b∈fp,H' b=none)->∀ b∈fp,bF3 (cxC X scope cl (D::fp) a h) (pins++[(D,o)]) H' b:=λ{H' o} fr b hb=>by
  obtain⟨a1,a2,a3,a4,a5,a6⟩:=statY fr b hb;refine⟨a1,a2,a3,a4,a5,λp hp z=>?_⟩;rcases a3c.mp hp with y | y;exact a6 p (a5g _ y) z;rcases a3c.mp y with y | y;exact a6 p (a8c _ y) z;have e:p=(D,o):=a1b.mp y;rw[e]at z;have z':D=b:=z;exact hDfp (by rw[z'];exact hb)
 have pin2:∀ {H':Hp} {s':Shared} {its:Array Value} {k:Nat},Inv (cxC X scope cl (D::fp) a h) pins (blank own σ) H' s'->H' D=none->s'.heap.get? D=some {cls:=.type "list",data:=.seq its k} ->
   Inv (cxC X scope cl (D::fp) a h) (pins++[(D,{cls:=.type "list",data:=.seq its k})]) (blank own σ) H' s':=λ{H' s' its k} I4 D4 o4=>I4.pins_of λp hp=>by
  rcases a3c.mp hp with z | z;exact I4.pin p (a8c _ z);have e:p=(D,{cls:=.type "list",data:=.seq its k}):=a1b.mp z;subst e;exact⟨o4,D4,DY,hDstk,λv z=>by cases z⟩
 refine aO1 (λn s'=>∃ i ys H' its k,Inv (cxC X scope cl (D::fp) a h) pins (blank own σ) H' s'/\tn i s'.heap/\(∀ b∈fp,H' b=none)/\H' D=none /\
  s'.heap.get? D=some {cls:=.type "list",data:=.seq its k}/\cA ys its.toList/\W i n ys H') ?_ m0
  ⟨0,[],h,#[],_,IY,T.keep _ _ _ st3 λb hb o q=>t b o q,λb hb=>(P b hb).1,f.un,t _ _ hD3,.nil,w0⟩
 rintro n s4 ⟨i,ys,O,its,k,I4,st4,fr4,D4,o4,v4,w4⟩;obtain⟨hz,step⟩:=turn i n ys O w4;rcases step with⟨stop,qn⟩ | ⟨go,step⟩
 ·refine thn (T.done (cxC X scope cl (D::fp) a h) rfl rfl rfl S.calm i _ s4 (blank own σ) O (λ_ _=>False) (pin2 I4 D4 o4) (G fr4) st4 stop) λr s5 Z0=>?_;obtain⟨hr,I5⟩:=Z0;subst hr;have oD:s5.heap.get? D=some {cls:=.type "list",data:=.seq its k}:=(I5.pin (D,_) (a8c _ (a8c _ a3a))).1;have N:Inv (cxC X scope cl (D::fp) a h) pins (blank own σ) O s5:=I5.unpinned;have IX:Inv X pins σ O s5:=by
   refine l.call' (ch:=D::fp) N.os N.base N.hok N.bare λb hb=>?_;rcases a1c.mp hb with z | z;rw[z];exact⟨.inr f.young,f.loc,f.cell,f.pin⟩;obtain⟨a1,a2,a3,a4,a5,a6⟩:=P b z;exact⟨a4,a2,a5,a6⟩
  obtain⟨m5,hm5,_⟩:=N.loc;have nC:O a.heap.objs.size=none:=N.free;have IX':Inv X pins σ (upd O D (.lst ys)) s5:=by
   refine IX.adopt D4 f.young f.loc f.cell f.pin ⟨hz,its.toList,k,v4,?_⟩;rw[oD]
  have strC:Stray X pins (upd O D (.lst ys)) a.heap.objs.size:=l.stray (a6a _) (by rw[aG (a5d DY)];exact nC);exact fin D _ ys O s5 m5 IX' D4 hm5 strC qn
 ·refine thn (T.item (cxC X scope cl (D::fp) a h) rfl rfl rfl S.calm i _ s4 (blank own σ) O (λ_ _=>False) (pin2 I4 D4 o4) (G fr4) st4 go) λr s5 Z0=>?_;obtain⟨u,hr,h5⟩:=Z0;subst hr;refine thn h5 λ_ s6 ⟨x,H6,I6,r6,y6,st6,fr6⟩=>?_;have I6':=I6.pinned (G fr6) (T.obj _ _ st6);refine thn (hg cl (D::fp) a h _ s6 (blank own σ) H6 x u _ I6' r6 (hG _ _ _ _ (step x H6 y6))) λ_ s7 ⟨σ7,H7,I7,⟨q7,l7,p7⟩⟩=>?_;refine thn (ht cl (D::fp) a h _ s7 σ7 H7 _ I7 q7) λb s8 ⟨H8,I8,q8⟩=>?_;have weak:∀ {Y:Hp} {Z:Shared},Inv (cxC X scope cl (D::fp) a h) ((pins++[(D,{cls:=.type "list",data:=.seq its k})])++vT fp s6.heap) σ7 Y Z ->
    Inv (cxC X scope cl (D::fp) a h) ((pins++[(D,{cls:=.type "list",data:=.seq its k})])++vT fp s6.heap) (blank own σ) Y Z:=λI9=>
   I9.weak l7.symm λj v e=>by rw[p7 j (oO own σ j v e).1];exact e
  have tn9:∀ {Y:Hp} {Z:Shared},Inv (cxC X scope cl (D::fp) a h) ((pins++[(D,{cls:=.type "list",data:=.seq its k})])++vT fp s6.heap) (blank own σ) Y Z->tn (i+1) Z.heap/\∀ b∈fp,Y b=none:=λI9=>
   ⟨T.keep _ _ _ st6 λb hb o q=>(I9.pin (b,o) (a8c _ (a8c _ (lX hb q)))).1,λb hb=>by
    obtain⟨o,q,d⟩:=T.obj _ _ st6 b hb;exact(I9.pin (b,o) (a8c _ (a8c _ (lX hb q)))).2.1⟩
  cases b with
  | true=>
    rw[a3s rfl]at q8 ⊢;refine thn (he cl (D::fp) a h _ s8 σ7 H8 _ I8 q8) λy Z Z0=>?_;obtain⟨v9,Y,I9,r9,m',hm',w9⟩:=Z0;have I:=weak I9;obtain⟨t9,f9⟩:=tn9 I;have p9:=I.pin (D,_) (a8c _ (a5g _ (a8c _ a3a)));have hlen:=v4.length;have hz':its.size<=sizeLine:=by rw[← a8d];lia
    refine append_at (hsz:=hz') p9.1 λh' hs' hD'=>?_;have I9u:Inv (cxC X scope cl (D::fp) a h) pins (blank own σ) Y Z:=I.unpinned.unpinned;have I10:Inv (cxC X scope cl (D::fp) a h) pins (blank own σ) Y {Z with heap:=h'}:=
     I9u.turned (it:=D) (t':=Z.toks) (λb o hb q=>(hs'.2 b hb).trans q) p9.2.1 DY (.inl a3a) cneD f.pin
    refine⟨m',hm',i+1,ys++[v9],Y,its.push y,k+1,I10,T.keep _ _ _ t9 λb hb o q=>(hs'.2 b λz=>hDfp (by rw[← z];exact hb)).trans q,f9,p9.2.1,hD',?_,w9⟩;rw[a6h];exact v4.append (.cons r9 .nil)
  | false=>
    rw[a3u a3d]at q8 ⊢;obtain⟨m',hm',w9⟩:=q8;have I:=weak I8;obtain⟨t9,f9⟩:=tn9 I;have p9:=I.pin (D,_) (a8c _ (a5g _ (a8c _ a3a)));exact⟨m',hm',i+1,ys,H8,its,k,I.unpinned.unpinned,t9,f9,p9.2.1,p9.1,v4,w9⟩
set_option maxHeartbeats 8000000 in
def aG0{X:Cx}{tg iter elt:Expr}{B:List Expr}{scope:Scope}{pos E:Pos}{own:List Nat}{wi:TI}{g:TG}{tt:TT}{te:TE}{use:Option (Value->Sem Unit)}{Qf:Value->Shared->Prop}
  (S:CompScope X scope own) (hi:PI X tg iter wi) (hg:∀ cl ex s H,PG (cxC X scope cl ex s H) tg g) (hG:cI5 own g)
  (ht:∀ cl ex s H,cC9 (cxC X scope cl ex s H) B tt) (he:∀ cl ex s H,PE (cxC X scope cl ex s H) elt te)
  {pins:List (Addr×Obj)} {s:Shared} {σ:St} {H:Hp} {F:List V->Hp->Prop} (I:Inv X pins σ H s) (hw:cD0 own wi g tt te σ H F)
  (hs:∀ x,foldedSetIterable iter X.env x=pure x)
  (fin:∀ D C ys H' s' m,Inv X pins σ (upd H' D (.lst ys)) s'->H' D=none->s'.heap.Ns C m->Stray X pins (upd H' D (.lst ys)) C->F ys H' ->
   compPost (model X.prog X.w) X.A X.xe use Qf (.ref D) C (.ok .next) s') :
  wpAny (model X.prog X.w) X.A (comprehension (.ListComp elt [⟨tg,iter,B,0⟩] scope pos) scope X.env E (newList []) false (eval iter X.env) use) Qf X.xe s:=by
 obtain⟨cl,Q,R,U⟩:=bB0 (scope:=scope) (env:=X.env) λy O hf=>I.ok.has y.1 (S.free y O hf);refine wpAny_comprehension_free (use:=use) rfl hs Q S.kind S.names (thn (hi pins s σ H _ I hw) λv s₁ h₁=>thn h₁ λitv a G=>?_);obtain⟨it,fp,tn,J,H2,e,r,T,t,f2,W,⟨m0,w0⟩,turn⟩:=G;subst e;refine a3B (cI4 ?_);dsimp only;have Y:(a.heap.push {cls:=.type "list",dict:=none,data:=.seq ([]:List Value).toArray}).objs.size=a.heap.objs.size+1:=Heap.size_push ..;have h:∀ b o,a.heap.get? b=some o->(a.heap.push {cls:=.type "list",dict:=none,data:=.seq ([]:List Value).toArray}).get? b=some o:=λb o q=>a8a _ q;have K:(a.heap.push {cls:=.type "list",dict:=none,data:=.seq ([]:List Value).toArray}).get? a.heap.objs.size=some {cls:=.type "list",dict:=none,data:=.seq ([]:List Value).toArray}:=a9b _ rfl;generalize hG3:a.heap.push {cls:=.type "list",dict:=none,data:=.seq ([]:List Value).toArray}=d at Y h K ⊢;have n:(d.push {cls:=.type "dict",data:=.dict #[]}).objs.size=d.objs.size+1:=Heap.size_push ..;have i:(pushCells (d.push {cls:=.type "dict",data:=.dict #[]}) scope.names).Ns d.objs.size (λ_=>none):=(Heap.Ns.new d (.type "dict")).keeps (pushCells_keeps _ _);have k:∀ b o,d.get? b=some o->(pushCells (d.push {cls:=.type "dict",data:=.dict #[]}) scope.names).get? b=some o:=λb o q=>pushCells_keeps _ _ b o (a8a _ q);have ok:=cellsFrom_ok scope.names (d.push {cls:=.type "dict",data:=.dict #[]}) (d.objs.size+1) [] ⟨λ_ _ hm=>(nomatch hm),List.Pairwise.nil⟩ (by rw[n];exact a6a _);rw[n]at ok;generalize pushCells (d.push {cls:=.type "dict",data:=.dict #[]}) scope.names=h₁ at i k ok ⊢;have Z:Inv X pins σ H2 {a with heap:=d}:=r.kept (t':=a.toks) h;have look:∀ x,(cellsFrom (d.objs.size+1) scope.names cl).lookup x=((cellsFrom (d.objs.size+1) scope.names []).lookup x).or (cl.lookup x):=λx=>by rw[dB,List.lookup_append]
 have L:∀ x c,(cellsFrom (d.objs.size+1) scope.names []).lookup x=some c->d.objs.size < c/\scope.names.lookup x=some .cell/\h₁.IsCell c none:=λx c q=>
  ⟨(ok.empty x c (mem_of_lookup q)).2,S.cells _ (iV _ _ x c (mem_of_lookup q)) rfl,(ok.empty x c (mem_of_lookup q)).1⟩
 have j:∀ x c,(cellsFrom (d.objs.size+1) scope.names cl).lookup x=some c->(X.env.cells.lookup x=some c/\scope.names.lookup x≠some .cell)\/(d.objs.size < c/\scope.names.lookup x=some .cell/\h₁.IsCell c none):=λx c q=>by
  rw[look]at q;cases e:(cellsFrom (d.objs.size+1) scope.names []).lookup x with
  | some M=>rw[e]at q;cases q;exact .inr (L x _ e)
  | none=>
    rw[e]at q;refine .inl ⟨R x c q,λz=>?_⟩;obtain⟨M,f⟩:=eC scope.names (d.objs.size+1) x (mem_of_lookup z);rw[e]at f;cases f
 have l:∀ x c,X.env.cells.lookup x=some c->c < d.objs.size:=λx c q=>by
  obtain⟨v,o,ho,hd⟩:=Z.cell x c q;exact a8b ho
 have p:=bB2 (iter:=iter) (elt:=elt) (pos:=pos) (use:=use) (Qf:=Qf) (tk:=a.toks) (h₁:=h₁) S hg hG ht he Z T j (λy O hk=>by
   rw[look];rcases hk with z | z
   ·obtain⟨c,hc⟩:=U y O z;cases e:(cellsFrom (d.objs.size+1) scope.names []).lookup y.1 with
    | some M=>exact⟨M,rfl⟩
    | none=>exact⟨c,hc⟩
   ·obtain⟨c,hc⟩:=eC scope.names (d.objs.size+1) y.1 (by rw[← z];exact O);exact⟨c,by rw[hc];rfl⟩) (λx y c q1 P=>by
   rcases j x c q1 with N | N;rcases j y c P with u | u;exact Z.ok.inj x y c N.1 u.1;exact absurd u.1 (a5j.mpr (a2h (l x c N.1)));rcases j y c P with u | u;exact absurd N.1 (a5j.mpr (a2h (l y c u.1)));have m1:(cellsFrom (d.objs.size+1) scope.names []).lookup x=some c:=by
    obtain⟨M,f⟩:=eC scope.names (d.objs.size+1) x (mem_of_lookup N.2.1);rw[look,f]at q1;cases q1;exact f
   have m2:(cellsFrom (d.objs.size+1) scope.names []).lookup y=some c:=by
    obtain⟨M,f⟩:=eC scope.names (d.objs.size+1) y (mem_of_lookup u.2.1);rw[look,f]at P;cases P;exact f
   exact name_of_addr ok.apart (mem_of_lookup m1) (mem_of_lookup m2)) f2 (λb hb=>by obtain⟨o,q,_⟩:=T.obj _ _ t b hb;exact a8b q)
  (by show a.heap.objs.size < d.objs.size;lia) (λb hb=>by
   rcases a1c.mp (r.stkSub b hb)with z | z;rw[z];exact r.lt;exact a4j λhle=>r.nofs hle z)
  (λb o q=>a8b (r.bs b o q).1) (r.stray (a6a _) (r.hok.fresh (a6a _))) K (T.keep _ _ _ t λb hb o q=>h b o q) i k w0 turn fin
 exact codeAny_compStart_list p (T.self _ 0 _ _ _ (T.keep _ _ _ t λb hb o q=>k b o (h b o q)) p)
def dL{X:Cx}{tg iter elt:Expr}{a:List Expr}{scope:Scope}{pos:Pos}{own:List Nat}{d:TI}{g:TG}{f:TT}{h:TE}
  (S:CompScope X scope own) (hi:PI X tg iter d) (i:∀ cl ex s H,PG (cxC X scope cl ex s H) tg g) (j:cI5 own g)
  (k:∀ cl ex s H,cC9 (cxC X scope cl ex s H) a f) (l:∀ cl ex s H,PE (cxC X scope cl ex s H) elt h)
  (hs:∀ x,foldedSetIterable iter X.env x=pure x:=by intro _;rfl):PE X (.ListComp elt [⟨tg,iter,a,0⟩] scope pos) (bB1 own d g f h):=by
 intro pins s σ H Q I n;rw[eval_ListComp];refine aG0 (use:=none) S hi i j k l I n hs λD C ys H' s' m p r hm str q=>?_;refine⟨m,hm,λh' c=>⟨.ref D,upd H' D (.lst ys),?_,rfl,q D r⟩⟩;exact p.turned (it:=C) (t':=s'.toks) (λb o hb e=>(c.2 b hb).trans e) str.un str.loc (.inr str.young) str.cell str.pin
def lY{X:Cx}{i:Nat}{x:Str}{tg iter elt:Expr}{d:List Expr}{scope:Scope}{pos c f:Pos}{own:List Nat}{u:TI}{g:TG}{w:TT}{y:TE}
  (B:X.N.Nodup) (j:X.N[i]? = some x) (A:X.env.scope.names.lookup x=some .local)
  (S:CompScope X scope own) (hi:PI X tg iter u) (E:∀ cl ex s H,PG (cxC X scope cl ex s H) tg g) (F:cI5 own g)
  (G:∀ cl ex s H,cC9 (cxC X scope cl ex s H) d w) (J:∀ cl ex s H,PE (cxC X scope cl ex s H) elt y)
  (k:swapsWith (.ListComp elt [⟨tg,iter,d,0⟩] scope pos) (some (.Name x c)) f.line X.env=pure true)
  (hs:∀ x,foldedSetIterable iter X.env x=pure x:=by intro _;rfl) :
  PS X (.Assign [.Name x c] (.ListComp elt [⟨tg,iter,d,0⟩] scope pos) f) (λD σ H=>bB1 own u g w y σ H λv K=>D.nx (σ.set i (some v)) K):=by
 intro pins s σ H L I M;rw[exec_Assign_Name_used _ _ _ _ k];refine a3r (a3W (a3r ?_));show wpAny _ _ (do let _ ← comprehension (.ListComp elt [⟨tg,iter,d,0⟩] scope pos) scope X.env _ (newList []) false (eval iter X.env) (some (assign (.Name x c) X.env))) _ _ s;refine a3r (thn (aG0 (use:=some (assign (.Name x c) X.env)) (Qf:=λ_ s'=>SP X pins L .next s') S hi E F G J I M hs λD C ys H' s' m O P hm str q=>?_) λ_ s' Q=>a3t (a3t Q));show wpAny _ _ (assign (.Name x c) X.env (.ref D)) _ _ s';refine wpAny_assign_Name (aE4 (v:=.ref D) O B j (.inl A) (show eA (.ref D) (Value.ref D)from rfl) (λl n p=>?_) (.inr A));obtain⟨a,h,ha⟩:=p;have r:C≠a:=by
  rcases ha with z | z;rw[z];exact str.loc;exact a5d (str.cell x a z)
 refine⟨m,hm.sameBut h r,λh' t=>⟨_,_,?_,q D P⟩⟩;exact n.turned (it:=C) (t':=l.toks) (λb o hb e=>(t.2 b hb).trans e) str.un str.loc (.inr str.young) str.cell str.pin
section
variable{X:Cx}
def bT5(n:X.calm=true):mK X (.builtin "all") (λxs H Q=>∃ (a:Addr) (bs:List Bool),xs=[.ref a]/\SqL X.K H a (bs.map V.bl)/\Q (.bl (bs.all id)) H):=by
 intro pins s σ H xs us Q I r h;obtain⟨a,bs,rfl,ha,q⟩:=h;obtain⟨u,rfl,t⟩:=aE8 r;cases t;obtain⟨its,f,p,D⟩:=I.list ha;have g:a < s.heap.objs.size:=by obtain⟨_,e,_⟩:=p.isList;exact a8b e
 have w:X.A.in1.handled=none:=I.ok.hd n;refine call_all_walk (wpAny_pyIter_list p.isList ?_);refine⟨s.heap.objs.size,[s.heap.objs.size,a],[s.heap.objs.size],its.toArray.size,_,_,λi=>(bs[i]?).getD true,rfl,Walks.list (A:=X.A.in1) w _ a (a0e g) its.toArray,
  ⟨⟨_,a9b _ rfl,rfl,rfl⟩,p.isList.push _⟩,λi v s' E F y k=>?_,λh' tk B=>?_⟩
 ·have hi:its[i]? = some v:=by simpa using y
  have c:=f.length;have l:i < its.length:=(a1a.mp hi).1;have hb:i < bs.length:=by rw[a2a]at c;lia
  obtain⟨u,m,C⟩:=f.get (i:=i) (x:=V.bl bs[i]) (by rw[a0b,a0a hb];rfl);rw[hi]at m;cases m;have e:v=Value.bool bs[i]:=C;subst e;simp only[List.getElem?_eq_getElem hb,Option.getD_some]at k;exact a3N k
 ·have e:((List.range its.toArray.size).all λi=>(bs[i]?).getD true)=bs.all id:=by
   have c:=f.length;rw[a2a]at c;rw[a4b,← c];rw[a3g,a8g,a8g];constructor;intro j b hb;obtain⟨i,hi,rfl⟩:=a3e hb;have:=j i (a1h.mpr hi);simp only[List.getElem?_eq_getElem hi,Option.getD_some]at this;exact this;intro j i hi;have d:=a1h.mp hi;simp only[List.getElem?_eq_getElem d,Option.getD_some];exact j _ (a9g d)
  rw[e];exact⟨.bl _,H,I.kept (t':=tk) λb o q=>B b o (λhm=>by
   have z:b=s.heap.objs.size:=by simpa using hm
   rw[z]at q;exact a6f _ (a8b q)) (a8a _ q),rfl,q⟩
noncomputable def Its(x:Str):It:=⟨λi _=>∃ c,x.cps[i]? = some c,λi H v H'=>H'=H/\∃ c,x.cps[i]? = some c/\v=.str ⟨#[c]⟩,λi _=>x.cps[i]? = none⟩
def aU4{P:Program}{w:World}{K:W.Frag}{tg:Expr}(x:Str)(t:Tok)(it:Addr)(ty:String)(a:ty="str_ascii_iterator"\/ty="str_iterator"):Turn P w K tg (Its x) [it] it (λi h=>h.IsStrIter it ty x t i) where
 mem:=by simp
 obj:=λi h st b hb=>by
  have e:b=it:=by simpa using hb
  subst e;obtain⟨o,e,c,d⟩:=st;exact⟨o,e,λv z=>by rw[d]at z;cases z⟩
 keep:=λi h h' st k=>by
  obtain⟨o,e,c,d⟩:=st;exact⟨o,k it (by simp) o e,c,d⟩
 item:=by
  intro X q r u y i pins s σ H E I g st A;subst q r u;obtain⟨c,f⟩:=A;obtain⟨j,l,G,m,n,p⟩:=g it (by simp);rcases a with rfl | rfl;refine wpAny_pyNext_ascii_item st f λh' st' B=>?_;have C:Inv X pins σ H {s with heap:=h',toks:=s.toks+1}:=I.turned (t':=s.toks+1) (λb o hb e=>(B.2 b hb).trans e) j l m n p;obtain⟨o,e,D,d⟩:=id st';exact⟨_,rfl,bF4 (s:={s with heap:=h',toks:=s.toks+1}) e D d (by decide) ⟨.str ⟨#[c]⟩,H,C,⟨_,rfl⟩,⟨rfl,c,f,rfl⟩,st',λb hb=>(g b hb).1⟩⟩;refine wpAny_pyNext_wide_item st f λh' st' B=>?_;have C:Inv X pins σ H {s with heap:=h',toks:=s.toks+1}:=I.turned (t':=s.toks+1) (λb o hb e=>(B.2 b hb).trans e) j l m n p;obtain⟨o,e,D,d⟩:=id st';exact⟨_,rfl,bF4 (s:={s with heap:=h',toks:=s.toks+1}) e D d (by decide) ⟨.str ⟨#[c]⟩,H,C,⟨_,rfl⟩,⟨rfl,c,f,rfl⟩,st',λb hb=>(g b hb).1⟩⟩
 done:=by
  intro X q r u y i pins s σ H E I g st A;subst q r u;have f:x.cps[i]? = none:=A;obtain⟨j,l,G,m,n,p⟩:=g it (by simp);rcases a with rfl | rfl;exact wpAny_pyNext_ascii_end (I.ok.hd y) st f λh' F=>⟨rfl,I.turned (t':=s.toks) (λb o hb e=>F b o hb e) j l m n p⟩;exact wpAny_pyNext_wide_end (I.ok.hd y) st f λh' F=>⟨rfl,I.turned (t':=s.toks) (λb o hb e=>F b o hb e) j l m n p⟩
 self:=λ_ _ _ _ _ st h=>by
  rcases a with rfl | rfl;exact wpAny_pyIter_striter_ascii st h;exact wpAny_pyIter_striter_wide st h
def dW4:V->Option Int->Option Int->Hp->VK->Prop:=λx lo hi H Q=>∃ z,x=.str z/\z.length<=sizeLine/\Q (.str (Txt.slice z lo hi)) H
def dA2:SlR X dW4:=by
 intro pins s σ H x v g m lo hi sl Q I e hs pl d h;obtain⟨z,rfl,f,q⟩:=h;obtain⟨t,rfl⟩:=e;refine⟨"str",_,F.slot_str_getitem.lookup,typeIs_str _ _ _,?_⟩;have fin:∀ b k,EP X pins σ Q (.str (Txt.slice z lo hi) b) {s with toks:=k}:=λb k=>⟨.str _,H,I.tok k,⟨b,rfl⟩,q⟩;have a:(Txt.slice z lo hi).length<=sizeLine:=a3b (Txt.slice_le z lo hi) f;cases pl with
 | none=>
   cases d with
   | none=>exact a3L (l:=none) (u:=none) (st:=none) hs rfl (post_val_or_str ⟨a,fin⟩)
   | int j c=>exact a3L (l:=none) (u:=some (j,c)) (st:=none) hs rfl (post_val_or_str ⟨a,fin⟩)
 | int i t1=>
   cases d with
   | none=>exact a3L (l:=some (i,t1)) (u:=none) (st:=none) hs rfl (post_val_or_str ⟨a,fin⟩)
   | int j c=>exact a3L (l:=some (i,t1)) (u:=some (j,c)) (st:=none) hs rfl (post_val_or_str ⟨a,fin⟩)
def bB3{ys:List Str}:∀ {us:List Value},cA (ys.map V.str) us->StrsAre us ys:=by
 induction ys with
 | nil=>intro us r;cases r;exact .nil
 | cons y r a=>
   intro us h;cases h with
   | cons b c=>
     obtain⟨t,rfl⟩:=b;exact .cons y t (a c)
def bT6(K:W.Frag):V->List V->Hp->VK->Prop:=λx vs H Q=>∃ b a ys,x=.str b/\vs=[.ref a]/\SqL K H a (ys.map V.str)/\(ys.map (·.length)).sum+ys.length*b.length<=16777216/\Q (.str (Txt.join b ys)) H
def cI6:MtR X "str.join" (bT6 X.K):=by
 intro pins s σ H x vs v us Q I b c h;obtain⟨d,a,ys,rfl,rfl,ha,e,q⟩:=h;obtain⟨t,rfl⟩:=b;obtain⟨u,rfl,f⟩:=c.one;cases f;obtain⟨its,r,p,_⟩:=I.list ha;exact join_list p.isList (by simpa using bB3 r) e λg k=>⟨.str _,H,I.tok k,⟨g,rfl⟩,q⟩
def aO2:mK X (.builtin "isinstance") (λxs H Q=>∃ x c t b,xs=[x,.ty c]/\TyOf X.K H x t/\W.kitOne X.K t (.type c)=some b/\Q (.bl b) H):=by
 intro pins s σ H xs us Q I r h;obtain⟨x,c,t,b,rfl,ty,e,q⟩:=h;obtain⟨u,d,rfl,f,a⟩:=cY5 r;cases (show d=Value.type c from a);exact bG2 I f ty e λtk=>⟨.bl b,H,I.tok tk,rfl,q⟩
end
structure Tag(Q:VK):Type where mk ::
def Ask(sp:Sp)(vs:List V)(H:Hp)(E:XK)(Q:VK)(_:Tag Q):Prop:=sp vs H Q E
section
variable{σ:St}{H:Hp}{Q:VK}{v x y:V}{n:Nat}{i j:Int}{a b:Bool}{D:Ends}
theorem cI7{r:St}:aT6 0 (some v::r) H Q=Q v H:=propext ⟨λZ1=>by obtain⟨_,e,q⟩:=Z1;cases e;exact q,λq=>⟨_,rfl,q⟩⟩
theorem cI8{o:Option V}{r:St}:aT6 (n+1) (o::r) H Q=aT6 n r H Q:=rfl
theorem dW5:tC v σ H Q=Q v H:=rfl
theorem dN4{r:R2}{a b:TE}:tOp r a b σ H Q=a σ H λx c=>b σ c λy d=>r x y d Q:=rfl
theorem dN5{r:V->Hp->VK->Prop}{a:TE}:tUn r a σ H Q=a σ H λx b=>r x b Q:=rfl
theorem dA3{g:Int->Int->V}:rI0 g (.int i) (.int j) H Q=Q (g i j) H:=propext ⟨λZ1=>by obtain⟨_,_,e,a,q⟩:=Z1;cases e;cases a;exact q,λq=>⟨_,_,rfl,rfl,q⟩⟩
theorem cI9{C:Int->Int->Prop}{g:Int->Int->V}(h:C i j):rI C g (.int i) (.int j) H Q=Q (g i j) H:=propext ⟨λZ1=>by obtain⟨_,_,e,a,_,q⟩:=Z1;cases e;cases a;exact q,λq=>⟨_,_,rfl,rfl,h,q⟩⟩
theorem dN6{R:Bool->Prop}:(∃ k,V.bl a=V.bl k/\R k)=R a:=propext ⟨λZ1=>by obtain⟨_,e,q⟩:=Z1;cases e;exact q,λq=>⟨_,rfl,q⟩⟩
theorem cJ0{t:TE}{R:Bool->Hp->Prop}:cY3 t σ H R=t σ H λx H'=>∃ k,x=.bl k/\R k H':=rfl
theorem dN7{t:TE}{R:Bool->Hp->Prop}:tB t σ H R=t σ H λx H'=>∃ k,x=.bl k/\R k H':=rfl
theorem dA4{t u:TT}{R:Bool->Hp->Prop}:dR6 t u σ H R=t σ H λc H1=>if c=true then u σ H1 R else R false H1:=rfl
theorem dN8{t u:TT}{R:Bool->Hp->Prop}:tOr t u σ H R=t σ H λc a=>if c=true then R true a else u σ a R:=rfl
theorem dA5{t:TT}{R:Bool->Hp->Prop}:dR7 t σ H R=t σ H λc H1=>R (!c) H1:=rfl
theorem cJ1{t u:TE}:cX2 t u σ H Q=t σ H λx H1=>∃ c,x=.bl c/\if c=true then u σ H1 Q else Q (.bl false) H1:=rfl
theorem dA6{t u:TE}:dV1 t u σ H Q=t σ H λx a=>∃ c,x=.bl c/\if c=true then Q (.bl true) a else u σ a Q:=rfl
theorem cJ2{t:TE}:cX3 t σ H Q=t σ H λx H1=>∃ c,x=.bl c/\Q (.bl (!c)) H1:=rfl
theorem bT7{r a:R2}{b c d:TE}:cY4 r a b c d σ H Q=b σ H λx f=>c σ f λy g=>r x y g λz e=>∃ k,z=.bl k/\if k=true then d σ e (λu h=>a y u h Q)else Q (.bl false) e:=rfl
theorem dA7{t:TT}{a b:TE}:tIf t a b σ H Q=t σ H λc d=>if c=true then a σ d Q else b σ d Q:=rfl
theorem dA8{t u:TS}:cT3 t u D σ H=t {D with nx:=u D} σ H:=rfl
theorem cJ3:cX7 D σ H=D.nx σ H:=rfl
theorem cJ4{a:TE}:bF2 a D σ H=a σ H λ_ H1=>D.nx σ H1:=rfl
theorem dA9{a:TE}:dK4 a D σ H=a σ H D.rt:=rfl
theorem cJ5:dM3 D σ H=D.rt .non H:=rfl
theorem dB0{c:TT}{t u:TS}:dR8 c t u D σ H=c σ H λb H1=>if b=true then t D σ H1 else u D σ H1:=rfl
theorem dB1{a:TE}{g:TG}:bS4 a g D σ H=a σ H λx b=>g x σ b D.nx:=rfl
theorem bT8{R:St->Hp->Prop}:nD n v σ H R=R (σ.set n (some v)) H:=rfl
theorem cJ6{to a:TE}{t:oM}{R:St->Hp->Prop}:dM5 to a t v σ H R=to σ H λo b=>a σ b λi c=>t o i v c λd=>R σ d:=rfl
theorem dB2{R:List V->Hp->Prop}:cY6 σ H R=R [] H:=rfl
theorem cJ7{a:TE}{tr:TA}{R:List V->Hp->Prop}:bS7 a tr σ H R=a σ H λx b=>tr σ b λxs c=>R (x::xs) c:=rfl
theorem cJ8{sp:Sp}{E:XK}{t:TA}:bA5 sp [] E t σ H Q=t σ H λvs a=>Ask sp vs a E Q ⟨⟩:=by
 unfold bA5 Ask;simp only[List.append_nil]
theorem dN9{r:List V->Hp->VK->Prop}{t:TA}:tCB r t σ H Q=t σ H λvs a=>r vs a Q:=rfl
theorem dO0{r:V->Option Int->Option Int->Hp->VK->Prop}{a:TE}{b c:TO}:tSl r a b c σ H Q=a σ H λx d=>b σ d λl e=>c σ e λu f=>r x l u f Q:=rfl
theorem bH5{R:Option Int->Hp->Prop}:bG6 σ H R=R none H:=rfl
theorem cJ9{t:TE}{R:Option Int->Hp->Prop}:cZ0 t σ H R=t σ H λx H1=>∃ i,x=.int i/\R (some i) H1:=rfl
theorem bH6{R:Int->Prop}:(∃ k,V.int i=V.int k/\R k)=R i:=propext ⟨λZ1=>by obtain⟨_,e,q⟩:=Z1;cases e;exact q,λq=>⟨_,rfl,q⟩⟩
theorem cK0{R:Bool->Hp->Prop}:dA1 σ H R=R true H:=rfl
end
noncomputable def eS(H:Hp)(p:Addr):Option (Bool×List V):=match H p with
 | some (.lst xs)=>some (true,xs)
 | some (.tup xs)=>some (false,xs)
 | some (.frz _ (.lst xs))=>some (true,xs)
 | _=>none
def cL{H:Hp}{p:Addr}{xs:List V}(h:H p=some (.lst xs)):eS H p=some (true,xs):=by unfold eS;rw[h]
def cB{H:Hp}{p:Addr}{xs:List V}(h:H p=some (.tup xs)):eS H p=some (false,xs):=by unfold eS;rw[h]
def bT9{H:Hp}{p:Addr}{o:Obj}{xs:List V}(h:H p=some (.frz o (.lst xs))):eS H p=some (true,xs):=by unfold eS;rw[h]
def fD{K:W.Frag}{H:Hp}{p:Addr}{xs:List V}(h:eS H p=some (true,xs)):SqL K H p xs:=by
 unfold eS at h;split at h;rename_i e;cases h;exact .inl (.inl e);cases h;rename_i o ys e;cases h;exact .inl (.inr ⟨o,e⟩);cases h
def eE{K:W.Frag}{H:Hp}{p:Addr}{xs:List V}(h:eS H p=some (false,xs)):SqT K H p xs:=by
 unfold eS at h;split at h;cases h;rename_i e;cases h;exact .inl (.inl e);cases h;cases h
noncomputable def ixF(H:Hp)(x y:V):Option V:=match x,y with
 | .ref p,.int i=>(eS H p).bind λq=>atI q.2 i
 | .str z,.int i=>if z.length<=sizeLine then(atI z.cps.toList i).map λc=>.str ⟨#[c]⟩else none
 | _,_=>none
noncomputable def dB3(H:Hp)(x:V):Option Nat:=match x with
 | .ref p=>(eS H p).map (·.2.length)
 | .str z=>if z.length<=sizeLine then some z.length else none
 | _=>none
def dO1:R2:=λx y H Q=>∃ v,ixF H x y=some v/\Q v H
section
variable{X:Cx}
def cK1:IxR X dO1:=by
 intro a d pins s σ H x y v u Q I g j h hs;obtain⟨z,e,q⟩:=h;unfold ixF at e;split at e
 ·rename_i p i;cases f:eS H p with
  | none=>rw[f]at e;cases e
  | some w=>
    obtain⟨b,xs⟩:=w;rw[f]at e;cases b with
    | true=>exact cH9 a d pins s σ H _ _ v u Q I g j ⟨p,xs,i,z,rfl,rfl,fD f,e,q⟩ hs
    | false=>exact cZ3 a d pins s σ H _ _ v u Q I g j ⟨p,xs,i,z,rfl,rfl,eE f,e,q⟩ hs
 ·rename_i t i;split at e
  ·rename_i l;cases k:atI t.cps.toList i with
   | none=>rw[k]at e;cases e
   | some c=>
     rw[k]at e;cases e;exact cZ4 a d pins s σ H _ _ v u Q I g j ⟨t,i,c,rfl,rfl,l,k,q⟩ hs
  ·cases e
 ·cases e
def bU0:List V->Hp->VK->Prop:=λxs H Q=>∃ x n,xs=[x]/\dB3 H x=some n/\Q (.int n) H
def bK:mK X (.builtin "len") bU0:=by
 intro pins s σ H xs us Q I r h;obtain⟨x,n,rfl,e,q⟩:=h;unfold dB3 at e;split at e
 ·rename_i p;cases a:eS H p with
  | none=>rw[a]at e;cases e
  | some w=>
    obtain⟨b,xs⟩:=w;rw[a]at e;cases e;cases b with
    | true=>exact pD pins s σ H _ us Q I r ⟨p,xs,rfl,.inl (fD a),q⟩
    | false=>exact pD pins s σ H _ us Q I r ⟨p,xs,rfl,.inr (eE a),q⟩
 ·rename_i z;split at e;rename_i c;cases e;exact aF7 pins s σ H _ us Q I r ⟨z,rfl,c,q⟩;cases e
 ·cases e
def dO2:V->Option Int->Option Int->Hp->VK->Prop:=λx lo hi H Q=>match x with
 | .str z=>z.length<=sizeLine/\Q (.str (Txt.slice z lo hi)) H
 | .ref p=>(∃ xs,eS H p=some (true,xs)/\∀ r,H r=none->Q (.ref r) (upd H r (.lst (aE2 xs lo hi)))) \/
   ∃ xs,eS H p=some (false,xs)/\¬ (HT.sIx xs.length 0 lo=0/\HT.sIx xs.length xs.length hi=xs.length)/\∀ r,H r=none->Q (.ref r) (upd H r (.tup (aE2 xs lo hi)))
 | _=>False
def dK9:SlR X dO2:=by
 intro pins s σ H x v a b lo hi sl Q I c hs pl d h;unfold dO2 at h;split at h;rename_i z;exact dA2 pins s σ H _ v a b lo hi sl Q I c hs pl d ⟨z,rfl,h.1,h.2⟩;rename_i p;rcases h with⟨xs,e,q⟩ | ⟨xs,e,hw,q⟩;exact cI1 pins s σ H _ v a b lo hi sl Q I c hs pl d ⟨p,xs,rfl,fD e,q⟩;exact cZ1 pins s σ H _ v a b lo hi sl Q I c hs pl d ⟨p,xs,rfl,eE e,hw,q⟩;exact h.elim
def dO3(K:W.Frag)(b:TE):TI:=λσ H R=>b σ H λx a=>match x with
 | .str z=>R (Its z) a
 | .ref p=>(∃ xs,eS a p=some (true,xs)/\R (Itl K p) a)\/∃ xs,eS a p=some (false,xs)/\R (Itt K p) a
 | _=>False
def dB4{tg l:Expr}{i:TE}(k:PE X l i):PI X tg l (dO3 X.K i):=by
 intro pins s σ H R I h;refine thn (k pins s σ H _ I h) λv s1 Z0=>?_;obtain⟨x,f,c,j,d⟩:=Z0;split at d
 ·rename_i x;obtain⟨t,rfl⟩:=j;cases ha:x.cps.all (· < 128)with
  | true=>
    refine wpAny_pyIter_ascii ha ?_;refine⟨s1.heap.objs.size,[s1.heap.objs.size],_,_,f,rfl,c.kept (t':=s1.toks) λb o e=>a8a _ e,aU4 x t _ _ (.inl rfl),⟨_,a9b _ rfl,rfl,rfl⟩,λb hb=>?_,d⟩;have e:b=s1.heap.objs.size:=by simpa using hb
    subst e;exact c.fpOk (a6a _) (c.hok.fresh (a6a _))
  | false=>
    refine wpAny_pyIter_wide ha ?_;refine⟨s1.heap.objs.size,[s1.heap.objs.size],_,_,f,rfl,c.kept (t':=s1.toks) λb o e=>a8a _ e,aU4 x t _ _ (.inr rfl),⟨_,a9b _ rfl,rfl,rfl⟩,λb hb=>?_,d⟩;have e:b=s1.heap.objs.size:=by simpa using hb
    subst e;exact c.fpOk (a6a _) (c.hok.fresh (a6a _))
 ·rename_i a;cases j;rcases d with⟨xs,g,q⟩ | ⟨xs,g,q⟩
  ·obtain⟨its,m,p,n⟩:=c.list (fD g);refine wpAny_pyIter_list p.isList ?_;refine⟨s1.heap.objs.size,[s1.heap.objs.size],_,_,f,rfl,c.kept (t':=s1.toks) λb o e=>a8a _ e,bF5 a _,⟨_,a9b _ rfl,rfl,rfl⟩,λb hb=>?_,q⟩;have e:b=s1.heap.objs.size:=by simpa using hb
   subst e;exact c.fpOk (a6a _) (c.hok.fresh (a6a _))
  ·obtain⟨its,m,p,n⟩:=c.tuple (eE g);refine wpAny_pyIter_tuple (show s1.heap.IsTuple a its.toArray from p) ?_;refine⟨s1.heap.objs.size,[s1.heap.objs.size],_,_,f,rfl,c.kept (t':=s1.toks) λb o e=>a8a _ e,bA2 a _,⟨_,a9b _ rfl,rfl,rfl⟩,λb hb=>?_,q⟩;have e:b=s1.heap.objs.size:=by simpa using hb
   subst e;exact c.fpOk (a6a _) (c.hok.fresh (a6a _))
 ·exact d.elim
noncomputable def cD1(N:List Str)(sc scope:Scope)(own:List Nat):Bool:=
 (match scope.kind with | .function=>true | _=>false) &&
 scope.names.all (λy=>match y.2 with
  | .cell=>(match scope.names.lookup y.1 with | some .cell=>true | _=>false)
  | .local=>(match scope.names.lookup y.1 with | some .local=>true | _=>false)
  | .free=>(match sc.names.lookup y.1 with | some .cell=>true | some .free=>true | _=>false)
  | _=>true) &&
 (List.range N.length).all λi=>match N[i]? with
  | some x=>(match scope.names.lookup x with | some .local=>own.contains i | some .cell=>own.contains i | _=>true)
  | none=>true
def csc{scope:Scope}(own:List Nat)(h:cD1 X.N X.env.scope scope own=true)(g:X.calm=true:=by rfl):CompScope X scope own:=by
 unfold cD1 at h;rw[a1e,a1e]at h;obtain⟨⟨j,b⟩,d⟩:=h;rw[a8g]at b d;refine⟨?_,λy a e=>?_,λy a e=>?_,λy a e=>?_,λi x f c=>?_,g⟩;revert j;cases scope.kind<;>simp;have:=b y a;rw[e]at this;dsimp only at this;split at this;assumption;cases this;have:=b y a;rw[e]at this;dsimp only at this;split at this;assumption;cases this;have:=b y a;rw[e]at this;dsimp only at this;show X.env.scope.names.lookup y.1=some .cell\/X.env.scope.names.lookup y.1=some .free;split at this;rename_i q;exact .inl q;rename_i q;exact .inr q;cases this;have hi:i < X.N.length:=(a1a.mp f).1;have:=d i (a1h.mpr hi);rw[f]at this;dsimp only at this;rcases c with c | c<;>rw[c]at this<;>simpa using this
end
structure ItIs(J:It)(xs:List V)(P:Hp->Prop):Prop where
 go:∀ H i x,P H->xs[i]? = some x->J.go i H
 yld:∀ H i x y H',P H->xs[i]? = some x->J.yld i H y H'->H'=H/\y=x
 stop:∀ H i,P H->xs[i]? = none->J.stop i H
def vZ{K:W.Frag}{a:Addr}{xs:List V}:ItIs (Itl K a) xs (λH=>SqL K H a xs) where
 go:=λH i x h e=>⟨xs,x,h,e⟩
 yld:=λH i x y H' h e ⟨b,c⟩=>⟨b,by have:=c xs h;rw[e]at this;exact(a7a this).symm⟩
 stop:=λH i h e=>⟨xs,h,a1d.mp e⟩
def aU5{K:W.Frag}{a:Addr}{xs:List V}:ItIs (Itt K a) xs (λH=>SqT K H a xs) where
 go:=λH i x h e=>⟨xs,x,h,e⟩
 yld:=λH i x y H' h e ⟨b,c⟩=>⟨b,by have:=c xs h;rw[e]at this;exact(a7a this).symm⟩
 stop:=λH i h e=>⟨xs,h,a1d.mp e⟩
noncomputable def cD2(lo:Int)(n:Nat):List V:=(List.range n).map λ(i:Nat)=>V.int (lo+(i:Int))
def aA2{lo:Int}{n i:Nat}{x:V}(h:(cD2 lo n)[i]? = some x):i < n/\x=.int (lo+i):=by
 unfold cD2 at h;rw[a0b]at h;cases e:(List.range n)[i]? with
 | none=>rw[e]at h;cases h
 | some k=>
   rw[e]at h;obtain⟨hi,a⟩:=a1a.mp e;rw[List.length_range]at hi;rw[List.getElem_range]at a;subst a;exact⟨hi,(a7a h).symm⟩
def aO3(lo:Int)(n:Nat):(cD2 lo n).length=n:=by simp[cD2]
def aU6{lo:Int}{n:Nat}{P:Hp->Prop}:ItIs (Itr lo n) (cD2 lo n) P where
 go:=λH i x _ e=>(aA2 e).1
 yld:=λH i x y H' _ e ⟨a,b⟩=>⟨a,by rw[(aA2 e).2];exact b⟩
 stop:=λH i _ e=>by
  have:=a1d.mp e;rw[aO3]at this;exact this
noncomputable def fE(x:Str):List V:=x.cps.toList.map λc=>.str ⟨#[c]⟩
def fV(x:Str):(fE x).length=x.length:=by simp[fE,Str.length]
def bU1{x:Str}{P:Hp->Prop}:ItIs (Its x) (fE x) P where
 go:=λH i v _ e=>by
  unfold fE at e;rw[a0b]at e;cases q:x.cps.toList[i]? with
  | none=>rw[q]at e;cases e
  | some c=>exact⟨c,by simpa using q⟩
 yld:=λH i v y H' _ e ⟨b,c,d,f⟩=>⟨b,by
  unfold fE at e;rw[a0b]at e;have q:x.cps.toList[i]? = some c:=by simpa using d
  rw[q]at e;cases e;exact f⟩
 stop:=λH i _ e=>by
  have a:=a1d.mp e;rw[fV]at a;show x.cps[i]? = none;rw[Array.getElem?_eq_none_iff];exact a
def bH7{J:It}{xs:List V}{P:Hp->Prop}(w:ItIs J xs P){own:List Nat}{g:TG}{l:TT}{n:TE}{σ:St}{o:Hp}{F:List V->Hp->Prop}(Pv:Nat->List V->Hp->Prop)(h0:Pv 0 [] o)
  (r:∀ i ys H,Pv i ys H->P H/\ys.length<=i) (hn:xs.length<=sizeLine)
  (step:∀ i x ys H (N:List V->Hp->Prop),xs[i]? = some x->Pv i ys H->(∀ a H',Pv (i+1) a H'->N a H')->g x (blank own σ) H λc j=>l c j λb f=>if b=true then n c f λv d=>N (ys++[v]) d else N ys f)
  (fin:∀ ys H,Pv xs.length ys H->F ys H) :
  ∃ W:Nat->Nat->List V->Hp->Prop,(∃ m,W 0 m [] o)/\∀ i m ys H,W i m ys H->ys.length<=sizeLine /\
  ((J.stop i H/\F ys H)\/(J.go i H/\∀ x H',J.yld i H x H'->g x (blank own σ) H' λc j=>l c j λb f=>
    if b=true then n c f λv d=>∃ m',m' < m/\W (i+1) m' (ys++[v]) d else ∃ m',m' < m/\W (i+1) m' ys f)):=by
 refine⟨λi m ys H=>m=xs.length-i/\i<=xs.length/\Pv i ys H,⟨xs.length,by simp,a2d _,h0⟩,?_⟩;rintro i m ys H ⟨rfl,hi,p⟩;obtain⟨k,s⟩:=r i ys H p;refine⟨by lia,?_⟩;by_cases h:i < xs.length;have e:xs[i]? = some xs[i]:=a0a h;refine .inr ⟨w.go H i _ k e,λx H' y=>?_⟩;obtain⟨rfl,rfl⟩:=w.yld H i _ x H' k e y;exact step i _ ys H' (λa d=>∃ m',m' < xs.length-i/\m'=xs.length-(i+1)/\i+1<=xs.length/\Pv (i+1) a d) e p λa d q=>⟨xs.length-(i+1),by lia,rfl,h,q⟩;have e:i=xs.length:=by lia
 subst e;exact .inl ⟨w.stop H _ k (a1d.mpr (a6a _)),fin ys H p⟩
def cD3{J:It}{xs:List V}{P:Hp->Prop}(w:ItIs J xs P){g:TG}{d:TS}{D:Ends}{σ:St}{H:Hp}(Pv:Nat->St->Hp->Prop)(h0:Pv 0 σ H)(f:∀ i σ H,Pv i σ H->P H)
  (hs:∀ i x σ H,xs[i]? = some x->Pv i σ H->g x σ H λa c=>d {D with nx:=Pv (i+1),ct:=Pv (i+1),bk:=D.nx} a c) (hd:∀ σ H,Pv xs.length σ H->D.nx σ H) :
  ∃ W:Nat->Nat->St->Hp->Prop,(∃ m,W 0 m σ H)/\∀ i m σ H,W i m σ H ->
    (J.stop i H/\D.nx σ H)\/(J.go i H/\∃ N:St->Hp->Prop,(∀ σ' H',N σ' H'->∃ m',m' < m/\W (i+1) m' σ' H')/\∀ x H',J.yld i H x H'->g x σ H' λa c=>d {D with nx:=N,ct:=N,bk:=D.nx} a c):=by
 refine⟨λi m σ H=>m=xs.length-i/\i<=xs.length/\Pv i σ H,⟨xs.length,by simp,a2d _,h0⟩,?_⟩;rintro i m σ H ⟨rfl,hi,p⟩;have q:=f i σ H p;by_cases b:i < xs.length;have e:xs[i]? = some xs[i]:=a0a b;refine .inr ⟨w.go H i _ q e,Pv (i+1),λσ' H' h=>⟨xs.length-(i+1),by lia,rfl,b,h⟩,λx H' y=>?_⟩;obtain⟨rfl,rfl⟩:=w.yld H i _ x H' q e y;exact hs i _ σ _ e p;have e:i=xs.length:=by lia
 subst e;exact .inl ⟨w.stop H _ q (a1d.mpr (a6a _)),hd σ H p⟩
section
variable{σ:St}{H:Hp}{Q:VK}{z:Str}{p q:Addr}{xs ys:List V}{i j:Int}{b:Bool}{v x y:V}
def bU2(h:z.length<=sizeLine):dB3 H (.str z)=some z.length:=by show(if z.length<=sizeLine then some z.length else none)=_;rw[a3s h]
def aA3(h:eS H p=some (b,xs)):dB3 H (.ref p)=some xs.length:=by show(eS H p).map (·.2.length)=_;rw[h];rfl
def dB5{n:Nat}(h:dB3 H x=some n):bU0 [x] H Q=Q (.int n) H:=
 propext ⟨λZ1=>by obtain⟨a,b,e,f,q⟩:=Z1;cases e;rw[h]at f;cases f;exact q,λq=>⟨_,n,rfl,h,q⟩⟩
def lZ(h:eS H p=some (b,xs)):bU0 [.ref p] H Q=Q (.int xs.length) H:=dB5 (aA3 h)
def bB4(h:ixF H x y=some v):dO1 x y H Q=Q v H:=propext ⟨λZ1=>by obtain⟨_,e,q⟩:=Z1;rw[h]at e;cases e;exact q,λq=>⟨v,h,q⟩⟩
def oP(h:eS H p=some (b,xs))(e:atI xs i=some v):ixF H (.ref p) (.int i)=some v:=by show(eS H p).bind (λq=>atI q.2 i)=_;rw[h];exact e
def cK2{c:Nat}(h:z.length<=sizeLine)(e:atI z.cps.toList i=some c):ixF H (.str z) (.int i)=some (.str ⟨#[c]⟩):=by
 show(if z.length<=sizeLine then(atI z.cps.toList i).map λc=>V.str ⟨#[c]⟩else none)=_;rw[a3s h,e];rfl
end
def dO4{i j:Int}(a:-(2 ^ 64) < j)(b:j < 2 ^ 64):bS6 i j:=.inr ⟨a,b⟩
section
variable{σ:St}{H:Hp}{Q:VK}{p:Addr}{xs:List V}{k:Int}{j:Nat}{v:V}
def bH8{R:Hp->Prop}(h:H p=some (.lst xs))(e:ixN xs.length k=some j):cI0 (.ref p) (.int k) v H R=R (upd H p (.lst (xs.set j v))):=
 propext ⟨λZ1=>by obtain⟨d,ys,f,j',b,c,h',a,q⟩:=Z1;cases b;cases c;rw[h]at h';cases h';rw[e]at a;cases a;exact q,λq=>⟨p,xs,k,j,rfl,rfl,h,e,q⟩⟩
theorem dB6{i j:Int}(a:-(2 ^ 64) < j)(b:j < 2 ^ 64):bS6 i j=True:=eq_true (.inr ⟨a,b⟩)
theorem dO5{i j:Int}(a:0 < j)(b:j < 1073741824):cX9 i j=True:=eq_true ⟨a,b⟩
def dB7{sp:Sp}{vs:List V}{E:XK}{t:Tag Q}(h:sp vs H Q E):Ask sp vs H E Q t:=h
def bH9{a:Type}{ys:List a}{i:Int}(h0:0<=i)(b:i < ys.length):∃ c,atI ys i=some c:=by
 obtain⟨n,rfl⟩:=Int.eq_ofNat_of_zero_le h0;have hn:n < ys.length:=by lia
 exact⟨ys[n],bG9 (a0a hn)⟩
def aO4{a:Type}{ys:List a}{i:Int}{c:a}(h:atI ys i=some c):c∈ys:=by
 obtain⟨j,_,b,_⟩:=zX h;exact a2b b
end
end L2
namespace L2
open PySem
def cD4{i j:Int}{g:Int->Int->V}{H:Hp}{Q:VK}(h:0 < j):rI (λ_ j=>0 < j) g (.int i) (.int j) H Q=Q (g i j) H:=cI9 h
def cK3{i j:Int}{g:Int->Int->V}{H:Hp}{Q:VK}(h:cX9 i j):rI cX9 g (.int i) (.int j) H Q=Q (g i j) H:=cI9 h
theorem dB8{t:TA}{σ:St}{H:Hp}{Q:VK}:dK6 t σ H Q=t σ H λxs a=>xs.length<=sizeLine/\∀ p,a p=none->Q (.ref p) (upd a p (.lst xs)):=rfl
theorem dB9{t:TA}{σ:St}{H:Hp}{Q:VK}:dS0 t σ H Q=t σ H λxs a=>xs.length<=sizeLine/\∀ p,a p=none->Q (.ref p) (upd a p (.tup xs)):=rfl
theorem dO6{K:W.Frag}{T:String}{r:V->List V->Hp->VK->Prop}{to:TE}{t:TA}{σ:St}{H:Hp}{Q:VK}:tBM K T r to t σ H Q=to σ H λx a=>tyV K T x a/\t σ a λxs b=>r x xs b Q:=rfl
def bI0{a b:Type}{f:a->b}{ys:List a}{i:Int}:atI (ys.map f) i=(atI ys i).map f:=by
 unfold atI;rw[a2a];cases ixN ys.length i with
 | none=>rfl
 | some j=>simp
def bO{H:Hp}{p:Addr}{o:HO}(h:H p=none):zZ H (upd H p o):=λb u e=>by rw[aG (aL e h)];exact e
def dO7(own:List Nat)(g:TG)(d:TT)(e:TE)(σ:St)(J:It)(f:Hp)(F:List V->Hp->Prop):Prop:=
 ∃ W:Nat->Nat->List V->Hp->Prop,(∃ m,W 0 m [] f)/\∀ i m ys H,W i m ys H->ys.length<=sizeLine /\
   ((J.stop i H/\F ys H)\/(J.go i H/\∀ x H',J.yld i H x H'->g x (blank own σ) H' λa h=>d a h λb c=>
     if b=true then e a c λv j=>∃ m',m' < m/\W (i+1) m' (ys++[v]) j else ∃ m',m' < m/\W (i+1) m' ys c))
def dW6(g:TG)(b:TS)(D:Ends)(σ:St)(J:It)(c:Hp):Prop:=∃ W:Nat->Nat->St->Hp->Prop,(∃ m,W 0 m σ c)/\∀ i m σ H,W i m σ H ->
 (J.stop i H/\D.nx σ H)\/(J.go i H/\∃ N:St->Hp->Prop,(∀ σ' H',N σ' H'->∃ m',m' < m/\W (i+1) m' σ' H')/\∀ x H',J.yld i H x H'->g x σ H' λa d=>b {D with nx:=N,ct:=N,bk:=D.nx} a d)
theorem cK4{own:List Nat}{a:TI}{g:TG}{b:TT}{c:TE}{σ:St}{H:Hp}{Q:VK}:bB1 own a g b c σ H Q=a σ H λJ d=>dO7 own g b c σ J d λys H'=>∀ p,H' p=none->Q (.ref p) (upd H' p (.lst ys)):=rfl
theorem dC0{a:TI}{g:TG}{b:TS}{D:Ends}{σ:St}{H:Hp}:cT4 a g b D σ H=a σ H λJ H1=>dW6 g b D σ J H1:=rfl
def bU3(K:W.Frag)(x:V)(a:Hp)(R:It->Hp->Prop):Prop:=match x with
 | .str z=>R (Its z) a
 | .ref p=>(∃ xs,eS a p=some (true,xs)/\R (Itl K p) a)\/∃ xs,eS a p=some (false,xs)/\R (Itt K p) a
 | _=>False
theorem cK5{K:W.Frag}{a:TE}{σ:St}{H:Hp}{R:It->Hp->Prop}:dO3 K a σ H R=a σ H λx b=>bU3 K x b R:=rfl
theorem bU4{K:W.Frag}{z:Str}{H:Hp}{R:It->Hp->Prop}:bU3 K (.str z) H R=R (Its z) H:=rfl
def aU7{K:W.Frag}{p:Addr}{xs:List V}{H:Hp}{R:It->Hp->Prop}(h:eS H p=some (true,xs)):bU3 K (.ref p) H R=R (Itl K p) H:=
 propext ⟨λq=>by
  rcases q with⟨_,_,q⟩ | ⟨_,e,_⟩;exact q;rw[h]at e;exact(nomatch e),λq=>.inl ⟨xs,h,q⟩⟩
def bU5{K:W.Frag}{p:Addr}{xs:List V}{H:Hp}{R:It->Hp->Prop}(h:eS H p=some (false,xs)):bU3 K (.ref p) H R=R (Itt K p) H:=
 propext ⟨λq=>by
  rcases q with⟨_,e,_⟩ | ⟨_,_,q⟩;rw[h]at e;exact(nomatch e);exact q,λq=>.inr ⟨xs,h,q⟩⟩
theorem cK6{a:TA}{σ:St}{H:Hp}{R:It->Hp->Prop}:cH7 a σ H R=a σ H λvs H1=>∃ j:Int,vs=[.int j] /\ -(2 ^ 62)<=j/\j < 2 ^ 62/\R (Itr 0 j.toNat) H1:=rfl
theorem cK7{a:TA}{σ:St}{H:Hp}{R:It->Hp->Prop}:dM6 a σ H R=a σ H λvs H1=>∃ i j:Int,vs=[.int i,.int j]/\(-(2 ^ 62)<=i/\i < 2 ^ 62 /\ -(2 ^ 62)<=j/\j < 2 ^ 62)/\R (Itr i (j-i).toNat) H1:=rfl
theorem bI1{σ:St}:blank [] σ=σ:=rfl
theorem bI2{i:Nat}{r:List Nat}{σ:St}:blank (i::r) σ=blank r (σ.set i none):=rfl
def cK8(sep:Str)(ys:List Str):(Txt.join sep ys).length<=(ys.map (·.length)).sum+ys.length*sep.length:=by
 show(Builtin.Str.glued sep ys).length<=_;rw[StrLaws.glued_eq_join];exact StrLaws.join_length_le sep ys
end L2
namespace L2
def up{p q:Prop}(h:p=q)(a:q):p:=by rw[h];exact a
def bU6{K:PySem.W.Frag}{t:String}:PySem.W.kitOne K (.type t) (.type t)=some true:=by
 unfold PySem.W.kitOne;rw[a3s (by simp)]
open PySem PySem.Spec PyProof.Rows
section
variable{prog:Program}{w:World}{A:Around}{E:Value->Shared->Prop}
theorem wA{it:Addr}{x:Str}{t:Tok}{ty:String}(f:ty="str_ascii_iterator"\/ty="str_iterator"):∀ (n i:Nat) (s:Shared) (Q:List Value->Shared->Prop),s.heap.IsStrIter it ty x t i->i+n<=x.length ->
  (∀ h' tk us,h'.IsStrIter it ty x t (i+n)->Heap.SameBut it s.heap h'->cA (((fE x).drop i).take n) us->Q us {s with heap:=h',toks:=tk})->wpAny (model prog w) A (draw (.ref it) n) Q E s
 | 0,i,s,Q,hit,_,j=>by
   show wpAny _ _ (pure []) Q E s;exact a3t (by simpa using j s.heap s.toks [] hit (Heap.SameBut.refl ..) (by simpa using(.nil:cA [] [])))
 | n+1,i,s,Q,hit,hle,j=>by
   have g:i < x.cps.size:=by have:x.length=x.cps.size:=rfl;lia
   have k:x.cps[i]? = some x.cps[i]:=by simp[g]
   have hd:(fE x).drop i=V.str ⟨#[x.cps[i]]⟩::(fE x).drop (i+1):=by
    rw[List.drop_eq_getElem_cons (by rw[fV];exact g)];congr 1;simp[fE]
   show wpAny _ _ (pyNext (.ref it) >>= _) Q E s;have go:∀ b,b.IsStrIter it ty x t (i+1)->Heap.SameBut it s.heap b ->
     wpAny (model prog w) A (match (some (Value.str ⟨#[x.cps[i]]⟩ s.toks))with | none=>pure [] | some v=>do return v::(← holding [v] (draw (.ref it) n))) Q E {s with heap:=b,toks:=s.toks+1}:=λb a c=>by
    refine a3r (a3x (wA f n (i+1) _ _ a (by lia) λh tk us d e l=>a3t ?_));refine j h tk _ (by rw[show i+(n+1)=i+1+n by lia];exact d) (c.trans e) ?_;rw[hd,List.take_succ_cons];exact .cons ⟨_,rfl⟩ l
   rcases f with rfl | rfl;exact a3r (wpAny_pyNext_ascii_item hit k λb a c=>go b a c);exact a3r (wpAny_pyNext_wide_item hit k λb a c=>go b a c)
def aA4{s:Shared}{x:Str}{t:Tok}{targets:List (Bool×(Value->Sem Unit))}{Q:Unit->Shared->Prop}(hh:A.handled=none)
  (hn:targets.length=x.length) (hstar:targets.findIdx? (·.1)=none)
  (h:∀ h' tk us,Heap.ExtBut s.heap.objs.size s.heap h'->cA (fE x) us->wpAny (model prog w) A (assignInOrder (targets.map (·.2)) us) Q E {s with heap:=h',toks:=tk}) :
  wpAny (model prog w) A (unpack (.str x t) targets) Q E s:=by
 unfold unpack;rw[hn,hstar];refine a3r (a3x ?_);unfold unpackItems;refine a3r ?_;unfold notIterableAtAll;refine a3r (a3X (typeIs_str _ _ _) F.slot_str_iter.lookup ?_);refine a3t ?_;simp only[Bool.false_eq_true,if_false];have go:∀ ty,(ty="str_ascii_iterator"\/ty="str_iterator")->wpAny (model prog w) A (do
   let items ← holding [Value.ref s.heap.objs.size] (draw (.ref s.heap.objs.size) x.length)
   if items.length < x.length then
    rule "unpack.too-few";raiseError "ValueError" s!"not enough values to unpack (expected {x.length}, got {items.length})"
   if(← holding items (pyNext (.ref s.heap.objs.size))).isSome then
    rule "unpack.too-many";raiseError "ValueError" s!"too many values to unpack (expected {x.length})"
   return items:Sem (List Value)) (λus s'=>wpAny (model prog w) A (assignInOrder (targets.map (·.2)) us) Q E s') E {s with heap:=s.heap.push {cls:=.type ty,data:=.fields #[.str x t,.int 0 0]}}:=by
  intro ty hty;refine a3r (a3x (wA (it:=s.heap.objs.size) (x:=x) (t:=t) hty x.length 0 _ _ ⟨_,a9b _ rfl,rfl,rfl⟩ (by lia) λh₁ tk us hit₁ hs₁ hv=>?_));have hv':cA (fE x) us:=by
   have e:((fE x).drop 0).take x.length=fE x:=by
    rw[List.drop_zero];exact a2c (by rw[fV];exact a6a _)
   rw[e]at hv;exact hv
  have hl:us.length=x.length:=by rw[← hv'.length,fV]
  rw[a3u (by lia)];have hend:x.cps[x.length]? = none:=by simp[Str.length]
  rw[a8f]at hit₁;have fin:∀ h₂,Heap.ExtBut s.heap.objs.size h₁ h₂->wpAny (model prog w) A (do
    if(none:Option Value).isSome then
     rule "unpack.too-many";raiseError "ValueError" s!"too many values to unpack (expected {x.length})"
    return us:Sem (List Value)) (λus s'=>wpAny (model prog w) A (assignInOrder (targets.map (·.2)) us) Q E s') E {s with heap:=h₂,toks:=tk}:=by
   intro h₂ he₂;simp only[Option.isSome_none,Bool.false_eq_true,if_false];exact a3t (h h₂ tk us (λb o hb e=>he₂ b o hb (hs₁.extBut b o hb (a8a _ e))) hv')
  rcases hty with rfl | rfl;exact a3r (a3x (wpAny_pyNext_ascii_end hh hit₁ hend λh₂ he₂=>fin h₂ he₂));exact a3r (a3x (wpAny_pyNext_wide_end hh hit₁ hend λh₂ he₂=>fin h₂ he₂))
 cases ha:x.cps.all (· < 128)with
 | true=>exact a3r (a3x (wpAny_pyIter_ascii ha (go _ (.inl rfl))))
 | false=>exact a3r (a3x (wpAny_pyIter_wide ha (go _ (.inr rfl))))
end
section
variable{X:Cx}{pos:Pos}
def bB5(K:W.Frag)(n:Nat)(t:TGs):TG:=λv σ H Q=>match v with
 | .str z=>z.length=n/\t (fE z) σ H Q
 | .ref a=>∃ xs,eS H a=some (false,xs)/\xs.length=n/\t xs σ H Q
 | _=>False
def cK9{es:List Expr}{k:Nat}{t:TGs}{n:Nat}(g:X.calm=true)(h:PGs X es t)
  (hn:(assignEach es X.env).length=n:=by rfl) (d:(assignEach es X.env).findIdx? (·.1)=none:=by rfl):PG X (.Tuple es k pos) (bB5 X.K n t):=by
 intro pins s σ H v u Q I r c;unfold bB5 at c;split at c;rename_i z;obtain⟨f,c⟩:=c;obtain⟨tk,rfl⟩:=r;rw[assign_Tuple];refine a3r (a3W (aA4 (I.ok.hd g) (hn.trans f.symm) d λh' tk us i j=>?_));have l:Inv X pins σ H {s with heap:=h',toks:=tk}:=I.kept λb o e=>i b o (a0e (a8b e)) e;exact h pins _ σ H _ _ Q l j c;rename_i a;obtain⟨xs,m,f,c⟩:=c;exact cX8 (k:=k) (pos:=pos) g h hn d pins s σ H _ u Q I r ⟨a,xs,rfl,eE m,f,c⟩;exact c.elim
end
section
variable{X:Cx}
def bI3:List V->Hp->VK->Prop:=λxs H Q=>∃ p b ys,xs=[.ref p]/\eS H p=some (b,ys)/\∀ l,H l=none->Q (.ref l) (upd H l (.lst ys))
def yL:mK X (.type "list") bI3:=by
 intro pins s σ H xs us Q I r h;obtain⟨p,b,ys,rfl,a,q⟩:=h;cases b with
 | true=>exact pE pins s σ H _ us Q I r ⟨p,ys,rfl,.inl (fD a),q⟩
 | false=>exact pE pins s σ H _ us Q I r ⟨p,ys,rfl,.inr (eE a),q⟩
def cL0:List V->Hp->VK->Prop:=λxs H Q=>∃ p b ys,xs=[.ref p]/\eS H p=some (b,ys)/\if b=true then ∀ l,H l=none->Q (.ref l) (upd H l (.tup ys))else Q (.ref p) H
def bR:mK X (.type "tuple") cL0:=by
 intro pins s σ H xs us Q I r h;obtain⟨p,b,ys,rfl,a,q⟩:=h;cases b with
 | true=>exact nH pins s σ H _ us Q I r ⟨p,ys,rfl,.inl ⟨fD a,by simpa using q⟩⟩
 | false=>exact nH pins s σ H _ us Q I r ⟨p,ys,rfl,.inr ⟨eE a,by simpa using q⟩⟩
def bU7:R2:=λx y H Q=>match x,y with
 | .int i,.int j=>bS6 i j/\Q (.int (i*j)) H
 | .str z,.int i=>z.length<=1000/\0<=i/\i<=1000/\∀ y:Str,y.length<=z.length*i.toNat->y=Txt.mul z i->Q (.str y) H
 | _,_=>False
def cL1(z:Str)(i:Int)(h0:0<=i):(Txt.mul z i).length<=z.length*i.toNat:=by
 unfold Txt.mul;by_cases b:i < 1;rw[a3s b];exact a2d _;rw[a3u b];by_cases c:(i==1||z.length==0)=true
 ·rw[a3s c];have:1<=i.toNat:=by lia
  calc z.length=z.length*1:=by rw[Nat.mul_one]
   _<=z.length*i.toNat:=Nat.mul_le_mul_left _ this
 ·rw[a3u c];have a:∀ (k:Nat) (acc:Array Nat),((List.replicate k z.cps).foldl (· ++ ·) acc).size=acc.size+k*z.cps.size:=by
   intro k
   induction k with
   | zero=>intro acc;simp
   | succ k d=>
     intro acc;rw[List.replicate_succ,List.foldl_cons,d,Array.size_append,Nat.succ_mul];lia
  show((List.replicate i.toNat z.cps).foldl (· ++ ·) #[]).size<=_;rw[a];show 0+_<=_;rw[a8f,a7i];exact a6a _
def aU8:OpR X (binaryOp .Mult) bU7:=by
 intro pins s σ H x y v u Q I a b h;unfold bU7 at h;split at h;exact cY1 pins s σ H _ _ v u Q I a b ⟨_,_,rfl,rfl,h.1,h.2⟩
 ·rename_i z i;obtain⟨d,e,g,q⟩:=h;obtain⟨t,rfl⟩:=a;obtain⟨c,rfl⟩:=b;have f:z.length*i.toNat<=1000*1000:=Nat.mul_le_mul d (by lia);refine SB.mul ⟨?_,λha hb=>?_,λha hb=>?_⟩ λc k=>⟨.str _,H,I.tok k,⟨c,rfl⟩,q _ (cL1 z i e) rfl⟩;rw[a3y (by lia),a3y (by lia)];rfl
  ·have j:(1000:Int)<=(2 ^ 63-1) / i:=by
    rw[Int.le_ediv_iff_mul_le (by lia)];lia
   lia
  ·unfold Builtin.Str.tooLong;exact a3y (by rw[a3G];lia)
 ·exact h.elim
def dL0(neg:Bool):R2:=λx y H Q=>match y with
 | .str j=>(match x with | .str i=>Q (.bl (if neg then(Builtin.Str.occurrences j i 0 j.length 1).isEmpty else !(Builtin.Str.occurrences j i 0 j.length 1).isEmpty)) H | _=>False)
 | .ref p=>∃ b xs,eS H p=some (b,xs)/\vA x=true/\xs.all vA=true/\Q (.bl (if neg then !inV x xs else inV x xs)) H
 | _=>False
def dO8:OpR X (compareOp .In) (dL0 false):=by
 intro pins s σ H x y v u Q I a c h;unfold dL0 at h;split at h;split at h;exact aE6 pins s σ H _ _ v u Q I a c ⟨_,_,rfl,rfl,by simpa using h⟩;exact h.elim;rename_i p;obtain⟨b,xs,d,e,f,q⟩:=h;exact bH1 pins s σ H _ _ v u Q I a c ⟨p,xs,rfl,by cases b;exact .inr (eE d);exact .inl (fD d),e,f,q⟩;exact h.elim
def bU8:OpR X (compareOp .NotIn) (dL0 true):=by
 intro pins s σ H x y v u Q I a c h;unfold dL0 at h;split at h;split at h;exact aF6 pins s σ H _ _ v u Q I a c ⟨_,_,rfl,rfl,by simpa using h⟩;exact h.elim;rename_i p;obtain⟨b,xs,d,e,f,q⟩:=h;exact aF5 pins s σ H _ _ v u Q I a c ⟨p,xs,rfl,by cases b;exact .inr (eE d);exact .inl (fD d),e,f,q⟩;exact h.elim
end
def cL2{c:TT}{tb:TS}{D:Ends}{σ:St}{H:Hp}(Pv:Nat->St->Hp->Prop)(a:Nat)(h0:Pv a σ H)
  (step:∀ m σ H (N:St->Hp->Prop),Pv m σ H->(∀ σ' H' m',m' < m->Pv m' σ' H'->N σ' H')->c σ H λb d=>if b=true then ∃ M:St->Hp->Prop,(∀ σ' H',M σ' H'->N σ' H')/\tb {D with nx:=M,ct:=M,bk:=D.nx} σ d else D.nx σ d):aT7 c tb D σ H:=by
 refine⟨Pv,⟨a,h0⟩,λm σ H p=>?_⟩;exact step m σ H (λσ' H'=>∃ m',m' < m/\Pv m' σ' H') p λσ' H' m' hm q=>⟨m',hm,q⟩
section
variable{H:Hp}{Q:VK}{i j:Int}{p:Addr}{b:Bool}{xs:List V}
theorem bU9(h:bS6 i j):bU7 (.int i) (.int j) H Q=Q (.int (i*j)) H:=propext ⟨λq=>q.2,λq=>⟨h,q⟩⟩
def bV0(h:eS H p=some (b,xs)):bI3 [.ref p] H Q=∀ l,H l=none->Q (.ref l) (upd H l (.lst xs)):=
 propext ⟨λZ1=>by obtain⟨_,_,_,e,h',q⟩:=Z1;cases e;rw[h]at h';cases h';exact q,λq=>⟨p,b,xs,rfl,h,q⟩⟩
def dC1{n:Nat}{d:Int}(h0:0<=d)(a:d < n):ixN n d=some d.toNat:=by unfold ixN;rw[a3s h0,a3s a]
def tyL{K:W.Frag}(h:H p=some (.lst xs)):tyV K "list" (.ref p) H:=.inl ⟨rfl,_,SqL.of h⟩
end
end L2
namespace L2
theorem yM{a:Type}:∀ (l:List a) (i:Nat) (h:i < l.length),(l[i]::l.eraseIdx i).Perm l
 | [],i,h=>absurd h (a4i _)
 | x::r,0,_=>by simpa using List.Perm.refl _
 | x::r,i+1,h=>by
   have b:=yM r i (by simpa using h);simp only[List.getElem_cons_succ,List.eraseIdx_cons_succ];exact(List.Perm.swap x _ _).trans (b.cons x)
open PySem
def bV1{x:Str}{j:Int}(h0:0<=j)(a:j<=x.length):(Txt.slice x none (some j)).cps.toList=x.cps.toList.take j.toNat:=by
 have e:=PySem.StrLaws.sliceText_to (x:=x) (j:=j) ⟨h0,by simpa[Str.length]using a⟩;have b:Txt.slice x none (some j)=_:=e;rw[b];simp
def bB6{x:Str}{i:Int}(h0:0<=i)(b:i<=x.length):(Txt.slice x (some i) none).cps.toList=x.cps.toList.drop i.toNat:=by
 have a:i<=x.cps.toList.length:=by simpa[Str.length]using b
 have e:=PySem.StrLaws.sliceText_from (x:=x) (i:=i) ⟨h0,a⟩;have c:Txt.slice x (some i) none=_:=e;rw[c];show(x.cps.toList.drop i.toNat).take _=_;exact a2c (by rw[a7g];lia)
def oQ(x:Str):x.length=x.cps.toList.length:=by simp[Str.length]
def cL3{xs:List V}{m:Int}(h0:0<=m):aE2 xs none (some m)=xs.take m.toNat:=by
 unfold aE2;obtain⟨n,rfl⟩:=Int.eq_ofNat_of_zero_le h0;rw[HT.sIx_none,HT.sIx_nat,List.drop_zero,Nat.sub_zero];rw[Int.toNat_natCast];by_cases h:n<=xs.length;rw[Nat.min_eq_left h];rw[Nat.min_eq_right (by lia),a2c (a6a _),a2c (by lia)]
open PySem.Spec PyProof.Rows
noncomputable instance:DecidableEq Dt:=λ_ _=>Classical.propDecidable _
section
variable{X:Cx}{pins:List (Addr×Obj)}{σ:St}{H:Hp}{s:Shared}
end
section
variable{X:Cx}{pins:List (Addr×Obj)}{σ:St}{H:Hp}{s:Shared}
end
section
variable{X:Cx}
def cL4{prog:Program}{w:World}{A:Around}{E:Value->Shared->Prop}{s:Shared}{t b:Addr}{ws:List Value}{Q:Value->Shared->Prop}(h:IsTup s.heap t ([]:List Value).toArray)(hb:IsTup s.heap b ws.toArray)
  (i:Q (.ref b) s):wpAny (model prog w) A (binaryOp .Add (.ref t) (.ref b)) Q E s:=by
 obtain⟨⟨cls,j,data,sl⟩,e,f,n,hd⟩:=id h;obtain⟨⟨g,d,data2,sl2⟩,a,c,n2,hd2⟩:=id hb;simp only at f hd c hd2;subst f hd c hd2;exact concat_meets ⟨_,e,rfl⟩ ⟨_,a,rfl⟩ noFill_tuple_add seq_tuple_add F.slot_tuple_add F.entry_tuple_add (F.args_tuple_add_2 _ _)
   (tuple_addW0 t b ([]:List Value).toArray ws.toArray n n2 j d sl sl2 (by simp)) ⟨e,a,i⟩
def bV2:R2:=λx y H Q=>match x,y with
 | .int i,.int j=>Q (.int (i+j)) H
 | .str a,.str b=>a.length+b.length<=sizeLine/\Q (.str (a++b)) H
 | .ref p,.ref q=>(∃ xs ys,H p=some (.lst xs)/\H q=some (.lst ys)/\xs.length+ys.length<=sizeLine/\∀ r,H r=none->Q (.ref r) (upd H r (.lst (xs++ys)))) \/
   ∃ xs ys,eS H p=some (false,xs)/\eS H q=some (false,ys)/\xs.length+ys.length<=sizeLine/\(xs=[]->Q (.ref q) H)/\(xs≠[]->ys=[]->Q (.ref p) H)/\(xs≠[]->ys≠[]->∀ r,H r=none->Q (.ref r) (upd H r (.tup (xs++ys))))
 | _,_=>False
def yN:OpR X (binaryOp .Add) bV2:=by
 intro pins s σ H x y v u Q I a b h;unfold bV2 at h;split at h;exact cY0 pins s σ H _ _ v u Q I a b ⟨_,_,rfl,rfl,h⟩;exact bA4 pins s σ H _ _ v u Q I a b ⟨_,_,rfl,rfl,h.1,h.2⟩;rename_i p q;rcases h with⟨xs,ys,d,f,g,q⟩ | ⟨xs,ys,d,f,g,j,k,l⟩;exact cZ8 pins s σ H _ _ v u Q I a b ⟨_,_,xs,ys,rfl,rfl,d,f,g,q⟩;by_cases c:xs=[];cases a;cases b;obtain⟨its,m,n,_⟩:=I.tuple (eE d);obtain⟨i,r,o,_⟩:=I.tuple (eE f);have e:its=[]:=m.nil_iff.mpr c;subst e;exact cL4 n o ⟨.ref q,H,I,rfl,j c⟩;exact cH8 pins s σ H _ _ v u Q I a b ⟨p,q,xs,ys,rfl,rfl,eE d,eE f,c,g,k c,l c⟩;exact h.elim
theorem bV3{i j:Int}{H:Hp}{Q:VK}:bV2 (.int i) (.int j) H Q=Q (.int (i+j)) H:=rfl
def dL1(neg:Bool):R2:=λx y H Q=>match y with
 | .non=>Q (.bl (if neg then !decide (x=.non)else decide (x=.non))) H
 | .bl b=>(match x with | .bl a=>Q (.bl (if neg then !decide (a=b)else decide (a=b))) H | _=>False)
 | _=>False
end
section
variable{X:Cx}
theorem cL5{a b:Bool}{H:Hp}{Q:VK}:dL1 false (.bl a) (.bl b) H Q=Q (.bl (decide (a=b))) H:=rfl
theorem bV4{a b:Bool}{H:Hp}{Q:VK}:dL1 true (.bl a) (.bl b) H Q=Q (.bl (!decide (a=b))) H:=rfl
theorem cL6{x:V}{H:Hp}{Q:VK}:dL1 false x .non H Q=Q (.bl (decide (x=.non))) H:=rfl
theorem bV5{x:V}{H:Hp}{Q:VK}:dL1 true x .non H Q=Q (.bl (!decide (x=.non))) H:=rfl
theorem bI4:∀ {zs:List Str} {us:List Value},cA (zs.map V.str) us->∀ u∈us,∃ z t,u=.str z t
 | [],_,.nil=>λu a=>nomatch a
 | z::r,_,.cons b c=>λu a=>by
   rcases a1c.mp a with e | e;obtain⟨t,q⟩:=b;exact⟨z,t,e.trans q⟩;exact bI4 c u e
noncomputable def isZ(z:Str):Value->Bool
 | .str y _=>y==z
 | _=>false
end
section
variable{prog:Program}{w:World}{A:Around}{E:Value->Shared->Prop}{s:Shared}
end
noncomputable abbrev oR(acc:Array Value)(c:Nat):Obj:={cls:=.type "list",dict:=none,data:=.seq acc c,slots:=#[]}
structure LoopJ(prog:Program)(w:World)(A:Around)(I S:Addr)(n:Nat)(J:Nat->Array Value->Heap->Prop)(K:Array Value->Heap->Prop):Prop where
 item:∀ i acc (s:Shared) (c:Nat) (Q:Option Value->Shared->Prop) (E:Value->Shared->Prop),i < n->J i acc s.heap->s.heap.get? S=some (oR acc c) ->
  (∀ v h' tk,J (i+1) (acc.push v) h'->h'.get? S=some (oR acc c)->Q (some v) {s with heap:=h',toks:=tk})->wpAny (model prog w) A (pyNext (.ref I)) Q E s
 done:∀ acc (s:Shared) (c:Nat) (Q:Option Value->Shared->Prop) (E:Value->Shared->Prop),J n acc s.heap->s.heap.get? S=some (oR acc c) ->
  (∀ h' tk,K acc h'->h'.get? S=some (oR acc c)->Q none {s with heap:=h',toks:=tk})->wpAny (model prog w) A (pyNext (.ref I)) Q E s
 frame:∀ i acc h h',J i acc h->h'.objs.size=h.objs.size->(∀ b o,b≠S->h.get? b=some o->h'.get? b=some o)->J i acc h'
section
variable{prog:Program}{w:World}{A:Around}{E:Value->Shared->Prop}{I S:Addr}{n:Nat}{J:Nat->Array Value->Heap->Prop}{K:Array Value->Heap->Prop}{R:Result->Shared->Prop}
def dC2(L:LoopJ prog w A.in1 I S n J K)(hn:n<=sizeLine)(res:Value):∀ (k i:Nat) (s:Shared) (acc:Array Value) (c:Nat),n-i=k->i<=n->J i acc s.heap->acc.size=i->s.heap.get? S=some (oR acc c) ->
  (∀ h' tk a j,K a h'->a.size=n->h'.get? S=some (oR a j)->R (.ok (.ret res)) {s with heap:=h',toks:=tk})->codeAny (model prog w) A (.builtin "list.extend.loop" ⟨[.ref S,.ref I,res],[]⟩) R s:=by
 intro k
 induction k with
 | zero=>
   intro i s acc c x hi l ha m p;obtain rfl:i=n:=by lia
   (refine a3I F.entry_extend_loop ?_;rw[a0h a9i _])
   (show wpAny _ A.in1 (pyNext (.ref I) >>= _) _ _ s;refine a3r (L.done acc s c _ _ l m λh' tk q d=>?_))
   exact a3t (p h' tk acc c q ha d)
 | succ k y=>
   intro i s acc c x hi l ha m p;have f:i < n:=by lia
   (refine a3I F.entry_extend_loop ?_;rw[a0h a9i _])
   (show wpAny _ A.in1 (pyNext (.ref I) >>= _) _ _ s;refine a3r (L.item i acc s c _ _ f l m λv h' tk r d=>?_))
   (show wpAny _ A.in1 (updateSeq S (·.push v) >>= _) _ _ _;refine a3r ?_)
   refine a3Y d rfl (a3t ⟨a3S a9i _,y (i+1) _ (acc.push v) (c+1) (by lia) f ?_ (by rw[Array.size_push,ha]) ?_ ?_⟩) (by rw[ha];lia) (by show(acc.push v).size<=sizeLine+1;rw[Array.size_push,ha];lia);exact L.frame _ _ _ _ r (Heap.size_update ..) λb o hb e=>(a4e _ _ (a5d hb)).trans e;rw[a6e _ d rfl];simp[Obj.mapSeq];intro t g a j q u h;exact p t g a j q u h
end
section
variable{prog:Program}{w:World}{A:Around}{E:Value->Shared->Prop}{s:Shared}{I:Addr}{Q:Bool->Shared->Prop}
end
section
variable{prog:Program}{w:World}{A:Around}{E:Value->Shared->Prop}{s:Shared}
end
section
variable{X:Cx}
end
structure ZK(h0:Heap)(xs ys:Array Value)(acc:Array Value)(h:Heap):Prop where
 keep:∀ b o,h0.get? b=some o->h.get? b=some o
 got:∀ j,j < min xs.size ys.size->∃ T x y,acc[j]? = some (.ref T)/\xs[j]? = some x/\ys[j]? = some y/\IsPair h T x y/\h0.objs.size+6<=T
 nd:acc.toList.Nodup
section
variable{prog:Program}{w:World}{A:Around}{E:Value->Shared->Prop}{s:Shared}
end
section
variable{prog:Program}{w:World}{A:Around}{E:Value->Shared->Prop}{s:Shared}
end
section
variable{X:Cx}
end
def bI5{own:List Nat}{K:W.Frag}{n:Nat}{t:TGs}(a:bT3 own t):cI5 own (bB5 K n t):=λx σ H Q q=>by
 unfold bB5 at q ⊢;split at q;exact⟨q.1,a _ _ _ _ q.2⟩;obtain⟨xs,b,c,d⟩:=q;exact⟨xs,b,c,a _ _ _ _ d⟩;exact q.elim
noncomputable def wB(t c:String):Bool:=t==c||(t=="bool"&&c=="int")
def bV6{K:W.Frag}{t c:String}(a:t="NoneType"\/t="int"\/t="bool"\/t="str"\/t="list"\/t="tuple")(b:c="int"\/c="bool"\/c="str"\/c="list"\/c="tuple"):W.kitOne K (.type t) (.type c)=some (wB t c):=by
 rcases a with rfl | rfl | rfl | rfl | rfl | rfl<;>rcases b with rfl | rfl | rfl | rfl | rfl<;>first | exact bU6 | rfl | (unfold W.kitOne;decide +kernel) | (unfold W.kitOne;rfl)
end L2
namespace Mr
open PySem L2 PyProof.Rows
abbrev Sps:=W.Frag->Sp
def iI(H:Hp)(p:Addr):Prop:=∃ i j:Int,H p=some (.lst [.int i,.int j])
def SameBut(p:Addr)(H H':Hp):Prop:=∀ b o,b≠p->H b=some o->H' b=some o
theorem iI.upd{H:Hp}{p q:Addr}{o:HO}(h:iI H p)(a:H q=none):iI (L2.upd H q o) p:=by
 obtain⟨i,j,e⟩:=h;exact⟨i,j,by rw[aG (aL e a)];exact e⟩
def iI.put{H:Hp}{p q:Addr}{o:HO}(h:iI H p)(a:q≠p):iI (L2.upd H q o) p:=by
 obtain⟨i,j,e⟩:=h;exact⟨i,j,by rw[aG a.symm];exact e⟩
def iI.ne{H:Hp}{p q:Addr}(h:iI H p)(a:H q=none):q≠p:=by
 obtain⟨i,j,e⟩:=h;exact(aL e a).symm
theorem SameBut.upd{H a:Hp}{p q:Addr}{o:HO}(h:SameBut p H a)(c:a q=none):SameBut p H (L2.upd a q o):=λb u hb e=>by
 have:=h b u hb e;rw[aG (aL this c)];exact this
def SameBut.put{H a:Hp}{p q:Addr}{o:HO}(h:SameBut p H a)(c:H q=none):SameBut p H (L2.upd a q o):=λb u hb e=>by
 rw[aG (aL e c)];exact h b u hb e
def SameBut.trans{p:Addr}{H a c:Hp}(h:SameBut p H a)(h':SameBut p a c):SameBut p H c:=λb u hb e=>h' b u hb (h b u hb e)
def SameBut.refl{p:Addr}{H:Hp}:SameBut p H H:=λ_ _ _ e=>e
theorem SameBut.none{p q:Addr}{H H':Hp}(h:SameBut p H H')(hb:iI H' p)(a:H' q=Option.none):H q=Option.none:=by
 cases e:H q with
 | none=>rfl
 | some o=>
   by_cases z:q=p;subst z;obtain⟨i,j,b⟩:=hb;rw[b]at a;cases a;rw[h q o z e]at a;cases a
def mT:Sps:=λ_ vs H Q _=>∃ (p:Addr) (m:Int),vs=[.ref p,.int m]/\iI H p/\0 < m/\m < 1073741824 /\
 ∀ (d:Int) H',0<=d->d < m->iI H' p->SameBut p H H'->Q (.int d) H'
def pG:Sps:=λ_ vs H Q _=>∃ (p q:Addr) (b:Bool) (xs:List V),vs=[.ref p,.ref q]/\iI H p/\eS H q=some (b,xs)/\xs.length<=1000 /\
 ∀ (r:Addr) (ys:List V) H',H r=none->H' r=some (.lst ys)->ys.Perm xs->iI H' p->SameBut p H H'->Q (.ref r) H'
inductive Tr where
 | leaf (z:Str) | node (l r:Tr)
end Mr
namespace L2
open PySem PyProof.Rows
def bI6{H:Hp}{Q:VK}{p:Addr}{xs:List V}(h:eS H p=some (true,xs)):cL0 [.ref p] H Q=∀ l,H l=none->Q (.ref l) (upd H l (.tup xs)):=
 propext ⟨λZ1=>by obtain⟨_,_,_,e,h',q⟩:=Z1;cases e;rw[h]at h';cases h';simpa using q,λq=>⟨p,true,xs,rfl,h,by simpa using q⟩⟩
def dC3{H:Hp}{Q:VK}{p:Addr}{xs:List V}{lo hi:Option Int}(h:eS H p=some (true,xs))(q:∀ r,H r=none->Q (.ref r) (upd H r (.lst (aE2 xs lo hi)))):dO2 (.ref p) lo hi H Q:=Or.inl ⟨xs,h,q⟩
end L2
namespace L2
open PySem
theorem bI7{zs:List Str}:∀ {ys:List V},(∀ y∈ys,y∈zs.map V.str)->∃ cs:List Str,ys=cs.map V.str/\∀ c∈cs,c∈zs
 | [],_=>⟨[],rfl,λ_ h=>nomatch h⟩
 | y::r,h=>by
   obtain⟨z,b,e⟩:=a2e.mp (h y a3a);obtain⟨cs,d,f⟩:=bI7 (ys:=r) λu g=>h u (a5a _ g);refine⟨z::cs,by rw[a6d,← d,e],λc a=>?_⟩;rcases a1c.mp a with rfl | a;exact b;exact f c a
end L2
namespace L2
def dW7{a:Type}{x:a}{r:List a}:atI (x::r) 0=some x:=bG9 (j:=0) (by simp)
theorem dC4{K:PySem.W.Frag}{T:String}{r:V->List V->Hp->VK->Prop}{to:TE}{σ:St}{H:Hp}{Q:VK}:dK7 K T r to σ H Q=to σ H λx a=>tyV K T x a/\r x [] a Q:=rfl
end L2
namespace Mr
open PySem L2
def bI8{H:Hp}{w s:Addr}{ws:List Str}{es:List V}(c:H w=some (.lst (ws.map V.str)))(b:H s=some (.lst es)){a:Addr}(ha:V.ref a∈es):w≠s:=by
 intro z;subst z;rw[c]at b;cases b;obtain⟨z,_,e⟩:=a2e.mp ha;cases e
end Mr
namespace L2
open PySem
def aA5{X:Cx}(K:W.Frag)(b:X.K=K){tg l:Expr}{a:TE}(c:PE X l a):PI X tg l (dO3 K a):=by rw[← b];exact dB4 c
def aA6{X:Cx}{pos:Pos}(K:W.Frag)(b:X.K=K){es:List Expr}{k:Nat}{t:TGs}{n:Nat}(c:X.calm=true)(h:PGs X es t)
  (hn:(assignEach es X.env).length=n:=by rfl) (a:(assignEach es X.env).findIdx? (·.1)=none:=by rfl):PG X (.Tuple es k pos) (bB5 K n t):=by rw[← b];exact cK9 c h hn a
section
variable{X:Cx}{o e:Expr}{es:List Expr}{to:TE}{t:TA}{name:Str}{apos cpos:Pos}{T id:String}{r:V->List V->Hp->VK->Prop}
def cL7(K:W.Frag)(d:X.K=K)(pa:PlainAttrs T)(slot:Slot T name id)(c:typeOf (.builtin id)=pure (.type "method_descriptor"))(hm:MtR X id r)(e:PE X o to)
  (a:attributeBase o name X.env (eval o X.env)=eval o X.env:=by rfl) (b:(apos.endLine==cpos.line)=true:=by rfl):PE X (.Call (.Attribute o name apos) [] [] cpos) (dK7 K T r to):=by rw[← d];exact cZ6 pa slot c hm e a b
def jG(K:W.Frag)(g:X.K=K)(pa:PlainAttrs T)(slot:Slot T name id)(f:typeOf (.builtin id)=pure (.type "method_descriptor"))(hm:MtR X id r)(h:PE X o to)(ha:PA X (e::es) t)
  (b:attributeBase o name X.env (eval o X.env)=eval o X.env:=by rfl)
  (d:((backTo cpos (starEach (e::es) X.env)).all (λx=>!x.1)&&(backToKw cpos (keywordEach [] X.env)).all (λx=>x.1.isSome)&&decide ((e::es).length+([]:List Keyword).length+(if([]:List Keyword).isEmpty then 0 else 1) < 30))=true:=by rfl)
  (c:(apos.endLine==cpos.line)=true:=by rfl) (hs:starEach (e::es) X.env=(false,eval e X.env)::starEach es X.env:=by rfl) (a:(backTo cpos (starEach es X.env)).any (·.1)=false:=by rfl) :
  PE X (.Call (.Attribute o name apos) (e::es) [] cpos) (tBM K T r to t):=by rw[← g];exact dN3 pa slot f hm h ha b d c hs a
end
theorem dC5{i j:Nat}{a:TA}{D:Ends}{σ:St}{H:Hp}:dV4 i j a D σ H=a σ H λvs H1=>∃ v w,vs=[v,w]/\D.nx ((σ.set i (some v)).set j (some w)) H1:=rfl
end L2
namespace Mr
open PySem L2
end Mr
namespace L2
open PySem
section
variable{H:Hp}{Q:VK}{p q:Addr}{xs:List V}
end
end L2
namespace L2
end L2
namespace Mr
open PySem L2
open PyProof.Rows
section
variable{p q f l sp:Addr}{t:Tr}{v:V}{es ls:List V}{zs:List Str}{H0 H H':Hp}{fs:List V}
end
end Mr
namespace L2
open PySem
section
variable{M:Model}{A:Around}{E:Value->Shared->Prop}{s:Shared}
end
open PySem.Spec PyProof.Rows
section
variable{P:Program}{w:World}{H:Hp}{h:Heap}{e:Addr}{C:Value}{d:Option Addr}{tb:Value}
end
section
variable{X:Cx}{pins:List (Addr×Obj)}{σ:St}{H:Hp}{s:Shared}
end
section
variable{P:Program}{w:World}{K:W.Frag}{mg:Str->Option Value}{base:Heap}{N:List Str}{qual:Str}{scope:Scope}{f:Addr}{cd:Value}{A:Around}{outer:List Env}{s:Shared}{H:Hp}{E:XK}
end
end L2
namespace PySem
section
variable{prog:Program}{w:World}{E:Value->Shared->Prop}{A:Around}{os:OsState}{h:Heap}{t:Nat}{g:Array GenState}{d:Drawn}{eZ:List Value}{fI:Addr}{oI:Obj}{mN:Str->Option Value}
 {nm q:Str} {B newId initId:String} {C N:Addr} {bs bm bmB sub:List Value} {hdct ab:Bool} {sn:List Str} {col:Option Bool} {dd:Option Addr} {k0 k1 k2 k3 k5:Option Value}
end
end PySem
namespace L2
open PySem PySem.Spec PyProof.Rows
section
variable{P:Program}{w:World}{H:Hp}{h:Heap}{a:Addr}{o:HO}
end
section
variable{X:Cx}{pins:List (Addr×Obj)}{σ:St}{H:Hp}{s:Shared}
end
section
variable{X:Cx}{CX:CXT}{k:Nat}{f C:Addr}{fd:FuncData}{ps:List Str}{sp:Sp}{E:XK}{x:Str}{p pos:Pos}{e:Expr}{es:List Expr}{t:TA}{B newId initId:String}{bmB:List Value}
end
end L2
namespace L2
open PySem
section
variable{M:Model}{A:Around}{E:Value->Shared->Prop}{env:Env}
variable{nm q:Str}{C N:Addr}{bs bm:List Value}{hdct:Bool}{sn:List Str}{sub:List Value}{ab:Bool}{col:Option Bool}{dd:Option Addr}{k0 k1 k2 k3 k5:Option Value}{newId:String}
end
open PyProof.Rows
section
variable{prog:Program}{w:World}{A:Around}{E:Value->Shared->Prop}{h:Heap}{g:Array GenState}{d:Drawn}{t:Nat}{os:OsState}
variable{nm q:Str}{C N:Addr}{bs bm bmB:List Value}{hdct:Bool}{sn:List Str}{sub:List Value}{ab:Bool}{col:Option Bool}{dd:Option Addr}{k0 k1 k2 k3 k5:Option Value}{B newId initId:String}
end
open PySem.W PySem.Spec PySem.Builtin PySem.Builtin.ObjectAttr
section
variable{prog:Program}{w:World}{A:Around}{E:Value->Shared->Prop}{s:Shared}{K:Frag}{x C:Addr}{ox:Obj}{name:Str}{v:Value}{cd:ClassData}{bmB:List Value}{B:String}{Q:Unit->Shared->Prop}{R:Result->Shared->Prop}
end
end L2
namespace L2
open PySem PySem.W PySem.Spec PyProof.Rows
section
variable{prog:Program}{w:World}{A:Around}{E:Value->Shared->Prop}{s:Shared}{K:Frag}{x C:Addr}{ox:Obj}{od:Option Obj}{name:Str}{expr:Bool}{v:Value}{Q:Value->Shared->Prop}{B:String}
end
section
variable{M:Model}{A:Around}{E:Value->Shared->Prop}{s:Shared}
variable{K:Frag}{e C D:Addr}{oe:Obj}{Q:Bool->Shared->Prop}
end
section
variable{prog:Program}{w:World}{A:Around}{E:Value->Shared->Prop}{s:Shared}{K:Frag}{x C:Addr}{ox:Obj}{od:Option Obj}{B:String}
end
end L2
namespace L2
open PySem PySem.Spec PyProof.Rows
section
variable{X:Cx}{o e value:Expr}{to te tv:TE}{f:Str}{pos pos' apos:Pos}
end
section
variable{P:Program}{w:World}{K:W.Frag}{mg:Str->Option Value}{base:Heap}{N:List Str}{qual:Str}{scope:Scope}{f:Addr}{cd:Value}{A:Around}{outer:List Env}{s:Shared}{H:Hp}{E:XK}{x:Expr}{te:TE}{pos:Pos}
end
section
variable{X:Cx}{C:Addr}{x:Str}{p pos:Pos}{e:Expr}{es:List Expr}{t:TA}
end
section
variable{X:Cx}{R:Str}{CR:Addr}{rp apos pos:Pos}{a:Expr}{as:List Expr}{t:TA}
end
section
variable{X:Cx}{e:Expr}{te:TE}{z1:Str}{j:Nat}{p p' pos:Pos}
end
section
variable{X:Cx}{pins pins':List (Addr×Obj)}{σ:St}{H:Hp}{s:Shared}{E:Value->Shared->Prop}{e:Value}
end
section
variable{X:Cx}{CX:CXT}{k:Nat}{f:Addr}{fd:FuncData}{ps:List Str}{sp:Sp}{E:St->XK}{x:Str}{p pos:Pos}{e:Expr}{es:List Expr}{t:TA}{pins0:List (Addr×Obj)}
end
section
variable{X:Cx}{pins:List (Addr×Obj)}{σ:St}{H:Hp}{s:Shared}{T:Addr}{oT:Obj}
end
abbrev TH:=Addr->Addr->Option Addr->Addr->TS
section
variable{X:Cx}{t:Expr}{tt:TE}{n:Str}{i:Nat}{b0:Stmt}{body:List Stmt}{ts:TS}{pos:Pos}{eZ:List ExceptHandler}{th:TH}
end
section
variable{κ:Type}[DecidableEq κ]
noncomputable def vD(kvs:List (κ×V))(k:κ):Option V:=(kvs.find? λa=>decide (a.1=k)).map (·.2)
def mB{p:κ×V}{r:List (κ×V)}{k:κ}(e:p.1=k):vD (p::r) k=some p.2:=by simp[vD,List.find?_cons,e]
def mD{p:κ×V}{r:List (κ×V)}{k:κ}(e:¬ p.1=k):vD (p::r) k=vD r k:=by simp[vD,List.find?_cons,e]
theorem cT2.getD{o:Option V}{u:Option Value}{d:V}{d':Value}(r:cT2 o u)(rd:eA d d'):eA (o.getD d) (u.getD d'):=by
 cases o with
 | none=>cases u with
   | none=>exact rd
   | some _=>exact(show False from r).elim
 | some _=>cases u with
   | none=>exact(show False from r).elim
   | some _=>exact r
end
def dO9{P:Program}{w:World}{k:Key}{u:Value}(r:eA (kV k) u):(dI P w).is k u=true:=by
 cases k with
 | inl i=>obtain⟨t,e⟩:=(show ∃ t,u=Value.int i t from r);subst e;exact aN5 P w i t
 | inr x=>obtain⟨t,e⟩:=(show ∃ t,u=Value.str x t from r);subst e;exact aN6 P w x t
theorem aG1{P:Program}{w:World}:∀ {ks:List Key} {us:List Value},cA (ks.map kV) us->ItemsAre (dI P w) ks us
 | [],_,r=>by rw[List.map_nil]at r;cases r;exact .nil
 | k::ks,_,r=>by
   rw[a6d]at r;cases r with
   | cons h t=>exact .cons (dO9 h) (aG1 t)
abbrev KT(H:Hp):List (List Key×V)->List (List Key×Addr×Value)->Prop:=Paired λp q=>p.1=q.1/\H q.2.1=some (.tup (p.1.map kV))/\eA p.2 q.2.2
def KT.val{H:Hp}{kvs:List (List Key×V)}{xs:List (List Key×Addr×Value)}(r:KT H kvs xs)(k:List Key):cT2 (vD kvs k) ((atKey xs k).map (·.2)):=by
 induction r with
 | nil=>exact True.intro
 | @cons p q ps a h t f=>
   obtain⟨d,_,g⟩:=h;by_cases e:p.1=k
   ·have c:q.1=k:=d.symm.trans e;have b:atKey (q::a) k=some q.2:=by simp[atKey,List.find?_cons,c]
    rw[mB e,b];exact g
   ·have c:¬ q.1=k:=λz=>e (d.trans z);have b:atKey (q::a) k=atKey a k:=by simp[atKey,List.find?_cons,c]
    rw[mD e,b];exact f
def KT.keeps{H H':Hp}{kvs:List (List Key×V)}{xs:List (List Key×Addr×Value)}(r:KT H kvs xs)(a:∀ b ys,H b=some (.tup ys)->H' b=some (.tup ys)):KT H' kvs xs:=
 Paired.mapP r λ_ _ z=>⟨z.1,a _ _ z.2.1,z.2.2⟩
section
variable{P:Program}{w:World}{H:Hp}{h:Heap}{a:Addr}
def dC6{u:HO}(ok:HOk P w H h)(e:Rd H a u):dJ P w H h a u:=e.ok ok
def cL8{kvs:List (Key×V)}(ok:HOk P w H h)(e:Rd H a (.dK kvs)):kvs.length<=sizeLine/\(a==sysModules)=false/\∃ vs,KV kvs vs/\h.DictOf (dI P w) a vs:=
 show dJ P w H h a (.dK kvs)from dC6 ok e
def dP0{kvs:List (Key×V)}(ok:HOk P w H h)(e:H a=some (.dK kvs)):kvs.length<=sizeLine/\(a==sysModules)=false/\∃ vs,KV kvs vs/\h.DictOf (dI P w) a vs:=cL8 ok (.inl e)
def bI9{ks:List Key}(ok:HOk P w H h)(e:H a=some (.tup (ks.map kV))):(tupleKind (dI P w)).is h ks a:=by
 obtain⟨_,its,r,⟨o,b,c,n,d⟩,_⟩:=(show dJ P w H h a (.tup (ks.map kV))from ok a _ e);exact⟨o,its.toArray,n,b,c,d,by simpa using aG1 r⟩
def cL9{kvs:List (List Key×V)}(ok:HOk P w H h)(e:Rd H a (.dT kvs)):kvs.length<=sizeLine/\(a==sysModules)=false /\
  ∃ xs,KT H kvs xs/\h.DictOfH (tupleKind (dI P w)) a xs:=by
 obtain⟨z,y,xs,r,o,es,ep,d,f,g,i,j⟩:=(show dJ P w H h a (.dT kvs)from dC6 ok e);refine⟨z,y,xs,r,o,es,ep,d,f,g,i,λx b=>?_,j⟩;have all:∀ {l:List (List Key×V)} {m:List (List Key×Addr×Value)},KT H l m->∀ x∈m,(tupleKind (dI P w)).is h x.1 x.2.1:=by
  intro l m q
  induction q with
  | nil=>intro x b;exact nomatch b
  | @cons p q ps n c t k=>
    intro x b;rcases a1c.mp b with e | b;subst e;exact bI9 ok (by rw[← c.1];exact c.2.1);exact k x b
 exact all r x b
def dP1{kvs:List (List Key×V)}(ok:HOk P w H h)(e:H a=some (.dT kvs)):kvs.length<=sizeLine/\(a==sysModules)=false /\
  ∃ xs,KT H kvs xs/\h.DictOfH (tupleKind (dI P w)) a xs:=cL9 ok (.inl e)
end
section
variable{X:Cx}{pins:List (Addr×Obj)}{σ:St}{H:Hp}{s:Shared}{a:Addr}{y v:V}{u r:Value}{o:Option V}{A:Around}{E:Value->Shared->Prop}
def Inv.big(I:Inv X pins σ H s):sysModules < s.heap.objs.size:=by
 have h:mainGlobals < s.heap.objs.size:=(I.mod.glob.keeps I.bk).lt;exact a3h (by decide) h
def cM0{h':Heap}{t':Nat}{ob:HO}(I:Inv X pins σ H s)(mu:Mut (H a))(hs:Heap.SameBut a s.heap h')(d:∃ q,h'.get? a=some q)(c:dJ X.prog X.w (upd H a ob) h' a ob) :
  Inv X pins σ (upd H a ob) {s with heap:=h',toks:=t'}:=
 I.write (x:=a) (e:=a) mu (.inl rfl) (λb q hb z=>(hs.2 b hb).trans z) d c
end
section
variable{X:Cx}{pins:List (Addr×Obj)}{σ:St}{H:Hp}{s:Shared}{a:Addr}{kvs:List (Key×V)}{k:Key}{u:Value}{A:Around}{E:Value->Shared->Prop}
end
section
variable{X:Cx}{o i e value:Expr}{pos pos' tpos:Pos}{td ty tv:TE}
end
def bV7{P:Program}{w:World}{H:Hp}(h:Heap)(hb:sysModules < h.objs.size):dJ P w H (h.push {cls:=.type "dict",data:=.dict #[]}) h.objs.size (.dT []):=
 ⟨a2d _,beq_eq_false_iff_ne.mpr (a5d (a0e hb)),[],.nil,_,#[],0,a9b _ rfl,⟨rfl,rfl,rfl⟩,rfl,rfl,List.nodup_nil⟩
def bJ0:TE:=λ_ H Q=>∀ p,H p=none->Q (.ref p) (upd H p (.dT []))
section
variable{X:Cx}{pos:Pos}
def bV8:PE X (.Dict [] [] pos) bJ0:=λpins s σ H Q I h=>
 wpAny_Dict_empty ⟨.ref s.heap.objs.size,_,I.laid (a:=s.heap.objs.size) (o:=.dT []) (t':=s.toks) (λ_ _ q=>a8a _ q) (a6a _) (bV7 s.heap I.big),rfl,h _ (I.hok.fresh (a6a _))⟩
end
structure M2(X:Cx)(o:Expr)(m:Str)(apos:Pos)(e f:Expr)(cpos:Pos):Prop where
 base:attributeBase o m X.env (eval o X.env)=eval o X.env
 few:((backTo cpos (starEach [e,f] X.env)).all (λx=>!x.1)&&(backToKw cpos (keywordEach [] X.env)).all (λx=>x.1.isSome)
  && decide (([e,f]:List Expr).length+([]:List Keyword).length+(if([]:List Keyword).isEmpty then 0 else 1) < 30))=true
 line:(apos.endLine==cpos.line)=true
 trees:backTo cpos (starEach [e,f] X.env)=[(false,eval e X.env),(false,eval f X.env)]
def IsD(H:Hp)(a:Addr):Prop:=(∃ kvs,Rd H a (.dK kvs))\/∃ kvs,Rd H a (.dT kvs)
def cD5{X:Cx}{pins:List (Addr×Obj)}{σ:St}{H:Hp}{s:Shared}{a:Addr}(I:Inv X pins σ H s)(d:IsD H a) :
  s.TypeIs (.ref a) "dict"/\(∀ b,Value.ref a=.ref b->∃ ob,s.heap.get? b=some ob/\ob.dict=none)/\(a==sysModules)=false:=by
 rcases d with⟨kvs,e⟩ | ⟨kvs,e⟩;obtain⟨_,hd,vs,_,c⟩:=cL8 I.hok e;refine⟨c.typeIs,λb q=>?_,hd⟩;cases q;obtain⟨ob,_,_,f,g,_⟩:=c;exact⟨ob,f,g.2.1⟩;obtain⟨_,hd,xs,_,c⟩:=cL9 I.hok e;refine⟨c.typeIs,λb q=>?_,hd⟩;cases q;obtain⟨ob,_,_,f,g,_⟩:=c;exact⟨ob,f,g.2.1⟩
section
variable{X:Cx}{pins:List (Addr×Obj)}{σ:St}{H:Hp}{s:Shared}{a:Addr}{y d:V}{u r:Value}{o:Option V}{A:Around}{E:Value->Shared->Prop}
end
section
variable{X:Cx}{o e f:Expr}{apos cpos:Pos}{td ty tx:TE}
end
section
variable{X:Cx}{pins:List (Addr×Obj)}{σ:St}{H:Hp}{s:Shared}{a:Addr}{kvs:List (Key×V)}{A:Around}{E:Value->Shared->Prop}
end
section
variable{X:Cx}{pins:List (Addr×Obj)}{σ:St}{H:Hp}{s:Shared}{a:Addr}{y:V}{u:Value}{A:Around}{E:Value->Shared->Prop}
end
section
variable{X:Cx}
end
section
variable{K:W.Frag}{t:TA}{te to tv:TE}{f:Str}{σ:St}{H:Hp}{Q:VK}{D:Ends}{sp:Sp}{C:Addr}{E:XK}{Ex:St->XK}{tb:(St->XK)->TS}{th:TH}{i:Nat}{ts:TS}
end
end L2
namespace Mr
open PySem L2 PyProof.Rows
end Mr
namespace Mr
open PySem L2
section
variable{K:W.Frag}{H:Hp}{C t D0 D1 D2 D3:Addr}{b0 b1 b2 b3:Bool}
end
end Mr
namespace L2
open PySem PySem.Spec PyProof.Rows
section
variable{X:Cx}
end
section
variable{t tk tv td ty tx:TE}{r:List (TE×TE)}{σ:St}{H:Hp}{Q:VK}{R:List (V×V)->Hp->Prop}
end
end L2
namespace Mr
open PySem L2 PyProof.Rows
theorem yO{m:Nat}{sep:Str}(hs:∀ c∈sep.cps.toList,c < m):∀ zs:List Str,(∀ z∈zs,∀ c∈z.cps.toList,c < m)->∀ c∈(Str.join sep zs).cps.toList,c < m
 | [],_=>λc a=>by simp[Str.join,Str.empty]at a
 | [x],h=>λc a=>h x a3a c a
 | x::y::r,h=>λc a=>by
   have b:=yO hs (y::r) λz d=>h z (a5a _ d);have e:(Str.join sep (x::y::r)).cps.toList=x.cps.toList++sep.cps.toList++(Str.join sep (y::r)).cps.toList:=by
    show(x++sep++Str.join sep (y::r)).cps.toList=_;rw[Str.cps_append,Str.cps_append,Array.toList_append,Array.toList_append]
   rw[e]at a;rcases a3c.mp a with a | a;rcases a3c.mp a with a | a;exact h x a3a c a;exact hs c a;exact b c a
def aO5{m:Nat}{sep:Str}(hs:∀ c∈sep.cps.toList,c < m)(zs:List Str)(h:∀ z∈zs,∀ c∈z.cps.toList,c < m):∀ c∈(Txt.join sep zs).cps.toList,c < m:=by
 show ∀ c∈(Builtin.Str.glued sep zs).cps.toList,c < m;rw[StrLaws.glued_eq_join];exact yO hs zs h
def cM1:∀ c∈(Str.ofString "abcdefghijklmnopqrstuvwxyz").cps.toList,c < 128:=by decide
end Mr
namespace Dv
open PySem L2
inductive D where
 | non | bl (b:Bool) | int (i:Int) | str (x:Str) | tup (l:List D) | lst (l:List D) | dic (ks vs:List D)
noncomputable instance:DecidableEq D:=λ_ _=>Classical.propDecidable _
noncomputable instance:Inhabited D:=⟨.non⟩
noncomputable def yP:Key->D
 | .inl i=>.int i
 | .inr x=>.str x
def cM2:HO->List D->List V->Prop
 | .dK kvs,ks,ws=>ks=kvs.map (λa=>yP a.1)/\ws=kvs.map (·.2)
 | .dT kvs,ks,ws=>ks=kvs.map (λa=>D.tup (a.1.map yP))/\ws=kvs.map (·.2)
 | _,_,_=>False
mutual
inductive Rp(H:Hp):D->V->Prop
 | non:Rp H .non .non
 | bl (b:Bool):Rp H (.bl b) (.bl b)
 | int (i:Int):Rp H (.int i) (.int i)
 | str (x:Str):Rp H (.str x) (.str x)
 | tup {l:List D} {p:Addr} {xs:List V}:H p=some (.tup xs)->Rps H l xs->Rp H (.tup l) (.ref p)
 | lst {l:List D} {p:Addr} {xs:List V} {o:Obj}:H p=some (.frz o (.lst xs))->Rps H l xs->Rp H (.lst l) (.ref p)
 | dic {ks vs:List D} {p:Addr} {o:Obj} {u:HO} {ws:List V}:H p=some (.frz o u)->cM2 u ks ws->Rps H vs ws->Rp H (.dic ks vs) (.ref p)
inductive Rps(H:Hp):List D->List V->Prop
 | nil:Rps H [] []
 | cons {d:D} {r:List D} {x:V} {xs:List V}:Rp H d x->Rps H r xs->Rps H (d::r) (x::xs)
end
structure Ext(H H':Hp):Prop where
 tup:∀ p xs,H p=some (.tup xs)->H' p=some (.tup xs)
 frz:∀ p o u,H p=some (.frz o u)->H' p=some (.frz o u)
def Ext.same{H H':Hp}(h:zZ H H'):Ext H H':=⟨λp xs e=>h p _ e,λp o u e=>h p _ e⟩
mutual
theorem Rp.mono{H H':Hp}(a:Ext H H'):∀ {d:D} {x:V},Rp H d x->Rp H' d x
 | _,_,.non=>.non
 | _,_,.bl b=>.bl b
 | _,_,.int i=>.int i
 | _,_,.str x=>.str x
 | _,_,.tup h r=>.tup (a.tup _ _ h) (Rps.mono a r)
 | _,_,.lst h r=>.lst (a.frz _ _ _ h) (Rps.mono a r)
 | _,_,.dic h k r=>.dic (a.frz _ _ _ h) k (Rps.mono a r)
theorem Rps.mono{H H':Hp}(b:Ext H H'):∀ {l:List D} {xs:List V},Rps H l xs->Rps H' l xs
 | _,_,.nil=>.nil
 | _,_,.cons a r=>.cons (Rp.mono b a) (Rps.mono b r)
end
section
variable{H:Hp}
theorem Rps.length:∀ {l:List D} {xs:List V},Rps H l xs->l.length=xs.length
 | _,_,.nil=>rfl
 | _,_,.cons _ r=>by simp[Rps.length r]
theorem Rps.get:∀ {l:List D} {xs:List V} {i:Nat} {d:D},Rps H l xs->l[i]? = some d->∃ x,xs[i]? = some x/\Rp H d x
 | _,_,_,_,.nil,h=>by simp at h
 | _,_,0,_,.cons a r,h=>by simp at h;subst h;exact⟨_,rfl,a⟩
 | _,_,i+1,_,.cons a r,h=>by
   obtain⟨x,e,q⟩:=Rps.get (i:=i) r (by simpa using h);exact⟨x,by simpa using e,q⟩
theorem Rps.append:∀ {l m:List D} {xs ys:List V},Rps H l xs->Rps H m ys->Rps H (l++m) (xs++ys)
 | _,_,_,_,.nil,h=>h
 | _,_,_,_,.cons a r,h=>.cons a (Rps.append r h)
theorem Rps.take:∀ {l:List D} {xs:List V} (n:Nat),Rps H l xs->Rps H (l.take n) (xs.take n)
 | _,_,0,_=>.nil
 | _,_,_+1,.nil=>.nil
 | _,_,n+1,.cons a r=>.cons a (Rps.take n r)
theorem Rps.drop:∀ {l:List D} {xs:List V} (n:Nat),Rps H l xs->Rps H (l.drop n) (xs.drop n)
 | _,_,0,r=>r
 | _,_,_+1,.nil=>.nil
 | _,_,n+1,.cons _ r=>Rps.drop n r
theorem Rps.set:∀ {l:List D} {xs:List V} {d:D} {x:V} (i:Nat),Rps H l xs->Rp H d x->Rps H (l.set i d) (xs.set i x)
 | _,_,_,_,_,.nil,_=>.nil
 | _,_,_,_,0,.cons _ r,q=>.cons q r
 | _,_,_,_,i+1,.cons a r,q=>.cons a (Rps.set i r q)
theorem Rps.eraseIdx:∀ {l:List D} {xs:List V} (i:Nat),Rps H l xs->Rps H (l.eraseIdx i) (xs.eraseIdx i)
 | _,_,_,.nil=>.nil
 | _,_,0,.cons _ r=>r
 | _,_,i+1,.cons a r=>.cons a (Rps.eraseIdx i r)
theorem vE:∀ ns:List Int,Rps H (ns.map D.int) (ns.map V.int)
 | []=>.nil
 | n::r=>.cons (.int n) (vE r)
theorem aU9:∀ ns:List Str,Rps H (ns.map D.str) (ns.map V.str)
 | []=>.nil
 | n::r=>.cons (.str n) (aU9 r)
theorem Rps.ints_inv:∀ {ns:List Int} {xs:List V},Rps H (ns.map D.int) xs->xs=ns.map V.int
 | [],_,h=>by cases h;rfl
 | n::r,_,h=>by
   rw[a6d]at h;cases h with
   | cons a t=>cases a;rw[Rps.ints_inv t];rfl
theorem Rps.strs_inv:∀ {ns:List Str} {xs:List V},Rps H (ns.map D.str) xs->xs=ns.map V.str
 | [],_,h=>by cases h;rfl
 | n::r,_,h=>by
   rw[a6d]at h;cases h with
   | cons a t=>cases a;rw[Rps.strs_inv t];rfl
theorem Rps.bls_inv:∀ {ns:List Bool} {xs:List V},Rps H (ns.map D.bl) xs->xs=ns.map V.bl
 | [],_,h=>by cases h;rfl
 | n::r,_,h=>by
   rw[a6d]at h;cases h with
   | cons a t=>cases a;rw[Rps.bls_inv t];rfl
end
inductive Md where
 | val | own | par | lent
 deriving DecidableEq
noncomputable def Md.mt:Md->Bool
 | .own=>true
 | .par=>true
 | _=>false
structure Sl where
 m:Md
 d:D
abbrev Sg:=List (Option Sl)
def dW(H:Hp)(d:D)(p:Addr):Prop:=match d with
 | .lst l=>∃ xs,H p=some (.lst xs)/\Rps H l xs
 | .dic ks vs=>∃ u ws,H p=some u/\cM2 u ks ws/\Rps H vs ws
 | _=>False
theorem dW.mono{H H':Hp}{d:D}{p:Addr}(h:dW H d p)(e:Ext H H')(c:∀ o,H p=some o->H' p=some o):dW H' d p:=by
 unfold dW at h ⊢;split at h;obtain⟨xs,a,b⟩:=h;exact⟨xs,c _ a,b.mono e⟩;obtain⟨u,ws,a,b,f⟩:=h;exact⟨u,ws,c _ a,b,f.mono e⟩;exact h.elim
def dW.obj{H:Hp}{d:D}{p:Addr}(h:dW H d p):∃ o,H p=some o/\(∀ xs,o≠.tup xs)/\∀ ob u,o≠.frz ob u:=by
 unfold dW at h;split at h;obtain⟨xs,a,b⟩:=h;exact⟨_,a,⟨λ_ z=>(by cases z),λ_ _ z=>(by cases z)⟩⟩;obtain⟨u,ws,a,b,c⟩:=h;refine⟨_,a,λ_ z=>?_,λ_ _ z=>?_⟩<;>(subst z;exact b);exact h.elim
def bV9(H:Hp)(s:Sl)(v:V):Prop:=match s.m with
 | .val=>Rp H s.d v
 | _=>∃ p,v=.ref p/\dW H s.d p
def dM{H:Hp}{s:Sl}{v:V}(h:s.m≠.val):bV9 H s v↔∃ p,v=.ref p/\dW H s.d p:=by
 obtain⟨m,d⟩:=s;cases m with
 | val=>exact absurd rfl h
 | own=>exact Iff.rfl
 | par=>exact Iff.rfl
 | lent=>exact Iff.rfl
def Vw(H:Hp)(d:D)(v:V):Prop:=Rp H d v\/∃ p,v=.ref p/\dW H d p
def bV9.vw{H:Hp}{s:Sl}{v:V}(h:bV9 H s v):Vw H s.d v:=by
 by_cases e:s.m=.val;obtain⟨m,d⟩:=s;cases e;exact .inl h;exact .inr ((dM e).mp h)
inductive Vws(H:Hp):List D->List V->Prop
 | nil:Vws H [] []
 | cons {d:D} {r:List D} {x:V} {xs:List V}:Vw H d x->Vws H r xs->Vws H (d::r) (x::xs)
def jJ(σ:Sg)(σV:St)(a:Addr):Prop:=∃ (i:Nat) (s:Sl),σ[i]? = some (some s)/\s.m.mt=true/\σV[i]? = some (some (.ref a))
def aV0(σ:Sg)(σV:St)(a:Addr):Prop:=∃ (i:Nat) (s:Sl),σ[i]? = some (some s)/\s.m≠.val/\σV[i]? = some (some (.ref a))
def jJ.nv{σ:Sg}{σV:St}{a:Addr}(h:jJ σ σV a):aV0 σ σV a:=by
 obtain⟨i,s,c,b,d⟩:=h;exact⟨i,s,c,λz=>(by rw[z]at b;cases b),d⟩
structure Gm where
 H₀:Hp
 pr:Addr->Prop
structure StOk(Γ:Gm)(H:Hp)(σ:Sg)(σV:St):Prop where
 rel:∀ (i:Nat) s,σ[i]? = some (some s)->∃ v,σV[i]? = some (some v)/\bV9 H s v
 dis:∀ (i j:Nat) s t p,i≠j->σ[i]? = some (some s)->σ[j]? = some (some t)->s.m.mt=true->t.m≠.val->σV[i]? = some (some (.ref p))->σV[j]? = some (some (.ref p))->False
 own:∀ (i:Nat) s p,σ[i]? = some (some s)->s.m=.own->σV[i]? = some (some (.ref p))->Γ.H₀ p=none
 par:∀ (i:Nat) s p,σ[i]? = some (some s)->s.m=.par->σV[i]? = some (some (.ref p))->Γ.pr p
 keep:∀ a o,Γ.H₀ a=some o->¬ Γ.pr a->H a=some o
 dom:∀ a,H a=none->Γ.H₀ a=none
 len:σ.length=σV.length
structure Step(σ:Sg)(σV:St)(H:Hp)(σ':Sg)(σV':St)(H':Hp):Prop where
 fr:∀ a o,H a=some o->¬ jJ σ σV a->H' a=some o
 dom:∀ a,H' a=none->H a=none
 mu:∀ a,jJ σ' σV' a->jJ σ σV a\/H a=none
 nv:∀ a,aV0 σ' σV' a->aV0 σ σV a\/H a=none
 kp:∀ (i:Nat) s,σ[i]? = some (some s)->∃ s',σ'[i]? = some (some s')
 fix:∀ (i:Nat) s,σ[i]? = some (some s)->(s.m=.par\/s.m=.lent)->∃ s',σ'[i]? = some (some s')/\s'.m=s.m/\(s.m=.lent->s'.d=s.d)/\σV'[i]? = σV[i]?
 lt:∀ (i:Nat) s',σ'[i]? = some (some s')->s'.m=.lent->∃ s,σ[i]? = some (some s)/\s.m=.lent
section
variable{σ σ1 σ2:Sg}{σV σV1 σV2:St}{H H1 H2:Hp}{Γ:Gm}
def Step.refl:Step σ σV H σ σV H:=⟨λ_ _ h _=>h,λ_ h=>h,λ_ h=>.inl h,λ_ h=>.inl h,λi s h=>⟨s,h⟩,λi s h _=>⟨s,h,rfl,λ_=>rfl,rfl⟩,λi s h m=>⟨s,h,m⟩⟩
theorem Step.trans(a:Step σ σV H σ1 σV1 H1)(b:Step σ1 σV1 H1 σ2 σV2 H2):Step σ σV H σ2 σV2 H2 where
 fr:=λc o h n=>b.fr c o (a.fr c o h n) λz=>by
  rcases a.mu c z with q | q;exact n q;rw[h]at q;cases q
 dom:=λc h=>a.dom c (b.dom c h)
 mu:=λc h=>by
  rcases b.mu c h with q | q;exact a.mu c q;exact .inr (a.dom c q)
 nv:=λc h=>by
  rcases b.nv c h with q | q;exact a.nv c q;exact .inr (a.dom c q)
 kp:=λi s h=>by
  obtain⟨s1,d⟩:=a.kp i s h;exact b.kp i s1 d
 fix:=λi s h hm=>by
  obtain⟨s1,d,e,f,g⟩:=a.fix i s h hm;obtain⟨s2,j,k,l,p⟩:=b.fix i s1 d (by rw[e];exact hm);exact⟨s2,j,k.trans e,λz=>(l (e.trans z)).trans (f z),p.trans g⟩
 lt:=λi s h m=>by
  obtain⟨s1,d,e⟩:=b.lt i s h m;exact a.lt i s1 d e
def StOk.mutObj(ok:StOk Γ H σ σV){a:Addr}(h:aV0 σ σV a):∃ o,H a=some o/\(∀ xs,o≠.tup xs)/\∀ ob u,o≠.frz ob u:=by
 obtain⟨i,s,b,c,d⟩:=h;obtain⟨v,e,r⟩:=ok.rel i s b;rw[d]at e;cases e;obtain⟨p,e,q⟩:=(dM c).mp r;cases e;exact q.obj
def Step.ext(st:Step σ σV H σ1 σV1 H1)(ok:StOk Γ H σ σV):Ext H H1:=by
 refine⟨λp xs h=>st.fr p _ h λz=>?_,λp o u h=>st.fr p _ h λz=>?_⟩;obtain⟨o,e,n,_⟩:=ok.mutObj z.nv;rw[h]at e;cases e;exact n _ rfl;obtain⟨o,e,_,n⟩:=ok.mutObj z.nv;rw[h]at e;cases e;exact n _ _ rfl
theorem bV9.mono{s:Sl}{v:V}(r:bV9 H s v)(e:Ext H H1)(b:∀ p o,v=.ref p->s.m≠.val->H p=some o->H1 p=some o):bV9 H1 s v:=by
 by_cases q:s.m=.val;obtain⟨m,d⟩:=s;cases q;exact Rp.mono e r;obtain⟨p,a,c⟩:=(dM q).mp r;exact(dM q).mpr ⟨p,a,c.mono e λo=>b p o a q⟩
theorem StOk.same(ok:StOk Γ H σ σV)(h:zZ H H1):StOk Γ H1 σ σV:=
 ⟨λi s e=>by
  obtain⟨v,b,r⟩:=ok.rel i s e;exact⟨v,b,r.mono (.same h) λp o _ _ q=>h p o q⟩,ok.dis,ok.own,ok.par,λa o e n=>h a o (ok.keep a o e n),λa e=>ok.dom a (by
  cases q:H a with
  | none=>rfl
  | some o=>rw[h a o q]at e;cases e),ok.len⟩
def bJ1(h:zZ H H1){a:Addr}(e:H1 a=none):H a=none:=by
 cases q:H a with
 | none=>rfl
 | some o=>rw[h a o q]at e;cases e
def Step.same(h:zZ H H1):Step σ σV H σ σV H1:=⟨λa o e _=>h a o e,λa e=>bJ1 h e,λ_ h=>.inl h,λ_ h=>.inl h,λi s h=>⟨s,h⟩,λi s h _=>⟨s,h,rfl,λ_=>rfl,rfl⟩,λi s h m=>⟨s,h,m⟩⟩
end
inductive Res where
 | val (d:D) | own (d:D) | slot (i:Nat)
def jM(Γ:Gm)(H:Hp)(σ:Sg)(σV:St)(r:Res)(v:V):Prop:=match r with
 | .val d=>Rp H d v
 | .own d=>∃ p,v=.ref p/\dW H d p/\¬ aV0 σ σV p/\Γ.H₀ p=none
 | .slot i=>σV[i]? = some (some v)/\∃ s,σ[i]? = some (some s)
noncomputable def rd(σ:Sg):Res->Option D
 | .val d=>some d
 | .own d=>some d
 | .slot i=>match σ[i]? with
   | some (some s)=>some s.d
   | _=>none
section
variable{σ σ1:Sg}{σV σV1:St}{H H1:Hp}{Γ:Gm}{r:Res}{v:V}{d:D}
theorem jM.vw(ok:StOk Γ H σ σV)(h:jM Γ H σ σV r v)(e:rd σ r=some d):Vw H d v:=by
 cases r with
 | val d'=>cases e;exact .inl h
 | own d'=>cases e;obtain⟨p,a,b,_⟩:=h;exact .inr ⟨p,a,b⟩
 | slot i=>
   obtain⟨f,s,c⟩:=h;have g:some s.d=some d:=by
    have:rd σ (.slot i)=some s.d:=by show(match σ[i]? with | some (some s)=>some s.d | _=>none)=_;rw[c]
    rw[← this];exact e
   cases g;obtain⟨w,a,b⟩:=ok.rel i s c;rw[f]at a;cases a;exact b.vw
def jM.step(ok:StOk Γ H σ σV)(h:jM Γ H σ σV r v)(st:Step σ σV H σ1 σV H1):jM Γ H1 σ1 σV r v:=by
 cases r with
 | val d=>exact Rp.mono (st.ext ok) h
 | own d=>
   obtain⟨p,c,a,b,e⟩:=h;obtain⟨o,f,_⟩:=a.obj;refine⟨p,c,a.mono (st.ext ok) λo h=>st.fr p o h λz=>b z.nv,λz=>?_,e⟩;rcases st.nv p z with q | q;exact b q;rw[f]at q;cases q
 | slot i=>
   obtain⟨g,s,j⟩:=h;exact⟨g,st.kp i s j⟩
end
abbrev DE:=Sg->Option (Res×Sg)
abbrev DT:=Sg->Option (Bool×Sg)
abbrev DA:=Sg->Option (List Res×Sg)
inductive ResOks(Γ:Gm)(H:Hp)(σ:Sg)(σV:St):List Res->List V->Prop
 | nil:ResOks Γ H σ σV [] []
 | cons {r:Res} {rs:List Res} {v:V} {vs:List V}:jM Γ H σ σV r v->ResOks Γ H σ σV rs vs->(∀ d p,r=.own d->v=.ref p->∀ (j:Nat) d',rs[j]? = some (.own d')->vs[j]? ≠ some (.ref p))->ResOks Γ H σ σV (r::rs) (v::vs)
def Frh(H:Hp)(r:Res)(v:V):Prop:=∀ d p,r=.own d->v=.ref p->H p=none
def eU{H:Hp}{d:D}{v:V}:Frh H (.val d) v:=λ_ _ e=>nomatch e
def Frh.back{H c:Hp}{r:Res}{v:V}{σ b:Sg}{σV a:St}(f:Frh c r v)(st:Step σ σV H b a c):Frh H r v:=λd p e g=>st.dom p (f d p e g)
def dTE(Γ:Gm)(r:DE):TE:=λσV H Q=>∃ σ,StOk Γ H σ σV/\∃ res σ',r σ=some (res,σ') /\
 ∀ v H',StOk Γ H' σ' σV->jM Γ H' σ' σV res v->Step σ σV H σ' σV H'->Frh H res v->Q v H'
def peW{X:Cx}{e:Expr}{t t':TE}(h:PE X e t)(w:∀ σ H Q,t' σ H Q->t σ H Q):PE X e t':=λpins s σ H Q I q=>h pins s σ H Q I (w σ H Q q)
def ptW{X:Cx}{e:Expr}{t t':TT}(h:PT X e t)(w:∀ σ H Q,t' σ H Q->t σ H Q):PT X e t':=λpins s σ H Q I q=>h pins s σ H Q I (w σ H Q q)
def pwW{X:Cx}{e:Expr}{t t':TT}(h:PW X e t)(w:∀ σ H Q,t' σ H Q->t σ H Q):PW X e t':=λa pins s σ H Q I q=>h a pins s σ H Q I (w σ H Q q)
def paW{X:Cx}{e:List Expr}{t t':TA}(h:PA X e t)(w:∀ σ H Q,t' σ H Q->t σ H Q):PA X e t':=λa pins s σ H Q I q=>h a pins s σ H Q I (w σ H Q q)
def psW{X:Cx}{e:Stmt}{t t':TS}(h:PS X e t)(w:∀ D σ H,t' D σ H->t D σ H):PS X e t':=λpins s σ H D I q=>h pins s σ H D I (w D σ H q)
def cT6{X:Cx}{e:List Stmt}{t t':TS}(h:PSs X e t)(w:∀ D σ H,t' D σ H->t D σ H):PSs X e t':=λpins s σ H D I q=>h pins s σ H D I (w D σ H q)
structure GE(X:Cx)(e:Expr)(r:DE):Prop where
 to:∀ Γ,PE X e (dTE Γ r)
def dTT(Γ:Gm)(r:DT):TT:=λσV H Q=>∃ σ,StOk Γ H σ σV/\∃ b σ',r σ=some (b,σ')/\∀ H',StOk Γ H' σ' σV->Step σ σV H σ' σV H'->Q b H'
structure GT(X:Cx)(e:Expr)(r:DT):Prop where
 to:∀ Γ,PT X e (dTT Γ r)
structure GW(X:Cx)(e:Expr)(r:DT):Prop where
 to:∀ Γ,PW X e (dTT Γ r)
def GW.gt{X:Cx}{e:Expr}{r:DT}(h:GW X e r):GT X e r:=.mk λΓ=>(h.to Γ).pt
def dW8(H:Hp)(rs:List Res)(vs:List V):Prop:=∀ (j:Nat) d p,rs[j]? = some (.own d)->vs[j]? = some (.ref p)->H p=none
def dTA(Γ:Gm)(r:DA):TA:=λσV H Q=>∃ σ,StOk Γ H σ σV/\∃ rs σ',r σ=some (rs,σ')/\∀ vs H',StOk Γ H' σ' σV->ResOks Γ H' σ' σV rs vs->Step σ σV H σ' σV H'->dW8 H rs vs->Q vs H'
structure GA(X:Cx)(es:List Expr)(r:DA):Prop where
 to:∀ Γ,PA X es (dTA Γ r)
noncomputable def aH(i:Nat):DE:=λσ=>match σ[i]? with
 | some (some s)=>some (if s.m=.val then .val s.d else .slot i,σ)
 | _=>none
def aB{X:Cx}{e:Expr}{i:Nat}(h:PE X e (aT6 i)):GE X e (aH i):=.mk λΓ=>peW h λσV H Q ⟨σ,ok,res,σ',e,k⟩=>by
 unfold aH at e;split at e;rename_i s hs;cases e;obtain⟨v,a,r⟩:=ok.rel i s hs;refine⟨v,a,k v H ok ?_ .refl (by split<;>exact λ_ _ e=>nomatch e)⟩;by_cases hm:s.m=.val;rw[a3s hm];obtain⟨m,d⟩:=s;cases hm;exact r;rw[a3u hm];exact⟨a,s,hs⟩;cases e
noncomputable def dC(d:D):DE:=λσ=>some (.val d,σ)
def dP2{X:Cx}{e:Expr}{v:V}{d:D}(h:PE X e (tC v))(a:∀ H,Rp H d v):GE X e (dC d):=.mk λΓ=>peW h λσV H Q ⟨σ,ok,res,σ',e,k⟩=>by
 cases e;exact k v H ok (a H) .refl eU
def ge_int{X:Cx}{i:Int}{j pos}:GE X (.Constant (.int i) j pos) (dC (.int i)):=dP2 dN λ_=>.int i
def bJ2{X:Cx}{i:Bool}{j pos}:GE X (.Constant (.bool i) j pos) (dC (.bl i)):=dP2 cW7 λ_=>.bl i
def eT{X:Cx}{i:Str}{j pos}:GE X (.Constant (.str i) j pos) (dC (.str i)):=dP2 cC1 λ_=>.str i
def aO6(H H':Hp)(r:Res)(v:V):Prop:=match r with
 | .val d=>Rp H' d v
 | .own d=>∃ p,v=.ref p/\H p=none/\dW H' d p
 | .slot _=>False
def aO6.frh{H H':Hp}{r:Res}{v:V}(h:aO6 H H' r v):Frh H r v:=λd p a b=>by
 subst a b;obtain⟨q,e,c,_⟩:=h;cases e;exact c
def aO6.res{Γ:Gm}{H H':Hp}{σ:Sg}{σV:St}{r:Res}{v:V}(h:aO6 H H' r v)(ok:StOk Γ H σ σV):jM Γ H' σ σV r v:=by
 cases r with
 | val d=>exact h
 | own d=>
   obtain⟨p,b,a,c⟩:=h;refine⟨p,b,c,λz=>?_,ok.dom p a⟩;obtain⟨o,e,_⟩:=ok.mutObj z;rw[a]at e;cases e
 | slot i=>exact h.elim
abbrev F1:=D->Option Res
abbrev F2:=D->D->Option Res
abbrev FN:=List D->Option Res
def dP3(a:V->Hp->VK->Prop)(f:F1):Prop:=∀ H d x Q res,Vw H d x->f d=some res->(∀ v H',zZ H H'->aO6 H H' res v->Q v H')->a x H Q
def aE3(c:R2)(f:F2):Prop:=∀ H a b x y Q res,Vw H a x->Vw H b y->f a b=some res->(∀ v H',zZ H H'->aO6 H H' res v->Q v H')->c x y H Q
def bW0(b:List V->Hp->VK->Prop)(f:FN):Prop:=∀ H a vs Q res,Vws H a vs->f a=some res->(∀ v H',zZ H H'->aO6 H H' res v->Q v H')->b vs H Q
noncomputable def aG2(f:F1)(a:DE):DE:=λσ=>(a σ).bind λx=>(rd x.2 x.1).bind λd=>(f d).bind λr=>some (r,x.2)
noncomputable def aT(f:F2)(a b:DE):DE:=λσ=>(a σ).bind λx=>(b x.2).bind λy=>(rd y.2 x.1).bind λd=>(rd y.2 y.1).bind λe=>(f d e).bind λr=>some (r,y.2)
def aC{c d:Type}{o:Option c}{f:c->Option d}{b:d}(h:o.bind f=some b):∃ a,o=some a/\f a=some b:=by
 cases o with
 | none=>cases h
 | some a=>exact⟨a,rfl,h⟩
def vF{Γ:Gm}{l:R2}{f:F2}(p:aE3 l f){m n:DE}{σV:St}{H:Hp}{Q:VK}(h:dTE Γ (aT f m n) σV H Q):tOp l (dTE Γ m) (dTE Γ n) σV H Q:=by
 obtain⟨σ,ok,res,σ',e,k⟩:=h;obtain⟨⟨x,c⟩,q,e⟩:=aC e;obtain⟨⟨y,i⟩,s,e⟩:=aC e;obtain⟨t,u,e⟩:=aC e;obtain⟨w,z,e⟩:=aC e;obtain⟨r,A,e⟩:=aC e;cases e;refine⟨σ,ok,x,c,q,λB G d C g _=>⟨c,d,y,i,s,λD E a F b _=>?_⟩⟩;have j:=C.step d b;refine p E t w B D Q _ (j.vw a u) (F.vw a z) A λv H' sm o=>?_;exact k v H' (a.same sm) (o.res a) ((g.trans b).trans (.same sm)) (o.frh.back (g.trans b))
def bW1{Γ:Gm}{d:V->Hp->VK->Prop}{f:F1}(j:dP3 d f){g:DE}{σV:St}{H:Hp}{Q:VK}(h:dTE Γ (aG2 f g) σV H Q):tUn d (dTE Γ g) σV H Q:=by
 obtain⟨σ,ok,res,σ',e,k⟩:=h;obtain⟨⟨x,c⟩,l,e⟩:=aC e;obtain⟨m,n,e⟩:=aC e;obtain⟨r,o,e⟩:=aC e;cases e;refine⟨σ,ok,x,c,l,λp q a s b _=>?_⟩;refine j q m p Q _ (s.vw a n) o λv H' sm i=>?_;exact k v H' (a.same sm) (i.res a) (b.trans (.same sm)) (i.frh.back b)
section
variable{X:Cx}{a b:Expr}{ra rb:DE}{pos:Pos}
def aW{op:Operator}{c:R2}{f:F2}(d:OpR X (binaryOp op) c)(e:aE3 c f)(ha:GE X a ra)(hb:GE X b rb):GE X (.BinOp a op b pos) (aT f ra rb):=
 .mk λΓ=>peW (mS d (ha.to Γ) (hb.to Γ)) λ_ _ _=>vF e
def pH{op:CmpOp}{c:R2}{f:F2}(d:OpR X (compareOp op) c)(e:aE3 c f)(ha:GE X a ra)(hb:GE X b rb)(hm:behindInMarks op b=false):GE X (.Compare a [op] [b] pos) (aT f ra rb):=
 .mk λΓ=>peW (bF9 d (ha.to Γ) (hb.to Γ) hm) λ_ _ _=>vF e
noncomputable def fX(r:DE):DT:=λσ=>(r σ).bind λx=>(rd x.2 x.1).bind λd=>match d with
 | .bl b=>some (b,x.2)
 | _=>none
def aA7{r:DE}{σ σ':Sg}{b:Bool}(h:fX r σ=some (b,σ')):∃ x,r σ=some (x,σ')/\rd σ' x=some (.bl b):=by
 obtain⟨⟨x,c⟩,f,e⟩:=aC h;obtain⟨d,a,e⟩:=aC e;dsimp only at e a;split at e;cases e;exact⟨x,f,a⟩;cases e
def bJ3{H:Hp}{b:Bool}{v:V}(h:Vw H (.bl b) v):v=.bl b:=by
 rcases h with h | ⟨p,_,h⟩;cases h;rfl;exact h.elim
def aV1{Γ:Gm}{r:DE}{σV:St}{H:Hp}{Q:Bool->Hp->Prop}(h:dTT Γ (fX r) σV H Q):dTE Γ r σV H (λx H'=>∃ k,x=.bl k/\Q k H'):=by
 obtain⟨σ,ok,b,σ',e,k⟩:=h;obtain⟨x,c,d⟩:=aA7 e;refine⟨σ,ok,x,σ',c,λv H' a f st _=>⟨b,bJ3 (f.vw a d),k H' a st⟩⟩
def eF{op:CmpOp}{c:R2}{f:F2}(d:OpR X (compareOp op) c)(e:aE3 c f)(ha:GE X a ra)(hb:GE X b rb)(hm:behindInMarks op b=false):GT X (.Compare a [op] [b] pos) (fX (aT f ra rb)):=
 .mk λΓ=>ptW (zT d (ha.to Γ) (hb.to Γ) hm) λσ H Q h=>vF e (aV1 h)
def mM{e:Expr}{r:DE}(h:GE X e r)(b:∀ a,isTrue e X.env a=(do let v ← a;standAt e.pos;holding [v] (truthy v)):=by intro _;rfl):GT X e (fX r):=
 .mk λΓ=>ptW (cW8 (h.to Γ) b) λ_ _ _ h=>aV1 h
end
def fF{H:Hp}{l:List D}{v:V}(h:Vw H (.tup l) v):∃ p xs,v=.ref p/\H p=some (.tup xs)/\Rps H l xs:=by
 rcases h with h | ⟨p,_,h⟩
 ·cases h with
  | tup h r=>exact⟨_,_,rfl,h,r⟩
 ·exact h.elim
def iO{H:Hp}{l:List D}{v:V}(h:Vw H (.lst l) v):∃ p xs,v=.ref p/\eS H p=some (true,xs)/\Rps H l xs:=by
 rcases h with h | ⟨p,e,xs,h,r⟩
 ·cases h with
  | lst h r=>exact⟨_,_,rfl,bT9 h,r⟩
 ·exact⟨p,xs,e,cL h,r⟩
def dO{H:Hp}{i:Int}{v:V}(h:Vw H (.int i) v):v=.int i:=by
 rcases h with h | ⟨p,_,h⟩;cases h;rfl;exact h.elim
def jN{H:Hp}{i:Str}{v:V}(h:Vw H (.str i) v):v=.str i:=by
 rcases h with h | ⟨p,_,h⟩;cases h;rfl;exact h.elim
def dC7{H:Hp}{v:V}(h:Vw H .non v):v=.non:=by
 rcases h with h | ⟨p,_,h⟩;cases h;rfl;exact h.elim
noncomputable def cT7:D->Option (Bool×List D)
 | .lst l=>some (true,l)
 | .tup l=>some (false,l)
 | _=>none
def cD6{H:Hp}{d:D}{v:V}{b:Bool}{l:List D}(h:Vw H d v)(e:cT7 d=some (b,l)):∃ p xs,v=.ref p/\eS H p=some (b,xs)/\Rps H l xs:=by
 cases d with
 | lst a=>cases e;exact iO h
 | tup a=>cases e;obtain⟨p,xs,c,f,g⟩:=fF h;exact⟨p,xs,c,cB f,g⟩
 | _=>cases e
section
variable{X:Cx}{a b:Expr}{ra rb:DE}{pos:Pos}
variable{tA tB:DT}{eZ:List Expr}
noncomputable def cT8(t u:DT):DT:=λσ=>(t σ).bind λx=>if x.1=true then u x.2 else some (false,x.2)
noncomputable def dOr(t u:DT):DT:=λσ=>(t σ).bind λx=>if x.1=true then some (true,x.2)else u x.2
noncomputable def aA8(t:DT):DT:=λσ=>(t σ).bind λx=>some (!x.1,x.2)
def bJ4(ha:GT X a tA):GW X (.BoolOp .And [a] pos) tA:=.mk λΓ=>cH4 (ha.to Γ)
def aV2(ha:GT X a tA):GW X (.BoolOp .Or [a] pos) tA:=.mk λΓ=>cW9 (ha.to Γ)
def cD7(ha:GT X a tA)(hb:GW X (.BoolOp .And (b::eZ) pos) tB):GW X (.BoolOp .And (a::b::eZ) pos) (cT8 tA tB):=.mk λΓ=>pwW (cX0 (ha.to Γ) (hb.to Γ)) λσV H Q ⟨σ,ok,c,σ',e,k⟩=>by
 obtain⟨⟨x,d⟩,l,e⟩:=aC e;refine⟨σ,ok,x,d,l,λm f g=>?_⟩;dsimp only at e;split at e;rename_i h;rw[a3s h];exact⟨d,f,c,σ',e,λn i j=>k n i (g.trans j)⟩;rename_i h;rw[a3u h];cases e;exact k m f g
def bB7(ha:GT X a tA)(hb:GW X (.BoolOp .Or (b::eZ) pos) tB):GW X (.BoolOp .Or (a::b::eZ) pos) (dOr tA tB):=.mk λΓ=>pwW (dM2 (ha.to Γ) (hb.to Γ)) λσV H Q ⟨σ,ok,c,σ',e,k⟩=>by
 obtain⟨⟨x,d⟩,l,e⟩:=aC e;refine⟨σ,ok,x,d,l,λm f g=>?_⟩;dsimp only at e;split at e;rename_i h;rw[a3s h];cases e;exact k m f g;rename_i h;rw[a3u h];exact⟨d,f,c,σ',e,λn i j=>k n i (g.trans j)⟩
def mO(ha:GT X a tA):GT X (.UnaryOp .Not a pos) (aA8 tA):=.mk λΓ=>ptW (cX1 (ha.to Γ)) λσV H Q ⟨σ,ok,c,σ',e,k⟩=>by
 obtain⟨⟨x,f⟩,g,e⟩:=aC e;cases e;exact⟨σ,ok,x,_,g,λh b d=>k h b d⟩
noncomputable def aG3(t u:DE):DE:=λσ=>(fX t σ).bind λx=>if x.1=true then u x.2 else some (.val (.bl false),x.2)
noncomputable def bW2(t:DE):DE:=λσ=>(fX t σ).bind λx=>some (.val (.bl (!x.1)),x.2)
def aV3{op}{r:DE}(h:GE X a r):GE X (.BoolOp op [a] pos) r:=.mk λΓ=>cX4 (h.to Γ)
def aV4(ha:GE X a ra)(hb:GE X (.BoolOp .And (b::eZ) pos) rb):GE X (.BoolOp .And (a::b::eZ) pos) (aG3 ra rb):=.mk λΓ=>peW (cX5 (ha.to Γ) (hb.to Γ)) λσV H Q ⟨σ,ok,c,σ',e,k⟩=>by
 obtain⟨⟨x,g⟩,l,e⟩:=aC e;obtain⟨y,m,n⟩:=aA7 l;refine⟨σ,ok,y,g,m,λv o d p f _=>⟨x,bJ3 (p.vw d n),?_⟩⟩;dsimp only at e;split at e;rename_i h;rw[a3s h];exact⟨g,d,c,σ',e,λq r i s j t=>k q r i s (f.trans j) (t.back f)⟩;rename_i h;rw[a3u h];cases e;exact k _ o d (.bl false) f eU
def dC8(ha:GE X a ra):GE X (.UnaryOp .Not a pos) (bW2 ra):=.mk λΓ=>peW (cX6 (ha.to Γ)) λσV H Q ⟨σ,ok,c,σ',e,k⟩=>by
 obtain⟨⟨x,f⟩,g,e⟩:=aC e;obtain⟨y,h,i⟩:=aA7 g;cases e;exact⟨σ,ok,y,_,h,λv j b l d _=>⟨x,bJ3 (l.vw b i),k _ j b (.bl _) d eU⟩⟩
end
def Fz:HO->Prop
 | .lst _=>True
 | .dK _=>True
 | .dT _=>True
 | _=>False
def bJ5{X:Cx}{pins:List (Addr×Obj)}{σ:St}{H:Hp}{s:Shared}{p:Addr}{u:HO}(I:Inv X pins σ H s)(h:H p=some u)(d:Fz u):∃ o,Inv X pins σ (upd H p (.frz o u)) s:=by
 have nt:∀ b xs,H b=some (.tup xs)->b≠p:=λb xs e z=>by subst z;rw[h]at e;cases e;exact d
 have j:∀ b o x,H b=some (.frz o x)->b≠p:=λb o x e z=>by subst z;rw[h]at e;cases e;exact d
 have no:∀ b x,H b=some (.own x)->b≠p:=λb x e z=>by subst z;rw[h]at e;cases e;exact d
 have nb:∀ b x,H b=some (.tbl x)->b≠p:=λb x e z=>by subst z;rw[h]at e;cases e;exact d
 have f:∀ b,H b=none->b≠p:=λb e z=>by subst z;rw[h]at e;cases e
 obtain⟨o,r⟩:∃ o,s.heap.get? p=some o:=by
  have:=I.hok p u h;have l:=this.lt;cases q:s.heap.get? p with
  | some o=>exact⟨o,rfl⟩
  | none=>
    cases u with
    | lst xs=>obtain⟨_,_,_,_,e⟩:=this;rw[q]at e;cases e
    | dK kvs=>obtain⟨_,_,_,_,ob,_,_,e,_⟩:=this;rw[q]at e;cases e
    | dT kvs=>obtain⟨_,_,_,_,ob,_,_,e,_⟩:=this;rw[q]at e;cases e
    | _=>exact d.elim
 have st:∀ a x,dJ X.prog X.w H s.heap a x->dJ X.prog X.w (upd H p (.frz o u)) s.heap a x:=λa x k=>
  k.stay (λ_ _ _ e=>e) (λb e=>by rw[aG (no b _ e)];exact e) λb xs e=>by rw[aG (nt b _ e)];exact e
 refine⟨o,{I with base:=?_,free:=?_,freeC:=?_,pin:=?_,hok:=?_}⟩
 ·exact⟨I.base.keep,I.base.slot,λb ob q n t=>by
    have:=I.base.free b ob q n t;rw[aG (f b this)];exact this,I.base.there,λb xs e=>by
    have:=I.base.tups b xs e;rw[aG (nt b _ this)];exact this,λb ob x e=>by
    have:=I.base.frzs b ob x e;rw[aG (j b _ _ this)];exact this,λb ps e=>by
    obtain⟨m,g⟩:=I.base.tbls b ps e;exact⟨m,by rw[aG (nb b _ g)];exact g⟩⟩
 ·rw[aG (f _ I.free)];exact I.free
 ·intro x c e;rw[aG (f _ (I.freeC x c e))];exact I.freeC x c e
 ·intro q v;obtain⟨y,i,A⟩:=I.pin q v;exact⟨y,by rw[aG (f _ i)];exact i,A⟩
 ·intro a x e;by_cases ha:a=p;subst ha;rw[aJ]at e;cases e;exact⟨r,st a u (I.hok a u h)⟩;rw[aG ha]at e;exact st a x (I.hok a x e)
def tFz(t:TE):TE:=λσ H Q=>t σ H λv H1=>Q v H1\/∃ p u,v=.ref p/\H1 p=some u/\Fz u/\∀ o,Q v (upd H1 p (.frz o u))
def dP4{X:Cx}{e:Expr}{t:TE}(h:PE X e t):PE X e (tFz t):=λpins s σ H Q I q=>
 thn (h pins s σ H _ I q) λu s1 ⟨v,d,b,c,a⟩=>by
  rcases a with a | ⟨p,x,j,f,g,a⟩;exact⟨v,d,b,c,a⟩;obtain⟨o,i⟩:=bJ5 b f g;exact⟨v,_,i,c,a o⟩
def bJ6{H:Hp}{d:D}{p:Addr}(h:dW H d p):∃ u,H p=some u/\Fz u/\∀ o H',Ext H H'->H' p=some (.frz o u)->Rp H' d (.ref p):=by
 unfold dW at h;split at h;obtain⟨xs,b,a⟩:=h;exact⟨_,b,True.intro,λo H' x e=>.lst e (a.mono x)⟩
 ·obtain⟨u,ws,b,a,c⟩:=h;refine⟨u,b,?_,λo H' x e=>.dic e a (c.mono x)⟩;cases u with
  | dK _=>exact True.intro
  | dT _=>exact True.intro
  | _=>exact a.elim
 ·exact h.elim
def bJ7{H:Hp}{p:Addr}{u:HO}{o:Obj}(h:H p=some u)(a:Fz u):Ext H (upd H p (.frz o u)):=
 ⟨λb xs e=>by rw[aG (λz=>by subst z;rw[h]at e;cases e;exact a)];exact e,λb ob x e=>by rw[aG (λz=>by subst z;rw[h]at e;cases e;exact a)];exact e⟩
noncomputable def dS2(σ:Sg):Res->Option (D×Sg)
 | .val d=>some (d,σ)
 | .own d=>some (d,σ)
 | .slot i=>match σ[i]? with
   | some (some s)=>if s.m=.own then some (s.d,σ.set i (some ⟨.val,s.d⟩))else if s.m=.val then some (s.d,σ)else none
   | _=>none
noncomputable def dFz(r:DE):DE:=λσ=>(r σ).bind λx=>(dS2 x.2 x.1).bind λy=>some (.val y.1,y.2)
def bD{a:Type}{l:List a}{i j:Nat}{x y:a}(h:(l.set i x)[j]? = some y):(j=i/\y=x/\i < l.length)\/(j≠i/\l[j]? = some y):=by
 rw[List.getElem?_set]at h;split at h;rename_i e;split at h;cases h;exact .inl ⟨e.symm,rfl,by assumption⟩;cases h;rename_i e;exact .inr ⟨λz=>e z.symm,h⟩
def cO{X:Cx}{e:Expr}{r:DE}(h:GE X e r):GE X e (dFz r):=.mk λΓ=>peW (dP4 (h.to Γ)) λσV H Q ⟨σ,ok,res,σ',e,k⟩=>by
 obtain⟨⟨x,σ1⟩,U,e⟩:=aC e;obtain⟨⟨d,L⟩,C,e⟩:=aC e;cases e;refine⟨σ,ok,x,σ1,U,λv S b A c V=>?_⟩;dsimp only at C;cases x with
 | val d'=>cases C;exact .inl (k v S b A c eU)
 | own d'=>
   cases C;obtain⟨p,rfl,M,W,Y⟩:=A;obtain⟨u,F,G,N⟩:=bJ6 M;have hn:H p=none:=V _ p rfl rfl;refine .inr ⟨p,u,rfl,F,G,λo=>?_⟩;have x:=bJ7 (o:=o) F G;refine k _ _ ⟨λi s e=>?_,b.dis,b.own,b.par,λa ob e n=>?_,λa e=>?_,b.len⟩ (N o _ x aJ) ⟨λa ob e n=>?_,λa e=>?_,c.mu,c.nv,c.kp,c.fix,c.lt⟩ eU;obtain⟨w,D,B⟩:=b.rel i s e;refine⟨w,D,B.mono x λq ob O m C=>?_⟩;rw[aG (λz=>W ⟨i,s,e,m,by rw[D,O,z]⟩)];exact C;rw[aG (λz=>by subst z;rw[Y]at e;cases e)];exact b.keep a ob e n;by_cases z:a=p;subst z;rw[aJ]at e;cases e;rw[aG z]at e;exact b.dom a e;rw[aG (λz=>by subst z;rw[hn]at e;cases e)];exact c.fr a ob e n;by_cases z:a=p;subst z;rw[aJ]at e;cases e;rw[aG z]at e;exact c.dom a e
 | slot i=>
   obtain⟨A,s,hs⟩:=A;have g:(match σ1[i]? with | some (some s)=>if s.m=.own then some (s.d,σ1.set i (some ⟨.val,s.d⟩))else if s.m=.val then some (s.d,σ1)else none | _=>none)=some (d,L):=C;rw[hs]at g;dsimp only at g;obtain⟨w,D,B⟩:=b.rel i s hs;rw[A]at D;cases D;split at g
   ·rename_i hm;cases g;obtain⟨m,d⟩:=s;cases hm;obtain⟨p,rfl,M⟩:=(dM (s:=⟨.own,d⟩) (λz=>nomatch z)).mp B;obtain⟨u,F,G,N⟩:=bJ6 M;refine .inr ⟨p,u,rfl,F,G,λo=>?_⟩;have x:=bJ7 (o:=o) F G;have T:=N o _ x aJ;have Z:i < σ1.length:=(a1a.mp hs).1;have pm:jJ σ1 σV p:=⟨i,_,hs,rfl,A⟩;have sub:∀ (j:Nat) t,(σ1.set i (some ⟨.val,d⟩))[j]? = some (some t)->t.m≠.val->j≠i/\σ1[j]? = some (some t):=λj t f hm=>by
     rcases bD f with⟨_,z,_⟩ | z;cases z;exact absurd rfl hm;exact z
    have I:∀ t:Sl,t.m.mt=true->t.m≠.val:=λt h z=>by rw[z]at h;cases h
    refine k _ _ ⟨λj t f=>?_,λj l t E q n f el m m'=>?_,λj t q f m=>?_,λj t q f m=>?_,λa ob e n=>?_,λa e=>?_,?_⟩ T
     ⟨λa ob e n=>?_,λa e=>?_,λa ⟨j,t,f,m,P⟩=>?_,λa ⟨j,t,f,m,P⟩=>?_,λj t f=>?_,λj t f m=>?_,λj t f m=>c.lt j t (sub j t f (by rw[m];exact λz=>nomatch z)).2 m⟩ eU
    ·rcases bD f with⟨z,K,_⟩ | ⟨z,K⟩;cases K;rw[z];exact⟨_,A,T⟩;obtain⟨w,D,R⟩:=b.rel j t K;refine⟨w,D,R.mono x λq ob O m C=>?_⟩;rw[aG (λy=>b.dis i j _ t p (a5d z) hs K rfl m A (by rw[D,O,y]))];exact C
    ·exact b.dis j l t E q n (sub j t f (I t m)).2 (sub l E el m').2 m m'
    ·exact b.own j t q (sub j t f (by rw[m];exact λz=>nomatch z)).2 m
    ·exact b.par j t q (sub j t f (by rw[m];exact λz=>nomatch z)).2 m
    ·have hp:=b.own i _ p hs rfl A;rw[aG (λz=>by subst z;rw[hp]at e;cases e)];exact b.keep a ob e n
    ·by_cases z:a=p;subst z;rw[aJ]at e;cases e;rw[aG z]at e;exact b.dom a e
    ·rw[a4f];exact b.len
    ·by_cases z:a=p;subst z;rcases c.mu a pm with y | y;exact absurd y n;rw[e]at y;cases y;rw[aG z];exact c.fr a ob e n
    ·by_cases z:a=p;subst z;rw[aJ]at e;cases e;rw[aG z]at e;exact c.dom a e
    ·exact c.mu a ⟨j,t,(sub j t f (I t m)).2,m,P⟩
    ·exact c.nv a ⟨j,t,(sub j t f m).2,m,P⟩
    ·obtain⟨E,J⟩:=c.kp j t f;by_cases z:j=i;subst z;exact⟨_,by rw[a6b Z]⟩;exact⟨E,by rw[a4a (a5d z)];exact J⟩
    ·obtain⟨E,J,h⟩:=c.fix j t f m;refine⟨E,?_,h⟩;rw[a4a (λz=>?_)];exact J;subst z;rw[hs]at J;cases J;rcases m with m | m;have:=h.1;rw[m]at this;cases this;have:=h.1;rw[m]at this;cases this
   ·split at g;rename_i hm;cases g;obtain⟨m,d⟩:=s;cases hm;exact .inl (k v S b B c eU);cases g
noncomputable def aR:DA:=λσ=>some ([],σ)
noncomputable def aD(r:DE)(rs:DA):DA:=λσ=>(r σ).bind λx=>(rs x.2).bind λy=>some (x.1::y.1,y.2)
noncomputable def rds(σ:Sg):List Res->Option (List D)
 | []=>some []
 | r::rs=>(rd σ r).bind λd=>(rds σ rs).bind λa=>some (d::a)
noncomputable def vals:List Res->Option (List D)
 | []=>some []
 | .val d::rs=>(vals rs).bind λa=>some (d::a)
 | _=>none
theorem aA9{Γ:Gm}{H:Hp}{σ:Sg}{σV:St}(ok:StOk Γ H σ σV):∀ {rs:List Res} {vs:List V} {ds:List D},ResOks Γ H σ σV rs vs->rds σ rs=some ds->Vws H ds vs
 | _,_,_,.nil,e=>by cases e;exact .nil
 | _,_,_,.cons h t _,e=>by
   obtain⟨d,a,e⟩:=aC e;obtain⟨ds,b,e⟩:=aC e;cases e;exact .cons (h.vw ok a) (aA9 ok t b)
theorem nK{Γ:Gm}{H:Hp}{σ:Sg}{σV:St}:∀ {rs:List Res} {vs:List V} {ds:List D},ResOks Γ H σ σV rs vs->vals rs=some ds->Rps H ds vs
 | _,_,_,.nil,e=>by cases e;exact .nil
 | .val d::_,_,_,.cons h t _,e=>by
   obtain⟨ds,a,e⟩:=aC e;cases e;exact .cons h (nK t a)
 | .own d::_,_,_,.cons h t _,e=>by cases e
 | .slot d::_,_,_,.cons h t _,e=>by cases e
section
variable{X:Cx}{e:Expr}{es:List Expr}{r:DE}{rs:DA}{pos:Pos}
def aE:GA X [] aR:=.mk λΓ=>paW bY λσV H Q ⟨σ,ok,res,σ',e,k⟩=>by
 cases e;exact k [] H ok .nil .refl (λj d p e=>by simp at e)
def aA(ha:GE X e r)(n:GA X es rs)(hs:starEach (e::es) X.env=(false,eval e X.env)::starEach es X.env:=by kernel_rfl):GA X (e::es) (aD r rs):=.mk λΓ=>paW (aS (ha.to Γ) (n.to Γ) hs) λσV H Q ⟨σ,ok,res,σ',e,k⟩=>by
 obtain⟨⟨x,a⟩,s,e⟩:=aC e;obtain⟨⟨ys,t⟩,u,e⟩:=aC e;cases e;refine⟨σ,ok,x,a,s,λv E b l c w=>⟨a,b,ys,_,u,λvs y i z f m=>?_⟩⟩;refine k (v::vs) y i (.cons (l.step b f) z λd p g h j d' A B=>?_) (c.trans f) λj d p g h=>?_;subst g h;obtain⟨q,C,ow,_⟩:=l;cases C;obtain⟨o,D,_⟩:=ow.obj;have:=m j d' p A B;rw[D]at this;cases this;cases j with
 | zero=>simp at g h;subst g h;exact w d p rfl rfl
 | succ j=>exact c.dom p (m j d p (by simpa using g) (by simpa using h))
noncomputable def dCB(f:FN)(a:DA):DE:=λσ=>(a σ).bind λx=>(rds x.2 x.1).bind λb=>(f b).bind λr=>some (r,x.2)
def cM{c:List V->Hp->VK->Prop}{f:FN}{d:DA}(i:bW0 c f)(h:∀ Γ,PE X e (tCB c (dTA Γ d))):GE X e (dCB f d):=.mk λΓ=>peW (h Γ) λσV H Q ⟨σ,ok,res,σ',e,k⟩=>by
 obtain⟨⟨x,j⟩,l,e⟩:=aC e;obtain⟨m,n,e⟩:=aC e;obtain⟨r,o,e⟩:=aC e;cases e;refine⟨σ,ok,x,_,l,λvs p a q b s=>?_⟩;refine i p m vs Q _ (aA9 a q n) o λv H' sm g=>?_;exact k v H' (a.same sm) (g.res a) (b.trans (.same sm)) (g.frh.back b)
noncomputable def wC(b:DA):DE:=λσ=>(b σ).bind λx=>(vals x.1).bind λa=>if a.length<=sizeLine then some (.val (.tup a),x.2)else none
noncomputable def aG4(b:DA):DE:=λσ=>(b σ).bind λx=>(vals x.1).bind λa=>if a.length<=sizeLine then some (.own (.lst a),x.2)else none
def fU{f}(h:GA X es rs):GE X (.Tuple es f pos) (wC rs):=.mk λΓ=>peW (cY7 (h.to Γ)) λσV H Q ⟨σ,ok,res,σ',e,k⟩=>by
 obtain⟨⟨x,g⟩,i,e⟩:=aC e;obtain⟨o,j,e⟩:=aC e;dsimp only at e;split at e;rename_i l;cases e;refine⟨σ,ok,x,_,i,λvs c a m b q=>?_⟩;have d:=nK m j;refine⟨by rw[← d.length];exact l,λp n=>?_⟩;have sm:zZ c (upd c p (.tup vs)):=bO n;exact k _ _ (a.same sm) (.tup aJ (d.mono (.same sm))) (b.trans (.same sm)) eU;cases e
def gZ(h:GA X es rs):GE X (.List es pos) (aG4 rs):=.mk λΓ=>peW (aT9 (h.to Γ)) λσV H Q ⟨σ,ok,res,σ',e,k⟩=>by
 obtain⟨⟨x,i⟩,j,e⟩:=aC e;obtain⟨l,m,e⟩:=aC e;dsimp only at e;split at e;rename_i n;cases e;refine⟨σ,ok,x,_,j,λvs c a o b q=>?_⟩;have d:=nK o m;refine⟨by rw[← d.length];exact n,λp f=>?_⟩;have sm:zZ c (upd c p (.lst vs)):=bO f;have g:aO6 c (upd c p (.lst vs)) (.own (.lst l)) (.ref p):=⟨p,rfl,f,vs,aJ,d.mono (.same sm)⟩;exact k _ _ (a.same sm) (g.res a) (b.trans (.same sm)) (g.frh.back b);cases e
end
section
variable{Γ:Gm}{H:Hp}{σ:Sg}{σV:St}{i:Nat}{s:Sl}{p:Addr}{o':HO}{d':D}
def StOk.ownAt(ok:StOk Γ H σ σV)(hs:σ[i]? = some (some s))(hm:s.m≠.val):∃ p,σV[i]? = some (some (.ref p))/\dW H s.d p:=by
 obtain⟨v,e,r⟩:=ok.rel i s hs;obtain⟨p,rfl,a⟩:=(dM hm).mp r;exact⟨p,e,a⟩
def iJ{m:Md}(h:m.mt=true):m≠.val:=λz=>by rw[z]at h;cases h
def dW.ext{d:D}(h:dW H d p):Ext H (upd H p o'):=by
 obtain⟨o,e,n1,n2⟩:=h.obj;exact⟨λb xs q=>by rw[aG (λz=>by subst z;rw[e]at q;cases q;exact n1 _ rfl)];exact q,λb ob x q=>by rw[aG (λz=>by subst z;rw[e]at q;cases q;exact n2 _ _ rfl)];exact q⟩
def StOk.write(ok:StOk Γ H σ σV)(hs:σ[i]? = some (some s))(hm:s.m.mt=true)(h:σV[i]? = some (some (.ref p)))(ow:dW (upd H p o') d' p) :
  StOk Γ (upd H p o') (σ.set i (some ⟨s.m,d'⟩)) σV/\Step σ σV H (σ.set i (some ⟨s.m,d'⟩)) σV (upd H p o'):=by
 obtain⟨J,v,o⟩:=ok.ownAt hs (iJ hm);rw[h]at v;cases v;have x:Ext H (upd H p o'):=o.ext;have A:i < σ.length:=(a1a.mp hs).1;have back:∀ (j:Nat) t,(σ.set i (some ⟨s.m,d'⟩))[j]? = some (some t)->∃ t',σ[j]? = some (some t')/\t'.m=t.m:=λj t b=>by
  rcases bD b with⟨z,g,_⟩ | ⟨z,g⟩;cases g;subst z;exact⟨s,hs,rfl⟩;exact⟨t,g,rfl⟩
 refine⟨⟨λj t b=>?_,λj l t t' q n b C m m'=>?_,λj t q b m=>?_,λj t q b m=>?_,λa ob e n=>?_,λa e=>?_,by rw[a4f];exact ok.len⟩,
  ⟨λa ob e n=>?_,λa e=>?_,λa ⟨j,t,b,m,r⟩=>?_,λa ⟨j,t,b,m,r⟩=>?_,λj t b=>?_,λj t b m=>?_,λj t b m=>?_⟩⟩
 ·rcases bD b with⟨z,g,_⟩ | ⟨z,g⟩;cases g;subst z;exact⟨_,h,(dM (s:=⟨s.m,d'⟩) (iJ hm)).mpr ⟨p,rfl,ow⟩⟩;obtain⟨w,B,u⟩:=ok.rel j t g;refine⟨w,B,u.mono x λq ob D m E=>?_⟩;rw[aG (λy=>ok.dis i j _ t p (a5d z) hs g hm m h (by rw[B,D,y]))];exact E
 ·obtain⟨c,d,f⟩:=back j t b;obtain⟨F,G,I⟩:=back l t' C;exact ok.dis j l c F q n d G (by rw[f];exact m) (by rw[I];exact m')
 ·obtain⟨c,d,f⟩:=back j t b;exact ok.own j c q d (f.trans m)
 ·obtain⟨c,d,f⟩:=back j t b;exact ok.par j c q d (f.trans m)
 ·have:a≠p:=λz=>by
   subst z;cases k:s.m with
   | own=>rw[ok.own i s a hs k h]at e;cases e
   | par=>exact n (ok.par i s a hs k h)
   | val=>rw[k]at hm;cases hm
   | lent=>rw[k]at hm;cases hm
  rw[aG this];exact ok.keep a ob e n
 ·by_cases z:a=p;subst z;rw[aJ]at e;cases e;rw[aG z]at e;exact ok.dom a e
 ·rw[aG (λz=>n ⟨i,s,hs,hm,by rw[z];exact h⟩)];exact e
 ·by_cases z:a=p;subst z;rw[aJ]at e;cases e;rw[aG z]at e;exact e
 ·obtain⟨c,d,f⟩:=back j t b;exact .inl ⟨j,c,d,by rw[f];exact m,r⟩
 ·obtain⟨c,d,f⟩:=back j t b;exact .inl ⟨j,c,d,by rw[f];exact m,r⟩
 ·by_cases z:j=i;subst z;exact⟨_,by rw[a6b A]⟩;exact⟨t,by rw[a4a (a5d z)];exact b⟩
 ·by_cases z:j=i;subst z;rw[hs]at b;cases b;exact⟨⟨s.m,d'⟩,by rw[a6b A],rfl,λq=>(by rw[q]at hm;cases hm),rfl⟩;exact⟨t,by rw[a4a (a5d z)];exact b,rfl,λ_=>rfl,rfl⟩
 ·obtain⟨c,d,f⟩:=back j t b;exact⟨c,d,f.trans m⟩
end
abbrev FM:=D->List D->Option (D×D)
def dC9(r:V->List V->Hp->VK->Prop)(f:FM):Prop:=∀ H d p a vs Q d' e,dW H d p->Rps H a vs->f d a=some (d',e)->(∀ o' v,dW (upd H p o') d' p->Rp (upd H p o') e v->Q v (upd H p o'))->r (.ref p) vs H Q
def dS3(r:V->List V->Hp->VK->Prop)(f:FM):Prop:=∀ H d p a vs Q d' e,dW H d p->Vws H a vs->f d a=some (d',e)->(∀ o' v,dW (upd H p o') d' p->Rp (upd H p o') e v->Q v (upd H p o'))->r (.ref p) vs H Q
noncomputable def bR8(f:FM)(i:Nat)(ds:List D)(σ:Sg):Option (Res×Sg):=match σ[i]? with
 | some (some s)=>if s.m.mt=true then(f s.d ds).bind λy=>some (.val y.2,σ.set i (some ⟨s.m,y.1⟩))else none
 | _=>none
noncomputable def tyD(T:String):D->Bool
 | .lst _=>T=="list"
 | .dic _ _=>T=="dict"
 | _=>false
noncomputable def aN1(T:String)(i:Nat)(σ:Sg):Bool:=match σ[i]? with
 | some (some s)=>decide (s.m≠.val)&&tyD T s.d
 | _=>false
noncomputable def aB0(T:String)(i:Nat)(f:FM)(a:DA):DE:=λσ=>if aN1 T i σ=true then(a σ).bind λx=>(vals x.1).bind λb=>bR8 f i b x.2 else none
noncomputable def bJ8(T:String)(i:Nat)(f:FM)(a:DA):DE:=λσ=>if aN1 T i σ=true then(a σ).bind λx=>(rds x.2 x.1).bind λb=>bR8 f i b x.2 else none
noncomputable def bB8(T:String)(i:Nat)(f:FM):DE:=λσ=>if aN1 T i σ=true then bR8 f i [] σ else none
def cM3{K:W.Frag}{T:String}{H:Hp}{d:D}{p:Addr}(h:dW H d p)(e:tyD T d=true):tyV K T (.ref p) H:=by
 unfold dW at h;split at h;obtain⟨xs,a,_⟩:=h;exact .inl ⟨by simpa[tyD]using e,xs,SqL.of a⟩
 ·obtain⟨u,ws,a,b,_⟩:=h;refine .inr (.inr (.inl ⟨by simpa[tyD]using e,?_⟩));cases u with
  | dK kvs=>exact .inl ⟨kvs,a⟩
  | dT kvs=>exact .inr ⟨kvs,a⟩
  | _=>exact b.elim
 ·exact h.elim
def hU{f:FM}{i:Nat}{ds:List D}{σ σ':Sg}{res:Res}(h:bR8 f i ds σ=some (res,σ')):∃ s d' e,σ[i]? = some (some s)/\s.m.mt=true/\f s.d ds=some (d',e)/\res=.val e/\σ'=σ.set i (some ⟨s.m,d'⟩):=by
 unfold bR8 at h;split at h;rename_i s hs;split at h;rename_i hm;obtain⟨⟨d',e⟩,a,b⟩:=aC h;cases b;exact⟨s,d',e,hs,hm,a,rfl,rfl⟩;cases h;cases h
def vG{T:String}{i:Nat}{σ:Sg}(h:aN1 T i σ=true):∃ s,σ[i]? = some (some s)/\s.m≠.val/\tyD T s.d=true:=by
 unfold aN1 at h;split at h;rename_i s hs;rw[a1e,a3w]at h;exact⟨s,hs,h.1,h.2⟩;cases h
section
variable{X:Cx}{e:Expr}{ra:DA}{K:W.Frag}{T:String}{r:V->List V->Hp->VK->Prop}{f:FM}{i:Nat}
def wD(u:dC9 r f)(h:∀ Γ,PE X e (tBM K T r (aT6 i) (dTA Γ ra))):GE X e (aB0 T i f ra):=.mk λΓ=>peW (h Γ) λσV H Q ⟨σ,ok,res,σ',e,k⟩=>by
 unfold aB0 at e;split at e;rename_i hn;obtain⟨⟨x,c⟩,w,e⟩:=aC e;obtain⟨z,A,e⟩:=aC e;obtain⟨s,d',y,hs,hm,B,rfl,rfl⟩:=hU e;obtain⟨F,g,j,l⟩:=vG hn;obtain⟨p,ep,ow⟩:=ok.ownAt g j;refine⟨_,ep,cM3 ow l,σ,ok,x,c,w,λvs C a D m G=>?_⟩;obtain⟨I,b,n⟩:=a.ownAt hs (iJ hm);rw[ep]at b;cases b;refine u C s.d p z vs Q d' y n (nK D A) B λo' v o E=>?_;obtain⟨q,t⟩:=a.write hs hm ep o;exact k v _ q E (m.trans t) eU;cases e
def cM4(u:dS3 r f)(h:∀ Γ,PE X e (tBM K T r (aT6 i) (dTA Γ ra))):GE X e (bJ8 T i f ra):=.mk λΓ=>peW (h Γ) λσV H Q ⟨σ,ok,res,σ',e,k⟩=>by
 unfold bJ8 at e;split at e;rename_i hn;obtain⟨⟨x,c⟩,w,e⟩:=aC e;obtain⟨z,A,e⟩:=aC e;obtain⟨s,d',y,hs,hm,B,rfl,rfl⟩:=hU e;obtain⟨F,g,j,l⟩:=vG hn;obtain⟨p,ep,ow⟩:=ok.ownAt g j;refine⟨_,ep,cM3 ow l,σ,ok,x,c,w,λvs C a D m G=>?_⟩;obtain⟨I,b,n⟩:=a.ownAt hs (iJ hm);rw[ep]at b;cases b;refine u C s.d p z vs Q d' y n (aA9 a D A) B λo' v o E=>?_;obtain⟨q,t⟩:=a.write hs hm ep o;exact k v _ q E (m.trans t) eU;cases e
def cM5(o:dC9 r f)(h:PE X e (dK7 K T r (aT6 i))):GE X e (bB8 T i f):=.mk λΓ=>peW h λσV H Q ⟨σ,ok,res,σ',e,k⟩=>by
 unfold bB8 at e;split at e;rename_i hn;obtain⟨s,d',y,hs,hm,q,rfl,rfl⟩:=hU e;obtain⟨u,b,c,g⟩:=vG hn;obtain⟨p,ep,ow⟩:=ok.ownAt b c;refine⟨_,ep,cM3 ow g,?_⟩;obtain⟨w,a,j⟩:=ok.ownAt hs (iJ hm);rw[ep]at a;cases a;refine o H s.d p [] [] Q d' y j .nil q λo' v l t=>?_;obtain⟨m,n⟩:=ok.write hs hm ep l;exact k v _ m t n eU;cases e
end
inductive Out where
 | nx (σ:Sg) | rt (r:Res) (σ:Sg) | bk (σ:Sg) | ct (σ:Sg) | ex (c:Str) (f:Option (Str×D)) (σ:Sg)
abbrev DS:=Sg->Option Out
structure Ex where
 ok:Hp->Str->Option (Str×D)->Value->Option Addr->Prop
 to:St->XK
noncomputable def Ex.no:Ex:=⟨λ_ _ _ _ _=>False,λ_ _ _ _=>False⟩
def bJ9(Γ:Gm)(E:Ex)(σ:Sg)(σV:St)(H:Hp)(o:Out)(D:Ends):Prop:=match o with
 | .nx σ'=>∀ σV' H',StOk Γ H' σ' σV'->Step σ σV H σ' σV' H'->D.nx σV' H'
 | .rt r σ'=>∀ v σV' H',StOk Γ H' σ' σV'->jM Γ H' σ' σV' r v->Step σ σV H σ' σV' H'->D.rt v H'
 | .bk σ'=>∀ σV' H',StOk Γ H' σ' σV'->Step σ σV H σ' σV' H'->D.bk σV' H'
 | .ct σ'=>∀ σV' H',StOk Γ H' σ' σV'->Step σ σV H σ' σV' H'->D.ct σV' H'
 | .ex c f σ'=>∀ x d σV' H',StOk Γ H' σ' σV'->E.ok H' c f x d->Step σ σV H σ' σV' H'->E.to σV' x d H'
def dTS(Γ:Gm)(E:Ex)(r:DS):TS:=λD σV H=>∃ σ,StOk Γ H σ σV/\∃ o,r σ=some o/\bJ9 Γ E σ σV H o D
structure GS(E:Ex)(X:Cx)(s:Stmt)(r:DS):Prop where
 to:∀ Γ,PS X s (dTS Γ E r)
structure GSs(E:Ex)(X:Cx)(s:List Stmt)(r:DS):Prop where
 to:∀ Γ,PSs X s (dTS Γ E r)
def bJ9.after{Γ:Gm}{E:Ex}{σ b:Sg}{σV a:St}{H e:Hp}{o:Out}{D:Ends}(h:bJ9 Γ E σ σV H o D)(st:Step σ σV H b a e):bJ9 Γ E b a e o D:=by
 cases o with
 | nx σ'=>exact λσV' H' ok s=>h σV' H' ok (st.trans s)
 | rt r σ'=>exact λv σV' H' ok q s=>h v σV' H' ok q (st.trans s)
 | bk σ'=>exact λσV' H' ok s=>h σV' H' ok (st.trans s)
 | ct σ'=>exact λσV' H' ok s=>h σV' H' ok (st.trans s)
 | ex c f σ'=>exact λx d σV' H' ok q s=>h x d σV' H' ok q (st.trans s)
noncomputable def iK:DS:=λσ=>some (.nx σ)
noncomputable def cF(a b:DS):DS:=λσ=>(a σ).bind λo=>match o with
 | .nx c=>b c
 | o=>some o
noncomputable def xW(r:DE):DS:=λσ=>(r σ).bind λx=>some (.nx x.2)
noncomputable def iW(r:DE):DS:=λσ=>(r σ).bind λx=>some (.rt x.1 x.2)
noncomputable def dP5:DS:=λσ=>some (.rt (.val .non) σ)
noncomputable def wE(c:DT)(a b:DS):DS:=λσ=>(c σ).bind λx=>if x.1=true then a x.2 else b x.2
section
variable{X:Cx}{E:Ex}{st:Stmt}{eZ:List Stmt}{a b:DS}{pos:Pos}{e:Expr}{r:DE}
def eG:GSs E X [] iK:=.mk λΓ=>cT6 aN7 λD σV H ⟨σ,ok,o,e,k⟩=>by
 cases e;exact k σV H ok .refl
def aO(h:GS E X st a):GSs E X [st] a:=.mk λΓ=>gD (h.to Γ)
def bW3{Γ:Gm}{E:Ex}{D:Ends}{σV:St}{H:Hp}(h:dTS Γ E (cF a b) D σV H):cT3 (dTS Γ E a) (dTS Γ E b) D σV H:=by
 obtain⟨σ,ok,o,e,k⟩:=h;obtain⟨j,m,e⟩:=aC e;refine⟨σ,ok,j,m,?_⟩;cases j with
 | nx d=>exact λl n g i=>⟨d,g,o,e,k.after i⟩
 | rt r σ'=>cases e;exact k
 | bk σ'=>cases e;exact k
 | ct σ'=>cases e;exact k
 | ex c f σ'=>cases e;exact k
def aF(c:GS E X st a)(d:GSs E X eZ b):GSs E X (st::eZ) (cF a b):=.mk λΓ=>cT6 (cK (c.to Γ) (d.to Γ)) λ_ _ _=>bW3
def oS(d:GE X e r)(hs:swapsWith e none pos.line X.env=pure false:=by rfl):GS E X (.Expr e pos) (xW r):=.mk λΓ=>psW (vS (d.to Γ) hs) λD σV H ⟨σ,ok,o,e,k⟩=>by
 obtain⟨⟨x,a⟩,f,e⟩:=aC e;cases e;exact⟨σ,ok,x,a,f,λv g b h c _=>k σV g b c⟩
def bP(d:GE X e r):GS E X (.Return (some e) pos) (iW r):=.mk λΓ=>psW (yF (d.to Γ)) λD σV H ⟨σ,ok,o,e,k⟩=>by
 obtain⟨⟨x,a⟩,f,e⟩:=aC e;cases e;exact⟨σ,ok,x,a,f,λv g b h c _=>k v σV g b h c⟩
def mU{c:Expr}{l m:List Stmt}{t:DT}(i:GT X c t)(ha:GSs E X l a)(hb:GSs E X m b):GS E X (.If c l m pos) (wE t a b):=.mk λΓ=>psW (cH5 (i.to Γ) (ha.to Γ) (hb.to Γ)) λD σV H ⟨σ,ok,o,e,k⟩=>by
 obtain⟨⟨x,d⟩,j,e⟩:=aC e;refine⟨σ,ok,x,d,j,λn f g=>?_⟩;dsimp only at e;split at e;rename_i h;rw[a3s h];exact⟨d,f,o,e,k.after g⟩;rename_i h;rw[a3u h];exact⟨d,f,o,e,k.after g⟩
end
noncomputable def gF(σ:Sg)(i:Nat):Bool:=match σ[i]? with
 | some none=>true
 | some (some s)=>decide (s.m=.val)||decide (s.m=.own)
 | none=>false
def nM{σ:Sg}{i:Nat}(h:gF σ i=true):i < σ.length:=by
 unfold gF at h;split at h;rename_i e;exact(a1a.mp e).1;rename_i e;exact(a1a.mp e).1;cases h
def bW4{σ:Sg}{i:Nat}{s:Sl}(h:gF σ i=true)(hs:σ[i]? = some (some s)):s.m=.val\/s.m=.own:=by
 unfold gF at h;rw[hs]at h;simpa using h
section
variable{Γ:Gm}{H H0:Hp}{σ σ0:Sg}{σV σV0:St}{i:Nat}{d:D}{v:V}
def StOk.put(ok:StOk Γ H σ σV)(h:gF σ i=true)(r:Rp H d v):StOk Γ H (σ.set i (some ⟨.val,d⟩)) (σV.set i (some v)) where
 rel:=λj t c=>by
  rcases bD c with⟨z,a,_⟩ | ⟨z,a⟩;cases a;subst z;exact⟨v,by rw[a6b (by rw[← ok.len];exact nM h)],r⟩;obtain⟨w,k,f⟩:=ok.rel j t a;exact⟨w,by rw[a4a (a5d z)];exact k,f⟩
 dis:=λj l t o q n c p m m' b e=>by
  rcases bD c with⟨z,a,_⟩ | ⟨z,a⟩;cases a;cases m;rcases bD p with⟨y,g,_⟩ | ⟨y,g⟩;cases g;exact m' rfl;rw[a4a (a5d z)]at b;rw[a4a (a5d y)]at e;exact ok.dis j l t o q n a g m m' b e
 own:=λj t q c m b=>by
  rcases bD c with⟨z,a,_⟩ | ⟨z,a⟩;cases a;cases m;rw[a4a (a5d z)]at b;exact ok.own j t q a m b
 par:=λj t q c m b=>by
  rcases bD c with⟨z,a,_⟩ | ⟨z,a⟩;cases a;cases m;rw[a4a (a5d z)]at b;exact ok.par j t q a m b
 keep:=ok.keep
 dom:=ok.dom
 len:=by rw[a4f,a4f];exact ok.len
def Step.put(st:Step σ0 σV0 H0 σ σV H)(u:gF σ i=true)(m:Md)(hm:m=.val\/m=.own/\∀ p,v=.ref p->H0 p=none):Step σ0 σV0 H0 (σ.set i (some ⟨m,d⟩)) (σV.set i (some v)) H:=by
 have b:m≠.lent:=by rcases hm with rfl | ⟨rfl,_⟩<;>exact λz=>nomatch z
 have w:=nM u;have h:∀ t,σ[i]? = some (some t)->t.m≠.par/\t.m≠.lent:=λt e=>by
  rcases bW4 u e with z | z<;>(rw[z];exact⟨(λy=>by cases y),(λy=>by cases y)⟩)
 refine⟨st.fr,st.dom,λa ⟨j,t,f,mt,g⟩=>?_,λa ⟨j,t,f,nv,g⟩=>?_,λj t f=>?_,λj t f k=>?_,λj t f k=>?_⟩
 ·rcases bD f with⟨z,c,_⟩ | ⟨z,c⟩;cases c;subst z;rcases hm with rfl | ⟨_,q⟩;cases mt;have:=a1a.mp g;obtain⟨x,l⟩:=this;rw[List.getElem_set_self]at l;exact .inr (q a (a7a l));rw[a4a (a5d z)]at g;exact st.mu a ⟨j,t,c,mt,g⟩
 ·rcases bD f with⟨z,c,_⟩ | ⟨z,c⟩;cases c;subst z;rcases hm with rfl | ⟨_,q⟩;exact absurd rfl nv;have:=a1a.mp g;obtain⟨x,l⟩:=this;rw[List.getElem_set_self]at l;exact .inr (q a (a7a l));rw[a4a (a5d z)]at g;exact st.nv a ⟨j,t,c,nv,g⟩
 ·obtain⟨n,o⟩:=st.kp j t f;by_cases z:j=i;subst z;exact⟨_,by rw[a6b w]⟩;exact⟨n,by rw[a4a (a5d z)];exact o⟩
 ·obtain⟨n,o,r,A,B⟩:=st.fix j t f k;have z:j≠i:=λz=>by
   subst z;obtain⟨n1,n2⟩:=h n o;rcases k with s | s;exact n1 (r.trans s);exact n2 (r.trans s)
  exact⟨n,by rw[a4a (a5d z)];exact o,r,A,by rw[a4a (a5d z)];exact B⟩
 ·rcases bD f with⟨z,c,_⟩ | ⟨z,c⟩;cases c;exact absurd k b;exact st.lt j t c k
def StOk.putOwn{p:Addr}(ok:StOk Γ H σ σV)(g:gF σ i=true)(ow:dW H d p)(hn:¬ aV0 σ σV p)(h0:Γ.H₀ p=none):StOk Γ H (σ.set i (some ⟨.own,d⟩)) (σV.set i (some (.ref p))) where
 rel:=λj t e=>by
  rcases bD e with⟨z,c,_⟩ | ⟨z,c⟩;cases c;subst z;exact⟨.ref p,by rw[a6b (by rw[← ok.len];exact nM g)],p,rfl,ow⟩;obtain⟨w,s,h⟩:=ok.rel j t c;exact⟨w,by rw[a4a (a5d z)];exact s,h⟩
 dis:=λj l t k q n e o m m' a b=>by
  have r:i < σV.length:=by rw[← ok.len];exact nM g
  rcases bD e with⟨z,c,_⟩ | ⟨z,c⟩;subst z;rw[a6b r]at a;have a:=a7a (a7a a);cases a;rcases bD o with⟨y,f,_⟩ | ⟨y,f⟩;exact n y.symm;rw[a4a (a5d y)]at b;exact hn ⟨l,k,f,m',b⟩;rw[a4a (a5d z)]at a;rcases bD o with⟨y,f,_⟩ | ⟨y,f⟩;subst y;rw[a6b r]at b;have b:=a7a (a7a b);cases b;exact hn ⟨j,t,c,iJ m,a⟩;rw[a4a (a5d y)]at b;exact ok.dis j l t k q n c f m m' a b
 own:=λj t q e m a=>by
  rcases bD e with⟨z,c,_⟩ | ⟨z,c⟩;subst z;rw[a6b (by rw[← ok.len];exact nM g)]at a;have a:=a7a (a7a a);cases a;exact h0;rw[a4a (a5d z)]at a;exact ok.own j t q c m a
 par:=λj t q e m a=>by
  rcases bD e with⟨z,c,_⟩ | ⟨z,c⟩;cases c;cases m;rw[a4a (a5d z)]at a;exact ok.par j t q c m a
 keep:=ok.keep
 dom:=ok.dom
 len:=by rw[a4f,a4f];exact ok.len
end
noncomputable def dL2(i:Nat)(r:Res)(σ:Sg):Option Sg:=match r with
 | .val d=>if gF σ i=true then some (σ.set i (some ⟨.val,d⟩))else none
 | .own d=>if gF σ i=true then some (σ.set i (some ⟨.own,d⟩))else none
 | .slot _=>none
noncomputable def dQ(i:Nat)(r:DE):DS:=λσ=>(r σ).bind λx=>(dL2 i x.1 x.2).bind λa=>some (.nx a)
def aV5{Γ:Gm}{E:Ex}{i:Nat}{r:DE}{D:Ends}{σV:St}{H:Hp}(h:dTS Γ E (dQ i r) D σV H):dTE Γ r σV H (λx n=>D.nx (σV.set i (some x)) n):=by
 obtain⟨σ,ok,o,e,k⟩:=h;obtain⟨⟨x,b⟩,s,e⟩:=aC e;obtain⟨c,m,e⟩:=aC e;cases e;refine⟨σ,ok,x,b,s,λv n f q g t=>?_⟩;cases x with
 | val d=>
   have a:(if gF b i=true then some (b.set i (some ⟨.val,d⟩))else none)=some c:=m;split at a;rename_i l;cases a;exact k _ _ (f.put l q) (g.put l .val (.inl rfl));cases a
 | own d=>
   have a:(if gF b i=true then some (b.set i (some ⟨.own,d⟩))else none)=some c:=m;split at a;rename_i l;cases a;obtain⟨p,rfl,u,w,y⟩:=q;exact k _ _ (f.putOwn l u w y) (g.put l .own (.inr ⟨rfl,λp e=>t _ p rfl e⟩));cases a
 | slot j=>cases m
def dD0{X:Cx}{E:Ex}{i:Nat}{st:Stmt}{r:DE}(h:∀ Γ,PS X st (bS4 (dTE Γ r) (nD i))):GS E X st (dQ i r):=.mk λΓ=>psW (h Γ) λ_ _ _ h=>aV5 h
noncomputable def jO(x:Str):List D:=x.cps.toList.map λc=>.str ⟨#[c]⟩
def aG5{H:Hp}(x:Str):Rps H (jO x) (fE x):=by
 unfold jO fE
 induction x.cps.toList with
 | nil=>exact .nil
 | cons a r b=>exact .cons (.str _) b
abbrev DG:=D->Sg->Option Sg
abbrev DGs:=List D->Sg->Option Sg
def bW5(own:List Nat)(g:TG)(e:DG):Prop:=∀ Γ H b a c σ σV d v σ' Q,StOk Γ H σ σV->Step b a c σ σV H->Rp H d v->e d σ=some σ' ->
 (∀ σV',StOk Γ H σ' σV'->Step b a c σ' σV' H->σV'.length=σV.length->(∀ i,i∉own->σV'[i]? = σV[i]? /\ σ'[i]? = σ[i]?)->Q σV' H)->g v σV H Q
def bW6(own:List Nat)(g:TGs)(e:DGs):Prop:=∀ Γ H b a c σ σV d vs σ' Q,StOk Γ H σ σV->Step b a c σ σV H->Rps H d vs->e d σ=some σ' ->
 (∀ σV',StOk Γ H σ' σV'->Step b a c σ' σV' H->σV'.length=σV.length->(∀ i,i∉own->σV'[i]? = σV[i]? /\ σ'[i]? = σ[i]?)->Q σV' H)->g vs σV H Q
noncomputable def dgN(i:Nat):DG:=λd σ=>if gF σ i=true then some (σ.set i (some ⟨.val,d⟩))else none
noncomputable def aO7:DGs:=λa σ=>if a.isEmpty then some σ else none
noncomputable def jP(g:DG)(b:DGs):DGs:=λc σ=>match c with
 | d::r=>(g d σ).bind λa=>b r a
 | []=>none
noncomputable def aO8(n:Nat)(a:DGs):DG:=λd σ=>match d with
 | .tup l=>if l.length=n then a l σ else none
 | .str z=>if z.length=n then a (jO z) σ else none
 | _=>none
def bA{own:List Nat}{i:Nat}(h:i∈own):bW5 own (nD i) (dgN i):=by
 intro Γ H c a f σ σV d v σ' Q ok st r e k;unfold dgN at e;split at e;rename_i b;cases e;refine k _ (ok.put b r) (st.put b .val (.inl rfl)) (by simp) λj hj=>?_;have:i≠j:=λz=>hj (by rw[← z];exact h);exact⟨a4a this,a4a this⟩;cases e
def aO9{own:List Nat}:bW6 own dM4 aO7:=by
 intro Γ H b a c σ σV d vs σ' Q ok st r e k;unfold aO7 at e;cases r with
 | nil=>cases e;exact⟨rfl,k _ ok st rfl λ_ _=>⟨rfl,rfl⟩⟩
 | cons _ _=>cases e
def iX{own:List Nat}{g:TG}{p:DG}{q:TGs}{c:DGs}(w:bW5 own g p)(x:bW6 own q c):bW6 own (cH6 g q) (jP p c):=by
 intro Γ H d b s σ σV A vs σ' Q ok st r e k;cases r with
 | nil=>cases e
 | cons a t=>
   obtain⟨f,y,e⟩:=aC e;refine⟨_,_,rfl,w Γ H d b s σ σV _ _ f _ ok st a y λh l m l1 u=>?_⟩;refine x Γ H d b s f h _ _ σ' _ l m t e λj n o z v=>?_;exact k j n o (z.trans l1) λi hi=>⟨(v i hi).1.trans (u i hi).1,(v i hi).2.trans (u i hi).2⟩
def bK0{own:List Nat}{K:W.Frag}{n:Nat}{i:TGs}{a:DGs}(h:bW6 own i a):bW5 own (bB5 K n i) (aO8 n a):=by
 intro Γ H f b j σ σV d v σ' Q ok st r e k;cases d with
 | tup l=>
   have c:(if l.length=n then a l σ else none)=some σ':=e;split at c;rename_i g;obtain⟨p,xs,rfl,o,m⟩:=fF (.inl r);exact⟨xs,cB o,by rw[← m.length];exact g,h Γ H f b j σ σV l xs σ' Q ok st m c k⟩;cases c
 | str z=>
   have c:(if z.length=n then a (jO z) σ else none)=some σ':=e;split at c;rename_i g;cases r;exact⟨g,h Γ H f b j σ σV _ _ σ' Q ok st (aG5 z) c k⟩;cases c
 | _=>cases e
noncomputable def dL3(g:DG)(r:DE):DS:=λσ=>(r σ).bind λx=>match x.1 with
 | .val d=>(g d x.2).bind λa=>some (.nx a)
 | _=>none
def dD1{X:Cx}{E:Ex}{own:List Nat}{st:Stmt}{r:DE}{g:TG}{m:DG}(p:bW5 own g m)(h:∀ Γ,PS X st (bS4 (dTE Γ r) g)):GS E X st (dL3 m r):=.mk λΓ=>psW (h Γ) λD σV H ⟨σ,ok,o,e,k⟩=>by
 obtain⟨⟨x,a⟩,q,e⟩:=aC e;refine⟨σ,ok,x,a,q,λv n c s f u=>?_⟩;cases x with
 | val d=>
   obtain⟨i,t,e⟩:=aC e;cases e;exact p Γ n σ σV H a σV d v i _ c f s t λb j l _ _=>k b n j l
 | own d=>cases e
 | slot d=>cases e
noncomputable def lend(i:Nat)(σ:Sg):Sg:=match σ[i]? with
 | some (some s)=>if s.m.mt=true then σ.set i (some ⟨.lent,s.d⟩)else σ
 | _=>σ
noncomputable def unl(i:Nat)(a σ:Sg):Sg:=match a[i]?,σ[i]? with
 | some (some s0),some (some s)=>if s0.m.mt=true then σ.set i (some ⟨s0.m,s.d⟩)else σ
 | _,_=>σ
noncomputable def lendO(l:Option Nat)(σ:Sg):Sg:=match l with
 | some i=>lend i σ
 | none=>σ
noncomputable def yQ(l:Option Nat)(a σ:Sg):Sg:=match l with
 | some i=>unl i a σ
 | none=>σ
section
variable{Γ:Gm}{H H1 H2:Hp}{σ σ1 σ2:Sg}{σV σV2:St}{i:Nat}{s:Sl}
def aB1(hs:σ[i]? = some (some s))(hm:s.m.mt=true):lend i σ=σ.set i (some ⟨.lent,s.d⟩):=by
 unfold lend;rw[hs];simp only[hm,if_true]
def aP0(h:∀ s,σ[i]? = some (some s)->s.m.mt=false):lend i σ=σ:=by
 unfold lend;split;rename_i s hs;rw[a3u (by rw[h s hs];exact a3d)];rfl
theorem StOk.lend(ok:StOk Γ H σ σV):StOk Γ H (lend i σ) σV:=by
 by_cases f:∃ s,σ[i]? = some (some s)/\s.m.mt=true
 ·obtain⟨s,hs,hm⟩:=f;rw[aB1 hs hm];obtain⟨p,ep,ow⟩:=ok.ownAt hs (iJ hm);have back:∀ (j:Nat) t,(σ.set i (some ⟨.lent,s.d⟩))[j]? = some (some t)->(j=i/\t=⟨.lent,s.d⟩)\/(j≠i/\σ[j]? = some (some t)):=λj t a=>by
   rcases bD a with⟨z,h,_⟩ | z;cases h;exact .inl ⟨z,rfl⟩;exact .inr z
  refine⟨λj t a=>?_,λj l t g q n a k m m' b c=>?_,λj t q a m b=>?_,λj t q a m b=>?_,ok.keep,ok.dom,by rw[a4f];exact ok.len⟩;rcases back j t a with⟨rfl,rfl⟩ | ⟨_,z⟩;exact⟨_,ep,p,rfl,ow⟩;exact ok.rel j t z;rcases back j t a with⟨rfl,rfl⟩ | ⟨_,z⟩;cases m;rcases back l g k with⟨rfl,rfl⟩ | ⟨_,y⟩;exact ok.dis j l t s q n z hs m (iJ hm) b c;exact ok.dis j l t g q n z y m m' b c;rcases back j t a with⟨rfl,rfl⟩ | ⟨_,z⟩;cases m;exact ok.own j t q z m b;rcases back j t a with⟨rfl,rfl⟩ | ⟨_,z⟩;cases m;exact ok.par j t q z m b
 ·rw[aP0 λs hs=>by
   cases e:s.m.mt with
   | false=>rfl
   | true=>exact absurd ⟨s,hs,e⟩ f]
  exact ok
def dD2(ok:StOk Γ H1 σ1 σV)(c:StOk Γ H2 σ2 σV2)(st:Step (lend i σ1) σV H1 σ2 σV2 H2):StOk Γ H2 (unl i σ1 σ2) σV2/\Step σ1 σV H1 (unl i σ1 σ2) σV2 H2:=by
 by_cases O:∃ s,σ1[i]? = some (some s)/\s.m.mt=true
 ·obtain⟨s,hs,hm⟩:=O;have U:i < σ1.length:=(a1a.mp hs).1;rw[aB1 hs hm]at st;have I:(σ1.set i (some ⟨.lent,s.d⟩))[i]? = some (some ⟨.lent,s.d⟩):=by rw[a6b U]
  obtain⟨s2,H,V,d2,P⟩:=st.fix i _ I (.inr rfl);have A:s2.m=.lent:=V;have B:i < σ2.length:=(a1a.mp H).1;have J:unl i σ1 σ2=σ2.set i (some ⟨s.m,s2.d⟩):=by unfold unl;rw[hs,H];simp only[hm,if_true]
  rw[J];obtain⟨p,ep,ow⟩:=ok.ownAt hs (iJ hm);have f:σV2[i]? = some (some (.ref p)):=P.trans ep;obtain⟨p',Q,K⟩:=c.ownAt H (by rw[A];exact λz=>nomatch z);rw[f]at Q;cases Q;have C:∀ (j:Nat) t,j≠i->σ2[j]? = some (some t)->t.m=.lent->σV2[j]? ≠ some (some (.ref p)):=λj t hj b L e=>by
   obtain⟨D,x,E⟩:=st.lt j t b L;rw[a4a (a5d hj)]at x;have W:(σ1.set i (some ⟨.lent,s.d⟩))[j]? = some (some D):=by rw[a4a (a5d hj)];exact x
   obtain⟨_,_,_,_,X⟩:=st.fix j D W (.inr E);rw[X]at e;exact ok.dis i j s D p (a5d hj) hs x hm (by rw[E];exact λz=>nomatch z) ep e
  have r:∀ (j:Nat) t,j≠i->σ2[j]? = some (some t)->t.m≠.val->σV2[j]? ≠ some (some (.ref p)):=λj t hj b L e=>by
   by_cases R:t.m=.lent;exact C j t hj b R e;have M:t.m.mt=true:=by
    cases q:t.m with
    | val=>exact absurd q L
    | own=>rfl
    | par=>rfl
    | lent=>exact absurd q R
   exact c.dis j i t s2 p hj b H M (by rw[A];exact λz=>nomatch z) e f
  have back:∀ (j:Nat) t,(σ2.set i (some ⟨s.m,s2.d⟩))[j]? = some (some t)->(j=i/\t=⟨s.m,s2.d⟩)\/(j≠i/\σ2[j]? = some (some t)):=λj t b=>by
   rcases bD b with⟨z,v,_⟩ | z;cases v;exact .inl ⟨z,rfl⟩;exact .inr z
  have sub:∀ a,jJ (σ1.set i (some ⟨.lent,s.d⟩)) σV a->jJ σ1 σV a:=λa ⟨j,t,b,m,k⟩=>by
   rcases bD b with⟨z,v,_⟩ | ⟨z,v⟩;cases v;cases m;exact⟨j,t,v,m,k⟩
  have F:∀ a,aV0 (σ1.set i (some ⟨.lent,s.d⟩)) σV a->aV0 σ1 σV a:=λa ⟨j,t,b,m,k⟩=>by
   rcases bD b with⟨z,v,_⟩ | ⟨z,v⟩;subst z;exact⟨j,s,hs,iJ hm,k⟩;exact⟨j,t,v,m,k⟩
  constructor
  ·refine⟨λj t b=>?_,λj l t w q n b S m m' g u=>?_,λj t q b m g=>?_,λj t q b m g=>?_,c.keep,c.dom,by rw[a4f];exact c.len⟩;rcases back j t b with⟨rfl,rfl⟩ | ⟨_,z⟩;exact⟨_,f,(dM (s:=⟨s.m,s2.d⟩) (iJ hm)).mpr ⟨p,rfl,K⟩⟩;exact c.rel j t z
   ·rcases back j t b with⟨rfl,rfl⟩ | ⟨zn,z⟩;rw[f]at g;have g:=a7a (a7a g);cases g;rcases back l w S with⟨rfl,rfl⟩ | ⟨T,y⟩;exact n rfl;exact r l w T y m' u;rcases back l w S with⟨rfl,rfl⟩ | ⟨T,y⟩;rw[f]at u;have u:=a7a (a7a u);cases u;exact r j t zn z (iJ m) g;exact c.dis j l t w q n z y m m' g u
   ·rcases back j t b with⟨rfl,rfl⟩ | ⟨_,z⟩;rw[f]at g;have g:=a7a (a7a g);cases g;exact ok.own j s p hs m ep;exact c.own j t q z m g
   ·rcases back j t b with⟨rfl,rfl⟩ | ⟨_,z⟩;rw[f]at g;have g:=a7a (a7a g);cases g;exact ok.par j s p hs m ep;exact c.par j t q z m g
  ·refine⟨λa o e n=>st.fr a o e λz=>n (sub a z),st.dom,λa ⟨j,t,b,m,k⟩=>?_,λa ⟨j,t,b,m,k⟩=>?_,λj t b=>?_,λj t b m=>?_,λj t b m=>?_⟩;rcases back j t b with⟨rfl,rfl⟩ | ⟨_,z⟩;rw[f]at k;have k:=a7a (a7a k);cases k;exact .inl ⟨j,s,hs,hm,ep⟩;rcases st.mu a ⟨j,t,z,m,k⟩with y | y;exact .inl (sub a y);exact .inr y;rcases back j t b with⟨rfl,rfl⟩ | ⟨_,z⟩;rw[f]at k;have k:=a7a (a7a k);cases k;exact .inl ⟨j,s,hs,iJ hm,ep⟩;rcases st.nv a ⟨j,t,z,m,k⟩with y | y;exact .inl (F a y);exact .inr y;by_cases z:j=i;subst z;exact⟨_,by rw[a6b B]⟩;obtain⟨w,N⟩:=st.kp j t (by rw[a4a (a5d z)];exact b);exact⟨w,by rw[a4a (a5d z)];exact N⟩;by_cases z:j=i;subst z;rw[hs]at b;cases b;refine⟨⟨s.m,s2.d⟩,by rw[a6b B],rfl,λq=>?_,P⟩;rw[q]at hm;cases hm;obtain⟨w,N,h⟩:=st.fix j t (by rw[a4a (a5d z)];exact b) m;exact⟨w,by rw[a4a (a5d z)];exact N,h⟩;rcases back j t b with⟨rfl,rfl⟩ | ⟨zn,z⟩;have m':s.m=.lent:=m;rw[m']at hm;cases hm;obtain⟨D,x,Y⟩:=st.lt j t z m;rw[a4a (a5d zn)]at x;exact⟨D,x,Y⟩
 ·have G:∀ s,σ1[i]? = some (some s)->s.m.mt=false:=λs hs=>by
   cases e:s.m.mt with
   | false=>rfl
   | true=>exact absurd ⟨s,hs,e⟩ O
  rw[aP0 G]at st;have J:unl i σ1 σ2=σ2:=by
   unfold unl;split;rename_i Z s' h0 h';rw[a3u (by rw[G Z h0];exact a3d)];rfl
  rw[J];exact⟨c,st⟩
theorem StOk.lendO{l:Option Nat}(ok:StOk Γ H σ σV):StOk Γ H (lendO l σ) σV:=by
 cases l with
 | none=>exact ok
 | some i=>exact ok.lend
def aB2{l:Option Nat}(ok:StOk Γ H1 σ1 σV)(a:StOk Γ H2 σ2 σV2)(st:Step (lendO l σ1) σV H1 σ2 σV2 H2):StOk Γ H2 (yQ l σ1 σ2) σV2/\Step σ1 σV H1 (yQ l σ1 σ2) σV2 H2:=by
 cases l with
 | none=>exact⟨a,st⟩
 | some i=>exact dD2 ok a st
def cM6{l:Option Nat}{r:Res}{v:V}(st:Step (lendO l σ1) σV H1 σ2 σV2 H2)(h:jM Γ H2 σ2 σV2 r v):jM Γ H2 (yQ l σ1 σ2) σV2 r v:=by
 cases l with
 | none=>exact h
 | some i=>
   show jM Γ H2 (unl i σ1 σ2) σV2 r v;have st':Step (lend i σ1) σV H1 σ2 σV2 H2:=st;unfold unl;split
   ·rename_i f s' h0 h';split
    ·rename_i hm;cases r with
     | val d=>exact h
     | own d=>
       obtain⟨p,a,b,g,k⟩:=h;refine⟨p,a,b,λ⟨j,t,n,m,c⟩=>g ?_,k⟩;rcases bD n with⟨z,e,_⟩ | ⟨z,e⟩;subst z;rw[aB1 h0 hm]at st';obtain⟨o,q,s,_⟩:=st'.fix j ⟨.lent,f.d⟩ (by rw[a6b (a1a.mp h0).1]) (.inr rfl);exact⟨j,o,q,by rw[s];exact λz=>(by cases z),c⟩
       ·exact⟨j,t,e,m,c⟩
     | slot j=>
       obtain⟨a,t,b⟩:=h;refine⟨a,?_⟩;by_cases z:j=i;subst z;exact⟨_,by rw[a6b (a1a.mp h').1]⟩
       ·exact⟨t,by rw[a4a (a5d z)];exact b⟩
    ·exact h
   ·exact h
end
structure ItD(J:It)(items:List D)(P:Hp->Prop):Prop where
 go:∀ H i d,P H->items[i]? = some d->J.go i H
 yld:∀ H i d y H',P H->items[i]? = some d->J.yld i H y H'->zZ H H'/\Rp H' d y
 stop:∀ H,P H->J.stop items.length H
def aV6{J:It}{xs:List V}{P:Hp->Prop}{items:List D}(w:ItIs J xs P):ItD J items (λH=>P H/\Rps H items xs) where
 go:=λH i d ⟨h,r⟩ e=>by
  obtain⟨x,ex,_⟩:=r.get e;exact w.go H i x h ex
 yld:=λH i d y H' ⟨h,r⟩ e q=>by
  obtain⟨x,ex,a⟩:=r.get e;obtain⟨rfl,rfl⟩:=w.yld H i x y H' h ex q;exact⟨.refl _,a⟩
 stop:=λH ⟨h,r⟩=>by
  refine w.stop H _ h ?_;have:=r.length;rw[a1d];lia
abbrev DI:=Sg->Option (List D×Option Nat×Sg)
def dTI(Γ:Gm)(ri:DI):TI:=λσV H R=>∃ σ,StOk Γ H σ σV/\∃ items l a,ri σ=some (items,l,a)/\∀ J c P,StOk Γ c a σV->Step σ σV H a σV c->ItD J items P ->
 (∀ d b e,Step (lendO l a) σV c d b e->P e)->R J c
structure GI(X:Cx)(tg iter:Expr)(ri:DI):Prop where
 to:∀ Γ,PI X tg iter (dTI Γ ri)
def piW{X:Cx}{tg e:Expr}{t t':TI}(h:PI X tg e t)(w:∀ σ H Q,t' σ H Q->t σ H Q):PI X tg e t':=λpins s σ H Q I q=>h pins s σ H Q I (w σ H Q q)
noncomputable def yR:D->Option (List D)
 | .lst l=>some l
 | .tup l=>some l
 | .str x=>some (jO x)
 | _=>none
noncomputable def dIt(r:DE):DI:=λσ=>(r σ).bind λx=>(rd x.2 x.1).bind λd=>(yR d).bind λl=>some (l,(match x.1 with | .slot i=>some i | _=>none),x.2)
def fY{H a:Hp}{p:Addr}{o:HO}(h:H p=some o)(b:a p=some o):eS a p=eS H p:=by unfold eS;rw[h,b]
def aG6{Γ:Gm}{g:Hp}{a:Sg}{σV:St}{x:Res}{v:V}{d:D}{items:List D}(A:StOk Γ g a σV)(h:jM Γ g a σV x v)(N:rd a x=some d)(H:yR d=some items)(vw:Vw g d v) :
  ∀ p b xs,v=.ref p->eS g p=some (b,xs)->Rps g items xs->∀ B k C,Step (lendO (match x with | .slot i=>some i | _=>none) a) σV g B k C->eS C p=some (b,xs)/\Rps C items xs:=by
 intro p b xs r u S B k C l;have ext:Ext g C:=l.ext (Γ:=Γ) A.lendO;refine⟨?_,S.mono ext⟩;cases x with
 | val d'=>
   cases N;subst r;cases d with
   | tup I=>obtain⟨_,_,e,f,_⟩:=fF vw;cases e;rw[fY f (ext.tup _ _ f)];exact u
   | lst I=>
     cases h with
     | lst f _=>rw[fY f (ext.frz _ _ _ f)];exact u
   | dic ks vs=>cases H
   | str z=>cases h
   | _=>cases H
 | own d'=>
   obtain⟨q,O,ow,T,_⟩:=h;rw[r]at O;cases O;obtain⟨o,E,_⟩:=ow.obj;rw[fY E (l.fr p o E (λz=>T z.nv))];exact u
 | slot i=>
   obtain⟨h,s,hs⟩:=h;have c:StOk Γ g a σV:=A;by_cases hm:s.m=.val
   ·obtain⟨w,P,J⟩:=c.rel i s hs;rw[h]at P;cases P;subst r;obtain⟨m,Q⟩:=s;cases hm;have K:some Q=some d:=by
     have:rd a (.slot i)=some Q:=by show(match a[i]? with | some (some s)=>some s.d | _=>none)=_;rw[hs]
     rw[← this];exact N
    cases K;have L:Rp g d (.ref p):=J;cases d with
    | tup I=>obtain⟨_,_,e,f,_⟩:=fF (.inl L);cases e;rw[fY f (ext.tup _ _ f)];exact u
    | lst I=>
      cases L with
      | lst f _=>rw[fY f (ext.frz _ _ _ f)];exact u
    | dic ks vs=>cases H
    | str z=>cases L
    | _=>cases H
   ·obtain⟨q,F,ow⟩:=c.ownAt hs hm;rw[h]at F;have F:=a7a (a7a F);rw[r]at F;cases F;obtain⟨o,E,_⟩:=ow.obj;have U:¬ jJ (lend i a) σV p:=by
     rintro⟨j,t,y,m,R⟩;by_cases n:s.m.mt=true;rw[aB1 hs n]at y;rcases bD y with⟨_,M,_⟩ | ⟨z,M⟩;cases M;cases m;exact c.dis j i t s p z M hs m hm R (by rw[h,r]);rw[aP0 (λs' G=>by rw[hs]at G;cases G;exact Bool.eq_false_iff.mpr n)]at y;by_cases z:j=i;subst z;rw[hs]at y;cases y;exact n m;exact c.dis j i t s p z y hs m hm R (by rw[h,r])
    rw[fY E (l.fr p o E U)];exact u
def cP{X:Cx}{tg e:Expr}{r:DE}(K:W.Frag)(w:X.K=K)(h:GE X e r):GI X tg e (dIt r):=.mk λΓ=>piW (aA5 K w (h.to Γ)) λσV H R ⟨σ,ok,items,l,y,e,k⟩=>by
 obtain⟨⟨x,A⟩,B,e⟩:=aC e;obtain⟨d,t,e⟩:=aC e;obtain⟨its,i,e⟩:=aC e;cases e;refine⟨σ,ok,x,_,B,λv n b u g D=>?_⟩;have vw:=u.vw b t;have stay:=aG6 b u t i vw;cases d with
 | lst C=>
   cases i;obtain⟨p,xs,rfl,j,o⟩:=iO vw;refine .inl ⟨xs,j,k _ n _ b g (aV6 (vZ (xs:=xs))) λc a m f=>?_⟩;obtain⟨q,s⟩:=stay p true xs rfl j o c a m f;exact⟨fD q,s⟩
 | tup C=>
   cases i;obtain⟨p,xs,rfl,j,o⟩:=fF vw;refine .inr ⟨xs,cB j,k _ n _ b g (aV6 (aU5 (xs:=xs))) λc a m f=>?_⟩;obtain⟨q,s⟩:=stay p false xs rfl (cB j) o c a m f;exact⟨eE q,s⟩
 | str z=>
   cases i;obtain rfl:=jN vw;exact k _ n (λH=>True/\Rps H (jO z) (fE z)) b g (aV6 bU1) λc a m f=>⟨True.intro,aG5 z⟩
 | _=>cases i
noncomputable def bE4(lo:Int)(n:Nat):List D:=(List.range n).map λ(i:Nat)=>D.int (lo+(i:Int))
def cM7{H:Hp}(lo:Int)(n:Nat):Rps H (bE4 lo n) (cD2 lo n):=by
 unfold bE4 cD2
 induction List.range n with
 | nil=>exact .nil
 | cons a r b=>exact .cons (.int _) b
noncomputable def cT9(a:DA):DI:=λσ=>(a σ).bind λx=>(rds x.2 x.1).bind λb=>match b with
 | [.int j]=>if -(2 ^ 62)<=j/\j < 2 ^ 62 then some (bE4 0 j.toNat,none,x.2)else none
 | [.int i,.int j]=>if(-(2 ^ 62)<=i/\i < 2 ^ 62) /\ -(2 ^ 62)<=j/\j < 2 ^ 62 then some (bE4 i (j-i).toNat,none,x.2)else none
 | _=>none
def aP1{X:Cx}{tg e:Expr}{d:DA}(h:∀ Γ,PI X tg e (cH7 (dTA Γ d)))(m:∀ σ rs σ',d σ=some (rs,σ')->rs.length=1):GI X tg e (cT9 d):=.mk λΓ=>piW (h Γ) λσV H R ⟨σ,ok,items,l,n,e,k⟩=>by
 obtain⟨⟨x,o⟩,g,e⟩:=aC e;obtain⟨w,p,e⟩:=aC e;refine⟨σ,ok,x,_,g,λvs r c i f y=>?_⟩;have vw:=aA9 c i p;have s:=m _ _ _ g;dsimp only at e;split at e
 ·split at e
  ·rename_i hj;cases e;cases vw with
   | cons a t=>
     cases t;obtain rfl:=dO a;exact⟨_,rfl,hj.1,hj.2,k _ r (λH=>True/\Rps H _ _) c f (aV6 aU6) λu j z v=>⟨True.intro,cM7 _ _⟩⟩
  ·cases e
 ·exfalso;cases vw with
  | cons a t=>cases t with
    | cons b t=>
      cases i with
      | cons _ q _=>cases q with
        | cons _ q _=>simp at s
 ·cases e
theorem cM8{r:DE}:∀ σ rs σ',aD r aR σ=some (rs,σ')->rs.length=1:=λσ rs σ' e=>by
 obtain⟨x,_,e⟩:=aC e;cases e;rfl
noncomputable def bK1(g:DG)(b:DS):List D->Sg->Option Out
 | [],σ=>some (.nx σ)
 | d::r,σ=>(g d σ).bind λe=>(b e).bind λo=>match o with
   | .nx a=>bK1 g b r a
   | .ct a=>bK1 g b r a
   | .bk a=>some (.nx a)
   | .rt x a=>some (.rt x a)
   | .ex c f a=>some (.ex c f a)
noncomputable def yS(l:Option Nat)(a:Sg):Out->Out
 | .nx σ=>.nx (yQ l a σ)
 | .rt r σ=>.rt r (yQ l a σ)
 | .bk σ=>.bk (yQ l a σ)
 | .ct σ=>.ct (yQ l a σ)
 | .ex c f σ=>.ex c f (yQ l a σ)
noncomputable def aP2(ri:DI)(g:DG)(b:DS):DS:=λσ=>(ri σ).bind λx=>(bK1 g b x.1 (lendO x.2.1 x.2.2)).bind λo=>some (yS x.2.1 x.2.2 o)
def bW7{Γ:Gm}{E:Ex}{own:List Nat}{ri:DI}{g:TG}{S:DG}{b:DS}(hg:bW5 own g S){D:Ends}{σV:St}{H:Hp}(h:dTS Γ E (aP2 ri S b) D σV H):cT4 (dTI Γ ri) g (dTS Γ E b) D σV H:=by
 obtain⟨σ,ok,o,e,k⟩:=h;obtain⟨⟨items,l,u⟩,e1,e⟩:=aC e;obtain⟨U,e2,e⟩:=aC e;cases e;refine⟨σ,ok,items,l,u,e1,λJ T P F M N stay=>?_⟩;dsimp only at e2
 -- V end that is wanted of V walk
 have K:∀ n a w,StOk Γ w n a->Step (lendO l u) σV T n a w->∀ W,W=U->(∀ σ',W=.nx σ'->∀ σV' H',StOk Γ H' σ' σV'->Step (lendO l u) σV T σ' σV' H'->D.nx σV' H'):=by
  intro n a w G B W ho σ' X σV' H' Y st';subst ho X;obtain⟨O,Q⟩:=aB2 F Y st';exact k σV' H' O (M.trans Q)
 refine⟨λi m a w=>m=items.length-i/\i<=items.length/\∃ n,bK1 S b (items.drop i) n=some U/\StOk Γ w n a/\Step (lendO l u) σV T n a w,⟨items.length,by simp,a2d _,lendO l u,by simpa using e2,F.lendO,.refl⟩,?_⟩;rintro i m a w ⟨rfl,hi,n,A,G,B⟩;have Z:=stay n a w B;by_cases I:i < items.length
 ·have ei:items[i]? = some items[i]:=a0a I;refine .inr ⟨N.go w i _ Z ei,λC R=>∃ m',m' < items.length-i/\m'=items.length-(i+1)/\i+1<=items.length/\∃ z,bK1 S b (items.drop (i+1)) z=some U/\StOk Γ R z C/\Step (lendO l u) σV T z C R,λσ' H' q=>q,λy R hy=>?_⟩;obtain⟨sm,ry⟩:=N.yld w i _ y R Z ei hy;rw[List.drop_eq_getElem_cons I]at A;obtain⟨z,eg,A⟩:=aC A;obtain⟨ob,eb,A⟩:=aC A;refine hg Γ R _ _ _ n a _ y z _ (G.same sm) (B.trans (.same sm)) ry eg λC ok3 t _ _=>?_;refine⟨z,ok3,ob,eb,?_⟩;cases ob with
  | nx s=>exact λj L r p=>⟨_,by lia,rfl,I,s,A,r,t.trans p⟩
  | ct s=>exact λj L r p=>⟨_,by lia,rfl,I,s,A,r,t.trans p⟩
  | bk s=>
    cases A;exact λj L r p=>K s j L r (t.trans p) _ rfl s rfl j L r (t.trans p)
  | rt x s=>
    cases A;intro v j L r r4 p;obtain⟨O,Q⟩:=aB2 F r (t.trans p);exact k v j L O (cM6 (t.trans p) r4) (M.trans Q)
  | ex c f s=>
    cases A;intro v d j L r r4 p;obtain⟨O,Q⟩:=aB2 F r (t.trans p);exact k v d j L O r4 (M.trans Q)
 ·have e0:i=items.length:=by lia
  subst e0;rw[List.drop_length]at A;cases A;exact .inl ⟨N.stop w Z,K n a w G B _ rfl n rfl a w G B⟩
def mP{X:Cx}{E:Ex}{own:List Nat}{st:Stmt}{ri:DI}{g:TG}{a:DG}{b:DS}(c:bW5 own g a)(h:∀ Γ,PS X st (cT4 (dTI Γ ri) g (dTS Γ E b))):GS E X st (aP2 ri a b):=.mk λΓ=>psW (h Γ) λ_ _ _=>bW7 c
def bK2:∃ n:Nat,1000000<=n:=⟨_,a6a _⟩
noncomputable def cU0:Nat:=Classical.choose bK2
def cM9:1000000<=cU0:=Classical.choose_spec bK2
noncomputable def pI(c:DT)(b:DS):Nat->Sg->Option Out
 | 0,_=>none
 | n+1,σ=>(c σ).bind λx=>if x.1=true then(b x.2).bind λo=>match o with
   | .nx a=>pI c b n a
   | .ct a=>pI c b n a
   | .bk a=>some (.nx a)
   | .rt r a=>some (.rt r a)
   | .ex c f a=>some (.ex c f a)else some (.nx x.2)
noncomputable def aV7(c:DT)(b:DS):DS:=λσ=>pI c b cU0 σ
def bB9{Γ:Gm}{E:Ex}{c:DT}{b:DS}{D:Ends}{σV:St}{H:Hp}(h:dTS Γ E (aV7 c b) D σV H):aT7 (dTT Γ c) (dTS Γ E b) D σV H:=by
 obtain⟨σ,ok,o,e,k⟩:=h;refine⟨λm l A=>∃ u,pI c b m u=some o/\StOk Γ A u l/\Step σ σV H u l A,⟨cU0,σ,e,ok,.refl⟩,?_⟩;rintro m l A ⟨u,p,B,r⟩;cases m with
 | zero=>cases p
 | succ n=>
   obtain⟨⟨t,y⟩,G,p⟩:=aC p;refine⟨u,B,t,y,G,λI z s=>?_⟩;dsimp only at p;split at p
   ·rename_i C;rw[a3s C];obtain⟨ob,J,p⟩:=aC p;refine⟨λa w=>∃ m',m' < n+1/\∃ g,pI c b m' g=some o/\StOk Γ w g a/\Step σ σV H g a w,λ_ _ q=>q,y,z,ob,J,?_⟩;cases ob with
    | nx g=>exact λa w i j=>⟨n,a3i n,g,p,i,(r.trans s).trans j⟩
    | ct g=>exact λa w i j=>⟨n,a3i n,g,p,i,(r.trans s).trans j⟩
    | bk g=>cases p;exact λa w i j=>k a w i ((r.trans s).trans j)
    | rt x g=>cases p;exact λv a w i F j=>k v a w i F ((r.trans s).trans j)
    | ex c f g=>cases p;exact λv d a w i F j=>k v d a w i F ((r.trans s).trans j)
   ·rename_i C;rw[a3u C];cases p;exact k l I z (r.trans s)
def bW8{X:Cx}{E:Ex}{st:Stmt}{c:DT}{b:DS}(h:∀ Γ,PS X st (aT7 (dTT Γ c) (dTS Γ E b))):GS E X st (aV7 c b):=.mk λΓ=>psW (h Γ) λ_ _ _=>bB9
noncomputable def bS(ow:List Nat)(σ:Sg):Sg:=ow.foldl (λσ i=>σ.set i none) σ
noncomputable def mV(ow:List Nat)(σ a:Sg):Sg:=ow.foldl (λa i=>a.set i (σ[i]?.getD none)) a
theorem gG{a:Type}:∀ (ow:List Nat) (σ:List (Option a)),(ow.foldl (λσ i=>σ.set i none) σ).length=σ.length
 | [],_=>rfl
 | i::r,σ=>(gG r (σ.set i none)).trans (by simp)
theorem fG{a:Type}:∀ (ow:List Nat) (σ:List (Option a)) (j:Nat),j∉ow->(ow.foldl (λσ i=>σ.set i none) σ)[j]? = σ[j]?
 | [],_,_,_=>rfl
 | i::r,σ,j,h=>by
   have b:i≠j:=λz=>h (by rw[z];exact a3a);have c:j∉r:=λz=>h (a5a _ z);show(r.foldl _ (σ.set i none))[j]? = _;rw[fG r _ j c,a4a b]
theorem bT{a:Type}:∀ (ow:List Nat) (σ:List (Option a)) (j:Nat) (x:a),(ow.foldl (λσ i=>σ.set i none) σ)[j]? = some (some x)->j∉ow/\σ[j]? = some (some x)
 | [],_,_,_,h=>⟨by simp,h⟩
 | i::r,σ,j,x,h=>by
   obtain⟨b,c⟩:=bT r (σ.set i none) j x h;rcases bD c with⟨_,z,_⟩ | ⟨z,d⟩;cases z;exact⟨by simp[z,b],d⟩
theorem pJ:∀ (ow:List Nat) (σ a:Sg),(mV ow σ a).length=a.length
 | [],_,_=>rfl
 | i::r,σ,a=>(pJ r σ (a.set i (σ[i]?.getD none))).trans (by simp)
theorem jQ:∀ (ow:List Nat) (σ a:Sg) (j:Nat),j∉ow->(mV ow σ a)[j]? = a[j]?
 | [],_,_,_,_=>rfl
 | i::r,σ,a,j,h=>by
   have b:i≠j:=λz=>h (by rw[z];exact a3a);have c:j∉r:=λz=>h (a5a _ z);show(mV r σ (a.set i (σ[i]?.getD none)))[j]? = _;rw[jQ r σ _ j c,a4a b]
theorem vH:∀ (ow:List Nat) (σ a:Sg) (j:Nat),j∈ow->σ.length=a.length->(mV ow σ a)[j]? = σ[j]?
 | [],_,_,_,h,_=>by simp at h
 | i::r,σ,a,j,h,hl=>by
   show(mV r σ (a.set i (σ[i]?.getD none)))[j]? = _;by_cases b:j∈r;exact vH r σ _ j b (by simp[hl])
   ·rw[jQ r σ _ j b];have:j=i:=by rcases a1c.mp h with z | z;exact z;exact absurd z b
    subst this;by_cases hj:j < a.length;rw[a6b hj,a0a (by lia:j < σ.length)];rfl;rw[a1d.mpr (by simp;lia),a1d.mpr (by lia)]
section
variable{Γ:Gm}{H H1 H2:Hp}{σ σ1 τ:Sg}{σV σV2 σV3:St}{ow:List Nat}
def StOk.blank(ok:StOk Γ H τ σV2)(h:σV3.length=σV2.length)(e:∀ j,j∉ow->σV3[j]? = σV2[j]?):StOk Γ H (bS ow τ) σV3 where
 rel:=λj t b=>by
  obtain⟨c,d⟩:=bT ow τ j t b;rw[e j c];exact ok.rel j t d
 dis:=λj l t g q n b i m m' a f=>by
  obtain⟨c,d⟩:=bT ow τ j t b;obtain⟨k,o⟩:=bT ow τ l g i;rw[e j c]at a;rw[e l k]at f;exact ok.dis j l t g q n d o m m' a f
 own:=λj t q b m a=>by
  obtain⟨c,d⟩:=bT ow τ j t b;rw[e j c]at a;exact ok.own j t q d m a
 par:=λj t q b m a=>by
  obtain⟨c,d⟩:=bT ow τ j t b;rw[e j c]at a;exact ok.par j t q d m a
 keep:=ok.keep
 dom:=ok.dom
 len:=by rw[bS,gG,h];exact ok.len
def Step.blank{c:Sg}(hb:∀ (j:Nat) t,c[j]? = some (some t)->j∉ow)(st:Step c σV H1 τ σV2 H2)(g:∀ j,j∉ow->σV3[j]? = σV2[j]?):Step c σV H1 (bS ow τ) σV3 H2 where
 fr:=st.fr
 dom:=st.dom
 mu:=λa ⟨j,t,b,m,f⟩=>by
  obtain⟨e,d⟩:=bT ow τ j t b;rw[g j e]at f;exact st.mu a ⟨j,t,d,m,f⟩
 nv:=λa ⟨j,t,b,m,f⟩=>by
  obtain⟨e,d⟩:=bT ow τ j t b;rw[g j e]at f;exact st.nv a ⟨j,t,d,m,f⟩
 kp:=λj t b=>by
  obtain⟨h,i⟩:=st.kp j t b;exact⟨h,by rw[bS,fG ow τ j (hb j t b)];exact i⟩
 fix:=λj t b m=>by
  obtain⟨h,i,e,d,k⟩:=st.fix j t b m;exact⟨h,by rw[bS,fG ow τ j (hb j t b)];exact i,e,d,by rw[g j (hb j t b)];exact k⟩
 lt:=λj t b m=>by
  obtain⟨e,d⟩:=bT ow τ j t b;exact st.lt j t d m
def wF(c:StOk Γ H1 σ1 σV)(ok:StOk Γ H τ σV2)(x:∀ j,j∉ow->σV2[j]? = σV[j]?)(N:σV2.length=σV.length)(st:Step (bS ow σ1) σV2 H1 τ σV2 H) :
  StOk Γ H (mV ow σ1 τ) σV/\Step σ1 σV H1 (mV ow σ1 τ) σV H:=by
 have A:σ1.length=τ.length:=by rw[c.len,ok.len,N]
 have O:StOk Γ H1 (bS ow σ1) σV2:=c.blank N x;have ext:Ext H1 H:=st.ext O;have get:∀ (j:Nat) t,(mV ow σ1 τ)[j]? = some (some t)->(j∈ow/\σ1[j]? = some (some t))\/(j∉ow/\τ[j]? = some (some t)):=λj t e=>by
  by_cases h:j∈ow;rw[vH ow σ1 τ j h A]at e;exact .inl ⟨h,e⟩;rw[jQ ow σ1 τ j h]at e;exact .inr ⟨h,e⟩
 have B:∀ (j:Nat) t,(bS ow σ1)[j]? = some (some t)->j∉ow/\σ1[j]? = some (some t):=λj t e=>bT ow σ1 j t e;have G:∀ (j:Nat),j∉ow->(bS ow σ1)[j]? = σ1[j]?:=λj h=>fG ow σ1 j h;have s:∀ a,jJ (bS ow σ1) σV2 a->∃ (j:Nat) (t:Sl),j∉ow/\σ1[j]? = some (some t)/\t.m.mt=true/\σV[j]? = some (some (.ref a)):=λa ⟨j,t,b,m,u⟩=>by
  obtain⟨k,f⟩:=B j t b;rw[x j k]at u;exact⟨j,t,k,f,m,u⟩
 have I:∀ a,aV0 (bS ow σ1) σV2 a->∃ (j:Nat) (t:Sl),j∉ow/\σ1[j]? = some (some t)/\t.m≠.val/\σV[j]? = some (some (.ref a)):=λa ⟨j,t,b,m,u⟩=>by
  obtain⟨k,f⟩:=B j t b;rw[x j k]at u;exact⟨j,t,k,f,m,u⟩
 have C:∀ (j l:Nat) t g q,j∈ow->σ1[j]? = some (some t)->l∉ow->τ[l]? = some (some g)->t.m≠.val->g.m≠.val->(t.m.mt=true\/g.m.mt=true)->σV[j]? = some (some (.ref q))->σV[l]? = some (some (.ref q))->False:=by
  intro j l t g q hj b P K m m' L i d;rw[← x l P]at d;obtain⟨p,ep,Q⟩:=c.ownAt b m;rw[i]at ep;have ep:=a7a (a7a ep);cases ep;obtain⟨o,S,_⟩:=Q.obj;rcases L with L | L;rcases st.nv q ⟨l,g,K,m',d⟩with z | z;obtain⟨D,E,k,f,v,F⟩:=I q z;exact c.dis j D t E q (λy=>k (by rw[← y];exact hj)) b f L v i F;rw[S]at z;cases z;rcases st.mu q ⟨l,g,K,L,d⟩with z | z;obtain⟨D,E,k,f,v,F⟩:=s q z;exact c.dis D j E t q (λy=>k (by rw[y];exact hj)) f b v m F i;rw[S]at z;cases z
 constructor
 ·refine⟨λj t b=>?_,λj l t g q n b K m m' i d=>?_,λj t q b m i=>?_,λj t q b m i=>?_,ok.keep,ok.dom,by rw[pJ,ok.len,N]⟩;rcases get j t b with⟨h,e⟩ | ⟨h,e⟩;obtain⟨w,M,r⟩:=c.rel j t e;refine⟨w,M,r.mono ext λp o ep m U=>st.fr p o U λz=>?_⟩;obtain⟨D,E,k,f,v,F⟩:=s p z;exact c.dis D j E t p (λy=>k (by rw[y];exact h)) f e v m F (by rw[M,ep]);obtain⟨w,M,r⟩:=ok.rel j t e;exact⟨w,by rw[← x j h];exact M,r⟩
  ·rcases get j t b with⟨h,e⟩ | ⟨h,e⟩;rcases get l g K with⟨h',J⟩ | ⟨h',J⟩;exact c.dis j l t g q n e J m m' i d;exact C j l t g q h e h' J (iJ m) m' (.inl m) i d;rcases get l g K with⟨h',J⟩ | ⟨h',J⟩;exact C l j g t q h' J h e m' (iJ m) (.inr m) d i;rw[← x j h]at i;rw[← x l h']at d;exact ok.dis j l t g q n e J m m' i d
  ·rcases get j t b with⟨h,e⟩ | ⟨h,e⟩;exact c.own j t q e m i;rw[← x j h]at i;exact ok.own j t q e m i
  ·rcases get j t b with⟨h,e⟩ | ⟨h,e⟩;exact c.par j t q e m i;rw[← x j h]at i;exact ok.par j t q e m i
 ·refine⟨λa o e n=>st.fr a o e λz=>?_,st.dom,λa ⟨j,t,b,m,u⟩=>?_,λa ⟨j,t,b,m,u⟩=>?_,λj t b=>?_,λj t b m=>?_,λj t b m=>?_⟩;obtain⟨D,E,k,f,v,F⟩:=s a z;exact n ⟨D,E,f,v,F⟩;rcases get j t b with⟨h,e⟩ | ⟨h,e⟩;exact .inl ⟨j,t,e,m,u⟩;rw[← x j h]at u;rcases st.mu a ⟨j,t,e,m,u⟩with z | z;obtain⟨D,E,k,f,v,F⟩:=s a z;exact .inl ⟨D,E,f,v,F⟩;exact .inr z;rcases get j t b with⟨h,e⟩ | ⟨h,e⟩;exact .inl ⟨j,t,e,m,u⟩;rw[← x j h]at u;rcases st.nv a ⟨j,t,e,m,u⟩with z | z;obtain⟨D,E,k,f,v,F⟩:=I a z;exact .inl ⟨D,E,f,v,F⟩;exact .inr z;by_cases h:j∈ow;exact⟨t,by rw[vH ow σ1 τ j h A];exact b⟩;obtain⟨g,R⟩:=st.kp j t (by rw[G j h];exact b);exact⟨g,by rw[jQ ow σ1 τ j h];exact R⟩;by_cases h:j∈ow;exact⟨t,by rw[vH ow σ1 τ j h A];exact b,rfl,λ_=>rfl,rfl⟩;obtain⟨g,R,k,f,v⟩:=st.fix j t (by rw[G j h];exact b) m;exact⟨g,by rw[jQ ow σ1 τ j h];exact R,k,f,rfl⟩;rcases get j t b with⟨h,e⟩ | ⟨h,e⟩;exact⟨t,e,m⟩;obtain⟨T,V,W⟩:=st.lt j t e m;exact⟨T,(B j T V).2,W⟩
end
noncomputable def aP3(ow:List Nat)(g:DG)(t:DT)(e:DE):List D->Sg->Option (List D×Sg)
 | [],a=>some ([],a)
 | d :: r,a=>(g d a).bind λb=>(t b).bind λx=>if x.1=true then(e x.2).bind λy=>match y.1 with
     | .val d'=>(aP3 ow g t e r (bS ow y.2)).bind λz=>some (d'::z.1,z.2)
     | _=>none else aP3 ow g t e r (bS ow x.2)
noncomputable def mL:DT:=λσ=>some (true,σ)
noncomputable def fS(ow:List Nat)(ri:DI)(g:DG)(t:DT)(e:DE):DE:=λσ=>(ri σ).bind λx=>if x.1.length<=sizeLine then(aP3 ow g t e x.1 (bS ow (lendO x.2.1 x.2.2))).bind λy=>
 some (.own (.lst y.1),yQ x.2.1 x.2.2 (mV ow (lendO x.2.1 x.2.2) y.2))else none
def aG7{Γ:Gm}{ow:List Nat}{ri:DI}{g:TG}{Y:DG}{t:DT}{e:DE}(hg:bW5 ow g Y){σV:St}{H:Hp}{Q:VK}(h:dTE Γ (fS ow ri Y t e) σV H Q) :
  bB1 ow (dTI Γ ri) g (dTT Γ t) (dTE Γ e) σV H Q:=by
 obtain⟨σ,ok,res,σ',w,k⟩:=h;obtain⟨⟨items,l,c⟩,e1,w⟩:=aC w;dsimp only at w;split at w
 case isFalse=>cases w
 case isTrue hlen=>
 obtain⟨⟨all,Z⟩,e2,w⟩:=aC w;cases w;refine⟨σ,ok,items,l,c,e1,λJ F P G I A stay=>?_⟩;have bl:(blank ow σV).length=σV.length:=gG ow σV;have bo:∀ j,j∉ow->(blank ow σV)[j]? = σV[j]?:=λj hj=>fG ow σV j hj;have K:StOk Γ F (lendO l c) σV:=G.lendO;have okB:StOk Γ F (bS ow (lendO l c)) (blank ow σV):=K.blank bl bo;have hb:∀ (j:Nat) t,(bS ow (lendO l c))[j]? = some (some t)->j∉ow:=λj t ej=>(bT ow _ j t ej).1
 -- a step within,as a step of the q
 have q:∀ o d,StOk Γ d o (blank ow σV)->Step (bS ow (lendO l c)) (blank ow σV) F o (blank ow σV) d->StOk Γ d (mV ow (lendO l c) o) σV/\Step (lendO l c) σV F (mV ow (lendO l c) o) σV d:=
  λo d r s=>wF K r bo bl s
 refine⟨λi m ys d=>m=items.length-i/\i<=items.length/\∃ o don eZ,aP3 ow Y t e (items.drop i) o=some (eZ,Z)/\don++eZ=all/\don.length<=i/\Rps d don ys/\StOk Γ d o (blank ow σV)/\Step (bS ow (lendO l c)) (blank ow σV) F o (blank ow σV) d,
  ⟨items.length,by simp,Nat.zero_le _,bS ow (lendO l c),[],all,by simpa using e2,rfl,a2d _,.nil,okB,.refl⟩,?_⟩
 rintro i m ys d ⟨rfl,hi,o,don,eZ,f,n,hdl,V,r,s⟩;have hyl:=V.length;obtain⟨okw,L⟩:=q o d r s;have hP:=stay _ σV d L;refine⟨by lia,?_⟩;by_cases u:i < items.length
 ·have ei:items[i]? = some items[i]:=a0a u;refine .inr ⟨A.go d i _ hP ei,λy W hy=>?_⟩;obtain⟨sm,ry⟩:=A.yld d i _ y W hP ei hy;rw[List.drop_eq_getElem_cons u]at f;obtain⟨M,eg,f⟩:=aC f;obtain⟨⟨b,B⟩,et,f⟩:=aC f;refine hg Γ W _ _ _ o (blank ow σV) _ y M _ (r.same sm) (s.trans (.same sm)) ry eg λσV3 N O l3 X=>?_;have x:Ext d W:=.same sm;refine⟨M,N,b,B,et,λH4 C D=>?_⟩;have z:Ext W H4:=D.ext N;dsimp only at f;split at f;rename_i hbt;dsimp only;rw[a3s hbt];obtain⟨⟨r5,R⟩,ee,f⟩:=aC f;refine⟨B,C,r5,R,ee,λv H5 ok5 r5' S f5=>?_⟩;dsimp only at f;split at f;rename_i d';obtain⟨⟨E,τe'⟩,ec',f⟩:=aC f;cases f;refine⟨_,by lia,rfl,u,bS ow R,don++[d'],E,ec',by rw[← n];simp,by simp;lia,?_,ok5.blank (by rw[l3]) (λj hj=>((X j hj).1).symm),Step.blank hb ((O.trans D).trans S) λj hj=>((X j hj).1).symm⟩;exact((V.mono x).mono z |>.mono (S.ext C)).append (.cons r5' .nil);cases f;rename_i hbf;dsimp only;rw[a3u hbf];refine⟨_,by lia,rfl,u,bS ow B,don,eZ,f,n,by lia,(V.mono x).mono z,C.blank (by rw[l3]) (λj hj=>((X j hj).1).symm),Step.blank hb (O.trans D) λj hj=>((X j hj).1).symm⟩
 ·have e0:i=items.length:=by lia
  subst e0;rw[List.drop_length]at f;cases f;rw[a1g]at n;subst n;refine .inl ⟨A.stop d hP,λp hp=>?_⟩;obtain⟨T,U⟩:=aB2 G okw L;have sm:zZ d (upd d p (.lst ys)):=bO hp;have nw:aO6 d (upd d p (.lst ys)) (.own (.lst don)) (.ref p):=⟨p,rfl,hp,ys,aJ,V.mono (.same sm)⟩;exact k _ _ (T.same sm) (nw.res T) ((I.trans U).trans (.same sm)) (nw.frh.back (I.trans U))
def eI{X:Cx}{ow:List Nat}{ex:Expr}{ri:DI}{g:TG}{a:DG}{t:DT}{e:DE}(b:bW5 ow g a)(h:∀ Γ,PE X ex (bB1 ow (dTI Γ ri) g (dTT Γ t) (dTE Γ e))):GE X ex (fS ow ri a t e):=.mk λΓ=>peW (h Γ) λ_ _ _=>aG7 b
def dD{X:Cx}{Γ:Gm}:cC9 X [] (dTT Γ mL):=λpins s σ H Q I ⟨a,ok,b,σ',e,k⟩=>aA1 pins s σ H Q I (by cases e;exact k H ok .refl)
def nN{X:Cx}{Γ:Gm}{c:Expr}{t:DT}(h:GT X c t):cC9 X [c] (dTT Γ t):=bT4 (h.to Γ)
def mE{X:Cx}{E:Ex}{ow:List Nat}{i:Nat}{st:Stmt}{ri:DI}{g:TG}{a:DG}{t:DT}{e:DE}(b:bW5 ow g a)(h:∀ Γ,PS X st (λD σ H=>bB1 ow (dTI Γ ri) g (dTT Γ t) (dTE Γ e) σ H λv c=>D.nx (σ.set i (some v)) c)):GS E X st (dQ i (fS ow ri a t e)):=.mk λΓ=>psW (h Γ) λD σV H h=>aG7 b (aV5 h)
abbrev Run:=List Sl->Option (Res×List Sl)
structure ArgOk(H:Hp)(as:List Sl)(vs:List V):Prop where
 len:as.length=vs.length
 rel:∀ (i:Nat) s,as[i]? = some s->∃ v,vs[i]? = some v/\bV9 H s v
 dis:∀ (i j:Nat) s t p,i≠j->as[i]? = some s->as[j]? = some t->s.m.mt=true->t.m≠.val->vs[i]? = some (.ref p)->vs[j]? = some (.ref p)->False
 own:∀ (i:Nat) s,as[i]? = some s->s.m≠.own
def cU1(as:List Sl)(vs:List V)(a:Addr):Prop:=∃ (i:Nat) (s:Sl),as[i]? = some s/\s.m.mt=true/\vs[i]? = some (.ref a)
structure PostOk(as:List Sl)(vs:List V)(H:Hp)(as':List Sl)(H':Hp):Prop where
 rel:∀ (i:Nat) s,as[i]? = some s->s.m.mt=true->∃ s' v,as'[i]? = some s'/\s'.m=s.m/\vs[i]? = some v/\bV9 H' s' v
 fr:∀ a o,H a=some o->¬ cU1 as vs a->H' a=some o
 dom:∀ a,H' a=none->H a=none
def dsp(n:Nat)(run:Run):Sp:=λvs H Q _=>∃ as res as',ArgOk H as vs/\as.length=n/\run as=some (res,as')/\∀ v H',PostOk as vs H as' H'->aO6 H H' res v->Q v H'
noncomputable def cU2(σ:Sg):Res->Option Res
 | .val d=>some (.val d)
 | .own d=>some (.own d)
 | .slot i=>match σ[i]? with
   | some (some s)=>if s.m=.own then some (.own s.d)else if s.m=.val then some (.val s.d)else none
   | _=>none
noncomputable def wG:List Sl->Sg->List Sl
 | [],_=>[]
 | a::as,some s::σ=>(if a.m=.val then a else s)::wG as σ
 | a::as,_::σ=>a::wG as σ
 | a::as,[]=>a::as
noncomputable def ini(len:Nat)(as:List Sl):Sg:=as.map some++List.replicate (len-as.length) none
noncomputable def pK(len:Nat)(a:DS):Run:=λas=>(a (ini len as)).bind λo=>match o with
 | .nx σ=>some (.val .non,wG as σ)
 | .rt r σ=>(cU2 σ r).bind λb=>some (b,wG as σ)
 | _=>none
def mW{len:Nat}{as:List Sl}{i:Nat}{s:Sl}:(ini len as)[i]? = some (some s)↔as[i]? = some s:=by
 unfold ini;by_cases h:i < as.length;rw[a7c (by simpa using h),a0b];cases as[i]? <;> simp;rw[a5b (by simpa using h),List.getElem?_replicate,a1d.mpr (by lia)];split<;>simp
def iP{N:List Str}{vs:List V}{i:Nat}{v:V}:(L2.iH N vs)[i]? = some (some v)↔vs[i]? = some v:=by
 unfold L2.iH;by_cases h:i < vs.length;rw[a7c (by simpa using h),a0b];cases vs[i]? <;> simp;rw[a5b (by simpa using h),List.getElem?_replicate,a1d.mpr (by lia)];split<;>simp
theorem aV8:∀ {as:List Sl} {σ:Sg} {i:Nat} {a s:Sl},as[i]? = some a->σ[i]? = some (some s)->(wG as σ)[i]? = some (if a.m=.val then a else s)
 | [],_,_,_,_,h,_=>by simp at h
 | _::_,[],_,_,_,_,h=>by simp at h
 | a::as,o::σ,0,b,s,h,h'=>by
   simp at h h';subst h h';unfold wG;simp
 | a::as,o::σ,i+1,b,s,h,h'=>by
   have:=aV8 (as:=as) (σ:=σ) (i:=i) (a:=b) (s:=s) (by simpa using h) (by simpa using h');cases o<;>(unfold wG;simpa using this)
section
variable{P:Program}{w:World}{K:W.Frag}{mg:Str->Option Value}{base:Heap}
abbrev MS:=Sg->(Out->Prop)->Prop
abbrev MC:=List Sl->(Res->List Sl->Prop)->Prop
def bR9(m:MS):Prop:=∀ σ (Q a:Out->Prop),(∀ o,Q o->a o)->m σ Q->m σ a
def mTS(Γ:Gm)(E:Ex)(m:MS):TS:=λD σV H=>∃ σ,StOk Γ H σ σV/\m σ λo=>bJ9 Γ E σ σV H o D
structure GM(E:Ex)(X:Cx)(ss:List Stmt)(m:MS):Prop where
 to:∀ Γ,PSs X ss (mTS Γ E m)
 mon:bR9 m
def bW9(n:Nat)(C:MC):Sp:=λvs H Q _=>∃ as,ArgOk H as vs/\as.length=n/\C as λres as'=>∀ v H',PostOk as vs H as' H'->aO6 H H' res v->Q v H'
def dS4(as:List Sl)(K:Res->List Sl->Prop)(o:Out):Prop:=match o with
 | .nx σ=>K (.val .non) (wG as σ)
 | .rt r σ=>∃ a,cU2 σ r=some a/\K a (wG as σ)
 | _=>False
def dL4(len:Nat)(m:MS):MC:=λas K=>m (ini len as) (dS4 as K)
def bK3{x qual:Str}{st:Stmt}{f:Addr}{fd:FuncData}{N ps:List Str}{k:Nat}(F:Fun K x qual st f fd)(S:FnScope N ps (aQ st))(R:ps.length<=N.length)(m:MS)(hm:bR9 m)
  (hb:∀ (cdv:Value) (A:Around) (outer:List Env) (s:Shared) (H:Hp) (E:XK),Room k (A.deeper (PyProof.Rows.envOfC qual (aQ st) s.heap.objs.size f cdv))->∀ Γ,PSs (cC3 CX0 P w K mg base N qual (aQ st) f cdv A outer s H E).nox (oN st) (mTS Γ Ex.no m)) :
  FnOk P w K mg base CX0 (k+1) f fd ps (bW9 ps.length (dL4 N.length m)):=by
 refine F.ok S (λvs H Q E Z1=>by obtain⟨as,ok,J,_⟩:=Z1;rw[← ok.len];exact J) λcdv A outer s H vs Q E T h=>?_;obtain⟨as,ok,J,h⟩:=h;refine⟨_,hb cdv A outer s H E T ⟨H,cU1 as vs⟩,ini N.length as,?_,hm _ _ _ (λo k=>?_) h⟩;refine⟨λi s e=>?_,λi j s t p n l G m m' e U=>?_,λi s p l m=>?_,λi s p l m e=>?_,λa o e _=>e,λa e=>e,?_⟩;obtain⟨v,y,r⟩:=ok.rel i s (mW.mp e);exact⟨v,iP.mpr y,r⟩;exact ok.dis i j s t p n (mW.mp l) (mW.mp G) m m' (iP.mp e) (iP.mp U);exact absurd m (ok.own i s (mW.mp l));exact⟨i,s,mW.mp l,by rw[m];rfl,iP.mp e⟩;unfold ini L2.iH;have:=ok.len;simp;lia;have u:∀ σ σV' H',StOk ⟨H,cU1 as vs⟩ H' σ σV'->Step (ini N.length as) (L2.iH N vs) H σ σV' H'->PostOk as vs H (wG as σ) H':=λσ σV' H' b st'=>by
  have V:∀ a,jJ (ini N.length as) (L2.iH N vs) a->cU1 as vs a:=λa ⟨j,t,G,m,W⟩=>⟨j,t,mW.mp G,m,iP.mp W⟩;refine⟨λi a l m=>?_,λa o e n=>st'.fr a o e λz=>n (V a z),st'.dom⟩;have L:a.m=.par:=by
   have h0:=ok.own i a l;cases q:a.m with
   | par=>rfl
   | own=>exact absurd q h0
   | val=>rw[q]at m;cases m
   | lent=>rw[q]at m;cases m
  obtain⟨s',es,X,_,C⟩:=st'.fix i a (mW.mpr l) (.inl L);obtain⟨v,y,r⟩:=b.rel i s' es;obtain⟨Y,M,_⟩:=ok.rel i a l;have:some (some v)=some (some Y):=by rw[← y,C];exact iP.mpr M
  cases this;refine⟨s',v,?_,X,M,r⟩;rw[aV8 l es,a3u (by rw[L];exact λz=>nomatch z)]
 cases o with
 | nx σ=>
   exact λσV' H' b st'=>k .non H' (u σ σV' H' b st') .non
 | rt r σ=>
   obtain⟨res,y,k⟩:=k;intro v σV' H' b I st';refine k v H' (u σ σV' H' b st') ?_;cases r with
   | val d=>cases y;exact I
   | own d=>
     cases y;obtain⟨p,D,B,q3,Z⟩:=I;exact⟨p,D,Z,B⟩
   | slot i=>
     obtain⟨D,s',B⟩:=I;have g:(match σ[i]? with | some (some s)=>if s.m=.own then some (Res.own s.d)else if s.m=.val then some (.val s.d)else none | _=>none)=some res:=y;rw[B]at g;dsimp only at g;obtain⟨v',C,O⟩:=b.rel i s' B;rw[D]at C;cases C;split at g
     ·rename_i hm;cases g;obtain⟨p,rfl,ow⟩:=(dM (by rw[hm];exact λz=>nomatch z)).mp O;exact⟨p,rfl,b.own i s' p B hm D,ow⟩
     ·split at g;rename_i hm;cases g;obtain⟨m,d⟩:=s';cases hm;exact O;cases g
 | bk σ=>exact k.elim
 | ct σ=>exact k.elim
 | ex c f σ=>exact k.elim
def bU{x qual:Str}{st:Stmt}{f:Addr}{fd:FuncData}{N ps:List Str}{k:Nat}(F:Fun K x qual st f fd)(S:FnScope N ps (aQ st))(d:ps.length<=N.length)(b:DS)
  (hb:∀ (cdv:Value) (A:Around) (outer:List Env) (s:Shared) (H:Hp) (E:XK),Room k (A.deeper (PyProof.Rows.envOfC qual (aQ st) s.heap.objs.size f cdv))->GSs Ex.no (cC3 CX0 P w K mg base N qual (aQ st) f cdv A outer s H E).nox (oN st) b) :
  FnOk P w K mg base CX0 (k+1) f fd ps (dsp ps.length (pK N.length b)):=
 (bK3 F S d (λσ Q=>∃ o,b σ=some o/\Q o) (λσ Q l w ⟨o,e,q⟩=>⟨o,e,w o q⟩) λcdv A outer s H E g Γ=>cT6 ((hb cdv A outer s H E g).to Γ) λD σV H ⟨σ,ok,o,e,q⟩=>⟨σ,ok,o,e,q⟩).imp
  λvs H Q E ⟨as,res,as',ok,h,a,k⟩=>by
   obtain⟨o,i,a⟩:=aC a;refine⟨as,ok,h,o,i,?_⟩;cases o with
   | nx σ=>cases a;exact k
   | rt r σ=>
     obtain⟨m,j,a⟩:=aC a;cases a;exact⟨_,j,k⟩
   | bk σ=>cases a
   | ct σ=>cases a
   | ex c f σ=>cases a
end
noncomputable def aP4(σ:Sg):Res->Option Sl
 | .val d=>some ⟨.val,d⟩
 | .own d=>some ⟨.par,d⟩
 | .slot i=>match σ[i]? with
   | some (some s)=>some ⟨if s.m.mt=true then .par else s.m,s.d⟩
   | _=>none
noncomputable def wH(σ:Sg):List Res->Option (List Sl)
 | []=>some []
 | r::rs=>(aP4 σ r).bind λa=>(wH σ rs).bind λas=>some (a::as)
noncomputable def aP5(i:Nat):List Res->Bool
 | []=>false
 | .slot j::rs=>decide (i=j)||aP5 i rs
 | _::rs=>aP5 i rs
noncomputable def cW:List Res->Bool
 | []=>true
 | .slot i::rs=>!aP5 i rs&&cW rs
 | _::rs=>cW rs
noncomputable def jR(j:Nat):List Res->List Sl->Option Sl
 | .slot i::rs,a::as=>if i=j then some a else jR j rs as
 | _::rs,_::as=>jR j rs as
 | _,_=>none
noncomputable def iY(rs:List Res)(as:List Sl):Nat->Sg->Sg
 | _,[]=>[]
 | k,some s::σ=>(match jR k rs as with
   | some a=>some (if s.m.mt=true then⟨s.m,a.d⟩else s)
   | none=>some s)::iY rs as (k+1) σ
 | k,none::σ=>none::iY rs as (k+1) σ
noncomputable def aX(n:Nat)(run:Run)(a:DA):DE:=λσ=>(a σ).bind λx=>(wH x.2 x.1).bind λas=>if as.length=n/\cW x.1=true then(run as).bind λy=>some (y.1,iY x.1 y.2 0 x.2)else none
theorem yT{σ:Sg}:∀ {rs:List Res} {as:List Sl},wH σ rs=some as->as.length=rs.length/\∀ (k:Nat) r,rs[k]? = some r->∃ a,as[k]? = some a/\aP4 σ r=some a
 | [],as,h=>by cases h;exact⟨rfl,λk r e=>by simp at e⟩
 | r::rs,as,h=>by
   obtain⟨a,b,h⟩:=aC h;obtain⟨as',c,h⟩:=aC h;cases h;obtain⟨l,g⟩:=yT c;refine⟨by simp[l],λk d e=>?_⟩;cases k with
   | zero=>simp at e;subst e;exact⟨a,rfl,b⟩
   | succ k=>
     obtain⟨f,i,j⟩:=g k d (by simpa using e);exact⟨f,by simpa using i,j⟩
theorem ResOks.get{Γ:Gm}{H:Hp}{σ:Sg}{σV:St}:∀ {rs:List Res} {vs:List V},ResOks Γ H σ σV rs vs->rs.length=vs.length/\∀ (k:Nat) r,rs[k]? = some r->∃ v,vs[k]? = some v/\jM Γ H σ σV r v
 | _,_,.nil=>⟨rfl,λk r e=>by simp at e⟩
 | _,_,.cons h t _=>by
   obtain⟨l,g⟩:=ResOks.get t;refine⟨by simp[l],λk a e=>?_⟩;cases k with
   | zero=>simp at e;subst e;exact⟨_,rfl,h⟩
   | succ k=>
     obtain⟨b,c,d⟩:=g k a (by simpa using e);exact⟨b,by simpa using c,d⟩
theorem ResOks.dis{Γ:Gm}{H:Hp}{σ:Sg}{σV:St}:∀ {rs:List Res} {vs:List V},ResOks Γ H σ σV rs vs->∀ (k l:Nat) d d' p,k < l->rs[k]? = some (.own d)->rs[l]? = some (.own d')->vs[k]? = some (.ref p)->vs[l]? ≠ some (.ref p)
 | _,_,.nil,k,l,d,d',p,_,e,_,_=>by simp at e
 | _,_,.cons h t q,k,l,d,d',p,b,e,a,ev=>by
   cases l with
   | zero=>lia
   | succ l=>
     cases k with
     | zero=>
       simp at e ev;subst e ev;intro z;exact q d p rfl rfl l d' (by simpa using a) (by simpa using z)
     | succ k=>
       intro z;exact ResOks.dis t k l d d' p (by lia) (by simpa using e) (by simpa using a) (by simpa using ev) (by simpa using z)
theorem vI{i:Nat}:∀ {rs:List Res} {k:Nat},rs[k]? = some (.slot i)->aP5 i rs=true
 | [],_,h=>by simp at h
 | r::rs,0,h=>by simp at h;subst h;simp[aP5]
 | r::rs,k+1,h=>by
   have:=vI (rs:=rs) (k:=k) (by simpa using h);cases r<;>simp[aP5,this]
theorem oU:∀ {rs:List Res},cW rs=true->∀ (k l i:Nat),rs[k]? = some (.slot i)->rs[l]? = some (.slot i)->k=l
 | [],_,k,l,i,h,_=>by simp at h
 | r::rs,hn,k,l,i,h,h'=>by
   cases k with
   | zero=>
     cases l with
     | zero=>rfl
     | succ l=>
       simp at h;subst h;unfold cW at hn;rw[a1e]at hn;rw[vI (k:=l) (by simpa using h')]at hn;simp at hn
   | succ k=>
     cases l with
     | zero=>
       simp at h';subst h';unfold cW at hn;rw[a1e]at hn;rw[vI (k:=k) (by simpa using h)]at hn;simp at hn
     | succ l=>
       have a:cW rs=true:=by
        cases r with
        | slot j=>unfold cW at hn;rw[a1e]at hn;exact hn.2
        | val d=>exact hn
        | own d=>exact hn
       exact a3D Nat.succ (oU a k l i (by simpa using h) (by simpa using h'))
theorem fZ{j:Nat}:∀ {rs:List Res} {as:List Sl} {a:Sl},jR j rs as=some a->∃ k:Nat,rs[k]? = some (.slot j)/\as[k]? = some a
 | [],_,_,h=>by simp[jR]at h
 | r::rs,[],_,h=>by cases r<;>simp[jR]at h
 | r::rs,a::as,b,h=>by
   cases r with
   | slot i=>
     have h':(if i=j then some a else jR j rs as)=some b:=h;split at h';rename_i e;cases h';subst e;exact⟨0,rfl,rfl⟩
     ·obtain⟨k,c,f⟩:=fZ h';exact⟨k+1,by simpa using c,by simpa using f⟩
   | val d=>obtain⟨k,c,f⟩:=fZ (rs:=rs) (as:=as) h;exact⟨k+1,by simpa using c,by simpa using f⟩
   | own d=>obtain⟨k,c,f⟩:=fZ (rs:=rs) (as:=as) h;exact⟨k+1,by simpa using c,by simpa using f⟩
noncomputable def nO(rs:List Res)(as:List Sl)(k:Nat)(o:Option Sl):Option Sl:=match o with
 | some s=>(match jR k rs as with
   | some a=>some (if s.m.mt=true then⟨s.m,a.d⟩else s)
   | none=>some s)
 | none=>none
theorem jS{rs:List Res}{as:List Sl}:∀ (k:Nat) (σ:Sg) (j:Nat),(iY rs as k σ)[j]? = (σ[j]?).map (nO rs as (k+j))
 | _,[],_=>by simp[iY]
 | k,o::σ,0=>by cases o<;>simp[iY,nO]
 | k,o::σ,j+1=>by
   have:=jS (rs:=rs) (as:=as) (k+1) σ j;have e:k+1+j=k+(j+1):=by lia
   rw[e]at this;cases o<;>simpa[iY]using this
theorem pL{rs:List Res}{as:List Sl}:∀ (k:Nat) (σ:Sg),(iY rs as k σ).length=σ.length
 | _,[]=>rfl
 | k,o::σ=>by cases o<;>simp[iY,pL (k+1) σ]
def aG8{Γ:Gm}{σ c:Sg}{rs:List Res}{as:List Sl}{σV:St}{H Z:Hp}{vs:List V}(e2:wH c rs=some as)(hc:cW rs=true)(w:StOk Γ Z c σV)(r1:ResOks Γ Z c σV rs vs)(C:Step σ σV H c σV Z)
  (f1:∀ (j:Nat) d p,rs[j]? = some (.own d)->vs[j]? = some (.ref p)->H p=none) :
  ArgOk Z as vs/\∀ r as' v H2,PostOk as vs Z as' H2->aO6 Z H2 r v->StOk Γ H2 (iY rs as' 0 c) σV/\jM Γ H2 (iY rs as' 0 c) σV r v/\Step σ σV H (iY rs as' 0 c) σV H2/\Frh H r v:=by
 obtain⟨la,ga⟩:=yT e2;obtain⟨lv,gv⟩:=r1.get;have O:∀ (i:Nat) a,as[i]? = some a->∃ r v,rs[i]? = some r/\aP4 c r=some a/\vs[i]? = some v/\jM Γ Z c σV r v:=λi a x=>by
  have hi:i < rs.length:=by rw[← la];exact(a1a.mp x).1
  have P:rs[i]? = some rs[i]:=a0a hi;obtain⟨a',Q,h2⟩:=ga i _ P;rw[x]at Q;cases Q;obtain⟨v,h3,h4⟩:=gv i _ P;exact⟨_,v,P,h2,h3,h4⟩
 have f:∀ i a,aP4 c (.slot i)=some a->∃ s,c[i]? = some (some s)/\a=⟨if s.m.mt=true then .par else s.m,s.d⟩:=λi a x=>by
  have X:(match c[i]? with | some (some s)=>some (⟨if s.m.mt=true then .par else s.m,s.d⟩:Sl) | _=>none)=some a:=x;split at X
  ·rename_i s hs;cases X;exact⟨s,hs,rfl⟩
  ·cases X
 -- an argument that may change: new,or owned here
 have K:∀ a,cU1 as vs a->jJ c σV a\/(H a=none/\¬ aV0 c σV a/\Γ.H₀ a=none):=λa ⟨i,s,R,m,F⟩=>by
  obtain⟨r,v,P,x,D,L⟩:=O i s R;rw[F]at D;cases D;cases r with
  | val d=>cases x;cases m
  | own d=>
    obtain⟨p,B,S,Y,q4⟩:=L;cases B;exact .inr ⟨f1 i d a P F,Y,q4⟩
  | slot j=>
    obtain⟨s',hs,rfl⟩:=f j s x;obtain⟨B,_⟩:=L;refine .inl ⟨j,s',hs,?_,B⟩;by_cases hm:s'.m.mt=true;exact hm;simp only[hm]at m;exact absurd m hm
 have I:ArgOk Z as vs:=by
  refine⟨by rw[la,lv],λi a R=>?_,λi j s t p nij R g m m' F D=>?_,λi a R=>?_⟩
  ·obtain⟨r,v,P,x,F,L⟩:=O i a R;refine⟨v,F,?_⟩;cases r with
   | val d=>cases x;exact L
   | own d=>cases x;obtain⟨p,B,S,_⟩:=L;exact⟨p,B,S⟩
   | slot j=>
     obtain⟨s',hs,rfl⟩:=f j a x;obtain⟨B,_⟩:=L;obtain⟨v',e4,r4⟩:=w.rel j s' hs;rw[B]at e4;cases e4;by_cases hm:s'.m.mt=true;simp only[hm,if_true];exact(dM (s:=⟨.par,s'.d⟩) (λz=>nomatch z)).mpr ((dM (iJ hm)).mp r4);simp only[hm];exact r4
  ·obtain⟨r,v,P,x,T,L⟩:=O i s R;obtain⟨r2,v2,er2,ea2,ev2,rv2⟩:=O j t g;rw[F]at T;cases T;rw[D]at ev2;cases ev2;have E:∀ l a,aP4 c (.slot l)=some a->a.m≠.val->∃ s,c[l]? = some (some s)/\s.m≠.val/\(a.m.mt=true->s.m.mt=true):=λl a x hm=>by
    obtain⟨s',hs,rfl⟩:=f l a x;refine⟨s',hs,?_,?_⟩;intro z;simp only[z,Md.mt]at hm;exact hm rfl;intro z;by_cases U:s'.m.mt=true;exact U;simp only[U]at z;exact z
   cases r with
   | val d=>cases x;cases m
   | own d=>
     obtain⟨q,B,S,Y,q4⟩:=L;cases B;cases r2 with
     | val d=>cases ea2;exact m' rfl
     | own d2=>
       rcases Nat.lt_or_gt_of_ne nij with z | z;exact r1.dis i j d d2 p z P er2 F D
       ·exact r1.dis j i d2 d p z er2 P D F
     | slot l=>
       obtain⟨s',hs,U,_⟩:=E l t ea2 m';exact Y ⟨l,s',hs,U,rv2.1⟩
   | slot l=>
     obtain⟨s',hs,U,hmt⟩:=E l s x (iJ m);cases r2 with
     | val d=>cases ea2;exact m' rfl
     | own d2=>
       obtain⟨q,B,S,Y,q4⟩:=rv2;cases B;exact Y ⟨l,s',hs,U,L.1⟩
     | slot l2=>
       obtain⟨s2,hs2,hm2,_⟩:=E l2 t ea2 m';refine w.dis l l2 s' s2 p (λz=>?_) hs hs2 (hmt m) hm2 L.1 rv2.1;subst z;exact nij (oU hc i j l P er2)
  ·obtain⟨r,v,P,x,T,L⟩:=O i a R;cases r with
   | val d=>cases x;exact λz=>nomatch z
   | own d=>cases x;exact λz=>nomatch z
   | slot j=>
     obtain⟨s',hs,rfl⟩:=f j a x;intro z;by_cases hm:s'.m.mt=true;simp only[hm,if_true]at z;cases z;simp only[hm]at z;have z':s'.m=.own:=z;rw[z']at hm;exact hm rfl
 refine⟨I,λr as' v H2 po nw=>?_⟩;have extA:Ext Z H2:=by
  refine⟨λp xs h=>po.fr p _ h λz=>?_,λp o u h=>po.fr p _ h λz=>?_⟩;obtain⟨i,s,R,m,F⟩:=z;obtain⟨v,e4,r4⟩:=I.rel i s R;rw[F]at e4;cases e4;obtain⟨q,eq,ow⟩:=(dM (iJ m)).mp r4;cases eq;obtain⟨o,ho,n1,_⟩:=ow.obj;rw[h]at ho;cases ho;exact n1 _ rfl;obtain⟨i,s,R,m,F⟩:=z;obtain⟨v,e4,r4⟩:=I.rel i s R;rw[F]at e4;cases e4;obtain⟨q,eq,ow⟩:=(dM (iJ m)).mp r4;cases eq;obtain⟨o',ho,_,n1⟩:=ow.obj;rw[h]at ho;cases ho;exact n1 _ _ rfl
 have back:∀ (j:Nat) t,(iY rs as' 0 c)[j]? = some (some t)->∃ s,c[j]? = some (some s)/\t.m=s.m/\(t=s\/(s.m.mt=true/\∃ (k:Nat) (a:Sl),rs[k]? = some (.slot j)/\as'[k]? = some a/\t=⟨s.m,a.d⟩)):=λj t g=>by
  rw[jS,a8f]at g;cases q:c[j]? with
  | none=>rw[q]at g;cases g
  | some o=>
    rw[q]at g;cases o with
    | none=>cases g
    | some s=>
      have A:nO rs as' j (some s)=some t:=a7a g;unfold nO at A;refine⟨s,rfl,?_⟩;dsimp only at A;split at A;rename_i a ha;obtain⟨W,Q,h2⟩:=fZ ha;have M:=a7a A;by_cases hm:s.m.mt=true;rw[a3s hm]at M;subst M;exact⟨rfl,.inr ⟨hm,W,a,Q,h2,rfl⟩⟩;rw[a3u hm]at M;subst M;exact⟨rfl,.inl rfl⟩;cases A;exact⟨rfl,.inl rfl⟩
 have fwd:∀ (j:Nat) s,c[j]? = some (some s)->∃ t,(iY rs as' 0 c)[j]? = some (some t)/\t.m=s.m/\(s.m.mt=false->t=s):=λj s g=>by
  rw[jS,a8f,g];show ∃ t,some (nO rs as' j (some s))=some (some t)/\_;unfold nO;dsimp only;split;refine⟨_,rfl,?_,λz=>?_⟩;split<;>rfl;rw[a3u (by rw[z];exact a3d)];exact⟨s,rfl,rfl,λ_=>rfl⟩
 -- a slot that is handed in by no argument that may change
 have quiet:∀ (j:Nat) s t p,c[j]? = some (some s)->(iY rs as' 0 c)[j]? = some (some t)->t=s->s.m≠.val->σV[j]? = some (some (.ref p))->(∀ k:Nat,s.m.mt=true->rs[k]? ≠ some (.slot j))->¬ cU1 as vs p:=by
  intro j s t p hs _ _ hm F hno ⟨i,a,R,m,evi⟩;obtain⟨r,v,P,x,T,L⟩:=O i a R;rw[evi]at T;cases T;cases r with
  | val d=>cases x;cases m
  | own d=>
    obtain⟨q,B,S,Y,q4⟩:=L;cases B;exact Y ⟨j,s,hs,hm,F⟩
  | slot l=>
    obtain⟨s',G,rfl⟩:=f l a x;have hmt:s'.m.mt=true:=by
     by_cases h':s'.m.mt=true;exact h';simp only[h']at m;exact absurd m h'
    by_cases z:l=j;subst z;rw[hs]at G;cases G;exact hno i hmt P;exact w.dis l j s' s p z G hs hmt hm L.1 F
 have okB:StOk Γ H2 (iY rs as' 0 c) σV:=by
  refine⟨λj t g=>?_,λj l t t' q n g el m m' eq eq'=>?_,λj t q g m eq=>?_,λj t q g m eq=>?_,λa o e n=>?_,λa e=>w.dom a (po.dom a e),by rw[pL];exact w.len⟩
  ·obtain⟨s,hs,N,hc'⟩:=back j t g;obtain⟨w',ew,rw'⟩:=w.rel j s hs;refine⟨w',ew,?_⟩;by_cases J:s.m.mt=true/\∃ W:Nat,rs[W]? = some (.slot j)
   ·obtain⟨hm,W,hk'⟩:=J;obtain⟨a,ha,hao⟩:=ga W _ hk';obtain⟨v',hv',rv'⟩:=gv W _ hk';have D:σV[j]? = some (some v'):=rv'.1;rw[ew]at D;cases D;obtain⟨s',G,X⟩:=f j a hao;rw[hs]at G;cases G;have am:a.m=.par:=by rw[X,a3s hm]
    obtain⟨a2,w2,Q,h2,h3,h4⟩:=po.rel W a ha (by rw[am];rfl);rw[hv']at h3;cases h3;have ht:t=⟨s.m,a2.d⟩:=by
     rw[jS,a8f,hs]at g;have A:nO rs as' j (some s)=some t:=a7a g;unfold nO at A;dsimp only at A;split at A;rename_i b hb;obtain⟨k2,B,S⟩:=fZ hb;obtain rfl:=oU hc k2 W j B hk';rw[Q]at S;cases S;have:=a7a A;rw[a3s hm]at this;exact this.symm;rename_i hb
     -- no argument at all: the lists part in length
     exfalso;have:∀ {rs:List Res} {as:List Sl} {kk:Nat} {a:Sl},rs[kk]? = some (.slot j)->as[kk]? = some a->jR j rs as≠none:=by
      intro rs
      induction rs with
      | nil=>intro as kk a h;simp at h
      | cons r rs ih=>
        intro as kk a h h';cases as with
        | nil=>simp at h'
        | cons b as=>
          cases kk with
          | zero=>simp at h;subst h;simp[jR]
          | succ kk=>
            have:=ih (as:=as) (kk:=kk) (a:=a) (by simpa using h) (by simpa using h');cases r with
            | slot i=>simp only[jR];split;exact λz=>nomatch z;exact this
            | val d=>exact this
            | own d=>exact this
     exact this hk' Q hb
    subst ht;have h5:=(dM (s:=a2) (by rw[h2,am];exact λz=>nomatch z)).mp h4;exact(dM (s:=⟨s.m,a2.d⟩) (iJ hm)).mpr h5
   ·have ht:t=s:=by
     rcases hc' with h | ⟨hm,W,a,Q,_⟩;exact h;exact absurd ⟨hm,W,Q⟩ J
    rw[ht];refine rw'.mono extA λp o ep m hp=>po.fr p o hp ?_;exact quiet j s t p hs g ht m (by rw[ew,ep]) λW hm hk=>J ⟨hm,W,hk⟩
  ·obtain⟨s,hs,N,_⟩:=back j t g;obtain⟨s',G,mm',_⟩:=back l t' el;exact w.dis j l s s' q n hs G (by rw[← N];exact m) (by rw[← mm'];exact m') eq eq'
  ·obtain⟨s,hs,N,_⟩:=back j t g;exact w.own j s q hs (N.symm.trans m) eq
  ·obtain⟨s,hs,N,_⟩:=back j t g;exact w.par j s q hs (N.symm.trans m) eq
  ·refine po.fr a o (w.keep a o e n) λz=>?_;rcases K a z with⟨j,s,hs,m,F⟩ | ⟨_,_,z0⟩
   ·cases hq:s.m with
    | own=>rw[w.own j s a hs hq F]at e;cases e
    | par=>exact n (w.par j s a hs hq F)
    | val=>rw[hq]at m;cases m
    | lent=>rw[hq]at m;cases m
   ·rw[z0]at e;cases e
 have stB:Step σ σV H (iY rs as' 0 c) σV H2:=by
  refine⟨λa o e n=>?_,λa e=>C.dom a (po.dom a e),λa ⟨j,t,g,m,x⟩=>?_,λa ⟨j,t,g,m,x⟩=>?_,λj t g=>?_,λj t g m=>?_,λj t g m=>?_⟩
  ·refine po.fr a o (C.fr a o e n) λz=>?_;rcases K a z with y | ⟨y,_⟩;rcases C.mu a y with y | y;exact n y;rw[e]at y;cases y;rw[e]at y;cases y
  ·obtain⟨s,hs,N,_⟩:=back j t g;exact C.mu a ⟨j,s,hs,by rw[← N];exact m,x⟩
  ·obtain⟨s,hs,N,_⟩:=back j t g;exact C.nv a ⟨j,s,hs,by rw[← N];exact m,x⟩
  ·obtain⟨s,hs⟩:=C.kp j t g;obtain⟨t',Q,_⟩:=fwd j s hs;exact⟨t',Q⟩
  ·obtain⟨s,hs,B,S,Y⟩:=C.fix j t g m;obtain⟨t',Q,h2,h3⟩:=fwd j s hs;refine⟨t',Q,h2.trans B,λz=>?_,Y⟩;rw[h3 (by rw[B,z];rfl)];exact S z
  ·obtain⟨s,hs,N,_⟩:=back j t g;exact C.lt j s hs (N.symm.trans m)
 refine⟨okB,?_,stB,nw.frh.back C⟩;cases r with
 | val d=>exact nw
 | own d=>
   obtain⟨p,B,S,Y⟩:=nw;refine⟨p,B,Y,λZ0=>?_,w.dom p S⟩;obtain⟨j,t,g,m,x⟩:=Z0;obtain⟨s,hs,N,_⟩:=back j t g;obtain⟨o,ho,_⟩:=w.mutObj ⟨j,s,hs,by rw[← N];exact m,x⟩;rw[S]at ho;cases ho
 | slot i=>exact nw.elim
def bK4{Γ:Gm}{n:Nat}{run:Run}{g:DA}{E:XK}{σV:St}{H:Hp}{Q:VK}(h:dTE Γ (aX n run g) σV H Q):bA5 (dsp n run) [] E (dTA Γ g) σV H Q:=by
 obtain⟨σ,ok,res,σ',e,k⟩:=h;obtain⟨⟨rs,a⟩,l,e⟩:=aC e;obtain⟨as,i,e⟩:=aC e;dsimp only at e;split at e
 case isFalse=>cases e
 case isTrue b=>
 obtain⟨⟨r,as'⟩,m,e⟩:=aC e;cases e;dsimp only at i b k;refine⟨σ,ok,rs,a,l,λvs o d p f q=>?_⟩;show dsp n run (vs++[]) o Q E;rw[a1g];obtain⟨s,c⟩:=aG8 i b.2 d p f q;refine⟨as,r,as',s,b.1,m,λv j po t=>?_⟩;obtain⟨u,w,x,y⟩:=c r as' v j po t;exact k v j u w x y
def aK{X:Cx}{e:Expr}{n:Nat}{run:Run}{a:DA}{E:XK}(h:∀ Γ,PE X e (bA5 (dsp n run) [] E (dTA Γ a))):GE X e (aX n run a):=.mk λΓ=>peW (h Γ) λ_ _ _=>bK4
section
variable{X:Cx}
def xY(i j:Int):Prop:=bS6 i j\/(Builtin.Int.intBits i<=2 ^ 20/\Builtin.Int.intBits j<=2 ^ 20)
theorem xY.ok{i j:Int}(h:xY i j):IntMulOk i j:=by
 rcases h with h | h;exact h.ok;exact IntMulOk.of_bits h.1 h.2
def cN0:OpR X (binaryOp .Mult) (rI xY λi j=>.int (i*j)):=opI λ_ _ _ _ _ _ _ a q=>PyProof.Rows.mul_int q a.ok
end
noncomputable section
open Classical
noncomputable def ii(f:Int->Int->D):F2:=λd e=>match d,e with
 | .int i,.int j=>some (.val (f i j))
 | _,_=>none
noncomputable def iiC(C:Int->Int->Prop)(f:Int->Int->D):F2:=λd e=>match d,e with
 | .int i,.int j=>if C i j then some (.val (f i j))else none
 | _,_=>none
noncomputable def iu(f:Int->D):F1:=λd=>match d with
 | .int i=>some (.val (f i))
 | _=>none
end
def bK5{g:Int->Int->V}{f:Int->Int->D}(h:∀ H i j,Rp H (f i j) (g i j)):aE3 (rI0 g) (ii f):=by
 intro H c d x y Q res a b e k;unfold ii at e;split at e;cases e;obtain rfl:=dO a;obtain rfl:=dO b;exact⟨_,_,rfl,rfl,k _ H (.refl _) (h H _ _)⟩;cases e
def aP6{C:Int->Int->Prop}{g:Int->Int->V}{f:Int->Int->D}(h:∀ H i j,Rp H (f i j) (g i j)):aE3 (rI C g) (iiC C f):=by
 intro H d l x y Q res a b e k;unfold iiC at e;split at e;split at e;rename_i c;cases e;obtain rfl:=dO a;obtain rfl:=dO b;exact⟨_,_,rfl,rfl,c,k _ H (.refl _) (h H _ _)⟩;cases e;cases e
noncomputable def dW9:F2:=ii λi j=>.int (i-j)
noncomputable def bE5:F2:=iiC (λ_ j=>0 < j) λi j=>.int (i % j)
noncomputable def dP6:F2:=iiC cT5 λi j=>.int (i ^ j.toNat)
noncomputable def ltI:F2:=ii λi j=>.bl (decide (i < j))
noncomputable def leI:F2:=ii λi j=>.bl (decide (i<=j))
noncomputable def gtI:F2:=ii λi j=>.bl (decide (j < i))
noncomputable def geI:F2:=ii λi j=>.bl (decide (j<=i))
noncomputable def dX0:F1:=iu λi=>.int (-i)
def iL:aE3 (rI (λ_ j=>0 < j) λi j=>.int (i % j)) bE5:=aP6 λ_ _ _=>.int _
def cN1:aE3 (rI cT5 λi j=>.int (i ^ j.toNat)) dP6:=aP6 λ_ _ _=>.int _
def cN2:aE3 (rI0 λi j=>.bl (decide (i<=j))) leI:=bK5 λ_ _ _=>.bl _
def aP7:aE3 (rI0 λi j=>.bl (decide (j < i))) gtI:=bK5 λ_ _ _=>.bl _
def cN3:aE3 (rI0 λi j=>.bl (decide (j<=i))) geI:=bK5 λ_ _ _=>.bl _
section
variable{X:Cx}{pins:List (Addr×Obj)}{σ:St}{H:Hp}{s:Shared}{l:Addr}{xs:List V}
def aB3(I:Inv X pins σ H s)(h:eS H l=some (true,xs)):xs.length<=sizeLine/\∃ (its:List Value) (n:Nat),cA xs its/\xs.length=its.length/\s.heap.get? l=some {cls:=.type "list",data:=.seq its.toArray n}:=by
 unfold eS at h;split at h;rename_i e;cases h;exact I.lstM e;cases h;rename_i o ys e;cases h;obtain⟨_,z,its,n,r,e⟩:=I.hok l _ e;exact⟨z,its,n,r,r.length,e⟩;cases h
end
def dD3:R2:=λx y H Q=>∃ l b xs zs,x=.ref l/\y=.ref b/\eS H l=some (true,xs)/\eS H b=some (true,zs)/\xs.length+zs.length<=sizeLine/\∀ p,H p=none->Q (.ref p) (upd H p (.lst (xs++zs)))
def cN4{X:Cx}:OpR X (binaryOp .Add) dD3:=by
 intro pins s σ H x y v u Q I c d h;obtain⟨l,b,xs,o,rfl,rfl,f,g,p,q⟩:=h;cases c;cases d;obtain⟨z,its,n,r,t,e⟩:=aB3 I f;obtain⟨w,a,n2,i,j,k⟩:=aB3 I g;refine PySem.P.add_list e k ?_ (by rw[a4b,a4b];lia);have m:its.toArray++a.toArray=(its++a).toArray:=by simp
 rw[m];exact⟨.ref _,_,I.lnew (t':=s.toks) (r.append i) (by rw[a9a];lia),rfl,q _ I.fresh⟩
def dD4:R2:=λx y H Q=>bV2 x y H Q\/dD3 x y H Q
def bL{X:Cx}:OpR X (binaryOp .Add) dD4:=yN.or cN4
noncomputable def mQ:F2:=λd e=>match d,e with
 | .int i,.int j=>some (.val (.int (i+j)))
 | .str a,.str b=>if a.length+b.length<=sizeLine then some (.val (.str (a++b)))else none
 | .lst l,.lst m=>if l.length+m.length<=sizeLine then some (.own (.lst (l++m)))else none
 | .tup l,.tup m=>if l.length+m.length<=sizeLine then some (.val (.tup (l++m)))else none
 | _,_=>none
def aB4{H:Hp}{p:Addr}{xs:List V}{l:List D}(a:H p=none)(r:Rps H l xs):aO6 H (upd H p (.lst xs)) (.own (.lst l)) (.ref p):=⟨p,rfl,a,xs,aJ,r.mono (.same (bO a))⟩
def aP8{H:Hp}{p:Addr}{xs:List V}{l:List D}(a:H p=none)(r:Rps H l xs):aO6 H (upd H p (.tup xs)) (.val (.tup l)) (.ref p):=.tup aJ (r.mono (.same (bO a)))
def bM:aE3 dD4 mQ:=by
 intro H t u x y Q res d f e k;unfold mQ at e;split at e;cases e;obtain rfl:=dO d;obtain rfl:=dO f;exact .inl (k _ H (.refl _) (.int _));split at e;rename_i i;cases e;obtain rfl:=jN d;obtain rfl:=jN f;exact .inl ⟨i,k _ H (.refl _) (.str _)⟩;cases e;split at e;rename_i l m i;cases e;obtain⟨p,xs,rfl,g,a⟩:=iO d;obtain⟨q,ys,rfl,h,b⟩:=iO f;have:=a.length;have:=b.length;exact .inr ⟨p,q,xs,ys,rfl,rfl,g,h,by lia,λr c=>k _ _ (bO c) (aB4 c (a.append b))⟩;cases e
 ·split at e;rename_i l m i;cases e;obtain⟨p,xs,rfl,g,a⟩:=fF d;obtain⟨q,ys,rfl,h,b⟩:=fF f;have o:=a.length;have s:=b.length;refine .inl (.inr ⟨xs,ys,cB g,cB h,by lia,λj=>?_,λj n=>?_,λj n r c=>k _ _ (bO c) (aP8 c (a.append b))⟩);subst j;have:l=[]:=a0d o;subst this;exact k _ H (.refl _) (.tup h b);subst n;have:m=[]:=a0d s;subst this;rw[a1g]at k;exact k _ H (.refl _) (.tup g a);cases e
 ·cases e
noncomputable section
open Classical
noncomputable def aN2:F2:=λd e=>match d,e with
 | .int i,.int j=>if xY i j then some (.val (.int (i*j)))else none
 | .str z,.int i=>if z.length<=1000/\0<=i/\i<=1000 then some (.val (.str (Txt.mul z i)))else none
 | _,_=>none
end
def dD5:R2:=λx y H Q=>rI xY (λi j=>.int (i*j)) x y H Q\/bU7 x y H Q
def gH{X:Cx}:OpR X (binaryOp .Mult) dD5:=cN0.or aU8
def gJ:aE3 dD5 aN2:=by
 intro H d f x y Q res b c e k;unfold aN2 at e;split at e;split at e;rename_i a;cases e;obtain rfl:=dO b;obtain rfl:=dO c;exact .inl ⟨_,_,rfl,rfl,a,k _ H (.refl _) (.int _)⟩;cases e;split at e;rename_i a;cases e;obtain rfl:=jN b;obtain rfl:=dO c;exact .inr ⟨a.1,a.2.1,a.2.2,λy _ e=>by subst e;exact k _ H (.refl _) (.str _)⟩;cases e;cases e
noncomputable def ixD:F2:=λd e=>match d,e with
 | .lst l,.int i=>(atI l i).map .val
 | .tup l,.int i=>(atI l i).map .val
 | .str z,.int i=>if z.length<=sizeLine then(atI z.cps.toList i).map λc=>.val (.str ⟨#[c]⟩)else none
 | _,_=>none
theorem Rps.atI{H:Hp}{l:List D}{xs:List V}{i:Int}{d:D}(r:Rps H l xs)(h:L2.atI l i=some d):∃ x,L2.atI xs i=some x/\Rp H d x:=by
 unfold L2.atI at h ⊢;obtain⟨j,a,b⟩:=aC h;rw[← r.length,a];exact r.get b
def dD6:aE3 dO1 ixD:=by
 intro H m n x y Q res f g e k;unfold ixD at e;split at e;obtain rfl:=dO g;obtain⟨p,xs,rfl,h,i⟩:=iO f;obtain⟨d,a,b⟩:=a7b.mp e;cases b;obtain⟨x,j,r⟩:=i.atI a;exact⟨x,oP h j,k _ H (.refl _) r⟩;obtain rfl:=dO g;obtain⟨p,xs,rfl,h,i⟩:=fF f;obtain⟨d,a,b⟩:=a7b.mp e;cases b;obtain⟨x,j,r⟩:=i.atI a;exact⟨x,oP (cB h) j,k _ H (.refl _) r⟩;split at e;rename_i l;obtain rfl:=dO g;obtain rfl:=jN f;obtain⟨c,a,b⟩:=a7b.mp e;cases b;exact⟨_,cK2 l a,k _ H (.refl _) (.str _)⟩;cases e;cases e
def bH{X:Cx}{a b:Expr}{c d:DE}{pos:Pos}(ha:GE X a c)(hb:GE X b d)(hs:bH0 b):GE X (.Subscript a b pos) (aT ixD c d):=.mk λΓ=>peW (aN9 cK1 (ha.to Γ) (hb.to Γ) hs) λ_ _ _=>vF dD6
noncomputable def vJ:FN:=λa=>match a with
 | [.lst l]=>some (.val (.int l.length))
 | [.tup l]=>some (.val (.int l.length))
 | [.str z]=>if z.length<=sizeLine then some (.val (.int z.length))else none
 | _=>none
def bE6{H:Hp}{d:D}{vs:List V}(h:Vws H [d] vs):∃ x,vs=[x]/\Vw H d x:=by
 cases h with
 | cons a t=>cases t;exact⟨_,rfl,a⟩
def dX1{H:Hp}{d e:D}{vs:List V}(h:Vws H [d,e] vs):∃ x y,vs=[x,y]/\Vw H d x/\Vw H e y:=by
 cases h with
 | cons a t=>
   obtain⟨y,rfl,b⟩:=bE6 t;exact⟨_,_,rfl,a,b⟩
def eJ:bW0 bU0 vJ:=by
 intro H d vs Q res vw e k;unfold vJ at e;split at e;cases e;obtain⟨x,rfl,v⟩:=bE6 vw;obtain⟨p,xs,rfl,a,b⟩:=iO v;refine⟨_,_,rfl,aA3 a,?_⟩;rw[← b.length];exact k _ H (.refl _) (.int _);cases e;obtain⟨x,rfl,v⟩:=bE6 vw;obtain⟨p,xs,rfl,a,b⟩:=fF v;refine⟨_,_,rfl,aA3 (cB a),?_⟩;rw[← b.length];exact k _ H (.refl _) (.int _);split at e;rename_i c;cases e;obtain⟨x,rfl,v⟩:=bE6 vw;obtain rfl:=jN v;exact⟨_,_,rfl,bU2 c,k _ H (.refl _) (.int _)⟩;cases e;cases e
noncomputable def bS0(l:List D)(lo hi:Option Int):List D:=(l.drop (HT.sIx l.length 0 lo)).take (HT.sIx l.length l.length hi-HT.sIx l.length 0 lo)
def Rps.cut{H:Hp}{l:List D}{xs:List V}(r:Rps H l xs)(lo hi:Option Int):Rps H (bS0 l lo hi) (aE2 xs lo hi):=by
 unfold bS0 aE2;rw[r.length];exact(r.drop _).take _
def bK6{xs:List V}{lo hi:Option Int}(h:HT.sIx xs.length 0 lo=0/\HT.sIx xs.length xs.length hi=xs.length):aE2 xs lo hi=xs:=by
 unfold aE2;rw[h.1,h.2];simp
end Dv
namespace HT
open PySem PySem.Spec PyProof.Rows
section
variable{prog:Program}{w:World}{A:Around}{E:Value->Shared->Prop}{s:Shared}
def getItem_tuple_all{t sl:Addr}{items:Array Value}{f g:Value}{lo hi:Option Int}{Q:Value->Shared->Prop}(a:IsTup s.heap t items)(hs:s.heap.IsSliceOf sl f g .none)(pl:IsPart f lo)(j:IsPart g hi)
  (i:sIx items.size 0 lo=0/\sIx items.size items.size hi=items.size) (h:Q (.ref t) s):wpAny (model prog w) A (getItem (.ref t) (.ref sl)) Q E s:=by
 obtain⟨os,c,d,k⟩:=id hs;have e:s.TypeIs (.ref sl) "slice":=⟨os,c,d⟩;unfold getItem
 try with_reducible refine a3x ?_
 first | refine a3r (a3t ?_) | skip
 refine a3r (wpAny_sequenceKey a.typeIs (by decide) ?_);refine a3r (wpAny_callSpecial?_slot (name:=Str.ofString "__getitem__") a.typeIs a9e
  (a3E a9e a.typeIs entry_tuple_getitem ?_ (args_tuple_getitem _ _)))
 show wpAny _ _ (Builtin.Tuple.tupleItemsOf (.ref t) >>= _) _ _ s;refine a3r (tupleItemsOf_ a ?_);refine a3r (a3Q e ?_);rw[a3s (by decide)];refine a3r (jF hs pl j ?_);have b:(((sIx items.size 0 lo:Nat):Int)==0&&(1:Int)==1&&(sIx items.size items.size hi-sIx items.size 0 lo)==items.size)=true:=by
  rw[i.1,i.2];simp
 show wpAny _ _ (if(((sIx items.size 0 lo:Nat):Int)==0&&(1:Int)==1&&(sIx items.size items.size hi-sIx items.size 0 lo)==items.size)=true then _ else _) _ _ s;rw[a3s b];refine a3r ?_;unfold Builtin.Tuple.tupleIsExact;refine a3r (a3Q a.typeIs (a3t ?_));rw[a3s (by decide)];refine a3r (a3K ?_);exact a3t ⟨_,rfl,a3t h⟩
end
end HT
namespace Dv
open PySem L2
def dS5:V->Option Int->Option Int->Hp->VK->Prop:=λx lo hi H Q=>match x with
 | .str z=>z.length<=sizeLine/\Q (.str (Txt.slice z lo hi)) H
 | .ref p=>(∃ xs,eS H p=some (true,xs)/\∀ r,H r=none->Q (.ref r) (upd H r (.lst (aE2 xs lo hi)))) \/
   ∃ xs,eS H p=some (false,xs)/\(aE2 xs lo hi=xs->Q (.ref p) H)/\∀ r,H r=none->Q (.ref r) (upd H r (.tup (aE2 xs lo hi)))
 | _=>False
def dX2{X:Cx}:SlR X dS5:=by
 intro pins s σ H x v d e lo hi sl Q I b hs pl c h;unfold dS5 at h;split at h;rename_i z;exact dK9 pins s σ H _ v d e lo hi sl Q I b hs pl c h
 ·rename_i p;rcases h with h | ⟨xs,g,j,k⟩;exact dK9 pins s σ H _ v d e lo hi sl Q I b hs pl c (.inl h);by_cases f:HT.sIx xs.length 0 lo=0/\HT.sIx xs.length xs.length hi=xs.length
  ·cases b;obtain⟨its,r,i,l⟩:=I.tuple (eE g);have a:its.toArray.size=xs.length:=by rw[a4b];exact r.length.symm
   refine⟨"tuple",_,a9e.lookup,i.typeIs,?_⟩;exact HT.getItem_tuple_all i hs pl c (by rw[a];exact f) ⟨.ref p,H,I,rfl,j (bK6 f)⟩
  ·exact dK9 pins s σ H _ v d e lo hi sl Q I b hs pl c (.inr ⟨xs,g,f,k⟩)
 ·exact h.elim
abbrev DO:=Sg->Option (Option Int×Sg)
def dTO(Γ:Gm)(r:DO):TO:=λσV H Q=>∃ σ,StOk Γ H σ σV/\∃ o σ',r σ=some (o,σ')/\∀ H',StOk Γ H' σ' σV->Step σ σV H σ' σV H'->Q o H'
structure GO(X:Cx)(e:Option Expr)(r:DO):Prop where
 to:∀ Γ,PO X e (dTO Γ r)
def poW{X:Cx}{e:Option Expr}{t t':TO}(h:PO X e t)(w:∀ σ H Q,t' σ H Q->t σ H Q):PO X e t':=λpins s σ H Q I q=>h pins s σ H Q I (w σ H Q q)
noncomputable def bK7:DO:=λσ=>some (none,σ)
noncomputable def dP(r:DE):DO:=λσ=>(r σ).bind λx=>(rd x.2 x.1).bind λd=>match d with
 | .int i=>some (some i,x.2)
 | _=>none
def jT{X:Cx}:GO X none bK7:=.mk λΓ=>poW bG7 λσV H Q Z1=>by obtain⟨σ,ok,o,σ',e,k⟩:=Z1;cases e;exact k H ok .refl
def jU{X:Cx}{e:Expr}{r:DE}(h:GE X e r):GO X (some e) (dP r):=.mk λΓ=>poW (bG8 (h.to Γ)) λσV H Q ⟨σ,ok,o,σ',e,k⟩=>by
 obtain⟨⟨x,c⟩,f,e⟩:=aC e;obtain⟨d,g,e⟩:=aC e;dsimp only at e;split at e;cases e;exact⟨σ,ok,x,_,f,λv i a j b _=>⟨_,dO (j.vw a g),k i a b⟩⟩;cases e
noncomputable def slD(d:D)(lo hi:Option Int):Option Res:=match d with
 | .str z=>if z.length<=sizeLine then some (.val (.str (Txt.slice z lo hi)))else none
 | .lst l=>some (.own (.lst (bS0 l lo hi)))
 | .tup l=>some (.val (.tup (bS0 l lo hi)))
 | _=>none
noncomputable def dSl(r:DE)(a b:DO):DE:=λσ=>(r σ).bind λx=>(a x.2).bind λy=>(b y.2).bind λz=>(rd z.2 x.1).bind λd=>(slD d y.1 z.1).bind λw=>some (w,z.2)
def hV{X:Cx}{e:Expr}{lo hi:Option Expr}{A pos:Pos}{r:DE}{a b:DO}(B:GE X e r)(ha:GO X lo a)(hb:GO X hi b):GE X (.Subscript e (.Slice lo hi none A) pos) (dSl r a b):=.mk λΓ=>peW (aU1 dX2 (B.to Γ) (ha.to Γ) (hb.to Γ)) λσV H Q ⟨σ,ok,res,σ',e,k⟩=>by
 obtain⟨⟨x,i⟩,C,e⟩:=aC e;obtain⟨⟨lo,j⟩,D,e⟩:=aC e;obtain⟨⟨hi,y⟩,E,e⟩:=aC e;obtain⟨d,F,e⟩:=aC e;obtain⟨w,c,e⟩:=aC e;cases e;refine⟨σ,ok,x,i,C,λv K l G m _=>⟨i,l,lo,j,D,λL n f=>⟨j,n,hi,y,E,λs g h=>?_⟩⟩⟩;have vw:=((G.step l f).step n h).vw g F;have fin:∀ v H',zZ s H'->aO6 s H' res v->Q v H':=λv H' sm z=>k v H' (g.same sm) (z.res g) (((m.trans f).trans h).trans (.same sm)) (z.frh.back ((m.trans f).trans h));dsimp only at c;unfold slD at c;split at c;split at c;rename_i I;cases c;obtain rfl:=jN vw;exact⟨I,fin _ s (.refl _) (.str _)⟩;cases c;cases c;obtain⟨p,xs,rfl,t,u⟩:=iO vw;exact .inl ⟨xs,t,λq o=>fin _ _ (bO o) (aB4 o (u.cut lo hi))⟩;cases c;obtain⟨p,xs,rfl,t,u⟩:=fF vw;refine .inr ⟨xs,cB t,λJ=>fin _ s (.refl _) ?_,λq o=>fin _ _ (bO o) (aP8 o (u.cut lo hi))⟩;have:=u.cut lo hi;rw[J]at this;exact .tup t this;cases c
def dD7(K:W.Frag):List V->Hp->VK->Prop:=λxs H Q=>∃ (a:Addr) (bs:List Bool),xs=[.ref a]/\SqL K H a (bs.map V.bl)/\Q (.bl (bs.all id)) H
noncomputable def bC0:List D->Option (List Bool)
 | []=>some []
 | .bl b::r=>(bC0 r).bind λbs=>some (b::bs)
 | _=>none
theorem aV9:∀ {l:List D} {bs:List Bool},bC0 l=some bs->l=bs.map D.bl
 | [],_,h=>by cases h;rfl
 | .bl b::r,_,h=>by
   obtain⟨bs,a,e⟩:=aC h;cases e;rw[aV9 a];rfl
 | .non::_,_,h=>by cases h
 | .int _::_,_,h=>by cases h
 | .str _::_,_,h=>by cases h
 | .tup _::_,_,h=>by cases h
 | .lst _::_,_,h=>by cases h
 | .dic _ _::_,_,h=>by cases h
def bK8(bs:List Bool):bC0 (bs.map D.bl)=some bs:=by
 induction bs with
 | nil=>rfl
 | cons b r a=>show(bC0 (r.map D.bl)).bind _=_;rw[a];rfl
noncomputable def cU3:FN:=λa=>match a with
 | [.lst l]=>(bC0 l).map λbs=>.val (.bl (bs.all id))
 | _=>none
def bK9{K:W.Frag}:bW0 (dD7 K) cU3:=by
 intro H f vs Q res vw e k;unfold cU3 at e;split at e;obtain⟨bs,c,d⟩:=a7b.mp e;cases d;obtain⟨x,rfl,v⟩:=bE6 vw;obtain⟨p,xs,rfl,a,b⟩:=iO v;rw[aV9 c]at b;rw[b.bls_inv]at a;exact⟨p,bs,rfl,fD a,k _ H (.refl _) (.bl _)⟩;cases e
def aG9{X:Cx}(K:W.Frag)(a:X.K=K)(b:X.calm=true):mK X (.builtin "all") (dD7 K):=by rw[← a];exact bT5 b
noncomputable def bX0:FN:=λa=>match a with
 | [.int i,.int j]=>some (.val (.int (if j > i then j else i)))
 | _=>none
noncomputable def dP7:FN:=λa=>match a with
 | [.int i,.int j]=>some (.val (.int (if j < i then j else i)))
 | _=>none
def bX1:bW0 (λxs H Q=>∃ i j,xs=[.int i,.int j]/\Q (.int (if j > i then j else i)) H) bX0:=by
 intro H c vs Q res vw e k;unfold bX0 at e;split at e;cases e;obtain⟨x,y,rfl,a,b⟩:=dX1 vw;obtain rfl:=dO a;obtain rfl:=dO b;exact⟨_,_,rfl,k _ H (.refl _) (.int _)⟩;cases e
noncomputable def cU4:FN:=λa=>match a with
 | [.int i]=>some (.val (.int i))
 | [.bl b]=>some (.val (.int (if b then 1 else 0)))
 | _=>none
def bL0:bW0 (λxs H Q=>(∃ i,xs=[.int i]/\Q (.int i) H)\/∃ k,xs=[.bl k]/\Q (.int (if k then 1 else 0)) H) cU4:=by
 intro H b vs Q res vw e k;unfold cU4 at e;split at e;cases e;obtain⟨x,rfl,a⟩:=bE6 vw;obtain rfl:=dO a;exact .inl ⟨_,rfl,k _ H (.refl _) (.int _)⟩;cases e;obtain⟨x,rfl,a⟩:=bE6 vw;obtain rfl:=bJ3 a;exact .inr ⟨_,rfl,k _ H (.refl _) (.int _)⟩;cases e
noncomputable def bL1:FN:=λa=>match a with
 | [.lst l]=>some (.own (.lst l))
 | [.tup l]=>some (.own (.lst l))
 | _=>none
def bX2:bW0 bI3 bL1:=by
 intro H f vs Q res vw e k;unfold bL1 at e;split at e;cases e;obtain⟨x,rfl,a⟩:=bE6 vw;obtain⟨p,xs,rfl,c,d⟩:=iO a;exact⟨p,true,xs,rfl,c,λq b=>k _ _ (bO b) (aB4 b d)⟩;cases e;obtain⟨x,rfl,a⟩:=bE6 vw;obtain⟨p,xs,rfl,c,d⟩:=fF a;exact⟨p,false,xs,rfl,cB c,λq b=>k _ _ (bO b) (aB4 b d)⟩;cases e
noncomputable def aH0:FN:=λa=>match a with
 | [.lst l]=>some (.val (.tup l))
 | [.tup l]=>some (.val (.tup l))
 | _=>none
def eV:bW0 cL0 aH0:=by
 intro H f vs Q res vw e k;unfold aH0 at e;split at e;cases e;obtain⟨x,rfl,a⟩:=bE6 vw;obtain⟨p,xs,rfl,b,c⟩:=iO a;exact⟨p,true,xs,rfl,b,λq d=>k _ _ (bO d) (aP8 d c)⟩;cases e;obtain⟨x,rfl,a⟩:=bE6 vw;obtain⟨p,xs,rfl,b,c⟩:=fF a;exact⟨p,false,xs,rfl,cB b,k _ H (.refl _) (.tup b c)⟩;cases e
noncomputable def dP8:D->String
 | .non=>"NoneType"
 | .bl _=>"bool"
 | .int _=>"int"
 | .str _=>"str"
 | .lst _=>"list"
 | .tup _=>"tuple"
 | .dic _ _=>"dict"
noncomputable def aH1(c:String):F1:=λd=>match d with
 | .dic _ _=>none
 | d=>some (.val (.bl (wB (dP8 d) c)))
noncomputable def dX3:F1:=iu λi=>.int (Builtin.Int.intBits i)
noncomputable def cN5:FM:=λd a=>match d,a with
 | .lst l,[e]=>if l.length < sizeLine then some (.lst (l++[e]),.non)else none
 | _,_=>none
def mX{H:Hp}{l:List D}{p:Addr}(h:dW H (.lst l) p):∃ xs,H p=some (.lst xs)/\Rps H l xs:=h
def aB5:dC9 vX cN5:=by
 intro H d p h vs Q d' e ow r b k;unfold cN5 at b;split at b
 ·split at b
  ·rename_i l x f;cases b;obtain⟨xs,g,c⟩:=mX ow;cases r with
   | cons a t=>
     cases t;exact⟨p,xs,_,rfl,rfl,g,by rw[← c.length];exact f,k _ _ ⟨_,aJ,(c.append (.cons a .nil)).mono (dW.ext ow)⟩ .non⟩
  ·cases b
 ·cases b
noncomputable def dL5:FM:=λd a=>match d,a with
 | .lst l,[.lst m]=>if l.length+m.length<=sizeLine then some (.lst (l++m),.non)else none
 | _,_=>none
def dD8:V->List V->Hp->VK->Prop:=λx vs H Q=>∃ l b xs zs,x=.ref l/\vs=[.ref b]/\H l=some (.lst xs)/\eS H b=some (true,zs)/\xs.length+zs.length<=sizeLine/\Q .non (upd H l (.lst (xs++zs)))
def cN6{X:Cx}:MtM X "list.extend" dD8:=by
 intro pins s σ H x vs v us Q I g i h;obtain⟨l,b,xs,t,rfl,rfl,f,j,w,q⟩:=h;cases g;obtain⟨u,rfl,k⟩:=i.one;cases k;obtain⟨z,its,n,r,y,e⟩:=I.lstM f;obtain⟨A,a,n2,m,o,p⟩:=aB3 I j;have d:its.toArray.size+a.toArray.size<=sizeLine:=by rw[a4b,a4b];lia
 have c:¬ (!its.toArray.isEmpty&&Builtin.List.listTooLong (its.toArray.size+a.toArray.size))=true:=by
  rw[aU2 d,Bool.and_false];exact a3d
 refine a3R F.slot_list_extend ⟨_,e,rfl⟩ F.entry_list_extend (F.args_list_extend_2 _ _)
  (AutoSeq1.list_extend_list_list_0 l its.toArray n b a.toArray n2 c (by rw[a4b];lia) (by lia)) ⟨e,p,?_⟩
 refine⟨.non,_,I.lset (its':=its++a) f e (by simp) (r.append m) ?_,rfl,q⟩;rw[a9a];lia
def cN7:dS3 dD8 dL5:=by
 intro H d p i vs Q d' e ow r b k;unfold dL5 at b;split at b;split at b;rename_i l m j;cases b;obtain⟨xs,g,c⟩:=mX ow;obtain⟨x,rfl,a⟩:=bE6 r;obtain⟨q,ys,rfl,h,f⟩:=iO a;have:=c.length;have:=f.length;exact⟨p,q,xs,ys,rfl,rfl,g,h,by lia,k _ _ ⟨_,aJ,(c.append f).mono (dW.ext ow)⟩ .non⟩;cases b;cases b
noncomputable def aH2:FM:=λd a=>match d,a with
 | .lst l,[.int i]=>if -(2 ^ 63)<=i/\i < 2 ^ 63 then(ixN l.length i).bind λj=>(l[j]?).map λy=>(.lst (l.eraseIdx j),y)else none
 | _,_=>none
def bL2:dC9 cC6 aH2:=by
 intro H d p o vs Q d' e ow r b k;unfold aH2 at b;split at b
 ·split at b
  ·rename_i l i hi;obtain⟨j,f,b⟩:=aC b;obtain⟨y,g,h⟩:=a7b.mp b;cases h;obtain⟨xs,m,c⟩:=mX ow;obtain⟨x,ex,n⟩:=c.get g;cases r with
   | cons a t=>
     cases t;cases a;exact⟨p,xs,i,j,x,rfl,rfl,m,hi.1,hi.2,by rw[← c.length];exact(zW f).1,ex,k _ _ ⟨_,aJ,(c.eraseIdx j).mono (dW.ext ow)⟩ (n.mono (dW.ext ow))⟩
  ·cases b
 ·cases b
noncomputable def dD9:FM:=λd a=>match d,a with
 | .lst _,[]=>some (.lst [],.non)
 | _,_=>none
def cN8:dC9 cC7 dD9:=by
 intro H d p c vs Q d' e ow r a k;unfold dD9 at a;split at a;cases a;cases r;obtain⟨xs,b,f⟩:=mX ow;exact⟨p,xs,rfl,rfl,b,k _ _ ⟨_,aJ,.nil⟩ .non⟩;cases a
noncomputable def dL6(i:Int)(e:D):D->Option D
 | .lst l=>(ixN l.length i).map λj=>.lst (l.set j e)
 | _=>none
noncomputable def cU5(k:Nat)(ri c:DE):DS:=λσ=>(c σ).bind λx=>match x.1 with
 | .val d=>if aN1 "list" k x.2=true then(ri x.2).bind λy=>(rd y.2 y.1).bind λe=>match e with
   | .int i=>(bR8 (λa _=>(dL6 i d a).map λb=>(b,.non)) k [] y.2).bind λz=>some (.nx z.2)
   | _=>none else none
 | _=>none
def bL3{X:Cx}{E:Ex}{st:Stmt}{k:Nat}{ri G:DE}(h:∀ Γ,PS X st (bS4 (dTE Γ G) (dM5 (aT6 k) (dTE Γ ri) cI0))):GS E X st (cU5 k ri G):=.mk λΓ=>psW (h Γ) λD σV H ⟨σ,ok,o,e,L⟩=>by
 obtain⟨⟨x,f⟩,M,e⟩:=aC e;refine⟨σ,ok,x,f,M,λv H1 g N u f1=>?_⟩;cases x with
 | own d=>cases e
 | slot d=>cases e
 | val d=>
   have c:(if aN1 "list" k f=true then(ri f).bind λy=>(rd y.2 y.1).bind λI=>match I with
    | .int i=>(bR8 (λa _=>(dL6 i d a).map λb=>(b,.non)) k [] y.2).bind λz=>some (.nx z.2)
    | _=>none else none)=some o:=e
   split at c
   ·rename_i hn;obtain⟨⟨y,w⟩,O,c⟩:=aC c;obtain⟨I,P,c⟩:=aC c;obtain⟨s0,A,B,Q⟩:=vG hn;obtain⟨p,ep,ow⟩:=g.ownAt A B;dsimp only at c;split at c
    ·rename_i i;obtain⟨⟨z,R⟩,S,c⟩:=aC c;cases c;obtain⟨s,d',y',hs,hm,T,rfl,rfl⟩:=hU S;obtain⟨b,J,U⟩:=a7b.mp T;cases U;refine⟨_,ep,f,g,y,w,O,λvi V n W q f2=>?_⟩;obtain rfl:=dO (W.vw n P);obtain⟨p',r,t⟩:=n.ownAt hs (iJ hm);rw[ep]at r;cases r;have Y:Rp V d v:=Rp.mono (q.ext g) N;obtain⟨m,Z⟩:=s;cases Z with
     | lst l=>
       obtain⟨j,e8,e9⟩:=a7b.mp J;cases e9;obtain⟨xs,h1,K⟩:=mX t;refine⟨p,xs,i,j,rfl,rfl,h1,by rw[← K.length];exact e8,?_⟩;obtain⟨C,F⟩:=n.write (d':=.lst (l.set j d)) (o':=.lst (xs.set j v)) hs hm ep ⟨_,aJ,(K.set j Y).mono (dW.ext t)⟩;exact L _ _ C ((u.trans q).trans F)
     | _=>cases J
    ·cases c
   ·cases c
def bC1(i j:Int):Prop:=0 < j/\j < 18446744073709551616
def aW0{X:Cx}:OpR X (binaryOp .FloorDiv) (rI bC1 λi j=>.int (i / j)):=opI λi j _ _ _ _ _ a q=>by
 have c:(0:Int) < j:=a.1;have d:j < 18446744073709551616:=a.2;refine PyProof.Rows.floordiv_int (by lia) (by rw[Int.fdiv_eq_ediv_of_nonneg i (by lia)];exact q) (.inl (PyProof.noPylong_of_log2 ?_));have h0:j.natAbs≠0:=by lia
 have b:j.natAbs.log2 < 64:=(Nat.log2_lt h0).mpr (by lia);lia
noncomputable def dL7:F2:=iiC bC1 λi j=>.int (i / j)
def bL4:aE3 (rI bC1 λi j=>.int (i / j)) dL7:=aP6 λ_ _ _=>.int _
mutual
def gB:D->PyData
 | .non=>.none
 | .bl b=>.bool b
 | .int i=>.int i
 | .str x=>.str x
 | .tup l=>.tuple (toPys l)
 | .lst l=>.list (toPys l)
 | .dic _ _=>.dict []
def toPys:List D->List PyData
 | []=>[]
 | d::r=>gB d::toPys r
end
section
variable{X:Cx}{pins:List (Addr×Obj)}{σ:St}{H:Hp}{s:Shared}
mutual
theorem aW1(I:Inv X pins σ H s):∀ {d:D} {v:V} {u:Value},Rp H d v->eA v u->(gB d).canLay0=true->∃ as,Reads s.heap u (gB d) as
 | _,_,_,.non,r,_=>by cases r;exact⟨_,.none⟩
 | _,_,_,.bl b,r,_=>by cases r;exact⟨_,.bool b⟩
 | _,_,_,.int i,r,_=>by obtain⟨t,rfl⟩:=r;exact⟨_,.int i t⟩
 | _,_,_,.str x,r,_=>by obtain⟨t,rfl⟩:=r;exact⟨_,.str x t⟩
 | _,_,_,.tup h rs,r,a=>by
   cases r;obtain⟨_,its,c,⟨o,j,f,n,hd⟩,_⟩:=I.hok _ _ h;obtain⟨as,g⟩:=rps_reads I rs c a;exact⟨_,.tuple j f hd (by simpa using g)⟩
 | _,_,_,.lst h rs,r,a=>by
   cases r;obtain⟨_,_,its,n,c,e⟩:=I.hok _ _ h;obtain⟨as,g⟩:=rps_reads I rs c a;exact⟨_,.list e rfl rfl (by simpa using g)⟩
 | _,_,_,.dic h k rs,r,a=>nomatch a
theorem rps_reads(I:Inv X pins σ H s):∀ {l:List D} {vs:List V} {us:List Value},Rps H l vs->cA vs us->PyData.canLayAll0 (toPys l)=true->∃ as,ReadsAll s.heap us (toPys l) as
 | [],_,_,.nil,r,_=>by cases r;exact⟨_,.nil⟩
 | d::l,_,_,.cons a t,r,c=>by
   cases r with
   | cons e f=>
     have b:(gB d).canLay0=true/\PyData.canLayAll0 (toPys l)=true:=by simpa[toPys,PyData.canLayAll0]using c
     obtain⟨as,g⟩:=aW1 I a e b.1;obtain⟨bs,h⟩:=rps_reads I t f b.2;exact⟨_,.cons g h⟩
end
def hX(I:Inv X pins σ H s){d:D}{v:V}{u:Value}(h:Vw H d v)(r:eA v u)(a:(gB d).canLay0=true):∃ as,Reads s.heap u (gB d) as:=by
 rcases h with h | ⟨p,rfl,h⟩;exact aW1 I h r a;cases r;cases d with
 | lst l=>
   obtain⟨xs,b,c⟩:=mX h;obtain⟨_,its,n,f,e⟩:=I.hok _ _ b;obtain⟨as,g⟩:=rps_reads I c f a;exact⟨_,.list e rfl rfl (by simpa using g)⟩
 | dic ks vs=>exact nomatch a
 | _=>exact h.elim
end
noncomputable def xS(d e:D):Bool:=PyData.eqv (gB d) (gB e)
noncomputable def cV(d:D):Bool:=(gB d).canLay0&&decide ((gB d).depth<=60)
def dP9(neg:Bool):R2:=λx y H Q=>∃ d e,Vw H d x/\Vw H e y/\cV d=true/\cV e=true/\Q (.bl (if neg then !xS d e else xS d e)) H
def cC{d:D}(h:cV d=true):(gB d).canLay0=true/\(gB d).depth<=60:=by
 unfold cV at h;rw[a1e,a3w]at h;exact h
def jV{X:Cx}(n:X.A.units+64 < cLine):OpR X (compareOp .Eq) (dP9 false):=by
 intro pins s σ H x y v u Q I c f h;obtain⟨d,e,g,i,j,k,q⟩:=h;obtain⟨a,o⟩:=cC j;obtain⟨b,p⟩:=cC k;obtain⟨as,l⟩:=hX I g c a;obtain⟨bs,m⟩:=hX I i f b;exact SeqAt.rcAt_reads l m a b (by lia) _ _ _ _ ⟨.bl _,H,I,rfl,q⟩
def bL5{X:Cx}(n:X.A.units+64 < cLine):OpR X (compareOp .NotEq) (dP9 true):=by
 intro pins s σ H x y v u Q I c f h;obtain⟨d,e,g,i,j,k,q⟩:=h;obtain⟨a,o⟩:=cC j;obtain⟨b,p⟩:=cC k;obtain⟨as,l⟩:=hX I g c a;obtain⟨bs,m⟩:=hX I i f b;exact SeqAt.rcNeAt_reads l m a b (by lia) _ _ _ _ ⟨.bl _,H,I,rfl,q⟩
noncomputable def eqD(neg:Bool):F2:=λd e=>if cV d=true/\cV e=true then some (.val (.bl (if neg then !xS d e else xS d e)))else none
def hZ{neg:Bool}:aE3 (dP9 neg) (eqD neg):=by
 intro H b c x y Q res d f e k;unfold eqD at e;split at e;rename_i a;cases e;exact⟨b,c,d,f,a.1,a.2,k _ H (.refl _) (.bl _)⟩;cases e
def dQ0(neg:Bool):R2:=λx y H Q=>(∃ i j,x=.str i/\y=.str j/\Q (.bl (if neg then(Builtin.Str.occurrences j i 0 j.length 1).isEmpty else !(Builtin.Str.occurrences j i 0 j.length 1).isEmpty)) H) \/
 ∃ d e b l,Vw H d x/\Vw H e y/\cT7 e=some (b,l)/\cV d=true/\cV e=true/\Q (.bl (if neg then !(l.any λy=>xS y d)else l.any λy=>xS y d)) H
theorem wI(d:D):∀ l:List D,(toPys l).any (λy=>PyData.eqv y (gB d))=l.any λy=>xS y d
 | []=>rfl
 | e::r=>by show(PyData.eqv (gB e) (gB d)||(toPys r).any _)=_;rw[wI d r];rfl
def aH3{e:D}{b:Bool}{l:List D}(h:cT7 e=some (b,l)):PyData.depthAll (toPys l)<=(gB e).depth/\((gB e).canLay0=true->PyData.canLayAll0 (toPys l)=true):=by
 cases e with
 | lst a=>cases h;exact⟨by show _<=PyData.depth (.list (toPys l));simp only[PyData.depth];lia,λz=>z⟩
 | tup a=>cases h;exact⟨by show _<=PyData.depth (.tuple (toPys l));simp only[PyData.depth];lia,λz=>z⟩
 | _=>cases h
def cD8{X:Cx}(r:X.A.units+64 < cLine):OpR X (compareOp .In) (dQ0 false):=by
 intro pins s σ H x y v u Q I f g h;rcases h with⟨i,j,rfl,rfl,q⟩ | ⟨d,e,b,l,v1,v2,hs,n,o,q⟩;exact aE6 pins s σ H _ _ v u Q I f g ⟨_,_,rfl,rfl,by simpa using q⟩;obtain⟨a,t⟩:=cC n;obtain⟨c,w⟩:=cC o;obtain⟨as,k⟩:=hX I v1 f a;obtain⟨bs,m⟩:=hX I v2 g c;obtain⟨dp,cl⟩:=aH3 hs;have fin:EP X pins σ Q (.bool ((toPys l).any λy=>PyData.eqv y (gB d))) s:=⟨.bl _,H,I,by rw[wI];rfl,q⟩;cases e with
 | lst p=>cases hs;exact SeqAt.in_list_reads m k (cl c) a (by lia) fin
 | tup p=>cases hs;exact SeqAt.in_tuple_reads m k (cl c) a (by lia) fin
 | _=>cases hs
def jW{X:Cx}(r:X.A.units+64 < cLine):OpR X (compareOp .NotIn) (dQ0 true):=by
 intro pins s σ H x y v u Q I f g h;rcases h with⟨i,j,rfl,rfl,q⟩ | ⟨d,e,b,l,v1,v2,hs,n,o,q⟩;exact aE7 pins s σ H _ _ v u Q I f g ⟨_,_,rfl,rfl,by simpa using q⟩;obtain⟨a,t⟩:=cC n;obtain⟨c,w⟩:=cC o;obtain⟨as,k⟩:=hX I v1 f a;obtain⟨bs,m⟩:=hX I v2 g c;obtain⟨dp,cl⟩:=aH3 hs;have fin:EP X pins σ Q (.bool (!(toPys l).any λy=>PyData.eqv y (gB d))) s:=⟨.bl _,H,I,by rw[wI];rfl,q⟩;cases e with
 | lst p=>cases hs;exact SeqAt.notIn_list_reads m k (cl c) a (by lia) fin
 | tup p=>cases hs;exact SeqAt.notIn_tuple_reads m k (cl c) a (by lia) fin
 | _=>cases hs
noncomputable def inD(neg:Bool):F2:=λd e=>match d,e with
 | .str i,.str j=>some (.val (.bl (if neg then(Builtin.Str.occurrences j i 0 j.length 1).isEmpty else !(Builtin.Str.occurrences j i 0 j.length 1).isEmpty)))
 | d,e=>match cT7 e with
   | some (_,l)=>if cV d=true/\cV e=true then some (.val (.bl (if neg then !(l.any λy=>xS y d)else l.any λy=>xS y d)))else none
   | none=>none
def wJ{neg:Bool}:aE3 (dQ0 neg) (inD neg):=by
 intro H f g x y Q res a c e k;unfold inD at e;split at e;cases e;obtain rfl:=jN a;obtain rfl:=jN c;exact .inl ⟨_,_,rfl,rfl,k _ H (.refl _) (.bl _)⟩;split at e;rename_i b l hs;split at e;rename_i d;cases e;exact .inr ⟨f,g,b,l,a,c,hs,d.1,d.2,k _ H (.refl _) (.bl _)⟩;cases e;cases e
def cN9(K:W.Frag):List V->Hp->VK->Prop:=λxs H Q=>∃ x c t,xs=[x,.ty c]/\TyOf K H x (.type t)/\(t="NoneType"\/t="int"\/t="bool"\/t="str"\/t="list"\/t="tuple") /\
 (c="int"\/c="bool"\/c="str"\/c="list"\/c="tuple")/\Q (.bl (wB t c)) H
def fH{X:Cx}(K:W.Frag)(a:X.K=K):mK X (.builtin "isinstance") (cN9 K):=by
 subst a;intro pins s σ H xs us Q I r h;obtain⟨x,c,t,rfl,ty,b,d,q⟩:=h;exact aO2 pins s σ H _ us Q I r ⟨x,c,.type t,_,rfl,ty,bV6 b d,q⟩
def pM{X:Cx}{e:Expr}{r:DE}{c:String}(K:W.Frag)(f:c="int"\/c="bool"\/c="str"\/c="list"\/c="tuple")(h:∀ Γ,PE X e (tCB (cN9 K) (bS7 (dTE Γ r) (bS7 (tC (.ty c)) cY6)))):GE X e (aG2 (aH1 c) r):=.mk λΓ=>peW (h Γ) λσV H Q j=>by
 have m:dP3 (λx H Q=>cN9 K [x,.ty c] H Q) (aH1 c):=by
  intro H d x Q res a e k;cases d with
  | non=>cases e;obtain rfl:=dC7 a;exact⟨_,_,_,rfl,.non,.inl rfl,f,k _ H (.refl _) (.bl _)⟩
  | bl b=>cases e;obtain rfl:=bJ3 a;exact⟨_,_,_,rfl,.bl b,.inr (.inr (.inl rfl)),f,k _ H (.refl _) (.bl _)⟩
  | int i=>cases e;obtain rfl:=dO a;exact⟨_,_,_,rfl,.int i,.inr (.inl rfl),f,k _ H (.refl _) (.bl _)⟩
  | str i=>cases e;obtain rfl:=jN a;exact⟨_,_,_,rfl,.str i,.inr (.inr (.inr (.inl rfl))),f,k _ H (.refl _) (.bl _)⟩
  | tup l=>cases e;obtain⟨p,xs,rfl,g,_⟩:=fF a;exact⟨_,_,_,rfl,.tup g,.inr (.inr (.inr (.inr (.inr rfl)))),f,k _ H (.refl _) (.bl _)⟩
  | lst l=>
    cases e;rcases a with a | ⟨p,rfl,a⟩
    ·cases a with
     | lst g _=>exact⟨_,_,_,rfl,.frz g,.inr (.inr (.inr (.inr (.inl rfl)))),f,k _ H (.refl _) (.bl _)⟩
    ·obtain⟨xs,g,_⟩:=mX a;exact⟨_,_,_,rfl,.lst g,.inr (.inr (.inr (.inr (.inl rfl)))),f,k _ H (.refl _) (.bl _)⟩
  | dic ks vs=>cases e
 exact bW1 m j
def gE{X:Cx}{e:Expr}{r:DE}(h:GE X e r)(Γ:Gm):PE X e (dTE Γ r):=h.to Γ
def gA{X:Cx}{e:List Expr}{r:DA}(h:GA X e r)(Γ:Gm):PA X e (dTA Γ r):=h.to Γ
def gT{X:Cx}{e:Expr}{r:DT}(h:GT X e r)(Γ:Gm):PT X e (dTT Γ r):=h.to Γ
def gI{X:Cx}{tg e:Expr}{r:DI}(h:GI X tg e r)(Γ:Gm):PI X tg e (dTI Γ r):=h.to Γ
def gSs{X:Cx}{E:Ex}{e:List Stmt}{r:DS}(h:GSs E X e r)(Γ:Gm):PSs X e (dTS Γ E r):=h.to Γ
noncomputable def bL6(K:W.Frag):Bool:=K.all λp=>match p.2.cls with
 | .type n=>!(n=="list")
 | _=>true
def cO0{K:W.Frag}{H:Hp}{a:Addr}{ns:List Int}(c:bL6 K=true)(g:cZ9 H)(b:SqL K H a (ns.map V.int)):ArgOk H [⟨.val,.lst (ns.map D.int)⟩] [.ref a]:=by
 have d:∃ o,H a=some (.frz o (.lst (ns.map V.int))):=by
  rcases b with b | ⟨o,its,n,k,q,_⟩
  ·rcases b with b | ⟨o,b⟩;rcases g a with z | ⟨o,xs,z⟩;rw[b]at z;cases z;rw[b]at z;cases z;exact⟨o,b⟩
  ·exfalso;unfold bL6 at c;rw[a8g]at c;have hm:(a,o)∈K:=by
    clear c g;have:∀ (l:List (Addr×Obj)),List.lookup a l=some o->(a,o)∈l:=by
     intro l
     induction l with
     | nil=>intro h;simp at h
     | cons p r u=>
       intro h;rw[a0j]at h;split at h
       ·rename_i e;have:a=p.1:=by simpa using e
        cases h;rw[this];exact a3a
       ·exact a5a _ (u h)
    exact this K k
   have:=c _ hm;rw[q]at this;simp at this
 obtain⟨o,d⟩:=d;refine⟨rfl,λi s e=>?_,λi j s t p n f v m=>?_,λi s e=>?_⟩
 ·cases i with
  | zero=>simp at e;subst e;exact⟨_,rfl,.lst d (vE ns)⟩
  | succ i=>simp at e
 ·cases i with
  | zero=>simp at f;subst f;cases m
  | succ i=>simp at f
 ·cases i with
  | zero=>simp at e;subst e;exact λz=>nomatch z
  | succ i=>simp at e
def OK1{b:Type}(o:Option b)(K:b->Prop):Prop:=match o with
 | some a=>K a
 | none=>False
def RE(r:DE)(σ:Sg)(Q:Res->Sg->Prop):Prop:=OK1 (r σ) λx=>Q x.1 x.2
def RT(r:DT)(σ:Sg)(Q:Bool->Sg->Prop):Prop:=OK1 (r σ) λx=>Q x.1 x.2
def RA(r:DA)(σ:Sg)(Q:List Res->Sg->Prop):Prop:=OK1 (r σ) λx=>Q x.1 x.2
def RS(r:DS)(σ:Sg)(Q:Out->Prop):Prop:=OK1 (r σ) Q
def RI(r:DI)(σ:Sg)(Q:List D->Option Nat->Sg->Prop):Prop:=OK1 (r σ) λx=>Q x.1 x.2.1 x.2.2
def RO(r:DO)(σ:Sg)(Q:Option Int->Sg->Prop):Prop:=OK1 (r σ) λx=>Q x.1 x.2
theorem aM{b c:Type}{o:Option b}{f:b->Option c}{K:c->Prop}:OK1 (o.bind f) K=OK1 o λa=>OK1 (f a) K:=by cases o<;>rfl
theorem bI{b:Type}{a:b}{K:b->Prop}:OK1 (some a) K=K a:=rfl
def aH4{b c:Type}{o:Option b}{f:b->c}{K:c->Prop}:OK1 (o.map f) K=OK1 o λa=>K (f a):=by cases o<;>rfl
theorem bJ{a:Type}{c:Prop}[Decidable c]{o:Option a}{K:a->Prop}:OK1 (if c then o else none) K=(c/\OK1 o K):=by
 by_cases h:c;rw[a3s h];exact propext ⟨λq=>⟨h,q⟩,λq=>q.2⟩;rw[a3u h];exact propext ⟨λq=>q.elim,λq=>h q.1⟩
def dH{b:Type}{o:Option b}{K:b->Prop}:OK1 o K↔∃ a,o=some a/\K a:=by
 cases o with
 | none=>exact⟨λq=>q.elim,λ⟨_,e,_⟩=>nomatch e⟩
 | some a=>exact⟨λq=>⟨a,rfl,q⟩,λZ1=>by obtain⟨_,e,q⟩:=Z1;cases e;exact q⟩
def cN{b:Type}{o:Option b}{K c:b->Prop}(h:OK1 o K)(w:∀ a,K a->c a):OK1 o c:=by
 cases o with
 | none=>exact h
 | some a=>exact w a h
def VK:Nat->Sg->Nat->Sg->(Res->Sg->Prop)->Prop
 | 0,some s::_,i,σ,Q=>Q (if s.m=.val then .val s.d else .slot i) σ
 | n+1,_::r,i,σ,Q=>VK n r i σ Q
 | _,_,_,_,_=>False
theorem dE0:∀ (n:Nat) (r:Sg) (i:Nat) (σ:Sg) (Q:Res->Sg->Prop),VK n r i σ Q=OK1 (match r[n]? with | some (some s)=>some (if s.m=.val then Res.val s.d else Res.slot i,σ) | _=>none) λx=>Q x.1 x.2
 | 0,[],_,_,_=>rfl
 | 0,none::_,_,_,_=>rfl
 | 0,some s::_,_,_,_=>rfl
 | n+1,[],_,_,_=>rfl
 | n+1,_::r,i,σ,Q=>by
   show VK n r i σ Q=_;rw[dE0 n r i σ Q,a9c]
def GK:Nat->Sg->(D->Prop)->Prop
 | 0,some s::_,K=>K s.d
 | n+1,_::r,K=>GK n r K
 | _,_,_=>False
theorem dE1:∀ (n:Nat) (r:Sg) (K:D->Prop),GK n r K=OK1 (match r[n]? with | some (some s)=>some s.d | _=>none) K
 | 0,[],_=>rfl
 | 0,none::_,_=>rfl
 | 0,some s::_,_=>rfl
 | n+1,[],_=>rfl
 | n+1,_::r,K=>by
   show GK n r K=_;rw[dE1 n r K,a9c]
def RD(σ:Sg)(r:Res)(K:D->Prop):Prop:=OK1 (rd σ r) K
def PK:Nat->Sg->Sl->(Sg->Prop)->Prop
 | 0,none::r,s,K=>K (some s::r)
 | 0,some ⟨.val,_⟩::r,s,K=>K (some s::r)
 | 0,some ⟨.own,_⟩::r,s,K=>K (some s::r)
 | n+1,o::r,s,K=>PK n r s λa=>K (o::a)
 | _,_,_,_=>False
def bC2{n:Nat}{o:Option Sl}{r:Sg}:gF (o::r) (n+1)=gF r n:=by unfold gF;rw[a9c]
theorem bX3:∀ (n:Nat) (r:Sg) (s:Sl) (K:Sg->Prop),PK n r s K=OK1 (if gF r n=true then some (r.set n (some s))else none) K
 | 0,[],s,K=>rfl
 | 0,none::r,s,K=>rfl
 | 0,some ⟨.val,_⟩::r,s,K=>rfl
 | 0,some ⟨.own,_⟩::r,s,K=>rfl
 | 0,some ⟨.par,_⟩::r,s,K=>rfl
 | 0,some ⟨.lent,_⟩::r,s,K=>rfl
 | n+1,[],s,K=>by
   show False=_;rw[bJ];unfold gF;simp
 | n+1,o::r,s,K=>by
   show PK n r s (λa=>K (o::a))=_;rw[bX3 n r s _,bJ,bJ,bC2,List.set_cons_succ];rfl
def MK:Nat->Sg->FM->List D->(D->Sg->Prop)->Prop
 | 0,some ⟨.own,d⟩::r,f,ds,K=>OK1 (f d ds) λy=>K y.2 (some ⟨.own,y.1⟩::r)
 | 0,some ⟨.par,d⟩::r,f,ds,K=>OK1 (f d ds) λy=>K y.2 (some ⟨.par,y.1⟩::r)
 | n+1,o::r,f,ds,K=>MK n r f ds λe a=>K e (o::a)
 | _,_,_,_,_=>False
theorem cO1:∀ (n:Nat) (r:Sg) (f:FM) (ds:List D) (K:D->Sg->Prop),MK n r f ds K=OK1 (bR8 f n ds r) λx=>OK1 (match x.1 with | .val d=>some d | _=>none) λd=>K d x.2
 | 0,[],f,ds,K=>rfl
 | 0,none::r,f,ds,K=>rfl
 | 0,some ⟨.val,_⟩::r,f,ds,K=>rfl
 | 0,some ⟨.lent,_⟩::r,f,ds,K=>rfl
 | 0,some ⟨.own,d⟩::r,f,ds,K=>by
   show OK1 (f d ds) _=OK1 ((f d ds).bind λy=>some (Res.val y.2,some (⟨.own,y.1⟩:Sl)::r)) _;rw[aM];rfl
 | 0,some ⟨.par,d⟩::r,f,ds,K=>by
   show OK1 (f d ds) _=OK1 ((f d ds).bind λy=>some (Res.val y.2,some (⟨.par,y.1⟩:Sl)::r)) _;rw[aM];rfl
 | n+1,[],f,ds,K=>rfl
 | n+1,o::r,f,ds,K=>by
   show MK n r f ds (λe a=>K e (o::a))=_;rw[cO1 n r f ds _];unfold bR8;rw[a9c];cases q:r[n]? with
   | none=>rfl
   | some x=>cases x with
     | none=>rfl
     | some s=>
       dsimp only;by_cases hm:s.m.mt=true;rw[a3s hm,a3s hm,aM,aM];rfl;rw[a3u hm,a3u hm];rfl
def TK:String->Nat->Sg->Prop->Prop
 | T,0,some ⟨.own,d⟩::_,P=>tyD T d=true/\P
 | T,0,some ⟨.par,d⟩::_,P=>tyD T d=true/\P
 | T,0,some ⟨.lent,d⟩::_,P=>tyD T d=true/\P
 | T,n+1,_::r,P=>TK T n r P
 | _,_,_,_=>False
theorem bL7:∀ (T:String) (n:Nat) (r:Sg) (P:Prop),TK T n r P=(aN1 T n r=true/\P)
 | T,0,[],P=>by simp[TK,aN1]
 | T,0,none::r,P=>by simp[TK,aN1]
 | T,0,some ⟨.val,d⟩::r,P=>by simp[TK,aN1]
 | T,0,some ⟨.own,d⟩::r,P=>by simp[TK,aN1]
 | T,0,some ⟨.par,d⟩::r,P=>by simp[TK,aN1]
 | T,0,some ⟨.lent,d⟩::r,P=>by simp[TK,aN1]
 | T,n+1,[],P=>by simp[TK,aN1]
 | T,n+1,o::r,P=>by
   show TK T n r P=_;rw[bL7 T n r P];unfold aN1;rw[a9c]
section
variable{σ:Sg}{Q:Res->Sg->Prop}{QT:Bool->Sg->Prop}{QA:List Res->Sg->Prop}{QS:Out->Prop}{K:D->Prop}{KR:Res->Prop}{a b c:DE}{ra:DA}{t u:DT}{x y:DS}{d e:D}{f:F2}{f1:F1}{fn:FN}{i j n:Nat}{r:Sg}{o:Option Sl}
theorem cD9:RE (dC d) σ Q=Q (.val d) σ:=rfl
theorem pN:RE (aH i) σ Q=VK i σ i σ Q:=(dE0 i σ i σ Q).symm
theorem pO:VK (n+1) (o::r) i σ Q=VK n r i σ Q:=rfl
theorem pQ:VK 0 (some ⟨.val,d⟩::r) i σ Q=Q (.val d) σ:=rfl
theorem pR:VK 0 (some ⟨.own,d⟩::r) i σ Q=Q (.slot i) σ:=rfl
theorem pS:VK 0 (some ⟨.par,d⟩::r) i σ Q=Q (.slot i) σ:=rfl
theorem pT:VK 0 (some ⟨.lent,d⟩::r) i σ Q=Q (.slot i) σ:=rfl
theorem pU:RE (aT f a b) σ Q=RE a σ λx g=>RE b g λy c=>RD c x λd=>RD c y λe=>OK1 (f d e) λr=>Q r c:=by
 unfold RE aT RD;simp only[aM,bI]
theorem pV:RE (aG2 f1 a) σ Q=RE a σ λx b=>RD b x λd=>OK1 (f1 d) λr=>Q r b:=by
 unfold RE aG2 RD;simp only[aM,bI]
theorem pW:RD σ (.val d) K=K d:=rfl
theorem pX:RD σ (.own d) K=K d:=rfl
theorem pY:RD σ (.slot i) K=GK i σ K:=(dE1 i σ K).symm
theorem pZ{m:Md}:GK 0 (some ⟨m,d⟩::r) K=K d:=rfl
theorem qA:GK (n+1) (o::r) K=GK n r K:=rfl
theorem qB:RT (fX a) σ QT=RE a σ λx c=>RD c x λd=>OK1 (match d with | .bl b=>some b | _=>none) λb=>QT b c:=by
 unfold RT RE fX RD;simp only[aM];congr 1;funext x;congr 1;funext d;cases d<;>rfl
theorem qC{b:Bool}{K:Bool->Prop}:OK1 (match D.bl b with | .bl b=>some b | _=>none) K=K b:=rfl
theorem qD:RT (cT8 t u) σ QT=RT t σ λb a=>if b=true then RT u a QT else QT false a:=by
 unfold RT cT8;simp only[aM];congr 1;funext x;by_cases h:x.1=true<;>simp[h,OK1]
theorem aH5:RT (dOr t u) σ QT=RT t σ λb a=>if b=true then QT true a else RT u a QT:=by
 unfold RT dOr;simp only[aM];congr 1;funext x;by_cases h:x.1=true<;>simp[h,OK1]
theorem qE:RT (aA8 t) σ QT=RT t σ λb a=>QT (!b) a:=by
 unfold RT aA8;simp only[aM,bI]
theorem jX:RT mL σ QT=QT true σ:=rfl
theorem jY:RE (aG3 a b) σ Q=RT (fX a) σ λt c=>if t=true then RE b c Q else Q (.val (.bl false)) c:=by
 unfold RT RE aG3;simp only[aM];congr 1;funext x;by_cases h:x.1=true<;>simp[h,OK1]
theorem jZ:RE (bW2 a) σ Q=RT (fX a) σ λt b=>Q (.val (.bl (!t))) b:=by
 unfold RT RE bW2;simp only[aM,bI]
theorem qF{b:Bool}{K:Bool->Prop}:OK1 (match Res.val (D.bl b)with | .val (.bl t)=>some t | _=>none) K=K b:=rfl
theorem qG:RA aR σ QA=QA [] σ:=rfl
theorem kA:RA (aD a ra) σ QA=RE a σ λx b=>RA ra b λxs c=>QA (x::xs) c:=by
 unfold RA RE aD;simp only[aM,bI]
def RDs(σ:Sg)(rs:List Res)(K:List D->Prop):Prop:=OK1 (rds σ rs) K
def VLs(rs:List Res)(K:List D->Prop):Prop:=OK1 (vals rs) K
theorem kB{K:List D->Prop}:RDs σ [] K=K []:=rfl
theorem kD{x:Res}{xs:List Res}{K:List D->Prop}:RDs σ (x::xs) K=RD σ x λd=>RDs σ xs λds=>K (d::ds):=by
 show OK1 ((rd σ x).bind λd=>(rds σ xs).bind λds=>some (d::ds)) K=_;unfold RDs RD;simp only[aM,bI]
theorem qH{K:List D->Prop}:VLs [] K=K []:=rfl
theorem qI{xs:List Res}{K:List D->Prop}:VLs (.val d::xs) K=VLs xs λds=>K (d::ds):=by
 show OK1 ((vals xs).bind λds=>some (d::ds)) K=_;unfold VLs;simp only[aM,bI]
theorem aH6:RE (dCB fn ra) σ Q=RA ra σ λxs a=>RDs a xs λds=>OK1 (fn ds) λr=>Q r a:=by
 unfold RE RA RDs dCB;simp only[aM,bI]
theorem qJ:RE (wC ra) σ Q=RA ra σ λxs a=>VLs xs λds=>ds.length<=sizeLine/\Q (.val (.tup ds)) a:=by
 unfold RE RA VLs wC;simp only[aM,bJ,bI]
theorem qK:RE (aG4 ra) σ Q=RA ra σ λxs a=>VLs xs λds=>ds.length<=sizeLine/\Q (.own (.lst ds)) a:=by
 unfold RE RA VLs aG4;simp only[aM,bJ,bI]
def FK(r:Res)(σ:Sg)(K:D->Sg->Prop):Prop:=OK1 (dS2 σ r) λx=>K x.1 x.2
def ZK:Nat->Sg->(D->Sg->Prop)->Prop
 | 0,some ⟨.own,d⟩::r,K=>K d (some ⟨.val,d⟩::r)
 | 0,some ⟨.val,d⟩::r,K=>K d (some ⟨.val,d⟩::r)
 | n+1,o::r,K=>ZK n r λd a=>K d (o::a)
 | _,_,_=>False
theorem dE2:∀ (n:Nat) (r:Sg) (K:D->Sg->Prop),ZK n r K=FK (.slot n) r K
 | 0,[],K=>rfl
 | 0,none::r,K=>rfl
 | 0,some ⟨.val,_⟩::r,K=>rfl
 | 0,some ⟨.own,_⟩::r,K=>rfl
 | 0,some ⟨.par,_⟩::r,K=>rfl
 | 0,some ⟨.lent,_⟩::r,K=>rfl
 | n+1,[],K=>rfl
 | n+1,o::r,K=>by
   show ZK n r (λd c=>K d (o::c))=_;rw[dE2 n r _];show OK1 (match r[n]? with | some (some s)=>if s.m=.own then some (s.d,r.set n (some ⟨.val,s.d⟩))else if s.m=.val then some (s.d,r)else none | _=>none) _ =
    OK1 (match (o::r)[n+1]? with | some (some s)=>if s.m=.own then some (s.d,(o::r).set (n+1) (some ⟨.val,s.d⟩))else if s.m=.val then some (s.d,o::r)else none | _=>none) _
   rw[a9c];cases r[n]? with
   | none=>rfl
   | some x=>cases x with
     | none=>rfl
     | some s=>
       dsimp only;by_cases a:s.m=.own;rw[a3s a,a3s a];rfl;rw[a3u a,a3u a];by_cases b:s.m=.val;rw[a3s b,a3s b];rfl;rw[a3u b,a3u b];rfl
theorem aH7:RE (dFz a) σ Q=RE a σ λx b=>FK x b λd c=>Q (.val d) c:=by
 unfold RE dFz FK;simp only[aM,bI]
theorem qL{K:D->Sg->Prop}:FK (.val d) σ K=K d σ:=rfl
theorem qM{K:D->Sg->Prop}:FK (.own d) σ K=K d σ:=rfl
theorem qN{K:D->Sg->Prop}:FK (.slot i) σ K=ZK i σ K:=(dE2 i σ K).symm
theorem qO{K:D->Sg->Prop}:ZK 0 (some ⟨.own,d⟩::r) K=K d (some ⟨.val,d⟩::r):=rfl
theorem qP{K:D->Sg->Prop}:ZK 0 (some ⟨.val,d⟩::r) K=K d (some ⟨.val,d⟩::r):=rfl
theorem qQ{K:D->Sg->Prop}:ZK (n+1) (o::r) K=ZK n r λd a=>K d (o::a):=rfl
theorem kH:RS iK σ QS=QS (.nx σ):=rfl
theorem kI:RS (λσ=>some (.ct σ)) σ QS=QS (.ct σ):=rfl
def SqK(y:DS)(QS:Out->Prop):Out->Prop
 | .nx σ=>RS y σ QS
 | o=>QS o
theorem qR:RS (cF x y) σ QS=RS x σ (SqK y QS):=by
 unfold RS cF;rw[aM];congr 1;funext o;cases o<;>rfl
theorem qS:SqK y QS (.nx σ)=RS y σ QS:=rfl
theorem qT{v:Res}:SqK y QS (.rt v σ)=QS (.rt v σ):=rfl
theorem qU:SqK y QS (.bk σ)=QS (.bk σ):=rfl
theorem qV:SqK y QS (.ct σ)=QS (.ct σ):=rfl
theorem kJ:RS (xW a) σ QS=RE a σ λ_ b=>QS (.nx b):=by unfold RS RE xW;simp only[aM,bI]
theorem qW:RS (iW a) σ QS=RE a σ λx b=>QS (.rt x b):=by unfold RS RE iW;simp only[aM,bI]
theorem kK:RS dP5 σ QS=QS (.rt (.val .non) σ):=rfl
theorem qX:RS (wE t x y) σ QS=RT t σ λb a=>if b=true then RS x a QS else RS y a QS:=by
 unfold RS RT wE;simp only[aM];congr 1;funext z;by_cases h:z.1=true<;>simp[h]
def PtK(i:Nat)(r:Res)(σ:Sg)(K:Sg->Prop):Prop:=OK1 (dL2 i r σ) K
theorem qY:RS (dQ i a) σ QS=RE a σ λx b=>PtK i x b λc=>QS (.nx c):=by unfold RS RE PtK dQ;simp only[aM,bI]
theorem qZ{K:Sg->Prop}:PtK i (.val d) σ K=PK i σ ⟨.val,d⟩ K:=(bX3 i σ _ K).symm
theorem rA{K:Sg->Prop}:PtK i (.own d) σ K=PK i σ ⟨.own,d⟩ K:=(bX3 i σ _ K).symm
theorem rB{s:Sl}{K:Sg->Prop}:PK 0 (none::r) s K=K (some s::r):=rfl
theorem rC{s:Sl}{K:Sg->Prop}:PK 0 (some ⟨.val,d⟩::r) s K=K (some s::r):=rfl
theorem rD{s:Sl}{K:Sg->Prop}:PK 0 (some ⟨.own,d⟩::r) s K=K (some s::r):=rfl
theorem rE{s:Sl}{K:Sg->Prop}:PK (n+1) (o::r) s K=PK n r s λa=>K (o::a):=rfl
theorem kL{T:String}{b:FM}:RE (bB8 T i b) σ Q=TK T i σ (MK i σ b [] λd a=>Q (.val d) a):=by
 rw[bL7,cO1];unfold RE bB8;rw[bJ];congr 1;apply propext;rw[dH,dH];constructor;rintro⟨⟨x,s⟩,e,q⟩;obtain⟨_,_,_,_,_,_,rfl,_⟩:=hU e;exact⟨_,e,q⟩;rintro⟨⟨x,s⟩,e,q⟩;obtain⟨_,_,_,_,_,_,rfl,_⟩:=hU e;exact⟨_,e,q⟩
theorem cO2{b:FM}{ds:List D}{σ:Sg}:OK1 (bR8 b i ds σ) (λx=>Q x.1 x.2)=MK i σ b ds λd a=>Q (.val d) a:=by
 rw[cO1];apply propext;rw[dH,dH];constructor;rintro⟨⟨x,s⟩,e,q⟩;obtain⟨_,_,_,_,_,_,rfl,_⟩:=hU e;exact⟨_,e,q⟩;rintro⟨⟨x,s⟩,e,q⟩;obtain⟨_,_,_,_,_,_,rfl,_⟩:=hU e;exact⟨_,e,q⟩
theorem kM{T:String}{c:FM}:RE (aB0 T i c ra) σ Q=TK T i σ (RA ra σ λxs a=>VLs xs λds=>MK i a c ds λd b=>Q (.val d) b):=by
 rw[bL7];unfold RE aB0 RA VLs;rw[bJ];simp only[aM,cO2]
theorem kO{T:String}{c:FM}:RE (bJ8 T i c ra) σ Q=TK T i σ (RA ra σ λxs a=>RDs a xs λds=>MK i a c ds λd b=>Q (.val d) b):=by
 rw[bL7];unfold RE bJ8 RA RDs;rw[bJ];simp only[aM,cO2]
theorem rF{T:String}{P:Prop}:TK T 0 (some ⟨.own,d⟩::r) P=(tyD T d=true/\P):=rfl
theorem rG{T:String}{P:Prop}:TK T 0 (some ⟨.par,d⟩::r) P=(tyD T d=true/\P):=rfl
theorem rH{T:String}{P:Prop}:TK T (n+1) (o::r) P=TK T n r P:=rfl
theorem rJ{a:FM}{ds:List D}{K:D->Sg->Prop}:MK 0 (some ⟨.own,d⟩::r) a ds K=OK1 (a d ds) λy=>K y.2 (some ⟨.own,y.1⟩::r):=rfl
theorem rK{a:FM}{ds:List D}{K:D->Sg->Prop}:MK 0 (some ⟨.par,d⟩::r) a ds K=OK1 (a d ds) λy=>K y.2 (some ⟨.par,y.1⟩::r):=rfl
theorem rL{a:FM}{ds:List D}{K:D->Sg->Prop}:MK (n+1) (o::r) a ds K=MK n r a ds λe b=>K e (o::b):=rfl
theorem rM:RS (cU5 i a b) σ QS=RE b σ λx c=>OK1 (match x with | .val d=>some d | _=>none) λd=>TK "list" i c (RE a c λy f=>RD f y λg=>OK1 (match g with | .int k=>some k | _=>none) λk=>
  MK i f (λa _=>(dL6 k d a).map λb=>(b,.non)) [] λ_ e=>QS (.nx e)):=by
 unfold RS RE RD cU5;rw[aM];congr 1;funext x;obtain⟨x,c⟩:=x;cases x with
 | own d=>rfl
 | slot d=>rfl
 | val d=>
   show OK1 _ _=TK _ _ _ _;rw[bL7];dsimp only;rw[bJ];simp only[aM];congr 1;congr 1;funext y;congr 1;funext g;cases g with
   | int k=>
     dsimp only;rw[aM];show _=MK _ _ _ _ _;rw[← cO2 (Q:=λ_ e=>QS (.nx e))];rfl
   | _=>rfl
theorem rN{K:D->Prop}:OK1 (match Res.val d with | .val d=>some d | _=>none) K=K d:=rfl
theorem rO{k:Int}{K:Int->Prop}:OK1 (match D.int k with | .int k=>some k | _=>none) K=K k:=rfl
theorem rP{g:DG}:RS (dL3 g a) σ QS=RE a σ λx b=>OK1 (match x with | .val d=>some d | _=>none) λd=>OK1 (g d b) λc=>QS (.nx c):=by
 unfold RS RE dL3;rw[aM];congr 1;funext x;obtain⟨x,b⟩:=x;cases x with
 | own d=>rfl
 | slot d=>rfl
 | val d=>
   show OK1 ((g d b).bind _) _=OK1 (g d b) _;rw[aM];rfl
theorem aH8{K:Sg->Prop}:OK1 (dgN i d σ) K=PK i σ ⟨.val,d⟩ K:=(bX3 i σ _ K).symm
theorem kP{a:DGs}{l:List D}{K:Sg->Prop}:OK1 (aO8 n a (.tup l) σ) K=(l.length=n/\OK1 (a l σ) K):=by
 show OK1 (if l.length=n then a l σ else none) K=_;rw[bJ]
theorem iA{g:DG}{b:DGs}{l:List D}{K:Sg->Prop}:OK1 (jP g b (d::l) σ) K=OK1 (g d σ) λa=>OK1 (b l a) K:=by
 show OK1 ((g d σ).bind λa=>b l a) K=_;rw[aM]
theorem kQ{K:Sg->Prop}:OK1 (aO7 [] σ) K=K σ:=rfl
theorem rQ{K:D×D->Prop}:OK1 (match [d,e]with | [d,e]=>some (d,e) | _=>none) K=K (d,e):=rfl
end
def CK(run:Run)(as:List Sl)(K:Res->List Sl->Prop):Prop:=OK1 (run as) λy=>K y.1 y.2
def AK(σ:Sg)(rs:List Res)(K:List Sl->Prop):Prop:=OK1 (wH σ rs) K
def A1(σ:Sg)(r:Res)(K:Sl->Prop):Prop:=OK1 (aP4 σ r) K
def HK:Nat->Sg->(Sl->Prop)->Prop
 | 0,some ⟨m,d⟩::_,K=>K ⟨if m.mt=true then .par else m,d⟩
 | n+1,_::r,K=>HK n r K
 | _,_,_=>False
theorem dE3:∀ (n:Nat) (r:Sg) (K:Sl->Prop),HK n r K=A1 r (.slot n) K
 | 0,[],_=>rfl
 | 0,none::_,_=>rfl
 | 0,some s::_,_=>rfl
 | n+1,[],_=>rfl
 | n+1,_::r,K=>by
   show HK n r K=_;rw[dE3 n r K];show OK1 (match r[n]? with | some (some s)=>some (⟨if s.m.mt=true then .par else s.m,s.d⟩:Sl) | _=>none) K=OK1 (match (_::r)[n+1]? with | some (some s)=>some (⟨if s.m.mt=true then .par else s.m,s.d⟩:Sl) | _=>none) K;rw[a9c]
def UK:Nat->Sg->D->(Sg->Prop)->Prop
 | 0,some ⟨.own,_⟩::r,d,K=>K (some ⟨.own,d⟩::r)
 | 0,some ⟨.par,_⟩::r,d,K=>K (some ⟨.par,d⟩::r)
 | 0,o::r,_,K=>K (o::r)
 | n+1,o::r,d,K=>UK n r d λa=>K (o::a)
 | _,[],_,K=>K []
noncomputable def uS(σ:Sg)(i:Nat)(d:D):Sg:=match σ[i]? with
 | some (some s)=>if s.m.mt=true then σ.set i (some ⟨s.m,d⟩)else σ
 | _=>σ
theorem dE4:∀ (n:Nat) (r:Sg) (d:D) (K:Sg->Prop),UK n r d K=K (uS r n d)
 | 0,[],_,_=>rfl
 | n+1,[],_,_=>rfl
 | 0,none::r,d,K=>rfl
 | 0,some ⟨.val,_⟩::r,d,K=>rfl
 | 0,some ⟨.own,_⟩::r,d,K=>rfl
 | 0,some ⟨.par,_⟩::r,d,K=>rfl
 | 0,some ⟨.lent,_⟩::r,d,K=>rfl
 | n+1,o::r,d,K=>by
   show UK n r d (λa=>K (o::a))=_;rw[dE4 n r d _];unfold uS;rw[a9c];cases r[n]? with
   | none=>rfl
   | some x=>cases x with
     | none=>rfl
     | some s=>
       dsimp only;by_cases h:s.m.mt=true;rw[a3s h,a3s h];rfl;rw[a3u h,a3u h]
noncomputable def sB:List Res->List Sl->Sg->Sg
 | .slot i::rs,a::as,σ=>sB rs as (uS σ i a.d)
 | _::rs,_::as,σ=>sB rs as σ
 | _,_,σ=>σ
def dE5{σ:Sg}{i j:Nat}{d:D}:(uS σ i d)[j]? = (σ[j]?).map λo=>if j=i then(match o with | some s=>some (if s.m.mt=true then⟨s.m,d⟩else s) | none=>none)else o:=by
 unfold uS;by_cases hj:j=i
 ·subst hj;cases h:σ[j]? with
  | none=>dsimp only;rw[h];rfl
  | some o=>
    cases o with
    | none=>dsimp only;rw[h];simp
    | some s=>
      dsimp only;by_cases hm:s.m.mt=true;rw[a3s hm,a6b (a1a.mp h).1];simp[hm];rw[a3u hm,h];simp[hm]
 ·have:∀ x:Option Sl,(σ.set i x)[j]? = σ[j]?:=λx=>a4a (a5d hj);split;split;rw[this];cases σ[j]? <;> simp[hj];cases σ[j]? <;> simp[hj];cases σ[j]? <;> simp[hj]
theorem aW2:∀ (rs:List Res) (as:List Sl) (σ:Sg) (j:Nat),cW rs=true->(sB rs as σ)[j]? = (σ[j]?).map (nO rs as j)
 | [],as,σ,j,_=>by cases as<;>(show σ[j]? = _;cases σ[j]? with | none=>rfl | some o=>cases o<;>simp[nO,jR])
 | r::rs,[],σ,j,_=>by cases r<;>(show σ[j]? = _;cases σ[j]? with | none=>rfl | some o=>cases o<;>simp[nO,jR])
 | .val d::rs,a::as,σ,j,h=>aW2 rs as σ j h
 | .own d::rs,a::as,σ,j,h=>aW2 rs as σ j h
 | .slot i::rs,a::as,σ,j,h=>by
   have h':cW rs=true/\aP5 i rs=false:=by
    unfold cW at h;rw[a1e]at h;exact⟨h.2,by simpa using h.1⟩
   show(sB rs as (uS σ i a.d))[j]? = _;rw[aW2 rs as _ j h'.1,dE5];cases σ[j]? with
   | none=>rfl
   | some o=>
     cases o with
     | none=>by_cases hj:j=i<;>simp[nO,hj]
     | some s=>
       by_cases hj:j=i
       ·subst hj;have c:jR j rs as=none:=by
         cases q:jR j rs as with
         | none=>rfl
         | some b=>
           obtain⟨k,e,_⟩:=fZ q;rw[vI e]at h';cases h'.2
        simp[nO,c,jR]
       ·have:¬ i=j:=λz=>hj z.symm;simp[nO,hj,jR,this]
def dE6{rs:List Res}{as:List Sl}{σ:Sg}(h:cW rs=true):iY rs as 0 σ=sB rs as σ:=by
 apply a5i;intro j;rw[jS,aW2 rs as σ j h,a8f]
def BK(rs:List Res)(as:List Sl)(σ:Sg)(K:Sg->Prop):Prop:=K (sB rs as σ)
def cO3(as:List Sl)(K:Res->List Sl->Prop):Out->Prop
 | .nx σ=>K (.val .non) (wG as σ)
 | .rt r σ=>OK1 (cU2 σ r) λa=>K a (wG as σ)
 | _=>False
section
variable{σ:Sg}{Q:Res->Sg->Prop}{ra:DA}{d:D}{i n:Nat}{r:Sg}{o:Option Sl}
theorem kR{run:Run}:RE (aX n run ra) σ Q=RA ra σ λrs a=>AK a rs λas=>(as.length=n/\cW rs=true)/\CK run as λy as'=>BK rs as' a λb=>Q y b:=by
 unfold RE RA AK CK aX;simp only[aM,bJ,bI];congr 1;funext x;congr 1;funext as;apply propext;constructor;rintro⟨h,q⟩;refine⟨h,cN q λy q=>?_⟩;unfold BK;rw[← dE6 h.2];exact q;rintro⟨h,q⟩;refine⟨h,cN q λy q=>?_⟩;unfold BK at q;rw[← dE6 h.2]at q;exact q
theorem rR{as:List Sl}{K:Sg->Prop}:BK [] as σ K=K σ:=by cases as<;>rfl
theorem rS{rs:List Res}{a:Sl}{as:List Sl}{K:Sg->Prop}:BK (.val d::rs) (a::as) σ K=BK rs as σ K:=rfl
theorem rT{rs:List Res}{a:Sl}{as:List Sl}{K:Sg->Prop}:BK (.own d::rs) (a::as) σ K=BK rs as σ K:=rfl
theorem rU{rs:List Res}{m:Md}{as:List Sl}{K:Sg->Prop}:BK (.slot i::rs) (⟨m,d⟩::as) σ K=UK i σ d λσ'=>BK rs as σ' K:=by
 rw[dE4];rfl
theorem rV{e:D}{K:Sg->Prop}:UK 0 (some ⟨.own,e⟩::r) d K=K (some ⟨.own,d⟩::r):=rfl
theorem rW{e:D}{K:Sg->Prop}:UK 0 (some ⟨.par,e⟩::r) d K=K (some ⟨.par,d⟩::r):=rfl
theorem rX{e:D}{K:Sg->Prop}:UK 0 (some ⟨.val,e⟩::r) d K=K (some ⟨.val,e⟩::r):=rfl
theorem rY{e:D}{K:Sg->Prop}:UK 0 (some ⟨.lent,e⟩::r) d K=K (some ⟨.lent,e⟩::r):=rfl
theorem rZ{K:Sg->Prop}:UK (n+1) (o::r) d K=UK n r d λa=>K (o::a):=rfl
def cQ{len:Nat}{b:DS}{as:List Sl}{K:Res->List Sl->Prop}:CK (pK len b) as K=RS b (ini len as) (cO3 as K):=by
 unfold CK RS pK;rw[aM];congr 1;funext o;cases o with
 | rt x s=>show OK1 ((cU2 s x).bind _) _=OK1 (cU2 s x) _;rw[aM];rfl
 | _=>rfl
def FSK:Nat->Sg->(Res->Prop)->Prop
 | 0,some ⟨.own,d⟩::_,K=>K (.own d)
 | 0,some ⟨.val,d⟩::_,K=>K (.val d)
 | n+1,_::r,K=>FSK n r K
 | _,_,_=>False
theorem cE0:∀ (n:Nat) (r:Sg) (K:Res->Prop),FSK n r K=OK1 (cU2 r (.slot n)) K
 | 0,[],_=>rfl
 | 0,none::_,_=>rfl
 | 0,some ⟨.val,_⟩::r,K=>rfl
 | 0,some ⟨.own,_⟩::r,K=>rfl
 | 0,some ⟨.par,_⟩::r,K=>rfl
 | 0,some ⟨.lent,_⟩::r,K=>rfl
 | n+1,[],_=>rfl
 | n+1,o::r,K=>by
   show FSK n r K=_;rw[cE0 n r K];show OK1 (match r[n]? with | some (some s)=>if s.m=.own then some (Res.own s.d)else if s.m=.val then some (.val s.d)else none | _=>none) K=OK1 (match (o::r)[n+1]? with | some (some s)=>if s.m=.own then some (Res.own s.d)else if s.m=.val then some (.val s.d)else none | _=>none) K;rw[a9c]
section
variable{as:List Sl}{K:Res->List Sl->Prop}{KR:Res->Prop}
theorem kS:cO3 as K (.nx σ)=K (.val .non) (wG as σ):=rfl
theorem kU:cO3 as K (.rt (.val d) σ)=K (.val d) (wG as σ):=rfl
theorem kW:cO3 as K (.rt (.own d) σ)=K (.own d) (wG as σ):=rfl
theorem kX:cO3 as K (.rt (.slot i) σ)=FSK i σ λr=>K r (wG as σ):=(cE0 i σ _).symm
theorem sA:FSK 0 (some ⟨.own,d⟩::r) KR=KR (.own d):=rfl
theorem sC:FSK 0 (some ⟨.val,d⟩::r) KR=KR (.val d):=rfl
theorem sE:FSK (n+1) (o::r) KR=FSK n r KR:=rfl
theorem kY:wG [] σ=[]:=rfl
theorem kZ{s:Sl}:wG (⟨.val,d⟩::as) (some s::r)=⟨.val,d⟩::wG as r:=rfl
theorem lA{s:Sl}:wG (⟨.par,d⟩::as) (some s::r)=s::wG as r:=rfl
theorem lB{s:Sl}:wG (⟨.lent,d⟩::as) (some s::r)=s::wG as r:=rfl
end
theorem sF{K:List Sl->Prop}:AK σ [] K=K []:=rfl
theorem sG{x:Res}{xs:List Res}{K:List Sl->Prop}:AK σ (x::xs) K=A1 σ x λa=>AK σ xs λas=>K (a::as):=by
 show OK1 ((aP4 σ x).bind λa=>(wH σ xs).bind λas=>some (a::as)) K=_;unfold AK A1;simp only[aM,bI]
theorem sH{K:Sl->Prop}:A1 σ (.val d) K=K ⟨.val,d⟩:=rfl
theorem sI{K:Sl->Prop}:A1 σ (.own d) K=K ⟨.par,d⟩:=rfl
theorem sJ{K:Sl->Prop}:A1 σ (.slot i) K=HK i σ K:=(dE3 i σ K).symm
theorem sK{K:Sl->Prop}:HK 0 (some ⟨.own,d⟩::r) K=K ⟨.par,d⟩:=rfl
theorem sM{K:Sl->Prop}:HK 0 (some ⟨.par,d⟩::r) K=K ⟨.par,d⟩:=rfl
theorem sN{K:Sl->Prop}:HK 0 (some ⟨.lent,d⟩::r) K=K ⟨.lent,d⟩:=rfl
theorem sO{K:Sl->Prop}:HK (n+1) (o::r) K=HK n r K:=rfl
end
section
variable{σ:Sg}{QS:Out->Prop}{Q:Res->Sg->Prop}{ri:DI}{g:DG}{b:DS}{a:DE}{ra:DA}
def dE7:RS (aP2 ri g b) σ QS=RI ri σ λitems l a=>OK1 (bK1 g b items (lendO l a)) λo=>QS (yS l a o):=by
 unfold RS RI aP2;simp only[aM,bI]
theorem aH9{K:List D->Option Nat->Sg->Prop}:RI (dIt a) σ K=RE a σ λx b=>RD b x λd=>OK1 (yR d) λl=>K l (match x with | .slot i=>some i | _=>none) b:=by
 unfold RI RE RD dIt;simp only[aM,bI];try rfl
noncomputable def dS6:List D->Option (List D)
 | [.int j]=>if -(2 ^ 62)<=j/\j < 2 ^ 62 then some (bE4 0 j.toNat)else none
 | [.int i,.int j]=>if(-(2 ^ 62)<=i/\i < 2 ^ 62) /\ -(2 ^ 62)<=j/\j < 2 ^ 62 then some (bE4 i (j-i).toNat)else none
 | _=>none
theorem sP{K:List D->Option Nat->Sg->Prop}:RI (cT9 ra) σ K=RA ra σ λxs a=>RDs a xs λds=>OK1 (dS6 ds) λl=>K l none a:=by
 unfold RI RA RDs cT9;simp only[aM];congr 1;funext x;congr 1;funext ds
 match ds with
 | []=>rfl
 | [.int j]=>show OK1 (if -(2 ^ 62)<=j/\j < 2 ^ 62 then _ else none) _=OK1 (if -(2 ^ 62)<=j/\j < 2 ^ 62 then _ else none) _;rw[bJ,bJ];rfl
 | [.int i,.int j]=>show OK1 (if(-(2 ^ 62)<=i/\i < 2 ^ 62) /\ -(2 ^ 62)<=j/\j < 2 ^ 62 then _ else none) _=OK1 (if(-(2 ^ 62)<=i/\i < 2 ^ 62) /\ -(2 ^ 62)<=j/\j < 2 ^ 62 then _ else none) _;rw[bJ,bJ];rfl
 | [.non]=>rfl
 | [.bl _]=>rfl
 | [.str _]=>rfl
 | [.tup _]=>rfl
 | [.lst _]=>rfl
 | [.dic _ _]=>rfl
 | .non::_::_=>rfl
 | .bl _::_::_=>rfl
 | .str _::_::_=>rfl
 | .tup _::_::_=>rfl
 | .lst _::_::_=>rfl
 | .dic _ _::_::_=>rfl
 | .int _::.non::_=>rfl
 | .int _::.bl _::_=>rfl
 | .int _::.str _::_=>rfl
 | .int _::.tup _::_=>rfl
 | .int _::.lst _::_=>rfl
 | .int _::.dic _ _::_=>rfl
 | .int _::.int _::_::_=>rfl
theorem lC{j:Int}{K:List D->Prop}:OK1 (dS6 [.int j]) K=((-(2 ^ 62)<=j/\j < 2 ^ 62)/\K (bE4 0 j.toNat)):=by
 show OK1 (if -(2 ^ 62)<=j/\j < 2 ^ 62 then some (bE4 0 j.toNat)else none) K=_;rw[bJ];rfl
def cO4{items:List D}(P:Nat->Sg->Prop)(h0:P 0 σ)(hs:∀ i d σ,items[i]? = some d->P i σ->OK1 (g d σ) λc=>RS b c λo=>∃ a,(o=.nx a\/o=.ct a)/\P (i+1) a){K:Out->Prop}(k:∀ σ',P items.length σ'->K (.nx σ')):OK1 (bK1 g b items σ) K:=by
 induction items generalizing P σ with
 | nil=>exact k σ h0
 | cons d r f=>
   show OK1 ((g d σ).bind _) K;rw[aM];refine cN (hs 0 d σ rfl h0) λc h=>?_;rw[aM];refine cN h λo j=>?_;obtain⟨a,l,m⟩:=j;have go:OK1 (bK1 g b r a) K:=f (λi=>P (i+1)) m (λi d σ e p=>hs (i+1) d σ (by simpa using e) p) λσ' p=>k σ' (by simpa using p);rcases l with rfl | rfl;exact go;exact go
def cO5{items:List D}(P:Nat->Sg->Prop){K:Out->Prop}(h0:P 0 σ)(hs:∀ i d σ,items[i]? = some d->P i σ->OK1 (g d σ) λc=>RS b c λo=>(∃ a,(o=.nx a\/o=.ct a)/\P (i+1) a)\/(∃ x a,o=.rt x a/\K (.rt x a))\/(∃ a,o=.bk a/\K (.nx a)))(k:∀ σ',P items.length σ'->K (.nx σ')):OK1 (bK1 g b items σ) K:=by
 induction items generalizing P σ with
 | nil=>exact k σ h0
 | cons d r f=>
   show OK1 ((g d σ).bind _) K;rw[aM];refine cN (hs 0 d σ rfl h0) λc h=>?_;rw[aM];refine cN h λo j=>?_;rcases j with⟨a,l,m⟩ | ⟨x,a,rfl,q⟩ | ⟨a,rfl,q⟩;have go:OK1 (bK1 g b r a) K:=f (λi=>P (i+1)) m (λi d σ e p=>hs (i+1) d σ (by simpa using e) p) λσ' p=>k σ' (by simpa using p);rcases l with rfl | rfl;exact go;exact go;exact q;exact q
theorem yU{c:DT}{K:Out->Prop}(P:Nat->Sg->Prop)(hs:∀ m σ,P m σ->RT c σ λt d=>if t=true then RS b d λo=>(∃ a m',(o=.nx a\/o=.ct a)/\m' < m/\P m' a)\/(∃ x a,o=.rt x a/\K (.rt x a))\/(∃ a,o=.bk a/\K (.nx a))else K (.nx d)) :
  ∀ (n m:Nat) (σ:Sg),m < n->P m σ->OK1 (pI c b n σ) K
 | 0,m,σ,h,_=>by lia
 | n+1,m,σ,h,p=>by
   show OK1 ((c σ).bind _) K;rw[aM];refine cN (hs m σ p) λx e=>?_;dsimp only at e;by_cases f:x.1=true
   ·rw[a3s f]at e ⊢;rw[aM];refine cN e λo g=>?_;rcases g with⟨a,m',i,hm,j⟩ | ⟨x,a,rfl,q⟩ | ⟨a,rfl,q⟩;have go:=yU P hs n m' a (by lia) j;rcases i with rfl | rfl;exact go;exact go;exact q;exact q
   ·rw[a3u f]at e ⊢;exact e
def bL8{c:DT}(P:Nat->Sg->Prop)(m:Nat)(hm:m < 1000000)(h0:P m σ)(hs:∀ m σ,P m σ->RT c σ λt d=>if t=true then RS b d λo=>(∃ a m',(o=.nx a\/o=.ct a)/\m' < m/\P m' a)\/(∃ x a,o=.rt x a/\QS (.rt x a))\/(∃ a,o=.bk a/\QS (.nx a))else QS (.nx d)):OK1 (pI c b cU0 σ) QS:=
 yU P hs cU0 m σ (a4c hm cM9) h0
def cO6{ow:List Nat}{t:DT}{e:DE}:RE (fS ow ri g t e) σ Q=RI ri σ λitems l a=>items.length<=sizeLine/\OK1 (aP3 ow g t e items (bS ow (lendO l a))) λy=>Q (.own (.lst y.1)) (yQ l a (mV ow (lendO l a) y.2)):=by
 unfold RE RI fS;simp only[aM,bJ,bI]
theorem wK{ow:List Nat}{t:DT}{e:DE}{K:List D×Sg->Prop}:∀ (items:List D) (a:Sg) (P:Nat->List D->Sg->Prop),P 0 [] a ->
  (∀ i d acc a,items[i]? = some d->P i acc a->OK1 (g d a) λh=>RT t h λb j=>if b=true then RE e j λr m=>∃ v,r=.val v/\P (i+1) (acc++[v]) (bS ow m)else P (i+1) acc (bS ow j)) ->
  (∀ acc a,P items.length acc a->K (acc,a))->OK1 (aP3 ow g t e items a) K
 | [],a,P,h0,_,k=>k [] a h0
 | d::r,a,P,h0,hs,k=>by
   show OK1 ((g d a).bind _) K;rw[aM];refine cN (hs 0 d [] a rfl h0) λh q=>?_;rw[aM];refine cN q λx l=>?_;dsimp only at l;by_cases o:x.1=true;rw[a3s o]at l ⊢;rw[aM];refine cN l λy s=>?_;obtain⟨v,u,p⟩:=s;rw[u];dsimp only;rw[aM];exact wK r _ (λi acc a=>P (i+1) (v::acc) a) p (λi d' acc c n f=>by simpa using hs (i+1) d' (v::acc) c (by simpa using n) f) λacc c f=>k (v::acc) c (by simpa using f);rw[a3u o]at l ⊢;exact wK r _ (λi acc a=>P (i+1) acc a) l (λi d' acc c n f=>hs (i+1) d' acc c (by simpa using n) f) λacc c f=>k acc c (by simpa using f)
end
section
variable{i j:Int}{l m:List D}{K:Res->Prop}{d e:D}{σ:Sg}{Q:Res->Sg->Prop}
theorem sQ:OK1 (mQ (.int i) (.int j)) K=K (.val (.int (i+j))):=rfl
theorem lE:OK1 (mQ (.lst l) (.lst m)) K=(l.length+m.length<=sizeLine/\K (.own (.lst (l++m)))):=by
 show OK1 (if l.length+m.length<=sizeLine then some (Res.own (.lst (l++m)))else none) K=_;rw[bJ];rfl
theorem lF:OK1 (mQ (.tup l) (.tup m)) K=(l.length+m.length<=sizeLine/\K (.val (.tup (l++m)))):=by
 show OK1 (if l.length+m.length<=sizeLine then some (Res.val (.tup (l++m)))else none) K=_;rw[bJ];rfl
theorem lG{x y:Str}:OK1 (mQ (.str x) (.str y)) K=(x.length+y.length<=sizeLine/\K (.val (.str (x++y)))):=by
 show OK1 (if x.length+y.length<=sizeLine then some (Res.val (.str (x++y)))else none) K=_;rw[bJ];rfl
theorem sR:OK1 (dW9 (.int i) (.int j)) K=K (.val (.int (i-j))):=rfl
theorem sS:OK1 (aN2 (.int i) (.int j)) K=(xY i j/\K (.val (.int (i*j)))):=@bJ _ (xY i j) (Classical.propDecidable _) _ _
theorem sV:OK1 (dL7 (.int i) (.int j)) K=(bC1 i j/\K (.val (.int (i / j)))):=@bJ _ (bC1 i j) (Classical.propDecidable _) _ _
theorem sW:OK1 (bE5 (.int i) (.int j)) K=(0 < j/\K (.val (.int (i % j)))):=@bJ _ (0 < j) (Classical.propDecidable _) _ _
theorem sZ:OK1 (dP6 (.int i) (.int j)) K=(cT5 i j/\K (.val (.int (i ^ j.toNat)))):=@bJ _ (cT5 i j) (Classical.propDecidable _) _ _
theorem aI0:OK1 (ltI (.int i) (.int j)) K=K (.val (.bl (decide (i < j)))):=rfl
theorem aI1:OK1 (leI (.int i) (.int j)) K=K (.val (.bl (decide (i<=j)))):=rfl
theorem aI2:OK1 (gtI (.int i) (.int j)) K=K (.val (.bl (decide (j < i)))):=rfl
theorem aI3:OK1 (geI (.int i) (.int j)) K=K (.val (.bl (decide (j<=i)))):=rfl
theorem tE:OK1 (dX0 (.int i)) K=K (.val (.int (-i))):=rfl
theorem tF:OK1 (dX3 (.int i)) K=K (.val (.int (Builtin.Int.intBits i))):=rfl
theorem tG:OK1 (ixD (.lst l) (.int i)) K=OK1 (atI l i) λd=>K (.val d):=by
 show OK1 ((atI l i).map Res.val) K=_;rw[aH4]
theorem tH:OK1 (ixD (.tup l) (.int i)) K=OK1 (atI l i) λd=>K (.val d):=by
 show OK1 ((atI l i).map Res.val) K=_;rw[aH4]
theorem lH:OK1 (vJ [.lst l]) K=K (.val (.int l.length)):=rfl
theorem lI:OK1 (vJ [.tup l]) K=K (.val (.int l.length)):=rfl
theorem tJ:OK1 (cU4 [.int i]) K=K (.val (.int i)):=rfl
theorem lJ{b:Bool}:OK1 (cU4 [.bl b]) K=K (.val (.int (if b then 1 else 0))):=rfl
theorem tK:OK1 (bX0 [.int i,.int j]) K=K (.val (.int (if j > i then j else i))):=rfl
theorem tL:OK1 (dP7 [.int i,.int j]) K=K (.val (.int (if j < i then j else i))):=rfl
theorem lK:OK1 (bL1 [.lst l]) K=K (.own (.lst l)):=rfl
theorem iB:OK1 (bL1 [.tup l]) K=K (.own (.lst l)):=rfl
theorem tM:OK1 (aH0 [.lst l]) K=K (.val (.tup l)):=rfl
theorem lL:OK1 (aH0 [.tup l]) K=K (.val (.tup l)):=rfl
theorem aI4:OK1 (eqD false (.int i) (.int j)) K=K (.val (.bl (decide (i=j)))):=by
 have h:xS (.int i) (.int j)=decide (i=j):=by
  show(i==j)=_;rw[a3g];simp
 show OK1 (if cV (.int i)=true/\cV (.int j)=true then some (Res.val (.bl (if false then !xS (.int i) (.int j)else xS (.int i) (.int j))))else none) K=_;rw[a3s ⟨rfl,rfl⟩,h];rfl
theorem tN{c:String}:OK1 (aH1 c (.int i)) K=K (.val (.bl (wB "int" c))):=rfl
theorem tO{c:String}{b:Bool}:OK1 (aH1 c (.bl b)) K=K (.val (.bl (wB "bool" c))):=rfl
theorem tP{k:Int}{K:D×D->Prop}:OK1 ((dL6 k e (.lst l)).map λb=>(b,D.non)) K=OK1 (ixN l.length k) λj=>K (.lst (l.set j e),.non):=by
 show OK1 (((ixN l.length k).map λj=>D.lst (l.set j e)).map λb=>(b,D.non)) K=_;rw[aH4,aH4]
theorem tQ{K:D×D->Prop}:OK1 (cN5 (.lst l) [e]) K=(l.length < sizeLine/\K (.lst (l++[e]),.non)):=by
 show OK1 (if l.length < sizeLine then some (D.lst (l++[e]),D.non)else none) K=_;rw[bJ];rfl
theorem tR{bs:List Bool}:OK1 (cU3 [.lst (bs.map D.bl)]) K=K (.val (.bl (bs.all id))):=by
 show OK1 ((bC0 (bs.map D.bl)).map λbs=>Res.val (.bl (bs.all id))) K=_;rw[bK8];rfl
def SK(d:D)(lo hi:Option Int)(K:Res->Prop):Prop:=OK1 (slD d lo hi) K
theorem aI5{a:DE}{x y:DO}:RE (dSl a x y) σ Q=RE a σ λr c=>RO x c λlo e=>RO y e λhi b=>RD b r λd=>SK d lo hi λv=>Q v b:=by
 unfold RE RO RD SK dSl;simp only[aM,bI]
theorem tS{K:Option Int->Sg->Prop}:RO bK7 σ K=K none σ:=rfl
theorem cE1{a:DE}{K:Option Int->Sg->Prop}:RO (dP a) σ K=RE a σ λx b=>RD b x λd=>OK1 (match d with | .int k=>some k | _=>none) λk=>K (some k) b:=by
 unfold RO RE RD dP;simp only[aM];congr 1;funext x;congr 1;funext d;cases d<;>rfl
theorem tT{lo hi:Option Int}:SK (.lst l) lo hi K=K (.own (.lst (bS0 l lo hi))):=rfl
theorem tU{lo hi:Option Int}:SK (.tup l) lo hi K=K (.val (.tup (bS0 l lo hi))):=rfl
theorem tV{x:D}{K:D->Prop}:OK1 (atI (x::l) 0) K=K x:=by
 show OK1 ((ixN (x::l).length 0).bind λj=>(x::l)[j]?) K=_;unfold ixN;rw[a3s (Int.le_refl 0),a3s (by first | (simp;done) | (simp;lia))];rfl
theorem tW{x y:D}{K:D->Prop}:OK1 (atI (x::y::l) 1) K=K y:=by
 show OK1 ((ixN (x::y::l).length 1).bind λj=>(x::y::l)[j]?) K=_;unfold ixN;rw[a3s (by decide),a3s (by first | (simp;done) | (simp;lia))];rfl
theorem tX{x:D}{K:Nat->Prop}:OK1 (ixN (x::l).length 0) K=K 0:=by
 unfold ixN;rw[a3s (Int.le_refl 0),a3s (by first | (simp;done) | (simp;lia))];rfl
theorem tY{x y:D}{K:Nat->Prop}:OK1 (ixN (x::y::l).length 1) K=K 1:=by
 unfold ixN;rw[a3s (by decide),a3s (by first | (simp;done) | (simp;lia))];rfl
theorem tZ{i j:Int}(a:-(2 ^ 64) < j)(b:j < 2 ^ 64):xY i j=True:=eq_true (.inl (.inr ⟨a,b⟩))
theorem uA{i j:Int}(a:-(2 ^ 64) < i)(b:i < 2 ^ 64):xY i j=True:=eq_true (.inl (.inl ⟨a,b⟩))
theorem uB{i:Int}{p:Prop}[Decidable p]:xY i (if p then 1 else 0)=True:=eq_true (.inl (.inr (by split<;>decide)))
theorem aB6{i j:Int}(a:0 < j)(b:j < 18446744073709551616):bC1 i j=True:=eq_true ⟨a,b⟩
theorem aI6{i j:Int}(a:0<=j)(b:j<=1000000)(c:-18446744073709551616 < i)(d:i < 18446744073709551616):cT5 i j=True:=eq_true ⟨a,b,by show i.natAbs < 18446744073709551616;lia⟩
theorem uC{σ:Sg}:lendO none σ=σ:=rfl
theorem aI7{σ:Sg}{o:Out}:yS none σ o=o:=by cases o<;>rfl
theorem uD{σ σ':Sg}:yQ none σ σ'=σ':=rfl
theorem uE:(tyD "list" (.lst l)=true)=True:=by simp[tyD]
end
noncomputable def aI8:List D->Option (List Str)
 | []=>some []
 | .str s::r=>(aI8 r).bind λl=>some (s::l)
 | _::_=>none
theorem aB7:∀ {l:List D} {zs:List Str},aI8 l=some zs->l=zs.map D.str
 | [],_,h=>by cases h;rfl
 | .str s::r,_,h=>by
   obtain⟨l,a,b⟩:=aC h;cases b;rw[aB7 a];rfl
 | .non::_,_,h=>by cases h
 | .int _::_,_,h=>by cases h
 | .bl _::_,_,h=>by cases h
 | .tup _::_,_,h=>by cases h
 | .lst _::_,_,h=>by cases h
 | .dic _ _::_,_,h=>by cases h
def aI9(zs:List Str):aI8 (zs.map D.str)=some zs:=by
 induction zs with
 | nil=>rfl
 | cons b r a=>show(aI8 (r.map D.str)).bind _=_;rw[a];rfl
noncomputable def bL9(sep:Str):F1:=λd=>match d with
 | .lst l=>(aI8 l).bind λys=>if(ys.map (·.length)).sum+ys.length*sep.length<=16777216 then some (.val (.str (Txt.join sep ys)))else none
 | _=>none
def cO7{X:Cx}{e:Expr}{sep:Str}{r:DE}(K:W.Frag)(h:∀ Γ,PE X e (tBM K "str" (bT6 K) (tC (.str sep)) (dTA Γ (aD r aR)))):GE X e (aG2 (bL9 sep) r):=.mk λΓ=>peW (h Γ) λσV H Q l=>by
 have m:dP3 (λx H Q=>bT6 K (.str sep) [x] H Q) (bL9 sep):=by
  intro H d x Q res n e k;unfold bL9 at e;split at e;obtain⟨ys,f,e⟩:=aC e;split at e;rename_i hs;cases e;obtain⟨p,xs,rfl,i,b⟩:=iO n;rw[aB7 f]at b;rw[b.strs_inv]at i;exact⟨sep,p,ys,rfl,rfl,fD i,hs,k _ H (.refl _) (.str _)⟩;cases e;cases e
 obtain⟨σ,ok,res,σ',e,k⟩:=l;obtain⟨⟨x,g⟩,f,e⟩:=aC e;obtain⟨o,q,e⟩:=aC e;obtain⟨r,s,e⟩:=aC e;cases e;refine⟨rfl,σ,ok,[x],g,?_,λvs u a b c _=>?_⟩;show((_:Option _).bind _)=_;rw[f];rfl;cases b with
 | cons b t=>
   cases t;refine m u o _ Q _ (b.vw a q) s λv H' sm j=>?_;exact k v H' (a.same sm) (j.res a) (c.trans (.same sm)) (j.frh.back c)
def cO8{sep:Str}{zs:List Str}{K:Res->Prop}:OK1 (bL9 sep (.lst (zs.map D.str))) K=((zs.map (·.length)).sum+zs.length*sep.length<=16777216/\K (.val (.str (Txt.join sep zs)))):=by
 show OK1 ((aI8 (zs.map D.str)).bind _) K=_;rw[aI9];show OK1 (if _ then _ else none) K=_;rw[bJ];rfl
def bX4{X:Cx}(K:W.Frag)(a:X.K=K):MtR X "str.join" (bT6 K):=by rw[← a];exact cI6
noncomputable def nv1(σ:Sg):Res->Option D
 | .own d=>some d
 | .slot i=>match σ[i]? with
   | some (some s)=>if s.m=.val then none else some s.d
   | _=>none
 | .val _=>none
noncomputable def nvs(σ:Sg):List Res->Option (List D)
 | []=>some []
 | r::rs=>(nv1 σ r).bind λd=>(nvs σ rs).bind λa=>some (d::a)
noncomputable def dX4:FN:=λa=>match a with
 | [.lst l]=>some (.own (.lst l.reverse))
 | _=>none
noncomputable def bS1(l m:List D):List D:=(l.zip m).map λp=>.tup [p.1,p.2]
noncomputable def dX5:FN:=λa=>match a with
 | [.lst l,.lst m]=>some (.val (.tup (bS1 l m)))
 | _=>none
section
variable{σ:Sg}{Q:Res->Sg->Prop}{ra:DA}
def NV(σ:Sg)(rs:List Res)(K:List D->Prop):Prop:=OK1 (nvs σ rs) K
def N1(σ:Sg)(r:Res)(K:D->Prop):Prop:=OK1 (nv1 σ r) K
theorem uF{K:List D->Prop}:NV σ [] K=K []:=rfl
theorem uG{d:D}{K:D->Prop}:N1 σ (.own d) K=K d:=rfl
def GN:Nat->Sg->(D->Prop)->Prop
 | 0,some ⟨m,d⟩::_,K=>if m=.val then False else K d
 | n+1,_::r,K=>GN n r K
 | _,_,_=>False
theorem uH{d:D}{r:Sg}{K:D->Prop}:GN 0 (some ⟨.own,d⟩::r) K=K d:=rfl
theorem uI{d:D}{r:Sg}{K:D->Prop}:GN 0 (some ⟨.par,d⟩::r) K=K d:=rfl
theorem uJ{d:D}{r:Sg}{K:D->Prop}:GN 0 (some ⟨.lent,d⟩::r) K=K d:=rfl
theorem uK{n:Nat}{o:Option Sl}{r:Sg}{K:D->Prop}:GN (n+1) (o::r) K=GN n r K:=rfl
theorem uL{l:List D}{K:Res->Prop}:OK1 (dX4 [.lst l]) K=K (.own (.lst l.reverse)):=rfl
theorem uM{l m:List D}{K:Res->Prop}:OK1 (dX5 [.lst l,.lst m]) K=K (.val (.tup (bS1 l m))):=rfl
end
end Dv
namespace PySem
section
variable{prog:Program}{w:World}{A:Around}{E:Value->Shared->Prop}{s:Shared}
end
end PySem
namespace L2
open PySem PyProof.Rows
section
variable{X:Cx}{pins:List (Addr×Obj)}{σ:St}{H:Hp}{s:Shared}{h':Heap}{ch:List Addr}
def Inv.spun{t':Nat}{a:Addr}{o:HO}(I:Inv X pins σ H s)(g:∀ b∈ch,bF3 X pins H b)(k:∀ b u,b∉ch->s.heap.get? b=some u->h'.get? b=some u)(i:s.heap.objs.size<=a)
  (h:dJ X.prog X.w (upd H a o) h' a o):Inv X pins σ (upd H a o) {s with heap:=h',toks:=t'}:=by
 have ha:H a=none:=I.hok.fresh i;have f:∀ b u,H b=some u->b∉ch:=λb u e z=>by rw[(g b z).1]at e;cases e
 refine I.step (g':=s.gens) (d':=s.drawn) (ch:=ch) (λb hb=>?_) (λb u _ _ d e _=>k b u d e) (λb u _ _ d e _=>⟨u.slots,k b u d e⟩) (λb u _ e n=>?_) (λb u d e=>⟨u,k b u d e⟩)
  (λb xs e=>by rw[aG (aL e ha)];exact e) (λb u v e=>by rw[aG (aL e ha)];exact e) (λb ps e=>⟨#[],by rw[aG (aL e ha),e];simp⟩) (λm hm=>?_) (λb u e=>?_) I.bare
 ·obtain⟨y,j,A,l,p,t⟩:=g b hb;exact⟨l,j,p,t⟩
 ·rw[aG (a0e (a4c (a8b e) i))];exact n
 ·obtain⟨u,es,ep,x,r⟩:=hm;exact⟨u,es,ep,k _ u (λz=>(g _ z).2.1 rfl) x,r⟩
 ·by_cases hb:b=a;subst hb;rw[aJ]at e;cases e;exact h;rw[aG hb]at e;refine(I.hok b u e).stay (λc v d q=>k c v ?_ q) (λc q=>by rw[aG (aL q ha)];exact q) λc xs q=>by rw[aG (aL q ha)];exact q
  rcases d with z | z;rw[z];exact f b u e;exact f c _ z
def Inv.spun0{t':Nat}(I:Inv X pins σ H s)(f:∀ b∈ch,bF3 X pins H b)(k:∀ b u,b∉ch->s.heap.get? b=some u->h'.get? b=some u):Inv X pins σ H {s with heap:=h',toks:=t'}:=by
 have d:∀ b u,H b=some u->b∉ch:=λb u e z=>by rw[(f b z).1]at e;cases e
 refine I.step (g':=s.gens) (d':=s.drawn) (ch:=ch) (λb hb=>?_) (λb u _ _ a e _=>k b u a e) (λb u _ _ a e _=>⟨u.slots,k b u a e⟩) (λb u _ e n=>n) (λb u a e=>⟨u,k b u a e⟩)
  (λb xs e=>e) (λb u v e=>e) (λb ps e=>⟨#[],by rw[e];simp⟩) (λm hm=>?_) (λb u e=>?_) I.bare
 ·obtain⟨o,g,p,h,i,j⟩:=f b hb;exact⟨h,g,i,j⟩
 ·obtain⟨u,es,ep,l,r⟩:=hm;exact⟨u,es,ep,k _ u (λz=>(f _ z).2.1 rfl) l,r⟩
 ·refine(I.hok b u e).stay (λc v a q=>k c v ?_ q) (λc q=>q) λc xs q=>q;rcases a with z | z;rw[z];exact d b u e;exact d c _ z
end
end L2
namespace PySem
open AutoSeq1 (wpAny_loadPart')
section
variable{prog:Program}{w:World}{A:Around}{E:Value->Shared->Prop}{s:Shared}
end
end PySem
namespace L2
open PySem PyProof.Rows
section
variable{X:Cx}
end
end L2
namespace Dv
open PySem L2 Mr
section
variable{P:Program}{w:World}{K:W.Frag}{mg:Str->Option Value}{base:Heap}
end
section
variable{K:W.Frag}{H:Hp}{C fI:Addr}{E:XK}
end
section
variable{K:W.Frag}{H:Hp}{C fI:Addr}{E:XK}
end
end Dv
namespace Dv
open PySem L2
noncomputable def dX6:D->Option (List D)
 | .lst l=>some l
 | .tup l=>some l
 | _=>none
end Dv
namespace Mr
open PySem L2
noncomputable def top(i:Nat):Stmt:=PySem.Challenge.pw_mostrows_k15_taken_apart_and_joined.main.body.getD i (.Pass ⟨0,0,0,0⟩)
noncomputable abbrev aJ0:Stmt:=top 13
noncomputable abbrev yV:Stmt:=top 14
noncomputable abbrev wL:Stmt:=top 15
noncomputable abbrev yW:Stmt:=top 17
noncomputable abbrev wM:Stmt:=top 18
noncomputable abbrev wN:Stmt:=top 16
noncomputable abbrev yX:Stmt:=top 23
noncomputable abbrev yZ:Stmt:=top 26
noncomputable abbrev aW3:Stmt:=top 21
noncomputable abbrev uN:Stmt:=top 24
noncomputable abbrev wO:Stmt:=top 2
noncomputable abbrev zA:Stmt:=top 1
noncomputable abbrev aW4:Stmt:=top 3
noncomputable abbrev dE8:Stmt:=top 4
noncomputable abbrev bM0:Stmt:=top 10
noncomputable abbrev wP:Stmt:=top 19
noncomputable abbrev mR:Stmt:=top 20
noncomputable abbrev uO:Stmt:=top 22
noncomputable abbrev aJ1:Stmt:=top 25
noncomputable abbrev jH:Stmt:=top 5
noncomputable abbrev aJ2:Stmt:=top 6
noncomputable abbrev aW5:Stmt:=top 7
noncomputable abbrev uP:Stmt:=top 8
noncomputable abbrev zB:Stmt:=top 11
noncomputable abbrev dE9:Stmt:=top 27
structure Adr where
 a2B:Addr
 a1v:FuncData
 a0C:Addr
 a0q:FuncData
 a0U:Addr
 a0x:FuncData
 a2l:Addr
 a1l:FuncData
 a1O:Addr
 a0R:FuncData
 a1N:Addr
 a0P:FuncData
 a1Z:Addr
 a0X:FuncData
 a2k:Addr
 a1m:FuncData
 a2u:Addr
 a0W:FuncData
 a1E:Addr
 a0I:FuncData
 a0p:Addr
 a0w:FuncData
 a0v:Addr
 a0L:FuncData
 picked:Addr
 a0V:FuncData
 cut:Addr
 a2H:FuncData
 apart:Addr
 a1P:FuncData
 a1S:Addr
 a0O:FuncData
 a0Q:Addr
 a0z:FuncData
 a1B:Addr
 a0H:FuncData
 a2z:Addr
 a1w:FuncData
 a0m:Addr
 a0u:FuncData
 grouped:Addr
 a1A:FuncData
 joined:Addr
 a1T:FuncData
 a0o:Addr
 a0J:FuncData
 together:Addr
 a0Y:FuncData
 law:Addr
 a2X:FuncData
structure Txt(K:W.Frag)(mg:Str->Option Value)(a:Adr):Prop where
 a2E:mg "_law_box"=some (.ref a.a2B)
 a1M:Fun K "_law_box" "_law_box" aJ0 a.a2B a.a1v
 a0n:mg "_law_take"=some (.ref a.a0C)
 a0l:Fun K "_law_take" "_law_take" yV a.a0C a.a0q
 a2o:mg "_law_order"=some (.ref a.a0U)
 a0M:Fun K "_law_order" "_law_order" wL a.a0U a.a0x
 a2O:mg "_law_rows"=some (.ref a.a2l)
 a1U:Fun K "_law_rows" "_law_rows" yW a.a2l a.a1l
 a2I:mg "_law_table"=some (.ref a.a1O)
 a1G:Fun K "_law_table" "_law_table" wM a.a1O a.a0R
 a2M:mg "_law_names"=some (.ref a.a1N)
 a1K:Fun K "_law_names" "_law_names" wN a.a1N a.a0P
 a2P:mg "_law_some"=some (.ref a.a1Z)
 a1X:Fun K "_law_some" "_law_some" yX a.a1Z a.a0X
 a2y:mg "_law_fits"=some (.ref a.a2k)
 a1x:Fun K "_law_fits" "_law_fits" yZ a.a2k a.a1m
 a1R:mg "_law_at"=some (.ref a.a2u)
 a0Z:Fun K "_law_at" "_law_at" aW3 a.a2u a.a0W
 a1p:mg "_law_pieces"=some (.ref a.a1E)
 a0E:Fun K "_law_pieces" "_law_pieces" uN a.a1E a.a0I
 a1k:mg "places_of"=some (.ref a.a0p)
 a0A:Fun K "places_of" "places_of" wO a.a0p a.a0w
 a2w:mg "table_of"=some (.ref a.a0v)
 a1t:Fun K "table_of" "table_of" zA a.a0v a.a0L
 a2m:mg "picked"=some (.ref a.picked)
 a1u:Fun K "picked" "picked" aW4 a.picked a.a0V
 a2Z:mg "cut"=some (.ref a.cut)
 a2V:Fun K "cut" "cut" dE8 a.cut a.a2H
 a2K:mg "apart"=some (.ref a.apart)
 a2n:Fun K "apart" "apart" bM0 a.apart a.a1P
 a2J:mg "_law_whole"=some (.ref a.a1S)
 a1J:Fun K "_law_whole" "_law_whole" wP a.a1S a.a0O
 a2t:mg "_law_is_table"=some (.ref a.a0Q)
 a0S:Fun K "_law_is_table" "_law_is_table" mR a.a0Q a.a0z
 a2G:mg "_law_joined"=some (.ref a.a1B)
 a1o:Fun K "_law_joined" "_law_joined" uO a.a1B a.a0H
 a2R:mg "_law_due"=some (.ref a.a2z)
 a2q:Fun K "_law_due" "_law_due" aJ1 a.a2z a.a1w
 a1Y:mg "common_columns"=some (.ref a.a0m)
 a0F:Fun K "common_columns" "common_columns" jH a.a0m a.a0u
 a2T:mg "grouped"=some (.ref a.grouped)
 a2p:Fun K "grouped" "grouped" aJ2 a.grouped a.a1A
 a2W:mg "joined"=some (.ref a.joined)
 a2A:Fun K "joined" "joined" aW5 a.joined a.a1T
 a2F:mg "all_joined"=some (.ref a.a0o)
 a1s:Fun K "all_joined" "all_joined" uP a.a0o a.a0J
 a2x:mg "together"=some (.ref a.together)
 a1z:Fun K "together" "together" zB a.together a.a0Y
 a3n:mg "law"=some (.ref a.law)
 a3p:Fun K "law" "law" dE9 a.law a.a2X
 a3k:mg "all"=none
 a3l:mg "bool"=none
 a2Y:mg "int"=none
 a0t:mg "isinstance"=none
 a1n:mg "len"=none
 a2U:mg "list"=none
 a3m:mg "max"=none
 a2D:mg "range"=none
 a2S:mg "set"=none
 a1C:mg "sorted"=none
 a0s:mg "tuple"=none
 a3o:mg "zip"=none
def aW6:bootBuiltins "all"=some (.builtin "all"):=by decide +kernel
def bM1:bootBuiltins "bool"=some (.type "bool"):=by decide +kernel
def aB8:bootBuiltins "int"=some (.type "int"):=by decide +kernel
def bN:bootBuiltins "isinstance"=some (.builtin "isinstance"):=by decide +kernel
def bW:bootBuiltins "len"=some (.builtin "len"):=by decide +kernel
def wQ:bootBuiltins "list"=some (.type "list"):=by decide +kernel
def bX5:bootBuiltins "max"=some (.builtin "max"):=by decide +kernel
def nP:bootBuiltins "set"=some (.type "set"):=by decide +kernel
def eX:bootBuiltins "sorted"=some (.builtin "sorted"):=by decide +kernel
def aY:bootBuiltins "tuple"=some (.type "tuple"):=by decide +kernel
def bX6:bootBuiltins "zip"=some (.type "zip"):=by decide +kernel
def zC:FnScope ["_law_script","_law_k","_law_cell","_law_seed"] ["_law_script","_law_k"] (aQ aJ0):=⟨rfl,rfl,rfl,by decide +kernel,rfl,by decide +kernel,by decide +kernel⟩
def iZ:FnScope ["_law_box_here","_law_many","_law_digit","_law_one"] ["_law_box_here","_law_many"] (aQ yV):=⟨rfl,rfl,rfl,by decide +kernel,rfl,by decide +kernel,by decide +kernel⟩
def iC:FnScope ["_law_box_here","_law_things","_law_left","_law_found"] ["_law_box_here","_law_things"] (aQ wL):=⟨rfl,rfl,rfl,by decide +kernel,rfl,by decide +kernel,by decide +kernel⟩
def wR:FnScope ["_law_box_here","_law_columns","_law_ceiling","_law_span","_law_many","_law_k","_law_column"] ["_law_box_here","_law_columns","_law_ceiling"] (aQ yW):=⟨rfl,rfl,rfl,by decide +kernel,rfl,by decide +kernel,by decide +kernel⟩
def uQ:FnScope ["_law_box_here","_law_names_here","_law_ceiling","_law_columns"] ["_law_box_here","_law_names_here","_law_ceiling"] (aQ wM):=⟨rfl,rfl,rfl,by decide +kernel,rfl,by decide +kernel,by decide +kernel⟩
def uR:FnScope ["_law_box_here","_law_many","_law_letters","_law_stem","_law_at_here","_law_first","_law_form","_law_x","_law_y","_law_z","_law_some_here","_law_found","_law_k","_law_word","_law_own"] ["_law_box_here","_law_many"] (aQ wN):=⟨rfl,rfl,rfl,by decide +kernel,rfl,by decide +kernel,by decide +kernel⟩
def wS:FnScope ["_law_box_here","_law_columns","_law_some_here","_law_k","_law_column","_law_one"] ["_law_box_here","_law_columns"] (aQ yX):=⟨rfl,rfl,rfl,by decide +kernel,rfl,by decide +kernel,by decide +kernel⟩
def wT:FnScope ["_law_pieces_here","_law_product","_law_columns","_law_rows_here"] ["_law_pieces_here"] (aQ yZ):=⟨rfl,rfl,rfl,by decide +kernel,rfl,by decide +kernel,by decide +kernel⟩
def aJ3:FnScope ["_law_columns","_law_row","_law_some_here","_law_column"] ["_law_columns","_law_row","_law_some_here"] (aQ aW3):=⟨rfl,rfl,rfl,by decide +kernel,rfl,by decide +kernel,by decide +kernel⟩
def nQ:FnScope ["_law_table_here","_law_some_here","_law_found","_law_columns","_law_row"] ["_law_table_here","_law_some_here"] (aQ uN):=⟨rfl,rfl,rfl,by decide +kernel,rfl,by decide +kernel,by decide +kernel⟩
def uT:FnScope ["columns","some","column"] ["columns","some"] (aQ wO):=⟨rfl,rfl,rfl,by decide +kernel,rfl,by decide +kernel,by decide +kernel⟩
def wU:FnScope ["columns","rows"] ["columns","rows"] (aQ zA):=⟨rfl,rfl,rfl,by decide +kernel,rfl,by decide +kernel,by decide +kernel⟩
def aJ4:FnScope ["row","places","place"] ["row","places"] (aQ aW4):=⟨rfl,rfl,rfl,by decide +kernel,rfl,by decide +kernel,by decide +kernel⟩
def cE2:FnScope ["table","columns","places","row"] ["table","columns"] (aQ dE8):=⟨rfl,rfl,rfl,by decide +kernel,rfl,by decide +kernel,by decide +kernel⟩
def aW7:FnScope ["table","some","columns"] ["table","some"] (aQ bM0):=⟨rfl,rfl,rfl,by decide +kernel,rfl,by decide +kernel,by decide +kernel⟩
def uU:FnScope ["_law_found"] ["_law_found"] (aQ wP):=⟨rfl,rfl,rfl,by decide +kernel,rfl,by decide +kernel,by decide +kernel⟩
def lM:FnScope ["_law_found","_law_columns","_law_rows_here","_law_row","_law_value"] ["_law_found","_law_columns","_law_rows_here"] (aQ mR):=⟨rfl,rfl,rfl,by decide +kernel,rfl,by decide +kernel,by decide +kernel⟩
def nR:FnScope ["_law_one","_law_other","_law_both","_law_more","_law_rows_here","_law_row","_law_fellow","_law_column"] ["_law_one","_law_other"] (aQ uO):=⟨rfl,rfl,rfl,by decide +kernel,rfl,by decide +kernel,by decide +kernel⟩
def zD:FnScope ["_law_table_here","_law_pieces_here","_law_found","_law_piece","_law_rows_here","_law_more","_law_row"] ["_law_table_here","_law_pieces_here"] (aQ aJ1):=⟨rfl,rfl,rfl,by decide +kernel,rfl,by decide +kernel,by decide +kernel⟩
def iQ:FnScope ["one","other","column"] ["one","other"] (aQ jH):=⟨rfl,rfl,rfl,by decide +kernel,rfl,by decide +kernel,by decide +kernel⟩
def zE:FnScope ["table","columns","others","places","other_places","groups","row"] ["table","columns","others"] (aQ aJ2):=⟨rfl,rfl,rfl,by decide +kernel,rfl,by decide +kernel,by decide +kernel⟩
def aJ5:FnScope ["one","other","common","added","ends","places","rows","row","column","end"] ["one","other"] (aQ aW5):=⟨rfl,rfl,rfl,by decide +kernel,rfl,by decide +kernel,by decide +kernel⟩
def nT:FnScope ["tables","whole","table"] ["tables"] (aQ uP):=⟨rfl,rfl,rfl,by decide +kernel,rfl,by decide +kernel,by decide +kernel⟩
def wV:FnScope ["table","some","again","row"] ["table","some"] (aQ zB):=⟨rfl,rfl,rfl,by decide +kernel,rfl,by decide +kernel,by decide +kernel⟩
def cE3:FnScope ["_law_script","_law_box_here","_law_table_here","_law_some_here","_law_pieces_here","_law_found","_law_due_here","_law_told","_law_one","_law_piece"] ["_law_script"] (aQ dE9):=⟨rfl,rfl,rfl,by decide +kernel,rfl,by decide +kernel,by decide +kernel⟩
section
variable{P:Program}{w:World}{K:W.Frag}{mg:Str->Option Value}{base:Heap}{a:Adr}
def aJ6(T:Txt K mg a):eB K a.a1v ["_law_script","_law_k"] []:=T.a1M.binds (ps:=["_law_script","_law_k"]) λ_ _ _ _ _ _ us b=>match us,b with | [_,_],_=>rfl
def aZ(T:Txt K mg a):eB K a.a0q ["_law_box_here","_law_many"] []:=T.a0l.binds (ps:=["_law_box_here","_law_many"]) λ_ _ _ _ _ _ us b=>match us,b with | [_,_],_=>rfl
def wW(T:Txt K mg a):eB K a.a0x ["_law_box_here","_law_things"] []:=T.a0M.binds (ps:=["_law_box_here","_law_things"]) λ_ _ _ _ _ _ us b=>match us,b with | [_,_],_=>rfl
def bC3(T:Txt K mg a):eB K a.a1l ["_law_box_here","_law_columns","_law_ceiling"] []:=T.a1U.binds (ps:=["_law_box_here","_law_columns","_law_ceiling"]) λ_ _ _ _ _ _ us b=>match us,b with | [_,_,_],_=>rfl
def aP9(T:Txt K mg a):eB K a.a0R ["_law_box_here","_law_names_here","_law_ceiling"] []:=T.a1G.binds (ps:=["_law_box_here","_law_names_here","_law_ceiling"]) λ_ _ _ _ _ _ us b=>match us,b with | [_,_,_],_=>rfl
def aQ0(T:Txt K mg a):eB K a.a0P ["_law_box_here","_law_many"] []:=T.a1K.binds (ps:=["_law_box_here","_law_many"]) λ_ _ _ _ _ _ us b=>match us,b with | [_,_],_=>rfl
def bC4(T:Txt K mg a):eB K a.a0X ["_law_box_here","_law_columns"] []:=T.a1X.binds (ps:=["_law_box_here","_law_columns"]) λ_ _ _ _ _ _ us b=>match us,b with | [_,_],_=>rfl
def zF(T:Txt K mg a):eB K a.a1m ["_law_pieces_here"] []:=T.a1x.binds (ps:=["_law_pieces_here"]) λ_ _ _ _ _ _ us b=>match us,b with | [_],_=>rfl
def nU(T:Txt K mg a):eB K a.a0W ["_law_columns","_law_row","_law_some_here"] []:=T.a0Z.binds (ps:=["_law_columns","_law_row","_law_some_here"]) λ_ _ _ _ _ _ us b=>match us,b with | [_,_,_],_=>rfl
def lO(T:Txt K mg a):eB K a.a0I ["_law_table_here","_law_some_here"] []:=T.a0E.binds (ps:=["_law_table_here","_law_some_here"]) λ_ _ _ _ _ _ us b=>match us,b with | [_,_],_=>rfl
def jA(T:Txt K mg a):eB K a.a0w ["columns","some"] []:=T.a0A.binds (ps:=["columns","some"]) λ_ _ _ _ _ _ us b=>match us,b with | [_,_],_=>rfl
def zG(T:Txt K mg a):eB K a.a0L ["columns","rows"] []:=T.a1t.binds (ps:=["columns","rows"]) λ_ _ _ _ _ _ us b=>match us,b with | [_,_],_=>rfl
def vK(T:Txt K mg a):eB K a.a0V ["row","places"] []:=T.a1u.binds (ps:=["row","places"]) λ_ _ _ _ _ _ us b=>match us,b with | [_,_],_=>rfl
def dF0(T:Txt K mg a):eB K a.a2H ["table","columns"] []:=T.a2V.binds (ps:=["table","columns"]) λ_ _ _ _ _ _ us b=>match us,b with | [_,_],_=>rfl
def aQ1(T:Txt K mg a):eB K a.a1P ["table","some"] []:=T.a2n.binds (ps:=["table","some"]) λ_ _ _ _ _ _ us b=>match us,b with | [_,_],_=>rfl
def aQ2(T:Txt K mg a):eB K a.a0O ["_law_found"] []:=T.a1J.binds (ps:=["_law_found"]) λ_ _ _ _ _ _ us b=>match us,b with | [_],_=>rfl
def xZ(T:Txt K mg a):eB K a.a0z ["_law_found","_law_columns","_law_rows_here"] []:=T.a0S.binds (ps:=["_law_found","_law_columns","_law_rows_here"]) λ_ _ _ _ _ _ us b=>match us,b with | [_,_,_],_=>rfl
def aJ7(T:Txt K mg a):eB K a.a0H ["_law_one","_law_other"] []:=T.a1o.binds (ps:=["_law_one","_law_other"]) λ_ _ _ _ _ _ us b=>match us,b with | [_,_],_=>rfl
def bM2(T:Txt K mg a):eB K a.a1w ["_law_table_here","_law_pieces_here"] []:=T.a2q.binds (ps:=["_law_table_here","_law_pieces_here"]) λ_ _ _ _ _ _ us b=>match us,b with | [_,_],_=>rfl
def vB(T:Txt K mg a):eB K a.a0u ["one","other"] []:=T.a0F.binds (ps:=["one","other"]) λ_ _ _ _ _ _ us b=>match us,b with | [_,_],_=>rfl
def bM3(T:Txt K mg a):eB K a.a1A ["table","columns","others"] []:=T.a2p.binds (ps:=["table","columns","others"]) λ_ _ _ _ _ _ us b=>match us,b with | [_,_,_],_=>rfl
def bX7(T:Txt K mg a):eB K a.a1T ["one","other"] []:=T.a2A.binds (ps:=["one","other"]) λ_ _ _ _ _ _ us b=>match us,b with | [_,_],_=>rfl
def aJ8(T:Txt K mg a):eB K a.a0J ["tables"] []:=T.a1s.binds (ps:=["tables"]) λ_ _ _ _ _ _ us b=>match us,b with | [_],_=>rfl
def zH(T:Txt K mg a):eB K a.a0Y ["table","some"] []:=T.a1z.binds (ps:=["table","some"]) λ_ _ _ _ _ _ us b=>match us,b with | [_,_],_=>rfl
end
end Mr
namespace So
open PySem PySem.W PyProof.Rows
structure Cm(M:Model)(A:Around)(s:Shared)(κ:SortKind)(G:Keyed->Prop)(c:Keyed->Keyed->Bool):Prop where
 lt:∀ {x y:Keyed} {E:Value->Shared->Prop} {Q:Bool->Shared->Prop},G x->G y->Q (c x y) s->wpAny M A (keyLt' κ x.1 y.1) Q E s
 ir:∀ x,c x x=false
 tr:∀ {x y z},c x y=true->c y z=true->c x z=true
section
variable{M:Model}{A:Around}{E:Value->Shared->Prop}{s:Shared}{κ:SortKind}{G:Keyed->Prop}{c:Keyed->Keyed->Bool}
def bM4(C:Cm M A s κ G c){x y:Keyed}{st:SortSt}{Q:Option Bool->SortSt->Prop}(a:kindOf st=κ)(b:G x)(d:G y)(q:Q (some (c x y)) st):wpS M A E s (lt' x y) Q st:=by
 rw[lt'_eq];refine wpS_bind (wpS_get (wpS_bind (wpS_lift (wpAny_attempt ?_))));rw[a];exact C.lt b d ⟨rfl,wpS_pure q⟩
def bV{a:Array Keyed}{i:Nat}{x:Keyed}{st:SortSt}{Q:Keyed->SortSt->Prop}(h:a[i]? = some x)(q:Q x st):wpS M A E s (elem' a i) Q st:=by
 rw[elem'_eq,h];exact wpS_pure q
def oV(C:Cm M A s κ G c){i j:Nat}{x y:Keyed}{st:SortSt}{Q:Option Bool->SortSt->Prop}(a:kindOf st=κ)(hi:(arrOf st)[i]? = some x)(hj:(arrOf st)[j]? = some y)(b:G x)(d:G y)(q:Q (some (c x y)) st):wpS M A E s (ltAt' i j) Q st:=by
 rw[ltAt'_eq];refine wpS_bind (wpS_get ?_);exact wpS_bind (bV hi (wpS_bind (bV hj (bM4 C a b d q))))
noncomputable def aQ3:Bool->Keyed->Array Keyed->Nat->Nat->Nat->StateT SortSt Sem (Option Nat):=sortPriv% PySem.Builtin.gallop
def bM5(C:Cm M A s κ G c){left:Bool}{m:Keyed}{y:Array Keyed}{base n hint:Nat}{st:SortSt}{Q:Option Nat->SortSt->Prop}(D:kindOf st=κ)(be:Nat->Bool)
  (hb:∀ i,i < n->∃ x,y[base+i]? = some x/\G x/\be i=if left then c x m else !c m x) (F:G m) (hm:∀ i j,i<=j->j < n->be j=true->be i=true) (H:hint < n)
  (q:∀ k,k<=n->(∀ i,i < k->be i=true)->(∀ i,k<=i->i < n->be i=false)->Q (some k) st):wpS M A E s (aQ3 left m y base n hint) Q st:=by
 have p:∀ i j,i<=j->j < n->be i=false->be j=false:=λi j d h b=>by
  cases e:be j with
  | false=>rfl
  | true=>rw[hm i j d h e]at b;cases b
 have t:∀ (i:Nat) (Q:Option Bool->SortSt->Prop),i < n->Q (some (be i)) st->wpS M A E s (do let x ← elem' y (base+i);if left then lt' x m else return (← lt' m x).map (!·)) Q st:=λi Q hi q=>by
  obtain⟨x,e,g,B⟩:=hb i hi;refine wpS_bind (bV e ?_);cases left with
  | true=>exact bM4 C D g F (by simp only[if_true]at B;rw[← B];exact q)
  | false=>exact wpS_bind (bM4 C D F g (wpS_pure (by simp at B;rw[B]at q;exact q)))
 refine wpS_bind (t hint _ H ?_);dsimp only;cases I:be hint with
 | true=>
   rw[a3s rfl];refine wpS_bind (wpS_mono (wpS_forRange (λi (r:Option (Option Nat)×Nat×Nat) st'=>st=st'/\r.1=none/\r.2.1 < r.2.2/\i<=r.2.1/\hint+r.2.1 < n/\be (hint+r.2.1)=true)
    (Q:=λr st'=>st=st'/\r.1=none/\(∀ i,i < hint+r.2.1+1->be i=true)/\(∀ i,hint+min r.2.2 (n-hint)<=i->i < n->be i=false)/\hint+r.2.1+1<=hint+min r.2.2 (n-hint)/\hint+min r.2.2 (n-hint)<=n) ?_ ?_ ⟨rfl,rfl,Nat.zero_lt_one,a6a _,H,I⟩) ?_)
   ·rintro i ⟨o,l,f⟩ st'-hi ⟨rfl,rfl,d,h,b,a⟩;dsimp only at d h b a ⊢;split;refine wpS_pure ⟨rfl,rfl,?_⟩;dsimp only;exact⟨λi hi=>hm i _ (by lia) b a,λi u w=>by lia,by lia,by lia⟩;refine wpS_bind (t (hint+f) _ (by lia) ?_);dsimp only;cases v:be (hint+f)<;>refine wpS_pure ⟨rfl,rfl,?_⟩<;>dsimp only;exact⟨λi hi=>hm i _ (by lia) b a,λi u w=>p (hint+f) i (by lia) w v,by lia,by lia⟩;exact⟨by lia,by lia,by lia,v⟩
   ·rintro⟨o,l,f⟩ st' ⟨rfl,rfl,d,h,b,a⟩;dsimp only at d h b a;lia
   rintro⟨o,l,f⟩ st' ⟨rfl,rfl,d,h,b,a⟩;dsimp only at d h b a ⊢;generalize hint+l+1=lo at d b ⊢;generalize hint+min f (n-hint)=hi at h b a ⊢;refine wpS_bind (wpS_mono (wpS_forRange (λi (r:Option (Option Nat)×Nat×Nat) st'=>st=st'/\r.1=none/\(∀ i,i < r.2.1->be i=true)/\(∀ i,r.2.2<=i->i < n->be i=false)/\r.2.1<=r.2.2/\r.2.2<=n/\r.2.2+i<=n+r.2.1)
    (Q:=λr st'=>st=st'/\r.1=none/\(∀ i,i < r.2.1->be i=true)/\(∀ i,r.2.2<=i->i < n->be i=false)/\r.2.1=r.2.2/\r.2.2<=n) ?_ ?_ ⟨rfl,rfl,d,h,b,a,by dsimp only;lia⟩) ?_)
   ·rintro i ⟨o,l,f⟩ st'-hi ⟨rfl,rfl,d,h,b,a,z⟩;dsimp only at d h b a z ⊢;split;exact wpS_pure ⟨rfl,rfl,d,h,by dsimp only;lia,a⟩;refine wpS_bind (t _ _ (by lia) ?_);dsimp only;cases v:be (l+(f-l) / 2)<;>refine wpS_pure ⟨rfl,rfl,?_⟩<;>dsimp only;exact⟨d,λi u w=>p _ i u w v,by lia,by lia,by lia⟩;exact⟨λi u=>hm i _ (by lia) (by lia) v,h,by lia,a,by lia⟩
   ·rintro⟨o,l,f⟩ st' ⟨rfl,rfl,d,h,b,a,z⟩;exact⟨rfl,rfl,d,h,by dsimp only at b a z ⊢;lia,a⟩
   rintro⟨o,l,f⟩ st' ⟨rfl,rfl,d,h,b,a⟩;dsimp only at d h b a ⊢;subst b;exact wpS_pure (q _ a d h)
 | false=>
   rw[a3u (by decide)];refine wpS_bind (wpS_mono (wpS_forRange (λi (r:Option (Option Nat)×Nat×Nat) st'=>st=st'/\r.1=none/\r.2.1 < r.2.2/\i<=r.2.1/\r.2.1<=hint/\be (hint-r.2.1)=false)
    (Q:=λr st'=>st=st'/\r.1=none/\(∀ i,i < hint+1-min r.2.2 (hint+1)->be i=true)/\(∀ i,hint-r.2.1<=i->i < n->be i=false)/\hint+1-min r.2.2 (hint+1)<=hint-r.2.1/\hint-r.2.1<=n) ?_ ?_ ⟨rfl,rfl,Nat.zero_lt_one,a6a _,a2d _,I⟩) ?_)
   ·rintro i ⟨o,l,f⟩ st'-hi ⟨rfl,rfl,d,h,b,a⟩;dsimp only at d h b a ⊢;split;refine wpS_pure ⟨rfl,rfl,?_⟩;dsimp only;exact⟨λi hi=>by lia,λi u w=>p _ i u w a,by lia,by lia⟩;refine wpS_bind (t (hint-f) _ (by lia) ?_);dsimp only;cases v:be (hint-f)<;>refine wpS_pure ⟨rfl,rfl,?_⟩<;>dsimp only;exact⟨by lia,by lia,by lia,v⟩;exact⟨λi hi=>hm i (hint-f) (by lia) (by lia) v,λi u w=>p _ i u w a,by lia,by lia⟩
   ·rintro⟨o,l,f⟩ st' ⟨rfl,rfl,d,h,b,a⟩;dsimp only at d h b a;lia
   rintro⟨o,l,f⟩ st' ⟨rfl,rfl,d,h,b,a⟩;dsimp only at d h b a ⊢;generalize hint+1-min f (hint+1)=lo at d b ⊢;generalize hint-l=hi at h b a ⊢;refine wpS_bind (wpS_mono (wpS_forRange (λi (r:Option (Option Nat)×Nat×Nat) st'=>st=st'/\r.1=none/\(∀ i,i < r.2.1->be i=true)/\(∀ i,r.2.2<=i->i < n->be i=false)/\r.2.1<=r.2.2/\r.2.2<=n/\r.2.2+i<=n+r.2.1)
    (Q:=λr st'=>st=st'/\r.1=none/\(∀ i,i < r.2.1->be i=true)/\(∀ i,r.2.2<=i->i < n->be i=false)/\r.2.1=r.2.2/\r.2.2<=n) ?_ ?_ ⟨rfl,rfl,d,h,b,a,by dsimp only;lia⟩) ?_)
   ·rintro i ⟨o,l,f⟩ st'-hi ⟨rfl,rfl,d,h,b,a,z⟩;dsimp only at d h b a z ⊢;split;exact wpS_pure ⟨rfl,rfl,d,h,by dsimp only;lia,a⟩;refine wpS_bind (t _ _ (by lia) ?_);dsimp only;cases v:be (l+(f-l) / 2)<;>refine wpS_pure ⟨rfl,rfl,?_⟩<;>dsimp only;exact⟨d,λi u w=>p _ i u w v,by lia,by lia,by lia⟩;exact⟨λi u=>hm i _ (by lia) (by lia) v,h,by lia,a,by lia⟩
   ·rintro⟨o,l,f⟩ st' ⟨rfl,rfl,d,h,b,a,z⟩;exact⟨rfl,rfl,d,h,by dsimp only at b a z ⊢;lia,a⟩
   rintro⟨o,l,f⟩ st' ⟨rfl,rfl,d,h,b,a⟩;dsimp only at d h b a ⊢;subst b;exact wpS_pure (q _ a d h)
end
abbrev Srt(c:Keyed->Keyed->Bool)(l:List Keyed):Prop:=l.Pairwise λx y=>c x y=true
structure Mg(c:Keyed->Keyed->Bool)(la lb out:List Keyed)(i j:Nat):Prop where
 pm:out.Perm (la.take i++lb.take j)
 so:Srt c out
 le:∀ o∈out,∀ x∈la.drop i++lb.drop j,c o x=true
 hi:i<=la.length
 hj:j<=lb.length
def Rs(c:Keyed->Keyed->Bool)(la lb l:List Keyed):Prop:=l.Perm (la++lb)/\Srt c l
section
variable{c:Keyed->Keyed->Bool}{la lb out:List Keyed}{i j:Nat}
def Mg.len(m:Mg c la lb out i j):out.length=i+j:=by
 have:=m.pm.length_eq;have:=m.hi;have:=m.hj;simp at *;lia
theorem Mg.symm(m:Mg c la lb out i j):Mg c lb la out j i:=
 ⟨m.pm.trans List.perm_append_comm,m.so,λo b x a=>m.le o b x (by simp at a ⊢;exact a.symm),m.hj,m.hi⟩
def Mg.left(m:Mg c la lb out i j)(sa:Srt c la){k:Nat}(d:i+k<=la.length)(h:∀ x∈(la.drop i).take k,∀ y∈lb.drop j,c x y=true):Mg c la lb (out++(la.drop i).take k) (i+k) j:=by
 have s1:Srt c ((la.drop i).take k++(la.drop i).drop k):=by rw[List.take_append_drop];exact sa.sublist (List.drop_sublist _ _)
 obtain⟨s2,f,e⟩:=List.pairwise_append.mp s1;refine⟨?_,List.pairwise_append.mpr ⟨m.so,s2,λo a x b=>m.le o a x (a3c.mpr (.inl (a7f b)))⟩,λo a x b=>?_,d,m.hj⟩;rw[List.take_add];refine(m.pm.append_right _).trans ?_;rw[List.append_assoc,List.append_assoc];exact List.Perm.append_left _ List.perm_append_comm;rw[a3c]at b a;rcases a with a | a;refine m.le o a x (a3c.mpr (b.imp (λz=>?_) id));rw[← List.drop_drop]at z;exact List.mem_of_mem_drop z;rcases b with b | b;exact e o a x (by rw[List.drop_drop];exact b);exact h o a x b
def Mg.right(m:Mg c la lb out i j)(sb:Srt c lb){k:Nat}(a:j+k<=lb.length)(h:∀ x∈(lb.drop j).take k,∀ y∈la.drop i,c x y=true):Mg c la lb (out++(lb.drop j).take k) i (j+k):=(m.symm.left sb a h).symm
def Mg.done(m:Mg c la lb out i j)(sa:Srt c la)(sb:Srt c lb)(h:i=la.length\/j=lb.length):Rs c la lb (out++la.drop i++lb.drop j):=by
 rcases h with rfl | rfl;have:=m.right sb (k:=lb.length-j) (by have:=m.hj;lia) (λx _ y a=>by simp at a);have e:(lb.drop j).take (lb.length-j)=lb.drop j:=a2c (by simp);rw[e]at this;refine⟨?_,?_⟩;have p:=this.pm;rw[a2c (l:=lb) (by lia),List.take_length]at p;simpa using p;simpa using this.so;have:=m.left sa (k:=la.length-i) (by have:=m.hi;lia) (λx _ y a=>by simp at a);have e:(la.drop i).take (la.length-i)=la.drop i:=a2c (by simp);rw[e]at this;refine⟨?_,?_⟩;have p:=this.pm;rw[a2c (l:=la) (by lia),List.take_length]at p;simpa using p;simpa using this.so
def Mg.last(m:Mg c la lb out i j)(sa:Srt c la)(sb:Srt c lb)(h:i+1=la.length)(d:∀ x∈la.drop i,∀ y∈lb,c y x=true):Rs c la lb (out++lb.drop j++la.drop i):=by
 have a:=m.right sb (k:=lb.length-j) (by have:=m.hj;lia) (λx f y g=>d y g x (List.mem_of_mem_drop (a7f f)));have e:(lb.drop j).take (lb.length-j)=lb.drop j:=a2c (by simp);rw[e]at a;have b:j+(lb.length-j)=lb.length:=by have:=m.hj;lia
 have:=a.done sa sb (.inr b);rw[b,List.drop_length,a1g]at this;exact this
def lP{l:List Keyed}{i:Nat}{x:Keyed}(h:l[i]? = some x):l.drop i=x::l.drop (i+1):=by
 obtain⟨a,rfl⟩:=a1a.mp h;exact List.drop_eq_getElem_cons a
def nV{l:List Keyed}{i:Nat}{x:Keyed}(h:l[i]? = some x)(s:Srt c l):∀ y∈l.drop i,y=x\/c x y=true:=by
 have:=s.sublist (List.drop_sublist i l);rw[lP h]at this ⊢;exact λy a=>(a1c.mp a).imp id λz=>(a9f.mp this).1 y z
end
section
variable{M:Model}{A:Around}{E:Value->Shared->Prop}{s:Shared}{κ:SortKind}{G:Keyed->Prop}{c:Keyed->Keyed->Bool}
noncomputable def bX8:Array Keyed->Array Keyed->StateT SortSt Sem (Array Keyed):=sortPriv% PySem.Builtin.mergeLo
noncomputable def cO9:Nat->StateT SortSt Sem Unit:=sortPriv% PySem.Builtin.setMinGallop
structure Like(st st':SortSt):Prop where
 k:kindOf st'=kindOf st
 a:arrOf st'=arrOf st
 p:pendingOf st'=pendingOf st
 f:failedOf st'=failedOf st
def Like.rfl'{st:SortSt}:Like st st:=⟨rfl,rfl,rfl,rfl⟩
theorem Like.trans{a b d:SortSt}(x:Like a b)(y:Like b d):Like a d:=⟨y.k.trans x.k,y.a.trans x.a,y.p.trans x.p,y.f.trans x.f⟩
def nW{g:Nat}{st:SortSt}{Q:Unit->SortSt->Prop}(q:∀ st',Like st st'->Q () st'):wpS M A E s (cO9 g) Q st:=wpS_modify (q _ ⟨rfl,rfl,rfl,rfl⟩)
theorem Cm.as(C:Cm M A s κ G c){x y:Keyed}(h:c x y=true):c y x=false:=by
 cases e:c y x with
 | false=>rfl
 | true=>have:=C.tr h e;rw[C.ir]at this;cases this
def yA{a:Array Keyed}{i:Nat}(h:i < a.size):∃ x,a[i]? = some x/\a.toList[i]? = some x/\x∈a.toList:=⟨a[i],by simp[h],by simp[h],by simp⟩
def nX{l:List Keyed}{i k:Nat}{x:Keyed}(h:x∈(l.drop i).take k):∃ j,j < k/\l[i+j]? = some x:=by
 obtain⟨j,hj⟩:=List.getElem?_of_mem h;rw[List.getElem?_take]at hj;split at hj;rename_i a;rw[List.getElem?_drop]at hj;exact⟨j,a,hj⟩;cases hj
def aB9{l:List Keyed}{i:Nat}{x:Keyed}(h:x∈l.drop i):∃ j,i<=j/\j < l.length/\l[j]? = some x:=by
 obtain⟨j,hj⟩:=List.getElem?_of_mem h;rw[List.getElem?_drop]at hj;exact⟨i+j,by lia,(a1a.mp hj).1,hj⟩
def aQ4(C:Cm M A s κ G c){left:Bool}{key:Keyed}{a:Array Keyed}{b n hint:Nat}{L:List Keyed}{st:SortSt}{Q:Option Nat->SortSt->Prop}(w:kindOf st=κ)(z:(a.toList.drop b).take n=L)(hn:L.length=n)(B:∀ x∈L,G x)(D:G key)(F:Srt c L)
  (hd:∀ x∈L,c x key=true\/c key x=true) (H:hint < n) (q:∀ k,k<=n->(∀ x∈L.take k,c x key=true)->(∀ x∈L.drop k,c key x=true)->Q (some k) st):wpS M A E s (aQ3 left key a b n hint) Q st:=by
 have I:∀ x∈L,(if left=true then c x key else !c key x)=c x key:=λx d=>by
  cases left with
  | true=>rfl
  | false=>rcases hd x d with e | e<;>simp[e,C.as e]
 have f:∀ i,i < n->∃ x,a[b+i]? = some x/\L[i]? = some x/\x∈L:=λi hi=>by
  obtain⟨x,d⟩:∃ x,L[i]? = some x:=⟨L[i],by simp[hn,hi]⟩;refine⟨x,?_,d,a2b d⟩;rw[← z,List.getElem?_take,a3s hi,List.getElem?_drop]at d;simpa using d
 refine bM5 C w (λi=>match L[i]? with | some x=>c x key | none=>false) (λi hi=>?_) D (λi j m o g=>?_) H λk m o g=>q k m (λx d=>?_) λx d=>?_
 ·obtain⟨x,u,h,p⟩:=f i hi;exact⟨x,u,B x p,by simp only[h];exact(I x p).symm⟩
 ·obtain⟨x,u,h,p⟩:=f i (by lia);obtain⟨y,P,l,R⟩:=f j o;simp only[h,l]at g ⊢;rcases Nat.eq_or_lt_of_le m with e | e;subst e;rw[h]at l;cases l;exact g;obtain⟨J,K⟩:=a1a.mp h;obtain⟨N,O⟩:=a1a.mp l;have:=List.pairwise_iff_getElem.mp F i j J N e;rw[K,O]at this;exact C.tr this g
 ·obtain⟨j,r,t⟩:=nX (i:=0) (by rw[List.drop_zero];exact d);rw[a8f]at t;have:=o j r;simp only[t]at this;exact this
 ·obtain⟨j,r,t,v⟩:=aB9 d;have:=g j r (by lia);simp only[v]at this;rcases hd x (a2b v)with e | e;rw[e]at this;cases this;exact e
def aW8(C:Cm M A s κ G c){left:Bool}{d:Keyed}{a:Array Keyed}{b n hint:Nat}{st:SortSt}{Q:Option Nat->SortSt->Prop}(j:kindOf st=κ)(l:∀ x∈a.toList,G x)(m:G d)(sa:Srt c a.toList)
  (hd:∀ x∈a.toList,c x d=true\/c d x=true) (hb:b+n<=a.size) (o:hint < n)
  (q:∀ k,k<=n->(∀ i x,i < k->a.toList[b+i]? = some x->c x d=true)->(∀ i x,k<=i->i < n->a.toList[b+i]? = some x->c d x=true)->Q (some k) st):wpS M A E s (aQ3 left d a b n hint) Q st:=by
 have g:∀ x∈(a.toList.drop b).take n,x∈a.toList:=λx f=>List.mem_of_mem_drop (a7f f);have gt:∀ i x,i < n->a.toList[b+i]? = some x->((a.toList.drop b).take n)[i]? = some x:=λi x h e=>by rw[List.getElem?_take,a3s h,List.getElem?_drop];exact e
 refine aQ4 C j rfl (by simp;lia) (λx f=>l x (g x f)) m (sa.sublist ((List.take_sublist _ _).trans (List.drop_sublist _ _))) (λx f=>hd x (g x f)) o λk p r t=>q k p (λi x hi f=>r x ?_) λi x hi u f=>t x ?_;have:=gt i x (by lia) f;exact a2b (i:=i) (by rw[List.getElem?_take,a3s hi];exact this);have:=gt i x u f;exact a2b (i:=i-k) (by rw[List.getElem?_drop,show k+(i-k)=i by lia];exact this)
def mF{l:List Keyed}{i:Nat}{x:Keyed}(h:l[i]? = some x):(l.drop i).take 1=[x]:=by rw[lP h];rfl
theorem fA{a:Array Keyed}{i j:Nat}:(a.extract i j).toList=(a.toList.drop i).take (j-i):=by simp[Array.toList_extract,List.extract]
def aC0{a:Array Keyed}{i:Nat}:(a.extract i a.size).toList=a.toList.drop i:=by
 rw[fA];exact a2c (by simp)
def wX{a:Type}{p:Prop}[Decidable p]{m m':StateT SortSt Sem a}{Q:a->SortSt->Prop}{st:SortSt}(h:wpS M A E s m Q st)(h':wpS M A E s m' Q st):wpS M A E s (if p then m else m') Q st:=by
 by_cases e:p;rw[a3s e];exact h;rw[a3u e];exact h'
def bC5(C:Cm M A s κ G c){a b:Array Keyed}{st:SortSt}{Q:Array Keyed->SortSt->Prop}(hk:kindOf st=κ)(ga:∀ x∈a.toList,G x)(gb:∀ x∈b.toList,G x)(sa:Srt c a.toList)(sb:Srt c b.toList)
  (hd:∀ x∈a.toList,∀ y∈b.toList,c x y=true\/c y x=true) (h1:1<=a.size) (h2:1<=b.size) (hf:∀ y∈b.toList.take 1,∀ x∈a.toList,c y x=true) (hl:∀ x∈a.toList.drop (a.size-1),∀ y∈b.toList,c y x=true)
  (q:∀ r st',Like st st'->Rs c a.toList b.toList r.toList->Q r st'):wpS M A E s (bX8 a b) Q st:=by
 have la:a.toList.length=a.size:=rfl;have lb:b.toList.length=b.size:=rfl;refine wpS_bind (wpS_lift (a3K ⟨rfl,?_⟩));obtain⟨b0,hb0,hb1,hb2⟩:=yA (a:=b) (i:=0) h2;refine wpS_bind (bV hb0 ?_);dsimp only;have t1:b.toList.take 1=[b0]:=by have:=mF hb1;rwa[List.drop_zero]at this
 have m0:Mg c a.toList b.toList [b0] 0 1:=by
  have:=(Mg.mk (c:=c) (la:=a.toList) (lb:=b.toList) (out:=[]) (i:=0) (j:=0) (by simp) .nil (λ_ h=>by simp at h) (Nat.zero_le _) (Nat.zero_le _)).right sb (k:=1) (by lia) (by rw[List.drop_zero,List.drop_zero];exact hf);rwa[List.drop_zero,t1]at this
 have dn:∀ {o:Array Keyed} {i j:Nat},Mg c a.toList b.toList o.toList i j->(i=a.size\/j=b.size)->Rs c a.toList b.toList (o++a.extract i a.size++b.extract j b.size).toList:=λ{o i j} m h=>by
  rw[Array.toList_append,Array.toList_append,aC0,aC0];exact m.done sa sb h
 have ls:∀ {o:Array Keyed} {i j:Nat},Mg c a.toList b.toList o.toList i j->i+1=a.size->Rs c a.toList b.toList (o++b.extract j b.size++a.extract i a.size).toList:=λ{o i j} m h=>by
  rw[Array.toList_append,Array.toList_append,aC0,aC0];exact m.last sa sb h (by rw[show i=a.size-1 by lia];exact hl)
 have pa:∀ {o:Array Keyed} {i j:Nat} {x:Keyed},Mg c a.toList b.toList o.toList i j->a.toList[i]? = some x->(∀ y∈b.toList.drop j,c x y=true)->Mg c a.toList b.toList (o.push x).toList (i+1) j:=λ{o i j x} m I h=>by
  have:=m.left sa (k:=1) (a1a.mp I).1 (by rw[mF I];intro z D;cases a1b.mp D;exact h);rwa[mF I,← a6h]at this
 have pb:∀ {o:Array Keyed} {i j:Nat} {x:Keyed},Mg c a.toList b.toList o.toList i j->b.toList[j]? = some x->(∀ y∈a.toList.drop i,c x y=true)->Mg c a.toList b.toList (o.push x).toList i (j+1):=λ{o i j x} m I h=>by
  have:=m.right sb (k:=1) (a1a.mp I).1 (by rw[mF I];intro z D;cases a1b.mp D;exact h);rwa[mF I,← a6h]at this
 by_cases n1:1=b.size;rw[a3s (by rw[← n1];rfl)];exact wpS_pure (q _ _ .rfl' (dn m0 (.inr n1)))
 rw[a3u (by rw[a3v];exact n1)];by_cases n2:0+1=a.size;rw[a3s (by rw[← n2];rfl)];exact wpS_pure (q _ _ .rfl' (ls m0 n2))
 rw[a3u (by rw[a3v];exact n2)];refine wpS_bind (wpS_get ?_);refine wpS_bind (wpS_mono (wpS_forRange (λi (r:Option (Array Keyed)×Array Keyed×Nat×Nat×Nat) st'=>Like st st'/\r.1=none/\Mg c a.toList b.toList r.2.1.toList r.2.2.1 r.2.2.2.1/\r.2.2.1+1 < a.size/\r.2.2.2.1 < b.size/\i+1<=r.2.1.size)
  (Q:=λr st'=>Like st st'/\∃ o,r.1=some o/\Rs c a.toList b.toList o.toList) ?_ ?_ ⟨.rfl',rfl,m0,by dsimp only;lia,by dsimp only;lia,a6a _⟩) ?_)
 ·rintro n ⟨o,out,l,f,m⟩ st1-hn ⟨l1,rfl,mg,p,g,t⟩;dsimp only at mg p g t ⊢;refine wpS_bind (wpS_mono (wpS_forRange (λi (r:Option (Array Keyed)×Array Keyed×Nat×Nat×Nat×Nat) st'=>Like st st'/\r.1=none/\Mg c a.toList b.toList r.2.1.toList r.2.2.1 r.2.2.2.1/\r.2.2.1+1 < a.size/\r.2.2.2.1 < b.size/\n+1+i<=r.2.1.size)
   (Q:=λr st'=>Like st st'/\((r.1=none/\Mg c a.toList b.toList r.2.1.toList r.2.2.1 r.2.2.2.1/\r.2.2.1+1 < a.size/\r.2.2.2.1 < b.size/\n+2<=r.2.1.size)\/∃ o,r.1=some o/\Rs c a.toList b.toList o.toList)) ?_ ?_ ⟨l1,rfl,mg,p,g,by dsimp only;lia⟩) ?_)
  ·rintro i ⟨o,out,l,f,Y,Z⟩ J-hi ⟨B,rfl,mg,p,g,t⟩;dsimp only at mg p g t ⊢;obtain⟨y,K,L,N⟩:=yA (a:=b) g;obtain⟨x,O,P,R⟩:=yA (a:=a) (show l < a.size by lia);refine wpS_bind (bV K (wpS_bind (bV O (wpS_bind (bM4 C (B.k.trans hk) (gb y N) (ga x R) ?_)))));dsimp only;cases e:c y x with
   | true=>
     rw[a3s rfl];refine wpS_bind (bV K ?_);have d:=pb mg L (λz D=>(nV P sa z D).elim (λh=>h ▸ e) (C.tr e));by_cases S:f+1=b.size;rw[a3s (a3v.mpr S)];exact wpS_pure ⟨B,.inr ⟨_,rfl,dn d (.inr S)⟩⟩
     rw[a3u (by rw[a3v];exact S)];by_cases T:Z+1 ≥ m;rw[a3s T];exact wpS_pure ⟨B,.inl ⟨rfl,d,p,by dsimp only;lia,by dsimp only;rw[Array.size_push];lia⟩⟩;rw[a3u T];exact wpS_pure ⟨B,rfl,d,p,by dsimp only;lia,by dsimp only;rw[Array.size_push];lia⟩
   | false=>
     rw[a3u (by decide)];have e':c x y=true:=(hd x R y N).resolve_right (by rw[e];decide);refine wpS_bind (bV O ?_);have d:=pa mg P (λz D=>(nV L sb z D).elim (λh=>h ▸ e') (C.tr e'));by_cases S:l+1+1=a.size;rw[a3s (a3v.mpr S)];exact wpS_pure ⟨B,.inr ⟨_,rfl,ls d S⟩⟩
     rw[a3u (by rw[a3v];exact S)];by_cases T:Y+1 ≥ m;rw[a3s T];exact wpS_pure ⟨B,.inl ⟨rfl,d,by dsimp only;lia,g,by dsimp only;rw[Array.size_push];lia⟩⟩;rw[a3u T];exact wpS_pure ⟨B,rfl,d,by dsimp only;lia,g,by dsimp only;rw[Array.size_push];lia⟩
  ·rintro⟨o,out,l,f,Y,Z⟩ J ⟨B,rfl,mg,p,g,t⟩;have:=mg.len;dsimp only at mg p g t this;simp at this t;lia
  rintro⟨o,out,l,f,Y,Z⟩ J ⟨B,⟨rfl,mg,p,g,t⟩ | ⟨r,rfl,hr⟩⟩
  case inr=>exact wpS_pure ⟨B,r,rfl,hr⟩
  dsimp only at mg p g t ⊢;refine wpS_bind (wpS_lift (a3K ⟨rfl,?_⟩));refine wpS_bind (wpS_mono (wpS_forRange (λi (r:Option (Array Keyed)×Array Keyed×Nat×Nat×Nat×Nat×Nat) st'=>Like st st'/\r.1=none/\Mg c a.toList b.toList r.2.1.toList r.2.2.1 r.2.2.2.1/\r.2.2.1+1 < a.size/\r.2.2.2.1 < b.size/\n+2+i<=r.2.1.size)
   (Q:=λr st'=>Like st st'/\((r.1=none/\Mg c a.toList b.toList r.2.1.toList r.2.2.1 r.2.2.2.1/\r.2.2.1+1 < a.size/\r.2.2.2.1 < b.size/\n+2<=r.2.1.size)\/∃ o,r.1=some o/\Rs c a.toList b.toList o.toList)) ?_ ?_ ⟨B,rfl,mg,p,g,t⟩) ?_)
  ·rintro i ⟨o,out,l,f,m,Y,Z⟩ J-hi ⟨B,rfl,mg,p,g,t⟩;dsimp only at mg p g t ⊢;obtain⟨y,K,L,N⟩:=yA (a:=b) g;by_cases hm:m > 1
   case' pos=>rw[a3s hm]
   case' neg=>rw[a3u hm]
   all_goals
    refine wpS_bind (nW λst3 l3=>wpS_bind (bV K (wpS_bind (aW8 C ((B.trans l3).k.trans hk) ga (gb y N) sa (λx I=>hd x I y N) (b:=l) (n:=a.size-l) (by lia) (by lia) λk k1 k2 k3=>?_))))
    replace l3:=B.trans l3
    dsimp only;have d:Mg c a.toList b.toList (out++a.extract l (l+k)).toList (l+k) f:=by
     rw[Array.toList_append,fA,Nat.add_sub_cancel_left];refine mg.left sa (by lia) λx I z D=>?_;obtain⟨j,j1,j2⟩:=nX I;have:=k2 j x j1 j2;exact(nV L sb z D).elim (λh=>h ▸ this) (C.tr this)
    have f2:∀ z∈a.toList.drop (l+k),c y z=true:=λz D=>by
     obtain⟨j,j1,j2,j3⟩:=aB9 D;exact k3 (j-l) z (by lia) (by lia) (by rw[show l+(j-l)=j by lia];exact j3)
    have x4:n+2+i<=(out++a.extract l (l+k)).size:=by rw[Array.size_append];lia
    by_cases hk0:k > 0
    case' pos=>
     rw[a3s hk0];generalize out++a.extract l (l+k)=w at d x4 ⊢;generalize l+k=H at d f2 ⊢;by_cases S:H+1=a.size;rw[a3s (a3v.mpr S)];exact wpS_pure ⟨l3,.inr ⟨_,rfl,ls d S⟩⟩
     rw[a3u (by rw[a3v];exact S)];by_cases T:H=a.size;rw[a3s (a3v.mpr T)];exact wpS_pure ⟨l3,.inr ⟨_,rfl,dn d (.inl T)⟩⟩
     rw[a3u (by rw[a3v];exact T)]
     replace p:H+1 < a.size:=by have:=d.hi;lia
    case' neg=>
     rw[a3u hk0];obtain rfl:k=0:=by lia
     rw[Nat.add_zero]at f2
     replace d:=mg
     replace x4:=t
     generalize out=w at d x4 ⊢;generalize l=H at d f2 p ⊢
    all_goals
     refine wpS_bind (bV K ?_);have V:=pb d L f2;by_cases e4:f+1=b.size;rw[a3s (a3v.mpr e4)];exact wpS_pure ⟨l3,.inr ⟨_,rfl,dn V (.inr e4)⟩⟩
     rw[a3u (by rw[a3v];exact e4)];obtain⟨x,O,P,R⟩:=yA (a:=a) (show H < a.size by lia);refine wpS_bind (bV O (wpS_bind (aW8 C (l3.k.trans hk) gb (ga x R) sb (λz D=>(hd x R z D).symm) (b:=f+1) (n:=b.size-(f+1)) (by lia) (by lia) λj j1 j2 j3=>?_)));dsimp only;have F:Mg c a.toList b.toList (w.push y++b.extract (f+1) (f+1+j)).toList H (f+1+j):=by
      rw[Array.toList_append,fA,Nat.add_sub_cancel_left];refine V.right sb (by lia) λz D u hu=>?_;obtain⟨v,v1,v2⟩:=nX D;have:=j2 v z v1 v2;exact(nV P sa u hu).elim (λh=>h ▸ this) (C.tr this)
     have f4:∀ z∈b.toList.drop (f+1+j),c x z=true:=λz D=>by
      obtain⟨v,v1,v2,v3⟩:=aB9 D;exact j3 (v-(f+1)) z (by lia) (by lia) (by rw[show f+1+(v-(f+1))=v by lia];exact v3)
     have x5:n+2+i < (w.push y++b.extract (f+1) (f+1+j)).size:=by rw[Array.size_append,Array.size_push];lia
     by_cases hj0:j > 0
     case' pos=>
      rw[a3s hj0];generalize w.push y++b.extract (f+1) (f+1+j)=U at F x5 ⊢;generalize f+1+j=W at F f4 ⊢;by_cases e5:W=b.size;rw[a3s (a3v.mpr e5)];exact wpS_pure ⟨l3,.inr ⟨_,rfl,dn F (.inr e5)⟩⟩
      rw[a3u (by rw[a3v];exact e5)]
      replace g:W < b.size:=by have:=F.hj;lia
     case' neg=>
      rw[a3u hj0];obtain rfl:j=0:=by lia
      rw[Nat.add_zero]at f4
      replace F:=V
      replace x5:n+2+i < (w.push y).size:=by rw[Array.size_push];lia
      replace g:f+1 < b.size:=by lia
      generalize w.push y=U at F x5 ⊢;generalize f+1=W at F f4 g ⊢
     all_goals
      refine wpS_bind (bV O ?_);have X:=pa F P f4;by_cases e6:H+1+1=a.size;rw[a3s (a3v.mpr e6)];exact wpS_pure ⟨l3,.inr ⟨_,rfl,ls X e6⟩⟩
      rw[a3u (by rw[a3v];exact e6)];have x6:n+2+(i+1)<=(U.push x).size:=by rw[Array.size_push];lia
      refine wX ?_ ?_;exact wpS_pure ⟨l3,.inl ⟨rfl,X,by dsimp only;lia,g,by dsimp only;lia⟩⟩;exact wpS_pure ⟨l3,rfl,X,by dsimp only;lia,g,x6⟩
  ·rintro⟨o,out,l,f,m,Y,Z⟩ J ⟨B,rfl,mg,p,g,t⟩;have:=mg.len;dsimp only at mg p g t this;simp at this t;lia
  rintro⟨o,out,l,f,m,Y,Z⟩ J ⟨B,⟨rfl,mg,p,g,t⟩ | ⟨r,rfl,hr⟩⟩
  case inr=>exact wpS_pure ⟨B,r,rfl,hr⟩
  dsimp only at mg p g t ⊢;exact wpS_bind (nW λst3 l3=>wpS_pure ⟨B.trans l3,rfl,mg,p,g,t⟩)
 ·rintro⟨o,out,l,f,m⟩ st1 ⟨l1,rfl,mg,p,g,t⟩;have:=mg.len;dsimp only at mg p g t this;simp at this t;lia
 ·rintro⟨o,out,l,f,m⟩ st1 ⟨l1,r,rfl,hr⟩;exact wpS_pure (q _ _ l1 hr)
end
structure Wh(c:Keyed->Keyed->Bool)(a b out:Array Keyed)(na nb:Nat):Prop where
 m:Mg (λx y=>c y x) b.toList.reverse a.toList.reverse out.toList (b.size-nb) (a.size-na)
 ha:na<=a.size
 hb:nb<=b.size
section
variable{c:Keyed->Keyed->Bool}{a b out:Array Keyed}{na nb:Nat}
theorem Wh.symm(w:Wh c a b out na nb):Wh c b a out nb na:=⟨w.m.symm,w.hb,w.ha⟩
theorem Wh.len(w:Wh c a b out na nb):out.size+na+nb=a.size+b.size:=by
 have:=w.m.len;have:=w.ha;have:=w.hb;simp at *;lia
def wY{l:List Keyed}(h:Srt c l):Srt (λx y=>c y x) l.reverse:=List.pairwise_reverse.mpr h
def cE4{la lb l:List Keyed}(h:Rs (λx y=>c y x) lb.reverse la.reverse l):Rs c la lb l.reverse:=
 ⟨by have:=(List.reverse_perm l).trans h.1;rw[← List.reverse_append]at this;exact this.trans (List.reverse_perm _),List.pairwise_reverse.mpr h.2⟩
def jB{a:Array Keyed}{n:Nat}(h:n<=a.size):a.toList.reverse.drop (a.size-n)=(a.toList.take n).reverse:=by
 rw[List.drop_reverse];congr 2;simp;lia
theorem Wh.done(w:Wh c a b out na nb)(sa:Srt c a.toList)(sb:Srt c b.toList)(h:na=0\/nb=0):Rs c a.toList b.toList (a.extract 0 na++b.extract 0 nb++out.reverse).toList:=by
 have:=cE4 (w.m.done (wY sb) (wY sa) (by simp;have:=w.ha;have:=w.hb;lia));rw[jB w.ha,jB w.hb]at this;simpa[fA]using this
theorem Wh.last(w:Wh c a b out na nb)(sa:Srt c a.toList)(sb:Srt c b.toList)(h:nb=1)(d:∀ y∈b.toList.take 1,∀ x∈a.toList,c y x=true):Rs c a.toList b.toList (b.extract 0 nb++a.extract 0 na++out.reverse).toList:=by
 have:=cE4 (w.m.last (wY sb) (wY sa) (by simp;have:=w.hb;lia) (by rw[jB w.hb,h];intro x e y f;exact d x (List.mem_reverse.mp e) y (List.mem_reverse.mp f)));rw[jB w.ha,jB w.hb]at this;simpa[fA]using this
def aJ9{a:Array Keyed}{n k:Nat}(h:n<=a.size)(b:k<=n):(a.extract (n-k) n).reverse.toList=(a.toList.reverse.drop (a.size-n)).take k:=by
 rw[jB h,Array.toList_reverse,fA,List.take_reverse,List.drop_take];congr 2;congr 1;simp;lia;simp;lia
def Wh.pa(w:Wh c a b out na nb)(sa:Srt c a.toList){k:Nat}(d:k<=na)(h:∀ i x,na-k<=i->i < na->a.toList[i]? = some x->∀ y∈b.toList.take nb,c y x=true):Wh c a b (out++(a.extract (na-k) na).reverse) (na-k) nb:=by
 have:=w.m.right (wY sa) (k:=k) (by simp;have:=w.ha;lia) (by
  rw[jB w.hb,← aJ9 w.ha d];intro x e y f;rw[Array.toList_reverse,List.mem_reverse,fA]at e;obtain⟨j,l,g⟩:=nX e;exact h _ x (by lia) (by lia) g y (List.mem_reverse.mp f))
 rw[← aJ9 w.ha d,← Array.toList_append,show a.size-na+k=a.size-(na-k) by have:=w.ha;lia]at this;exact⟨this,by have:=w.ha;lia,w.hb⟩
def Wh.to(w:Wh c a b out na nb)(sa:Srt c a.toList){t:Nat}(d:t<=na)(h:∀ i x,t<=i->i < na->a.toList[i]? = some x->∀ y∈b.toList.take nb,c y x=true):Wh c a b (out++(a.extract t na).reverse) t nb:=by
 have e:na-(na-t)=t:=by lia
 have:=w.pa sa (k:=na-t) (by lia) (by rw[e];exact h);rwa[e]at this
theorem Wh.push(w:Wh c a b out na nb)(sa:Srt c a.toList){x:Keyed}(g:1<=na)(d:a.toList[na-1]? = some x)(h:∀ y∈b.toList.take nb,c y x=true):Wh c a b (out.push x) (na-1) nb:=by
 have:=w.pa sa g (λi z j k f=>by rw[show i=na-1 by lia,d]at f;cases f;exact h);have e:out++(a.extract (na-1) na).reverse=out.push x:=by
  apply Array.toList_inj.mp;rw[Array.toList_append,Array.toList_reverse,fA,show na-(na-1)=1 by lia,mF d];simp
 rwa[e]at this
def mG{l:List Keyed}{i:Nat}{x:Keyed}(h:l[i]? = some x)(s:Srt c l):∀ y∈l.take (i+1),y=x\/c y x=true:=by
 have:=s.sublist (List.take_sublist (i+1) l);obtain⟨a,rfl⟩:=a1a.mp h;rw[List.take_succ_eq_append_getElem a]at this ⊢;intro y b;rcases a3c.mp b with z | z;exact .inr ((List.pairwise_append.mp this).2.2 y z _ (a1b.mpr rfl));exact .inl (a1b.mp z)
end
section
variable{M:Model}{A:Around}{E:Value->Shared->Prop}{s:Shared}{κ:SortKind}{G:Keyed->Prop}{c:Keyed->Keyed->Bool}
noncomputable def bX9:Array Keyed->Array Keyed->StateT SortSt Sem (Array Keyed):=sortPriv% PySem.Builtin.mergeHi
def bC6(C:Cm M A s κ G c){a b:Array Keyed}{st:SortSt}{Q:Array Keyed->SortSt->Prop}(hk:kindOf st=κ)(ga:∀ x∈a.toList,G x)(gb:∀ x∈b.toList,G x)(sa:Srt c a.toList)(sb:Srt c b.toList)
  (hd:∀ x∈a.toList,∀ y∈b.toList,c x y=true\/c y x=true) (h1:1<=a.size) (h2:1<=b.size) (hf:∀ y∈b.toList.take 1,∀ x∈a.toList,c y x=true) (hl:∀ x∈a.toList.drop (a.size-1),∀ y∈b.toList,c y x=true)
  (q:∀ r st',Like st st'->Rs c a.toList b.toList r.toList->Q r st'):wpS M A E s (bX9 a b) Q st:=by
 have la:a.toList.length=a.size:=rfl;have lb:b.toList.length=b.size:=rfl;refine wpS_bind (wpS_lift (a3K ⟨rfl,?_⟩));obtain⟨a0,ha0,V,ha2⟩:=yA (a:=a) (i:=a.size-1) (by lia);refine wpS_bind (bV ha0 ?_);dsimp only;have w0:Wh c a b #[a0] (a.size-1) b.size:=by
  have:=(Wh.mk (c:=c) (a:=a) (b:=b) (out:=#[]) (na:=a.size) (nb:=b.size) ⟨by simp,.nil,λ_ h=>by simp at h,by simp,by simp⟩ (a6a _) (a6a _)).push sa h1 V
   (by rw[← lb,List.take_length];exact hl a0 (by rw[lP V];exact a3a))
  exact this
 have W:∀ {o:Array Keyed} {i j:Nat},Wh c a b o i j->(i=0\/j=0)->Rs c a.toList b.toList (a.extract 0 i++b.extract 0 j++o.reverse).toList:=λw h=>w.done sa sb h;have ls:∀ {o:Array Keyed} {i j:Nat},Wh c a b o i j->j=1->Rs c a.toList b.toList (b.extract 0 j++a.extract 0 i++o.reverse).toList:=λw h=>w.last sa sb h hf;by_cases n1:a.size-1=0;rw[a3s (a3v.mpr n1)];exact wpS_pure (q _ _ .rfl' (W w0 (.inl n1)))
 rw[a3u (by rw[a3v];exact n1)];by_cases n2:b.size=1;rw[a3s (a3v.mpr n2)];exact wpS_pure (q _ _ .rfl' (ls w0 n2))
 rw[a3u (by rw[a3v];exact n2)];refine wpS_bind (wpS_get ?_);refine wpS_bind (wpS_mono (wpS_forRange (λi (r:Option (Array Keyed)×Nat×Nat×Array Keyed×Nat) st'=>Like st st'/\r.1=none/\Wh c a b r.2.2.2.1 r.2.1 r.2.2.1/\1<=r.2.1/\2<=r.2.2.1/\i+1<=r.2.2.2.1.size)
  (Q:=λr st'=>Like st st'/\∃ o,r.1=some o/\Rs c a.toList b.toList o.toList) ?_ ?_ ⟨.rfl',rfl,w0,by dsimp only;lia,by dsimp only;lia,a6a _⟩) ?_)
 ·rintro n ⟨o,na,nb,out,m⟩ X-hn ⟨l1,rfl,mg,g,f,p⟩;dsimp only at mg g f p ⊢;refine wpS_bind (wpS_mono (wpS_forRange (λi (r:Option (Array Keyed)×Nat×Nat×Array Keyed×Nat×Nat) st'=>Like st st'/\r.1=none/\Wh c a b r.2.2.2.1 r.2.1 r.2.2.1/\1<=r.2.1/\2<=r.2.2.1/\n+1+i<=r.2.2.2.1.size)
   (Q:=λr st'=>Like st st'/\((r.1=none/\Wh c a b r.2.2.2.1 r.2.1 r.2.2.1/\1<=r.2.1/\2<=r.2.2.1/\n+2<=r.2.2.2.1.size)\/∃ o,r.1=some o/\Rs c a.toList b.toList o.toList)) ?_ ?_ ⟨l1,rfl,mg,g,f,by dsimp only;lia⟩) ?_)
  ·rintro i ⟨o,na,nb,out,Y,Z⟩ I-hi ⟨B,rfl,mg,g,f,p⟩;dsimp only at mg g f p ⊢;have za:=mg.ha;have zb:=mg.hb;obtain⟨y,J,K,L⟩:=yA (a:=b) (show nb-1 < b.size by lia);obtain⟨x,N,O,P⟩:=yA (a:=a) (show na-1 < a.size by lia);have sx:=mG O sa;have sy:=mG K sb;rw[show na-1+1=na by lia]at sx;rw[show nb-1+1=nb by lia]at sy;refine wpS_bind (bV J (wpS_bind (bV N (wpS_bind (bM4 C (B.k.trans hk) (gb y L) (ga x P) ?_)))));dsimp only;cases e:c y x with
   | true=>
     rw[a3s rfl];refine wpS_bind (bV N ?_);have d:=mg.push sa g O (λz F=>(sy z F).elim (λh=>h ▸ e) λh=>C.tr h e);by_cases H:na-1=0;rw[a3s (a3v.mpr H)];exact wpS_pure ⟨B,.inr ⟨_,rfl,W d (.inl H)⟩⟩
     rw[a3u (by rw[a3v];exact H)];refine wX ?_ ?_;exact wpS_pure ⟨B,.inl ⟨rfl,d,by dsimp only;lia,f,by dsimp only;rw[Array.size_push];lia⟩⟩;exact wpS_pure ⟨B,rfl,d,by dsimp only;lia,f,by dsimp only;rw[Array.size_push];lia⟩
   | false=>
     rw[a3u (by decide)];have e':c x y=true:=(hd x P y L).resolve_right (by rw[e];decide);refine wpS_bind (bV J ?_);have d:=(mg.symm.push sb (by lia) K (λz F=>(sx z F).elim (λh=>h ▸ e') λh=>C.tr h e')).symm;by_cases H:nb-1=1;rw[a3s (a3v.mpr H)];exact wpS_pure ⟨B,.inr ⟨_,rfl,ls d H⟩⟩
     rw[a3u (by rw[a3v];exact H)];refine wX ?_ ?_;exact wpS_pure ⟨B,.inl ⟨rfl,d,g,by dsimp only;lia,by dsimp only;rw[Array.size_push];lia⟩⟩;exact wpS_pure ⟨B,rfl,d,g,by dsimp only;lia,by dsimp only;rw[Array.size_push];lia⟩
  ·rintro⟨o,na,nb,out,Y,Z⟩ I ⟨B,rfl,mg,g,f,p⟩;have:=mg.len;dsimp only at mg g f p this;lia
  rintro⟨o,na,nb,out,Y,Z⟩ I ⟨B,⟨rfl,mg,g,f,p⟩ | ⟨r,rfl,hr⟩⟩
  case inr=>exact wpS_pure ⟨B,r,rfl,hr⟩
  dsimp only at mg g f p ⊢;refine wpS_bind (wpS_lift (a3K ⟨rfl,?_⟩));refine wpS_bind (wpS_mono (wpS_forRange (λi (r:Option (Array Keyed)×Nat×Nat×Array Keyed×Nat×Nat×Nat) st'=>Like st st'/\r.1=none/\Wh c a b r.2.2.2.1 r.2.1 r.2.2.1/\1<=r.2.1/\2<=r.2.2.1/\n+2+i<=r.2.2.2.1.size)
   (Q:=λr st'=>Like st st'/\((r.1=none/\Wh c a b r.2.2.2.1 r.2.1 r.2.2.1/\1<=r.2.1/\2<=r.2.2.1/\n+2<=r.2.2.2.1.size)\/∃ o,r.1=some o/\Rs c a.toList b.toList o.toList)) ?_ ?_ ⟨B,rfl,mg,g,f,p⟩) ?_)
  ·rintro i ⟨o,na,nb,out,m,Y,Z⟩ I-hi ⟨B,rfl,mg,g,f,p⟩;dsimp only at mg g f p ⊢;have za:=mg.ha;have zb:=mg.hb;obtain⟨y,J,K,L⟩:=yA (a:=b) (show nb-1 < b.size by lia);have sy:=mG K sb;rw[show nb-1+1=nb by lia]at sy;by_cases hm:m > 1
   case' pos=>rw[a3s hm]
   case' neg=>rw[a3u hm]
   all_goals
    refine wpS_bind (nW λst3 l3=>wpS_bind (bV J (wpS_bind (aW8 C ((B.trans l3).k.trans hk) ga (gb y L) sa (λx hx=>hd x hx y L) (b:=0) (n:=na) (by lia) (by lia) λt k1 k2 k3=>?_))))
    replace l3:=B.trans l3
    dsimp only;have d:Wh c a b (out++(a.extract t na).reverse) t nb:=mg.to sa k1 λi x i1 i2 i3 z F=>by
     have:=k3 i x i1 i2 (by rw[a8f];exact i3);exact(sy z F).elim (λh=>h ▸ this) λh=>C.tr h this
    have f2:∀ z∈a.toList.take t,c z y=true:=λz F=>by
     obtain⟨j,hj⟩:=List.getElem?_of_mem F;rw[List.getElem?_take]at hj;split at hj;rename_i h;exact k2 j z h (by rw[a8f];exact hj);cases hj
    have x4:n+2+i<=(out++(a.extract t na).reverse).size:=by rw[Array.size_append];lia
    by_cases hk0:na-t > 0
    case' pos=>
     rw[a3s hk0];generalize out++(a.extract t na).reverse=l at d x4 ⊢;by_cases H:t=0;rw[a3s (a3v.mpr H)];exact wpS_pure ⟨l3,.inr ⟨_,rfl,W d (.inl H)⟩⟩
     rw[a3u (by rw[a3v];exact H)]
    case' neg=>
     rw[a3u hk0];obtain rfl:t=na:=by lia
     replace d:=mg
     replace x4:=p
     have H:¬ t=0:=by lia
     generalize out=l at d x4 ⊢
    all_goals
     refine wpS_bind (bV J ?_);have S:=(d.symm.push sb (by lia) K f2).symm;by_cases e4:nb-1=1;rw[a3s (a3v.mpr e4)];exact wpS_pure ⟨l3,.inr ⟨_,rfl,ls S e4⟩⟩
     rw[a3u (by rw[a3v];exact e4)];obtain⟨x,N,O,P⟩:=yA (a:=a) (show t-1 < a.size by lia);have sx:=mG O sa;rw[show t-1+1=t by lia]at sx;refine wpS_bind (bV N (wpS_bind (aW8 C (l3.k.trans hk) gb (ga x P) sb (λz F=>(hd x P z F).symm) (b:=0) (n:=nb-1) (by lia) (by lia) λj j1 j2 j3=>?_)));dsimp only;have D:Wh c a b (l.push y++(b.extract j (nb-1)).reverse) t j:=(S.symm.to sb j1 λi u i1 i2 i3 z F=>by
      have:=j3 i u i1 i2 (by rw[a8f];exact i3);exact(sx z F).elim (λh=>h ▸ this) λh=>C.tr h this).symm
     have f4:∀ z∈b.toList.take j,c z x=true:=λz F=>by
      obtain⟨v,hv⟩:=List.getElem?_of_mem F;rw[List.getElem?_take]at hv;split at hv;rename_i h;exact j2 v z h (by rw[a8f];exact hv);cases hv
     have x5:n+2+i < (l.push y++(b.extract j (nb-1)).reverse).size:=by rw[Array.size_append,Array.size_push];lia
     by_cases hj0:nb-1-j > 0
     case' pos=>
      rw[a3s hj0];generalize l.push y++(b.extract j (nb-1)).reverse=R at D x5 ⊢;by_cases e5:j=1;rw[a3s (a3v.mpr e5)];exact wpS_pure ⟨l3,.inr ⟨_,rfl,ls D e5⟩⟩
      rw[a3u (by rw[a3v];exact e5)];by_cases T:j=0;rw[a3s (a3v.mpr T)];exact wpS_pure ⟨l3,.inr ⟨_,rfl,W D (.inr T)⟩⟩
      rw[a3u (by rw[a3v];exact T)]
      replace f:2<=j:=by lia
     case' neg=>
      rw[a3u hj0];obtain rfl:j=nb-1:=by lia
      replace D:=S
      replace x5:n+2+i < (l.push y).size:=by rw[Array.size_push];lia
      replace f:2<=nb-1:=by lia
      generalize l.push y=R at D x5 ⊢;generalize nb-1=j at D f4 f ⊢
     all_goals
      refine wpS_bind (bV N ?_);have U:=D.push sa (by lia) O f4;by_cases T:t-1=0;rw[a3s (a3v.mpr T)];exact wpS_pure ⟨l3,.inr ⟨_,rfl,W U (.inl T)⟩⟩
      rw[a3u (by rw[a3v];exact T)];have x6:n+2+(i+1)<=(R.push x).size:=by rw[Array.size_push];lia
      refine wX ?_ ?_;exact wpS_pure ⟨l3,.inl ⟨rfl,U,by dsimp only;lia,f,by dsimp only;lia⟩⟩;exact wpS_pure ⟨l3,rfl,U,by dsimp only;lia,f,x6⟩
  ·rintro⟨o,na,nb,out,m,Y,Z⟩ I ⟨B,rfl,mg,g,f,p⟩;have:=mg.len;dsimp only at mg g f p this;lia
  rintro⟨o,na,nb,out,m,Y,Z⟩ I ⟨B,⟨rfl,mg,g,f,p⟩ | ⟨r,rfl,hr⟩⟩
  case inr=>exact wpS_pure ⟨B,r,rfl,hr⟩
  dsimp only at mg g f p ⊢;exact wpS_bind (nW λst3 l3=>wpS_pure ⟨B.trans l3,rfl,mg,g,f,p⟩)
 ·rintro⟨o,na,nb,out,m⟩ X ⟨l1,rfl,mg,g,f,p⟩;have:=mg.len;dsimp only at mg g f p this;lia
 ·rintro⟨o,na,nb,out,m⟩ X ⟨l1,r,rfl,hr⟩;exact wpS_pure (q _ _ l1 hr)
end
section
variable{M:Model}{A:Around}{E:Value->Shared->Prop}{s:Shared}{κ:SortKind}{G:Keyed->Prop}{c:Keyed->Keyed->Bool}
def cP0{σ:Type}{Q:PUnit->σ->Prop}{st st':σ}(h:Q ⟨⟩ st'):wpS M A E s (set st':StateT σ Sem PUnit) Q st:=by
 unfold wpS;rw[StateT.run_set];exact a3t ⟨rfl,h⟩
theorem zI(o:Nat):∀ (m:List Keyed) (k:Nat) (a:Array Keyed),o+k+m.length<=a.size->((m.zipIdx k).foldl (λa (p:Keyed×Nat)=>a.setIfInBounds (o+p.2) p.1) a).toList=a.toList.take (o+k)++m++a.toList.drop (o+k+m.length)
 | [],k,a,h=>by simp
 | x::m,k,a,h=>by
   rw[List.zipIdx_cons,List.foldl_cons,zI o m (k+1) _ (by simp at h ⊢;lia)];simp only[Array.toList_setIfInBounds,List.length_cons];have b:o+k < a.toList.length:=by simp at h ⊢;lia
   rw[show o+(k+1)=o+k+1 by lia,List.take_succ_eq_append_getElem (by simpa using b),List.getElem_set_self,List.take_set_of_le (by lia),List.drop_set_of_lt (by lia)];simp[Nat.add_assoc,Nat.add_comm 1]
def _root_.List.drop_take_comm'{l:List Keyed}{j n:Nat}(h:j<=n):(l.take n).drop j=(l.drop j).take (n-j):=List.drop_take ..
def bC7(C:Cm M A s κ G c){i sa na pa nb pb sb:Nat}{st:SortSt}{Q:Bool->SortSt->Prop}(D:PyProof.Rows.kindOf st=κ)(U:∀ x∈(arrOf st).toList,G x)(N:failedOf st=none){p q:List Keyed}{X Y:List Keyed}
  (ha:(arrOf st).toList=p++(X++(Y++q))) (l:p.length=sa) (m:X.length=na) (e3:Y.length=nb) (e4:sb=sa+na) (hp:(pendingOf st)[i]? = some (sa,na,pa)) (O:(pendingOf st)[i+1]? = some (sb,nb,pb)) (h1:1<=na) (h2:1<=nb)
  (H:Srt c X) (I:Srt c Y) (hd:∀ x∈X,∀ y∈Y,c x y=true\/c y x=true)
  (k:∀ (st':SortSt) Z,PyProof.Rows.kindOf st'=κ->failedOf st'=none->pendingOf st'=((pendingOf st).setIfInBounds i (sa,na+nb,pa)).eraseIdxIfInBounds (i+1)->(arrOf st').toList=p++(Z++q)->Z.Perm (X++Y)->Srt c Z->Q true st') :
  wpS M A E s (mergeAt' i) Q st:=by
 have P:∀ x∈X,G x:=λx o=>U x (by rw[ha];simp[o]);have R:∀ x∈Y,G x:=λx o=>U x (by rw[ha];simp[o]);subst l m e3 e4;have V:((arrOf st).toList.drop p.length).take X.length=X:=by rw[ha];simp
 have W:((arrOf st).toList.drop (p.length+X.length)).take Y.length=Y:=by rw[ha,← List.append_assoc];simp[List.drop_append,List.take_append]
 refine wpS_bind (wpS_get ?_);rw[hp,O];dsimp only;refine wpS_bind (cP0 ?_);obtain⟨y,b,rfl⟩:∃ y b,Y=y::b:=by cases Y with | nil=>simp at h2 | cons y b=>exact⟨y,b,rfl⟩
 have yY:∀ z∈y::b,z=y\/c y z=true:=λz d=>(a1c.mp d).imp id λh=>(a9f.mp I).1 z h;refine wpS_bind (bV (x:=y) ?_ ?_)
 ·have:(arrOf st).toList[p.length+X.length]? = some y:=by rw[ha,← List.append_assoc,← a9a];simp
  simpa using this
 refine wpS_bind (aQ4 C D V rfl P (R y a3a) H (λx o=>hd x o y a3a) h1 λj j1 S j3=>?_);dsimp only;have J:=List.pairwise_append.mp (show Srt c (X.take j++X.drop j) by rw[List.take_append_drop];exact H);have w:∀ x,c x y=true->∀ z∈y::b,c x z=true:=λx h z d=>(yY z d).elim (λe=>e ▸ h) (C.tr h);have fin:∀ Z:List Keyed,Z=X++(y::b)->Srt c Z->Q true (SortSt.mk' (PyProof.Rows.kindOf st) (arrOf st) (((pendingOf st).setIfInBounds i (p.length,X.length+(y::b).length,pa)).eraseIdxIfInBounds (i+1)) (gallopOf st) (failedOf st)):=λZ e h=>k _ Z D N rfl (by rw[e,List.append_assoc];exact ha) (by rw[e]) h;by_cases b1:X.length-j=0;rw[a3s (a3v.mpr b1)];refine wpS_pure (fin _ rfl (List.pairwise_append.mpr ⟨H,I,λx o z d=>w x (S x ?_) z d⟩));rw[a2c (by lia)];exact o
 rw[a3u (by rw[a3v];exact b1)];obtain⟨x,o⟩:∃ x,X[X.length-1]? = some x:=⟨X[X.length-1],a0a (by lia)⟩;have xX:∀ z∈X,z=x\/c z x=true:=λz d=>mG o H z (by rw[show X.length-1+1=X.length by lia,List.take_length];exact d);have mx:=a2b o;refine wpS_bind (bV (x:=x) ?_ ?_)
 ·have:(arrOf st).toList[p.length+(X.length-1)]? = some x:=by rw[ha,a5b (by lia),Nat.add_sub_cancel_left,a7c (by lia)];exact o
  rw[show p.length+j+(X.length-j)-1=p.length+(X.length-1) by lia];simpa using this
 refine wpS_bind (aQ4 C D W rfl R (P x mx) I (λz d=>(hd x mx z d).symm) (by simp) λn n1 n2 n3=>?_);dsimp only;by_cases T:n=0;rw[a3s (a3v.mpr T)];subst T;exact wpS_pure (fin _ rfl (List.pairwise_append.mpr ⟨H,I,λz d u g=>(xX z d).elim (λe=>e ▸ n3 u g) λh=>C.tr h (n3 u g)⟩))
 rw[a3u (by rw[a3v];exact T)];have K:=List.pairwise_append.mp (show Srt c ((y::b).take n++(y::b).drop n) by rw[List.take_append_drop];exact I);have l:((arrOf st).extract (p.length+j) (p.length+X.length)).toList=X.drop j:=by
  rw[fA,show p.length+X.length-(p.length+j)=X.length-j by lia,← List.drop_drop,← List.drop_take_comm' j1,V]
 have m:((arrOf st).extract (p.length+X.length) (p.length+X.length+n)).toList=(y::b).take n:=by
  rw[fA,Nat.add_sub_cancel_left,← W,List.take_take,Nat.min_eq_left n1]
 have L:((arrOf st).extract (p.length+j) (p.length+X.length)).size=X.length-j:=by rw[← a8d,l,a7g]
 have z2:((arrOf st).extract (p.length+X.length) (p.length+X.length+n)).size=n:=by rw[← a8d,m,a2g];lia
 have q1:∀ z∈X.drop j,G z:=λz d=>P z (List.mem_of_mem_drop d);have q2:∀ z∈(y::b).take n,G z:=λz d=>R z (a7f d);have q3:∀ z∈X.drop j,∀ u∈(y::b).take n,c z u=true\/c u z=true:=λz d u g=>hd z (List.mem_of_mem_drop d) u (a7f g);have q4:∀ u∈((y::b).take n).take 1,∀ z∈X.drop j,c u z=true:=λu g z d=>by
  rw[List.take_take,show min 1 n=1 by lia]at g;cases a1b.mp g;exact j3 z d
 have q5:∀ z∈(X.drop j).drop (X.length-j-1),∀ u∈(y::b).take n,c u z=true:=λz d u g=>by
  rw[List.drop_drop,show j+(X.length-j-1)=X.length-1 by lia,lP o,show X.length-1+1=X.length by lia,List.drop_length]at d;cases a1b.mp d;exact n2 u g
 by_cases b3:X.length-j<=n
 case' pos=>
  rw[a3s b3];refine wpS_bind (bC5 C D (by rw[l];exact q1) (by rw[m];exact q2) (by rw[l];exact J.2.1) (by rw[m];exact K.1) (by rw[l,m];exact q3) (a3b (by lia) (Nat.le_of_eq L.symm)) (a3b (by lia) (Nat.le_of_eq z2.symm)) (by rw[l,m];exact q4) (by rw[L,l,m];exact q5) λr t B rs=>?_)
 case' neg=>
  rw[a3u b3];refine wpS_bind (bC6 C D (by rw[l];exact q1) (by rw[m];exact q2) (by rw[l];exact J.2.1) (by rw[m];exact K.1) (by rw[l,m];exact q3) (a3b (by lia) (Nat.le_of_eq L.symm)) (a3b (by lia) (Nat.le_of_eq z2.symm)) (by rw[l,m];exact q4) (by rw[L,l,m];exact q5) λr t B rs=>?_)
 all_goals
  rw[l,m]at rs;have rl:r.toList.length=X.length-j+n:=by rw[rs.1.length_eq,a9a,a7g,a2g];lia
  have mr:∀ u∈r.toList,u∈X.drop j\/u∈(y::b).take n:=λu g=>a3c.mp (rs.1.mem_iff.mp g);refine wpS_bind (wpS_modify (wpS_bind (wpS_get (wpS_pure ?_))));show Q (failedOf t).isNone _;rw[show(failedOf t).isNone=true by rw[B.f];show(failedOf st).isNone=true;rw[N];rfl];refine k _ (X.take j++r.toList++(y::b).drop n) (B.k.trans D) (B.f.trans N) B.p ?_ ?_ (List.pairwise_append.mpr ⟨List.pairwise_append.mpr ⟨J.1,rs.2,λu g v F=>?_⟩,K.2.1,λu g v F=>?_⟩)
  ·have:=zI (p.length+j) r.toList 0 (arrOf t) (by rw[B.a];show _<=(arrOf st).size;rw[← a8d,ha,rl];simp at n1 ⊢;lia);refine this.trans ?_;rw[B.a];show(arrOf st).toList.take _++_++(arrOf st).toList.drop _=_;rw[rl,Nat.add_zero,show p.length+j+(X.length-j+n)=p.length+X.length+n by lia,ha];have t1:(p++(X++(y::b++q))).take (p.length+j)=p++X.take j:=by
    rw[List.take_append,a2c (by lia),Nat.add_sub_cancel_left,List.take_append,show j-X.length=0 by lia];simp
   have t2:(p++(X++(y::b++q))).drop (p.length+X.length+n)=(y::b).drop n++q:=by
    rw[← List.append_assoc,← a9a,← List.drop_drop,List.drop_left,List.drop_append_of_le_length n1]
   rw[t1,t2];simp
  ·have:(X.take j++(X.drop j++(y::b).take n)++(y::b).drop n)=X++(y::b):=by
    rw[← List.append_assoc,List.take_append_drop,List.append_assoc,List.take_append_drop]
   exact((rs.1.append_left _).append_right _).trans (by rw[this])
  ·rcases mr v F with h | h;exact J.2.2 u g v h;exact w u (S u g) v (a7f h)
  ·rcases a3c.mp g with h | h;exact w u (S u h) v (List.mem_of_mem_drop F);rcases mr u h with h | h;exact(xX u (List.mem_of_mem_drop h)).elim (λe=>e ▸ n3 v F) λe=>C.tr e (n3 v F);exact K.2.2 u h v F
end
section
variable{M:Model}{A:Around}{E:Value->Shared->Prop}{s:Shared}{κ:SortKind}{G:Keyed->Prop}{c:Keyed->Keyed->Bool}
def Dst(c:Keyed->Keyed->Bool)(l:List Keyed):Prop:=l.Pairwise λx y=>c x y=true\/c y x=true
def Dst.perm{l a:List Keyed}(h:Dst c l)(p:l.Perm a):Dst c a:=p.pairwise h λh=>h.symm
def Dst.two{l:List Keyed}(h:Dst c l){i j:Nat}{x y:Keyed}(a:i < j)(b:l[i]? = some x)(d:l[j]? = some y):c x y=true\/c y x=true:=by
 obtain⟨e,rfl⟩:=a1a.mp b;obtain⟨f,rfl⟩:=a1a.mp d;exact List.pairwise_iff_getElem.mp h i j e f a
def nY{a:Array Keyed}{p R:List Keyed}(ha:a.toList=p++R)(i:Nat):a[p.length+i]? = R[i]?:=by
 rw[← a0c,ha,a5b (by lia),Nat.add_sub_cancel_left]
def uV{l:List Keyed}{i:Nat}(h:i < l.length):∃ x,l[i]? = some x/\x∈l:=⟨l[i],a0a h,a9g h⟩
def wZ{l:List Keyed}{n:Nat}{x:Keyed}(h:l[n]? = some x):l.take (n+1)=l.take n++[x]:=by
 obtain⟨a,rfl⟩:=a1a.mp h;exact List.take_succ_eq_append_getElem a
def aQ5{r:Keyed->Keyed->Prop}(tr:∀ {x y z},r x y->r y z->r x z){l:List Keyed}{n:Nat}{x z:Keyed}(d:1<=n)(hs:(l.take n).Pairwise r)(b:l[n]? = some x)(hz:l[n-1]? = some z)(h:r z x):(l.take (n+1)).Pairwise r:=by
 rw[wZ b];obtain⟨m,rfl⟩:∃ m,n=m+1:=⟨n-1,by lia⟩;rw[Nat.add_sub_cancel]at hz;refine List.pairwise_append.mpr ⟨hs,List.pairwise_singleton _ _,λy a u c=>?_⟩;cases a1b.mp c;rw[wZ hz]at hs a;rcases a3c.mp a with e | e;exact tr ((List.pairwise_append.mp hs).2.2 y e z (a1b.mpr rfl)) h;cases a1b.mp e;exact h
def aQ6{a:Array Keyed}{p R:List Keyed}{n:Nat}(ha:a.toList=p++R)(hn:n<=R.length):(mirror a p.length (p.length+n) ((p.length+n-p.length) / 2)).toList=p++((R.take n).reverse++R.drop n):=by
 have sz:a.size=p.length+R.length:=by rw[← a8d,ha,a9a]
 apply a5i;intro k;rw[a0c,getElem?_mirror_all (by lia)];rw[← a0c,← a0c,ha];have b:(R.take n).reverse.length=n:=by simp;lia
 by_cases c:k < p.length;rw[a3u (by lia),a7c c,a7c c];by_cases d:k < p.length+n;rw[a3s (by lia)];refine(a5b (by lia)).trans (Eq.trans ?_ (a5b (by lia)).symm);rw[a7c (by lia),List.getElem?_reverse (by simp at b ⊢;lia),List.getElem?_take,a3s (by simp;lia)];congr 1;simp;lia;rw[a3u (by lia)];refine(a5b (by lia)).trans (Eq.trans ?_ (a5b (by lia)).symm);rw[a5b (by lia),List.getElem?_drop,b];congr 1;lia
def aQ7{a:Array Keyed}{p R:List Keyed}{k l:Nat}{x:Keyed}(ha:a.toList=p++R)(b:R[k]? = some x)(h:l<=k):(bubble a (p.length+k) (p.length+k-(p.length+l))).toList=p++(R.take l++(x::((R.drop l).take (k-l)++R.drop (k+1)))):=by
 have m:=(a1a.mp b).1;have sz:a.size=p.length+R.length:=by rw[← a8d,ha,a9a]
 apply a5i;intro i;rw[a0c,getElem?_bubble (by lia) _ (by lia),nY ha,b];rw[← a0c,← a0c,ha];have lt:(R.take l).length=l:=by simp;lia
 have d:((R.drop l).take (k-l)).length=k-l:=by simp;lia
 by_cases c:i < p.length;rw[a3u (by lia),a3u (by lia),a7c c,a7c c];obtain⟨j,rfl⟩:∃ j,i=p.length+j:=⟨i-p.length,by lia⟩;refine Eq.trans ?_ (a5b (by lia)).symm;rw[Nat.add_sub_cancel_left];by_cases e:j < l;rw[a3u (by lia),a3u (by lia)];refine(a5b (by lia)).trans (Eq.trans ?_ (a7c (by lia)).symm);rw[Nat.add_sub_cancel_left,List.getElem?_take,a3s e];refine Eq.trans ?_ (a5b (by lia)).symm;rw[lt];by_cases f:j=l;subst f;rw[a3s (by lia),Nat.sub_self];rfl;rw[a3u (by lia)];obtain⟨u,g⟩:∃ u,j-l=u+1:=⟨j-l-1,by lia⟩;rw[g,a9c];by_cases n:j<=k;rw[a3s (by lia)];refine(a5b (by lia)).trans (Eq.trans ?_ (a7c (by lia)).symm);rw[List.getElem?_take,a3s (by lia),List.getElem?_drop];congr 1;lia;rw[a3u (by lia)];refine(a5b (by lia)).trans (Eq.trans ?_ (a5b (by lia)).symm);rw[List.getElem?_drop,d];congr 1;lia
def cE5(C:Cm M A s κ G c){p R:List Keyed}{st:SortSt}{a:Nat}{Q:Option (Option Nat)×Nat->SortSt->Prop}{f:Nat->Option (Option Nat)×Nat->StateT SortSt Sem (ForInStep (Option (Option Nat)×Nat))}(ha:(arrOf st).toList=p++R)(h:∀ x∈R,G x)(j:Dst c R)(u:1<=a)(v:a<=R.length)(hs:Srt c (R.take a))
  (k:∀ i n x z (Q:ForInStep (Option (Option Nat)×Nat)->SortSt->Prop),(arrOf st)[p.length+n]? = some x->(arrOf st)[p.length+n-1]? = some z->G x->G z->(c x z=true->Q (.done (none,n)) st)->(c x z=false->Q (.yield (none,n+1)) st)->wpS M A E s (f i (none,n)) Q st)
  (q:∀ n,a<=n->n<=R.length->Srt c (R.take n)->(n=R.length\/∃ x z,R[n]? = some x/\R[n-1]? = some z/\c x z=true)->Q (none,n) st):wpS M A E s (forIn [a:R.length] (none,a) f) Q st:=by
 refine wpS_forRange (λi (r:Option (Option Nat)×Nat) st'=>st=st'/\r=(none,i)/\Srt c (R.take i)) ?_ ?_ ⟨rfl,rfl,hs⟩;rintro i r st' l m ⟨rfl,rfl,b⟩;obtain⟨x,d,o⟩:=uV m;obtain⟨z,g,t⟩:=uV (show i-1 < R.length by lia);refine k i i x z _ (by rw[nY ha];exact d) (by rw[show p.length+i-1=p.length+(i-1) by lia,nY ha];exact g) (h x o) (h z t) (λe=>q i l (by lia) b (.inr ⟨x,z,d,g,e⟩)) λe=>⟨rfl,rfl,aQ5 (r:=λx y=>c x y=true) C.tr (by lia) b d g ?_⟩;exact(j.two (show i-1 < i by lia) g d).resolve_right (by rw[e];decide);rintro r st' ⟨rfl,rfl,b⟩;exact q _ (by lia) (by lia) b (.inl (by lia))
def aQ8(C:Cm M A s κ G c){p R:List Keyed}{st:SortSt}{Q:Option Nat->SortSt->Prop}(d:PyProof.Rows.kindOf st=κ)(ha:(arrOf st).toList=p++R)(f:∀ x∈R,G x)(u:Dst c R)(J:1<=R.length)
  (q:∀ n (st':SortSt) g,1<=n->n<=R.length->PyProof.Rows.kindOf st'=κ->pendingOf st'=pendingOf st->failedOf st'=failedOf st->(arrOf st').toList=p++g->g.Perm R->Srt c (g.take n)->Q (some n) st'):wpS M A E s (countRun' p.length R.length) Q st:=by
 refine wpS_bind (cE5 C ha f u (a6a 1) J (by obtain⟨x,g,rfl⟩:∃ x g,R=x::g:=(by cases R with | nil=>simp at J | cons x g=>exact⟨x,g,rfl⟩);exact List.pairwise_singleton _ _) (λi n x z Q a b v w B D=>?_) λn K F j P=>?_)
 ·refine wpS_bind (oV C d a b v w ?_);dsimp only;cases e:c x z with
  | true=>exact wpS_pure (B e)
  | false=>exact wpS_pure (D e)
 dsimp only;by_cases H:n=R.length;rw[a3s (a3v.mpr H)];exact wpS_pure (q n st R K F d rfl rfl ha (.refl _) j)
 rw[a3u (by rw[a3v];exact H)];by_cases L:n > 1
 ·rw[a3s L];obtain⟨x,a,o⟩:=uV (show 0 < R.length by lia);obtain⟨z,b,t⟩:=uV (show n-1 < R.length by lia);refine wpS_bind (oV C d (x:=x) (y:=z) (by have:=nY ha 0;rw[Nat.add_zero]at this;rw[this];exact a) (by rw[show p.length+n-1=p.length+(n-1) by lia,nY ha];exact b) (f x o) (f z t) ?_);have:c x z=true:=by
   obtain⟨Z,S⟩:=a1a.mp a;obtain⟨g3,T⟩:=a1a.mp b;have:=List.pairwise_iff_getElem.mp j 0 (n-1) (by simp;lia) (by simp;lia) (by lia);simpa[S,T]using this
  rw[this];exact wpS_pure (q n st R K F d rfl rfl ha (.refl _) j)
 rw[a3u L];obtain rfl:n=1:=by lia
 refine wpS_bind (wpS_lift (a3K ⟨rfl,?_⟩));refine wpS_bind (wpS_mono (wpS_forRange (λi (r:Option (Option Nat)×Nat×Nat) st'=>st=st'/\r=(none,i,0)/\(R.take i).Pairwise (λx y=>c y x=true))
  (Q:=λr st'=>st=st'/\∃ n,r=(none,n,0)/\2<=n/\n<=R.length/\(R.take n).Pairwise (λx y=>c y x=true)) ?_ ?_ ⟨rfl,rfl,?_⟩) ?_)
 ·rintro i r st' F j ⟨rfl,rfl,k⟩;obtain⟨x,a,o⟩:=uV j;obtain⟨z,b,t⟩:=uV (show i-1 < R.length by lia);have N:(arrOf st)[p.length+i]? = some x:=by rw[nY ha];exact a
  have O:(arrOf st)[p.length+i-1]? = some z:=by rw[show p.length+i-1=p.length+(i-1) by lia,nY ha];exact b
  refine wpS_bind (oV C d N O (f x o) (f z t) ?_);dsimp only;cases e:c x z with
  | true=>
    exact wpS_pure ⟨rfl,rfl,aQ5 (r:=λx y=>c y x=true) (λh h'=>C.tr h' h) (by lia) k a b e⟩
  | false=>
    rw[a3u (by decide)];have U:c z x=true:=(u.two (show i-1 < i by lia) b a).resolve_right (by rw[e];decide);refine wpS_bind (oV C d O N (f z t) (f x o) ?_);rw[U];exact wpS_pure ⟨rfl,i,rfl,by lia,by lia,k⟩
 ·rintro r st' ⟨rfl,rfl,k⟩;exact⟨rfl,_,rfl,by lia,by lia,k⟩
 ·obtain⟨x,z,a,b,e⟩:=P.resolve_left H;exact aQ5 (r:=λx y=>c y x=true) (λh h'=>C.tr h' h) (a6a 1) (by rw[wZ b];exact List.pairwise_singleton _ _) a b e
 rintro r st' ⟨rfl,n,rfl,k,I,V⟩;dsimp only;refine wpS_bind (wpS_modify ?_);have l:=aQ6 ha I;have pm:((R.take n).reverse++R.drop n).Perm R:=by
  have:=(List.reverse_perm (R.take n)).append_right (R.drop n);rwa[List.take_append_drop]at this
 have lr:(R.take n).reverse.length=n:=by simp;lia
 have W:Srt c (((R.take n).reverse++R.drop n).take n):=by
  rw[List.take_append_of_le_length (by lia),a2c (by lia)];exact List.pairwise_reverse.mpr V
 rw[← pm.length_eq]at I ⊢;refine wpS_bind (cE5 C l (λx a=>f x (pm.mem_iff.mp a)) (u.perm pm.symm) (by lia) I W (λi n x z Q a b v w B D=>?_) λm m1 X Y _=>?_)
 ·refine wpS_bind (oV C d a b v w ?_);dsimp only;cases e:c x z with
  | true=>exact wpS_pure (B e)
  | false=>exact wpS_pure (D e)
 ·exact wpS_pure (q m _ _ (by lia) (by rw[← pm.length_eq];exact X) d rfl rfl l pm Y)
def aC1(C:Cm M A s κ G c){p R:List Keyed}{n ok:Nat}{st:SortSt}{Q:Bool->SortSt->Prop}(N:PyProof.Rows.kindOf st=κ)(ha:(arrOf st).toList=p++R)(O:∀ x∈R,G x)(P:Dst c R)(S:1<=ok)(h2:ok<=n)(hn:n<=R.length)(hs:Srt c (R.take ok))
  (q:∀ (st':SortSt) R',PyProof.Rows.kindOf st'=κ->pendingOf st'=pendingOf st->failedOf st'=failedOf st->(arrOf st').toList=p++R'->R'.Perm R->Srt c (R'.take n)->Q true st'):wpS M A E s (binarySort' p.length n ok) Q st:=by
 refine wpS_bind (wpS_mono (wpS_forRange (λk (r:Option Bool×Unit) st'=>r=(none,())/\PyProof.Rows.kindOf st'=κ/\pendingOf st'=pendingOf st/\failedOf st'=failedOf st/\∃ R',(arrOf st').toList=p++R'/\R'.Perm R/\Srt c (R'.take k))
  (Q:=λr st'=>r=(none,())/\PyProof.Rows.kindOf st'=κ/\pendingOf st'=pendingOf st/\failedOf st'=failedOf st/\∃ R',(arrOf st').toList=p++R'/\R'.Perm R/\Srt c (R'.take n)) ?_ ?_ ⟨rfl,N,rfl,rfl,R,ha,.refl _,by rw[Nat.max_eq_left S];exact hs⟩) ?_)
 ·rintro k r b h3 h4 ⟨rfl,m,F,H,a,f,pm,s1⟩;have lR:=pm.length_eq;obtain⟨x,t,T⟩:=uV (show k < a.length by lia);have J:∀ x∈a,G x:=λx t=>O x (pm.mem_iff.mp t);refine wpS_bind (wpS_mono (wpS_forRange (λi (r:Option Bool×Nat×Nat) st'=>b=st'/\r.1=none/\r.2.1<=r.2.2/\r.2.2<=k/\r.2.2+i<=k+r.2.1/\(∀ z∈a.take r.2.1,c z x=true)/\(∀ z∈(a.take k).drop r.2.2,c x z=true))
   (Q:=λr st'=>b=st'/\r.1=none/\r.2.1<=k/\(∀ z∈a.take r.2.1,c z x=true)/\(∀ z∈(a.take k).drop r.2.1,c x z=true)) ?_ ?_ ⟨rfl,rfl,a2d _,a6a _,by dsimp only;lia,λz g=>by simp at g,λz g=>by simp at g⟩) ?_)
  ·rintro i ⟨o,l,r⟩ I h5 h6 ⟨rfl,rfl,w,d,j,y,B⟩;dsimp only at w d j y B ⊢;by_cases K:l ≥ r
   ·rw[a3s K];obtain rfl:l=r:=by lia
    exact wpS_pure ⟨rfl,rfl,d,y,B⟩
   rw[a3u K];obtain⟨z,g,U⟩:=uV (show(l+r) / 2 < a.length by lia);refine wpS_bind (oV C m (by rw[nY f];exact t) (by rw[nY f];exact g) (J x T) (J z U) ?_);dsimp only;have tk:(a.take k)[(l+r) / 2]? = some z:=by rw[List.getElem?_take,a3s (by lia)];exact g
   cases e:c x z with
   | true=>exact wpS_pure ⟨rfl,rfl,by dsimp only;lia,by dsimp only;lia,by dsimp only;lia,y,λu D=>(nV tk s1 u D).elim (λh=>h ▸ e) (C.tr e)⟩
   | false=>
     have L:c z x=true:=((P.perm pm.symm).two (show(l+r) / 2 < k by lia) g t).resolve_right (by rw[e];decide);refine wpS_pure ⟨rfl,rfl,by dsimp only;lia,by dsimp only;lia,by dsimp only;lia,λu D=>?_,B⟩;have:=mG tk s1 u (by rw[List.take_take,Nat.min_eq_left (by lia)];exact D);exact this.elim (λh=>h ▸ L) λh=>C.tr h L
  ·rintro⟨o,l,r⟩ I ⟨rfl,rfl,w,d,j,y,B⟩;dsimp only at w d j y B;obtain rfl:l=r:=by lia
   exact⟨rfl,rfl,d,y,B⟩
  rintro⟨o,l,r⟩ I ⟨rfl,rfl,w,d,j⟩;dsimp only at w d j ⊢;refine wpS_bind (wpS_modify (wpS_pure ⟨rfl,m,F,H,_,aQ7 f t w,?_,?_⟩))
  ·have e:a=a.take l++((a.drop l).take (k-l)++(x::a.drop (k+1))):=by
    rw[← lP t]
    conv=>lhs;rw[← List.take_append_drop l a]
    congr 1
    conv=>lhs;rw[← List.take_append_drop (k-l) (a.drop l)]
    rw[List.drop_drop,show l+(k-l)=k by lia]
   refine List.Perm.trans ?_ pm
   conv=>rhs;rw[e]
   exact List.Perm.append_left _ List.perm_middle.symm
  ·have V:(a.take l).length=l:=by simp;lia
   have t2:((a.drop l).take (k-l)).length=k-l:=by simp;lia
   have W:(a.take l++(x::((a.drop l).take (k-l)++a.drop (k+1)))).take (k+1)=a.take l++(x::(a.drop l).take (k-l)):=by
    rw[List.take_append,a2c (l:=a.take l) (by lia),V,show k+1-l=(k-l)+1 by lia,List.take_succ_cons,List.take_append_of_le_length (by lia),a2c (l:=(a.drop l).take (k-l)) (by lia)]
   rw[W];have s2:Srt c (a.take l++(a.drop l).take (k-l)):=by
    have:a.take k=a.take l++(a.drop l).take (k-l):=by
     conv=>lhs;rw[show k=l+(k-l) by lia,List.take_add]
    rw[← this];exact s1
   rw[List.drop_take]at j;obtain⟨X,Y,Z⟩:=List.pairwise_append.mp s2;refine List.pairwise_append.mpr ⟨X,a9f.mpr ⟨j,Y⟩,λu D v hv=>?_⟩;rcases a1c.mp hv with rfl | h;exact d u D;exact Z u D v h
 ·rintro r b ⟨rfl,m,F,H,a,f,pm,s1⟩;rw[show max (max ok 1) n=n by lia]at s1;exact⟨rfl,m,F,H,a,f,pm,s1⟩
 rintro r b ⟨rfl,m,F,H,a,f,pm,s1⟩;exact wpS_pure (q b a m F H f pm s1)
end
def Tl(c:Keyed->Keyed->Bool):Nat->List (Nat×Nat×Nat)->List Keyed->Prop
 | _,[],l=>l=[]
 | s,t::r,l=>t.1=s/\1<=t.2.1/\∃ X Y,l=X++Y/\X.length=t.2.1/\Srt c X/\Tl c (s+t.2.1) r Y
section
variable{c:Keyed->Keyed->Bool}
theorem Tl.app:∀ {L b:List (Nat×Nat×Nat)} {s:Nat} {l:List Keyed},Tl c s (L++b) l↔∃ X Y,l=X++Y/\Tl c s L X/\Tl c (s+X.length) b Y
 | [],b,s,l=>⟨λh=>⟨[],l,rfl,rfl,by simpa using h⟩,λ⟨X,Y,e,f,h⟩=>by
   have f:X=[]:=f;subst f;subst e;simpa using h⟩
 | t::L,b,s,l=>by
   constructor;rintro⟨g,i,X,Y,rfl,a,j,k⟩;obtain⟨U,V,rfl,d,m⟩:=Tl.app.mp k;exact⟨X++U,V,by simp,⟨g,i,X,U,rfl,a,j,d⟩,by rw[List.length_append,← Nat.add_assoc,a];exact m⟩;rintro⟨X,Y,rfl,⟨g,i,U,V,rfl,a,j,k⟩,d⟩;refine⟨g,i,U,V++Y,by simp,a,j,Tl.app.mpr ⟨V,Y,rfl,k,?_⟩⟩;rw[a9a,← Nat.add_assoc,a]at d;exact d
theorem Tl.like:∀ {L a:List (Nat×Nat×Nat)} {s:Nat} {l:List Keyed},L.map (λt=>(t.1,t.2.1))=a.map (λt=>(t.1,t.2.1))->Tl c s L l->Tl c s a l
 | [],[],_,_,_,h=>h
 | [],_::_,_,_,e,_=>by simp at e
 | _::_,[],_,_,e,_=>by simp at e
 | t::L,u::a,s,l,e,⟨d,f,X,Y,g,i,j,k⟩=>by
   simp only[List.map_cons,List.cons.injEq,Prod.mk.injEq]at e;obtain⟨⟨m,b⟩,n⟩:=e;exact⟨m ▸ d,b ▸ f,X,Y,g,b ▸ i,j,b ▸ Tl.like n k⟩
theorem Tl.le:∀ {L:List (Nat×Nat×Nat)} {s:Nat} {l:List Keyed},Tl c s L l->L.length<=l.length
 | [],_,_,_=>a2d _
 | t::L,s,l,⟨d,e,X,Y,a,f,g,b⟩=>by
   have:=Tl.le b;subst a;simp;lia
end
section
variable{M:Model}{A:Around}{E:Value->Shared->Prop}{s:Shared}{κ:SortKind}{G:Keyed->Prop}{c:Keyed->Keyed->Bool}
structure Std(κ:SortKind)(c:Keyed->Keyed->Bool)(a₀:List Keyed)(st:SortSt)(D R:List Keyed):Prop where
 k:PyProof.Rows.kindOf st=κ
 f:failedOf st=none
 a:(arrOf st).toList=D++R
 p:(D++R).Perm a₀
 t:Tl c 0 (pendingOf st).toList D
def cE6(C:Cm M A s κ G c){a₀:List Keyed}(J:∀ x∈a₀,G x)(K:Dst c a₀){st:SortSt}{D R:List Keyed}{i:Nat}{Q:Bool->SortSt->Prop}(h:Std κ c a₀ st D R)(hi:i+1 < (pendingOf st).size)
  (q:∀ st' l,Std κ c a₀ st' l R->(pendingOf st').size+1=(pendingOf st).size->l.length=D.length->Q true st'):wpS M A E s (mergeAt' i) Q st:=by
 obtain⟨L,b⟩:∃ L,(pendingOf st).toList=L:=⟨_,rfl⟩;have O:(pendingOf st).size=L.length:=by rw[← b];rfl
 obtain⟨t,m,-⟩:∃ t,L[i]? = some t/\True:=⟨L[i]'(by lia),a0a (by lia),trivial⟩;obtain⟨u,n,-⟩:∃ t,L[i+1]? = some t/\True:=⟨L[i+1]'(by lia),a0a (by lia),trivial⟩;have e:L=L.take i++(t::u::L.drop (i+1+1)):=by
  conv=>lhs;rw[← List.take_append_drop i L]
  congr 1;obtain⟨S,T⟩:=a1a.mp m;obtain⟨U,g4⟩:=a1a.mp n;rw[List.drop_eq_getElem_cons S,List.drop_eq_getElem_cons U,T,g4]
 have o:(L.take i).length=i:=by simp;lia
 generalize L.take i=r at e o;generalize L.drop (i+1+1)=L2 at e;have v:=h.t;rw[b,e]at v;obtain⟨P,V,eD,t1,t2⟩:=Tl.app.mp v;obtain⟨d,w,X,W,rfl,z,a4,B,F,Y,Z,rfl,H,b4,g⟩:=t2;subst eD;have pw:Dst c (P++(X++(Y++(Z++R)))):=K.perm (by have:=h.p.symm;simpa using this);obtain⟨sa,na,pa⟩:=t;obtain⟨sb,nb,pb⟩:=u;dsimp only at d w z B F H g;rw[a8f]at d g B;refine bC7 (sa:=sa) (na:=na) (nb:=nb) (sb:=sb) (pa:=pa) (pb:=pb) (p:=P) (q:=Z++R) (X:=X) (Y:=Y) C h.k (λx j=>J x (h.p.mem_iff.mp (h.a ▸ j))) h.f (by rw[h.a];simp) d.symm z H (by lia) (by rw[← Array.getElem?_toList,b];exact m) (by rw[← a0c,b];exact n) w F a4 b4 (λx j y hy=>?_) λst' N k1 k2 k3 k4 I k6=>?_;have:=(List.pairwise_append.mp (List.pairwise_append.mp pw).2.1).2.2 x j y (by simp[hy]);exact this;have lN:N.length=na+nb:=by rw[I.length_eq,a9a];lia
 have pl:(pendingOf st').toList=r++((sa,na+nb,pa)::L2):=by
  rw[k3];have:((pendingOf st).setIfInBounds i (sa,na+nb,pa)).eraseIdxIfInBounds (i+1)=((pendingOf st).setIfInBounds i (sa,na+nb,pa)).eraseIdx (i+1) (by simpa using hi):=by
   rw[Array.eraseIdxIfInBounds,dif_pos]
  rw[this,Array.toList_eraseIdx,Array.toList_setIfInBounds,b,e,← o];simp[List.set_append_right,List.eraseIdx_append_of_length_le]
 refine q st' (P++(N++Z)) ⟨k1,k2,by rw[k4];simp,?_,?_⟩ ?_ ?_;refine List.Perm.trans ?_ h.p;simp only[List.append_assoc];exact List.Perm.append_left _ (by have:=I.append_right (Z++R);simpa using this);rw[pl];exact Tl.app.mpr ⟨P,N++Z,rfl,t1,by lia,by dsimp only;lia,N,Z,rfl,lN,k6,by dsimp only;rw[a8f,← Nat.add_assoc];exact g⟩
 ·have:(pendingOf st').size=(r++((sa,na+nb,pa)::L2)).length:=by rw[← pl];rfl
  rw[this,O,e];simp;lia
 ·simp;lia
end
section
variable{M:Model}{A:Around}{E:Value->Shared->Prop}{s:Shared}{κ:SortKind}{G:Keyed->Prop}{c:Keyed->Keyed->Bool}
theorem _root_.List.map_modify_same{b c:Type}(g:b->c)(f:b->b)(h:∀ a,g (f a)=g a):∀ (l:List b) (i:Nat),(l.modify i f).map g=l.map g
 | [],_=>by simp
 | a::l,0=>by simp[h]
 | a::l,i+1=>by simp[List.map_modify_same g f h l i]
def zJ{P:Prop}[Decidable P]{n:Nat}(h:¬ n<=1):(if P then n-2-1 else n-2)+1 < n:=by split<;>lia
def aQ9(C:Cm M A s κ G c){st:SortSt}{Q:Unit->SortSt->Prop}(hk:PyProof.Rows.kindOf st=κ)(hp:pendingOf st=#[])(hf:failedOf st=none)(hg:∀ x∈(arrOf st).toList,G x)(hD:Dst c (arrOf st).toList)
  (q:∀ st',failedOf st'=none->(arrOf st').toList.Perm (arrOf st).toList->Srt c (arrOf st').toList->Q () st'):wpS M A E s sortRuns' Q st:=by
 obtain⟨N,hN⟩:∃ N,(arrOf st).size=N:=⟨_,rfl⟩;have lz:(arrOf st).toList.length=N:=hN;have sz:∀ {st' D R},Std κ c (arrOf st).toList st' D R->D.length+R.length=N:=λh=>by have:=h.p.length_eq;rw[a9a]at this;lia
 refine wpS_bind (wpS_get ?_);dsimp only;rw[hN];generalize (sortPriv% PySem.Builtin.minRun) N N 0=S;refine wpS_bind (wpS_mono (wpS_forRange (λi (r:Option Unit×Nat) st'=>r.1=none/\i<=r.2/\∃ D R,Std κ c (arrOf st).toList st' D R/\D.length=r.2)
  (Q:=λr st'=>r.1=none/\∃ D,Std κ c (arrOf st).toList st' D []) ?_ ?_ ⟨rfl,a6a _,[],(arrOf st).toList,⟨hk,hf,rfl,.refl _,by rw[hp];exact rfl⟩,rfl⟩) ?_)
 ·rintro i ⟨o,lo⟩ y-hi ⟨rfl,h1,D,R,v,T⟩;dsimp only at h1 T ⊢;have e1:=sz v;by_cases B:lo ≥ N;rw[a3s B];have:R=[]:=a0d (by lia);subst this;exact wpS_pure ⟨rfl,D,v⟩
  rw[a3u B];subst T;have gR:∀ {F:List Keyed},F.Perm R->∀ x∈F,G x:=λh x hx=>hg x (v.p.mem_iff.mp (a3c.mpr (.inr (h.mem_iff.mp hx))));have dR:∀ {F:List Keyed},F.Perm R->Dst c F:=λh=>(List.pairwise_append.mp (hD.perm v.p.symm)).2.1.perm h.symm λh=>h.symm;rw[show N-D.length=R.length by lia];refine wpS_bind (aQ8 C v.k v.a (gR (.refl _)) (dR (.refl _)) (by lia) λn g R2 n1 n2 U V W Z z k6=>?_);dsimp only;have nx:∀ (n:Nat) (d:SortSt) (j:List Keyed),1<=n->n<=R.length->PyProof.Rows.kindOf d=κ->pendingOf d=pendingOf y->failedOf d=failedOf y->(arrOf d).toList=D++j->j.Perm R->Srt c (j.take n)->Std κ c (arrOf st).toList d D j:=λn d j n1 n2 U V W Z z k6=>
   ⟨U,W.trans v.f,Z,(z.append_left D).trans v.p,by rw[V];exact v.t⟩
  by_cases b2:n < S
  case' pos=>
   rw[a3s b2];refine wpS_bind (wpS_lift (a3K ⟨rfl,?_⟩));refine wpS_bind (aC1 C U Z (gR z) (dR z) n1 (by lia) (by rw[z.length_eq];lia) k6 λd j j1 j2 j3 j4 H I=>?_);rw[a3u (by decide)];have m1:1<=min R.length S:=by lia
   have m2:min R.length S<=R.length:=by lia
   generalize min R.length S=n at m1 m2 I ⊢;have J:=nx n d j m1 m2 j1 (j2.trans V) (j3.trans W) j4 (H.trans z) I
   replace H:=H.trans z
  case' neg=>
   rw[a3u b2];have J:=nx n g R2 n1 n2 U V W Z z k6;have m1:=n1;have m2:=n2;have I:=k6;have H:=z;generalize g=d at J ⊢;generalize R2=j at J H I
  all_goals
   refine wpS_bind (wpS_get ?_);have pu:∀ (b l:SortSt) (D4:List Keyed),Std κ c (arrOf st).toList b D4 j->D4.length=D.length->PyProof.Rows.kindOf l=PyProof.Rows.kindOf b->failedOf l=failedOf b->arrOf l=arrOf b->(pendingOf l).toList.map (λt=>(t.1,t.2.1))=(pendingOf b).toList.map (λt=>(t.1,t.2.1))++[(D.length,n)] ->
     (none:Option Unit)=none/\i+1<=D.length+n/\∃ D' F,Std κ c (arrOf st).toList l D' F/\D'.length=D.length+n:=λb l D4 w m K y2 y3 y4=>by
    have lt:(j.take n).length=n:=by rw[a2g,H.length_eq];lia
    have ee:D4++j.take n++j.drop n=D4++j:=by rw[List.append_assoc,List.take_append_drop]
    refine⟨rfl,by lia,D4++j.take n,j.drop n,⟨K.trans w.k,y2.trans w.f,by rw[y3,ee];exact w.a,by rw[ee];exact w.p,Tl.like (L:=(pendingOf b).toList++[(D.length,n,0)]) (by rw[y4,a4d];rfl) (Tl.app.mpr ⟨D4,j.take n,rfl,w.t,by dsimp only;lia,m1,j.take n,[],by simp,lt,I,rfl⟩)⟩,by rw[List.length_append];lia⟩
   cases e:(pendingOf d).back? with
   | none=>
     exact wpS_bind (wpS_modify (wpS_pure (pu d _ D J rfl rfl rfl rfl (by show((pendingOf d).push _).toList.map _=_;rw[a6h,a4d];rfl))))
   | some t=>
     obtain⟨s1,n1,w1⟩:=t;dsimp only;refine wpS_bind (wpS_mono (wpS_forRange (λi (r:Option Unit×Unit) st'=>r=(none,())/\∃ D4,Std κ c (arrOf st).toList st' D4 j/\D4.length=D.length)
      (Q:=λr st'=>r=(none,())/\∃ D4,Std κ c (arrOf st).toList st' D4 j/\D4.length=D.length) ?_ ?_ ⟨rfl,D,J,rfl⟩) ?_)
     ·rintro i r b-hi ⟨rfl,D4,w,m⟩;refine wpS_bind (wpS_get ?_);by_cases b3:(pendingOf b).size > 1;rw[a3s b3,a5c (show(pendingOf b).size-2 < (pendingOf b).size by lia)];dsimp only;refine wX ?_ ?_;exact wpS_pure ⟨rfl,D4,w,m⟩;exact wpS_bind (cE6 C hg hD w (show(pendingOf b).size-2+1 < (pendingOf b).size by lia) λl D5 K _ y3=>by rw[a3u (by decide)];exact wpS_pure ⟨rfl,D5,K,y3.trans m⟩);rw[a3u b3];exact wpS_pure ⟨rfl,D4,w,m⟩
     ·exact λr b h=>h
     ·rintro r b ⟨rfl,D4,w,m⟩;refine wpS_bind (wpS_modify (wpS_bind (wpS_modify (wpS_pure (pu b _ D4 w m rfl rfl rfl ?_)))));show(((pendingOf b).modify _ _).push _).toList.map _=_;rw[a6h,a4d,Array.toList_modify,List.map_modify_same (λt:Nat×Nat×Nat=>(t.1,t.2.1))];rfl;exact λt=>rfl
 ·rintro⟨o,lo⟩ y ⟨rfl,h1,D,R,v,T⟩;have e1:=sz v;dsimp only at h1 T;have:R=[]:=a0d (by lia);subst this;exact⟨rfl,D,v⟩
 ·rintro⟨o,lo⟩ y ⟨rfl,D,v⟩;dsimp only;refine wpS_bind (wpS_mono (wpS_forRange (λi (r:Option Unit×Unit) st'=>r=(none,())/\(pendingOf st').size+i<=N/\∃ D,Std κ c (arrOf st).toList st' D [])
   (Q:=λr st'=>r=(none,())/\(pendingOf st').size<=1/\∃ D,Std κ c (arrOf st).toList st' D []) ?_ ?_ ⟨rfl,by have h5:(pendingOf y).size<=D.length:=v.t.le;have h6:=sz v;rw[List.length_nil]at h6;lia,D,v⟩) ?_)
  ·rintro i r g-hi ⟨rfl,w,O,m⟩;refine wpS_bind (wpS_get ?_);by_cases B:(pendingOf g).size<=1;rw[a3s B];exact wpS_pure ⟨rfl,B,O,m⟩
   rw[a3u B];refine wpS_bind (cE6 C hg hD m (zJ B) λl D5 K y2 y3=>by rw[a3u (by decide)];exact wpS_pure ⟨rfl,by lia,D5,K⟩)
  ·rintro r g ⟨rfl,w,O,m⟩;exact⟨rfl,by lia,O,m⟩
  ·rintro r g ⟨rfl,w,O,m⟩;refine wpS_pure (q g m.f (by rw[m.a];exact m.p) ?_);rw[m.a,a1g];have t:=m.t;have P:(pendingOf g).toList.length<=1:=w;cases e:(pendingOf g).toList with
   | nil=>rw[e]at t;have t:O=[]:=t;rw[t];exact .nil
   | cons u r=>
     rw[e]at t P;have:r=[]:=a0d (by simpa using P);subst this;obtain⟨_,_,X,Y,rfl,_,sX,hY⟩:=t;have hY:Y=[]:=hY;rw[hY,a1g];exact sX
end
end So
namespace Sx
open PySem PySem.SetTable
noncomputable def gS:Nat->Nat
 | 0=>0
 | n+1=>5*gS n+1
def aK0(n:Nat):4*gS n+1=5 ^ n:=by
 induction n with
 | zero=>rfl
 | succ n a=>rw[a4h,← a];show 4*(5*gS n+1)+1=_;lia
def cE7(a b:Nat):gS (a+b)=gS a*5 ^ b+gS b:=by
 have d:=aK0 (a+b);have c:=aK0 a;have e:=aK0 b;have f:(5:Nat) ^ (a+b)=5 ^ a*5 ^ b:=Nat.pow_add ..;have g:4*(gS a*5 ^ b)+5 ^ b=5 ^ a*5 ^ b:=by rw[← c,Nat.add_mul,Nat.one_mul,a6j]
 lia
def aW9(n:Nat):5 ^ n % 4=1:=by
 have:=aK0 n;lia
def dF1(n:Nat)(h:n % 2=1):gS n % 2=1:=by
 have a:∀ m,gS m % 2=m % 2:=λm=>by
  induction m with
  | zero=>rfl
  | succ m b=>show(5*gS m+1) % 2=_;lia
 rw[a n,h]
def zK{a b k:Nat}(hb:b % 2=1)(h:2 ^ k ∣ a*b):2 ^ k ∣ a:=by
 have c:Nat.Coprime (2 ^ k) b:=by
  refine Nat.Coprime.pow_left k ?_;have:Nat.gcd 2 b=1:=by
   rw[Nat.gcd_rec,hb];rfl
  exact this
 exact Nat.Coprime.dvd_of_dvd_mul_right c h
theorem cE8:∀ (k n:Nat),2 ^ k ∣ gS n->2 ^ k ∣ n
 | 0,n,_=>by rw[Nat.pow_zero];exact Nat.one_dvd n
 | k+1,n,h=>by
   rcases Nat.mod_two_eq_zero_or_one n with e | e
   ·obtain⟨m,rfl⟩:∃ m,n=m+m:=⟨n / 2,by lia⟩;rw[cE7]at h;have f:=aW9 m;obtain⟨q,a⟩:∃ q,5 ^ m+1=2*q:=⟨(5 ^ m+1) / 2,by lia⟩;have b:q % 2=1:=by lia
    have c:gS m*5 ^ m+gS m=2*(gS m*q):=by
     have:gS m*5 ^ m+gS m=gS m*(5 ^ m+1):=by rw[Nat.mul_add,Nat.mul_one]
     rw[this,a,Nat.mul_left_comm]
    rw[c,a4h,a7i (2 ^ k) 2]at h;have d:2 ^ k ∣ gS m*q:=Nat.dvd_of_mul_dvd_mul_left (by decide) h;have g:=cE8 k m (zK b d);have i:m+m=2*m:=by lia
    rw[i,a4h,a7i (2 ^ k) 2];exact Nat.mul_dvd_mul_left 2 g
   ·exfalso;have o:=dF1 n e;have:2 ∣ gS n:=Nat.dvd_trans ⟨2 ^ k,by rw[a4h,a7i]⟩ h;lia
noncomputable def stp(k:Nat):Nat->Nat->Nat
 | 0,x=>x % 2 ^ k
 | n+1,x=>(5*stp k n x+1) % 2 ^ k
def bM6(k n x:Nat):stp k n x=(5 ^ n*x+gS n) % 2 ^ k:=by
 induction n with
 | zero=>simp[stp,gS]
 | succ n a=>
   show(5*stp k n x+1) % 2 ^ k=_;rw[a];have e:5 ^ (n+1)*x+gS (n+1)=5*(5 ^ n*x+gS n)+1:=by
    show _+(5*gS n+1)=_;rw[a4h,a7i (5 ^ n) 5,a6j,Nat.mul_add];lia
   rw[e,Nat.add_mod,Nat.mul_mod];simp[Nat.mul_mod,Nat.add_mod]
def bM7{k x a b:Nat}(ha:a < b)(hb:b < 2 ^ k)(h:stp k a x=stp k b x):False:=by
 rw[bM6,bM6]at h;obtain⟨d,rfl⟩:∃ d,b=a+d:=⟨b-a,by lia⟩;have hd:2 ^ k ∣ (5 ^ (a+d)*x+gS (a+d))-(5 ^ a*x+gS a):=by
  exact Nat.dvd_of_mod_eq_zero (Nat.sub_mod_eq_zero_of_mod_eq h.symm)
 have e:(5 ^ (a+d)*x+gS (a+d))-(5 ^ a*x+gS a)=gS d*((4*x+1)*5 ^ a):=by
  have c:=aK0 d;have g:5 ^ (a+d)*x=gS d*(4*x*5 ^ a)+5 ^ a*x:=by
   rw[Nat.pow_add,← c,a6j,Nat.add_mul,Nat.one_mul,Nat.mul_add];congr 1;rw[a7i (4*x),a7i 4 (gS d),a6j,Nat.mul_left_comm]
  have i:gS (a+d)=gS d*5 ^ a+gS a:=by rw[Nat.add_comm a d,cE7]
  rw[g,i,Nat.add_mul,Nat.one_mul,Nat.mul_add];lia
 rw[e]at hd;have j:((4*x+1)*5 ^ a) % 2=1:=by
  have f:=aW9 a;rw[Nat.mul_mod];have:5 ^ a % 2=1:=by lia
  have:(4*x+1) % 2=1:=by lia
  simp[*]
 have:=Nat.le_of_dvd (by lia) (cE8 k d (zK j hd));lia
theorem aC2:∀ (N:Nat) (f:Nat->Nat),(∀ i,i < N->f i < N)->(∀ i j,i < j->j < N->f i≠f j)->∀ c,c < N->∃ i,i < N/\f i=c
 | 0,_,_,_,c,h=>absurd h (a4i c)
 | N+1,f,hb,hi,c,p=>by
   by_cases k:∃ i,i < N+1/\f i=c;exact k
   ·exfalso
    -- with c left out,and N in its place
    have a:∀ i,i < N+1->f i≠c:=λi h e=>k ⟨i,h,e⟩
    let g:Nat->Nat:=λi=>if f i=N then c else f i
    have l:∀ i,i < N+1->g i < N:=λi h=>by
     show(if f i=N then c else f i) < N;have n:=hb i h;have o:=a i h;split;lia;lia
    have m:∀ i j,i < j->j < N+1->g i≠g j:=λi j b hj=>by
     show(if f i=N then c else f i)≠if f j=N then c else f j
     have n:=hi i j b hj;have o:=a i (by lia);have q:=a j hj;split<;>split<;>lia
    obtain⟨i,d,e⟩:=aC2 N g (λi h=>l i (by lia)) (λi j b hj=>m i j b (by lia)) (g N) (l N (by lia));exact m i N d (by lia) e
def cP1{k x c:Nat}(b:c < 2 ^ k):∃ n,n < 2 ^ k/\stp k n x=c:=
 aC2 (2 ^ k) (λn=>stp k n x) (λi _=>by show stp k i x < _;rw[bM6];exact Nat.mod_lt _ (Nat.two_pow_pos k)) (λi j a hj e=>bM7 a hj e) c b
noncomputable def adv(mask:Nat)(p:Probe):Probe:=
 if p.more > 0 then{p with j:=p.j+1,more:=p.more-1}else
 {p with j:=(leap mask p.i p.perturb).1,more:=runEnd mask (leap mask p.i p.perturb).1-(leap mask p.i p.perturb).1,i:=(leap mask p.i p.perturb).1,perturb:=(leap mask p.i p.perturb).2}
noncomputable def wk0(mask:Nat)(h:Int):Probe:=⟨bits h % (mask+1),runEnd mask (bits h % (mask+1))-bits h % (mask+1),bits h % (mask+1),bits h,none⟩
noncomputable def wk(mask:Nat)(h:Int):Nat->Probe
 | 0=>wk0 mask h
 | n+1=>adv mask (wk mask h n)
noncomputable def lp(mask:Nat)(h:Int):Nat->Nat×Nat
 | 0=>(bits h % (mask+1),bits h)
 | l+1=>leap mask (lp mask h l).1 (lp mask h l).2
noncomputable def xT(mask i:Nat):Nat:=runEnd mask i-i
def cP2(mask i:Nat):xT mask i<=9:=by unfold xT runEnd;split<;>lia
noncomputable def tm(mask:Nat)(h:Int):Nat->Nat
 | 0=>0
 | l+1=>tm mask h l+xT mask (lp mask h l).1+1
def dQ1(mask:Nat)(h:Int)(l:Nat):tm mask h l<=10*l:=by
 induction l with
 | zero=>exact a6a _
 | succ l a=>
   have:=cP2 mask (lp mask h l).1;show tm mask h l+xT mask (lp mask h l).1+1<=_;lia
theorem bM8{mask:Nat}{h:Int}{l:Nat}(e:wk mask h (tm mask h l)=⟨(lp mask h l).1,xT mask (lp mask h l).1,(lp mask h l).1,(lp mask h l).2,none⟩) :
  ∀ r,r<=xT mask (lp mask h l).1->wk mask h (tm mask h l+r)=⟨(lp mask h l).1+r,xT mask (lp mask h l).1-r,(lp mask h l).1,(lp mask h l).2,none⟩
 | 0,_=>e
 | r+1,b=>by
   have a:=bM8 e r (by lia);show adv mask (wk mask h (tm mask h l+r))=_;rw[a];unfold adv;rw[a3s (by show xT mask (lp mask h l).1-r > 0;lia)];congr 1
theorem aR0(mask:Nat)(h:Int):∀ l,wk mask h (tm mask h l)=⟨(lp mask h l).1,xT mask (lp mask h l).1,(lp mask h l).1,(lp mask h l).2,none⟩
 | 0=>rfl
 | l+1=>by
   have a:=bM8 (aR0 mask h l) (xT mask (lp mask h l).1) (a6a _);show adv mask (wk mask h (tm mask h l+xT mask (lp mask h l).1))=_;rw[a];unfold adv;rw[a3u (by show ¬ xT mask (lp mask h l).1-xT mask (lp mask h l).1 > 0;lia)];rfl
theorem bM9(mask:Nat)(h:Int):∀ l,(lp mask h l).2=bits h / 32 ^ l
 | 0=>by show bits h=_;simp
 | l+1=>by
   show(lp mask h l).2 / 32=_;rw[bM9 mask h l,Nat.div_div_eq_div_mul,a4h]
def cP3(h:Int):bits h < 2 ^ 64:=by
 unfold bits;have a:=a6i h (b:=2 ^ 64) (by decide);have c:=a4g h (b:=2 ^ 64) (by decide);lia
def cP4(mask:Nat)(h:Int){l:Nat}(a:13<=l):(lp mask h l).2=0:=by
 rw[bM9];refine Nat.div_eq_of_lt (a4c (cP3 h) ?_);refine a3b (by decide:2 ^ 64<=32 ^ 13) (Nat.pow_le_pow_right (by decide) a)
def dF2(mask:Nat)(h:Int):∀ l,(lp mask h l).1 < mask+1
 | 0=>Nat.mod_lt _ (Nat.succ_pos _)
 | l+1=>Nat.mod_lt _ (Nat.succ_pos _)
theorem bN0{mask k:Nat}(a:mask+1=2 ^ k)(h:Int):∀ n,(lp mask h (13+n)).1=stp k n (lp mask h 13).1
 | 0=>by
   show _=_ % 2 ^ k;rw[Nat.mod_eq_of_lt (by rw[← a];exact dF2 mask h 13)]
 | n+1=>by
   have e:(lp mask h (13+(n+1))).1=((lp mask h (13+n)).1*5+1+(lp mask h (13+n)).2 / 32) % (mask+1):=rfl;rw[e,cP4 mask h (by lia),bN0 a h n,a];show _=(5*stp k n _+1) % 2 ^ k;rw[a7i 5]
def bN1{mask i:Nat}(hi:i<=mask)(r:Nat)(a:r<=xT mask i):i+r<=mask:=by
 unfold xT runEnd at a;split at a<;>lia
theorem cP5{mask:Nat}(h:Int):∀ n,(wk mask h n).dummy=none/\(wk mask h n).j+(wk mask h n).more<=mask
 | 0=>⟨rfl,by
   have a:bits h % (mask+1)<=mask:=Nat.le_of_lt_succ (Nat.mod_lt _ (Nat.succ_pos _));exact bN1 a _ (a6a _)⟩
 | n+1=>by
   obtain⟨a,b⟩:=cP5 (mask:=mask) h n;show(adv mask (wk mask h n)).dummy=none/\(adv mask (wk mask h n)).j+(adv mask (wk mask h n)).more<=mask;unfold adv;split;refine⟨a,?_⟩;show(wk mask h n).j+1+((wk mask h n).more-1)<=mask;lia;refine⟨a,?_⟩;exact bN1 (Nat.le_of_lt_succ (Nat.mod_lt _ (Nat.succ_pos _))) _ (a6a _)
def dF3{mask:Nat}(h:Int)(n:Nat):(wk mask h n).j<=mask:=by
 have:=(cP5 (mask:=mask) h n).2;lia
def Ris(xs:Array Nat):Prop:=∀ (i j:Nat) (a b:Nat),i < j->xs[i]? = some a->xs[j]? = some b->a < b
structure Cut(xs:Array Nat)(j r:Nat):Prop where
 le:r<=xs.size
 lo:∀ (i a:Nat),i < r->xs[i]? = some a->a < j
 hi:∀ (i a:Nat),r<=i->xs[i]? = some a->j<=a
theorem aC3{xs:Array Nat}{j:Nat}(hs:Ris xs):∀ (b lo hi:Nat),hi-lo<=b->lo<=hi->hi<=xs.size->(∀ (i a:Nat),i < lo->xs[i]? = some a->a < j)->(∀ (i a:Nat),hi<=i->xs[i]? = some a->j<=a)->Cut xs j (below.go xs j b lo hi)
 | 0,lo,hi,hf,hl,c,d,f=>by
   have:lo=hi:=by lia
   subst this;exact⟨c,d,f⟩
 | b+1,lo,hi,hf,hl,c,d,f=>by
   unfold below.go;split
   ·rename_i k;have hm:(lo+hi) / 2 < xs.size:=by lia
    have em:xs[(lo+hi) / 2]? = some xs[(lo+hi) / 2]:=a5c hm;have l:xs.getD ((lo+hi) / 2) j=xs[(lo+hi) / 2]:=by rw[a0i,em];rfl
    dsimp only;rw[l];split;rename_i g;refine aC3 hs b _ hi (by lia) (by lia) c (λi a h e=>?_) f;by_cases z:i=(lo+hi) / 2;subst z;rw[em]at e;cases e;exact g;exact a3h (hs i _ a _ (by lia) e em) g;rename_i g;refine aC3 hs b lo _ (by lia) (by lia) (by lia) d (λi a h e=>?_);by_cases z:i=(lo+hi) / 2;subst z;rw[em]at e;cases e;lia;have:=hs _ i _ a (by lia) em e;lia
   ·have:lo=hi:=by lia
    subst this;exact⟨c,d,f⟩
def lQ{xs:Array Nat}(hs:Ris xs)(j:Nat):Cut xs j (below xs j):=
 aC3 hs _ _ _ (by lia) (by lia) (a6a _) (λi a h _=>absurd h (a4i _)) λi a h e=>by
  have:=(a2f.mp e).1;lia
def iD{xs:Array Nat}(hs:Ris xs){i j:Nat}(h:xs[i]? = some j):below xs j=i:=by
 have c:=lQ hs j;have b:below xs j<=i:=by
  refine a3j λz=>?_;have:=c.lo i j z h;lia
 have d:i<=below xs j:=by
  refine a3j λz=>?_;have hb:below xs j < xs.size:=a3h z (a2f.mp h).1;have a:xs[below xs j]? = some xs[below xs j]:=a5c hb;have:=hs _ i _ j z a h;have:=c.hi _ _ (a6a _) a;lia
 lia
def xA{t:SetTable}(hs:Ris t.place){i j:Nat}(h:t.place[i]? = some j):t.slot j=.live i:=by
 unfold slot;dsimp only;rw[iD hs h,h];simp
def bC8{t:SetTable}(hd:t.dummies=#[]){j:Nat}(h:∀ i:Nat,t.place[i]? ≠ some j):t.slot j=.empty:=by
 unfold slot;dsimp only;rw[a3u (by simpa using h _),if_neg (by rw[hd];simp[has])]
def Occ(t:SetTable)(j:Nat):Prop:=∃ i:Nat,t.place[i]? = some j
structure TOk(t:SetTable)(hs:List Int):Prop where
 pw:∃ k,t.mask+1=2 ^ k
 m7:7<=t.mask
 dm:t.dummies=#[]
 ri:Ris t.place
 lt:∀ (i j:Nat),t.place[i]? = some j->j<=t.mask
 len:t.place.size=hs.length
 fit:t.place.size<=t.mask
 rea:∀ (i:Nat) h,hs[i]? = some h->∃ m j,t.place[i]? = some j/\(wk t.mask h m).j=j/\∀ m',m' < m->Occ t (wk t.mask h m').j
section
variable{t:SetTable}{hs:List Int}
end
theorem bN2{t:SetTable}{hs:List Int}(T:TOk t hs){h:Int}{hashAt:Nat->Int}{M:Nat}(q:¬ Occ t (wk t.mask h M).j)(hb:∀ m,m < M->Occ t (wk t.mask h m).j) :
  ∀ (a n:Nat),n<=M->M-n < a ->
    (∃ m i,n<=m/\m < M/\t.place[i]? = some (wk t.mask h m).j/\hashAt i=h/\(∀ m' b,n<=m'->m' < m->t.place[b]? = some (wk t.mask h m').j->hashAt b≠h)/\probe.go t hashAt h a (wk t.mask h n)=some (.candidate (wk t.mask h m).j i (wk t.mask h (m+1)))) \/
    ((∀ m' b,n<=m'->m' < M->t.place[b]? = some (wk t.mask h m').j->hashAt b≠h)/\probe.go t hashAt h a (wk t.mask h n)=some (.empty (wk t.mask h M).j none))
 | 0,n,_,hf=>by lia
 | a+1,n,hn,hf=>by
   have g:=(cP5 (mask:=t.mask) h n).1;unfold probe.go;by_cases k:n=M;subst k;refine .inr ⟨λm' b l c=>by lia,?_⟩;have:t.slot (wk t.mask h n).j=.empty:=bC8 T.dm λi e=>q ⟨i,e⟩;rw[this];dsimp only;rw[g]
   ·obtain⟨i,o⟩:=hb n (by lia);have p:=xA T.ri o;rw[p];dsimp only;by_cases d:hashAt i=h;refine .inl ⟨n,i,a6a _,by lia,o,d,λm' b l c=>by lia,?_⟩;rw[a3s (by simpa using d)];rfl
    ·rw[a3u (by simpa using d)];have f:∀ b,t.place[b]? = some (wk t.mask h n).j->b=i:=λb e=>by
      rw[← iD T.ri e,← iD T.ri o]
     rcases bN2 T q hb a (n+1) (by lia) (by lia)with⟨m,i2,a1,a2,r,s,u,v⟩ | ⟨a1,a2⟩;refine .inl ⟨m,i2,by lia,a2,r,s,λm' b l c e=>?_,v⟩;by_cases z:m'=n;subst z;rw[f b e];exact d;exact u m' b (by lia) c e;refine .inr ⟨λm' b l c e=>?_,a2⟩;by_cases z:m'=n;subst z;rw[f b e];exact d;exact a1 m' b (by lia) c e
def iG{b:Type}(xs:Array b){p:Nat}(h:p<=xs.size)(x:b)(i:Nat):(insertAt xs p x)[i]? = if i < p then xs[i]? else if i=p then some x else xs[i-1]?:=by
 rw[← a0c,toList_insertAt];have e:(xs.toList.take p).length=p:=by rw[a2g,a8d];lia
 by_cases a:i < p;rw[a3s a,a7c (by lia),List.getElem?_take_of_lt a,a0c];rw[a3u a,a5b (by lia),e];by_cases c:i=p;subst c;rw[a3s rfl,Nat.sub_self];rfl;rw[a3u c];obtain⟨d,rfl⟩:∃ d,i=p+1+d:=⟨i-p-1,by lia⟩;have f:p+1+d-p=d+1:=by lia
 have g:p+1+d-1=p+d:=by lia
 rw[f,g,a9c,List.getElem?_drop,a0c]
def vL{a:Type}(xs:Array a){p:Nat}(b:p<=xs.size)(x:a):(insertAt xs p x).size=xs.size+1:=by
 rw[← a8d,toList_insertAt,a9a,a5f,a2g,a7g,a8d];lia
noncomputable def aR1{α:Type}(l:List α)(p:Nat)(x:α):List α:=l.take p++x::l.drop p
def aX0{a:Type}(l:List a){p:Nat}(b:p<=l.length)(x:a)(i:Nat):(aR1 l p x)[i]? = if i < p then l[i]? else if i=p then some x else l[i-1]?:=by
 have:=iG l.toArray (p:=p) (by simpa using b) x i;rw[← a0c,toList_insertAt]at this;simpa[aR1]using this
def xB{a:Type}(l:List a){p:Nat}(b:p<=l.length)(x:a):(aR1 l p x).length=l.length+1:=by
 unfold aR1;rw[a9a,a5f,a2g,a7g];lia
section
variable{t:SetTable}{hs:List Int}{h:Int}{M:Nat}
def aK1(t:SetTable)(j:Nat)(hd:t.dummies=#[]):t.put j=({t with place:=insertAt t.place (below t.place j) j},below t.place j):=by
 unfold put;dsimp only;rw[hd];rfl
def cP6{t t':SetTable}{j c:Nat}(a:below t.place j<=t.place.size)(e:t'.place=insertAt t.place (below t.place j) j):Occ t' c↔Occ t c\/c=j:=by
 constructor;rintro⟨i,hi⟩;rw[e,iG _ a]at hi;split at hi;exact .inl ⟨i,hi⟩;split at hi;exact .inr (a7a hi).symm;exact .inl ⟨i-1,hi⟩;rintro(⟨i,hi⟩ | rfl);by_cases hb:i < below t.place j;exact⟨i,by rw[e,iG _ a,a3s hb];exact hi⟩;exact⟨i+1,by rw[e,iG _ a,a3u (by lia),a3u (by lia)];exact hi⟩;exact⟨below t.place c,by rw[e,iG _ a,a3u (by lia),a3s rfl]⟩
theorem TOk.put(T:TOk t hs)(r:¬ Occ t (wk t.mask h M).j)(hb:∀ m,m < M->Occ t (wk t.mask h m).j)(s:t.place.size+1<=t.mask) :
  TOk (t.put (wk t.mask h M).j).1 (aR1 hs (below t.place (wk t.mask h M).j) h):=by
 have c:=lQ T.ri (wk t.mask h M).j;rw[aK1 t _ T.dm];have l:=c.le;have n:below t.place (wk t.mask h M).j<=hs.length:=by rw[← T.len];exact l
 have g:∀ x,Occ {t with place:=insertAt t.place (below t.place (wk t.mask h M).j) (wk t.mask h M).j} x↔Occ t x\/x=(wk t.mask h M).j:=λx=>cP6 l rfl;refine⟨T.pw,T.m7,T.dm,?_,?_,?_,?_,?_⟩
 ·intro D u a b hi f d;have q:∀ i a,t.place[i]? = some a->a≠(wk t.mask h M).j:=λi a e z=>r ⟨i,by rw[e,z]⟩;dsimp only at f d;rw[iG _ l]at f d;generalize (wk t.mask h M).j=j at *;split at f;split at d;exact T.ri _ _ _ _ hi f d;split at d;cases d;exact c.lo _ _ (by assumption) f;exact T.ri _ _ _ _ (by lia) f d;split at f;cases f;rw[a3u (by lia),a3u (by lia)]at d;have E:=c.hi _ _ (by lia:below t.place a<=u-1) d;have F:=q _ _ d;lia;rw[a3u (by lia),a3u (by lia)]at d;exact T.ri _ _ _ _ (by lia) f d
 ·intro i j e;rcases(g j).mp ⟨i,e⟩with⟨v,w⟩ | rfl;exact T.lt v j w;exact dF3 h M
 ·show(insertAt _ _ _).size=_;rw[vL _ l,xB _ n,T.len]
 ·show(insertAt _ _ _).size<=_;rw[vL _ l];exact s
 ·intro i h' e;rw[aX0 _ n]at e;show ∃ m j,(insertAt t.place (below t.place (wk t.mask h M).j) (wk t.mask h M).j)[i]? = some j/\_;rw[iG _ l];have o:∀ p,hs[p]? = some h'->∃ m j,t.place[p]? = some j/\(wk t.mask h' m).j=j/\∀ m',m' < m->Occ {t with place:=insertAt t.place (below t.place (wk t.mask h M).j) (wk t.mask h M).j} (wk t.mask h' m').j:=λp y=>by
   obtain⟨m,j,A,B,C⟩:=T.rea p h' y;exact⟨m,j,A,B,λm' k=>(g _).mpr (.inl (C m' k))⟩
  split at e;rw[a3s (by assumption)];exact o i e;split at e;cases e;rw[a3u (by assumption),a3s (by assumption)];exact⟨M,_,rfl,rfl,λm' k=>(g _).mpr (.inl (hb m' k))⟩;rw[a3u (by assumption),a3u (by assumption)];exact o (i-1) e
end
def bC9(ow:Array (Option Nat))(j:Nat):Prop:=∃ k,ow[j]? = some (some k)
structure LOk(mask:Nat)(ow:Array (Option Nat))(hs:List Int):Prop where
 sz:ow.size=mask+1
 bd:∀ (j k:Nat),ow[j]? = some (some k)->k < hs.length
 one:∀ (j j' k:Nat),ow[j]? = some (some k)->ow[j']? = some (some k)->j=j'
 rea:∀ (k:Nat) h,hs[k]? = some h->∃ m,ow[(wk mask h m).j]? = some (some k)/\∀ m',m' < m->bC9 ow (wk mask h m').j
def dQ2{ow:Array (Option Nat)}{j:Nat}(hj:j < ow.size):(ow.getD j (some 0)).isNone=true↔¬ bC9 ow j:=by
 have e:ow[j]? = some ow[j]:=a5c hj;rw[a0i,e];show ow[j].isNone=true↔_;constructor;rintro h ⟨k,a⟩;rw[e]at a;rw[a7a a]at h;cases h;intro h;cases b:ow[j]with
 | none=>rfl
 | some k=>exact absurd ⟨k,by rw[e,b]⟩ h
theorem aK2{mask:Nat}{ow:Array (Option Nat)}(hs:ow.size=mask+1)(h:Int){L:Nat}(n:¬ bC9 ow (lp mask h L).1) :
  ∀ (fuel l:Nat),l<=L->L < l+fuel->(∀ m,m < tm mask h l->bC9 ow (wk mask h m).j) ->
    ∃ M,layClean.free mask ow fuel (lp mask h l).1 (lp mask h l).2=some (wk mask h M).j/\¬ bC9 ow (wk mask h M).j/\∀ m,m < M->bC9 ow (wk mask h m).j
 | 0,l,o,p,_=>by lia
 | fuel+1,l,o,p,hb=>by
   have b:∀ r,r<=xT mask (lp mask h l).1->(lp mask h l).1+r < ow.size:=λr e=>by
    have:=bN1 (Nat.le_of_lt_succ (dF2 mask h l)) r e;lia
   have f:runEnd mask (lp mask h l).1+1-(lp mask h l).1=xT mask (lp mask h l).1+1:=by
    unfold xT runEnd;split<;>lia
   have g:∀ r,r<=xT mask (lp mask h l).1->(wk mask h (tm mask h l+r)).j=(lp mask h l).1+r:=λr e=>by rw[bM8 (aR0 mask h l) r e]
   unfold layClean.free;split
   ·rename_i k i;obtain⟨q,s,t⟩:=List.find?_range_eq_some.mp i;rw[a1h,f]at s;have c:k<=xT mask (lp mask h l).1:=by lia
    refine⟨tm mask h l+k,by rw[g k c],?_,λm hm=>?_⟩;rw[g k c];exact(dQ2 (b k c)).mp q;by_cases d:m < tm mask h l;exact hb m d;obtain⟨r,rfl⟩:∃ r,m=tm mask h l+r:=⟨m-tm mask h l,by lia⟩;rw[g r (by lia)];have:=t r (by lia);refine a3f λz=>?_;rw[(dQ2 (b r (by lia))).mpr z]at this;cases this
   ·rename_i i;have a:∀ r,r<=xT mask (lp mask h l).1->bC9 ow ((lp mask h l).1+r):=λr e=>by
     have:=List.find?_eq_none.mp i r (by rw[a1h,f];lia);exact a3f λz=>this ((dQ2 (b r e)).mpr z)
    have u:l≠L:=λz=>by
     subst z;exact n (by simpa using a 0 (a2d _))
    refine aK2 hs h n fuel (l+1) (by lia) (by lia) λm hm=>?_;have v:m < tm mask h l+xT mask (lp mask h l).1+1:=hm;by_cases d:m < tm mask h l;exact hb m d;obtain⟨r,rfl⟩:∃ r,m=tm mask h l+r:=⟨m-tm mask h l,by lia⟩;rw[g r (by lia)];exact a r (by lia)
section
variable{mask:Nat}{ow:Array (Option Nat)}{hs:List Int}
def LOk.free(T:LOk mask ow hs)(hn:hs.length<=mask):∃ c,c<=mask/\¬ bC9 ow c:=by
 refine a3f λl=>?_;have d:∀ c,c<=mask->bC9 ow c:=λc m=>a3f λz=>l ⟨c,m,z⟩
 let f:Nat->Nat:=λc=>(ow.getD c none).getD 0
 have j:∀ c,c<=mask->ow[c]? = some (some (f c)):=λc m=>by
  obtain⟨k,e⟩:=d c m;have:f c=k:=by
   show(ow.getD c none).getD 0=k;rw[a0i,e];rfl
  rw[this];exact e
 have n:∀ a b,a < b->b<=mask->f a≠f b:=λa b g hb e=>by
  have o:=j a (by lia);rw[e]at o;have:=T.one a b _ o (j b hb);lia
 obtain⟨i,hi,e⟩:=aC2 hs.length f (λi h=>T.bd _ _ (j i (by lia))) (λa b g hb=>n a b g (by lia)) (f hs.length) (T.bd _ _ (j hs.length hn));exact n i hs.length hi hn e
def LOk.lay{k:Nat}(s:mask+1=2 ^ k)(T:LOk mask ow hs)(hn:hs.length<=mask)(h:Int):∃ j,layClean.free mask ow (turns mask) (bits h % (mask+1)) (bits h)=some j/\LOk mask (ow.setIfInBounds j (some hs.length)) (hs++[h]):=by
 obtain⟨c,B,t⟩:=T.free hn;obtain⟨n,u,e⟩:=cP1 (k:=k) (x:=(lp mask h 13).1) (c:=c) (by lia);have v:¬ bC9 ow (lp mask h (13+n)).1:=by rw[bN0 s h n,e];exact t
 obtain⟨M,w,q,y⟩:=aK2 T.sz h v (turns mask) 0 (a2d _) (by show 13+n < 0+(mask+15);lia) (λm hm=>absurd hm (a4i _));refine⟨_,w,?_⟩;have hj:(wk mask h M).j < ow.size:=by rw[T.sz];exact Nat.lt_succ_of_le (dF3 h M)
 have g:∀ c,(ow.setIfInBounds (wk mask h M).j (some hs.length))[c]? = if(wk mask h M).j=c then some (some hs.length)else ow[c]?:=λc=>by
  rw[Array.getElem?_setIfInBounds];split
  ·first | rfl | rw[a3s hj]
  ·rfl
 have i:∀ {c},bC9 ow c->bC9 (ow.setIfInBounds (wk mask h M).j (some hs.length)) c:=λ{c} ⟨b,a⟩=>by
  refine⟨b,?_⟩;rw[g,a3u (λz=>q ⟨b,by rw[z];exact a⟩)];exact a
 refine⟨by rw[Array.size_setIfInBounds];exact T.sz,λj b a=>?_,λj j' b l f=>?_,λb h' a=>?_⟩;rw[g]at a;rw[a9a];split at a;cases a;simp;have:=T.bd _ _ a;simp;lia
 ·rw[g]at l f;split at l;cases l;split at f;lia;have:=T.bd _ _ f;lia;split at f;cases f;have:=T.bd _ _ l;lia;exact T.one _ _ _ l f
 ·by_cases o:b < hs.length;rw[a7c o]at a;obtain⟨m,r,A⟩:=T.rea b h' a;refine⟨m,?_,λm' d=>i (A m' d)⟩;rw[g,a3u (λz=>q ⟨b,by rw[z];exact r⟩)];exact r;rw[a5b (by lia)]at a;have p:b=hs.length:=by
   have:=(a1a.mp a).1;simp at this;lia
  subst p;have:h'=h:=by simpa using a.symm
  subst this;exact⟨M,by rw[g,a3s rfl],λm' d=>i (y m' d)⟩
end
theorem nZ{mask k:Nat}(b:mask+1=2 ^ k):∀ (eZ:List Int) (hs:List Int) (ow:Array (Option Nat)),LOk mask ow hs->hs.length+eZ.length<=mask+1 ->
  ∃ a,eZ.foldl (λacc h=>do
    let (owner,k) ← acc
    let j ← layClean.free mask owner (turns mask) (bits h % (mask+1)) (bits h)
    pure (owner.setIfInBounds j (some k),k+1)) (some (ow,hs.length))=some (a,hs.length+eZ.length)/\LOk mask a (hs++eZ)
 | [],hs,ow,T,_=>⟨ow,by simp,by simpa using T⟩
 | h::eZ,hs,ow,T,hl=>by
   rw[a5f]at hl;obtain⟨j,e,d⟩:=T.lay b (by lia) h;obtain⟨a,c,f⟩:=nZ b eZ (hs++[h]) _ d (by rw[a9a,List.length_singleton];lia);refine⟨a,?_,by simpa using f⟩;rw[List.foldl_cons];rw[a9a,List.length_singleton]at c;have g:hs.length+(h::eZ).length=hs.length+1+eZ.length:=by rw[a5f];lia
   rw[g,← c];congr 1;show((layClean.free mask ow (turns mask) (bits h % (mask+1)) (bits h)).bind λj=>some (ow.setIfInBounds j (some hs.length),hs.length+1))=_;rw[e];rfl
def cP7(mask:Nat):LOk mask (Array.replicate (mask+1) none) []:=by
 refine⟨by simp,λj k e=>?_,λj j' k e=>?_,λk h e=>by simp at e⟩
 all_goals
  rw[Array.getElem?_replicate]at e;split at e<;>cases e
def bN3{mask k finger moves:Nat}{led plain:Bool}{hashes:Array Int}(H:mask+1=2 ^ k)(K:7<=mask)(hn:hashes.size<=mask) :
  ∃ t order,laid mask finger moves led plain hashes=some (t,order)/\TOk t (order.toList.filterMap (hashes[·]?))/\order.toList.Perm (List.range hashes.size)/\t.mask=mask/\t.place.size=hashes.size/\t.led=led/\t.plain=plain:=by
 obtain⟨ow,e,T⟩:=nZ H hashes.toList [] _ (cP7 mask) (by rw[a8d];simp;lia);rw[List.nil_append]at T;have L:layClean mask hashes=some ow:=by
  unfold layClean;rw[← Array.foldl_toList];have n:=e;rw[List.length_nil,a8f]at n;rw[n];rfl
 let g:Nat->Option (Nat×Nat):=λj=>(ow.getD j none).map (j,·)
 have A:∀ j p,g j=some p↔p.1=j/\ow[j]? = some (some p.2):=λj p=>by
  show(ow.getD j none).map (j,·)=some p↔_;rw[a0i];cases I:ow[j]? with
  | none=>simp
  | some o=>
    cases o with
    | none=>simp
    | some B=>
      obtain⟨a,b⟩:=p;simp;intro _;exact⟨λz=>z.symm,λz=>z.symm⟩
 let d:=(List.range (mask+1)).filterMap g
 have mem:∀ p,p∈d↔ow[p.1]? = some (some p.2):=λp=>by
  rw[List.mem_filterMap];constructor;rintro⟨j,_,h⟩;obtain⟨rfl,h'⟩:=(A j p).mp h;exact h';intro h;have:p.1 < mask+1:=by rw[← T.sz];exact(a2f.mp h).1
  exact⟨p.1,a1h.mpr this,(A _ _).mpr ⟨rfl,h⟩⟩
 have pw:d.Pairwise (λa b=>a.1 < b.1):=List.Pairwise.filterMap g (λa W h b hb X C=>by
  rw[((A _ _).mp hb).1,((A _ _).mp C).1];exact h) List.pairwise_lt_range
 have ri:∀ (i j:Nat) p q,i < j->d[i]? = some p->d[j]? = some q->p.1 < q.1:=λi j p q s M N=>by
  obtain⟨hi,rfl⟩:=a1a.mp M;obtain⟨hj,rfl⟩:=a1a.mp N;exact List.pairwise_iff_getElem.mp pw i j hi hj s
 have nd:(d.map (·.2)).Nodup:=by
  rw[a6g,List.pairwise_map];refine List.Pairwise.imp_of_mem (λ{a b} ha hb O e=>?_) pw;have u:=(mem a).mp ha;have w:=(mem b).mp hb;rw[← e]at w;have:=T.one _ _ _ u w;lia
 have x:hashes.toList.length=hashes.size:=a8d;have perm:(d.map (·.2)).Perm (List.range hashes.size):=(List.perm_ext_iff_of_nodup nd List.nodup_range).mpr λa=>by
  rw[a2e,a1h];constructor;rintro⟨p,v,rfl⟩;rw[← x];exact T.bd _ _ ((mem p).mp v);intro ha;obtain⟨m,u,_⟩:=T.rea a hashes.toList[a] (a0a (by lia));exact⟨((wk mask hashes.toList[a] m).j,a),(mem _).mpr u,rfl⟩
 have J:d.length=hashes.size:=by have:=perm.length_eq;simpa using this
 have y:(d.map (·.2)).filterMap (hashes[·]?)=d.map λp=>hashes.toList.getD p.2 0:=by
  have D:∀ l:List (Nat×Nat),(∀ p∈l,p.2 < hashes.toList.length)->(l.map (·.2)).filterMap (hashes[·]?)=l.map λp=>hashes.toList.getD p.2 0:=by
   intro l
   induction l with
   | nil=>intro _;rfl
   | cons p r P=>
     intro hb;have u:=hb p a3a;have f:hashes[p.2]? = some (hashes.toList.getD p.2 0):=by
      rw[← a0c,a2i,a0a u];rfl
     rw[a6d,a7h,f,a6d,P λq I=>hb q (a5a _ I)]
  exact D d λp v=>T.bd _ _ ((mem p).mp v)
 refine⟨⟨mask,(d.map (·.1)).toArray,#[],finger,led,moves,plain⟩,(d.map (·.2)).toArray,?_,?_,perm,rfl,by simpa using J,rfl,rfl⟩;unfold laid;rw[L];rfl;have pl:∀ (i j:Nat),(d.map (·.1)).toArray[i]? = some j↔∃ p,d[i]? = some p/\p.1=j:=λi j=>by
  rw[a6c,a0b];exact a7b
 have E:∀ c,Occ (⟨mask,(d.map (·.1)).toArray,#[],finger,led,moves,plain⟩:SetTable) c↔bC9 ow c:=λc=>by
  constructor;rintro⟨i,h⟩;obtain⟨p,f,rfl⟩:=(pl i c).mp h;exact⟨p.2,(mem p).mp (a2b f)⟩;rintro⟨B,h⟩;obtain⟨i,hi,f⟩:=a3e ((mem (c,B)).mpr h);exact⟨i,(pl i c).mpr ⟨(c,B),by rw[a0a hi,f],rfl⟩⟩
 refine⟨⟨k,H⟩,K,rfl,?_,?_,?_,?_,?_⟩;intro i j a b s Q R;obtain⟨p,f,rfl⟩:=(pl i a).mp Q;obtain⟨q,F,rfl⟩:=(pl j b).mp R;exact ri i j p q s f F;intro i j n;obtain⟨p,f,rfl⟩:=(pl i j).mp n;have u:=(mem p).mp (a2b f);have w:=(a2f.mp u).1;rw[T.sz]at w;exact Nat.le_of_lt_succ w;show(d.map (·.1)).toArray.size=((d.map (·.2)).toArray.toList.filterMap (hashes[·]?)).length;rw[show(d.map (·.2)).toArray.toList=d.map (·.2)from rfl,y];simp;show(d.map (·.1)).toArray.size<=mask;simp[J];lia;intro i h' n;rw[show(d.map (·.2)).toArray.toList=d.map (·.2)from rfl,y,a0b]at n;obtain⟨p,f,F⟩:=a7b.mp n;have v:=(mem p).mp (a2b f);have hb:=T.bd _ _ v;have S:hashes.toList[p.2]? = some h':=by
  rw[← F,a2i,a0a hb];rfl
 obtain⟨m,U,V⟩:=T.rea p.2 h' S;have:=T.one _ _ _ U v;exact⟨m,p.1,(pl i p.1).mpr ⟨p,f,rfl⟩,this,λm' G=>(E _).mpr (V m' G)⟩
end Sx
namespace Dv
open PySem L2 Mr
section
variable{Γ:Gm}{H H1:Hp}{σ σ1:Sg}{σV:St}{p:Addr}{o o':HO}
end
def aP{X:Cx}{E:Ex}{i:Nat}{x:Str}{e:Expr}{r:DE}{pos a:Pos}(b:X.N.Nodup)(hi:X.N[i]? = some x)(c:Loc X.env.scope x)(d:GE X e r)(hs:swapsWith e (some (.Name x a)) pos.line X.env=pure false:=by rfl)(f:X.fn x=true\/X.env.scope.names.lookup x=some .local:=by first | exact .inl rfl | exact .inr rfl | assumption) :
  GS E X (.Assign [.Name x a] e pos) (dQ i r):=dD0 λΓ=>pC b hi c (d.to Γ) hs f
theorem uW{z:Str}{i:Int}{K:Res->Prop}:OK1 (ixD (.str z) (.int i)) K=(z.length<=sizeLine/\OK1 (atI z.cps.toList i) λc=>K (.val (.str ⟨#[c]⟩))):=by
 show OK1 (if _ then _ else none) K=_;rw[bJ,aH4]
theorem jC{z:Str}{K:Res->Prop}(h:z.length<=sizeLine):OK1 (vJ [.str z]) K=K (.val (.int z.length)):=by
 show OK1 (if _ then _ else none) K=_;rw[bJ];exact propext ⟨λh=>h.2,λk=>⟨h,k⟩⟩
@[irreducible] noncomputable def bD0(ow:List Nat)(g:DG)(t:DT)(e:DE)(items:List D)(a:Sg):=aP3 ow g t e items a
@[irreducible] noncomputable def cP8(g:DG)(b:DS)(items:List D)(σ:Sg):=bK1 g b items σ
@[irreducible] noncomputable def aX1(c:DT)(b:DS)(σ:Sg):=pI c b cU0 σ
section
variable{σ:Sg}{QS:Out->Prop}{Q:Res->Sg->Prop}{ri:DI}{g:DG}{b:DS}{a:DE}{ra:DA}
theorem lS:RS (aP2 ri g b) σ QS=RI ri σ λitems l a=>OK1 (cP8 g b items (lendO l a)) λo=>QS (yS l a o):=by
 unfold cP8;exact dE7
theorem fJ{c:DT}:RS (aV7 c b) σ QS=OK1 (aX1 c b σ) QS:=by unfold aX1;rfl
theorem iE{ow:List Nat}{t:DT}{e:DE}:RE (fS ow ri g t e) σ Q=RI ri σ λitems l a=>items.length<=sizeLine/\OK1 (bD0 ow g t e items (bS ow (lendO l a))) λy=>Q (.own (.lst y.1)) (yQ l a (mV ow (lendO l a) y.2)):=by
 unfold bD0;exact cO6
def jD{items:List D}(P:Nat->Sg->Prop)(h0:P 0 σ)(hs:∀ i d σ,items[i]? = some d->P i σ->OK1 (g d σ) λc=>RS b c λo=>∃ a,(o=.nx a\/o=.ct a)/\P (i+1) a){K:Out->Prop}(k:∀ σ',P items.length σ'->K (.nx σ')):OK1 (cP8 g b items σ) K:=by
 unfold cP8;exact cO4 P h0 hs k
def cP9{items:List D}(P:Nat->Sg->Prop){K:Out->Prop}(h0:P 0 σ)(hs:∀ i d σ,items[i]? = some d->P i σ->OK1 (g d σ) λc=>RS b c λo=>(∃ a,(o=.nx a\/o=.ct a)/\P (i+1) a)\/(∃ x a,o=.rt x a/\K (.rt x a))\/(∃ a,o=.bk a/\K (.nx a)))(k:∀ σ',P items.length σ'->K (.nx σ')):OK1 (cP8 g b items σ) K:=by
 unfold cP8;exact cO5 P h0 hs k
def bD1{c:DT}(P:Nat->Sg->Prop)(m:Nat)(hm:m < 1000000)(h0:P m σ)(hs:∀ m σ,P m σ->RT c σ λt d=>if t=true then RS b d λo=>(∃ a m',(o=.nx a\/o=.ct a)/\m' < m/\P m' a)\/(∃ x a,o=.rt x a/\QS (.rt x a))\/(∃ a,o=.bk a/\QS (.nx a))else QS (.nx d)):OK1 (aX1 c b σ) QS:=by
 unfold aX1;exact bL8 P m hm h0 hs
def lT{ow:List Nat}{t:DT}{e:DE}{K:List D×Sg->Prop}(items:List D)(a:Sg)(P:Nat->List D->Sg->Prop)(h0:P 0 [] a)
  (hs:∀ i d acc a,items[i]? = some d->P i acc a->OK1 (g d a) λf=>RT t f λb c=>if b=true then RE e c λr h=>∃ v,r=.val v/\P (i+1) (acc++[v]) (bS ow h)else P (i+1) acc (bS ow c))
  (k:∀ acc a,P items.length acc a->K (acc,a)):OK1 (bD0 ow g t e items a) K:=by
 unfold bD0;exact wK items a P h0 hs k
end
end Dv
namespace PySem
structure Fill(prog:Program)(w:World)(A:Around)(S I:Addr)(n:Nat)(P:Nat->Value->Prop)(J:Nat->Heap->Prop):Prop where
 put:∀ i v (s:Shared) (Q:Bool->Shared->Prop) (E:Value->Shared->Prop),i < n->P i v->J i s.heap ->
  (∀ b h' tk,J (i+1) h'->(∀ c o,c≠S->s.heap.get? c=some o->h'.get? c=some o)->Q b {s with heap:=h',toks:=tk})->wpAny (model prog w) A (setAdd S v) Q E s
 stay:∀ i h h',J i h->(∀ c o,c≠I->h.get? c=some o->h'.get? c=some o)->J i h'
section
variable{prog:Program}{w:World}{A:Around}{E:Value->Shared->Prop}{R:Result->Shared->Prop}{S I:Addr}{fp:List Addr}{n:Nat}{P:Nat->Value->Prop}{St J:Nat->Heap->Prop}
theorem aK3(W:Walks prog w A.in1 I fp [I] n P St)(F:Fill prog w A.in1 S I n P J)(l:S∉fp) :
  ∀ (k i:Nat) (s:Shared),i+k=n->St i s.heap->J i s.heap ->
    (∀ h' tk,J n h'->(∀ c o,c≠S->c≠I->s.heap.get? c=some o->h'.get? c=some o)->R (.ok (.ret .none)) {s with heap:=h',toks:=tk}) ->
    codeAny (model prog w) A (.builtin "set.update.loop" ⟨[.ref S,.ref I],[]⟩) R s
 | 0,i,s,m,st,j,q=>by
   have hi:i=n:=m;subst hi;refine a3I PyProof.Rows.F.entry_set_update_loop ?_;rw[a0h a5h _]
   (show wpAny _ A.in1 (pyNext (.ref I) >>= _) _ _ s;refine a3r (W.done s _ _ st λh' tk d=>?_))
   have p:∀ c o,c≠I->s.heap.get? c=some o->h'.get? c=some o:=λc o a e=>d c o (by simpa using a) e;exact a3t (q h' tk (F.stay _ _ _ j p) λc o _ a e=>p c o a e)
 | k+1,i,s,m,st,j,q=>by
   have hi:i < n:=by lia
   refine a3I PyProof.Rows.F.entry_set_update_loop ?_;rw[a0h a5h _]
   (show wpAny _ A.in1 (pyNext (.ref I) >>= _) _ _ s;refine a3r (W.item i s _ _ hi st λv y B C f g=>?_))
   have r:∀ c o,c≠I->s.heap.get? c=some o->y.get? c=some o:=λc o a e=>g c o (by simpa using a) e
   (show wpAny _ A.in1 (holding [v] (setAdd S v) >>= _) _ _ _;refine a3r (a3x ?_))
   refine F.put i v _ _ _ hi C (F.stay _ _ _ j r) λb D E G t=>?_;refine a3t ⟨a3S a5h _,?_⟩;have h:St (i+1) D:=W.frame _ _ _ f λc a o e=>t c o (λz=>l (z ▸ a)) e;exact aK3 W F l k (i+1) _ (by lia) h G λh' tk jn H=>q h' tk jn λc o u x e=>H c o u x (t c o u (r c o x e))
def cQ0{T b a:String}{args:List Value}{Q Q₁:Value->Shared->Prop}{s:Shared}(k:TypeCalled T b a)(l:checkTypeCall T ⟨args,[]⟩=pure ())
  (g:codeAny (model prog w) A.in1 (.call (.builtin b) ⟨.type T::args,[]⟩) (wants Q₁ E) s)
  (h:∀ obj d,Q₁ obj d->d.TypeIs obj T/\codeAny (model prog w) A.in1 (.call (.builtin a) ⟨obj::args,[]⟩) (wants (λr i=>r=.none/\Q obj i) E) d) :
  wpAny (model prog w) A (call (.type T) args) Q E s:=by
 obtain⟨n1,n2,⟨c,n,n3⟩,o,p,q,j⟩:=k;have t:=j.lookup;refine wpAny_call (codeAny_of_tree (a3t ⟨Code.quiet_builtin _ (by decide +kernel),a3I F.entry_type_call ?_⟩));rw[Around.under_plain (weight_type_call_type T args []) rfl]
 repeat (any_goals (first | assumption | wp_step))
 refine a3T g λr s1 f=>?_
 match r,f with
 | .error e,f=>exact f
 | .ok (.ret obj),f=>
   obtain⟨u,hi⟩:=h obj s1 f;have hb:=j.bind obj
   repeat (any_goals (first | assumption | wp_step))
   refine a3T hi λr s2 f=>?_
   match r,f with
   | .error e,f=>exact f
   | .ok (.ret x),⟨m,v⟩=>
     subst m
     repeat (any_goals (first | assumption | wp_step))
end
noncomputable abbrev bD2(es:Array (Int×Value))(ep:Nat)(t:SetTable):Obj:={cls:=.type "set",dict:=none,data:=.set es ep t}
noncomputable def fW(w:World):Bool:=!w.params.followText "set-order"
section
variable{prog:Program}{w:World}{A:Around}{E:Value->Shared->Prop}{s:Shared}
def cQ1(a:Value){Q:Value->Shared->Prop}(h:Q (.ref s.heap.objs.size) {s with heap:=s.heap.push (bD2 #[] 0 (.fresh 0 0 (fW w)))}) :
  codeAny (model prog w) A (.call (.builtin "set.__new__") ⟨[.type "set",a],[]⟩) (wants Q E) s:=by
 refine codeAny_call_builtin F.plain_set_new F.entry_set_new (wpAny_of_eq (F.newCall_set_1 a) ?_);have b:=sub_set_self;unfold Builtin.«set.__new__» Builtin.Frozenset.newClass;obtain⟨c,g,d,tk,os⟩:=s
 wp_walk
 refine a3O (a3t ?_);simp only[newObj];exact a3r (wpAny_alloc (a3t (a3t h)))
end
section
variable{prog:Program}{w:World}{A:Around}{E:Value->Shared->Prop}{n:Nat}{P:Nat->Value->Prop}{St J:Nat->Heap->Prop}
structure Src(prog:Program)(w:World)(A:Around)(h₀:Heap)(l:Addr)(n:Nat)(P:Nat->Value->Prop) where
 T:String
 St:Addr->Nat->Heap->Prop
 ob:Obj
 ty:∃ o,h₀.get? l=some o/\o.cls=.type T
 n1:isSubtype (.type T) (.type "set")=pure false
 n2:isSubtype (.type T) (.type "frozenset")=pure false
 n3:(Value.type T==Value.type "dict")=false
 iter:∀ (A:Around) (s:Shared) (Q:Value->Shared->Prop) (E:Value->Shared->Prop),(∀ b o,h₀.get? b=some o->s.heap.get? b=some o)->Q (.ref s.heap.objs.size) {s with heap:=s.heap.push ob}->wpAny (model prog w) A (pyIter (.ref l)) Q E s
 free:ob.isFreed=false
 walk:∀ (A':Around),A'.handled=A.handled->∀ I,l≠I->Walks prog w A' I [I,l] [I] n P (St I)
 iH:∀ h:Heap,(∀ b o,h₀.get? b=some o->h.get? b=some o)->St h.objs.size 0 (h.push ob)
def bY0{s:Shared}{l:Addr}{Q:Value->Shared->Prop}(c:Src prog w A s.heap l n P)
  (L:∀ A':Around,A'.handled=A.handled->A'.units<=A.units+8->Fill prog w A' s.heap.objs.size (s.heap.objs.size+1) n P J)
  (y:∀ (h':Heap),h'.get? s.heap.objs.size=some (bD2 #[] 0 (.fresh 0 0 (fW w)))->(∀ b o,s.heap.get? b=some o->h'.get? b=some o)->J 0 h')
  (q:∀ h' tk,J n h'->(∀ b o,s.heap.get? b=some o->h'.get? b=some o)->Q (.ref s.heap.objs.size) {s with heap:=h',toks:=tk}) :
  wpAny (model prog w) A (call (.type "set") [.ref l]) Q E s:=by
 obtain⟨T,St,ob,⟨⟨t,k,m,j⟩,f,g⟩,n1,n2,n3,iter,free,walk,iH⟩:=c;simp only at g;subst g;have h:l < s.heap.objs.size:=a8b f;refine cQ0 (Q₁:=λobj s₁=>obj=.ref s.heap.objs.size/\s₁={s with heap:=s.heap.push (bD2 #[] 0 (.fresh 0 0 (fW w)))}) F.called_set (F.typeCall_set_1 _) (cQ1 _ ⟨rfl,rfl⟩) λobj s₁ Z0=>?_;obtain⟨B,C⟩:=Z0;subst B C;have u:(s.heap.push (bD2 #[] 0 (.fresh 0 0 (fW w)))).get? s.heap.objs.size=some (bD2 #[] 0 (.fresh 0 0 (fW w))):=a9b _ rfl;have a:∀ b o,s.heap.get? b=some o->(s.heap.push (bD2 #[] 0 (.fresh 0 0 (fW w)))).get? b=some o:=λb o e=>a8a _ e;have v:Shared.TypeIs {s with heap:=s.heap.push (bD2 #[] 0 (.fresh 0 0 (fW w)))} (.ref s.heap.objs.size) "set":=⟨_,u,rfl⟩;have D:Shared.TypeIs {s with heap:=s.heap.push (bD2 #[] 0 (.fresh 0 0 (fW w)))} (.ref l) T:=⟨_,a l _ f,rfl⟩;refine⟨v,codeAny_call_builtin F.called_set.init.plain F.entry_set_init (check_set_init_1 v ?_)⟩;have G:=a l _ f;unfold Builtin.«set.__init__» noKeywords Builtin.Frozenset.updateFrom;generalize p:pyIter=PI
 wp_walk
 subst p;refine iter _ _ _ _ a ?_;refine a3r (wpAny_runValue ?_);have x:(s.heap.push (bD2 #[] 0 (.fresh 0 0 (fW w)))).objs.size=s.heap.objs.size+1:=Heap.size_push ..;have ne:l≠s.heap.objs.size+1:=λz=>absurd h (by rw[z];exact a5j.mpr (Nat.le_succ _));have i:=iH _ a;rw[x]at i;have r:((s.heap.push (bD2 #[] 0 (.fresh 0 0 (fW w)))).push ob).get? s.heap.objs.size=some (bD2 #[] 0 (.fresh 0 0 (fW w))):=a8a _ u;have d:∀ b o,s.heap.get? b=some o->((s.heap.push (bD2 #[] 0 (.fresh 0 0 (fW w)))).push ob).get? b=some o:=λb o e=>a8a _ (a b o e);show codeAny (model prog w) A.in1.in1 (.builtin "set.update.loop" ⟨[.ref s.heap.objs.size,.ref (s.heap.push (bD2 #[] 0 (.fresh 0 0 (fW w)))).objs.size],[]⟩) _ _;rw[x];refine aK3 (walk A.in1.in1.in1 rfl (s.heap.objs.size+1) ne) (L A.in1.in1.in1 rfl (by show A.units+1+1+1<=A.units+8;lia)) ?_ n 0 _ (a8f n) i (y _ r d) λh' tk jn H=>?_;simp only[List.mem_cons,List.not_mem_nil,or_false,not_or];exact⟨a0e (a3i _),Nat.ne_of_gt h⟩;refine a3t (a3t ⟨rfl,q h' tk jn λb o e=>?_⟩);have hb:=a8b e;exact H b o (a0e hb) (a0e (Nat.lt_succ_of_lt hb)) (d b o e)
noncomputable def Src.list{s:Shared}(d:A.handled=none){l:Addr}{items:Array Value}(a:s.heap.IsList l items):Src prog w A s.heap l items.size (λi v=>items[i]? = some v) where
 T:="list"
 St:=λI i h=>h.IsListIter I l i/\h.IsList l items
 ob:={cls:=.type "list_iterator",data:=.fields #[.ref l,.int 0 0]}
 ty:=by obtain⟨o,f,g,_⟩:=a;exact⟨o,f,g⟩
 n1:=F.sub_list_set
 n2:=F.sub_list_frozenset
 n3:=by decide
 iter:=λA' s' Q E b j=>wpAny_pyIter_list (a.at λo e=>b l o e) j
 free:=rfl
 walk:=λA' ha I c=>Walks.list (ha.trans d) I l c items
 iH:=λh b=>⟨⟨_,a9b _ rfl,rfl,rfl⟩,(a.at λo e=>b l o e).push _⟩
def aR2:isSubtype (.type "tuple") (.type "set")=pure false:=by rw[isSubtype_type];kernel_rfl
def yB:isSubtype (.type "tuple") (.type "frozenset")=pure false:=by rw[isSubtype_type];kernel_rfl
noncomputable def Src.tup{s:Shared}(d:A.handled=none){l:Addr}{items:Array Value}(a:s.heap.IsTuple l items):Src prog w A s.heap l items.size (λi v=>items[i]? = some v) where
 T:="tuple"
 St:=λI i h=>h.IsTupleIter I l i/\h.IsTuple l items
 ob:={cls:=.type "tuple_iterator",data:=.fields #[.ref l,.int 0 0]}
 ty:=by obtain⟨o,f,g,_⟩:=a;exact⟨o,f,g⟩
 n1:=aR2
 n2:=yB
 n3:=by decide
 iter:=λA' s' Q E b j=>wpAny_pyIter_tuple (a.at λo e=>b l o e) j
 free:=rfl
 walk:=λA' ha I c=>Walks.tuple (ha.trans d) I l c items
 iH:=λh b=>⟨⟨_,a9b _ rfl,rfl,rfl⟩,(a.at λo e=>a8a _ (b l o e))⟩
end
end PySem
namespace Sx
open PySem PySem.SetTable
section
variable{t:SetTable}{hs:List Int}
def TOk.stop2(T:TOk t hs)(h:Int):∃ M,M<=10*(13+t.place.size)/\¬ Occ t (wk t.mask h M).j/\∀ m,m < M->Occ t (wk t.mask h m).j:=by
 obtain⟨k,u⟩:=T.pw;have y:=T.fit;have ex:∃ n,n<=t.place.size/\¬ Occ t (wk t.mask h (tm t.mask h (13+n))).j:=by
  refine a3f λhn=>?_;have l:∀ n,n<=t.place.size->Occ t (stp k n (lp t.mask h 13).1):=λn d=>a3f λz=>hn ⟨n,d,by
   rw[aR0,bN0 u h n];exact z⟩
  let f:Nat->Nat:=λn=>below t.place (stp k n (lp t.mask h 13).1)
  have o:∀ n,n<=t.place.size->f n < t.place.size/\t.place[f n]? = some (stp k n (lp t.mask h 13).1):=λn d=>by
   obtain⟨i,e⟩:=l n d;have:f n=i:=iD T.ri e;rw[this];exact⟨(a2f.mp e).1,e⟩
  have s:∀ a b,a < b->b<=t.place.size->f a≠f b:=λa b g hb e=>by
   have p:=(o a (by lia)).2;rw[e,(o b hb).2]at p;exact bM7 g (by lia:b < 2 ^ k) (a7a p).symm
  obtain⟨i,hi,e⟩:=aC2 t.place.size f (λi h=>(o i (by lia)).1) (λa b g hb=>s a b g (by lia)) (f t.place.size) (o t.place.size (a6a _)).1;exact s i t.place.size hi (a6a _) e
 obtain⟨n,hn,q⟩:=ex;have r:∀ N,(∃ m,m < N/\¬ Occ t (wk t.mask h m).j)->∃ M,M < N/\¬ Occ t (wk t.mask h M).j/\∀ m,m < M->Occ t (wk t.mask h m).j:=by
  intro N
  induction N with
  | zero=>rintro⟨m,h,_⟩;exact absurd h (a4i _)
  | succ N v=>
    rintro⟨m,p,w⟩;by_cases hb:∃ m,m < N/\¬ Occ t (wk t.mask h m).j;obtain⟨M,a,b,c⟩:=v hb;exact⟨M,by lia,b,c⟩;exact⟨m,p,w,λm' x=>a3f λz=>hb ⟨m',by lia,z⟩⟩
 obtain⟨M,a,b,c⟩:=r (tm t.mask h (13+n)+1) ⟨_,a3i _,q⟩;have:=dQ1 t.mask h (13+n);exact⟨M,by lia,b,c⟩
end
end Sx
namespace PySem
open Sx
section
variable{prog:Program}{w:World}{A:Around}{E:Value->Shared->Prop}{s:Shared}
abbrev mH(prog:Program)(w:World)(h:Heap)(k:List Int)(a:Addr):Prop:=IsTupleKey (intKind prog w) h k a
def mH.at{h h':Heap}{k:List Int}{a:Addr}(x:mH prog w h k a)(e:∀ o,h.get? a=some o->h'.get? a=some o):mH prog w h' k a:=by
 obtain⟨o,items,n,b,r⟩:=x;exact⟨o,items,n,e o b,r⟩
theorem mI:∀ {k:List Int} {vs:List Value},ItemsAre (intKind prog w) k vs->∀ v∈vs,∃ i t,v=.int i t
 | _,_,.nil,v,a=>by simp at a
 | _,_,.cons b r,v,a=>by
   rcases a1c.mp a with rfl | a;obtain⟨t,e⟩:=Value.isInt_shape b;exact⟨_,t,e⟩;exact mI r v a
def cQ2{k:List Int}{a:Addr}{Q:Bool->Shared->Prop}(d:mH prog w s.heap k a)(h:Q true s):wpAny (model prog w) A (hashByValue 8 (.ref a)) Q E s:=by
 have f:=d.typeIs;obtain⟨o,items,n,g,_,hd,hi⟩:=d;unfold hashByValue;refine a3r (a3X f F.slot_tuple_hash.lookup ?_);dsimp only;refine a3r (wpAny_seqItems g hd ?_);dsimp only[Option.getD_some];refine a3r ?_;rw[← Array.forIn_toList];refine wpAny_forIn_list _ (λeZ r s'=>r.1=none/\s'=s/\∀ v∈eZ,∃ i t,v=.int i t) _ ?_ ?_ _ _ ⟨rfl,rfl,mI hi⟩
 ·rintro v eZ r s' ⟨c,rfl,b⟩;obtain⟨i,t,rfl⟩:=b v a3a;have e:hashByValue 7 (.int i t)=pure true:=by unfold hashByValue;rfl
  rw[e];refine a3r (a3t ?_);simp only[Bool.not_true,Bool.false_eq_true,if_false];exact a3t ⟨rfl,rfl,λu j=>b u (a5a _ j)⟩
 ·rintro⟨l,m⟩ s' ⟨c,rfl,_⟩;simp only at c;subst c;exact a3t h
def bN4{k:List Int}{a:Addr}{Q:Bool->Shared->Prop}(d:mH prog w s.heap k a)(h:Q false s):wpAny (model prog w) A (ofAClassStatement 8 (.ref a)) Q E s:=by
 have f:=d.typeIs;obtain⟨o,items,n,g,_,hd,hi⟩:=d;unfold ofAClassStatement;refine a3r (a3Q f ?_);dsimp only;rw[a3s (by decide)];refine a3r (a3t ?_);simp only[Bool.not_true,Bool.false_eq_true,if_false];refine a3r (wpAny_seqItems g hd ?_);dsimp only;refine a3r ?_;rw[← Array.forIn_toList];refine wpAny_forIn_list _ (λeZ r s'=>r.1=none/\s'=s/\∀ v∈eZ,∃ i t,v=.int i t) _ ?_ ?_ _ _ ⟨rfl,rfl,mI hi⟩
 ·rintro v eZ r s' ⟨c,rfl,b⟩;obtain⟨i,t,rfl⟩:=b v a3a;have e:ofAClassStatement 7 (.int i t)=pure false:=by unfold ofAClassStatement;rfl
  rw[e];refine a3r (a3t ?_);simp only[Bool.false_eq_true,if_false];exact a3t ⟨rfl,rfl,λu j=>b u (a5a _ j)⟩
 ·rintro⟨l,m⟩ s' ⟨c,rfl,_⟩;simp only at c;subst c;exact a3t h
def bY1{k:List Int}{a:Addr}{Q:Bool->Shared->Prop}(f:mH prog w s.heap k a)(l:List Value)(g:∀ v∈l,∃ d b,v=.ref b/\mH prog w s.heap d b)(h:Q false s):wpAny (model prog w) A (searchCouldBeSeen (.ref a) l) Q E s:=by
 unfold searchCouldBeSeen;refine a3r ?_;refine wpAny_forIn_list _ (λeZ r s'=>r.1=none/\s'=s/\∀ v∈eZ,∃ d b,v=.ref b/\mH prog w s.heap d b) _ ?_ ?_ _ _ ⟨rfl,rfl,g⟩;rintro v eZ r s' ⟨e,rfl,c⟩;obtain⟨d,b,rfl,hb⟩:=c v a3a;have go:∀ u∈eZ,∃ d b,u=Value.ref b/\mH prog w s'.heap d b:=λu i=>c u (a5a _ i);dsimp only;split;exact a3t ⟨rfl,rfl,go⟩;refine a3r (wpAny_eqIsQuiet_tuple f ?_);simp only[Bool.not_true,Bool.false_eq_true,if_false];refine a3r (wpAny_eqIsQuiet_tuple hb ?_);simp only[Bool.not_true,Bool.false_eq_true,if_false];refine a3r (bN4 f ?_);simp only[Bool.false_eq_true,if_false];refine a3r (bN4 hb ?_);simp only[Bool.false_eq_true,if_false];exact a3t ⟨rfl,rfl,go⟩;rintro⟨j,m⟩ s' ⟨e,rfl,_⟩;simp only at e;subst e;exact a3t h
end
structure oM(prog:Program)(w:World)(h:Heap)(S:Addr)(led:Bool)(N:Addr->Prop)(ks:List (List Int))(o:Obj)(es:Array (Int×Value))(ep:Nat)(t:SetTable):Prop where
 ob:h.get? S=some o
 ex:o.ExactSet
 dt:o.data=.set es ep t
 tk:TOk t (es.toList.map (·.1))
 ful:t.place.size*5 < t.mask*3
 ld:t.led=led
 pl:t.plain=true
 len:ks.length=es.size
 it:∀ (i:Nat) e,es[i]? = some e->∃ k a,ks[i]? = some k/\e=(tupleKeyHash (intKind prog w) k,.ref a)/\mH prog w h k a/\N a
 nd:ks.Nodup
section
variable{prog:Program}{w:World}{A:Around}{E:Value->Shared->Prop}{s:Shared}{S:Addr}{led:Bool}{N:Addr->Prop}{ks:List (List Int)}{o:Obj}{es:Array (Int×Value)}{ep:Nat}{t:SetTable}
theorem _root_.Sx.TOk.fits{hs:List Int}(T:TOk t hs){n:Nat}(hn:hs.length=n):t.fits n=true:=by
 have b:=T.len;have a:=T.fit;simp only[SetTable.fits,SetTable.fill,Bool.and_eq_true,beq_iff_eq,decide_eq_true_eq,T.dm];exact⟨by lia,by simpa using a⟩
theorem oM.fits(X:oM prog w s.heap S led N ks o es ep t):t.fits es.size=true:=X.tk.fits (by simp)
def oM.state(X:oM prog w s.heap S led N ks o es ep t){Q:(Array (Int×Value)×Nat×SetTable)->Shared->Prop}(h:Q (es,ep,t) s):wpAny (model prog w) A (setState S) Q E s:=
 wpAny_setState_of X.ob X.dt X.fits h
def oM.even(X:oM prog w s.heap S led N ks o es ep t):t.gaveWay=false:=by
 obtain⟨k,a⟩:=X.tk.pw;have b:=X.tk.m7;unfold SetTable.gaveWay;have:t.mask % 2=1:=by
  cases k with
  | zero=>lia
  | succ k=>rw[a4h]at a;lia
 rw[this];rfl
theorem oW(X:oM prog w s.heap S led N ks o es ep t){k:List Int}{a:Addr}(W:A.units < cLine)(I:mH prog w s.heap k a){M:Nat}(hM:¬ Occ t (wk t.mask (tupleKeyHash (intKind prog w) k) M).j)(hb:∀ m,m < M->Occ t (wk t.mask (tupleKeyHash (intKind prog w) k) m).j)
  (J:M < 10*SetTable.turns t.mask) :
  ∀ (f n:Nat) (c:Option SetTable.Probe) (Q:SetFound->Shared->Prop),c.getD (t.probeStart (tupleKeyHash (intKind prog w) k))=wk t.mask (tupleKeyHash (intKind prog w) k) n->n<=M->M-n < f ->
    (∀ i:Nat,ks[i]? = some k->∃ m j,n<=m/\t.place[i]? = some j/\(wk t.mask (tupleKeyHash (intKind prog w) k) m).j=j/\m < M) ->
    (k∈ks->Q (.there none) s)->(k∉ks->Q (.free (wk t.mask (tupleKeyHash (intKind prog w) k) M).j false) s)->wpAny (model prog w) A (setSearchFrom S (.ref a) (tupleKeyHash (intKind prog w) k) true f c) Q E s
 | 0,n,c,Q,_,_,hf,_,_,_=>by lia
 | f+1,n,c,Q,hst,hn,hf,B,Y,q2=>by
   unfold setSearchFrom;refine a3r (X.state ?_);dsimp only;rw[X.even,a3u a3d,hst];have hg:=bN2 X.tk (h:=tupleKeyHash (intKind prog w) k) (hashAt:=λi=>(es[i]?.map (·.1)).getD 0) hM hb (10*SetTable.turns t.mask) n hn (by lia);have C:∀ (i:Nat) e,es[i]? = some e->((es[i]?.map (·.1)).getD 0)=e.1:=λi e Z=>by rw[Z];rfl
   split
   ·rename_i met r;rcases hg with⟨m,i,a1,a2,K,a4,a5,a6⟩ | ⟨a1,a2⟩
    ·have e:met=.candidate (wk t.mask (tupleKeyHash (intKind prog w) k) m).j i (wk t.mask (tupleKeyHash (intKind prog w) k) (m+1)):=a7a (r.symm.trans a6);subst e;dsimp only;have hi:i < es.size:=by
      have h1:=(a2f.mp K).1;have h2:=X.tk.len;simp at h2;lia
     have L:es[i]? = some es[i]:=a5c hi;obtain⟨k',b,D,ee,O,_⟩:=X.it i _ L;have seen:∀ v∈((es.filter (λx=>x.1==tupleKeyHash (intKind prog w) k)).toList.map (·.2)),∃ k' b,v=Value.ref b/\mH prog w s.heap k' b:=λv hv=>by
      obtain⟨e,Z,rfl⟩:=a2e.mp hv;have he':e∈es:=by
       rw[Array.mem_toList_iff]at Z;exact(Array.mem_filter.mp Z).1
      obtain⟨j,hj,ej⟩:=Array.getElem_of_mem he';obtain⟨k2,p,_,l,h2,_⟩:=X.it j e (by rw[a5c hj,ej]);exact⟨k2,p,by rw[l],h2⟩
     by_cases hl:t.led=true
     ·rw[hl];simp only[Bool.not_true,Bool.false_eq_true,if_false];rw[L,ee];dsimp only;refine a3r (a3x (wpAny_eqBool_tuple W O I ?_));refine a3r (X.state ?_);dsimp only;by_cases g:k'=k;subst g;rw[a3A rfl];simp only[Bool.and_self,if_true];exact a3t (Y (a2b D));rw[a3y g];simp only[Bool.and_false,Bool.false_eq_true,if_false];have F:t.sameMemory t.moves t.mask=some true:=by unfold SetTable.sameMemory;simp
      rw[F];dsimp only;rw[a3s rfl,xA X.tk.ri K];dsimp only;rw[L,ee];dsimp only;refine a3r (wpAny_isSame_ref_self ?_);simp only[if_true];refine a3r (a3t ?_);dsimp only;refine oW X W I hM hb J f (m+1) (some _) Q rfl (by lia) (by lia) (λd l=>?_) Y q2;obtain⟨G,j2,P,p,q,R⟩:=B d l;refine⟨G,j2,?_,p,q,R⟩
      -- it lies behind the one T was met
      refine a4j λhle=>?_;have H:d < es.size:=by rw[← X.len];exact(a1a.mp l).1
      have u:es[d]? = some es[d]:=a5c H;obtain⟨k3,b5,y,U,_⟩:=X.it d _ u;rw[l]at y;cases y;by_cases z:G=m
      ·subst z;have:d=i:=by rw[← iD X.tk.ri p,← iD X.tk.ri K,q]
       subst this;rw[D]at l;exact g (a7a l)
      ·refine a5 G d P (by lia) (by rw[p,q]) ?_;show(es[d]?.map (·.1)).getD 0=_;rw[C d _ u,U]
     ·have hl':t.led=false:=by simpa using hl
      rw[hl'];simp only[Bool.not_false,if_true];refine a3r (bY1 I _ seen ?_);simp only[Bool.false_eq_true,if_false];rw[L,ee];dsimp only;refine a3r (a3x (wpAny_eqBool_tuple W O I ?_));refine a3r (X.state ?_);dsimp only;by_cases g:k'=k;subst g;rw[a3A rfl];simp only[Bool.and_self,if_true];exact a3t (Y (a2b D));rw[a3y g];simp only[Bool.and_false,Bool.false_eq_true,if_false];have F:t.sameMemory t.moves t.mask=some true:=by unfold SetTable.sameMemory;simp
      rw[F];dsimp only;rw[a3s rfl,xA X.tk.ri K];dsimp only;rw[L,ee];dsimp only;refine a3r (wpAny_isSame_ref_self ?_);simp only[if_true];refine a3r (a3t ?_);dsimp only;refine oW X W I hM hb J f (m+1) (some _) Q rfl (by lia) (by lia) (λd l=>?_) Y q2;obtain⟨G,j2,P,p,q,R⟩:=B d l;refine⟨G,j2,?_,p,q,R⟩
      -- it lies behind the one T was met
      refine a4j λhle=>?_;have H:d < es.size:=by rw[← X.len];exact(a1a.mp l).1
      have u:es[d]? = some es[d]:=a5c H;obtain⟨k3,b5,y,U,_⟩:=X.it d _ u;rw[l]at y;cases y;by_cases z:G=m
      ·subst z;have:d=i:=by rw[← iD X.tk.ri p,← iD X.tk.ri K,q]
       subst this;rw[D]at l;exact g (a7a l)
      ·refine a5 G d P (by lia) (by rw[p,q]) ?_;show(es[d]?.map (·.1)).getD 0=_;rw[C d _ u,U]
    ·have e:met=.empty (wk t.mask (tupleKeyHash (intKind prog w) k) M).j none:=a7a (r.symm.trans a2);subst e;dsimp only;refine a3t (q2 λhm=>?_);obtain⟨i,hi,e⟩:=a3e hm;have D:ks[i]? = some k:=by rw[a0a hi,e]
     obtain⟨m,j,P,p,q,R⟩:=B i D;have hi':i < es.size:=by rw[← X.len];exact hi
     have u:es[i]? = some es[i]:=a5c hi';obtain⟨k3,b5,y,U,_⟩:=X.it i _ u;rw[D]at y;cases y;refine a1 m i P R (by rw[p,q]) ?_;show(es[i]?.map (·.1)).getD 0=_;rw[C i _ u,U]
   ·rename_i V;exfalso;rcases hg with⟨m,i,_,_,_,_,_,a6⟩ | ⟨_,a2⟩;exact V _ a6;exact V _ a2
end
end PySem
namespace Sx
open PySem PySem.SetTable
theorem uX(n:Nat):∀ (f k:Nat),n < 2 ^ k*2 ^ f->3<=k->∃ g,sizeAbove.go n f (2 ^ k)=2 ^ g/\k<=g/\n < 2 ^ g/\(2 ^ g=2 ^ k\/2 ^ g<=2*n)
 | 0,k,h,i=>⟨k,rfl,a6a _,by simpa using h,.inl rfl⟩
 | f+1,k,h,i=>by
   unfold sizeAbove.go;split;rename_i j;have e:2 ^ k*2=2 ^ (k+1):=(a4h ..).symm;rw[e];obtain⟨g,a,b,c,d⟩:=uX n f (k+1) (by rw[a4h,a6j,a7i 2 (2 ^ f),← a4h];exact h) (by lia);refine⟨g,a,by lia,c,.inr ?_⟩;rcases d with d | d;rw[d,a4h];lia;exact d;rename_i l;exact⟨k,rfl,a6a _,by lia,.inl rfl⟩
def yC(n:Nat)(h:n < 2 ^ 60):∃ k,sizeAbove n=2 ^ k/\3<=k/\n < 2 ^ k/\2 ^ k<=8+2*n:=by
 obtain⟨k,a,b,c,d⟩:=uX n 64 3 (a4c h (by decide)) (a6a _);exact⟨k,a,b,c,by lia⟩
noncomputable def rel{α:Type}(l:List α)(od:List Nat):List α:=od.filterMap (l[·]?)
theorem aR3{a:Type}{l:List a}:∀ {od:List Nat},(∀ j∈od,j < l.length)->∀ i:Nat,(rel l od)[i]? = (od[i]?).bind (l[·]?)
 | [],_,i=>by simp[rel]
 | j::od,h,i=>by
   have hj:=h j a3a;have e:rel l (j::od)=l[j]::rel l od:=by
    unfold rel;rw[a7h,a0a hj]
   rw[e];cases i with
   | zero=>simp[List.getElem?_eq_getElem hj]
   | succ i=>rw[a9c,a9c];exact aR3 (λx b=>h x (a5a _ b)) i
def zL{a:Type}{l:List a}{od:List Nat}(h:∀ j∈od,j < l.length):(rel l od).length=od.length:=by
 induction od with
 | nil=>rfl
 | cons j od b=>
   have hj:=h j a3a;have e:rel l (j::od)=l[j]::rel l od:=by
    unfold rel;rw[a7h,a0a hj]
   rw[e,a5f,a5f,b λx c=>h x (a5a _ c)]
def aX2{b:Type}{l:List b}{od:List Nat}(h:od.Perm (List.range l.length)):(rel l od).Perm l:=by
 have a:(rel l od).Perm (rel l (List.range l.length)):=h.filterMap _;have c:rel l (List.range l.length)=l:=by unfold rel;exact PySem.List.filterMap_getElem?_range_length l
 rw[c]at a;exact a
def xC{b:Type}(l:List b)(p:Nat)(x:b):(aR1 l p x).Perm (x::l):=by
 unfold aR1;have:=List.perm_middle (a:=x) (l₁:=l.take p) (l₂:=l.drop p);rwa[List.take_append_drop]at this
end Sx
namespace PySem
open Sx
section
variable{prog:Program}{w:World}{A:Around}{E:Value->Shared->Prop}{s:Shared}{S:Addr}{led:Bool}{N:Addr->Prop}{ks:List (List Int)}{o:Obj}{es:Array (Int×Value)}{ep:Nat}{t:SetTable}
def aK4(prog:Program)(w:World)(h:Heap)(S:Addr)(led:Bool)(N:Addr->Prop)(ks:List (List Int)):Prop:=∃ o es ep t,oM prog w h S led N ks o es ep t
def oM.store(X:oM prog w s.heap S led N ks o es ep t){b:Array (Int×Value)}{t':SetTable}{c:List (List Int)}(T:TOk t' (b.toList.map (·.1)))(m:t'.led=t.led)(p:t'.plain=true)(hn:c.length=b.size)(g:c.Nodup)
  (hi:∀ (i:Nat) e,b[i]? = some e->∃ k a,c[i]? = some k/\e=(tupleKeyHash (intKind prog w) k,.ref a)/\mH prog w s.heap k a/\N a) (q:t'.place.size*5 < t'.mask*3) :
  oM prog w (s.heap.update S (Obj.putSet b t')) S led N c {o with data:=.set b (ep+1) t'} b (ep+1) t':=by
 have r:(s.heap.update S (Obj.putSet b t')).get? S=some {o with data:=.set b (ep+1) t'}:=by
  have:=a6e (Obj.putSet b t') X.ob (by rw[a3V b t' X.dt];rfl);rw[a3V b t' X.dt]at this;exact this
 refine⟨r,X.ex,rfl,T,q,m.trans X.ld,p,hn,λi e u=>?_,g⟩;obtain⟨k,a,v,x,l,y⟩:=hi i e u;refine⟨k,a,v,x,l.at (λob h=>?_),y⟩;have j:a≠S:=λz=>by
  subst z;obtain⟨A,items,n,d,_,f,_⟩:=l;rw[X.ob]at d;cases d;rw[X.dt]at f;cases f
 rw[(a1i s.heap S (Obj.putSet b t')).2 a j];exact h
def cQ3(X:oM prog w s.heap S led N ks o es ep t){k:List Int}{a:Addr}{Q:Bool->Shared->Prop}(hu:A.units < cLine)(hk:mH prog w s.heap k a)(haN:N a)(hn:ks.length < 4000)
  (q1:k∈ks->∀ tk,Q false {s with toks:=tk}) (q2:k∉ks->∀ h' tk J,aK4 prog w h' S led N J->J.Perm (k::ks)->(∀ c ob,c≠S->s.heap.get? c=some ob->h'.get? c=some ob)->Q true {s with heap:=h',toks:=tk}) :
  wpAny (model prog w) A (setAdd S (.ref a)) Q E s:=by
 obtain⟨M,hMs,hM,hb⟩:=X.tk.stop2 (tupleKeyHash (intKind prog w) k);have hsz:t.place.size=es.size:=by have:=X.tk.len;simpa using this
 have hfit:=X.tk.fit;have hes:es.size < 4000:=by rw[← X.len];exact hn
 unfold setAdd;refine a3x (a3r (wpAny_pyHash_tuple hu hk ?_));unfold setAddHashed;refine a3x ?_;generalize hs':s.toks+(k.length+1)=d;have X':oM prog w ({s with toks:=d}:Shared).heap S led N ks o es ep t:=X;have K:mH prog w ({s with toks:=d}:Shared).heap k a:=hk;unfold setAddHashedIn;refine a3r (X'.state ?_);dsimp only;have hbs:byScan (.ref a) es=false:=rfl;rw[hbs,a3u a3d];unfold setSearch;refine a3r (oW X' hu K hM hb (by show M < 10*(t.mask+15);lia) 100000 0 none _ rfl (a2d _) (by lia) (λi ei=>?_) (λhm=>a3t (q1 hm d)) λhm=>?_)
 ·have hi':i < es.size:=by rw[← X.len];exact(a1a.mp ei).1
  have L:es[i]? = some es[i]:=a5c hi';obtain⟨k3,b5,e4,e5,_⟩:=X.it i _ L;rw[ei]at e4;cases e4;obtain⟨m,j,c1,c2,c3⟩:=X.tk.rea i (tupleKeyHash (intKind prog w) k) (by rw[a0b,a0c,L,e5];rfl);refine⟨m,j,a2d _,c1,c2,a4j λz=>?_⟩;by_cases zz:M=m;subst zz;exact hM ⟨i,by rw[c1,c2]⟩;exact hM (c3 M (by lia))
 ·dsimp only;refine a3r (X'.state ?_);dsimp only;have r:=aK1 t (wk t.mask (tupleKeyHash (intKind prog w) k) M).j X.tk.dm;have hf7:=X.tk.m7;have hful:=X.ful;have B:=X.tk.put hM hb (by lia);have l:=(lQ X.tk.ri (wk t.mask (tupleKeyHash (intKind prog w) k) M).j).le;generalize hj:(wk t.mask (tupleKeyHash (intKind prog w) k) M).j=j at r B l ⊢;rw[r]at B ⊢;dsimp only at B ⊢;generalize hp:SetTable.below t.place j=p at B l ⊢;rw[a3s X.pl];refine a3r (cQ2 K ?_);rw[a3s rfl];have C:p<=es.size:=by lia
  have O:p<=ks.length:=by rw[X.len];exact C
  have ehs:(SetTable.insertAt es p (tupleKeyHash (intKind prog w) k,Value.ref a)).toList.map (·.1)=aR1 (es.toList.map (·.1)) p (tupleKeyHash (intKind prog w) k):=by
   rw[SetTable.toList_insertAt];unfold aR1;rw[a4d,a6d,List.map_take,List.map_drop]
  rw[← ehs]at B;have q:(SetTable.insertAt es p (tupleKeyHash (intKind prog w) k,Value.ref a)).size=es.size+1:=vL es C _;have hpl:(SetTable.insertAt t.place p j).size=es.size+1:=by rw[vL t.place l,hsz]
  have P:∀ (i:Nat) e,(SetTable.insertAt es p (tupleKeyHash (intKind prog w) k,Value.ref a))[i]? = some e->∃ R u,(aR1 ks p k)[i]? = some R/\e=(tupleKeyHash (intKind prog w) R,.ref u)/\mH prog w s.heap R u/\N u:=λi e h=>by
   rw[iG _ C]at h;rw[aX0 _ O];split at h;rw[a3s (by assumption)];exact X.it i e h;split at h;cases h;rw[a3u (by assumption),a3s (by assumption)];exact⟨k,a,rfl,rfl,hk,haN⟩;rw[a3u (by assumption),a3u (by assumption)];exact X.it (i-1) e h
  have T:(aR1 ks p k).Nodup:=(xC ks p k).nodup_iff.mpr (a9h.mpr ⟨hm,X.nd⟩);have f:(aR1 ks p k).length=(SetTable.insertAt es p (tupleKeyHash (intKind prog w) k,Value.ref a)).size:=by rw[xB _ O,q,X.len]
  have hz:es.size+1<=sizeLine:=by rw[a3G];lia
  refine a3r (wpAny_storeSet_of (s:={s with toks:=d}) X.ob X.dt ?_ (by rw[q];exact hz));have kept:∀ (e2:Array (Int×Value)) (t2:SetTable) c ob,c≠S->s.heap.get? c=some ob->(s.heap.update S (Obj.putSet e2 t2)).get? c=some ob:=λe2 t2 c ob hc e=>by
   rw[(a1i s.heap S (Obj.putSet e2 t2)).2 c hc];exact e
  by_cases U:({t with place:=SetTable.insertAt t.place p j}:SetTable).tooFull=true
  ·rw[U];simp only[Bool.not_false,Bool.and_self,if_true];refine a3r ?_;unfold setRelay
   -- the table is full for a moment: what is known of it still
   have hg:(s.heap.update S (Obj.putSet (SetTable.insertAt es p (tupleKeyHash (intKind prog w) k,Value.ref a)) {t with place:=SetTable.insertAt t.place p j})).get? S=some {o with data:=.set (SetTable.insertAt es p (tupleKeyHash (intKind prog w) k,Value.ref a)) (ep+1) {t with place:=SetTable.insertAt t.place p j}}:=by
    have:=a6e (Obj.putSet (SetTable.insertAt es p (tupleKeyHash (intKind prog w) k,Value.ref a)) {t with place:=SetTable.insertAt t.place p j}) X.ob (by rw[a3V _ _ X.dt];rfl);rw[a3V _ _ X.dt]at this;exact this
   refine a3r (wpAny_setState_of (s:={s with heap:=s.heap.update S (Obj.putSet (SetTable.insertAt es p (tupleKeyHash (intKind prog w) k,Value.ref a)) {t with place:=SetTable.insertAt t.place p j}),toks:=d}) hg rfl (B.fits (by simp)) ?_);dsimp only;have hgr:SetTable.grown (es.size+1)=(es.size+1)*4:=by unfold SetTable.grown;rw[a3u (by lia)]
   obtain⟨H,V,sa2,sa3,sa4⟩:=yC ((es.size+1)*4) (by lia);rw[hgr,V];rw[a3u (by rw[a3G];lia)];have hpos:1<=2 ^ H:=Nat.one_le_two_pow;have h8:8<=2 ^ H:=by
    have:2 ^ 3<=2 ^ H:=Nat.pow_le_pow_right (by decide) sa2;simpa using this
   generalize hE:SetTable.insertAt es p (tupleKeyHash (intKind prog w) k,Value.ref a)=b at *;obtain⟨D,od,l1,l2,l3,l4,l5,l6,l7⟩:=bN3 (mask:=2 ^ H-1) (k:=H) (finger:=t.finger) (moves:=({t with place:=SetTable.insertAt t.place p j}:SetTable).movedTo (2 ^ H-1)) (led:=t.led) (plain:=t.plain) (hashes:=b.map (·.1)) (by lia) (by lia) (by rw[Array.size_map,q];lia);have hrl:({t with place:=SetTable.insertAt t.place p j}:SetTable).relaid (b.map (·.1)) ((es.size+1)*4)=some (D,od):=by
    unfold SetTable.relaid;rw[V];exact l1
   rw[Array.size_map]at l3 l5;have F:∀ x∈od.toList,x < b.toList.length:=λx I=>by
    have:=l3.mem_iff.mp I;rw[a1h]at this;rw[a8d];exact this
   have L:(od.filterMap (b[·]?)).toList=rel b.toList od.toList:=by
    rw[Array.toList_filterMap];unfold rel;congr 1;funext x;rw[a0c]
   have v:od.toList.length=b.size:=by have:=l3.length_eq;simpa using this
   have G:(od.filterMap (b[·]?)).size=b.size:=by
    rw[← a8d,L,zL F,v]
   rw[hrl];refine a3r ?_;show wpAny (model prog w) A (ite (((od.filterMap (b[·]?)).size != b.size)=true) _ _) _ _ _;dsimp only;rw[G];simp only[bne_self_eq_false,Bool.false_eq_true,if_false];refine a3t ?_;dsimp only;refine wpAny_storeSet_of (s:={s with heap:=s.heap.update S (Obj.putSet b {t with place:=SetTable.insertAt t.place p j}),toks:=d}) hg rfl ?_ (by rw[G,q];exact hz);refine a3t ?_
   -- as if it were stored at once
   have T3:TOk D ((od.filterMap (b[·]?)).toList.map (·.1)):=by
    have e4:(od.filterMap (b[·]?)).toList.map (·.1)=od.toList.filterMap ((b.map (·.1))[·]?):=by
     rw[Array.toList_filterMap,List.map_filterMap];congr 1;funext x;rw[Array.getElem?_map]
    rw[e4];exact l2
   have W:∀ x∈od.toList,x < (aR1 ks p k).length:=λx I=>by rw[f,← a8d];exact F x I
   refine q2 hm _ d (rel (aR1 ks p k) od.toList) ⟨{o with data:=.set (od.filterMap (b[·]?)) (ep+1+1) D},od.filterMap (b[·]?),ep+1+1,D,?_,X.ex,rfl,T3,?_,l6.trans X.ld,l7.trans X.pl,?_,?_,?_⟩ ?_ ?_;have:=a6e (Obj.putSet (od.filterMap (b[·]?)) D) hg (by rw[a3V _ _ rfl];rfl);rw[a3V _ _ rfl]at this;exact this;rw[l4,l5,q];lia;rw[zL W,v,G]
   ·intro i e h;rw[← a0c,L,aR3 F]at h;rw[aR3 W];cases I:od.toList[i]? with
    | none=>rw[I]at h;cases h
    | some x=>
      rw[I]at h;have he':b[x]? = some e:=by rw[← a0c];exact h
      obtain⟨R,u,h1,h2,h3,h4⟩:=P x e he';refine⟨R,u,h1,h2,h3.at (λob hob=>?_),h4⟩;have y:u≠S:=λz=>by
       subst z;obtain⟨o2,items,n,Y,_,Z,_⟩:=h3;rw[X.ob]at Y;cases Y;rw[X.dt]at Z;cases Z
      rw[(a1i _ S (Obj.putSet (od.filterMap (b[·]?)) D)).2 u y];exact kept _ _ u ob y hob
   ·exact(aX2 (by rw[f];exact l3)).nodup_iff.mpr T
   ·exact(aX2 (by rw[f];exact l3)).trans (xC ks p k)
   ·intro c ob hc e;rw[(a1i _ S (Obj.putSet (od.filterMap (b[·]?)) D)).2 c hc];exact kept _ _ c ob hc e
  ·have g:({t with place:=SetTable.insertAt t.place p j}:SetTable).tooFull=false:=by simpa using U
   rw[g];simp only[Bool.and_false,Bool.false_eq_true,if_false];refine a3t (q2 hm _ d (aR1 ks p k) ⟨_,_,_,_,X.store B rfl X.pl f T P ?_⟩ (xC ks p k) (kept _ _));unfold SetTable.tooFull SetTable.fill at g;simp only[X.tk.dm,decide_eq_false_iff_not,Nat.not_le]at g;simpa using g
end
section
variable{prog:Program}{w:World}{A:Around}{S I:Addr}{led:Bool}{N:Addr->Prop}
def aK4.stay{h h':Heap}{ks:List (List Int)}(X:aK4 prog w h S led N ks)(f:h'.get? S=h.get? S)(g:∀ c ob,N c->h.get? c=some ob->h'.get? c=some ob):aK4 prog w h' S led N ks:=by
 obtain⟨o,es,ep,t,Y⟩:=X;refine⟨o,es,ep,t,f.trans Y.ob,Y.ex,Y.dt,Y.tk,Y.ful,Y.ld,Y.pl,Y.len,λi e j=>?_,Y.nd⟩;obtain⟨k,a,l,m,n,d⟩:=Y.it i e j;exact⟨k,a,l,m,n.at (λob b=>g a ob d b),d⟩
def fK(prog:Program)(w:World)(h:Heap)(N:Addr->Prop)(ks:List (List Int))(items:Array Value):Prop:=ks.length=items.size/\∀ (i:Nat) v,items[i]? = some v->∃ k a,ks[i]? = some k/\v=.ref a/\mH prog w h k a/\N a
def fK.stay{h h':Heap}{ks:List (List Int)}{items:Array Value}(X:fK prog w h N ks items)(f:∀ c ob,N c->h.get? c=some ob->h'.get? c=some ob):fK prog w h' N ks items:=by
 refine⟨X.1,λi v e=>?_⟩;obtain⟨k,a,g,j,l,d⟩:=X.2 i v e;exact⟨k,a,g,j,l.at (λob b=>f a ob d b),d⟩
def bN5{items:Array Value}{ks:List (List Int)}(B:A.units < cLine)(f:¬ N S)(g:¬ N I)(j:S≠I)(hb:ks.length < 4000) :
  Fill prog w A S I items.size (λi v=>items[i]? = some v) (λi h=>fK prog w h N ks items/\∃ us,aK4 prog w h S led N us/\us.length<=i/\∀ x,x∈us↔x∈ks.take i) where
 put:=λi v s Q E hi C ⟨TA,us,X,n,hm⟩ q=>by
  obtain⟨k,a,D,rfl,tk,ha⟩:=TA.2 i v C;have F:i < ks.length:=by rw[TA.1];exact hi
  have p:ks.take (i+1)=ks.take i++[k]:=by rw[a5e,D];rfl
  have G:=X;obtain⟨o,es,ep,t,Y⟩:=X;refine cQ3 Y B tk ha (by lia) (λd b=>?_) λd h' b l H r u=>?_;refine q _ s.heap b ⟨TA,us,G,by lia,λx=>?_⟩ λc ob _ e=>e;rw[p,a3c,a1b,hm x];refine⟨.inl,λh=>?_⟩;rcases h with h | rfl;exact h;exact(hm _).mp d;refine q _ h' b ⟨TA.stay λc ob m e=>u c ob (λz=>f (z ▸ m)) e,l,H,by have:=r.length_eq;simp at this;lia,λx=>?_⟩ u;rw[r.mem_iff,a1c,p,a3c,a1b,hm x];exact or_comm
 stay:=λi h h' ⟨TA,us,X,n,hm⟩ k=>by
  have y:∀ c ob,N c->h.get? c=some ob->h'.get? c=some ob:=λc ob m e=>k c ob (λz=>g (z ▸ m)) e;refine⟨TA.stay y,us,X.stay ?_ y,n,hm⟩;obtain⟨o,es,ep,t,Y⟩:=X;rw[k S o j Y.ob,Y.ob]
end
def bN6:Manifest.owners.lookup (String.ofList (['r','o','t','a','r','e','t','i','_','t','e','s']:List Char).reverse)=some Manifest.sig_set_iterator:=by kernel_rfl
def oA:Slot "set_iterator" "__next__" "set_iterator.__next__":=.of (owner:="set_iterator") (n:="__next__") (by rw[typeLookup_type,builtinLookup_eq_fast];kernel_rfl) (by decide +kernel) (by decide +kernel) (by decide +kernel) (.inl (by decide +kernel)) (by rw[isSubtype_type];kernel_rfl)
def aK5:entryFor table "set_iterator.__next__"=some Builtin.«set_iterator.__next__»:=entryFor_of_tree (by kernel_rfl)
def aX3(a:Value):argsOk "set_iterator.__next__" ⟨[a],[]⟩:=by
 unfold argsOk;rw[signature?_of (id:="set_iterator.__next__") (n:=['_','_','t','x','e','n','_','_']) (o:=['r','o','t','a','r','e','t','i','_','t','e','s']) (by kernel_rfl) bN6]
 kernel_rfl
def yD:entryFor table "set.__iter__"=some Builtin.«frozenset.__iter__»:=entryFor_alias (id':="frozenset.__iter__") (by kernel_rfl) rfl (by decide +kernel) (by kernel_rfl)
theorem aR4{b:Type}:∀ (l:List b) (i:Nat) (h:i < l.length),(l[i]::l.eraseIdx i).Perm l
 | [],i,h=>absurd h (a4i i)
 | a::l,0,_=>.refl _
 | a::l,i+1,h=>(List.Perm.swap a _ _).trans (.cons a (aR4 l i (Nat.lt_of_succ_lt_succ h)))
theorem aK6{b:Type}(next:Nat->Nat):∀ (fuel k:Nat) (left:List b) (out:Array b),left.length=fuel->(pickOrder.go next fuel k left out).toList.Perm (out.toList++left)
 | 0,k,left,out,h=>by
   have:left=[]:=a0d h;subst this;rw[a1g];exact .refl _
 | fuel+1,k,left,out,h=>by
   have a:next k % left.length < left.length:=Nat.mod_lt _ (by lia)
   unfold pickOrder.go;rw[a0a a];dsimp only;have c:=aK6 next fuel (k+1) (left.eraseIdx (next k % left.length)) (out.push left[next k % left.length]) (by rw[List.length_eraseIdx_of_lt a];lia)
   refine c.trans ?_;rw[a6h,List.append_assoc];exact List.Perm.append_left _ (aR4 left _ a)
def yE{a:Type}(next:Nat->Nat)(xs:Array a):(pickOrder next xs).toList.Perm xs.toList:=by
 have:=aK6 next xs.size 0 xs.toList #[] (by simp)
 simpa[pickOrder]using this
noncomputable abbrev bD3(slot i n ep:Nat)(S:Addr):Obj:={cls:=.type "set_iterator",data:=.fields #[.int slot 0,.int i 0,.ref S,.int n 0,.int ep 0]}
section
variable{prog:Program}{w:World}{A:Around}{E:Value->Shared->Prop}{s:Shared}{S I:Addr}{N:Addr->Prop}{ks:List (List Int)}{o:Obj}{es:Array (Int×Value)}{ep:Nat}{t:SetTable}
noncomputable def cG(w:World)(S:Addr)(ep:Nat)(es:Array (Int×Value)):Array (Int×Value):=if w.params.followText "set-order"=true then pickOrder (w.params.setOrder S ep) es else es
def xD(es:Array (Int×Value)):(cG w S ep es).toList.Perm es.toList:=by
 unfold cG;split;exact yE _ es;exact .refl _
def bN7(X:oM prog w s.heap S (fW w) N ks o es ep t){Q:Value->Shared->Prop}(q:Q (.ref s.heap.objs.size) {s with heap:=s.heap.push (bD3 0 0 es.size ep S)}):wpAny (model prog w) A (pyIter (.ref S)) Q E s:=by
 have a:s.TypeIs (.ref S) "set":=⟨o,X.ob,X.ex.1⟩;refine wpAny_pyIter_slot a F.slot_set_iter (a3E F.slot_set_iter a yD ?_ (F.args_set_iter_1 _));show wpAny _ _ (Builtin.Frozenset.sizeOf S >>= _) _ _ s;unfold Builtin.Frozenset.sizeOf;refine a3r (a3r (a3U X.ob X.dt X.fits (a3t ?_)));unfold setDrawn;refine a3r (a3r (X.state ?_));unfold setsByText;refine a3r (a3r (a3O (a3t ?_)));refine a3t ?_;have hd:(!t.plain&&decide (es.size > 1))=false:=by rw[X.pl];rfl
 dsimp only;rw[a3u (λh=>?_)];refine a3r (a3t ?_);refine a3r (wpAny_setEpoch_of X.ob X.dt X.fits ?_);unfold newFields;refine a3r (a3B ?_);exact a3t ⟨_,rfl,"set_iterator",_,⟨_,a9b _ rfl,rfl⟩,oA.lookup,q⟩;rw[a1e]at h;exact Bool.noConfusion (hd.symm.trans h.2)
def bN8(w:World)(h:Heap)(I S:Addr)(es:Array (Int×Value))(ep:Nat)(t:SetTable)(i:Nat):Prop:=
 ∃ slot,h.get? I=some (bD3 slot i es.size ep S)/\(w.params.followText "set-order"=false->SetTable.below t.place slot=i)
def bN9(X:oM prog w s.heap S (fW w) N ks o es ep t){i slot:Nat}(j:w.params.followText "set-order"=false->SetTable.below t.place slot=i){Q:Option (Value×Nat)->Shared->Prop}
  (k:∀ e next,(cG w S ep es)[i]? = some e->(w.params.followText "set-order"=false->SetTable.below t.place next=i+1)->Q (some (e.2,next)) s) (l:(cG w S ep es)[i]? = none->Q none s):wpAny (model prog w) A (setNext S slot i ep) Q E s:=by
 unfold setNext;refine a3r (X.state ?_);unfold setsByText;refine a3r (a3r (a3O (a3t ?_)));dsimp only;by_cases hb:w.params.followText "set-order"=true
 ·rw[a3s (show(model prog w).w.params.followText "set-order"=true from hb)];simp only[bne_self_eq_false,Bool.false_eq_true,if_false];unfold setWalk;refine a3r (a3r (X.state ?_));unfold setsByText;refine a3r (a3r (a3O (a3t ?_)));dsimp only;rw[a3s (show(model prog w).w.params.followText "set-order"=true from hb)];refine a3r (a3O (a3t ?_));have m:cG w S ep es=pickOrder (w.params.setOrder S ep) es:=by unfold cG;rw[a3s hb]
  show wpAny _ _ (pure ((pickOrder (w.params.setOrder S ep) es)[i]?.map λe=>(e.2,slot))) _ _ _;refine a3t ?_;rw[← m];cases d:(cG w S ep es)[i]? with
  | none=>exact l d
  | some e=>exact k e slot d λz=>by rw[hb]at z;cases z
 ·have f:w.params.followText "set-order"=false:=by simpa using hb
  have a:=j f;have m:cG w S ep es=es:=by unfold cG;rw[a3u hb]
  have n:(!t.plain&&decide (es.size > 1))=false:=by rw[X.pl];rfl
  have g:t.led=true:=by rw[X.ld];unfold fW;rw[f];rfl
  rw[a3u (show ¬ ((model prog w).w.params.followText "set-order"=true)from hb)];refine a3Z (λh=>absurd (n.symm.trans h) a3d) λ_=>?_;refine a3r ?_;have p:wpAny (model prog w) A (if(!t.led && !es.isEmpty)=true then unsupported "set:maker-not-led" else pure ()) (λ_ s'=>s'=s) E s:=by
   rw[g];simp only[Bool.not_true,Bool.false_and,Bool.false_eq_true,if_false];exact a3t rfl
  refine a3F p (λ_ s' x=>?_) λ_ _ z=>z;subst x;rw[a];rw[m]at k l;have q:t.place.size=es.size:=by have:=X.tk.len;simpa using this
  cases d:es[i]? with
  | none=>exact a3t (l d)
  | some e=>
    have r:i < t.place.size:=by rw[q];exact(a2f.mp d).1
    have b:t.place[i]? = some t.place[i]:=a5c r;rw[b];refine a3t (k e _ d λ_=>?_);have c:=lQ X.tk.ri (t.place[i]+1);have y:i < SetTable.below t.place (t.place[i]+1):=by
     refine a4j λz=>?_;have:=c.hi i _ z b;lia
    have B:SetTable.below t.place (t.place[i]+1)<=i+1:=by
     refine a3j λz=>?_;have u:i+1 < t.place.size:=a4c z c.le;have v:t.place[i+1]? = some t.place[i+1]:=a5c u;have:=c.lo (i+1) _ z v;have:=X.tk.ri i (i+1) _ _ (a3i _) b v;lia
    lia
def bO0(X:oM prog w s.heap S (fW w) N ks o es ep t){i:Nat}(hi:bN8 w s.heap I S es ep t i){Q:Option Value->Shared->Prop}{e:Int×Value}(g:(cG w S ep es)[i]? = some e)
  (q:∀ h',bN8 w h' I S es ep t (i+1)->(∀ b ob,b≠I->s.heap.get? b=some ob->h'.get? b=some ob)->Q (some e.2) {s with heap:=h'}):wpAny (model prog w) A (pyNext (.ref I)) Q E s:=by
 obtain⟨slot,c,d⟩:=hi;have h:s.TypeIs (.ref I) "set_iterator":=⟨_,c,rfl⟩;unfold pyNext;refine a3r (wpAny_attempt (wpAny_callSpecial?_slot (name:=Str.ofString "__next__") h oA (a3E oA h aK5 ?_ (aX3 _))));show wpAny _ _ (fieldsOf (.ref I) >>= _) _ _ s;unfold fieldsOf;refine a3r (a3r (wpAny_load c (a3t ?_)));dsimp only;refine a3r (a3U X.ob X.dt X.fits ?_);simp only[bne_self_eq_false,Bool.false_eq_true,if_false,Int.toNat_natCast];refine a3r (bN9 X d (λm next a f=>?_) λhn=>?_)
 ·rw[g]at a;cases a;dsimp only;refine a3r (wpAny_setField c rfl (by simp) ?_);have j:(s.heap.update I (λob=>ob.mapFields (·.setIfInBounds 0 (rawInt next)))).get? I=some (bD3 next i es.size ep S):=by
   rw[a6e _ c rfl];simp[Obj.mapFields,rawInt]
  refine a3r (wpAny_setField (s:={s with heap:=s.heap.update I (λob=>ob.mapFields (·.setIfInBounds 0 (rawInt next)))}) j rfl (by simp) ?_);have k:((s.heap.update I (λob=>ob.mapFields (·.setIfInBounds 0 (rawInt next)))).update I (λob=>ob.mapFields (·.setIfInBounds 1 (rawInt ((i:Int)+1))))).get? I=some (bD3 next (i+1) es.size ep S):=by
   rw[a6e _ j rfl];simp[Obj.mapFields,rawInt]
  refine a3t ⟨_,rfl,a3t (q _ ⟨next,k,f⟩ λb ob hb l=>?_)⟩;exact(a4e _ _ (a5d hb)).trans ((a4e _ _ (a5d hb)).trans l)
 ·rw[g]at hn;cases hn
def bO1(g:A.handled=none)(X:oM prog w s.heap S (fW w) N ks o es ep t){i:Nat}(hi:bN8 w s.heap I S es ep t i){Q:Option Value->Shared->Prop}(h:(cG w S ep es)[i]? = none)
  (q:∀ h',(∀ b ob,b≠I->s.heap.get? b=some ob->h'.get? b=some ob)->Q none {s with heap:=h'}):wpAny (model prog w) A (pyNext (.ref I)) Q E s:=by
 obtain⟨slot,d,e⟩:=hi;have f:s.TypeIs (.ref I) "set_iterator":=⟨_,d,rfl⟩;unfold pyNext;refine a3r (wpAny_attempt (wpAny_callSpecial?_slot (name:=Str.ofString "__next__") f oA (a3E oA f aK5 ?_ (aX3 _))));show wpAny _ _ (fieldsOf (.ref I) >>= _) _ _ s;unfold fieldsOf;refine a3r (a3r (wpAny_load d (a3t ?_)));dsimp only;refine a3r (a3U X.ob X.dt X.fits ?_);simp only[bne_self_eq_false,Bool.false_eq_true,if_false,Int.toNat_natCast];refine a3r (bN9 X e (λl next c j=>?_) λhn=>?_)
 ·rw[h]at c;cases c
 ·dsimp only;refine a3r (wpAny_setField d rfl (by simp) ?_);show wpAny _ _ (newExc (.type "StopIteration") [] >>= _) _ _ _;refine a3r ?_;simp only[newExc,newTuple];refine a3r (a3B ?_ (by size_fits));refine a3r (m:=firstArgMember _ _) (wpAny_of_eq (a:=Value.none) rfl ?_);refine a3B ?_ (by size_fits);simp only[raiseNew];refine a3r (wpAny_handled ?_);rw[show A.in1.handled=none from g];refine a3r (a3t (wpAny_throw ?_));refine a3r (wpAny_isInstance (T:="StopIteration") (b:=true) ⟨_,a9b _ rfl,rfl⟩ isSubtype_stop ?_);refine a3t (q _ λb ob hb k=>a8a _ (a8a _ ((a4e _ _ (a5d hb)).trans k)))
end
open L2
def bD4:typeLookup (.type "set") "__len__"=pure (some (.builtin "set.__len__")):=by rw[typeLookup_type,builtinLookup_eq_fast];kernel_rfl
section
variable{prog:Program}{w:World}{A:Around}{E:Value->Shared->Prop}{s:Shared}{S I:Addr}{N:Addr->Prop}{ks:List (List Int)}{o:Obj}{es:Array (Int×Value)}{ep:Nat}{t:SetTable}
def bY2{Q:Bool->Shared->Prop}(c:s.TypeIs (.ref S) "set")(h:∀ b,Q b s):wpAny (model prog w) A (Builtin.List.listLengthHint (.ref S)) Q E s:=by
 unfold Builtin.List.listLengthHint;refine a3r (a3X c bD4 ?_)
 (generalize hid:("set.__len__":String)=a;(fail_if_success (clear hid a));wp_delta;rw[show splitId a=some ("set","__len__")from by subst hid;decide +kernel];subst hid)
 refine a3r (wpAny_isInstance (b:=true) c sub_set_self ?_);dsimp only;rw[a3u (by decide)];refine a3Z (λ_=>?_) (λh'=>(h' (by decide +kernel)).elim);refine a3r (a3Q c ?_);exact a3t (h _)
def bY3(y:A.handled=none){L:Addr}{h0:Heap}(X:oM prog w h0 S (fW w) N ks o es ep t)(B:h0.objs.size<=I)(C:h0.objs.size<=L)(f:L≠I) :
  LoopJ prog w A I L es.size (λi acc h=>(∀ b ob,h0.get? b=some ob->h.get? b=some ob)/\bN8 w h I S es ep t i/\acc.toList=((cG w S ep es).toList.take i).map (·.2)) (λacc h=>(∀ b ob,h0.get? b=some ob->h.get? b=some ob)/\acc.toList=(cG w S ep es).toList.map (·.2)):=by
 have D:(cG w S ep es).toList.length=es.size:=by have:=(xD (w:=w) (S:=S) (ep:=ep) es).length_eq;simpa using this
 have v:∀ b ob,h0.get? b=some ob->b≠I:=λb ob e z=>absurd (a8b e) (a5j.mpr (z ▸ B));have F:∀ b ob,h0.get? b=some ob->b≠L:=λb ob e z=>absurd (a8b e) (a5j.mpr (z ▸ C));have x:∀ (h:Heap),(∀ b ob,h0.get? b=some ob->h.get? b=some ob)->oM prog w h S (fW w) N ks o es ep t:=λh d=>
  ⟨d _ _ X.ob,X.ex,X.dt,X.tk,X.ful,X.ld,X.pl,X.len,λi e l=>by
   obtain⟨k,a,m,n,G,H⟩:=X.it i e l;exact⟨k,a,m,n,G.at (λob p=>d a ob p),H⟩,X.nd⟩
 refine⟨λi acc s c Q E hi ⟨d,hs,ha⟩ r q=>?_,λacc s c Q E ⟨d,hs,ha⟩ r q=>?_,λi acc h h' ⟨d,hs,ha⟩ _ k=>?_⟩
 ·have g:i < (cG w S ep es).toList.length:=by lia
  have l:(cG w S ep es)[i]? = some (cG w S ep es).toList[i]:=by rw[← a0c];exact a0a g
  refine bO0 (x s.heap d) hs l λh' u j=>?_;have:=q (cG w S ep es).toList[i].2 h' s.toks ⟨λb ob e=>j b ob (v b ob e) (d b ob e),u,?_⟩ (j _ _ f r);exact this;rw[a6h,ha,a5e,a0a g,a4d];rfl
 ·refine bO1 y (x s.heap d) hs (by rw[← a0c];exact a2j (by lia)) λh' j=>?_;have:=q h' s.toks ⟨λb ob e=>j b ob (v b ob e) (d b ob e),by rw[ha,a2c (by lia)]⟩ (j _ _ f r);exact this
 ·obtain⟨slot,m,n⟩:=hs;exact⟨λb ob e=>k b ob (F b ob e) (d b ob e),⟨slot,k I _ (a5d f) m,n⟩,ha⟩
def aK7(J:A.handled=none)(X:oM prog w s.heap S (fW w) N ks o es ep t)(hz:es.size<=sizeLine){Q:List Value->Shared->Prop}
  (q:∀ h' tk,(∀ b ob,s.heap.get? b=some ob->h'.get? b=some ob)->s.heap.objs.size < h'.objs.size->Q ((cG w S ep es).toList.map (·.2)) {s with heap:=h',toks:=tk}):wpAny (model prog w) A (collect (.ref S)) Q E s:=by
 have h:S < s.heap.objs.size:=a8b X.ob;have n:∀ R:Result->Shared->Prop,(∀ h' tk acc c,(∀ b ob,s.heap.get? b=some ob->h'.get? b=some ob)->acc.toList=(cG w S ep es).toList.map (·.2)->h'.get? s.heap.objs.size=some (oR acc c)->R (.ok (.ret (.ref s.heap.objs.size))) {s with heap:=h',toks:=tk}) ->
   codeAny (model prog w) A (.builtin "proto.collect" ⟨[.ref S],[]⟩) R s:=by
  intro R C
  (refine a3I F.entry_proto_collect ?_;rw[a0h F.plain_proto_collect _])
  (show wpAny _ A.in1 (newList [] >>= λl=>again (.builtin "list.__iadd__" ⟨[l,.ref S],[]⟩)) _ _ s;refine a3r (a3B ?_))
  (refine a3t ⟨a3S F.plain_list_iadd _,a3I F.entry_list_iadd ?_⟩;rw[a0h F.plain_list_iadd _])
  have up:∀ b ob,s.heap.get? b=some ob->(s.heap.push (oR #[] 0)).get? b=some ob:=λb ob e=>a8a _ e;have D:(s.heap.push (oR #[] 0)).objs.size=s.heap.objs.size+1:=Heap.size_push ..;have G:oM prog w ({s with heap:=s.heap.push (oR #[] 0)}:Shared).heap S (fW w) N ks o es ep t:=
   ⟨up _ _ X.ob,X.ex,X.dt,X.tk,X.ful,X.ld,X.pl,X.len,λi e K=>by
    obtain⟨k,a,p,M,O,P⟩:=X.it i e K;exact⟨k,a,p,M,O.at (λob r=>up a ob r),P⟩,X.nd⟩
  have T:Shared.TypeIs {s with heap:=s.heap.push (oR #[] 0)} (.ref S) "set":=⟨o,G.ob,X.ex.1⟩
  (show wpAny _ A.in1 (Builtin.List.listExtendWith (.ref s.heap.objs.size) (.ref S) (.ref s.heap.objs.size)) _ _ {s with heap:=s.heap.push (oR #[] 0)})
  unfold Builtin.List.listExtendWith;refine a3r (a3Q T ?_);have p:Builtin.List.listSameRef (.ref s.heap.objs.size) (.ref S)=false:=by
   simp only[Builtin.List.listSameRef,beq_eq_false_iff_ne];exact Nat.ne_of_gt h
  rw[a3u (by rw[p];decide)];refine a3r (bN7 G ?_);have f:((s.heap.push (oR #[] 0)).push (bD3 0 0 es.size ep S)).get? s.heap.objs.size=some (oR #[] 0):=a8a _ (a9b _ rfl);have u:((s.heap.push (oR #[] 0)).push (bD3 0 0 es.size ep S)).get? (s.heap.push (oR #[] 0)).objs.size=some (bD3 0 0 es.size ep S):=a9b _ rfl;have j:∀ b ob,s.heap.get? b=some ob->((s.heap.push (oR #[] 0)).push (bD3 0 0 es.size ep S)).get? b=some ob:=λb ob e=>a8a _ (up b ob e);have v:Shared.TypeIs {s with heap:=(s.heap.push (oR #[] 0)).push (bD3 0 0 es.size ep S)} (.ref S) "set":=⟨o,j _ _ X.ob,X.ex.1⟩;have U:SetTable.below t.place 0=0:=by
   have c:=lQ X.tk.ri 0;refine Nat.le_zero.mp (a3j λz=>?_);have x:0 < t.place.size:=a4c z c.le;have V:t.place[0]? = some t.place[0]:=a5c x;exact absurd (c.lo 0 _ z V) (a4i _)
  have ne:s.heap.objs.size≠(s.heap.push (oR #[] 0)).objs.size:=by rw[D];exact a0e (a3i _)
  have L:=bY3 (A:=A.in1) J (I:=(s.heap.push (oR #[] 0)).objs.size) (L:=s.heap.objs.size) X (by rw[D];exact Nat.le_succ _) (a6a _) ne;have H:(∀ b ob,s.heap.get? b=some ob->((s.heap.push (oR #[] 0)).push (bD3 0 0 es.size ep S)).get? b=some ob)/\bN8 w ((s.heap.push (oR #[] 0)).push (bD3 0 0 es.size ep S)) (s.heap.push (oR #[] 0)).objs.size S es ep t 0/\(#[]:Array Value).toList=((cG w S ep es).toList.take 0).map (·.2):=⟨j,⟨0,u,λ_=>U⟩,rfl⟩;refine a3r (a3x (bY2 v λb=>?_));refine a3Z (λ_=>?_) (λ_=>a3t ⟨a3S a9i _,dC2 L hz _ es.size 0 _ #[] 0 (by lia) (a2d _) H rfl f λh' tk acc c g y d=>C h' tk acc c g.1 g.2 d⟩)
  (refine a3r (a3K ?_);refine a3r ?_)
  (show wpAny _ _ (updateSeq s.heap.objs.size (·.push .none) >>= λ_=>updateSeq s.heap.objs.size (·.pop)) _ _ _;refine a3r (a3Y f rfl ?_))
  have m:(((s.heap.push (oR #[] 0)).push (bD3 0 0 es.size ep S)).update s.heap.objs.size (Obj.mapSeq (·.push Value.none))).get? s.heap.objs.size=some (oR #[.none] 1):=by
   rw[a6e _ f rfl];simp[Obj.mapSeq]
  refine a3Y (hz:=by seq_fits) m rfl ?_;have B:((((s.heap.push (oR #[] 0)).push (bD3 0 0 es.size ep S)).update s.heap.objs.size (Obj.mapSeq (·.push Value.none))).update s.heap.objs.size (Obj.mapSeq (·.pop))).get? s.heap.objs.size=some (oR #[] 2):=by
   rw[a6e _ m rfl];simp[Obj.mapSeq]
  refine a3t ⟨a3S a9i _,dC2 L hz _ es.size 0 _ #[] 2 (by lia) (a2d _) (L.frame _ _ _ _ H ?_ λb ob hb e=>?_) rfl B λh' tk acc c g y d=>C h' tk acc c g.1 g.2 d⟩;exact(Heap.size_update ..).trans (Heap.size_update ..);exact(a4e _ _ (a5d hb)).trans ((a4e _ _ (a5d hb)).trans e)
 (unfold collect;refine a3r (wpAny_runValue (n _ λh' tk acc c g ha d=>?_)))
 (show wpAny _ A (load s.heap.objs.size >>= _) _ _ _;refine a3r (wpAny_load d ?_))
 rw[← ha]at q;exact a3t (q h' tk g (a8b d))
end
end PySem
namespace Sx
open PySem PySem.W PyProof.Rows
structure Ord(c:Nat->Nat->Bool):Prop where
 ir:∀ a,c a a=false
 tr:∀ {a b d},c a b=true->c b d=true->c a d=true
 nt:∀ {a b d},c b a=false->c d b=false->c d a=false
section
variable{N:Nat}{c:Nat->Nat->Bool}{cmp:Nat->Nat->(Bool->Shared->Prop)->Shared->Prop}{s:Shared}(O:Ord c)(hc:∀ i j C,i < N->j < N->C (c i j) s->cmp i j C s)
include O hc
end
noncomputable def tlt:List Int->List Int->Bool
 | _,[]=>false
 | [],_::_=>true
 | a::x,b::y=>if a=b then tlt x y else decide (a < b)
theorem zM:∀ x,tlt x x=false
 | []=>rfl
 | a::x=>by show(if a=a then tlt x x else _)=false;rw[a3s rfl];exact zM x
theorem aX4:∀ {x y z},tlt x y=true->tlt y z=true->tlt x z=true
 | _,[],_,h,_=>by simp[tlt]at h
 | _,_::_,[],_,h=>by simp[tlt]at h
 | [],_::_,_::_,_,_=>rfl
 | a::x,b::y,d::z,i,j=>by
   have e:(if a=b then tlt x y else decide (a < b))=true:=i;have c:(if b=d then tlt y z else decide (b < d))=true:=j;show(if a=d then tlt x z else decide (a < d))=true;by_cases g:a=b;rw[a3s g]at e;by_cases f:b=d;rw[a3s f]at c;rw[a3s (g.trans f)];exact aX4 e c;rw[a3u f]at c;rw[a3u (by lia)];simp at c ⊢;lia;rw[a3u g]at e;by_cases f:b=d;rw[a3s f]at c;rw[a3u (by lia)];simp at e ⊢;lia;rw[a3u f]at c;simp at e c;rw[a3u (by lia)];simp;lia
theorem aR5:∀ {x y},tlt x y=false->tlt y x=false->x=y
 | [],[],_,_=>rfl
 | [],_::_,h,_=>by simp[tlt]at h
 | _::_,[],_,h=>by simp[tlt]at h
 | a::x,b::y,f,g=>by
   have c:(if a=b then tlt x y else decide (a < b))=false:=f;have d:(if b=a then tlt y x else decide (b < a))=false:=g;by_cases e:a=b;rw[a3s e]at c;rw[a3s e.symm]at d;rw[e,aR5 c d];rw[a3u e]at c;rw[a3u λz=>e z.symm]at d;simp at c d;lia
section
variable{prog:Program}{w:World}{A:Around}{E:Value->Shared->Prop}{s:Shared}
theorem cE9{b:Bool}{Q:Bool->Shared->Prop}:∀ {x y:List Int} {xs ys:List Value} (i:Nat) (fin:Bool),ItemsAre (intKind prog w) x xs->ItemsAre (intKind prog w) y ys->fin=decide (xs.length+i < ys.length+i)->Q (tlt x y) s->KatLex prog w A b (decide (xs.length < ys.length)) Q (xs.zip ys) i s
 | _,_,_,_,i,fin,.nil,.nil,_,q=>q
 | _,_,_,_,i,fin,.nil,.cons _ _,_,q=>by
   show Q (decide (0 < _)) s;rw[a3A (by simp)];exact q
 | _,_,_,_,i,fin,.cons _ _,.nil,_,q=>by
   show Q (decide (_ < 0)) s;rw[a3y (by simp)];exact q
 | _,_,_,_,i,fin,.cons (k:=a) (ks:=x) f g,.cons (k:=d) (ks:=y) h j,_,q=>by
   obtain⟨t,rfl⟩:=Value.isInt_shape f;obtain⟨u,rfl⟩:=Value.isInt_shape h;rw[List.zip_cons_cons];refine kat_cons (wpAny_eqBool_int ?_);have c:Q (if a=d then tlt x y else decide (a < d)) s:=q;by_cases e:a=d;rw[a3s e]at c;rw[show(a==d)=true from a3v.mpr e];refine kat_yes ?_;have:=cE9 (b:=b) (i+1) (decide (_+(i+1) < _+(i+1))) g j rfl c;simpa using this
   ·rw[a3u e]at c;rw[show(a==d)=false by simpa using e];refine kat_no ?_;cases (b&&i==0)with
    | true=>exact oneLt_int c
    | false=>exact kat_one _ _ (lt_int c)
def bY4{ks:List (List Int)}{vs:List Value}{N:Addr->Prop}{Q:SortKind->Shared->Prop}(T:fK prog w s.heap N ks vs.toArray)(z:0 < vs.length)(B:∀ k∈ks,k≠[])(q:Q (tuples' true) s):wpAny (model prog w) A (keyKind' vs.toArray) Q E s:=by
 have h:∀ (vs:List Value) (ks:List (List Int)),(∀ (i:Nat) v,vs[i]? = some v->∃ k a,ks[i]? = some k/\v=.ref a/\mH prog w s.heap k a)->(∀ k∈ks,k≠[])->∃ fs:List Value,KatTups s.heap vs fs/\fs.length=vs.length/\∀ v∈fs,∃ i t,v=.int i t:=by
  intro vs
  induction vs with
  | nil=>intro ks _ _;exact⟨[],KatTups.nil,rfl,by simp⟩
  | cons v r C=>
    intro ks c d;obtain⟨k,a,j,rfl,o,items,n,g,D,hd,hi⟩:=c 0 v rfl;cases ks with
    | nil=>simp at j
    | cons K ks=>
      simp at j;subst j;obtain⟨fs,l,y,m⟩:=C ks (λi u F=>c (i+1) u (by simpa using F)) λx b=>d x (a5a _ b);have p:=d _ a3a;cases hit:items.toList with
      | nil=>
        rw[hit]at hi;cases hi;exact absurd rfl p
      | cons f eZ=>
        have G:items[0]? = some f:=by rw[← a0c,hit];rfl
        obtain⟨i,t,H⟩:=mI hi f (by rw[hit];exact a3a);refine⟨f::fs,KatTups.cons g D hd G l,by simp[y],λx b=>?_⟩;rcases a1c.mp b with rfl | b;exact⟨i,t,H⟩;exact m x b
 obtain⟨fs,l,y,m⟩:=h vs ks (λi v e=>by
  obtain⟨k,a,c,d,I,_⟩:=T.2 i v (by rw[a6c];exact e);exact⟨k,a,c,d,I⟩) B
 refine kat_kind (T:=.type "int") l (by lia) (λv J=>?_) (by decide) q;obtain⟨i,t,rfl⟩:=m v J;exact .now
end
noncomputable def bE7(k:List Int):List (List Int)->List (List Int)
 | []=>[k]
 | x::r=>if tlt k x=true then k::x::r else if k=x then x::r else x::bE7 k r
noncomputable def srt:List (List Int)->List (List Int)
 | []=>[]
 | k::r=>bE7 k (srt r)
abbrev bE8(l:List (List Int)):Prop:=l.Pairwise λa b=>tlt a b=true
theorem aC4(k:List Int):∀ (l:List (List Int)) (x:List Int),x∈bE7 k l↔x=k\/x∈l
 | [],x=>by simp[bE7]
 | y::r,x=>by
   unfold bE7;split;simp
   ·split;rename_i h;subst h;simp
    ·rw[a1c,aC4 k r x,a1c];constructor;rintro(h | h | h);exact .inr (.inl h);exact .inl h;exact .inr (.inr h);rintro(h | h | h);exact .inr (.inl h);exact .inl h;exact .inr (.inr h)
theorem aX5(k:List Int):∀ (l:List (List Int)),bE8 l->bE8 (bE7 k l)
 | [],_=>List.pairwise_singleton _ _
 | y::r,h=>by
   obtain⟨b,d⟩:=a9f.mp h;unfold bE7;split;rename_i c;refine a9f.mpr ⟨λx a=>?_,h⟩;rcases a1c.mp a with rfl | a;exact c;exact aX4 c (b x a)
   ·split;exact h
    ·rename_i hn e;refine a9f.mpr ⟨λx a=>?_,aX5 k r d⟩;rcases(aC4 k r x).mp a with rfl | a
     ·cases f:tlt y x with
      | true=>rfl
      | false=>exact absurd (aR5 (by simpa using hn) f) e
     ·exact b x a
theorem eK:∀ (l:List (List Int)) (x:List Int),x∈srt l↔x∈l
 | [],x=>by simp[srt]
 | k::r,x=>by
   show x∈bE7 k (srt r)↔_;rw[aC4,eK r x,a1c]
theorem iM:∀ (l:List (List Int)),bE8 (srt l)
 | []=>.nil
 | k::r=>aX5 k _ (iM r)
def aK8{l:List (List Int)}(h:bE8 l):l.Nodup:=a6g.mpr (h.imp λ{a b} h e=>by subst e;rw[zM]at h;cases h)
theorem aK9:∀ {a b:List (List Int)},bE8 a->bE8 b->(∀ x,x∈a↔x∈b)->a=b
 | [],[],_,_,_=>rfl
 | [],y::b,_,_,h=>by have:=(h y).mpr a3a;simp at this
 | x::a,[],_,_,h=>by have:=(h x).mp a3a;simp at this
 | x::a,y::b,ha,hb,h=>by
   obtain⟨g,j⟩:=a9f.mp ha;obtain⟨i,k⟩:=a9f.mp hb;have d:x=y:=by
    rcases a1c.mp ((h x).mp a3a)with e | e;exact e;rcases a1c.mp ((h y).mpr a3a)with f | f;exact f.symm;have:=aX4 (i x e) (g y f);rw[zM]at this;cases this
   subst d;have nx:x∉a:=λz=>by have:=g x z;rw[zM]at this;cases this
   have l:x∉b:=λz=>by have:=i x z;rw[zM]at this;cases this
   rw[aK9 j k λz=>?_];constructor;intro c;rcases a1c.mp ((h z).mp (a5a _ c))with e | e;subst e;exact absurd c nx;exact e;intro c;rcases a1c.mp ((h z).mpr (a5a _ c))with e | e;subst e;exact absurd c l;exact e
end Sx
namespace PySem
open Sx PySem.W PyProof.Rows
section
variable{prog:Program}{w:World}{A:Around}{E:Value->Shared->Prop}{s:Shared}{S:Addr}{N:Addr->Prop}{ks:List (List Int)}{o:Obj}{es:Array (Int×Value)}{ep:Nat}{t:SetTable}
end
end PySem
namespace Sx
open PySem PySem.W PyProof.Rows So
section
variable{prog:Program}{w:World}{A:Around}{E:Value->Shared->Prop}{s:Shared}
def dF4{a c:List Int}{d e:Addr}{b:Bool}{Q:Bool->Shared->Prop}(f:mH prog w s.heap a d)(g:mH prog w s.heap c e)(q:Q (tlt a c) s):wpAny (model prog w) A (keyLt' (tuples' b) (.ref d) (.ref e)) Q E s:=by
 obtain⟨p,h,n1,i,_,j,k⟩:=f;obtain⟨r,l,n2,m,_,n,o⟩:=g;refine kat_lt i j m n ?_;have:=cE9 (b:=b) (A:=A) 0 (decide (h.toList.length+0 < l.toList.length+0)) k o rfl q;simpa using this
noncomputable def aN3(prog:Program)(w:World)(h:Heap)(x:Keyed):List Int:=Classical.epsilon λk=>∃ a,x.1=.ref a/\mH prog w h k a
def oX{h:Heap}{x:Keyed}{a:Addr}{k:List Int}(e:x.1=.ref a)(t:mH prog w h k a):aN3 prog w h x=k:=by
 obtain⟨d,b,c⟩:=Classical.epsilon_spec (p:=λk=>∃ a,x.1=.ref a/\mH prog w h k a) ⟨k,a,e,t⟩;rw[e]at b;cases b;exact c.inj t
def dF5:Cm (model prog w) A s (tuples' true) (λx=>∃ k a,x.1=.ref a/\mH prog w s.heap k a) (λx y=>tlt (aN3 prog w s.heap x) (aN3 prog w s.heap y)) where
 lt:=λ{x y E Q} ⟨k,a,e,t⟩ ⟨d,f,b,c⟩ q=>by
  rw[oX e t,oX b c]at q;rw[e,b];exact dF4 t c q
 ir:=λx=>zM _
 tr:=aX4
def bY5{h:Heap}{N:Addr->Prop}{ks:List (List Int)}{vs:List Value}{L:List Keyed}(T:fK prog w h N ks vs.toArray)(hn:ks.Nodup)(pm:L.Perm (vs.zip vs))(so:L.Pairwise λx y=>tlt (aN3 prog w h x) (aN3 prog w h y)=true):fK prog w h N (srt ks) (L.map (·.2)).toArray:=by
 have r:ks.length=vs.length:=by simpa using T.1
 have f:∀ x∈L,∃ a,x.2=.ref a/\mH prog w h (aN3 prog w h x) a/\N a:=λx c=>by
  obtain⟨g,j⟩:=mem_zip_self (pm.mem_iff.mp c);obtain⟨i,hi,e⟩:=a3e j;obtain⟨k,a,_,b,d,m⟩:=T.2 i x.1 (by rw[a6c,a0a hi,e]);exact⟨a,g ▸ b,by rw[oX b d];exact d,m⟩
 have o:(vs.zip vs).map (aN3 prog w h)=ks:=by
  refine a5i λi=>?_;rw[a0b];by_cases hi:i < vs.length
  ·have p:(vs.zip vs)[i]? = some (vs[i],vs[i]):=by rw[a0a (by simpa using hi)];simp
   obtain⟨k,a,q,b,d,m⟩:=T.2 i vs[i] (by rw[a6c];exact a0a hi);rw[p,q];exact a3D some (oX b d)
  ·rw[a2j (l:=ks) (by lia),a2j (by simpa using hi)];rfl
 have e:L.map (aN3 prog w h)=srt ks:=aK9 (List.pairwise_map.mpr so) (iM ks) λx=>by
  rw[eK,← o,(pm.map (aN3 prog w h)).mem_iff]
 refine⟨by rw[← e];simp,λi v n=>?_⟩;rw[a6c,a0b]at n;obtain⟨x,c,rfl⟩:=a7b.mp n;obtain⟨a,g,j,b⟩:=f x (a2b c);exact⟨aN3 prog w h x,a,by rw[← e,a0b,c];rfl,g,j,b⟩
def zN{ks:List (List Int)}{vs:List Value}{N:Addr->Prop}{D n:Nat}{P:PySem.Fin->Shared->Prop}(o:s.heap.get? D=some (seqObj "list" vs.toArray n))(M:¬ N D)(T:fK prog w s.heap N ks vs.toArray)(hz:vs.length<=sizeLine)(hn:ks.Nodup)(O:2<=vs.length->∀ k∈ks,k≠[])
  (q:∀ h' ws c,fK prog w h' N (srt ks) (List.toArray ws)->h'.get? D=some (seqObj "list" (List.toArray ws) c)->(∀ b ob,b≠D->s.heap.get? b=some ob->h'.get? b=some ob)->P (.done (.ret .none)) {s with heap:=h'}) :
  wpAny (model prog w) A (Builtin.«list.sort» ⟨[.ref D],[]⟩) P E s:=by
 have R:D < s.heap.objs.size:=a8b o;rw[list_sort_plain];refine a3r (listItems_at o rfl (a3r (listUpdate_at o rfl ?_ (by simpa using hz) (a2d _))));obtain⟨g,l⟩:∃ g,(s.heap.update D (Obj.mapSeq λ_=>(#[]:Array Value))).get? D=some (seqObj "list" #[] g):=⟨_,get?_update_seq o λ_=>#[]⟩;refine a3r (seqEpoch_at l rfl (a3r (wpAny_newTuple ?_ (by simpa using hz))));refine a3r (wpAny_newList ?_ (a2d _));refine a3x ?_;have kept:∀ b ob,b≠D->s.heap.get? b=some ob->(((s.heap.update D (Obj.mapSeq λ_=>(#[]:Array Value))).push (seqObj "tuple" vs.toArray 0)).push (seqObj "list" #[] 0)).get? b=some ob:=λb ob hb e=>a8a _ (a8a _ ((a4e _ _ (a5d hb)).trans e));have f:(((s.heap.update D (Obj.mapSeq λ_=>(#[]:Array Value))).push (seqObj "tuple" vs.toArray 0)).push (seqObj "list" #[] 0)).get? D=some (seqObj "list" #[] g):=a8a _ (a8a _ l);show wpAny (model prog w) A _ P E {s with heap:=((s.heap.update D (Obj.mapSeq λ_=>(#[]:Array Value))).push (seqObj "tuple" vs.toArray 0)).push (seqObj "list" #[] 0)};generalize ((s.heap.update D (Obj.mapSeq λ_=>(#[]:Array Value))).push (seqObj "tuple" vs.toArray 0)).push (seqObj "list" #[] 0)=d at kept f ⊢;have m:fK prog w d N ks vs.toArray:=T.stay λb ob hb e=>kept b ob (λz=>M (z ▸ hb)) e;dsimp only;have hl:ks.length=vs.length:=by simpa using T.1
 have p:(vs.toArray.zip vs.toArray).toList=vs.zip vs:=by simp
 have fin:∀ (L:List Keyed),L.Perm (vs.zip vs)->(L.Pairwise λx y=>tlt (aN3 prog w d x) (aN3 prog w d y)=true)->P (.done (.ret .none)) {s with heap:=d.update D (Obj.mapSeq λ_=>(L.map (·.2)).toArray)}:=λL pm so=>by
  obtain⟨r,t⟩:∃ r,(d.update D (Obj.mapSeq λ_=>(L.map (·.2)).toArray)).get? D=some (seqObj "list" (L.map (·.2)).toArray r):=⟨_,get?_update_seq f λ_=>(L.map (·.2)).toArray⟩;have kp:∀ b ob,b≠D->d.get? b=some ob->(d.update D (Obj.mapSeq λ_=>(L.map (·.2)).toArray)).get? b=some ob:=λb ob hb e=>(a4e _ _ (a5d hb)).trans e;exact q _ _ r ((bY5 m hn pm so).stay λb ob hb e=>kp b ob (λz=>M (z ▸ hb)) e) t λb ob hb e=>kp b ob hb (kept b ob hb e)
 have S:∀ {L:List Keyed},L.Perm (vs.zip vs)->(L.map (·.2)).length=vs.length:=λpm=>by rw[a2a,pm.length_eq];simp
 by_cases h:vs.toArray.size < 2
 ·rw[a3s h,a3s h];refine a3r (a3t ?_);rw[StateT.run_pure];refine a3r (a3t ?_);dsimp only;refine a3r (seqEpoch_at f rfl ?_);have es:(arrOf (SortSt.mk' general' (vs.toArray.zip vs.toArray) #[] 7 none)).map (·.2)=((vs.zip vs).map (·.2)).toArray:=by
   show(vs.toArray.zip vs.toArray).map (·.2)=_;apply Array.toList_inj.mp;simp
  refine a3r (listUpdate_at f rfl ?_ (a2d _) (by rw[es];simp;lia));simp only[bne_self_eq_false,Bool.false_eq_true,if_false];rw[es];refine a3t (fin _ (.refl _) ?_);have:(vs.zip vs).length < 2:=by simpa using h
  match U:vs.zip vs with
  | []=>exact .nil
  | [x]=>exact List.pairwise_singleton _ _
  | _::_::_=>rw[U]at this;simp only[List.length_cons]at this;lia
 ·rw[a3u h,a3u h];have u:2<=vs.length:=by simp at h;lia
  refine a3r (bY4 (s:={s with heap:=d}) m (by lia) (O u) ?_);have C:Cm (model prog w) A {s with heap:=d} (tuples' true) _ _:=dF5 (s:={s with heap:=d});have V:∀ x∈vs.zip vs,∃ k a,x.1=.ref a/\mH prog w d k a:=λx W=>by
   obtain⟨g,v⟩:=mem_zip_self W;obtain⟨i,hi,e⟩:=a3e v;obtain⟨k,a,_,B,X,e5⟩:=m.2 i x.1 (by rw[a6c,a0a hi,e]);exact⟨k,a,B,X⟩
  have Y:Dst (λx y=>tlt (aN3 prog w d x) (aN3 prog w d y)) (vs.zip vs):=by
   refine List.pairwise_iff_getElem.mpr λi j hi hj F=>?_;have G:i < vs.length:=by simpa using hi
   have H:j < vs.length:=by simpa using hj
   obtain⟨I,a1,g,v,B,_⟩:=m.2 i vs[i] (by rw[a6c];exact a0a G);obtain⟨J,a2,Z,f2,f3,_⟩:=m.2 j vs[j] (by rw[a6c];exact a0a H);dsimp only;rw[oX (x:=(vs.zip vs)[i]) (by simp[v]) B,oX (x:=(vs.zip vs)[j]) (by simp[f2]) f3];have ne:I≠J:=λz=>by
    subst z;obtain⟨g1,g2⟩:=a1a.mp g;obtain⟨g3,g4⟩:=a1a.mp Z;exact List.pairwise_iff_getElem.mp (a6g.mp hn) i j g1 g3 F (g2.trans g4.symm)
   cases q1:tlt I J with
   | true=>exact .inl rfl
   | false=>cases q2:tlt J I with
     | true=>exact .inr rfl
     | false=>exact absurd (aR5 q1 q2) ne
  have run:=aQ9 (E:=E) C (st:=SortSt.mk' (tuples' true) (vs.toArray.zip vs.toArray) #[] 7 none) (Q:=λ_ st'=>failedOf st'=none/\(arrOf st').toList.Perm (vs.zip vs)/\Srt (λx y=>tlt (aN3 prog w d x) (aN3 prog w d y)) (arrOf st').toList) rfl rfl rfl (by show ∀ x∈(vs.toArray.zip vs.toArray).toList,_;rw[p];exact V) (by show Dst _ (vs.toArray.zip vs.toArray).toList;rw[p];exact Y) λst' z1 K z3=>⟨z1,by have K:(arrOf st').toList.Perm (vs.toArray.zip vs.toArray).toList:=K;rwa[p]at K,z3⟩;refine a3r (a3F run ?_ λ_ _ e=>e);rintro⟨⟨⟩,st'⟩ s' ⟨rfl,hf,pm,so⟩;dsimp only at pm so ⊢;refine a3r (seqEpoch_at f rfl ?_);have es:(arrOf st').map (·.2)=((arrOf st').toList.map (·.2)).toArray:=by apply Array.toList_inj.mp;simp
  rw[es];refine a3r (listUpdate_at f rfl ?_ (a2d _) (by show(List.toArray _).size<=_;rw[a4b,S pm];lia));rw[hf];simp only[bne_self_eq_false,Bool.false_eq_true,if_false];exact a3t (fin _ pm so)
end
end Sx
namespace PySem
open Sx PySem.W PyProof.Rows
section
variable{prog:Program}{w:World}{A:Around}{E:Value->Shared->Prop}{s:Shared}{S:Addr}{N:Addr->Prop}{ks:List (List Int)}{o:Obj}{es:Array (Int×Value)}{ep:Nat}{t:SetTable}
def aL0(hh:A.handled=none)(X:oM prog w s.heap S (fW w) N ks o es ep t)(hN:∀ a,N a->a < s.heap.objs.size)(hz:es.size<=sizeLine)(hk:2<=es.size->∀ k∈ks,k≠[]){l:List (List Int)}(hm:∀ x,x∈ks↔x∈l){Q:Value->Shared->Prop}
  (q:∀ h' tk D vs c,s.heap.objs.size<=D->h'.get? D=some (seqObj "list" (List.toArray vs) c)->fK prog w h' N (srt l) (List.toArray vs)->(∀ b ob,s.heap.get? b=some ob->h'.get? b=some ob)->Q (.ref D) {s with heap:=h',toks:=tk}) :
  wpAny (model prog w) A (call (.builtin "sorted") [.ref S]) Q E s:=by
 -- F keys in F order of F walk
 have pm:=xD (w:=w) (S:=S) (ep:=ep) es;have G:(cG w S ep es).toList.length=es.size:=by have:=pm.length_eq;simpa using this
 have B:∀ e∈(cG w S ep es).toList,∃ k a,k∈ks/\e=(tupleKeyHash (intKind prog w) k,Value.ref a)/\mH prog w s.heap k a/\N a:=λe L=>by
  have:=pm.mem_iff.mp L;obtain⟨i,hi,ei⟩:=Array.getElem_of_mem (by simpa using this:e∈es);obtain⟨k,a,j,n,u,H⟩:=X.it i e (by rw[a5c hi,ei]);exact⟨k,a,a2b j,n,u,H⟩
 -- one key for each
 have M:∃ us:List (List Int),us.Perm ks/\us.length=es.size/\∀ (i:Nat) e,(cG w S ep es).toList[i]? = some e->∃ k a,us[i]? = some k/\e.2=Value.ref a/\mH prog w s.heap k a/\N a:=by
  -- a key for each entry,by its own value
  have f:∀ e:Int×Value,∃ k:List Int,∀ y a,e.2=Value.ref a->mH prog w s.heap y a->y=k:=λe=>by
   by_cases h:∃ y a,e.2=Value.ref a/\mH prog w s.heap y a;obtain⟨y,a,j,n⟩:=h;refine⟨y,λk'' a' r O=>?_⟩;rw[j]at r;cases r;exact O.inj n;exact⟨[],λy a j n=>absurd ⟨y,a,j,n⟩ h⟩
  let g:Int×Value->List Int:=λe=>Classical.choose (f e)
  have Z:∀ e k a,e.2=Value.ref a->mH prog w s.heap k a->k=g e:=λe k a=>Classical.choose_spec (f e) k a;have ge:es.toList.map g=ks:=by
   refine a5i λi=>?_;rw[a0b,a0c];by_cases hi:i < es.size;rw[a5c hi];obtain⟨k,a,j,n,u,_⟩:=X.it i es[i] (a5c hi);rw[j];show some (g es[i])=some k;rw[← Z es[i] k a (by rw[n]) u];rw[Array.getElem?_eq_none (by lia),a2j (by rw[X.len];lia)];rfl
  refine⟨(cG w S ep es).toList.map g,?_,by rw[a2a];exact G,λi e L=>?_⟩;have:=pm.map g;rw[ge]at this;exact this;obtain⟨k,a,j,n,u,H⟩:=B e (a2b L);refine⟨k,a,?_,by rw[n],u,H⟩;rw[a0b,L];show some (g e)=some k;rw[← Z e k a (by rw[n]) u]
 obtain⟨us,up,ul,ui⟩:=M;refine Calls.call_function_entry kind_sorted plain_sorted entry_sorted (args_sorted1 _) ?_;unfold Builtin.«sorted»;refine a3r (m:=checkCount "sorted" 1 1 _) (a3t ?_);refine a3r (aK7 (A:=A.in1) hh X hz λj I p d=>?_);generalize J:(cG w S ep es).toList.map (·.2)=vs;have P:vs.length=es.size:=by rw[← J,a2a];exact G
 have T1:fK prog w j N us vs.toArray:=by
  refine⟨by rw[ul,a4b];exact P.symm,λi v e=>?_⟩;rw[a6c,← J,a0b]at e;obtain⟨e',ee,rfl⟩:=a7b.mp e;obtain⟨k,a,r,n,u,H⟩:=ui i e' ee;exact⟨k,a,r,n,u.at λob R=>p a ob R,H⟩
 refine a3r (wpAny_newList ?_ (by rw[P];exact hz));have K:(j.push (seqObj "list" vs.toArray 0)).get? j.objs.size=some (seqObj "list" vs.toArray 0):=a9b _ rfl;have up1:∀ b ob,j.get? b=some ob->(j.push (seqObj "list" vs.toArray 0)).get? b=some ob:=λb ob e=>a8a _ e;have T:¬ N j.objs.size:=λz=>absurd (hN _ z) (a5j.mpr (a2h d));have T2:fK prog w (j.push (seqObj "list" vs.toArray 0)) N us vs.toArray:=T1.stay λb ob _ e=>up1 b ob e;have U:2<=vs.length->∀ k∈us,k≠[]:=λh k V=>hk (by lia) k (up.mem_iff.mp V);have nu:us.Nodup:=up.nodup_iff.mpr X.nd;refine a3r (a3x (a3E slot_list_sort ⟨_,K,rfl⟩ entry_list_sort (zN (s:={s with heap:=j.push (seqObj "list" vs.toArray 0),toks:=I}) K T T2 (by rw[P];exact hz) nu U λn ws c T3 W C=>⟨_,rfl,?_⟩) (args_list_sort _)));refine a3t ⟨_,rfl,?_⟩;have Y:srt us=srt l:=aK9 (iM us) (iM l) λx=>by rw[eK,eK,up.mem_iff];exact hm x
 rw[Y]at T3;exact q n I j.objs.size ws c (a2h d) W T3 λb ob e=>C b ob (λz=>absurd (a8b (z ▸ e)) (a5j.mpr (a2h d))) (up1 b ob (p b ob e))
end
end PySem
namespace Dv
open PySem L2 Mr
section
variable{Γ:Gm}{H H0:Hp}{σ σ0:Sg}{σV σV0:St}{i:Nat}{v:V}
end
section
variable{K:W.Frag}{H:Hp}{C fI:Addr}{f:Str}{E:XK}{Q:Addr->Hp->Prop}
end
end Dv
namespace L2
open PySem PySem.Spec PyProof.Rows
end L2
namespace PySem
section
variable{κ:Type}[DecidableEq κ]
end
section
variable{prog:Program}{w:World}{A:Around}{κ:Type}[DecidableEq κ]{knd:KeyKind prog w κ}
end
end PySem
namespace L2
open PySem PySem.Spec PyProof.Rows
def oB{X:Cx}{id U:String}{x y:Str}{p c pos a:Pos}{e:Expr}{es:List Expr}{t:TA}{r:List V->Hp->VK->Prop}
  (l:∀ pins s σ H vs us Q,Inv X pins σ H s->cA vs us->r vs H Q->wpAny (model X.prog X.w) X.A (call (.type U) us) (λu s1=>wpAny (model X.prog X.w) X.A (call (.builtin id) [u]) (EP X pins σ Q) X.xe s1) X.xe s)
  (m:Gl X x) (hm:X.mg x=none) (n:bootBuiltins x=some (.builtin id)) (d:Gl X y) (f:X.mg y=none) (g:bootBuiltins y=some (.type U)) (ha:PA X (e::es) t)
  (hn:x≠"__name__":=by decide) (i:(x==("__debug__":Str))=false:=by decide) (j:y≠"__name__":=by decide) (b:(y==("__debug__":Str))=false:=by decide)
  (o:starEach (e::es) X.env=(false,eval e X.env)::starEach es X.env:=by rfl) (k:(backTo a (starEach es X.env)).any (·.1)=false:=by rfl)
  (hs:starEach [.Call (.Name y c) (e::es) [] a] X.env=(false,eval (.Call (.Name y c) (e::es) [] a) X.env)::starEach [] X.env:=by rfl) :
  PE X (.Call (.Name x p) [.Call (.Name y c) (e::es) [] a] [] pos) (tCB r t):=by
 intro pins s σ H Q I h;refine a3M (vR I m hm n (PyProof.Rows.callWith_builtin1 ?_ hs (by rfl)) hn i);rw[hs]
 (show wpAny _ _ (spliced ((false,eval (.Call (.Name y c) (e::es) [] a) X.env)::backTo pos (starEach [] X.env))) _ _ s;refine Calls.spliced_cons (a3M (vR I d f g (a8h ?_ o k) j b)))
 exact thn (ha a pins s σ H _ I h) λus s1 ⟨vs,q,v,z,B⟩=>thn (l pins s1 σ q vs us Q v z B) λu s2 C=>Calls.spliced_nil C
def bY6{X:Cx}{pins:List (Addr×Obj)}{σ:St}{H:Hp}{s:Shared}{p:Addr}{b:Bool}{xs:List V}(I:Inv X pins σ H s)(a:X.calm=true)(h:eS H p=some (b,xs)) :
  ∃ items:List Value,cA xs items/\Nonempty (Src X.prog X.w X.A s.heap p items.toArray.size λi v=>items.toArray[i]? = some v):=by
 cases b with
 | true=>
   obtain⟨its,r,⟨o,n,c,d,f,e⟩,_⟩:=I.list (fD h);exact⟨its,r,⟨Src.list (I.ok.hd a) ⟨o,c,d,n,e⟩⟩⟩
 | false=>
   obtain⟨its,r,q,_⟩:=I.tuple (eE h);exact⟨its,r,⟨Src.tup (I.ok.hd a) q⟩⟩
end L2
namespace Dv
open PySem L2 Mr
end Dv
namespace L2
open PySem PySem.Spec PyProof.Rows Sx
theorem oC{prog:Program}{w:World}:∀ {k:List Int} {us:List Value},cA (k.map V.int) us->ItemsAre (intKind prog w) k us
 | [],_,.nil=>.nil
 | i::r,_,.cons h t=>by
   obtain⟨tk,rfl⟩:=h;exact .cons (by simp[intKind,Value.isInt]) (oC t)
def oY{X:Cx}{pins:List (Addr×Obj)}{σ:St}{H:Hp}{s:Shared}{a:Addr}{k:List Int}(I:Inv X pins σ H s)(h:H a=some (.tup (k.map V.int))):mH X.prog X.w s.heap k a:=by
 obtain⟨its,r,⟨o,b,c,n,hd⟩,_⟩:=I.tuple (eE (cB h));exact⟨o,its.toArray,n,b,c,hd,by simpa using oC r⟩
def dS7(r:V->List V->Hp->VK->Prop)(to:TE)(t:TA):TE:=λσ H Q=>to σ H λx H1=>(∃ p xs,x=.ref p/\H1 p=some (.tup xs))/\t σ H1 λxs a=>r x xs a Q
section
variable{X:Cx}{o e:Expr}{es:List Expr}{to:TE}{t:TA}{name:Str}{apos cpos:Pos}{id:String}{r:V->List V->Hp->VK->Prop}
def cF0(slot:Slot "tuple" name id)(g:typeOf (.builtin id)=pure (.type "method_descriptor"))(hm:MtR X id r)(n:PE X o to)(ha:PA X (e::es) t)
  (c:attributeBase o name X.env (eval o X.env)=eval o X.env:=by rfl)
  (f:((backTo cpos (starEach (e::es) X.env)).all (λx=>!x.1)&&(backToKw cpos (keywordEach [] X.env)).all (λx=>x.1.isSome)&&decide ((e::es).length+([]:List Keyword).length+(if([]:List Keyword).isEmpty then 0 else 1) < 30))=true:=by rfl)
  (d:(apos.endLine==cpos.line)=true:=by rfl) (hs:starEach (e::es) X.env=(false,eval e X.env)::starEach es X.env:=by rfl) (b:(backTo cpos (starEach es X.env)).any (·.1)=false:=by rfl) :
  PE X (.Call (.Attribute o name apos) (e::es) [] cpos) (dS7 r to t):=by
 intro pins s σ H Q I h;refine wpAny_Call_method_late c f d rfl (thn (n pins s σ H _ I h) λv s1 Z0=>?_);obtain⟨x,j,k,l,⟨p,xs,ex,q⟩,u⟩:=Z0;subst ex;have y:v=.ref p:=l;subst y;obtain⟨_,its,_,⟨ob,z,A,_⟩,⟨i,B,C⟩⟩:=(show dJ X.prog X.w j s1.heap p (.tup xs)from k.hok p _ q);refine⟨"tuple",id,F.plainAttrs_tuple,slot,g,⟨ob,z,A⟩,λa D=>?_,?_⟩;cases D;exact⟨i,B,C⟩;have m:=ha cpos pins s1 σ j _ k u;rw[hs]at m ⊢;refine Calls.callWith_builtin (by show(false||(backTo cpos (starEach es X.env)).any (·.1))=false;rw[b]<;>rfl) (Calls.evalArgs_plain ?_);exact thn m λus s2 ⟨vs,E,G,J,K⟩=>hm pins s2 σ E (.ref p) vs _ us Q G l J K
end
theorem aL1:∀ (x y:List Int),HT.lexLt x y=tlt x y
 | [],[]=>rfl
 | [],_::_=>rfl
 | _::_,[]=>rfl
 | a::x,b::y=>by
   rw[HT.lexLt_cons,aL1 x y];rfl
def dS8:R2:=λx y H Q=>(∃ i j,x=.int i/\y=.int j/\Q (.bl (decide (i < j))) H)\/∃ a b ns c,x=.ref a/\y=.ref b/\H a=some (.tup (ns.map V.int))/\H b=some (.tup (c.map V.int))/\Q (.bl (tlt ns c)) H
def dF6{X:Cx}(e:X.A.units < cLine):OpR X (compareOp .Lt) dS8:=by
 intro pins s σ H x y v u Q I c d h;rcases h with⟨i,j,rfl,rfl,q⟩ | ⟨a,b,ns,ms,rfl,rfl,ha,hb,q⟩;exact dM8 pins s σ H _ _ v u Q I c d ⟨i,j,rfl,rfl,q⟩;exact cZ2 e pins s σ H _ _ v u Q I c d ⟨a,b,ns,ms,rfl,rfl,SqT.of ha,SqT.of hb,by rw[aL1];exact q⟩
end L2
namespace Dv
open PySem L2 Mr Sx
noncomputable def aL2:List D->Option (List Int)
 | []=>some []
 | .int i::r=>(aL2 r).bind λl=>some (i::l)
 | _::_=>none
theorem vM:∀ {l:List D} {zs:List Int},aL2 l=some zs->l=zs.map D.int
 | [],_,h=>by cases h;rfl
 | .int s::r,_,h=>by
   obtain⟨l,a,b⟩:=aC h;cases b;rw[vM a];rfl
 | .non::_,_,h=>by cases h
 | .str _::_,_,h=>by cases h
 | .bl _::_,_,h=>by cases h
 | .tup _::_,_,h=>by cases h
 | .lst _::_,_,h=>by cases h
 | .dic _ _::_,_,h=>by cases h
def bO2(zs:List Int):aL2 (zs.map D.int)=some zs:=by
 induction zs with
 | nil=>rfl
 | cons b r a=>show(aL2 (r.map D.int)).bind _=_;rw[a];rfl
noncomputable abbrev tI(k:List Int):D:=.tup (k.map D.int)
noncomputable def aC5:List D->Option (List (List Int))
 | []=>some []
 | .tup k::r=>(aL2 k).bind λa=>(aC5 r).bind λl=>some (a::l)
 | _::_=>none
theorem aC6:∀ {l:List D} {zs:List (List Int)},aC5 l=some zs->l=zs.map tI
 | [],_,h=>by cases h;rfl
 | .tup k::r,_,h=>by
   obtain⟨d,a,h⟩:=aC h;obtain⟨l,b,c⟩:=aC h;cases c;rw[aC6 b,vM a];rfl
 | .non::_,_,h=>by cases h
 | .str _::_,_,h=>by cases h
 | .bl _::_,_,h=>by cases h
 | .int _::_,_,h=>by cases h
 | .lst _::_,_,h=>by cases h
 | .dic _ _::_,_,h=>by cases h
def xE(zs:List (List Int)):aC5 (zs.map tI)=some zs:=by
 induction zs with
 | nil=>rfl
 | cons b r a=>show(aL2 (b.map D.int)).bind (λc=>(aC5 (r.map tI)).bind _)=_;rw[a,bO2];rfl
def dQ3{H:Hp}{k:List Int}{v:V}(h:Rp H (tI k) v):∃ a,v=.ref a/\H a=some (.tup (k.map V.int)):=by
 cases h with
 | tup h r=>rw[r.ints_inv]at h;exact⟨_,rfl,h⟩
theorem bO3{H:Hp}:∀ {ks:List (List Int)} {xs:List V},Rps H (ks.map tI) xs->∃ ps:List Addr,xs=ps.map V.ref/\ps.length=ks.length/\∀ (i:Nat) a k,ps[i]? = some a->ks[i]? = some k->H a=some (.tup (k.map V.int))
 | [],_,h=>by cases h;exact⟨[],rfl,rfl,λi a k e=>by simp at e⟩
 | k::ks,_,h=>by
   rw[a6d]at h;cases h with
   | cons a t=>
     obtain⟨p,rfl,d⟩:=dQ3 a;obtain⟨ps,rfl,f,g⟩:=bO3 t;refine⟨p::ps,rfl,by simp[f],λi a j b c=>?_⟩;cases i with
     | zero=>simp at b c;subst b c;exact d
     | succ i=>exact g i a j (by simpa using b) (by simpa using c)
theorem aR6{H:Hp}:∀ {ks:List (List Int)} {ps:List Addr},ps.length=ks.length->(∀ (i:Nat) a k,ps[i]? = some a->ks[i]? = some k->H a=some (.tup (k.map V.int)))->Rps H (ks.map tI) (ps.map V.ref)
 | [],[],_,_=>.nil
 | [],_::_,h,_=>by simp at h
 | _::_,[],h,_=>by simp at h
 | k::ks,p::ps,h,b=>.cons (.tup (b 0 p k rfl rfl) (vE k)) (aR6 (by simpa using h) λi a c d e=>b (i+1) a c (by simpa using d) (by simpa using e))
theorem iF{n:Nat}{σ:Sg}{a:DGs}{z:Str}{K:Sg->Prop}:OK1 (aO8 n a (.str z) σ) K=(z.length=n/\OK1 (a (jO z) σ) K):=by
 show OK1 (if z.length=n then a (jO z) σ else none) K=_;rw[bJ]
noncomputable def ltA:F2:=λd e=>match d,e with
 | .int i,.int j=>some (.val (.bl (decide (i < j))))
 | .tup x,.tup y=>(aL2 x).bind λns=>(aL2 y).bind λa=>some (.val (.bl (tlt ns a)))
 | _,_=>none
def cQ4:aE3 dS8 ltA:=by
 intro H l m x y Q res a b e k;unfold ltA at e;split at e;cases e;rw[dO a,dO b];exact .inl ⟨_,_,rfl,rfl,k _ _ (.refl _) (.bl _)⟩;obtain⟨ns,h,e⟩:=aC e;obtain⟨i,j,e⟩:=aC e;cases e;obtain⟨p,xs,rfl,c,d⟩:=fF a;obtain⟨q,ys,rfl,f,g⟩:=fF b;rw[vM h]at d;rw[vM j]at g;rw[d.ints_inv]at c;rw[g.ints_inv]at f;exact .inr ⟨p,q,ns,i,rfl,rfl,c,f,k _ _ (.refl _) (.bl _)⟩;cases e
theorem uY{i j:Int}{K:Res->Prop}:OK1 (ltA (.int i) (.int j)) K=K (.val (.bl (decide (i < j)))):=rfl
abbrev FT:=List D->D->Option D
def dS9(r:V->List V->Hp->L2.VK->Prop)(f:FT):Prop:=∀ H l xs e p y Q d,H p=some (.tup xs)->Rps H l xs->Vw H e y->f l e=some d->(∀ v,Rp H d v->Q v H)->r (.ref p) [y] H Q
noncomputable def dMT(f:FT)(a b:DE):DE:=λσ=>(a σ).bind λx=>match x.1 with
 | .val (.tup l)=>(b x.2).bind λy=>(rd y.2 y.1).bind λe=>(f l e).bind λd=>some (.val d,y.2)
 | _=>none
def dF7{X:Cx}{e:Expr}{r:V->List V->Hp->L2.VK->Prop}{f:FT}{n o:DE}(B:dS9 r f)(h:∀ Γ,PE X e (dS7 r (dTE Γ n) (dTA Γ (aD o aR)))):GE X e (dMT f n o):=.mk λΓ=>peW (h Γ) λσV H Q ⟨σ,ok,res,σ',e,k⟩=>by
 have q:=e;clear e;obtain⟨⟨x,a⟩,C,f1⟩:=aC q;clear q;dsimp only at f1;have D:∃ l,x=.val (.tup l):=by
  cases x with
  | val E=>
    cases E with
    | tup l=>exact⟨l,rfl⟩
    | _=>cases f1
  | _=>cases f1
 obtain⟨l,rfl⟩:=D;refine⟨σ,ok,_,a,C,λv1 F b G i _=>?_⟩;obtain⟨⟨y,j⟩,s,f2⟩:=aC f1;obtain⟨I,u,J⟩:=aC f2;obtain⟨d,K,L⟩:=aC J;cases L;dsimp only at s u;have m:Rp F (.tup l) v1:=G;obtain⟨p,xs,rfl,w,M⟩:=fF (.inl m);refine⟨⟨p,xs,rfl,w⟩,a,b,[y],j,?_,λvs z c N g _=>?_⟩;show((_:Option _).bind _)=_;rw[s];rfl;cases N with
 | cons O t _=>
   cases t;have A:=g.ext b;refine B z l xs I p _ Q d (A.tup _ _ w) (M.mono A) (O.vw c u) K λv P=>?_;exact k v z c P (i.trans g) eU
theorem aL3{σ:Sg}{f:FT}{c g:DE}{Q:Res->Sg->Prop}:RE (dMT f c g) σ Q=RE c σ λx a=>OK1 (match x with | .val (.tup l)=>some l | _=>none) λl=>RE g a λy b=>RD b y λe=>OK1 (f l e) λd=>Q (.val d) b:=by
 unfold RE RD dMT;simp only[aM];congr 1;funext x;obtain⟨x,a⟩:=x;cases x with
 | val d=>
   cases d with
   | tup l=>simp only[aM];rfl
   | _=>rfl
 | _=>rfl
end Dv
namespace L2
def aL4{A:PySem.Around}{k:Nat}(a:Room k A):A.units+8 < PySem.cLine:=by have:=a.un;lia
open PySem PySem.Spec PyProof.Rows Sx
theorem aX6(k:List Int):∀ l:List (List Int),(bE7 k l).length<=l.length+1
 | []=>by simp[bE7]
 | x::l=>by
   have:=aX6 k l;unfold bE7
   repeat' split
   all_goals (simp;try lia)
theorem mY:∀ l:List (List Int),(srt l).length<=l.length
 | []=>by simp[srt]
 | x::l=>by
   have:=mY l;have:=aX6 x (srt l);show(bE7 x (srt l)).length<=_;simp;lia
def aL5:List V->Hp->VK->Prop:=λvs H Q=>∃ (p:Addr) (b:Bool) (ps:List Addr) (ks:List (List Int)),vs=[.ref p]/\eS H p=some (b,ps.map V.ref)/\ps.length=ks.length/\(∀ (i:Nat) a k,ps[i]? = some a->ks[i]? = some k->H a=some (.tup (k.map V.int))) /\
 ks.length < 4000/\(2<=(srt ks).length->∀ k∈ks,k≠[]) /\
 ∀ r (c:List Addr),H r=none->c.length=(srt ks).length->(∀ (i:Nat) a k,c[i]? = some a->(srt ks)[i]? = some k->H a=some (.tup (k.map V.int)))->Q (.ref r) (upd H r (.lst (c.map V.ref)))
def eL{X:Cx}(hc:X.calm=true)(hu:X.A.units+8 < cLine):∀ pins s σ H vs us Q,Inv X pins σ H s->cA vs us->aL5 vs H Q ->
  wpAny (model X.prog X.w) X.A (call (.type "set") us) (λu s1=>wpAny (model X.prog X.w) X.A (call (.builtin "sorted") [u]) (EP X pins σ Q) X.xe s1) X.xe s:=by
 intro pins s σ H vs us Q I rv h;obtain⟨p,b,ps,ks,rfl,hH,hl,K,hn,L,q⟩:=h;obtain⟨u,rfl,ru⟩:=rv.one;cases ru;obtain⟨its,r,⟨M⟩⟩:=bY6 I hc hH;have B:ps.length=its.length:=by simpa using r.length
 have alive:∀ a∈ps,a < s.heap.objs.size:=λa ha=>by
  obtain⟨i,hi,e⟩:=a3e ha;have n:i < ks.length:=by lia
  obtain⟨o,_,_,ho,_⟩:=oY I (K i a ks[i] (by rw[a0a hi,e]) (a0a n));exact a8b ho
 have T0:fK X.prog X.w s.heap (· ∈ ps) ks its.toArray:=by
  refine⟨by rw[a4b];lia,λi v e=>?_⟩;rw[a6c]at e;have hi:i < ps.length:=by rw[B];exact(a1a.mp e).1
  have n:i < ks.length:=by lia
  obtain⟨v',e',O⟩:=r.get (i:=i) (x:=.ref ps[i]) (by rw[a0b,a0a hi];rfl);rw[e]at e';cases e';cases O;exact⟨ks[i],ps[i],a0a n,rfl,oY I (K i _ _ (a0a hi) (a0a n)),a9g hi⟩
 have nS:¬ s.heap.objs.size∈ps:=λz=>absurd (alive _ z) (a6f _);have nI:¬ s.heap.objs.size+1∈ps:=λz=>absurd (alive _ z) (a5j.mpr (Nat.le_succ _));refine bY0 M (λA' ha hu'=>bN5 (prog:=X.prog) (w:=X.w) (led:=fW X.w) (N:=(· ∈ ps)) (ks:=ks) (by lia) nS nI (a0e (a3i _)) hn) (λh' hS C=>?_) λh' tk ⟨T1,us,X1,_,hm⟩ d=>?_;refine⟨T0.stay λc ob _ e=>C c ob e,[],⟨_,#[],0,_,hS,⟨rfl,rfl,rfl⟩,rfl,?_,?_,rfl,rfl,rfl,λi e he=>by simp at he,.nil⟩,a6a _,λx=>by simp⟩;refine⟨⟨3,rfl⟩,a6a _,rfl,λi j a b _ e=>by simp[SetTable.fresh]at e,λi j e=>by simp[SetTable.fresh]at e,rfl,by simp[SetTable.fresh],λi h e=>by simp at e⟩;simp[SetTable.fresh];obtain⟨o,es,ep,t,Y⟩:=X1;have y:∀ x,x∈us↔x∈ks:=λx=>by
  rw[hm x,a2c (by rw[a4b];lia)]
 have pl:us.length=(srt ks).length:=((List.perm_ext_iff_of_nodup Y.nd (aK8 (iM ks))).mpr λx=>by rw[y x,eK]).length_eq;have P:es.size=(srt ks).length:=by rw[← Y.len];exact pl
 have E:s.heap.objs.size < h'.objs.size:=a8b Y.ob;have sl:(srt ks).length<=ks.length:=mY ks;have R:es.size<=sizeLine:=by rw[P,a3G];lia
 refine aL0 (s:={s with heap:=h',toks:=tk}) (I.ok.hd hc) Y (λa ha=>a3h (alive a ha) E) R (λh2 k S=>L (by lia) k ((y k).mp S)) y λh2 T D vs c hD U W m=>?_
 -- the addresses of what is told
 have hq:∃ qs:List Addr,vs=qs.map Value.ref/\qs.length=(srt ks).length/\∀ (i:Nat) a k,qs[i]? = some a->(srt ks)[i]? = some k->H a=some (.tup (k.map V.int)):=by
  have f:∀ v∈vs,∃ a,v=Value.ref a:=λv J=>by
   obtain⟨i,hi,e⟩:=a3e J;obtain⟨_,a,_,Z,_⟩:=W.2 i v (by rw[a6c,a0a hi,e]);exact⟨a,Z⟩
  have g:∀ vs:List Value,(∀ v∈vs,∃ a,v=Value.ref a)->∃ qs:List Addr,vs=qs.map Value.ref:=by
   intro vs
   induction vs with
   | nil=>intro _;exact⟨[],rfl⟩
   | cons v r ih=>
     intro J;obtain⟨a,rfl⟩:=J v a3a;obtain⟨qs,rfl⟩:=ih λx hx=>J x (a5a _ hx);exact⟨a::qs,rfl⟩
  obtain⟨qs,rfl⟩:=g vs f;have l1:qs.length=(srt ks).length:=by have:=W.1;simpa using this.symm
  refine⟨qs,rfl,l1,λi a k ea ek=>?_⟩;obtain⟨k',a',e1,Z,e3,e4⟩:=W.2 i (.ref a) (by rw[a6c,a0b,ea];rfl);rw[ek]at e1;cases e1;cases Z;obtain⟨j,hj,ej⟩:=a3e e4;have hj':j < ks.length:=by lia
  have F:=K j a ks[j] (by rw[a0a hj,ej]) (a0a hj');have t1:mH X.prog X.w h2 ks[j] a:=(oY I F).at λob hob=>m a ob (d a ob hob);rw[e3.inj t1];exact F
 obtain⟨qs,rfl,ql,qh⟩:=hq;have G:s.heap.objs.size<=D:=a3b (a2h E) hD;refine⟨.ref D,upd H D (.lst (qs.map V.ref)),?_,rfl,q D qs (I.hok.fresh G) ql qh⟩;refine I.laid (t':=T) (λb ob e=>m b ob (d b ob e)) G ⟨by rw[a2a,ql,a3G];lia,qs.map Value.ref,c,?_,U⟩;have vr:∀ l:List Addr,cA (l.map V.ref) (l.map Value.ref):=by
  intro l
  induction l with
  | nil=>exact .nil
  | cons a r ih=>exact .cons rfl ih
 exact vr qs
end L2
namespace Dv
open PySem L2 Mr Sx
open Classical in
noncomputable def eM:FN:=λa=>match a with
 | [d]=>(cT7 d).bind λx=>(aC5 x.2).bind λks=>if ks.length < 4000/\(2<=(srt ks).length->∀ k∈ks,k≠[])then some (.own (.lst ((srt ks).map tI)))else none
 | _=>none
def fL:bW0 aL5 eM:=by
 intro H x vs Q res vw e k;unfold eM at e;split at e
 ·obtain⟨⟨b,l⟩,h,e⟩:=aC e;obtain⟨ks,c,e⟩:=aC e;dsimp only at c;split at e
  ·rename_i d;cases e;cases vw with
   | cons a t=>
     cases t;obtain⟨p,xs,rfl,j,f⟩:=cD6 a h;rw[aC6 c]at f;obtain⟨ps,rfl,m,n⟩:=bO3 f;refine⟨p,b,ps,ks,rfl,j,m,n,d.1,d.2,λr o g q s=>?_⟩;have sm:zZ H (upd H r (.lst (o.map V.ref))):=bO g;exact k _ _ sm ⟨r,rfl,g,_,aJ,aR6 q λi a u v w=>sm _ _ (s i a u v w)⟩
  ·cases e
 ·cases e
def dF8{ks:List (List Int)}{K:Res->Prop}:OK1 (eM [.lst (ks.map tI)]) K=((ks.length < 4000/\(2<=(srt ks).length->∀ k∈ks,k≠[]))/\K (.own (.lst ((srt ks).map tI)))):=by
 show OK1 ((aC5 (ks.map tI)).bind _) K=_;rw[xE];show OK1 (if _ then _ else none) K=_;rw[bJ];rfl
def dF9{ks:List (List Int)}{K:Res->Prop}:OK1 (eM [.tup (ks.map tI)]) K=((ks.length < 4000/\(2<=(srt ks).length->∀ k∈ks,k≠[]))/\K (.own (.lst ((srt ks).map tI)))):=by
 show OK1 ((aC5 (ks.map tI)).bind _) K=_;rw[xE];show OK1 (if _ then _ else none) K=_;rw[bJ];rfl
end Dv
namespace L2
open PySem PySem.Spec PyProof.Rows Sx
def cF1:List V->Hp->VK->Prop:=λvs H Q=>∃ (p:Addr) (b:Bool) (ps:List Addr) (ks:List (List Int)),vs=[.ref p]/\eS H p=some (b,ps.map V.ref)/\ps.length=ks.length/\(∀ (i:Nat) a k,ps[i]? = some a->ks[i]? = some k->H a=some (.tup (k.map V.int))) /\
 ks.length < 4000/\ks.Nodup/\(2<=ks.length->∀ k∈ks,k≠[]) /\
 ∀ r (c:List Addr),H r=none->c.length=(srt ks).length->(∀ (i:Nat) a k,c[i]? = some a->(srt ks)[i]? = some k->H a=some (.tup (k.map V.int)))->Q (.ref r) (upd H r (.lst (c.map V.ref)))
def cQ5{N:Addr->Prop}{prog:Program}{w:World}{h:Heap}{ks:List (List Int)}{vs:List Value}(T:fK prog w h N ks vs.toArray):∃ b:List Addr,vs=b.map Value.ref:=by
 have f:∀ v∈vs,∃ a,v=Value.ref a:=λv c=>by
  obtain⟨i,hi,e⟩:=a3e c;obtain⟨_,a,_,d,_⟩:=T.2 i v (by rw[a6c,a0a hi,e]);exact⟨a,d⟩
 clear T
 induction vs with
 | nil=>exact⟨[],rfl⟩
 | cons v r g=>
   obtain⟨a,rfl⟩:=f v a3a;obtain⟨b,rfl⟩:=g λx j=>f x (a5a _ j);exact⟨a::b,rfl⟩
theorem aL6:∀ l:List Addr,cA (l.map V.ref) (l.map Value.ref)
 | []=>.nil
 | a::r=>.cons rfl (aL6 r)
section
variable{X:Cx}
def bD5:mK X (.builtin "sorted") cF1:=by
 intro pins s σ H xs us Q I r h;obtain⟨p,b,ps,ks,rfl,S,hl,G,hn,nd,J,q⟩:=h;obtain⟨u,rfl,Z⟩:=aE8 r;cases Z;obtain⟨its,y,T,o,n,hT,g,A,hd,hsz⟩:∃ (its:List Value),cA (ps.map V.ref) its/\∃ (T:String) (o:Obj) (n:Nat),(T="list"\/T="tuple")/\s.heap.get? p=some o/\o.cls=.type T/\o.data=.seq its.toArray n/\ps.length<=sizeLine:=by
  cases b with
  | true=>
    obtain⟨its,y,pl,K⟩:=I.list (fD S);obtain⟨o,g,A,n,hd⟩:=pl.isList;exact⟨its,y,"list",o,n,.inl rfl,g,A,hd,by simpa using K⟩
  | false=>
    obtain⟨its,y,pl,K⟩:=I.tuple (eE S);obtain⟨o,g,A,n,hd⟩:=pl;exact⟨its,y,"tuple",o,n,.inr rfl,g,A,hd,by simpa using K⟩
 have B:its.length=ps.length:=by rw[← y.length,a2a]
 have T0:fK X.prog X.w s.heap (· ∈ ps) ks its.toArray:=by
  refine⟨by rw[a4b];lia,λi v e=>?_⟩;rw[a6c]at e;have hi:i < ps.length:=by rw[← B];exact(a1a.mp e).1
  have d:i < ks.length:=by lia
  obtain⟨v',U,L⟩:=y.get (i:=i) (x:=.ref ps[i]) (by rw[a0b,a0a hi];rfl);rw[e]at U;cases U;cases L;exact⟨ks[i],ps[i],a0a d,rfl,oY I (G i _ _ (a0a hi) (a0a d)),a9g hi⟩
 refine Calls.call_function_entry kind_sorted plain_sorted entry_sorted (args_sorted1 _) ?_;unfold Builtin.«sorted»;refine a3r (m:=checkCount "sorted" 1 1 _) (a3t ?_);refine a3r (wpAny_collect_seq p hT g A hd (λh' C=>?_) (by simp only[List.size_toArray];lia));have F:Inv X pins σ H {s with heap:=h'}:=I.kept (t':=s.toks) C;have f:∀ a∈ps,a < h'.objs.size:=λa ha=>by
  obtain⟨i,hi,e⟩:=a3e ha;have d:i < ks.length:=by lia
  obtain⟨o,_,_,g,_⟩:=oY F (G i a ks[i] (by rw[a0a hi,e]) (a0a d));exact a8b g
 have T1:fK X.prog X.w h' (· ∈ ps) ks its.toArray:=T0.stay λc ob _ e=>C c ob e;refine a3r (wpAny_newList ?_ (by rw[show its.toArray.toList.length=its.length from by simp];lia));have l:(h'.push (seqObj "list" its.toArray.toList.toArray 0)).get? h'.objs.size=some (seqObj "list" its.toArray 0):=by
  simpa using a9b (h:=h') (o:=seqObj "list" its.toArray.toList.toArray 0) rfl
 have up1:∀ b ob,h'.get? b=some ob->(h'.push (seqObj "list" its.toArray.toList.toArray 0)).get? b=some ob:=λb ob e=>a8a _ e;show wpAny _ _ _ _ _ {s with heap:=h'.push (seqObj "list" its.toArray.toList.toArray 0)};have M:¬ h'.objs.size∈ps:=λz=>absurd (f _ z) (a6f _);generalize h'.push (seqObj "list" its.toArray.toList.toArray 0)=h1 at l up1;refine a3r (a3x (a3E slot_list_sort ⟨_,l,rfl⟩ entry_list_sort (zN (s:={s with heap:=h1}) l M (T1.stay λb ob _ e=>up1 b ob e) (by lia) nd (λh=>J (by lia)) λW ws c N O t=>⟨_,rfl,?_⟩) (args_list_sort _)));have keep:∀ b ob,h'.get? b=some ob->W.get? b=some ob:=λb ob e=>t b ob (λz=>absurd (a8b (z ▸ e)) (a6f _)) (up1 b ob e);obtain⟨D,rfl⟩:=cQ5 N;have l1:D.length=(srt ks).length:=by have:=N.1;simpa using this.symm
 have sl:=mY ks;refine a3t ⟨_,rfl,.ref h'.objs.size,_,F.laid (t':=s.toks) (o:=.lst (D.map V.ref)) keep (a6a _) ⟨by rw[a2a,l1];lia,D.map Value.ref,c,aL6 D,O⟩,rfl,q _ D (F.hok.fresh (a6a _)) l1 λi a k ea ek=>?_⟩;obtain⟨k',a',Y,e2,e3,e4⟩:=N.2 i (.ref a) (by rw[a6c,a0b,ea];rfl);rw[ek]at Y;cases Y;cases e2;obtain⟨j,hj,ej⟩:=a3e e4;have P:j < ks.length:=by lia
 have E:=G j a ks[j] (by rw[a0a hj,ej]) (a0a P);have t1:mH X.prog X.w W ks[j] a:=(oY F E).at λob R=>keep a ob R;rw[e3.inj t1];exact E
end
end L2
namespace Dv
open PySem L2 Mr Sx
open Classical in
noncomputable def aX7:FN:=λa=>match a with
 | [d]=>(cT7 d).bind λx=>(aC5 x.2).bind λks=>if ks.length < 4000/\ks.Nodup/\(2<=ks.length->∀ k∈ks,k≠[])then some (.own (.lst ((srt ks).map tI)))else none
 | _=>none
def bO4:bW0 cF1 aX7:=by
 intro H x vs Q res vw e k;unfold aX7 at e;split at e
 ·obtain⟨⟨b,l⟩,h,e⟩:=aC e;obtain⟨ks,d,e⟩:=aC e;dsimp only at d;split at e
  ·rename_i c;cases e;cases vw with
   | cons a t=>
     cases t;obtain⟨p,xs,rfl,j,f⟩:=cD6 a h;rw[aC6 d]at f;obtain⟨ps,rfl,m,n⟩:=bO3 f;refine⟨p,b,ps,ks,rfl,j,m,n,c.1,c.2.1,c.2.2,λr o g q s=>?_⟩;have sm:zZ H (upd H r (.lst (o.map V.ref))):=bO g;exact k _ _ sm ⟨r,rfl,g,_,aJ,aR6 q λi a u v w=>sm _ _ (s i a u v w)⟩
  ·cases e
 ·cases e
def dG0{ks:List (List Int)}{K:Res->Prop}:OK1 (aX7 [.lst (ks.map tI)]) K=((ks.length < 4000/\ks.Nodup/\(2<=ks.length->∀ k∈ks,k≠[]))/\K (.own (.lst ((srt ks).map tI)))):=by
 show OK1 ((aC5 (ks.map tI)).bind _) K=_;rw[xE];show OK1 (if _ then _ else none) K=_;rw[bJ];rfl
end Dv
namespace PySem
open Sem (wp)
section
variable{prog:Program}{w:World}{K:Type}[DecidableEq K]{knd:HeapKind prog w K}{A:Around}{E:Value->Shared->Prop}{s:Shared}
def bY7{d a:Addr}{xs:List (K×Addr×Value)}{k:K}{v:Value}{Q:Value->Shared->Prop}(m:knd.room A)(c:knd.is s.heap k a)(hm:s.heap.DictOfH knd d xs)(hsz:xs.length<=sizeLine)
  (n:∀ p,atKey xs k=some p->Q p.2 {s with toks:=s.toks+knd.draws k})
  (r:atKey xs k=none->∀ h',h'.DictOfH knd d (xs++[(k,a,v)])->Heap.SameBut d s.heap h'->Q v {s with heap:=h',toks:=s.toks+knd.draws k}) :
  wpAny (model prog w) A (dictSetDefault d (.ref a) v) Q E s:=by
 obtain⟨o,es,ep,g,u,hd,i,h,hn⟩:=hm;have kp:∀ {x:K} {b:Addr} (f:Array DictEntry->Array DictEntry),knd.is s.heap x b->knd.is (s.heap.update d (Obj.mapDictKeys f)) x b:=λf t=>knd.keeps t g hd (a1i ..);unfold dictSetDefault
 try with_reducible refine a3x ?_
 refine a3r (knd.pyHash m c (a3r (wpAny_dictFind_heap (s:={s with toks:=s.toks+knd.draws k}) m c g hd i h hn (λno=>?_) λj p hj=>?_)))
 ·have out:k∉xs.map (·.1):=not_mem_keys_of_get no;have q:=r (atKey_none_of_get no);refine a3r (a3K (a3r (wpAny_updateDictKeys (s:={s with toks:=s.toks+knd.draws k}) (hz:=by have:=size_of_entries i;lia) g hd (a3t (q _ ?_ (a1i ..))))));refine⟨_,_,ep+1,a6e _ g (Obj.isFreed_of_dict (Obj.data_mapDictKeys hd _)),u.mapDictKeys _,Obj.data_mapDictKeys hd _,by simp[i,entryOfKey],λx l=>?_,?_⟩;rcases a3c.mp l with z | z;exact kp _ (h x z);cases a1b.mp z;exact kp _ c;simp only[List.map_append,List.map_cons,List.map_nil];exact List.nodup_append.mpr ⟨hn,by simp,λx l y B e=>out (by cases a1b.mp B;exact e ▸ l)⟩
 ·refine a3r (wpAny_dictEntries (s:={s with toks:=s.toks+knd.draws k}) g hd ?_);rw[entry_at i j,hj];exact a3r (a3K (a3t (n p (atKey_of_get hn hj))))
def bD6(knd:HeapKind prog w K)(d a:Addr)(hd:(d==sysModules)=false)(dflt:Value) :
  MeetsIn prog w (Builtin.«dict.setdefault» ⟨[.ref d,.ref a,dflt],[]⟩) (λA R s=>knd.room A.in1/\∃ k xs,knd.is s.heap k a/\s.heap.DictOfH knd d xs/\xs.length<=sizeLine /\
   (∀ p,atKey xs k=some p->R (.ok (.ret p.2)) {s with toks:=s.toks+knd.draws k}) /\
   (atKey xs k=none->∀ h',h'.DictOfH knd d (xs++[(k,a,dflt)])->Heap.SameBut d s.heap h'->R (.ok (.ret dflt)) {s with heap:=h',toks:=s.toks+knd.draws k})):=
 .of_wp λA R s ⟨c,k,xs,b,hm,f,g,h⟩=>by
  have i:s.TypeIs (.ref d) "dict":=hm.typeIs;unfold Builtin.«dict.setdefault» Builtin.Dict.keyAndDefault;refine a3r (a3r (wpAny_notOrdered_dict i (a3t ?_)));show wpAny _ _ (if(d==sysModules)=true then _ else dictSetDefault d (.ref a) dflt >>= _) _ _ s;rw[hd,a3u a3d];exact a3r (bY7 c b hm f (λp e=>a3t ⟨_,rfl,g p e⟩) λe h' m j=>a3t ⟨_,rfl,h e h' m j⟩)
end
end PySem
namespace L2
open PySem PySem.Spec PyProof.Rows
def DTa(H:Hp)(a:Addr)(kvs:List (List Key×V)):Prop:=H a=some (.dT kvs)\/H a=some (.dK [])/\kvs=[]
def dG1{P:Program}{w:World}{H:Hp}{h:Heap}{a:Addr}{kvs:List (List Key×V)}(ok:HOk P w H h)(e:DTa H a kvs):(a==sysModules)=false/\∃ xs,KT H kvs xs/\h.DictOfH (tupleKind (dI P w)) a xs:=by
 rcases e with e | ⟨e,rfl⟩;obtain⟨_,hd,xs,rel,c⟩:=dP1 ok e;exact⟨hd,xs,rel,c⟩;obtain⟨_,hd,vs,rel,c⟩:=dP0 ok e;cases rel;obtain⟨o,es,ep,d,f,b,k,g,hn⟩:=c;have i:es.toList=[]:=a0d g.length;exact⟨hd,[],.nil,o,es,ep,d,f,b,by rw[i];rfl,λx j=>by simp at j,.nil⟩
theorem snoc{b c:Type}{R:b->c->Prop}{x:b}{y:c}:∀ {l:List b} {m:List c},Paired R l m->R x y->Paired R (l++[x]) (m++[y])
 | _,_,.nil,h=>.cons h .nil
 | _,_,.cons a t,h=>.cons a (snoc t h)
section
variable{X:Cx}{pins:List (Addr×Obj)}{σ:St}{H:Hp}{s:Shared}{a b:Addr}{z:V}{r:Value}{kvs:List (List Key×V)}{k:List Key}{A:Around}{E:Value->Shared->Prop}
def dQ4{Q:Value->Shared->Prop}(t:A.units+1 < cLine)(I:Inv X pins σ H s)(e:DTa H a kvs)(h:H b=some (.tup (k.map kV)))(l:kvs.length < sizeLine)(u:eA z r)
  (x:∀ v i s',vD kvs k=some v->Inv X pins σ H s'->eA v i->Q i s') (y:vD kvs k=none->∀ s',Inv X pins σ (upd H a (.dT (kvs++[(k,z)]))) s'->Q r s') :
  wpAny (model X.prog X.w) A (call (.builtin "dict.setdefault") [.ref a,.ref b,r]) Q E s:=by
 obtain⟨hd,xs,rel,j⟩:=dG1 I.hok e;have K:xs.length=kvs.length:=(Paired.length rel).symm;refine call_meetsIn F.slot_dict_setdefault j.typeIs F.entry_dict_setdefault (F.args_dict_setdefault_3 _ _ _) (bD6 (tupleKind (dI X.prog X.w)) a b hd r) ⟨tupleKind_room_in1 t,k,xs,bI9 I.hok h,j,by lia,λp B=>?_,λhn h' g hs=>?_⟩
 ·have q:=rel.val k;rw[B]at q;cases d:vD kvs k with
  | none=>rw[d]at q;exact nomatch q
  | some v=>rw[d]at q;exact x v _ _ d (I.tok _) q
 ·have q:=rel.val k;rw[hn]at q;have d:vD kvs k=none:=by
   cases d:vD kvs k with
   | none=>rfl
   | some v=>rw[d]at q;exact nomatch q
  refine y d _ ?_;obtain⟨o,es,ep,m,C,D,G,_,J⟩:=g;have f:KT H (kvs++[(k,z)]) (xs++[(k,b,r)]):=snoc rel ⟨rfl,h,u⟩;refine cM0 I (by rcases e with e | ⟨e,_⟩<;>(rw[e];exact True.intro)) hs ⟨o,m⟩ ⟨by simp;lia,hd,_,f.keeps λc ys n=>?_,o,es,ep,m,C,D,G,J⟩;rw[aG (by rcases e with e | ⟨e,_⟩<;>exact dM1 n e λz=>nomatch z)];exact n
end
def dQ5(d ty tx:TE):TE:=λσ H Q=>d σ H λx c=>∃ a,x=.ref a/\IsD c a/\ty σ c λy e=>tx σ e λz H3=>∃ kvs k b,DTa H3 a kvs/\y=.ref b/\H3 b=some (.tup (k.map kV))/\kvs.length < sizeLine /\
 (∀ v,vD kvs k=some v->Q v H3)/\(vD kvs k=none->Q z (upd H3 a (.dT (kvs++[(k,z)]))))
def dG2{X:Cx}{o e f:Expr}{apos cpos:Pos}{g ty tx:TE}(l:X.A.units+1 < cLine)(n:PE X o g)(p:PE X e ty)(q:PE X f tx)(m:M2 X o "setdefault" apos e f cpos):PE X (.Call (.Attribute o "setdefault" apos) [e,f] [] cpos) (dQ5 g ty tx):=by
 intro pins s σ H Q I h;refine wpAny_Call_method m.base m.few m.line F.plainAttrs_dict F.slot_dict_setdefault F.type_dict_setdefault (thn (n pins s σ H _ I h) λu s1 Z0=>?_);obtain⟨x,r,i,t,a,ex,d,w⟩:=Z0;subst ex;obtain rfl:u=Value.ref a:=t;obtain⟨B,C,_⟩:=cD5 i d;refine⟨B,C,?_⟩;rw[m.trees];refine Calls.callWith_builtin rfl (Calls.evalArgs_plain (Calls.spliced_cons (thn (p pins s1 σ r _ i w) λD s2 ⟨y,E,G,J,K⟩=>Calls.spliced_cons (thn (q pins s2 σ E _ G K) λW Y ⟨z,L,M,j,kvs,k,b,N,O,P,R,S,T⟩=>Calls.spliced_nil ?_))));subst O;obtain rfl:D=Value.ref b:=J;exact dQ4 l M N P R j (λv Z U e c V=>⟨v,L,c,V,S v e⟩) λe U c=>⟨z,_,c,j,T e⟩
end L2
namespace Dv
open PySem L2 Mr
def dG3(C:MC):Prop:=∀ as (K a:Res->List Sl->Prop),(∀ r l,K r l->a r l)->C as K->C as a
structure GM1(E:Ex)(X:Cx)(st:Stmt)(m:MS):Prop where
 to:∀ Γ,PS X st (mTS Γ E m)
 mon:bR9 m
section
variable{X:Cx}{E:Ex}{st:Stmt}{ss eZ:List Stmt}{r:DS}{a b m:MS}{pos:Pos}
def aL7:bR9 (RS r):=λ_ _ _ w q=>cN q w
def cF2{Γ:Gm}{D:Ends}{σV:St}{H:Hp}(h:mTS Γ E (RS r) D σV H):dTS Γ E r D σV H:=by
 obtain⟨σ,ok,q⟩:=h;obtain⟨o,e,q⟩:=dH.mp q;exact⟨σ,ok,o,e,q⟩
def dG4(h:GSs E X ss r):GM E X ss (RS r):=⟨λΓ=>cT6 (h.to Γ) λ_ _ _=>cF2,aL7⟩
def bO5(h:GS E X st r):GM1 E X st (RS r):=⟨λΓ=>psW (h.to Γ) λ_ _ _=>cF2,aL7⟩
def sqM(b:MS)(Q:Out->Prop)(o:Out):Prop:=match o with
 | .nx a=>b a Q
 | o=>Q o
def cF3(a b:MS):MS:=λσ Q=>a σ (sqM b Q)
def aC7(e:bR9 a)(g:bR9 b):bR9 (cF3 a b):=λσ Q h w q=>e σ _ _ (λo q=>by
 cases o with
 | nx d=>exact g d _ _ w q
 | rt r σ'=>exact w _ q
 | bk σ'=>exact w _ q
 | ct σ'=>exact w _ q
 | ex c f σ'=>exact w _ q) q
def aR7(e:GM1 E X st a)(g:GM E X eZ b):GM E X (st::eZ) (cF3 a b) where
 to:=λΓ=>cT6 (cK (e.to Γ) (g.to Γ)) λD σV H ⟨σ,ok,q⟩=>⟨σ,ok,e.mon σ _ _ (λo q=>by
  cases o with
  | nx d=>exact λj k h i=>⟨d,h,g.mon d _ _ (λo q=>q.after i) q⟩
  | rt r σ'=>exact q
  | bk σ'=>exact q
  | ct σ'=>exact q
  | ex c f σ'=>exact q) q⟩
 mon:=aC7 e.mon g.mon
def bY8(i n:Nat)(C:MC)(b:DA):MS:=λσ Q=>OK1 (b σ) λx=>OK1 (wH x.2 x.1) λas=>(as.length=n/\cW x.1=true)/\C as λy as'=>OK1 (dL2 i y (iY x.1 as' 0 x.2)) λa=>Q (.nx a)
def bY9{Γ:Gm}{i:Nat}{x:Res}{σ a c:Sg}{σV:St}{H H1:Hp}{v:V}(f:StOk Γ H1 a σV)(l:jM Γ H1 a σV x v)(g:Step σ σV H a σV H1)(m:Frh H x v)(k:dL2 i x a=some c) :
  StOk Γ H1 c (σV.set i (some v))/\Step σ σV H c (σV.set i (some v)) H1:=by
 cases x with
 | val d=>
   have b:(if gF a i=true then some (a.set i (some ⟨.val,d⟩))else none)=some c:=k;split at b;rename_i h;cases b;exact⟨f.put h l,g.put h .val (.inl rfl)⟩;cases b
 | own d=>
   have b:(if gF a i=true then some (a.set i (some ⟨.own,d⟩))else none)=some c:=k;split at b;rename_i h;cases b;obtain⟨p,rfl,n,o,q⟩:=l;exact⟨f.putOwn h n o q,g.put h .own (.inr ⟨rfl,λp e=>m _ p rfl e⟩)⟩;cases b
 | slot j=>cases k
def aX8{i n:Nat}{C:MC}{a:DA}(b:dG3 C):bR9 (bY8 i n C a):=λσ Q d w q=>cN q λx q=>cN q λas q=>⟨q.1,b _ _ _ (λy as' q=>cN q λc q=>w _ q) q.2⟩
def cQ6{i n:Nat}{C:MC}{e:DA}{f:XK}(g:dG3 C)(h:∀ Γ,PS X st (bS4 (bA5 (bW9 n C) [] f (dTA Γ e)) (nD i))):GM1 E X st (bY8 i n C e) where
 to:=λΓ=>psW (h Γ) λD σV H ⟨σ,ok,q⟩=>by
  obtain⟨⟨rs,a⟩,j,q⟩:=dH.mp q;obtain⟨as,k,⟨l,hn⟩,q⟩:=dH.mp q;refine⟨σ,ok,rs,a,j,λvs m b o d p=>?_⟩;show bW9 n C (vs++[]) m _ f;rw[a1g];obtain⟨r,c⟩:=aG8 k hn b o d p;refine⟨as,r,l,g _ _ _ (λy as' q v s po t=>?_) q⟩;obtain⟨u,w,x,z⟩:=c y as' v s po t;obtain⟨A,B,q⟩:=dH.mp q;obtain⟨F,G⟩:=bY9 u w x z B;exact q _ _ F G
 mon:=aX8 g
end
def cQ7{len:Nat}{m:MS}(hm:bR9 m):dG3 (dL4 len m):=λas K b w q=>hm _ _ _ (λo q=>by
 cases o with
 | nx σ=>exact w _ _ q
 | rt r σ=>obtain⟨a,e,q⟩:=q;exact⟨a,e,w _ _ q⟩
 | bk σ=>exact q
 | ct σ=>exact q
 | ex c f σ=>exact q) q
def bD7{C:MC}{K:W.Frag}{H:Hp}{a:Addr}{ns:List Int}(b:dG3 C)(c:bL6 K=true)(d:cZ9 H)(f:SqL K H a (ns.map V.int))(h:C [⟨.val,.lst (ns.map D.int)⟩] λy _=>y=.val (.bl true)) :
  bW9 1 C [.ref a] H (λv _=>v=.bl true) (λ_ _ _=>False):=
 ⟨_,cO0 c d f,rfl,b _ _ _ (λy as' e v H' po g=>by subst e;cases g;rfl) h⟩
end Dv
namespace L2
open PySem Dv
inductive FQ(Q:Hp->Prop):Hp->Prop
 | done {H:Hp}:Q H->FQ Q H
 | step {H:Hp} {p:Addr} {u:HO}:H p=some u->Fz u->(∀ o,FQ Q (upd H p (.frz o u)))->FQ Q H
end L2
namespace Dv
open PySem L2
structure Hid(Γ:Gm)(σ:Sg)(σV:St)(q:Addr):Prop where
 nv:¬ aV0 σ σV q
 h0:Γ.H₀ q=none
section
variable{Γ:Gm}{H H':Hp}{σ σ':Sg}{σV σV':St}{q g:Addr}{o o':HO}
def Hid.step(h:Hid Γ σ σV q)(st:Step σ σV H σ' σV' H')(e:H q=some o):Hid Γ σ' σV' q/\H' q=some o:=
 ⟨⟨λz=>(st.nv q z).elim h.nv λz=>(by rw[e]at z;cases z),h.h0⟩,st.fr q o e λz=>h.nv z.nv⟩
def cF4(H:Hp)(q:Addr):Prop:=H q=none\/∃ o,H q=some o/\Fz o
def aC8{L:Addr->Prop}(h:∀ a,L a->cF4 H a)(k:∀ a,¬ L a->H' a=H a):Ext H H':=by
 refine⟨λb xs e=>?_,λb ob x e=>?_⟩<;>rw[k b λz=>?_]<;>first | exact e | (rcases h b z with s | ⟨o,s,f⟩<;>rw[s]at e<;>cases e;exact f)
def StOk.hids{L:Addr->Prop}(ok:StOk Γ H σ σV)(h:∀ a,L a->Hid Γ σ σV a/\cF4 H a)(k:∀ a,¬ L a->H' a=H a):StOk Γ H' σ σV:=
 ⟨λi t e=>by
  obtain⟨v,b,r⟩:=ok.rel i t e;refine⟨v,b,r.mono (aC8 (λa z=>(h a z).2) k) λp x c m ex=>?_⟩;rw[k p λz=>(h p z).1.nv ⟨i,t,e,m,by rw[b,c]⟩];exact ex,ok.dis,ok.own,ok.par,
  λa x e n=>by rw[k a λz=>(by have:=(h a z).1.h0;rw[this]at e;cases e)];exact ok.keep a x e n,
  λa e=>by
   by_cases z:L a;exact(h a z).1.h0;rw[k a z]at e;exact ok.dom a e,ok.len⟩
def Step.hids{L:Addr->Prop}{c:Sg}{b:St}{d:Hp}(st:Step c b d σ σV H)(h:∀ a,L a->(d a=none\/jJ c b a)/\H' a≠none)(k:∀ a,¬ L a->H' a=H a):Step c b d σ σV H':=
 ⟨λa x e n=>by rw[k a λz=>(by rcases(h a z).1 with q | q;(rw[e]at q;cases q);exact n q)];exact st.fr a x e n,
  λa e=>by
   by_cases z:L a;exact absurd e (h a z).2;rw[k a z]at e;exact st.dom a e,st.mu,st.nv,st.kp,st.fix,st.lt⟩
def cQ8{a:Addr}(z:¬ a=q):upd H q o' a=H a:=aG z
def StOk.hid(ok:StOk Γ H σ σV)(h:Hid Γ σ σV q)(s:cF4 H q):StOk Γ (upd H q o') σ σV:=ok.hids (L:=(· = q)) (λa e=>by subst e;exact⟨h,s⟩) λa z=>cQ8 z
def Step.hid{c:Sg}{b:St}{d:Hp}(st:Step c b d σ σV H)(h:d q=none\/jJ c b q):Step c b d σ σV (upd H q o'):=st.hids (L:=(· = q)) (λa e=>by subst e;exact⟨h,by rw[aJ];exact λz=>nomatch z⟩) λa z=>cQ8 z
def cF4.ext(s:cF4 H q):Ext H (upd H q o'):=aC8 (L:=(· = q)) (λa e=>by subst e;exact s) λa z=>cQ8 z
end
section
variable{Γ:Gm}{H H':Hp}{σ σ':Sg}{σV σV':St}{g p:Nat}
noncomputable abbrev SG:Sl:=⟨.own,.dic [] []⟩
def xF{s t:Sl}{i:Nat}(h:(σ.set g (some s))[i]? = some (some t)):(i=g/\t=s)\/(i≠g/\σ[i]? = some (some t)):=by
 rcases bD h with⟨z,a,_⟩ | ⟨z,a⟩;cases a;exact .inl ⟨z,rfl⟩;exact .inr ⟨z,a⟩
def Step.wide(st:Step σ σV H σ' σV' H')(f:g < σ.length)(t:σ'.length=σ.length)(q:σV[g]? = some (some (.ref p)))(k:σV'[g]? = some (some (.ref p))):Step (σ.set g (some SG)) σV H (σ'.set g (some SG)) σV' H':=by
 have up:∀ {a},jJ σ σV a->jJ (σ.set g (some SG)) σV a:=λ{a} ⟨i,s,c,d,b⟩=>by
  by_cases z:i=g;subst z;exact⟨i,SG,by rw[a6b f],rfl,b⟩;exact⟨i,s,by rw[a4a (a5d z)];exact c,d,b⟩
 have j:∀ {a},aV0 σ σV a->aV0 (σ.set g (some SG)) σV a:=λ{a} ⟨i,s,c,d,b⟩=>by
  by_cases z:i=g;subst z;exact⟨i,SG,by rw[a6b f],(λz=>nomatch z),b⟩;exact⟨i,s,by rw[a4a (a5d z)];exact c,d,b⟩
 have l:jJ (σ.set g (some SG)) σV p:=⟨g,SG,by rw[a6b f],rfl,q⟩;refine⟨λa o e n=>st.fr a o e λz=>n (up z),st.dom,λa ⟨i,s,c,d,b⟩=>?_,λa ⟨i,s,c,d,b⟩=>?_,λi s h=>?_,λi s h m=>?_,λi s h m=>?_⟩;rcases xF c with⟨rfl,rfl⟩ | ⟨z,c⟩;rw[k]at b;cases b;exact .inl l;exact(st.mu a ⟨i,s,c,d,b⟩).imp up id;rcases xF c with⟨rfl,rfl⟩ | ⟨z,c⟩;rw[k]at b;cases b;exact .inl l.nv;exact(st.nv a ⟨i,s,c,d,b⟩).imp j id;rcases xF h with⟨rfl,rfl⟩ | ⟨z,h⟩;exact⟨SG,by rw[a6b (by lia)]⟩;obtain⟨s',h'⟩:=st.kp i s h;exact⟨s',by rw[a4a (a5d z)];exact h'⟩;rcases xF h with⟨rfl,rfl⟩ | ⟨z,h⟩;rcases m with m | m<;>cases m;obtain⟨s',h',r⟩:=st.fix i s h m;exact⟨s',by rw[a4a (a5d z)];exact h',r⟩;rcases xF h with⟨rfl,rfl⟩ | ⟨z,h⟩;cases m;obtain⟨s',h',r⟩:=st.lt i s h m;exact⟨s',by rw[a4a (a5d z)];exact h',r⟩
def Step.drop(st:Step σ σV H (σ'.set g (some SG)) σV' H')(h0:σ[g]? = some none)(b:∀ s,σ'[g]? ≠ some (some s)):Step σ σV H σ' σV' H':=by
 have up:∀ {i:Nat} {s:Sl},σ'[i]? = some (some s)->(σ'.set g (some SG))[i]? = some (some s):=λ{i s} h=>by
  rw[a4a (λz=>b s (by rw[z];exact h))];exact h
 refine⟨st.fr,st.dom,λa ⟨i,s,e,r⟩=>st.mu a ⟨i,s,up e,r⟩,λa ⟨i,s,e,r⟩=>st.nv a ⟨i,s,up e,r⟩,λi s h=>?_,λi s h m=>?_,λi s h m=>st.lt i s (up h) m⟩;obtain⟨s',h'⟩:=st.kp i s h;rcases xF h' with⟨rfl,rfl⟩ | ⟨z,h'⟩;rw[h0]at h;cases h;exact⟨s',h'⟩;obtain⟨s',h',r⟩:=st.fix i s h m;rcases xF h' with⟨rfl,rfl⟩ | ⟨z,h'⟩;rw[h0]at h;cases h;exact⟨s',h',r⟩
def StOk.forget(ok:StOk Γ H σ σV):StOk Γ H (σ.set g none) σV:=by
 have up:∀ {i:Nat} {s:Sl},(σ.set g none)[i]? = some (some s)->σ[i]? = some (some s):=λ{i s} h=>by
  rcases bD h with⟨z,a,_⟩ | ⟨z,a⟩;cases a;exact a
 exact⟨λi s e=>ok.rel i s (up e),λi j s t q n b c=>ok.dis i j s t q n (up b) (up c),λi s q e=>ok.own i s q (up e),λi s q e=>ok.par i s q (up e),ok.keep,ok.dom,by rw[a4f];exact ok.len⟩
end
noncomputable def dQ6:D->Option Key
 | .int i=>some (.inl i)
 | .str x=>some (.inr x)
 | _=>none
noncomputable def xG:List D->Option (List Key)
 | []=>some []
 | d::r=>(dQ6 d).bind λk=>(xG r).bind λks=>some (k::ks)
theorem vN:∀ {l:List D} {ks:List Key},xG l=some ks->l=ks.map yP
 | [],_,h=>by cases h;rfl
 | d::r,_,h=>by
   obtain⟨k,a,h⟩:=aC h;obtain⟨ks,b,h⟩:=aC h;cases h;rw[a6d,← vN b];cases d<;>cases a<;>rfl
theorem aC9{H:Hp}:∀ {ks:List Key} {xs:List V},Rps H (ks.map yP) xs->xs=ks.map kV
 | [],_,h=>by cases h;rfl
 | k::r,_,h=>by
   rw[a6d]at h;cases h with
   | cons a t=>rw[aC9 t,a6d];cases k<;>cases a<;>rfl
abbrev GA0:=List (List Key×List D)
noncomputable def aN4(k:List Key)(v:D):GA0->GA0
 | []=>[(k,[v])]
 | p::r=>if p.1=k then(p.1,p.2++[v])::r else p::aN4 k v r
inductive Grp(H:Hp)(n:Nat):GA0->List (List Key×V)->List Addr->Prop
 | nil:Grp H n [] [] []
 | cons {k:List Key} {vs:List D} {l:Addr} {xs:List V} {acc:GA0} {kvs:List (List Key×V)} {ls:List Addr}:H l=some (.lst xs)->Rps H vs xs->xs.length<=n->l∉ls->Grp H n acc kvs ls->Grp H n ((k,vs)::acc) ((k,.ref l)::kvs) (l::ls)
section
variable{H H':Hp}{n:Nat}
theorem Grp.keep:∀ {acc:GA0} {kvs:List (List Key×V)} {ls:List Addr},Grp H n acc kvs ls->Ext H H'->(∀ l∈ls,∀ o,H l=some o->H' l=some o)->Grp H' n acc kvs ls
 | _,_,_,.nil,_,_=>.nil
 | _,_,_,.cons a b c d t,x,k=>.cons (k _ a3a _ a) (b.mono x) c d (t.keep x λl e=>k l (a5a _ e))
theorem Grp.up:∀ {acc:GA0} {kvs:List (List Key×V)} {ls:List Addr},Grp H n acc kvs ls->Grp H (n+1) acc kvs ls
 | _,_,_,.nil=>.nil
 | _,_,_,.cons a b c d t=>.cons a b (Nat.le_succ_of_le c) d t.up
theorem Grp.soft:∀ {acc:GA0} {kvs:List (List Key×V)} {ls:List Addr},Grp H n acc kvs ls->∀ l∈ls,∃ xs,H l=some (.lst xs)
 | _,_,_,.nil,_,h=>by simp at h
 | _,_,_,.cons a b c d t,l,h=>by
   rcases a1c.mp h with rfl | h;exact⟨_,a⟩;exact t.soft l h
theorem Grp.keys:∀ {acc:GA0} {kvs:List (List Key×V)} {ls:List Addr},Grp H n acc kvs ls->kvs.map (·.1)=acc.map (·.1)
 | _,_,_,.nil=>rfl
 | _,_,_,.cons a b c d t=>by rw[a6d,a6d,t.keys]
def Grp.len{acc:GA0}{kvs:List (List Key×V)}{ls:List Addr}(h:Grp H n acc kvs ls):kvs.length=acc.length:=by have:=a3D List.length h.keys;simpa using this
theorem Grp.app{k:List Key}{d:D}{y:V}:∀ {acc:GA0} {kvs:List (List Key×V)} {ls:List Addr} {v:V},Grp H n acc kvs ls->vD kvs k=some v ->
  ∃ l xs,v=.ref l/\l∈ls/\H l=some (.lst xs)/\xs.length<=n/\(Rp (upd H l (.lst (xs++[y]))) d y->Ext H (upd H l (.lst (xs++[y])))->Grp (upd H l (.lst (xs++[y]))) (n+1) (aN4 k d acc) kvs ls)
 | _,_,_,_,.nil,h=>by cases h
 | _,_,_,_,.cons (k:=j) (l:=l) (xs:=xs) g i c a t,h=>by
   by_cases e:j=k;rw[mB e]at h;cases h;refine⟨l,xs,rfl,a3a,g,c,λr x=>?_⟩;show Grp _ _ (if j=k then _ else _) _ _;rw[a3s e];refine .cons aJ ((i.mono x).append (.cons r .nil)) (by rw[a9a];exact Nat.succ_le_succ c) a (t.up.keep x λb hb o q=>?_);rw[aG (show b≠l from λz=>a (by rw[← z];exact hb))];exact q;rw[mD e]at h;obtain⟨m,f,s,p,u,w,A⟩:=t.app (d:=d) (y:=y) h;refine⟨m,f,s,a5a _ p,u,w,λr x=>?_⟩;show Grp _ _ (if j=k then _ else _) _ _;rw[a3u e];exact .cons (by rw[aG (show l≠m from λz=>a (by rw[z];exact p))];exact g) (i.mono x) (Nat.le_succ_of_le c) a (A r x)
theorem Grp.more{k:List Key}{l:Addr}(a:H l=some (.lst [])):∀ {acc:GA0} {kvs:List (List Key×V)} {ls:List Addr},Grp H n acc kvs ls->l∉ls->Grp H n (acc++[(k,[])]) (kvs++[(k,.ref l)]) (ls++[l])
 | _,_,_,.nil,_=>.cons a .nil (a2d _) (by simp) .nil
 | _,_,_,.cons b c d e t,h=>.cons b c d (by
   intro z;rcases a3c.mp z with z | z;exact e z
   ·cases a1b.mp z;exact h a3a) (t.more a λz=>h (a5a _ z))
theorem aL8{k:List Key}{d:D}:∀ {acc:GA0},k∉acc.map (·.1)->aN4 k d (acc++[(k,[])])=aN4 k d acc
 | [],_=>by simp[aN4]
 | p::r,h=>by
   have e:¬ p.1=k:=λz=>h (by simp[z]);show(if p.1=k then _ else _)=(if p.1=k then _ else _);rw[a3u e,a3u e];exact a3D (p :: ·) (aL8 λz=>h (by simp at z ⊢;exact .inr z))
theorem aX9{k:List Key}:∀ {kvs:List (List Key×V)},vD kvs k=none->k∉kvs.map (·.1)
 | [],_=>by simp
 | p::r,h=>by
   by_cases e:p.1=k;rw[mB e]at h;cases h;rw[mD e]at h;intro z;rcases a1c.mp z with z | z;exact e z.symm;exact aX9 h z
theorem aY0{k:List Key}{v:V}:∀ {kvs:List (List Key×V)},vD kvs k=none->vD (kvs++[(k,v)]) k=some v
 | [],_=>mB rfl
 | p::r,h=>by
   by_cases e:p.1=k;rw[mB e]at h;cases h;rw[mD e]at h;rw[List.cons_append,mD e];exact aY0 h
end
noncomputable def dG5:Res->Option (List Key)
 | .val (.tup l)=>xG l
 | _=>none
noncomputable def dT0:List D->Option D
 | [v]=>some v
 | _=>none
noncomputable def cQ9(row:Nat)(b:DE)(c:DA):List D->GA0->Sg->Option (GA0×Sg)
 | [],acc,σ=>some (acc,σ)
 | d::r,acc,σ=>(dgN row d σ).bind λa=>(b a).bind λx=>(dG5 x.1).bind λk=>(c x.2).bind λy=>(vals y.1).bind λe=>(dT0 e).bind λv=>cQ9 row b c r (aN4 k v acc) y.2
noncomputable def cF5(acc:GA0):D:=.dic (acc.map λp=>.tup (p.1.map yP)) (acc.map λp=>.lst p.2)
open Classical in
noncomputable def cU6(g row:Nat)(ri:DI)(a:DE)(b:DA):DS:=λσ=>if σ[g]? = some none then(ri (σ.set g (some SG))).bind λx=>
 if x.2.1=none/\x.2.2[g]? = some (some SG)/\x.1.length < 4000 then(cQ9 row a b x.1 [] (x.2.2.set g none)).bind λy=>some (.rt (.own (cF5 y.1)) (y.2.set g none))else none else none
def tFQ(t:TE):TE:=λσ H Q=>t σ H λv a=>FQ (Q v) a
def dQ7{X:Cx}{e:Expr}{t:TE}(h:PE X e t):PE X e (tFQ t):=λpins s σ H Q I q=>
 thn (h pins s σ H _ I q) λu s1 ⟨v,a,b,d,f⟩=>by
  suffices ∀ a,FQ (Q v) a->Inv X pins σ a s1->∃ v c,Inv X pins σ c s1/\eA v u/\Q v c from this a f b
  intro a q b
  induction q with
  | done q=>exact⟨v,_,b,d,q⟩
  | step g i _ j=>
    obtain⟨o,k⟩:=bJ5 b g i;exact j o k
theorem cF6{Q:Hp->Prop}:∀ {ls:List Addr} {H:Hp},(∀ l∈ls,∃ xs,H l=some (.lst xs))->ls.Nodup->(∀ H',(∀ a,a∉ls->H' a=H a)->(∀ l∈ls,∀ xs,H l=some (.lst xs)->∃ o,H' l=some (.frz o (.lst xs)))->Q H')->FQ Q H
 | [],H,_,_,q=>.done (q H (λ_ _=>rfl) λl h=>by simp at h)
 | l::ls,H,h,nd,q=>by
   obtain⟨xs,e⟩:=h l a3a;obtain⟨n1,n2⟩:=a9h.mp nd;have ne:∀ b∈ls,b≠l:=λb hb z=>n1 (z ▸ hb);refine .step e True.intro λo=>cF6 (ls:=ls) (λb hb=>?_) n2 λH' d f=>q H' (λa ha=>?_) λb hb ys c=>?_;obtain⟨ys,c⟩:=h b (a5a _ hb);exact⟨ys,by rw[aG (ne b hb)];exact c⟩;rw[d a λz=>ha (a5a _ z),aG (show a≠l from λz=>ha (by rw[z];exact a3a))];rcases a1c.mp hb with rfl | hb;rw[e]at c;cases c;exact⟨o,by rw[d b n1,aJ]⟩;exact f b hb ys (by rw[aG (ne b hb)];exact c)
theorem Grp.nodup{H:Hp}{n:Nat}:∀ {acc:GA0} {kvs:List (List Key×V)} {ls:List Addr},Grp H n acc kvs ls->ls.Nodup
 | _,_,_,.nil=>.nil
 | _,_,_,.cons _ _ _ h t=>a9h.mpr ⟨h,t.nodup⟩
theorem Grp.rps{H H':Hp}{n:Nat}(x:Ext H H'):∀ {acc:GA0} {kvs:List (List Key×V)} {ls:List Addr},Grp H n acc kvs ls->(∀ l∈ls,∀ xs,H l=some (.lst xs)->∃ o,H' l=some (.frz o (.lst xs)))->Rps H' (acc.map λp=>.lst p.2) (kvs.map (·.2))
 | _,_,_,.nil,_=>.nil
 | _,_,_,.cons a b _ _ t,k=>by
   obtain⟨o,e⟩:=k _ a3a _ a;exact .cons (.lst e (b.mono x)) (t.rps x λl c=>k l (a5a _ c))
theorem bZ0{σ:Sg}{g:Nat}{x:Option Sl}(h:σ[g]? = some x):σ.set g x=σ:=by
 apply a5i;intro i;by_cases z:i=g;subst z;rw[h,a6b (a1a.mp h).1];rw[a4a (a5d z)]
def dG6{Γ:Gm}{H:Hp}{σ:Sg}{σV:St}{p:Addr}(ok:StOk Γ H σ σV)(h:H p=none):¬ aV0 σ σV p:=λz=>by
 obtain⟨o,e,_⟩:=ok.mutObj z;rw[h]at e;cases e
def _root_.L2.DTa.keep{H H':Hp}{p:Addr}{kvs:List (List Key×V)}(h:DTa H p kvs)(k:∀ o,H p=some o->H' p=some o):DTa H' p kvs:=h.imp (k _) λh=>⟨k _ h.1,h.2⟩
theorem _root_.L2.DTa.some{H:Hp}{p:Addr}{kvs:List (List Key×V)}(h:DTa H p kvs):∃ o,H p=some o/\Fz o:=h.elim (λh=>⟨_,h,True.intro⟩) λh=>⟨_,h.1,True.intro⟩
def _root_.L2.DTa.isD{H:Hp}{p:Addr}{kvs:List (List Key×V)}(h:DTa H p kvs):IsD H p:=h.elim (λh=>.inr ⟨_,.inl h⟩) λh=>.inl ⟨_,.inl h.1⟩
def bZ1{Γ:Gm}{E:Ex}{K:W.Frag}{g row:Nat}{ri:DI}{rk:DE}{ra:DA}{D:Ends}{σV:St}{H:Hp}(hne:row≠g)(h:dTS Γ E (cU6 g row ri rk ra) D σV H) :
  cT3 (bS4 bJ0 (nD g)) (cT3 (cT4 (dTI Γ ri) (nD row) (bF2 (tBM K "list" vX (dQ5 (aT6 g) (dTE Γ rk) (dK6 cY6)) (dTA Γ ra)))) (dK4 (tFQ (aT6 g)))) D σV H:=by
 obtain⟨σ,ok,o,e,k⟩:=h;unfold cU6 at e;split at e
 case isFalse=>cases e
 rename_i hg;obtain⟨⟨items,l,n⟩,e1,e⟩:=aC e;dsimp only at e;split at e
 case isFalse=>cases e
 rename_i hz;obtain⟨rfl,O,hz⟩:=hz;obtain⟨⟨acc,A⟩,e2,e⟩:=aC e;cases e;intro p hp;have gl:g < σV.length:=by rw[← ok.len];exact(a1a.mp hg).1
 have h0:=ok.dom p hp;have okP:gF σ g=true:=by unfold gF;rw[hg]
 have sm:zZ H (upd H p (.dT [])):=bO hp;have ok1:StOk Γ (upd H p (.dT [])) (σ.set g (some SG)) (σV.set g (some (.ref p))):=(ok.same sm).putOwn okP ⟨_,[],aJ,⟨rfl,rfl⟩,.nil⟩ (dG6 ok hp) h0;have st1:Step σ σV H (σ.set g (some SG)) (σV.set g (some (.ref p))) (upd H p (.dT [])):=(Step.same sm).put okP .own (.inr ⟨rfl,λq e=>by cases e;exact hp⟩);have vg:(σV.set g (some (.ref p)))[g]? = some (some (.ref p)):=by rw[a6b gl]
 unfold nD cT3;dsimp only;generalize σV.set g (some (.ref p))=f at ok1 st1 vg ⊢;refine⟨_,ok1,items,none,n,e1,λJ G P oka sta itd stay=>?_⟩;have mp:jJ n f p:=⟨g,SG,O,rfl,vg⟩;have dta:DTa G p []:=by
  obtain⟨v,ev,rv⟩:=oka.rel g SG O;rw[vg]at ev;cases ev;obtain⟨_,q,u,ws,hu,du,_⟩:=rv;cases q;cases u with
  | dK kvs=>exact .inr ⟨by rw[hu,List.map_eq_nil_iff.mp du.1.symm],rfl⟩
  | dT kvs=>exact .inl (by rw[hu,List.map_eq_nil_iff.mp du.1.symm])
  | _=>exact du.elim
 have hid0:Hid Γ (n.set g none) f p:=⟨λ⟨i,s,h1,h2,h3⟩=>by
  rcases bD h1 with⟨z,I,_⟩ | ⟨z,I⟩;cases I;exact oka.dis g i SG s p (a5d z) O I rfl h2 vg h3,h0⟩
 have gl1:g < n.length:=(a1a.mp O).1;refine⟨λi m σV2 Q=>m=items.length-i/\i<=items.length/\∃ c a2 kvs ls,cQ9 row rk ra (items.drop i) a2 c=some (acc,A)/\StOk Γ Q c σV2/\Step n f G (c.set g (some SG)) σV2 Q/\σV2[g]? = some (some (.ref p))/\DTa Q p kvs/\Grp Q i a2 kvs ls/\p∉ls/\(∀ q,q=p\/q∈ls->Hid Γ c σV2 q)/\(∀ q∈ls,G q=none)/\a2.length<=i,
  ⟨_,rfl,a2d _,n.set g none,[],[],[],by simpa using e2,oka.forget,by rw[List.set_set,bZ0 O];exact .refl,vg,dta,.nil,by simp,λq hq=>by rcases hq with rfl | hq;exact hid0;simp at hq,by simp,a6a _⟩,?_⟩
 rintro i m σV2 Q ⟨rfl,hi,c,a2,kvs,ls,ef,ok2,st2,vg2,dt2,gr,pn,hq,hla,al⟩;have hP:P Q:=stay _ σV2 Q st2;by_cases R:i < items.length
 ·have ei:items[i]? = some items[i]:=a0a R;refine .inr ⟨itd.go Q i _ hP ei,λσV3 X=>∃ m',m' < items.length-i/\m'=items.length-(i+1)/\i+1<=items.length/\∃ c a2 kvs ls,cQ9 row rk ra (items.drop (i+1)) a2 c=some (acc,A)/\StOk Γ X c σV3/\Step n f G (c.set g (some SG)) σV3 X/\σV3[g]? = some (some (.ref p))/\DTa X p kvs/\Grp X (i+1) a2 kvs ls/\p∉ls/\(∀ q,q=p\/q∈ls->Hid Γ c σV3 q)/\(∀ q∈ls,G q=none)/\a2.length<=i+1,λσ' H' q=>q,λy X hy=>?_⟩;obtain⟨S,ry⟩:=itd.yld Q i _ y X hP ei hy;rw[List.drop_eq_getElem_cons R]at ef;obtain⟨σ3,eg,ef1⟩:=aC ef;obtain⟨⟨xk,x⟩,ek,ef2⟩:=aC ef1;obtain⟨F,T,ef3⟩:=aC ef2;obtain⟨⟨ys,σ5⟩,ea,ef4⟩:=aC ef3;obtain⟨ds,evs,ef5⟩:=aC ef4;obtain⟨vd,Y,ef6⟩:=aC ef5;clear ef ef1 ef2 ef3 ef4 ef5;dsimp only at T ea evs ef6;unfold dgN at eg;split at eg
  case isFalse=>cases eg
  rename_i okr;cases eg;have okr':gF (c.set g (some SG)) row=true:=by unfold gF;rw[a4a (a5d hne)];exact okr
  have M:=(ok2.same S).put okr ry;have Z:=(st2.trans (.same S)).put (v:=y) (d:=items[i]) okr' .val (.inl rfl);rw[List.set_comm _ _ (a5d hne)]at Z;have B:(σV2.set row (some y))[g]? = some (some (.ref p)):=by rw[a4a hne];exact vg2
  have hq3:∀ q,q=p\/q∈ls->Hid Γ (c.set row (some ⟨.val,items[i]⟩)) (σV2.set row (some y)) q:=λq h=>⟨λ⟨j,s,h1,h2,h3⟩=>by
   rcases bD h1 with⟨z,I,_⟩ | ⟨z,I⟩;cases I;exact h2 rfl;exact(hq q h).nv ⟨j,s,I,h2,by rw[a4a (a5d z)]at h3;exact h3⟩,(hq q h).h0⟩
  have gl2:g < (c.set row (some ⟨.val,items[i]⟩)).length:=by rw[M.len];exact(a1a.mp B).1
  unfold bF2;dsimp only;generalize σV2.set row (some y)=σV3 at M Z B hq3 ⊢;generalize c.set row (some ⟨.val,items[i]⟩)=σ3 at M Z hq3 ek gl2;have gr3:Grp X i a2 kvs ls:=gr.keep (.same S) λl _ o e=>S l o e;have dt3:DTa X p kvs:=dt2.keep λo e=>S p o e;refine⟨.ref p,B,p,rfl,dt3.isD,σ3,M,xk,x,ek,λvk H4 U rk4 st4 f4=>⟨a2d _,λl N=>?_⟩⟩;have kp4:∀ q,q=p\/q∈ls->∀ o,X q=some o->H4 q=some o:=λq h o e=>((hq3 q h).step st4 e).2;have hq4:∀ q,q=p\/q∈ls->Hid Γ x σV3 q:=λq h=>by
   have:∃ o,X q=some o:=by
    rcases h with rfl | h;obtain⟨o,e,_⟩:=dt3.some;exact⟨o,e⟩;obtain⟨xs,e⟩:=gr3.soft q h;exact⟨_,e⟩
   obtain⟨o,e⟩:=this;exact((hq3 q h).step st4 e).1
  have st4':Step n f G (x.set g (some SG)) σV3 H4:=Z.trans (st4.wide gl2 (by rw[U.len,M.len]) B B);have ext4:=st4.ext M;have gr4:Grp H4 i a2 kvs ls:=gr3.keep ext4 λl N=>kp4 l (.inr N);have dt4:DTa H4 p kvs:=dt3.keep (kp4 p (.inl rfl));obtain⟨b,rfl,hb⟩:∃ b,vk=.ref b/\H4 b=some (.tup (F.map kV)):=by
   unfold dG5 at T;split at T
   ·have rk4:Rp H4 (.tup _) vk:=rk4;cases rk4 with
    | tup h r=>rw[vN T]at r;rw[aC9 r]at h;exact⟨_,rfl,h⟩
   ·cases T
  have lp:l≠p:=λz=>by obtain⟨o,e,_⟩:=dt4.some;rw[z,e]at N;cases N
  have lls:l∉ls:=λz=>by obtain⟨xs,e⟩:=gr4.soft l z;rw[e]at N;cases N
  have s5:zZ H4 (upd H4 l (.lst [])):=bO N;have hidl:Hid Γ x σV3 l:=⟨dG6 U N,U.dom l N⟩;have hal:G l=none:=st4'.dom l N;have gr5:Grp (upd H4 l (.lst [])) i a2 kvs ls:=gr4.keep (.same s5) λq _ o e=>s5 q o e;have dt5:DTa (upd H4 l (.lst [])) p kvs:=dt4.keep λo e=>s5 p o e;have st5:Step n f G (x.set g (some SG)) σV3 (upd H4 l (.lst [])):=st4'.hid (.inl hal)
  -- behind setdefault
  have fin:∀ (H6:Hp) (a6:GA0) (w:List (List Key×V)) (C:List Addr) (v:V),StOk Γ H6 x σV3->Step n f G (x.set g (some SG)) σV3 H6->DTa H6 p w->Grp H6 i a6 w C->p∉C->(∀ q,q=p\/q∈C->Hid Γ x σV3 q)->(∀ q∈C,G q=none)->vD w F=some v->aN4 F vd a6=aN4 F vd a2->a6.length<=i+1 ->
    tyV K "list" v H6/\dTA Γ ra σV3 H6 λxs H7=>vX v xs H7 λ_ H8=>∃ m',m' < items.length-i/\m'=items.length-(i+1)/\i+1<=items.length/\∃ c a2 kvs ls,cQ9 row rk ra (items.drop (i+1)) a2 c=some (acc,A)/\StOk Γ H8 c σV3/\Step n f G (c.set g (some SG)) σV3 H8/\σV3[g]? = some (some (.ref p))/\DTa H8 p kvs/\Grp H8 (i+1) a2 kvs ls/\p∉ls/\(∀ q,q=p\/q∈ls->Hid Γ c σV3 q)/\(∀ q∈ls,G q=none)/\a2.length<=i+1:=by
   intro H6 a6 w C v ok6 st6 dt6 gr6 pn6 hq6 hla6 hv eg6 al6;obtain⟨l6,xs6,rfl,m6,hl6,hx6,_⟩:=gr6.app (d:=vd) (y:=.non) hv;refine⟨.inl ⟨rfl,xs6,SqL.of hl6⟩,x,ok6,ys,σ5,ea,λus H7 ok7 r7 st7 f7=>?_⟩;have ry7:=nK r7 evs;obtain⟨y7,rfl,r1⟩:∃ y7,us=[y7]/\Rp H7 vd y7:=by
    unfold dT0 at Y;split at Y
    ·cases Y;cases ry7 with
     | cons a t=>cases t;exact⟨_,rfl,a⟩
    ·cases Y
   have kp7:∀ q,q=p\/q∈C->∀ o,H6 q=some o->H7 q=some o:=λq h o e=>((hq6 q h).step st7 e).2;have hq7:∀ q,q=p\/q∈C->Hid Γ σ5 σV3 q:=λq h=>by
    have:∃ o,H6 q=some o:=by
     rcases h with rfl | h;obtain⟨o,e,_⟩:=dt6.some;exact⟨o,e⟩;obtain⟨xs,e⟩:=gr6.soft q h;exact⟨_,e⟩
    obtain⟨o,e⟩:=this;exact((hq6 q h).step st7 e).1
   have gr7:Grp H7 i a6 w C:=gr6.keep (st7.ext ok6) λl N=>kp7 l (.inr N);have dt7:DTa H7 p w:=dt6.keep (kp7 p (.inl rfl));obtain⟨l7,xs7,q7,m7,hl7,hx7,app⟩:=gr7.app (d:=vd) (y:=y7) hv;cases q7;have sf:cF4 H7 l6:=.inr ⟨_,hl7,True.intro⟩;have lp7:l6≠p:=λz=>pn6 (z ▸ m7);have gl4:g < x.length:=by rw[ok6.len];exact(a1a.mp B).1
   refine⟨l6,xs7,y7,rfl,rfl,hl7,a1j hx7 (a4c (a3h R hz) (by decide)),_,by lia,rfl,R,σ5,aN4 F vd a6,w,C,?_,ok7.hid (hq7 l6 (.inr m7)) sf,(st6.trans (st7.wide gl4 (by rw[ok7.len,ok6.len]) B B)).hid (.inl (hla6 l6 m7)),B,dt7.keep λo e=>by rw[aG (a5d lp7)];exact e,app (r1.mono sf.ext) sf.ext,pn6,hq7,hla6,?_⟩;rw[eg6];exact ef6;have:=(app (r1.mono sf.ext) sf.ext).len;have:=gr7.len;lia
  refine⟨kvs,F,b,dt5,rfl,s5 b _ hb,?_,λv hv=>?_,λhv=>?_⟩;have:=gr4.len;exact a1j (by lia) (a4c (a3h R hz) (by decide));exact fin _ a2 kvs ls v (U.same s5) st5 dt5 gr5 pn hq4 hla hv rfl (by lia);have sp:cF4 (upd H4 l (.lst [])) p:=.inr dt5.some;have kl:∀ q∈ls++[l],q≠p:=λq h z=>by
   rcases a3c.mp h with h | h;exact pn (z ▸ h);exact lp (by rw[← a1b.mp h];exact z)
  refine fin _ (a2++[(F,[])]) (kvs++[(F,.ref l)]) (ls++[l]) (.ref l) ((U.same s5).hid (hq4 p (.inl rfl)) sp) (st5.hid (.inr mp)) (.inl aJ) ((gr5.more aJ lls).keep sp.ext λq h o e=>by rw[aG (kl q h)];exact e) (λz=>kl p z rfl) (λq h=>?_) (λq h=>?_) (aY0 hv) (aL8 (by rw[← gr4.keys];exact aX9 hv)) (by rw[a9a];exact Nat.succ_le_succ al);rcases h with h | h;exact hq4 q (.inl h);rcases a3c.mp h with h | h;exact hq4 q (.inr h);cases a1b.mp h;exact hidl;rcases a3c.mp h with h | h;exact hla q h;cases a1b.mp h;exact hal
 ·have e0:i=items.length:=by lia
  subst e0;rw[List.drop_length]at ef;cases ef;refine .inl ⟨itd.stop Q hP,_,vg2,cF6 gr.soft gr.nodup λH' k1 k2=>?_⟩;have gL:∀ a,a∈ls->Hid Γ A σV2 a/\cF4 Q a:=λa h=>by obtain⟨xs,e⟩:=gr.soft a h;exact⟨hq a (.inr h),.inr ⟨_,e,True.intro⟩⟩
  have ex:=aC8 (L:=(· ∈ ls)) (λa h=>(gL a h).2) k1;have ok':StOk Γ H' (A.set g none) σV2:=(ok2.hids (L:=(· ∈ ls)) gL k1).forget;have st':Step n f G (A.set g (some SG)) σV2 H':=st2.hids (L:=(· ∈ ls)) (λa h=>⟨.inl (hla a h),by obtain⟨xs,e⟩:=gr.soft a h;obtain⟨o,e'⟩:=k2 a h xs e;rw[e'];exact λz=>nomatch z⟩) k1;have st'':Step σ σV H (A.set g none) σV2 H':=by
   have:=(st1.trans sta).trans st';rw[show A.set g (some SG)=(A.set g none).set g (some SG) by rw[List.set_set]]at this;refine this.drop hg λs z=>?_;rcases bD z with⟨_,I,_⟩ | ⟨z1,_⟩;cases I;exact z1 rfl
  refine k (.ref p) σV2 H' ok' ⟨p,rfl,?_,λ⟨j,s,h1,h2,h3⟩=>?_,h0⟩ st''
  ·have rp:=gr.rps ex k2;have dt':DTa H' p kvs:=dt2.keep λo e=>by rw[k1 p pn];exact e
   have kk:acc.map (λp=>Dv.D.tup (p.1.map yP))=kvs.map λkv=>Dv.D.tup (kv.1.map yP):=by
    have:=a3D (List.map λl:List Key=>Dv.D.tup (l.map yP)) gr.keys;simpa[List.map_map,Function.comp_def]using this.symm
   rcases dt' with e | ⟨e,rfl⟩;exact⟨_,_,e,⟨kk,rfl⟩,rp⟩;refine⟨_,[],e,⟨kk,rfl⟩,rp⟩
  ·rcases bD h1 with⟨_,I,_⟩ | ⟨_,I⟩;cases I;exact(hq p (.inl rfl)).nv ⟨j,s,I,h2,h3⟩
def cR0{X:Cx}{E:Ex}{K:W.Frag}{g row:Nat}{a b c:Stmt}{ri:DI}{e:DE}{f:DA}(d:row≠g)(i:PS X a (bS4 bJ0 (nD g)))
  (j:∀ Γ,PS X b (cT4 (dTI Γ ri) (nD row) (bF2 (tBM K "list" vX (dQ5 (aT6 g) (dTE Γ e) (dK6 cY6)) (dTA Γ f))))) (k:PS X c (dK4 (tFQ (aT6 g)))):GSs E X [a,b,c] (cU6 g row ri e f):=
 .mk λΓ=>cT6 (cK i (cK (j Γ) (gD k))) λD σV H h=>bZ1 d h
end Dv
namespace PySem
open Sem (wp)
section
variable{prog:Program}{w:World}{A:Around}{E:Value->Shared->Prop}
end
section
variable{prog:Program}{w:World}{A:Around}{E:Value->Shared->Prop}{R:Result->Shared->Prop}{d I:Addr}{fp:List Addr}{n:Nat}{P:Nat->Value->Prop}{St:Nat->Heap->Prop}{κ:Type}[DecidableEq κ]{knd:KeyKind prog w κ}
end
section
variable{prog:Program}{w:World}{A:Around}{E:Value->Shared->Prop}{κ:Type}[DecidableEq κ]{knd:KeyKind prog w κ}
end
end PySem
namespace L2
open PySem PySem.Spec PyProof.Rows
end L2
namespace Dv
open PySem L2 Mr
end Dv
namespace L2
open PySem PySem.Spec PyProof.Rows
def RdT(H:Hp)(a:Addr)(kvs:List (List Key×V)):Prop:=Rd H a (.dT kvs)\/Rd H a (.dK [])/\kvs=[]
def dG7{P:Program}{w:World}{H:Hp}{h:Heap}{a:Addr}{kvs:List (List Key×V)}(ok:HOk P w H h)(e:RdT H a kvs):(a==sysModules)=false/\∃ xs,KT H kvs xs/\h.DictOfH (tupleKind (dI P w)) a xs:=by
 rcases e with e | ⟨e,rfl⟩;obtain⟨_,hd,xs,rel,c⟩:=cL9 ok e;exact⟨hd,xs,rel,c⟩;obtain⟨_,hd,vs,rel,c⟩:=cL8 ok e;cases rel;obtain⟨o,es,ep,d,f,b,k,g,hn⟩:=c;have i:es.toList=[]:=a0d g.length;exact⟨hd,[],.nil,o,es,ep,d,f,b,by rw[i];rfl,λx j=>by simp at j,.nil⟩
section
variable{X:Cx}{pins:List (Addr×Obj)}{σ:St}{H:Hp}{s:Shared}{a b:Addr}{z v:V}{r:Value}{kvs:List (List Key×V)}{k:List Key}{A:Around}{E:Value->Shared->Prop}
def dG8{Q:Value->Shared->Prop}(f:A.units+1 < cLine)(I:Inv X pins σ H s)(e:RdT H a kvs)(g:H b=some (.tup (k.map kV)))(i:eA z r)(h:∀ c s',Inv X pins σ H s'->eA ((vD kvs k).getD z) c->Q c s') :
  wpAny (model X.prog X.w) A (call (.builtin "dict.get") [.ref a,.ref b,r]) Q E s:=by
 obtain⟨hd,xs,rel,d⟩:=dG7 I.hok e;exact call_meetsIn F.slot_dict_get d.typeIs F.entry_dict_get (F.args_dict_get_3 _ _ _) (meetsH_dict_get_default (tupleKind (dI X.prog X.w)) a b hd r) ⟨tupleKind_room_in1 f,k,xs,bI9 I.hok g,d,h _ _ (I.tok _) ((rel.val k).getD i)⟩
end
def dQ8(d ty tx:TE):TE:=λσ H Q=>d σ H λx c=>∃ a,x=.ref a/\IsD c a/\ty σ c λy e=>tx σ e λz H3=>∃ kvs k b,RdT H3 a kvs/\y=.ref b/\H3 b=some (.tup (k.map kV))/\Q ((vD kvs k).getD z) H3
def cR1{X:Cx}{o e f:Expr}{apos cpos:Pos}{c ty tx:TE}(i:X.A.units+1 < cLine)(j:PE X o c)(l:PE X e ty)(n:PE X f tx)(m:M2 X o "get" apos e f cpos):PE X (.Call (.Attribute o "get" apos) [e,f] [] cpos) (dQ8 c ty tx):=by
 intro pins s σ H Q I h;refine wpAny_Call_method m.base m.few m.line F.plainAttrs_dict F.slot_dict_get F.type_dict_get (thn (j pins s σ H _ I h) λu s1 Z0=>?_);obtain⟨x,p,g,q,a,ex,d,r⟩:=Z0;subst ex;obtain rfl:u=Value.ref a:=q;obtain⟨t,v,_⟩:=cD5 g d;refine⟨t,v,?_⟩;rw[m.trees];refine Calls.callWith_builtin rfl (Calls.evalArgs_plain (Calls.spliced_cons (thn (l pins s1 σ p _ g r) λw s2 ⟨y,B,C,D,E⟩=>Calls.spliced_cons (thn (n pins s2 σ B _ C E) λS T ⟨z,G,J,K,kvs,k,b,L,M,N,O⟩=>Calls.spliced_nil ?_))));subst M;obtain rfl:w=Value.ref b:=D;exact dG8 i J L N K λU V P R=>⟨_,G,P,R,O⟩
end L2
namespace Dv
open PySem L2
noncomputable def bO6:List D->List D->List Key->Option (Option D)
 | [],[],_=>some none
 | .tup l::ks,v::vs,k=>(xG l).bind λj=>if j=k then some (some v)else bO6 ks vs k
 | _,_,_=>none
theorem aY1{H:Hp}{k:List Key}{r:Option D}:∀ {kvs:List (List Key×V)} {vs:List D},Rps H vs (kvs.map (·.2))->bO6 (kvs.map λc=>D.tup (c.1.map yP)) vs k=some r ->
  (r=none/\vD kvs k=none)\/∃ d x,r=some d/\vD kvs k=some x/\Rp H d x
 | [],_,.nil,e=>by cases e;exact .inl ⟨rfl,rfl⟩
 | p::kvs,_,.cons a t,e=>by
   obtain⟨j,g,e⟩:=aC e;have i:p.1=j:=by
    have:=vN g;have inj:∀ {x y:List Key},x.map yP=y.map yP->x=y:=λ{x y} h=>by
     refine(List.map_inj_right (f:=yP) λa b h=>?_).mp h;cases a<;>cases b<;>cases h<;>rfl
    exact inj this
   subst i;split at e;rename_i h;cases e;exact .inr ⟨_,_,rfl,mB h,a⟩;rename_i h;rw[mD h];exact aY1 t e
def cF7{H:Hp}{ks vs:List D}{v:V}(h:Vw H (.dic ks vs) v):∃ a u ws,v=.ref a/\Rd H a u/\cM2 u ks ws/\Rps H vs ws:=by
 rcases h with h | ⟨p,rfl,u,ws,b,c,d⟩
 ·cases h with
  | dic b c d=>exact⟨_,_,_,rfl,.inr ⟨_,b⟩,c,d⟩
 ·exact⟨p,u,ws,rfl,.inl b,c,d⟩
def dG9{H:Hp}{ks vs:List D}{v:V}(h:Vw H (.dic ks vs) v):∃ a,v=.ref a/\IsD H a:=by
 obtain⟨a,u,ws,rfl,b,c,_⟩:=cF7 h;refine⟨a,rfl,?_⟩;cases u with
 | dK kvs=>exact .inl ⟨kvs,b⟩
 | dT kvs=>exact .inr ⟨kvs,b⟩
 | _=>exact c.elim
def cR2{H:Hp}{ks vs:List D}{v:V}{k:List Key}{r:Option D}(h:Vw H (.dic ks vs) v)(e:bO6 ks vs k=some r):∃ a kvs,v=.ref a/\RdT H a kvs/\((r=none/\vD kvs k=none)\/∃ d x,r=some d/\vD kvs k=some x/\Rp H d x):=by
 obtain⟨a,u,ws,rfl,f,b,c⟩:=cF7 h;cases u with
 | dT kvs=>
   obtain⟨rfl,rfl⟩:=b;exact⟨a,kvs,rfl,.inl f,aY1 c e⟩
 | dK kvs=>
   obtain⟨rfl,rfl⟩:=b;cases kvs with
   | nil=>cases c;cases e;exact⟨a,[],rfl,.inr ⟨f,rfl⟩,.inl ⟨rfl,rfl⟩⟩
   | cons p r=>
     obtain⟨j,_⟩:=p;cases c with
     | cons _ _=>cases j<;>cases e
 | _=>exact b.elim
def dH0{H:Hp}{l:List D}{v:V}{k:List Key}(h:Vw H (.tup l) v)(e:xG l=some k):∃ b,v=.ref b/\H b=some (.tup (k.map kV)):=by
 rcases h with h | ⟨p,rfl,h⟩
 ·cases h with
  | tup h r=>rw[vN e]at r;rw[aC9 r]at h;exact⟨_,rfl,h⟩
 ·exact h.elim
noncomputable def cR3:D->Bool
 | .dic _ _=>true
 | _=>false
noncomputable def dL8:D->D->Option (Option D)
 | .dic ks vs,.tup l=>(xG l).bind λk=>bO6 ks vs k
 | _,_=>none
noncomputable def bO7(a b c:DE):DE:=λσ=>(a σ).bind λx=>(rd x.2 x.1).bind λf=>if cR3 f=true then(b x.2).bind λy=>(c y.2).bind λz=>(rd z.2 x.1).bind λd=>(rd z.2 y.1).bind λe=>(dL8 d e).bind λr=>some ((match r with | some v=>.val v | none=>z.1),z.2)else none
def cR4{X:Cx}{o e f:Expr}{E F G:DE}{apos cpos:Pos}(O:X.A.units+1 < cLine)(P:GE X o E)(R:GE X e F)(S:GE X f G)(m:M2 X o "get" apos e f cpos):GE X (.Call (.Attribute o "get" apos) [e,f] [] cpos) (bO7 E F G):=.mk λΓ=>peW (cR1 O (P.to Γ) (R.to Γ) (S.to Γ) m) λσV H Q ⟨σ,ok,res,σ',c,k⟩=>by
 obtain⟨⟨x,t⟩,T,c⟩:=aC c;obtain⟨U,I,c⟩:=aC c;dsimp only at I c;split at c
 case isFalse=>cases c
 rename_i hd;obtain⟨⟨y,B⟩,V,c⟩:=aC c;obtain⟨⟨z,D⟩,J,c⟩:=aC c;obtain⟨d,K,c⟩:=aC c;obtain⟨e',L,c⟩:=aC c;obtain⟨r,s,c⟩:=aC c;cases c;dsimp only at J K L k;refine⟨σ,ok,x,t,T,λv W i M C f1=>?_⟩;have Y:=M.vw i I;obtain⟨a,rfl,ha⟩:∃ a,v=.ref a/\IsD W a:=by
  cases U with
  | dic ks vs=>exact dG9 Y
  | _=>cases hd
 refine⟨a,rfl,ha,t,i,y,B,V,λw H2 l Z n f2=>⟨B,l,z,D,J,λu N g r3 p f3=>?_⟩⟩;have vx:=((M.step i n).step l p).vw g K;have vy:=(Z.step l p).vw g L;unfold dL8 at s;split at s;obtain⟨j,g1,s⟩:=aC s;obtain⟨b,rfl,hb⟩:=dH0 vy g1;obtain⟨a',kvs,q,hq,h⟩:=cR2 vx s;cases q;refine⟨kvs,j,b,hq,rfl,hb,?_⟩;have st:=(C.trans n).trans p;rcases h with⟨rfl,h⟩ | ⟨d,x,rfl,h,rp⟩;rw[h];exact k u N g r3 st (f3.back (C.trans n));rw[h];exact k x N g rp st eU;cases s
end Dv
namespace PySem.SeqAt
open PySem MeetsSeq MeetsSeq2 MeetsSeq3 SeqRoads2
def oZ{M:Model}{A:Around}{E:Value->Shared->Prop}{s:Shared}{a:Type}(lo hi:Nat)(f:Nat->a->Sem (ForInStep a))(I:Nat->a->Shared->Prop)(Q:a->Shared->Prop)
  (turn:∀ i b s,lo<=i->i < hi->I i b s->wpAny M A (f i b) (λr s'=>match r with | .yield c=>I (i+1) c s' | .done c=>Q c s') E s)
  (fin:∀ b s,I (max lo hi) b s->Q b s) (b:a) (h:I lo b s):wpAny M A (forIn [lo:hi] b f) Q E s:=by
 rw[Std.Legacy.Range.forIn_eq_forIn_range'];refine wpAny_forIn_list f (λl b s=>∃ i,lo<=i/\i<=max lo hi/\l=List.range' i (max lo hi-i)/\I i b s) Q ?_ ?_ _ b ⟨lo,a6a _,by lia,?_,h⟩
 ·rintro x eZ b s ⟨i,g,n,e,d⟩;cases j:max lo hi-i with
  | zero=>rw[j]at e;simp at e
  | succ m=>
    rw[j,List.range'_succ]at e;obtain⟨rfl,rfl⟩:=List.cons.inj e;refine L2.thn (turn x b s g (by lia) d) λr s' k=>?_;cases r with
    | yield c=>exact⟨x+1,by lia,by lia,by rw[show max lo hi-(x+1)=m by lia],k⟩
    | done c=>exact k
 ·rintro b s ⟨i,g,n,e,d⟩;have:i=max lo hi:=by
   have:=a3D List.length e;simp at this;lia
  subst this;exact fin b s d
 ·show List.range' lo ((hi-lo+1-1) / 1) 1=_;rw[Nat.div_one,show hi-lo+1-1=max lo hi-lo by lia]
def tuple_indexAt(l:Addr)(items:Array Value)(n:Nat)(k:Option Addr)(sl:Array (Option Value))(x:Value)(e:Value->Bool)(j:Nat)(hj:j < items.size)(hb:∀ m (hm:m < items.size),m < j->e items[m]=false)(ha:e items[j]=true) :
  Meets (Builtin.«tuple.index» ⟨[.ref l,x],[]⟩)
   (λA R s=>s.heap.get? l=some {cls:=.type "tuple",dict:=k,data:=.seq items n,slots:=sl}/\(∀ y,y∈items->EqAt A.in1 s y x (e y))/\R (.ok (.ret (.int j s.toks))) {s with toks:=s.toks+1}):=
 .of_wp λprog w A R s h=>by
  obtain⟨o,g,d,tk,os⟩:=s;obtain⟨f,p,h⟩:=h
  wp_walk using a3P f,oZ _ _ _ (λi (b:Option (PySem.Fin)×PUnit) s'=>s'=⟨o,g,d,tk,os⟩/\b=(none,⟨⟩)/\i<=j) _
  case turn=>
   rintro i b s' _ hi ⟨rfl,rfl,c⟩;have a:i < items.size:=by lia
   rw[a5c a];refine a3r (p _ (Array.getElem_mem a) prog w _ _ ?_);rcases Nat.lt_or_eq_of_le c with l | rfl
   ·rw[hb i a l]
    wp_walk
    exact⟨rfl,rfl,l⟩
   ·rw[ha]
    wp_walk
    exact⟨_,rfl,h⟩
  case fin=>
   rintro b s' ⟨_,_,f⟩;lia
  case h=>exact⟨rfl,rfl,a2d _⟩
end PySem.SeqAt
namespace L2
open PySem PySem.Spec PyProof.Rows Sx
def oE(a b:Value):argsOk "tuple.index" ⟨[a,b],[]⟩:=by
 unfold argsOk;rw[signature?_of (id:="tuple.index") (n:=['x','e','d','n','i']) (o:=['e','l','p','u','t']) (by kernel_rfl) F.owner_tuple];kernel_rfl
def bZ2{zs:List V}{us:List Value}(h:cA zs us){i:Nat}{x:V}(e:zs[i]? = some x):∃ u,us[i]? = some u/\eA x u:=by
 induction h generalizing i with
 | nil=>simp at e
 | cons a t b=>
   cases i with
   | zero=>simp at e;subst e;exact⟨_,rfl,a⟩
   | succ i=>exact b (by simpa using e)
def bO8:V->List V->Hp->VK->Prop:=λx vs H Q=>∃ (l:Addr) (a:List Str) (z:Str),x=.ref l/\vs=[.str z]/\H l=some (.tup (a.map V.str))/\z∈a/\Q (.int (a.idxOf z:Nat)) H
def aL9{X:Cx}:MtR X "tuple.index" bO8:=by
 intro pins s σ H x vs v us Q I C D h;obtain⟨l,a,z,rfl,rfl,G,J,q⟩:=h;cases C;obtain⟨u,rfl,K⟩:=D.one;obtain⟨t,rfl⟩:=K;obtain⟨_,its,r,⟨⟨oc,od,L,sl⟩,e,c,n,d⟩,_⟩:=(show dJ X.prog X.w H s.heap l (.tup (a.map V.str))from I.hok l _ G);dsimp only at c d;subst c d;have hj:a.idxOf z < a.length:=List.idxOf_lt_length_iff.mpr J;have A:its.length=a.length:=by
  have:=r.length;simpa using this.symm
 have g:∀ m (hm:m < its.toArray.size),∃ (b:m < a.length) (f:Tok),its.toArray[m]=.str a[m] f:=λm hm=>by
  have j:m < its.length:=by simpa using hm
  have b:m < a.length:=by lia
  obtain⟨u,B,M⟩:=bZ2 (i:=m) r (by rw[a0b,a0a b];rfl);obtain⟨f,rfl⟩:=M;rw[a0a j]at B;exact⟨b,f,by simpa using a7a B⟩
 refine a3R F.slot_tuple_index ⟨_,e,rfl⟩ F.entry_tuple_index (oE _ _) (SeqAt.tuple_indexAt l its.toArray n od sl (.str z t) (isZ z) (a.idxOf z) (by simp;lia) (λm hm k=>?_) ?_) ⟨e,λy N=>?_,?_⟩;obtain⟨b,f,o⟩:=g m hm;rw[o];show(a[m]==z)=false;have h:=List.not_of_lt_findIdx (p:=(· == z)) (xs:=a) k;simpa using h;obtain⟨b,f,o⟩:=g (a.idxOf z) (by simp;lia);rw[o];show(a[a.idxOf z]==z)=true;simp;obtain⟨O,f,rfl⟩:=bI4 r y (by simpa using N);exact λprog w E Q h=>eqBool_str h;exact⟨.int _,H,I.tok _,⟨_,rfl⟩,q⟩
end L2
namespace Dv
open PySem L2 Mr Sx
noncomputable def dH1:FT:=λl e=>match e with
 | .str z=>(aI8 l).bind λa=>if z∈a then some (.int (a.idxOf z:Nat))else none
 | _=>none
def aY2:dS9 bO8 dH1:=by
 intro H l xs e p y Q d b r c a k;unfold dH1 at a;split at a;obtain⟨f,g,a⟩:=aC a;split at a;rename_i h;cases a;rw[jN c];rw[aB7 g]at r;rw[r.strs_inv]at b;exact⟨p,f,_,rfl,rfl,b,h,k _ (.int _)⟩;cases a;cases a
theorem xH{zs:List Str}{z:Str}{K:D->Prop}:OK1 (dH1 (zs.map D.str) (.str z)) K=(z∈zs/\K (.int (zs.idxOf z:Nat))):=by
 show OK1 ((aI8 (zs.map D.str)).bind _) K=_;rw[aI9];show OK1 (if _ then _ else none) K=_;rw[bJ];rfl
end Dv
namespace L2
open PySem PyProof.Rows
noncomputable def dQ9(K:W.Frag)(p q:Addr):It:=
 ⟨λi H=>∃ xs ys x y,SqL K H p xs/\SqL K H q ys/\xs[i]? = some x/\ys[i]? = some y,λi H v H'=>∃ T x y,v=.ref T/\H T=none/\H'=upd H T (.tup [x,y])/\(∀ xs,SqL K H p xs->xs[i]? = some x)/\∀ ys,SqL K H q ys->ys[i]? = some y,λi H=>∃ xs ys,SqL K H p xs/\SqL K H q ys/\min xs.length ys.length=i⟩
def bO9{P:Program}{w:World}{H:Hp}{h:Heap}{T:Addr}{u v:Value}{x y:V}(a:IsPair h T u v)(b:eA x u)(c:eA y v):dJ P w (upd H T (.tup [x,y])) h T (.tup [x,y]):=
 ⟨by show 2<=sizeLine;decide,[u,v],.cons b (.cons c .nil),⟨_,a,rfl,_,rfl⟩,⟨_,a,rfl⟩⟩
def ZSt(z TI TO c d p q:Addr)(i:Nat)(h:Heap):Prop:=IsZip h z TI TO .none/\IsPair h TI (.ref c) (.ref d)/\(∃ a b,IsPair h TO a b)/\h.IsListIter c p i/\h.IsListIter d q i
def bZ3{P:Program}{w:World}{K:W.Frag}{G:List Expr}{k:Nat}{pos:Pos}{z TI TO m n p q:Addr}(D:ZipApart z TI TO m n p q) :
  Turn P w K (.Tuple G k pos) (dQ9 K p q) [z,TI,TO,m,n] z (ZSt z TI TO m n p q) where
 mem:=by simp
 obj:=λi h st b hb=>by
  obtain⟨j,d,⟨_,_,f⟩,⟨o1,e1,_,d1⟩,⟨o2,e2,_,d2⟩⟩:=st;simp only[List.mem_cons,List.not_mem_nil,or_false]at hb;rcases hb with rfl | rfl | rfl | rfl | rfl;exact⟨_,j,λv z=>by cases z⟩;exact⟨_,d,λv z=>by cases z⟩;exact⟨_,f,λv z=>by cases z⟩;exact⟨_,e1,λv z=>by rw[d1]at z;cases z⟩;exact⟨_,e2,λv z=>by rw[d2]at z;cases z⟩
 keep:=λi h h' st k=>by
  obtain⟨j,d,⟨a,b,f⟩,C,F⟩:=st;exact⟨k z (by simp) _ j,k TI (by simp) _ d,⟨a,b,k TO (by simp) _ f⟩,C.at λo e=>k m (by simp) o e,F.at λo e=>k n (by simp) o e⟩
 item:=by
  intro X N O Q g i pins s σ H E I J st R;subst N O Q;obtain⟨j,d,⟨a,b,f⟩,C,F⟩:=st;obtain⟨xs,ys,x,y,L,l,hx,hy⟩:=R;obtain⟨its,S,pl,_⟩:=I.list L;obtain⟨T,r,t,_⟩:=I.list l;obtain⟨u,hu,ru⟩:=S.get hx;obtain⟨u2,U,V⟩:=r.get hy;refine wpAny_pyNext_zip_item D j d f C F pl.isList t.isList (by rw[a6c,hu]) (by rw[a6c,U]) λh' a1 a2 a3 a4 a5 a6 M=>?_;have lt:∀ {c o},s.heap.get? c=some o->s.heap.objs.size≠c:=λe=>Nat.ne_of_gt (a8b e);have Y:s.heap.objs.size≠m:=by obtain⟨_,e,_⟩:=C;exact lt e
  have Z:s.heap.objs.size≠n:=by obtain⟨_,e,_⟩:=F;exact lt e
  refine⟨_,rfl,wpAny_letOwnedTupleGo_zip a1 λh3 hz3 hs3=>?_⟩;have up:∀ c o,c≠z->h'.get? c=some o->h3.get? c=some o:=λc o c1 e=>hs3.extBut _ _ c1 e;have ha:H s.heap.objs.size=none:=I.hok.fresh (a6a _);refine⟨.ref s.heap.objs.size,upd H s.heap.objs.size (.tup [x,y]),?_,rfl,⟨_,x,y,rfl,ha,rfl,λzs A=>by rw[I.list_inj A L];exact hx,λzs A=>by rw[I.list_inj A l];exact hy⟩,
   ⟨hz3,up _ _ D.TIz (M _ _ D.TIz D.TITO D.TIi1 D.TIi2 d),⟨_,_,up _ _ D.TOz a2⟩,a3.at λo e=>up _ o D.i1z e,a4.at λo e=>up _ o D.i2z e⟩,λc B=>?_⟩
  ·exact I.spun (ch:=[z,TI,TO,m,n]) (t':=s.toks) J (λc u g e=>up c u (λy=>g (by simp[y])) (M c u (λy=>g (by simp[y])) (λy=>g (by simp[y])) (λy=>g (by simp[y])) (λy=>g (by simp[y])) e)) (a6a _) (bO9 (up _ _ (lt j) a5) ru V)
  ·rw[aG (λw=>?_)];exact(J c B).1;simp only[List.mem_cons,List.not_mem_nil,or_false]at B;rcases B with y | y | y | y | y<;>rw[y]at w;exact lt j w.symm;exact lt d w.symm;exact lt f w.symm;exact Y w.symm;exact Z w.symm
 done:=by
  intro X N O Q g i pins s σ H E I J st R;subst N O Q;obtain⟨j,d,⟨a,b,f⟩,C,F⟩:=st;obtain⟨xs,ys,L,l,hm⟩:=R;obtain⟨its,S,pl,_⟩:=I.list L;obtain⟨T,r,t,_⟩:=I.list l;have l1:=S.length;have l2:=r.length;refine wpAny_pyNext_zip_end (I.ok.hd g) D j d f C F pl.isList t.isList ?_ λh' M=>⟨rfl,I.spun0 (ch:=[z,TI,TO,m,n]) (t':=s.toks) J λc u g e=>M c u (λy=>g (by simp[y])) (λy=>g (by simp[y])) (λy=>g (by simp[y])) (λy=>g (by simp[y])) e⟩;rw[a6c,a6c,a1d,a1d];lia
 self:=λ_ _ _ _ _ st h=>wpAny_pyIter_zip st.1 h
def dH2{n b c:Nat}(hb:b < n)(a:c < n):ZipApart (n+4) (n+2) (n+3) n (n+1) b c:=by
 constructor<;>(show(_:Nat)≠_;lia)
section
variable{X:Cx}
def dT1(K:W.Frag)(b:TA):TI:=λσ H R=>b σ H λvs a=>∃ p q,vs=[.ref p,.ref q]/\∃ xs ys,eS a p=some (true,xs)/\eS a q=some (true,ys)/\R (dQ9 K p q) a
def dH3(K:W.Frag)(A:X.K=K){f:List Expr}{k:Nat}{g:Pos}{a b:Expr}{x:TA}{p pos:Pos}(B:Gl X "zip")(hm:X.mg "zip"=none)(m:bootBuiltins "zip"=some (.type "zip"))(ha:PA X [a,b] x)(hs:starEach [a,b] X.env=(false,eval a X.env)::starEach [b] X.env:=by rfl)(n:(backTo pos (starEach [b] X.env)).any (·.1)=false:=by rfl):PI X (.Tuple f k g) (.Call (.Name "zip" p) [a,b] [] pos) (dT1 K x):=by
 subst A;intro pins s σ H R I h;refine Call_ (vR I B hm m (a8h (thn (ha pos pins s σ H _ I h) λus s1 Z0=>?_) hs n));obtain⟨vs,C,i,D,o⟩:=Z0;obtain⟨b,c,rfl,xs,ys,E,r,o⟩:=o;obtain⟨u,v,rfl,F,y⟩:=D.two;cases F;cases y;obtain⟨its,y,pl,_⟩:=i.list (fD E);obtain⟨G,J,j,_⟩:=i.list (fD r);have lb:b < s1.heap.objs.size:=by obtain⟨_,e,_⟩:=pl.isList;exact a8b e
 have L:c < s1.heap.objs.size:=by obtain⟨_,e,_⟩:=j.isList;exact a8b e
 refine call_zip_2 pl.isList j.isList λh' z t w M N O P=>wpAny_pyIter_zip z ?_;have l:∀ d,d∈[s1.heap.objs.size+4,s1.heap.objs.size+2,s1.heap.objs.size+3,s1.heap.objs.size,s1.heap.objs.size+1]->s1.heap.objs.size<=d:=λd hd=>by
  simp only[List.mem_cons,List.not_mem_nil,or_false]at hd;lia
 refine⟨_,[s1.heap.objs.size+4,s1.heap.objs.size+2,s1.heap.objs.size+3,s1.heap.objs.size,s1.heap.objs.size+1],_,_,C,rfl,i.kept (t':=s1.toks) P,bZ3 (p:=b) (q:=c) ?_,⟨z,t,⟨_,_,w⟩,M,N⟩,λd hd=>i.fpOk (l d hd) (i.hok.fresh (l d hd)),o⟩;exact dH2 lb L
end
end L2
namespace Dv
open PySem L2
def aY3{l m:List D}{i:Nat}{d:D}(h:(bS1 l m)[i]? = some d):∃ x y,l[i]? = some x/\m[i]? = some y/\d=.tup [x,y]:=by
 unfold bS1 at h;rw[a0b]at h;obtain⟨⟨x,y⟩,e,rfl⟩:=a7b.mp h;obtain⟨a,b⟩:=List.getElem?_zip_eq_some.mp e;exact⟨x,y,a,b,rfl⟩
def cR5{K:W.Frag}{p q:Addr}{xs ys:List V}{l m:List D}:ItD (dQ9 K p q) (bS1 l m) (λH=>(SqL K H p xs/\Rps H l xs)/\SqL K H q ys/\Rps H m ys) where
 go:=λH i d ⟨⟨h,r⟩,c,f⟩ e=>by
  obtain⟨y,s,g,a,_⟩:=aY3 e;obtain⟨x,ex,_⟩:=r.get g;obtain⟨o,b,_⟩:=f.get a;exact⟨xs,ys,x,o,h,c,ex,b⟩
 yld:=λH i d v H' ⟨⟨h,r⟩,c,f⟩ e ⟨T,x,o,u,j,w,z,k⟩=>by
  obtain⟨y,s,g,a,rfl⟩:=aY3 e;obtain⟨C,ex,A⟩:=r.get g;obtain⟨B,b,n⟩:=f.get a;have t:=z xs h;rw[ex]at t;cases t;have t:=k ys c;rw[b]at t;cases t;subst u w;exact⟨bO j,.tup aJ (.cons (A.mono (Ext.same (bO j))) (.cons (n.mono (Ext.same (bO j))) .nil))⟩
 stop:=λH ⟨⟨h,r⟩,c,f⟩=>⟨xs,ys,h,c,by unfold bS1;rw[a2a,List.length_zip,r.length,f.length]⟩
noncomputable def dL9:List Res->Option (Res×List D)
 | [x,.val (.lst m)]=>some (x,m)
 | _=>none
noncomputable def lD:D->Option (List D)
 | .lst l=>some l
 | _=>none
noncomputable def dH4(a:DA):DI:=λσ=>(a σ).bind λx=>(dL9 x.1).bind λy=>(rd x.2 y.1).bind λd=>(lD d).bind λl=>some (bS1 l y.2,(match y.1 with | .slot i=>some i | _=>none),x.2)
def dH5{H:Hp}{m:List D}{v:V}(h:Rp H (.lst m) v):∃ q ys o,v=.ref q/\H q=some (.frz o (.lst ys))/\Rps H m ys:=by
 cases h with
 | lst a b=>exact⟨_,_,_,rfl,a,b⟩
def dH6{X:Cx}{tg e:Expr}{u:DA}(K:W.Frag)(h:∀ Γ,PI X tg e (dT1 K (dTA Γ u))):GI X tg e (dH4 u):=.mk λΓ=>piW (h Γ) λσV H R ⟨σ,ok,items,l,D,e,k⟩=>by
 obtain⟨⟨x,i⟩,E,e⟩:=aC e;obtain⟨⟨y,m⟩,b,e⟩:=aC e;obtain⟨d,v,e⟩:=aC e;obtain⟨its,w,e⟩:=aC e;cases e;have j:x=[y,.val (.lst m)]:=by
  dsimp only at b;unfold dL9 at b;split at b;cases b;rfl;cases b
 subst j;refine⟨σ,ok,_,i,E,λvs z a g n L=>?_⟩;cases g with
 | cons g t _=>
   cases t with
   | cons F t _=>
     cases t;cases d with
     | lst M=>
       cases w;have vw:=g.vw a v;obtain⟨p,xs,rfl,A,G⟩:=iO vw;obtain⟨q,ys,o,rfl,B,r⟩:=dH5 F;refine⟨p,_,rfl,xs,_,A,by unfold eS;rw[B],k _ z _ a n (cR5 (xs:=xs) (ys:=ys)) λs c C f=>?_⟩;obtain⟨I,J⟩:=aG6 a g v (items:=its) rfl vw p true xs rfl A G s c C f;have ext:Ext z C:=f.ext (Γ:=Γ) a.lendO;refine⟨⟨fD I,J⟩,fD ?_,r.mono ext⟩;unfold eS;rw[ext.frz _ _ _ B]
     | _=>cases w
theorem bP0{σ:Sg}{a:DA}{K:List D->Option Nat->Sg->Prop}:RI (dH4 a) σ K=RA a σ λx b=>OK1 (dL9 x) λy=>RD b y.1 λd=>OK1 (lD d) λl=>K (bS1 l y.2) (match y.1 with | .slot i=>some i | _=>none) b:=by
 unfold RI RA RD dH4;simp only[aM,bI];try rfl
open Mr
def dH7{c:Type}{vs:List c}{x y:c}(h:2=vs.length)(h0:vs[0]? = some x)(d:vs[1]? = some y):vs=[x,y]:=by
 match vs,h with
 | [a,b],_=>cases h0;cases d;rfl
end Dv
namespace Mr
open PySem L2
def Sms(cs:List Str)(ss:List (List Str)):Prop:=1<=ss.length/\ss.length<=3/\(∀ s∈ss,s.Nodup/\∀ c∈s,c∈cs)/\∀ c∈cs,∃ s∈ss,c∈s
def cF8(H0:Hp)(H:Hp)(cs:List Str)(es:List V):Prop:=∀ e∈es,∃ (w:Addr) (ws:List Str),e=.ref w/\H w=some (.lst (ws.map V.str))/\ws.Nodup/\(∀ c∈ws,c∈cs)/\H0 w=none
def aY4(H:Hp)(c:Str)(es:List V):Prop:=∃ e∈es,∃ (w:Addr) (ws:List Str),e=.ref w/\H w=some (.lst (ws.map V.str))/\c∈ws
inductive TpsAt(H:Hp):List (List Str)->List V->Prop
 | nil:TpsAt H [] []
 | cons {s:List Str} {ss:List (List Str)} {a:Addr} {es:List V} (h:H a=some (.tup (s.map V.str))) (t:TpsAt H ss es):TpsAt H (s::ss) (.ref a::es)
def xI:Sps:=λ_ vs H Q _=>∃ (p q:Addr) (cs:List Str),vs=[.ref p,.ref q]/\iI H p/\H q=some (.tup (cs.map V.str))/\cs.length<=6/\cs.Nodup /\
 ∀ (r:Addr) (es:List V) (ss:List (List Str)) H',H r=none->H' r=some (.tup es)->TpsAt H' ss es->Sms cs ss->iI H' p->SameBut p H H'->Q (.ref r) H'
theorem TpsAt.mono{H H':Hp}(x:∀ b xs,H b=some (.tup xs)->H' b=some (.tup xs)):∀ {ss:List (List Str)} {es:List V},TpsAt H ss es->TpsAt H' ss es
 | _,_,.nil=>.nil
 | _,_,.cons h t=>.cons (x _ _ h) (t.mono x)
theorem TpsAt.snoc{H:Hp}{s:List Str}{a:Addr}(h:H a=some (.tup (s.map V.str))):∀ {ss:List (List Str)} {es:List V},TpsAt H ss es->TpsAt H (ss++[s]) (es++[.ref a])
 | _,_,.nil=>.cons h .nil
 | _,_,.cons h' t=>.cons h' (t.snoc h)
theorem TpsAt.length{H:Hp}:∀ {ss:List (List Str)} {es:List V},TpsAt H ss es->ss.length=es.length
 | _,_,.nil=>rfl
 | _,_,.cons h t=>by rw[a5f,a5f,t.length]
def cF8.mono{a H H':Hp}{cs:List Str}{es:List V}(h:cF8 a H cs es)(k:∀ w,a w=none->∀ o,H w=some o->H' w=some o):cF8 a H' cs es:=λe c=>by
 obtain⟨w,ws,d,f,g,i,b⟩:=h e c;exact⟨w,ws,d,k w b _ f,g,i,b⟩
def aY4.mono{b H H':Hp}{cs:List Str}{c:Str}{es:List V}(h:aY4 H c es)(o:cF8 b H cs es)(k:∀ w,b w=none->∀ o,H w=some o->H' w=some o):aY4 H' c es:=by
 obtain⟨e,d,w,ws,f,g,i⟩:=h;obtain⟨l,_,a,_,_,_,j⟩:=o e d;rw[f]at a;cases a;exact⟨e,d,w,ws,f,k w j _ g,i⟩
theorem bP1:∀ (bs:List Bool),inV (.bl true) (bs.map V.bl)=bs.any id
 | []=>rfl
 | b::r=>by
   show(eqV (.bl b) (.bl true)||inV (.bl true) (r.map V.bl))=(b||r.any id);rw[bP1 r];cases b<;>rfl
theorem aM0{z:Str}:∀ (zs:List Str),inV (.str z) (zs.map V.str)=decide (z∈zs)
 | []=>by simp[inV]
 | y::r=>by
   show(eqV (.str y) (.str z)||inV (.str z) (r.map V.str))=_;rw[aM0 r];show((y==z)||_)=_;by_cases h:y=z;subst h;simp;have h':¬ z=y:=λe=>h e.symm;simp[h,h']
def cR6{cs:List Str}(hn:cs.Nodup){ys:List V}(h:ys.Perm (cs.map V.str)):∃ zs:List Str,ys=zs.map V.str/\zs.Nodup/\∀ c∈zs,c∈cs:=by
 obtain⟨zs,rfl,d⟩:=bI7 (zs:=cs) λy f=>h.mem_iff.mp f;refine⟨zs,rfl,?_,d⟩;have g:(cs.map V.str).Nodup:=List.pairwise_map.mpr (hn.imp λ{a b} q e=>q (by injection e));exact(List.pairwise_map.mp (h.nodup_iff.mpr g)).imp λ{a b} q e=>q (by rw[e])
theorem zO:∀ {l m:List Str},l.Nodup->(∀ x∈l,x∈m)->l.length<=m.length
 | [],_,_,_=>a2d _
 | x::l,m,nd,h=>by
   obtain⟨n1,n2⟩:=a9h.mp nd;have:=zO (l:=l) (m:=m.erase x) n2 λy c=>(List.mem_erase_of_ne (a:=y) (b:=x) (λz=>n1 (by rw[← z];exact c))).mpr (h y (a5a _ c));have e:=List.length_erase_of_mem (h x a3a);have p:0 < m.length:=List.length_pos_of_mem (h x a3a);rw[a5f];lia
def cR7{H:Hp}{c:Str}{es:List V}{w:Addr}{ws:List Str}(h:H w=some (.lst (ws.map V.str))):aY4 H c (es++[.ref w])↔aY4 H c es\/c∈ws:=by
 constructor
 ·rintro⟨e,he,g,b,d,a,f⟩;rcases a3c.mp he with he | he;exact .inl ⟨e,he,g,b,d,a,f⟩;rw[a1b.mp he]at d;cases d;rw[h]at a;injection a with a;injection a with a
  have:V.str c∈b.map V.str:=List.mem_map_of_mem f;rw[← a]at this;obtain⟨z,i,j⟩:=a2e.mp this;cases j;exact .inr i
 ·rintro(⟨e,he,q⟩ | k);exact⟨e,a5g _ he,q⟩;exact⟨.ref w,by simp,w,ws,rfl,h,k⟩
def bZ4(bs:List Bool):(bs.map V.bl).all vA=true:=a8g.mpr λx a=>by
 obtain⟨b,_,rfl⟩:=a2e.mp a;rfl
def bP2(zs:List Str):(zs.map V.str).all vA=true:=a8g.mpr λx a=>by
 obtain⟨b,_,rfl⟩:=a2e.mp a;rfl
def cR8{H:Hp}{p q:Addr}{xs:List V}(h:iI H p)(e:H q=some (.tup xs)):q≠p:=λz=>by
 subst z;obtain⟨i,j,a⟩:=h;rw[e]at a;cases a
def dH8{n H:Hp}{cs:List Str}:∀ {ss:List (List Str)} {es:List V},ss.length=es.length->(∀ (j:Nat) s e,ss[j]? = some s->es[j]? = some e->∃ w,e=V.ref w/\H w=some (.lst (s.map V.str)))->cF8 n H cs es->(∀ c∈cs,aY4 H c es)->(∀ s∈ss,s.Nodup/\∀ c∈s,c∈cs)/\∀ c∈cs,∃ s∈ss,c∈s:=by
 intro ss es A h sm cv;have back:∀ {ws i:List Str},ws.map V.str=i.map V.str->ws=i:=λ{ws i} e=>by
  have:∀ {a b:List Str},a.map V.str=b.map V.str->a=b:=λ{a}=>by
   induction a with
   | nil=>intro b e;cases b with
     | nil=>rfl
     | cons _ _=>cases e
   | cons x r o=>intro b e;cases b with
     | nil=>cases e
     | cons y t=>rw[a6d,a6d]at e;injection e with k l;injection k with k;rw[k,o l]
  exact this e
 constructor
 ·intro s hs;obtain⟨j,hj,e⟩:=a3e hs;have d:j < es.length:=by lia
  obtain⟨w,k,l⟩:=h j s es[j] (by rw[a0a hj,e]) (a0a d);obtain⟨p,ws,m,f,g,q,_⟩:=sm es[j] (a9g d);rw[k]at m;cases m;rw[l]at f;injection f with f;injection f with f
  rw[back f];exact⟨g,q⟩
 ·intro c u;obtain⟨e,v,w,ws,k,l,m⟩:=cv c u;obtain⟨j,hj,z⟩:=a3e v;have d:j < ss.length:=by lia
  obtain⟨p,f,g⟩:=h j ss[j] e (a0a d) (by rw[a0a hj,z]);rw[k]at f;cases f;rw[l]at g;injection g with g;injection g with g
  exact⟨ss[j],a9g d,by rw[← back g];exact m⟩
end Mr
namespace Dv
open PySem L2 Mr
noncomputable abbrev cD(cs:List Str):D:=.tup (cs.map D.str)
def cS:MC:=λas K=>∃ (a b:Int) (cs:List Str),as=[⟨.par,.lst [.int a,.int b]⟩,⟨.val,cD cs⟩]/\cs.length<=6/\cs.Nodup/\∀ ss c d,Sms cs ss->K (.val (.tup (ss.map cD))) [⟨.par,.lst [.int c,.int d]⟩,⟨.val,cD cs⟩]
def dH9:dG3 cS:=λas K i w ⟨a,b,k,e,h0,c,q⟩=>⟨a,b,k,e,h0,c,λd f g h=>w _ _ (q d f g h)⟩
def cR9{H:Hp}{cs:List Str}{v:V}(h:Rp H (cD cs) v):∃ q,v=.ref q/\H q=some (.tup (cs.map V.str)):=by
 obtain⟨q,xs,e,a,b⟩:=fF (.inl h);rw[b.strs_inv]at a;exact⟨q,e,a⟩
theorem bP3{H:Hp}:∀ {ss:List (List Str)} {es:List V},TpsAt H ss es->Rps H (ss.map cD) es
 | _,_,.nil=>.nil
 | _,_,.cons h t=>.cons (.tup h (aU9 _)) (bP3 t)
def bP4{K:W.Frag}(vs:List V)(H:Hp)(Q:L2.VK)(E:XK)(h:bW9 2 cS vs H Q E):xI K vs H Q E:=by
 obtain⟨as,g,G,a,b,cs,rfl,u,v,q⟩:=h;obtain⟨I,w,x⟩:=g.rel 0 _ rfl;obtain⟨v1,y,A⟩:=g.rel 1 _ rfl;obtain rfl:=dH7 g.len w y;obtain⟨p,rfl,xs,j,k⟩:=(dM (s:=⟨.par,.lst [.int a,.int b]⟩) (λz=>nomatch z)).mp x;rw[Rps.ints_inv (ns:=[a,b]) k]at j;have i:Rp H (cD cs) v1:=A;obtain⟨t,rfl,B⟩:=cR9 i;refine⟨p,t,cs,rfl,⟨a,b,j⟩,B,u,v,λr es ss H' k C D hs hb d=>?_⟩;obtain⟨l,m,f⟩:=hb;refine q ss l m hs (.ref r) H' ?_ (.tup C (bP3 D));refine⟨λn s e mt=>?_,λc o e n=>d c o (λz=>n ⟨0,_,rfl,rfl,by rw[z];rfl⟩) e,λc e=>?_⟩
 ·match n,e with
  | 0,e=>cases e;exact⟨_,_,rfl,rfl,rfl,p,rfl,_,f,vE [l,m]⟩
  | 1,e=>cases e;cases mt
 ·cases F:H c with
  | none=>rfl
  | some o=>
    by_cases z:c=p;subst z;rw[f]at e;cases e;rw[d c o z F]at e;cases e
end Dv
namespace Mr
open PySem L2 Dv
noncomputable def iR:DS:=(cF (dQ 2 (aT mQ (aT aN2 (dC (.int 7919)) (aH 1)) (dC (.int 11))))
 (cF (wE (fX (aT ltA (aH 1) (dCB vJ (aD (aH 0) aR)))) (dQ 2 (aT ixD (aH 0) (aH 1))) (wE (fX (aT gtI (dCB vJ (aD (aH 0) aR)) (dC (.int 0)))) (dQ 2 (aT mQ (aH 2) (aT aN2 (aT bE5 (aT ixD (aH 0) (aT bE5 (aH 1) (dCB vJ (aD (aH 0) aR)))) (dC (.int 2147483629))) (dC (.int 69623))))) iK))
 (cF (dQ 3 (aT mQ (aT bE5 (aT mQ (aT aN2 (aT bE5 (aH 2) (dC (.int 2147483629))) (dC (.int 48271))) (aT aN2 (dC (.int 40692)) (aH 1))) (dC (.int 2147483629))) (dC (.int 1))))
 (iW (aG4 (aD (dFz (aT aN2 (aH 2) (dCB cU4 (aD (aT geI (aH 2) (aT dP6 (dC (.int 10)) (dC (.int 18)))) aR)))) (aD (dFz (aH 3)) aR)))))))
noncomputable def cX:Dv.Run:=pK 4 iR
noncomputable def gK:DS:=(cF (wE (fX (aT gtI (aT ixD (aH 0) (dC (.int 0))) (dC (.int 0)))) (cF (dQ 2 (aT bE5 (aT ixD (aH 0) (dC (.int 0))) (aH 1)))
 (cF (cU5 0 (dC (.int 0)) (aT dL7 (aT ixD (aH 0) (dC (.int 0))) (aH 1)))
 (iW (aH 2)))) iK)
 (cF (dQ 3 (aT bE5 (aT aN2 (aT ixD (aH 0) (dC (.int 1))) (dC (.int 69623))) (dC (.int 2147483647))))
 (cF (cU5 0 (dC (.int 1)) (aT mQ (aT bE5 (aT mQ (aT aN2 (aH 3) (dC (.int 48271))) (dC (.int 30103))) (dC (.int 2147483629))) (dC (.int 1))))
 (iW (aT bE5 (aT dL7 (aT mQ (aT aN2 (aH 3) (dC (.int 2147483647))) (aT ixD (aH 0) (dC (.int 1)))) (dC (.int 8191))) (aH 1))))))
noncomputable def aN:Dv.Run:=pK 4 gK
noncomputable def fM:DS:=(cF (dQ 2 (dCB bL1 (aD (aH 1) aR)))
 (cF (dQ 3 (aG4 aR))
 (cF (aV7 (fX (aT gtI (dCB vJ (aD (aH 2) aR)) (dC (.int 0))))
 (xW (aB0 "list" 3 cN5 (aD (dFz (aB0 "list" 2 aH2 (aD (dFz (aX 2 aN (aD (aH 0) (aD (dCB vJ (aD (aH 2) aR)) aR)))) aR))) aR))))
 (iW (aH 3)))))
noncomputable def eN:Dv.Run:=pK 4 fM
noncomputable def gM:DS:=(cF (dQ 3 (aT ixD (aG4 (aD (dC (.int 2)) (aD (dC (.int 3)) (aD (dC (.int 10)) (aD (dC (.int 1000)) aR))))) (aX 2 aN (aD (aH 0) (aD (dC (.int 4)) aR)))))
 (cF (dQ 4 (aX 2 aN (aD (aH 0) (aD (aT ixD (aG4 (aD (dFz (aT mQ (aH 2) (dC (.int 1)))) (aD (dC (.int 6)) aR))) (aX 2 aN (aD (aH 0) (aD (dC (.int 2)) aR)))) aR))))
 (iW (dCB aH0 (aD (dCB eM (aD (fS [5] (cT9 (aD (aH 4) aR)) (dgN 5) mL (dCB aH0 (aD (fS [6] (dIt (aH 1)) (dgN 6) mL (dFz (aX 2 aN (aD (aH 0) (aD (aH 3) aR))))) aR))) aR)) aR)))))
noncomputable def fN:Dv.Run:=pK 7 gM
noncomputable def fO:DS:=(cF (dQ 3 (dCB aH0 (aD (dSl (aX 2 eN (aD (aH 0) (aD (aH 1) aR))) bK7 (dP (aX 2 aN (aD (aH 0) (aD (aT mQ (dCB vJ (aD (aH 1) aR)) (dC (.int 1))) aR))))) aR)))
 (iW (wC (aD (dFz (aH 3)) (aD (dFz (aX 3 fN (aD (aH 0) (aD (aH 3) (aD (aH 2) aR))))) aR)))))
noncomputable def dE:Dv.Run:=pK 4 fO
noncomputable def fP:DS:=(cF (dQ 2 (dC (.str "abcdefghijklmnopqrstuvwxyz")))
 (cF (dQ 3 (aG2 (bL9 "") (fS [12] (cT9 (aD (aX 2 aN (aD (aH 0) (aD (dC (.int 5)) aR))) aR)) (dgN 12) mL (aT ixD (aH 2) (aX 2 aN (aD (aH 0) (aD (dC (.int 26)) aR)))))))
 (cF (dQ 4 (aX 2 aN (aD (aH 0) (aD (aT mQ (dCB vJ (aD (aH 3) aR)) (dC (.int 1))) aR))))
 (cF (dQ 5 (aX 2 aN (aD (aH 0) (aD (dC (.int 26)) aR))))
 (cF (dQ 6 (aX 2 aN (aD (aH 0) (aD (dC (.int 4)) aR))))
 (cF (wE (fX (aT (eqD false) (aH 6) (dC (.int 2)))) (cF (dL3 (aO8 3 (jP (dgN 7) (jP (dgN 8) (jP (dgN 9) aO7)))) (dFz (dSl (dSl (aH 2) (dP (aX 2 aN (aD (aH 0) (aD (dC (.int 24)) aR)))) bK7) bK7 (dP (dC (.int 3))))))
 (cF (dQ 10 (aG4 (aD (dFz (aH 7)) (aD (dFz (aT mQ (aH 7) (aH 8))) (aD (dFz (aH 8)) (aD (dFz (aT mQ (aH 8) (aH 9))) aR))))))
 (iW (dSl (aT mQ (aH 10) (aG4 (aD (dFz (aH 9)) (aD (dFz (aT mQ (aH 7) (aH 9))) (aD (dFz (aT mQ (aT mQ (aH 7) (aH 8)) (aH 9))) (aD (dFz (aT mQ (aH 9) (aH 8))) aR)))))) bK7 (dP (aH 1)))))) iK)
 (cF (dQ 11 (aG4 aR))
 (cF (aP2 (cT9 (aD (aH 1) aR)) (dgN 12)
 (cF (dQ 13 (aT mQ (aT mQ (dSl (aH 3) bK7 (dP (aH 4))) (aT ixD (aH 2) (aT bE5 (aT mQ (aH 5) (aT aN2 (dC (.int 5)) (aH 12))) (dC (.int 26))))) (dSl (aH 3) (dP (aH 4)) bK7)))
 (xW (aB0 "list" 11 cN5 (aD (dFz (aT mQ (aH 13) (aT aN2 (dC (.str "z")) (dCB cU4 (aD (aG3 (aT (eqD false) (aH 6) (dC (.int 1))) (aT (eqD false) (aT bE5 (aH 12) (dC (.int 2))) (dC (.int 1)))) aR))))) aR)))))
 (cF (dQ 14 (aG4 (aD (dC (.str "table")) (aD (dC (.str "tree")) (aD (dC (.str "none")) (aD (dC (.str "answer")) (aD (dC (.str "levels")) (aD (dC (.str "looks")) aR))))))))
 (cF (dQ 14 (aT mQ (aH 14) (aG4 (aD (dC (.str "at")) (aD (dC (.str "count")) (aD (dC (.str "ears")) (aD (dC (.str "cover")) (aD (dC (.str "place")) aR))))))))
 (cF (dQ 13 (aT ixD (aH 14) (aX 2 aN (aD (aH 0) (aD (dC (.int 11)) aR)))))
 (cF (wE (cT8 (fX (aT (eqD false) (aX 2 aN (aD (aH 0) (aD (dC (.int 4)) aR))) (dC (.int 0)))) (fX (aT (inD true) (aH 13) (aH 11)))) (cU5 11 (aX 2 aN (aD (aH 0) (aD (aH 1) aR))) (dFz (aH 13))) iK)
 (iW (aH 11))))))))))))))
noncomputable def dF:Dv.Run:=pK 15 fP
noncomputable def gN:DS:=(cF (dQ 1 (dC (.int 1)))
 (cF (aP2 (dIt (aH 0)) (aO8 2 (jP (dgN 2) (jP (dgN 3) aO7)))
 (dQ 1 (aT aN2 (aH 1) (dCB bX0 (aD (dC (.int 1)) (aD (dCB vJ (aD (aH 3) aR)) aR))))))
 (iW (aT leI (aH 1) (dC (.int 3000))))))
noncomputable def cH:Dv.Run:=pK 4 gN
noncomputable def gO:DS:=(iW (dCB aH0 (aD (fS [3] (dIt (aH 2)) (dgN 3) mL (aT ixD (aH 1) (dMT dH1 (aH 0) (aH 3)))) aR)))
noncomputable def bQ:Dv.Run:=pK 4 gO
noncomputable def eO:DS:=(cF (dQ 2 (aG4 aR))
 (cF (aP2 (dIt (aH 1)) (dgN 3)
 (xW (aB0 "list" 2 cN5 (aD (wC (aD (dFz (aH 3)) (aD (dCB aH0 (aD (dCB eM (aD (fS [4] (dIt (aT ixD (aH 0) (dC (.int 1)))) (dgN 4) mL (dFz (aX 3 bQ (aD (aT ixD (aH 0) (dC (.int 0))) (aD (aH 4) (aD (aH 3) aR)))))) aR)) aR)) aR))) aR))))
 (iW (aH 2))))
noncomputable def bF:Dv.Run:=pK 5 eO
noncomputable def cY:DS:=(iW (fS [2] (dIt (aH 1)) (dgN 2) mL (dFz (dMT dH1 (aH 0) (aH 2)))))
noncomputable def bC:Dv.Run:=pK 3 cY
noncomputable def gP:DS:=(iW (wC (aD (dCB aH0 (aD (aH 0) aR)) (aD (dCB aH0 (aD (dCB eM (aD (aH 1) aR)) aR)) aR))))
noncomputable def cZ:Dv.Run:=pK 2 gP
noncomputable def lU:DS:=(iW (dCB aH0 (aD (fS [2] (dIt (aH 1)) (dgN 2) mL (aT ixD (aH 0) (aH 2))) aR)))
noncomputable def cT:Dv.Run:=pK 3 lU
noncomputable def aM1:DS:=(cF (dQ 2 (aX 2 bC (aD (aT ixD (aH 0) (dC (.int 0))) (aD (aH 1) aR))))
 (iW (aX 2 cZ (aD (aH 1) (aD (fS [3] (dIt (aT ixD (aH 0) (dC (.int 1)))) (dgN 3) mL (dFz (aX 2 cT (aD (aH 3) (aD (aH 2) aR))))) aR)))))
noncomputable def lV:Dv.Run:=pK 4 aM1
noncomputable def oF:DS:=(iW (fS [2] (dIt (aH 1)) (dgN 2) mL (dFz (aX 2 lV (aD (aH 0) (aD (aH 2) aR))))))
noncomputable def dS:Dv.Run:=pK 3 oF
noncomputable def fQ:DS:=(iW (aG3 (aG2 (aH1 "int") (aH 0)) (bW2 (aG2 (aH1 "bool") (aH 0)))))
noncomputable def eP:Dv.Run:=pK 1 fQ
noncomputable def dA:DS:=(cF (wE (dOr (aA8 (fX (aG2 (aH1 "tuple") (aH 0)))) (dOr (fX (aT (eqD true) (dCB vJ (aD (aH 0) aR)) (dC (.int 2)))) (aA8 (fX (aG2 (aH1 "tuple") (aT ixD (aH 0) (dC (.int 1)))))))) (iW (dC (.bl false))) iK)
 (cF (aP2 (dIt (aT ixD (aH 0) (dC (.int 1)))) (dgN 3)
 (wE (dOr (aA8 (fX (aG2 (aH1 "tuple") (aH 3)))) (aA8 (fX (dCB cU3 (aD (fS [4] (dIt (aH 3)) (dgN 4) mL (dFz (aX 1 eP (aD (aH 4) aR)))) aR))))) (iW (dC (.bl false))) iK))
 (iW (aG3 (aT (eqD false) (aT ixD (aH 0) (dC (.int 0))) (dCB aH0 (aD (aH 1) aR))) (aT (eqD false) (aT ixD (aH 0) (dC (.int 1))) (dCB aH0 (aD (dCB eM (aD (aH 2) aR)) aR)))))))
noncomputable def bX:Dv.Run:=pK 5 dA
noncomputable def eQ:DS:=(cF (dQ 2 (fS [7] (dIt (aT ixD (aH 0) (dC (.int 0)))) (dgN 7) (fX (aT (inD false) (aH 7) (aT ixD (aH 1) (dC (.int 0))))) (dFz (aH 7))))
 (cF (dQ 3 (fS [7] (dIt (aT ixD (aH 1) (dC (.int 0)))) (dgN 7) (fX (aT (inD true) (aH 7) (aT ixD (aH 0) (dC (.int 0))))) (dFz (aH 7))))
 (cF (dQ 4 (aG4 aR))
 (cF (aP2 (dIt (aT ixD (aH 0) (dC (.int 1)))) (dgN 5)
 (aP2 (dIt (aT ixD (aH 1) (dC (.int 1)))) (dgN 6)
 (wE (fX (aT (eqD false) (aX 3 bQ (aD (aT ixD (aH 0) (dC (.int 0))) (aD (aH 5) (aD (aH 2) aR)))) (aX 3 bQ (aD (aT ixD (aH 1) (dC (.int 0))) (aD (aH 6) (aD (aH 2) aR)))))) (xW (aB0 "list" 4 cN5 (aD (dFz (aT mQ (aH 5) (aX 3 bQ (aD (aT ixD (aH 1) (dC (.int 0))) (aD (aH 6) (aD (aH 3) aR)))))) aR))) iK)))
 (iW (wC (aD (aT mQ (aT ixD (aH 0) (dC (.int 0))) (dCB aH0 (aD (aH 3) aR))) (aD (dCB aH0 (aD (dCB eM (aD (aH 4) aR)) aR)) aR))))))))
noncomputable def cU:Dv.Run:=pK 8 eQ
noncomputable def iS:DS:=(cF (dQ 2 (aT ixD (aH 1) (dC (.int 0))))
 (cF (aP2 (dIt (dSl (aH 1) (dP (dC (.int 1))) bK7)) (dgN 3)
 (dQ 2 (aX 2 cU (aD (aH 2) (aD (aH 3) aR)))))
 (cF (dQ 4 (dCB aX7 (aD (fS [6] (dIt (aT ixD (aH 2) (dC (.int 1)))) (dgN 6) mL (dFz (aX 3 bQ (aD (aT ixD (aH 2) (dC (.int 0))) (aD (aH 6) (aD (aT ixD (aH 0) (dC (.int 0))) aR)))))) aR)))
 (cF (dQ 5 (fS [6] (dIt (aH 4)) (dgN 6) (fX (aT (inD true) (aH 6) (aT ixD (aH 0) (dC (.int 1))))) (dFz (aH 6))))
 (cF (wE (fX (aT (eqD false) (aH 5) (aG4 aR))) (iW (wC (aD (dC (.str "same")) aR))) iK)
 (iW (wC (aD (dC (.str "more")) (aD (aT ixD (aH 5) (dC (.int 0))) aR)))))))))
noncomputable def eY:Dv.Run:=pK 7 iS
noncomputable def cE:DS:=(iW (fS [2] (dIt (aT ixD (aH 0) (dC (.int 0)))) (dgN 2) (fX (aT (inD false) (aH 2) (aT ixD (aH 1) (dC (.int 0))))) (dFz (aH 2))))
noncomputable def bZ:Dv.Run:=pK 3 cE
noncomputable def iT:DS:=(cF (dQ 3 (aX 2 bC (aD (aT ixD (aH 0) (dC (.int 0))) (aD (aH 1) aR))))
 (cF (dQ 4 (aX 2 bC (aD (aT ixD (aH 0) (dC (.int 0))) (aD (aH 2) aR))))
 (cU6 5 6 (dIt (aT ixD (aH 0) (dC (.int 1)))) (aX 2 cT (aD (aH 6) (aD (aH 3) aR))) (aD (dFz (aX 2 cT (aD (aH 6) (aD (aH 4) aR)))) aR))))
noncomputable def gQ:Dv.Run:=pK 7 iT
noncomputable def lW:DS:=(cF (dQ 2 (aX 2 bZ (aD (aH 0) (aD (aH 1) aR))))
 (cF (dQ 3 (fS [8] (dIt (aT ixD (aH 1) (dC (.int 0)))) (dgN 8) (fX (aT (inD true) (aH 8) (aT ixD (aH 0) (dC (.int 0))))) (dFz (aH 8))))
 (cF (dQ 4 (aX 3 gQ (aD (aH 1) (aD (aH 2) (aD (aH 3) aR)))))
 (cF (dQ 5 (aX 2 bC (aD (aT ixD (aH 0) (dC (.int 0))) (aD (aH 2) aR))))
 (cF (dQ 6 (aG4 aR))
 (cF (aP2 (dIt (aT ixD (aH 0) (dC (.int 1)))) (dgN 7)
 (xW (bJ8 "list" 6 dL5 (aD (fS [9] (dIt (bO7 (aH 4) (aX 2 cT (aD (aH 7) (aD (aH 5) aR))) (aG4 aR))) (dgN 9) mL (dFz (aT mQ (aH 7) (aH 9)))) aR))))
 (iW (aX 2 cZ (aD (aT mQ (aT ixD (aH 0) (dC (.int 0))) (dCB aH0 (aD (aH 3) aR))) (aD (aH 6) aR))))))))))
noncomputable def gC:Dv.Run:=pK 10 lW
noncomputable def eR:DS:=(cF (dQ 1 (wC (aD (wC aR) (aD (wC (aD (wC aR) aR)) aR))))
 (cF (aP2 (dIt (aH 0)) (dgN 2)
 (dQ 1 (aX 2 gC (aD (aH 1) (aD (aH 2) aR)))))
 (iW (aH 1))))
noncomputable def dU:Dv.Run:=pK 3 eR
noncomputable def gU:DS:=(cF (dQ 2 (aX 2 lV (aD (aX 1 dU (aD (aX 2 dS (aD (aH 0) (aD (aH 1) aR))) aR)) (aD (aT ixD (aH 0) (dC (.int 0))) aR))))
 (cF (aP2 (dIt (aT ixD (aH 2) (dC (.int 1)))) (dgN 3)
 (wE (fX (aT (inD true) (aH 3) (aT ixD (aH 0) (dC (.int 1))))) (iW (wC (aD (dC (.str "more")) (aD (dFz (aH 3)) aR)))) iK))
 (iW (wC (aD (dC (.str "same")) aR)))))
noncomputable def cI:Dv.Run:=pK 4 gU
def zP:MS:=(cF3 (RS (dQ 1 (aX 2 cX (aD (aH 0) (aD (dC (.int 0)) aR)))))
 (cF3 (RS (dQ 2 (aX 3 dE (aD (aX 2 cX (aD (aH 0) (aD (dC (.int 1)) aR))) (aD (aX 2 dF (aD (aH 1) (aD (dC (.int 6)) aR))) (aD (dC (.int 60)) aR))))))
 (cF3 (bY8 3 2 cS (aD (aH 1) (aD (aT ixD (aH 2) (dC (.int 0))) aR)))
 (RS (cF (wE (aA8 (fX (aX 1 cH (aD (aX 2 bF (aD (aH 2) (aD (aH 3) aR))) aR)))) (dQ 3 (wC (aD (aT ixD (aH 2) (dC (.int 0))) (aD (dFz (dSl (aT ixD (aH 2) (dC (.int 0))) bK7 (dP (dC (.int 1))))) aR)))) iK)
 (cF (wE (aA8 (fX (aX 1 cH (aD (aX 2 bF (aD (aH 2) (aD (aH 3) aR))) aR)))) (dQ 3 (wC (aD (aT ixD (aH 2) (dC (.int 0))) aR))) iK)
 (cF (dQ 4 (aX 2 bF (aD (aH 2) (aD (aH 3) aR))))
 (cF (dQ 5 (aX 2 dS (aD (aH 2) (aD (aH 3) aR))))
 (cF (wE (dOr (aA8 (fX (aG2 (aH1 "list") (aH 5)))) (fX (aT (eqD true) (dCB vJ (aD (aH 5) aR)) (dCB vJ (aD (aH 4) aR))))) (iW (dC (.bl false))) iK)
 (cF (wE (aA8 (fX (dCB cU3 (aD (fS [8,9] (dH4 (aD (aH 5) (aD (dFz (aH 4)) aR))) (aO8 2 (jP (dgN 8) (jP (dgN 9) aO7))) mL (dFz (aX 3 bX (aD (aH 8) (aD (aT ixD (aH 9) (dC (.int 0))) (aD (aT ixD (aH 9) (dC (.int 1))) aR)))))) aR)))) (iW (dC (.bl false))) iK)
 (cF (xW (bB8 "list" 5 dD9))
 (cF (dQ 6 (aX 2 eY (aD (aH 2) (aD (aH 4) aR))))
 (cF (dQ 7 (aX 2 cI (aD (aH 2) (aD (aH 3) aR))))
 (cF (wE (dOr (aA8 (fX (aG2 (aH1 "tuple") (aH 7)))) (dOr (fX (aT (eqD true) (aH 7) (aH 6))) (cT8 (fX (aT (eqD false) (dCB vJ (aD (aH 7) aR)) (dC (.int 2)))) (aA8 (fX (aG2 (aH1 "tuple") (aT ixD (aH 7) (dC (.int 1))))))))) (iW (dC (.bl false))) iK)
 (iW (aG3 (aT (eqD false) (aX 2 cI (aD (aH 2) (aD (wC (aD (aT ixD (aH 2) (dC (.int 0))) aR)) aR))) (wC (aD (dC (.str "same")) aR))) (aT (eqD false) (dCB vJ (aD (aX 2 dS (aD (aH 2) (aD (aH 3) aR))) aR)) (dCB vJ (aD (aH 4) aR)))))))))))))))))))
def xJ:MC:=dL4 10 zP
def aR8:bR9 zP:=(aC7 aL7 (aC7 aL7 (aC7 (aX8 dH9) aL7)))
section
variable{P:Program}{w:World}{K:W.Frag}{mg:Str->Option Value}{base:Heap}{a:Adr}
def bD8(T:Txt K mg a):FnOk P w K mg base CX0 1 a.a2B a.a1v ["_law_script","_law_k"] (dsp 2 cX):=by
 refine bU T.a1M zC (by decide) iR (λcdv A outer s H E b=>?_);have nd:=zC.nd;unfold iR;exact(aF (aP (i:=2) nd rfl (Or.inl rfl) (aW bL bM (aW gH gJ ge_int (aB (pv 1))) ge_int))
  (aF (mU (eF (dF6 b.units0) cQ4 (aB (pv 1)) (cM eJ (λΓ=>aV bK (by rfl) T.a1n bW (gA (aA (aB (pv 0)) aE) Γ))) (dG _)) (aO (aP (i:=2) nd rfl (Or.inl rfl) (bH (aB (pv 0)) (aB (pv 1)) (λ_ _=>rfl)))) (aO (mU (eF bF8 aP7 (cM eJ (λΓ=>aV bK (by rfl) T.a1n bW (gA (aA (aB (pv 0)) aE) Γ))) ge_int (dG _)) (aO (aP (i:=2) nd rfl (Or.inl rfl) (aW bL bM (aB (pv 2)) (aW gH gJ (aW gW iL (bH (aB (pv 0)) (aW gW iL (aB (pv 1)) (cM eJ (λΓ=>aV bK (by rfl) T.a1n bW (gA (aA (aB (pv 0)) aE) Γ)))) (λ_ _=>rfl)) ge_int) ge_int)))) eG)))
  (aF (aP (i:=3) nd rfl (Or.inl rfl) (aW bL bM (aW gW iL (aW bL bM (aW gH gJ (aW gW iL (aB (pv 2)) ge_int) ge_int) (aW gH gJ ge_int (aB (pv 1)))) ge_int) ge_int))
  (aO (bP (gZ (aA (cO (aW gH gJ (aB (pv 2)) (cM bL0 (λΓ=>bG aE9 (by rfl) T.a2Y aB8 (gA (aA (pH dN0 cN3 (aB (pv 2)) (aW cY2 cN1 ge_int ge_int) (dG _)) aE) Γ))))) (aA (cO (aB (pv 3))) aE))))))))
def aR9(T:Txt K mg a):FnOk P w K mg base CX0 1 a.a0C a.a0q ["_law_box_here","_law_many"] (dsp 2 aN):=by
 refine bU T.a0l iZ (by decide) gK (λcdv A outer s H E b=>?_);have nd:=iZ.nd;unfold gK;exact(aF (mU (eF bF8 aP7 (bH (aB (pv 0)) ge_int (λ_ _=>rfl)) ge_int (dG _)) (aF (aP (i:=2) nd rfl (Or.inl rfl) (aW gW iL (bH (aB (pv 0)) ge_int (λ_ _=>rfl)) (aB (pv 1))))
  (aF (bL3 (k:=0) (λΓ=>yG (gE (aW aW0 bL4 (bH (aB (pv 0)) ge_int (λ_ _=>rfl)) (aB (pv 1))) Γ) (aE5 (pv 0) (gE ge_int Γ) nF)))
  (aO (bP (aB (pv 2)))))) eG)
  (aF (aP (i:=3) nd rfl (Or.inl rfl) (aW gW iL (aW gH gJ (bH (aB (pv 0)) ge_int (λ_ _=>rfl)) ge_int) ge_int))
  (aF (bL3 (k:=0) (λΓ=>yG (gE (aW bL bM (aW gW iL (aW bL bM (aW gH gJ (aB (pv 3)) ge_int) ge_int) ge_int) ge_int) Γ) (aE5 (pv 0) (gE ge_int Γ) nF)))
  (aO (bP (aW gW iL (aW aW0 bL4 (aW bL bM (aW gH gJ (aB (pv 3)) ge_int) (bH (aB (pv 0)) ge_int (λ_ _=>rfl))) ge_int) (aB (pv 1))))))))
def aM2(T:Txt K mg a)(b:FnOk P w K mg base CX0 1 a.a0C a.a0q ["_law_box_here","_law_many"] (dsp 2 aN)):FnOk P w K mg base CX0 2 a.a0U a.a0x ["_law_box_here","_law_things"] (dsp 2 eN):=by
 refine bU T.a0M iC (by decide) fM (λcdv A outer s H E c=>?_);have nd:=iC.nd;unfold fM;exact(aF (aP (i:=2) nd rfl (Or.inl rfl) (cM bX2 (λΓ=>bG yL (by rfl) T.a2U wQ (gA (aA (aB (pv 1)) aE) Γ))))
  (aF (aP (i:=3) nd rfl (Or.inl rfl) (gZ aE))
  (aF (bW8 (λΓ=>aT8 a7e (gT (eF bF8 aP7 (cM eJ (λΓ=>aV bK (by rfl) T.a1n bW (gA (aA (aB (pv 2)) aE) Γ))) ge_int (dG _)) Γ)
  (gSs (aO (oS (wD aB5 (λΓ=>jG K (by rfl) a9d a0f a1f fB (pv 3) (gA (aA (cO (wD bL2 (λΓ=>jG K (by rfl) a9d F.slot_list_pop F.type_list_pop aU3 (pv 2) (gA (aA (cO (aK (λΓ=>aI b (c.mono (by decide)) (by rfl) T.a0n T.a0l.kp (aZ T) .nil bE (gA (aA (aB (pv 0)) (aA (cM eJ (λΓ=>aV bK (by rfl) T.a1n bW (gA (aA (aB (pv 2)) aE) Γ))) aE)) Γ)))) aE) Γ)))) aE) Γ))))) Γ)))
  (aO (bP (aB (pv 3)))))))
def aS0(T:Txt K mg a)(b:FnOk P w K mg base CX0 1 a.a0C a.a0q ["_law_box_here","_law_many"] (dsp 2 aN)):FnOk P w K mg base CX0 2 a.a2l a.a1l ["_law_box_here","_law_columns","_law_ceiling"] (dsp 3 fN):=by
 refine bU T.a1U wR (by decide) gM (λcdv A outer s H E c=>?_);have nd:=wR.nd;unfold gM;exact(aF (aP (i:=3) nd rfl (Or.inr rfl) (bH (gZ (aA ge_int (aA ge_int (aA ge_int (aA ge_int aE))))) (aK (λΓ=>aI b (c.mono (by decide)) (by rfl) T.a0n T.a0l.kp (aZ T) .nil bE (gA (aA (aB (pv 0)) (aA ge_int aE)) Γ))) (λ_ _=>rfl)))
  (aF (aP (i:=4) nd rfl (Or.inl rfl) (aK (λΓ=>aI b (c.mono (by decide)) (by rfl) T.a0n T.a0l.kp (aZ T) .nil bE (gA (aA (aB (pv 0)) (aA (bH (gZ (aA (cO (aW bL bM (aB (pv 2)) ge_int)) (aA ge_int aE))) (aK (λΓ=>aI b (c.mono (by decide)) (by rfl) T.a0n T.a0l.kp (aZ T) .nil bE (gA (aA (aB (pv 0)) (aA ge_int aE)) Γ))) (λ_ _=>rfl)) aE)) Γ))))
  (aO (bP (cM eV (λΓ=>bG bR (by rfl) T.a0s aY (gA (aA (cM fL (λΓ=>oB (id:="sorted") (U:="set") (eL rfl (aL4 c)) (by rfl) T.a1C eX (by rfl) T.a2S nP (gA (aA (eI (ow:=[5]) (bA (by decide)) (λΓ=>dL (csc [5] (by kernel_rfl)) (gI (aP1 (λΓ=>nE (by rfl) T.a2D (gA (aA (aB (pv 4)) aE) Γ)) cM8) Γ) (λ_ _ _ _=>(aU (i:=5) nd rfl (Or.inl rfl) (.inr rfl))) (bB (by decide)) (λ_ _ _ _=>dD) (λ_ _ _ _=>gE (cM eV (λΓ=>bG bR (by rfl) T.a0s aY (gA (aA (eI (ow:=[6]) (bA (by decide)) (λΓ=>dL (csc [6] (by kernel_rfl)) (gI (cP K (by rfl) (aB (pv 1))) Γ) (λ_ _ _ _=>(aU (i:=6) nd rfl (Or.inl rfl) (.inr rfl))) (bB (by decide)) (λ_ _ _ _=>dD) (λ_ _ _ _=>gE (cO (aK (λΓ=>aI b (c.mono (by decide)) (by rfl) T.a0n T.a0l.kp (aZ T) .nil bE (gA (aA (aB (pv 0)) (aA (aB (pv 3)) aE)) Γ)))) Γ))) aE) Γ))) Γ))) aE) Γ))) aE) Γ)))))))
def aM3(T:Txt K mg a)(b:FnOk P w K mg base CX0 2 a.a0U a.a0x ["_law_box_here","_law_things"] (dsp 2 eN))(c:FnOk P w K mg base CX0 1 a.a0C a.a0q ["_law_box_here","_law_many"] (dsp 2 aN))(d:FnOk P w K mg base CX0 2 a.a2l a.a1l ["_law_box_here","_law_columns","_law_ceiling"] (dsp 3 fN)):FnOk P w K mg base CX0 3 a.a1O a.a0R ["_law_box_here","_law_names_here","_law_ceiling"] (dsp 3 dE):=by
 refine bU T.a1G uQ (by decide) fO (λcdv A outer s H E e=>?_);have nd:=uQ.nd;unfold fO;exact(aF (aP (i:=3) nd rfl (Or.inl rfl) (cM eV (λΓ=>bG bR (by rfl) T.a0s aY (gA (aA (hV (aK (λΓ=>aI b (e.mono (by decide)) (by rfl) T.a2o T.a0M.kp (wW T) .nil bE (gA (aA (aB (pv 0)) (aA (aB (pv 1)) aE)) Γ))) jT (jU (aK (λΓ=>aI c (e.mono (by decide)) (by rfl) T.a0n T.a0l.kp (aZ T) .nil bE (gA (aA (aB (pv 0)) (aA (aW bL bM (cM eJ (λΓ=>aV bK (by rfl) T.a1n bW (gA (aA (aB (pv 1)) aE) Γ))) ge_int) aE)) Γ))))) aE) Γ))))
  (aO (bP (fU (aA (cO (aB (pv 3))) (aA (cO (aK (λΓ=>aI d (e.mono (by decide)) (by rfl) T.a2O T.a1U.kp (bC3 T) .nil bE (gA (aA (aB (pv 0)) (aA (aB (pv 3)) (aA (aB (pv 2)) aE))) Γ)))) aE))))))
def aM4(T:Txt K mg a)(b:FnOk P w K mg base CX0 1 a.a0C a.a0q ["_law_box_here","_law_many"] (dsp 2 aN)):FnOk P w K mg base CX0 2 a.a1N a.a0P ["_law_box_here","_law_many"] (dsp 2 dF):=by
 refine bU T.a1K uR (by decide) fP (λcdv A outer s H E c=>?_);have nd:=uR.nd;unfold fP;exact(aF (aP (i:=2) nd rfl (Or.inr rfl) eT)
  (aF (aP (i:=3) nd rfl (Or.inl rfl) (cO7 (sep:="") K (λΓ=>jG K (by rfl) F.plainAttrs_str F.slot_str_join F.type_str_join (bX4 K (by rfl)) cC1 (gA (aA (eI (ow:=[12]) (bA (by decide)) (λΓ=>dL (csc [12] (by kernel_rfl)) (gI (aP1 (λΓ=>nE (by rfl) T.a2D (gA (aA (aK (λΓ=>aI b (c.mono (by decide)) (by rfl) T.a0n T.a0l.kp (aZ T) .nil bE (gA (aA (aB (pv 0)) (aA ge_int aE)) Γ))) aE) Γ)) cM8) Γ) (λ_ _ _ _=>(aU (i:=12) nd rfl (Or.inl rfl) (.inr rfl))) (bB (by decide)) (λ_ _ _ _=>dD) (λ_ _ _ _=>gE (bH (aB (pv 2)) (aK (λΓ=>aI b (c.mono (by decide)) (by rfl) T.a0n T.a0l.kp (aZ T) .nil bE (gA (aA (aB (pv 0)) (aA ge_int aE)) Γ))) (λ_ _=>rfl)) Γ))) aE) Γ))))
  (aF (aP (i:=4) nd rfl (Or.inl rfl) (aK (λΓ=>aI b (c.mono (by decide)) (by rfl) T.a0n T.a0l.kp (aZ T) .nil bE (gA (aA (aB (pv 0)) (aA (aW bL bM (cM eJ (λΓ=>aV bK (by rfl) T.a1n bW (gA (aA (aB (pv 3)) aE) Γ))) ge_int) aE)) Γ))))
  (aF (aP (i:=5) nd rfl (Or.inl rfl) (aK (λΓ=>aI b (c.mono (by decide)) (by rfl) T.a0n T.a0l.kp (aZ T) .nil bE (gA (aA (aB (pv 0)) (aA ge_int aE)) Γ))))
  (aF (aP (i:=6) nd rfl (Or.inl rfl) (aK (λΓ=>aI b (c.mono (by decide)) (by rfl) T.a0n T.a0l.kp (aZ T) .nil bE (gA (aA (aB (pv 0)) (aA ge_int aE)) Γ))))
  (aF (mU (eF (jV c.units) (hZ (neg:=false)) (aB (pv 6)) ge_int (dG _)) (aF (dD1 (own:=[7,8,9]) (bK0 (iX (bA (by decide)) (iX (bA (by decide)) (iX (bA (by decide)) aO9)))) (λΓ=>yG (gE (cO (hV (hV (aB (pv 2)) (jU (aK (λΓ=>aI b (c.mono (by decide)) (by rfl) T.a0n T.a0l.kp (aZ T) .nil bE (gA (aA (aB (pv 0)) (aA ge_int aE)) Γ)))) jT) jT (jU ge_int))) Γ) (aA6 (n:=3) K rfl rfl (iU (aU (i:=7) nd rfl (Or.inl rfl)) (iU (aU (i:=8) nd rfl (Or.inl rfl)) (iU (aU (i:=9) nd rfl (Or.inl rfl)) aN8))))))
  (aF (aP (i:=10) nd rfl (Or.inl rfl) (gZ (aA (cO (aB (pv 7))) (aA (cO (aW bL bM (aB (pv 7)) (aB (pv 8)))) (aA (cO (aB (pv 8))) (aA (cO (aW bL bM (aB (pv 8)) (aB (pv 9)))) aE))))))
  (aO (bP (hV (aW bL bM (aB (pv 10)) (gZ (aA (cO (aB (pv 9))) (aA (cO (aW bL bM (aB (pv 7)) (aB (pv 9)))) (aA (cO (aW bL bM (aW bL bM (aB (pv 7)) (aB (pv 8))) (aB (pv 9)))) (aA (cO (aW bL bM (aB (pv 9)) (aB (pv 8)))) aE)))))) jT (jU (aB (pv 1)))))))) eG)
  (aF (aP (i:=11) nd rfl (Or.inl rfl) (gZ aE))
  (aF (mP (own:=[12]) (bA (by decide)) (λΓ=>iN a7e rfl (gI (aP1 (λΓ=>nE (by rfl) T.a2D (gA (aA (aB (pv 1)) aE) Γ)) cM8) Γ) (aU (i:=12) nd rfl (Or.inl rfl))
  (gSs (aF (aP (i:=13) nd rfl (Or.inl rfl) (aW bL bM (aW bL bM (hV (aB (pv 3)) jT (jU (aB (pv 4)))) (bH (aB (pv 2)) (aW gW iL (aW bL bM (aB (pv 5)) (aW gH gJ ge_int (aB (pv 12)))) ge_int) (λ_ _=>rfl))) (hV (aB (pv 3)) (jU (aB (pv 4))) jT)))
  (aO (oS (wD aB5 (λΓ=>jG K (by rfl) a9d a0f a1f fB (pv 11) (gA (aA (cO (aW bL bM (aB (pv 13)) (aW gH gJ eT (cM bL0 (λΓ=>bG aE9 (by rfl) T.a2Y aB8 (gA (aA (aV4 (pH (jV c.units) (hZ (neg:=false)) (aB (pv 6)) ge_int (dG _)) (aV3 (pH (jV c.units) (hZ (neg:=false)) (aW gW iL (aB (pv 12)) ge_int) ge_int (dG _)))) aE) Γ)))))) aE) Γ)))))) Γ)))
  (aF (aP (i:=14) nd rfl (Or.inl rfl) (gZ (aA eT (aA eT (aA eT (aA eT (aA eT (aA eT aE))))))))
  (aF (aP (i:=14) nd rfl (Or.inl rfl) (aW bL bM (aB (pv 14)) (gZ (aA eT (aA eT (aA eT (aA eT (aA eT aE))))))))
  (aF (aP (i:=13) nd rfl (Or.inl rfl) (bH (aB (pv 14)) (aK (λΓ=>aI b (c.mono (by decide)) (by rfl) T.a0n T.a0l.kp (aZ T) .nil bE (gA (aA (aB (pv 0)) (aA ge_int aE)) Γ))) (λ_ _=>rfl)))
  (aF (mU (GW.gt (cD7 (eF (jV c.units) (hZ (neg:=false)) (aK (λΓ=>aI b (c.mono (by decide)) (by rfl) T.a0n T.a0l.kp (aZ T) .nil bE (gA (aA (aB (pv 0)) (aA ge_int aE)) Γ))) ge_int (dG _)) (bJ4 (eF (jW c.units) (wJ (neg:=true)) (aB (pv 13)) (aB (pv 11)) (by with_unfolding_all rfl))))) (aO (bL3 (k:=11) (λΓ=>yG (gE (cO (aB (pv 13))) Γ) (aE5 (pv 11) (gE (aK (λΓ=>aI b (c.mono (by decide)) (by rfl) T.a0n T.a0l.kp (aZ T) .nil bE (gA (aA (aB (pv 0)) (aA (aB (pv 1)) aE)) Γ))) Γ) nF)))) eG)
  (aO (bP (aB (pv 11))))))))))))))))
def aS1(T:Txt K mg a):FnOk P w K mg base CX0 1 a.a2k a.a1m ["_law_pieces_here"] (dsp 1 cH):=by
 refine bU T.a1x wT (by decide) gN (λcdv A outer s H E b=>?_);have nd:=wT.nd;unfold gN;exact(aF (aP (i:=1) nd rfl (Or.inl rfl) ge_int)
  (aF (mP (own:=[2,3]) (bK0 (iX (bA (by decide)) (iX (bA (by decide)) aO9))) (λΓ=>iN a7e rfl (gI (cP K (by rfl) (aB (pv 0))) Γ) (aA6 (n:=2) K rfl rfl (iU (aU (i:=2) nd rfl (Or.inl rfl)) (iU (aU (i:=3) nd rfl (Or.inl rfl)) aN8)))
  (gSs (aO (aP (i:=1) nd rfl (Or.inl rfl) (aW gH gJ (aB (pv 1)) (cM bX1 (λΓ=>aV (bG0 (by rfl)) (by rfl) T.a3m bX5 (gA (aA ge_int (aA (cM eJ (λΓ=>aV bK (by rfl) T.a1n bW (gA (aA (aB (pv 3)) aE) Γ))) aE)) Γ)))))) Γ)))
  (aO (bP (pH dM9 cN2 (aB (pv 1)) ge_int (dG _))))))
def bP5(T:Txt K mg a):FnOk P w K mg base CX0 1 a.a2u a.a0W ["_law_columns","_law_row","_law_some_here"] (dsp 3 bQ):=by
 refine bU T.a0Z aJ3 (by decide) gO (λcdv A outer s H E b=>?_);have nd:=aJ3.nd;unfold gO;exact(aO (bP (cM eV (λΓ=>bG bR (by rfl) T.a0s aY (gA (aA (eI (ow:=[3]) (bA (by decide)) (λΓ=>dL (csc [3] (by kernel_rfl)) (gI (cP K (by rfl) (aB (pv 2))) Γ) (λ_ _ _ _=>(aU (i:=3) nd rfl (Or.inl rfl) (.inr rfl))) (bB (by decide)) (λ_ _ _ _=>dD) (λ_ _ _ _=>gE (bH (aB (pv 1)) (dF7 aY2 (λΓ=>cF0 F.slot_tuple_index F.type_tuple_index aL9 (gE (aB (pv 0)) Γ) (gA (aA (aB (pv 3)) aE) Γ))) (λ_ _=>rfl)) Γ))) aE) Γ)))))
def aD0(T:Txt K mg a)(b:FnOk P w K mg base CX0 1 a.a2u a.a0W ["_law_columns","_law_row","_law_some_here"] (dsp 3 bQ)):FnOk P w K mg base CX0 2 a.a1E a.a0I ["_law_table_here","_law_some_here"] (dsp 2 bF):=by
 refine bU T.a0E nQ (by decide) eO (λcdv A outer s H E c=>?_);have nd:=nQ.nd;unfold eO;exact(aF (aP (i:=2) nd rfl (Or.inl rfl) (gZ aE))
  (aF (mP (own:=[3]) (bA (by decide)) (λΓ=>iN a7e rfl (gI (cP K (by rfl) (aB (pv 1))) Γ) (aU (i:=3) nd rfl (Or.inr rfl))
  (gSs (aO (oS (wD aB5 (λΓ=>jG K (by rfl) a9d a0f a1f fB (pv 2) (gA (aA (fU (aA (cO (aB (pv 3))) (aA (cM eV (λΓ=>bG bR (by rfl) T.a0s aY (gA (aA (cM fL (λΓ=>oB (id:="sorted") (U:="set") (eL rfl (aL4 c)) (by rfl) T.a1C eX (by rfl) T.a2S nP (gA (aA (eI (ow:=[4]) (bA (by decide)) (λΓ=>dL (csc [4] (by kernel_rfl)) (gI (cP K (by rfl) (bH (aB (pv 0)) ge_int (λ_ _=>rfl))) Γ) (λ_ _ _ _=>(aU (i:=4) nd rfl (Or.inl rfl) (.inr rfl))) (bB (by decide)) (λ_ _ _ _=>dD) (λ_ _ _ _=>gE (cO (aK (λΓ=>aI b (c.mono (by decide)) (by rfl) T.a1R T.a0Z.kp (nU T) .nil bE (gA (aA (bH (aB (pv 0)) ge_int (λ_ _=>rfl)) (aA (aB (pv 4)) (aA (aB (pv 3)) aE))) Γ)))) Γ))) aE) Γ))) aE) Γ))) aE))) aE) Γ))))) Γ)))
  (aO (bP (aB (pv 2))))))
def aM5(T:Txt K mg a):FnOk P w K mg base CX0 1 a.a0p a.a0w ["columns","some"] (dsp 2 bC):=by
 refine bU T.a0A uT (by decide) cY (λcdv A outer s H E b=>?_);have nd:=uT.nd;unfold cY;exact(aO (bP (eI (ow:=[2]) (bA (by decide)) (λΓ=>dL (csc [2] (by kernel_rfl)) (gI (cP K (by rfl) (aB (pv 1))) Γ) (λ_ _ _ _=>(aU (i:=2) nd rfl (Or.inl rfl) (.inr rfl))) (bB (by decide)) (λ_ _ _ _=>dD) (λ_ _ _ _=>gE (cO (dF7 aY2 (λΓ=>cF0 F.slot_tuple_index F.type_tuple_index aL9 (gE (aB (pv 0)) Γ) (gA (aA (aB (pv 2)) aE) Γ)))) Γ)))))
def aS2(T:Txt K mg a):FnOk P w K mg base CX0 1 a.a0v a.a0L ["columns","rows"] (dsp 2 cZ):=by
 refine bU T.a1t wU (by decide) gP (λcdv A outer s H E b=>?_);have nd:=wU.nd;unfold gP;exact(aO (bP (fU (aA (cM eV (λΓ=>bG bR (by rfl) T.a0s aY (gA (aA (aB (pv 0)) aE) Γ))) (aA (cM eV (λΓ=>bG bR (by rfl) T.a0s aY (gA (aA (cM fL (λΓ=>oB (id:="sorted") (U:="set") (eL rfl (aL4 b)) (by rfl) T.a1C eX (by rfl) T.a2S nP (gA (aA (aB (pv 1)) aE) Γ))) aE) Γ))) aE)))))
def bP6(T:Txt K mg a):FnOk P w K mg base CX0 1 a.picked a.a0V ["row","places"] (dsp 2 cT):=by
 refine bU T.a1u aJ4 (by decide) lU (λcdv A outer s H E b=>?_);have nd:=aJ4.nd;unfold lU;exact(aO (bP (cM eV (λΓ=>bG bR (by rfl) T.a0s aY (gA (aA (eI (ow:=[2]) (bA (by decide)) (λΓ=>dL (csc [2] (by kernel_rfl)) (gI (cP K (by rfl) (aB (pv 1))) Γ) (λ_ _ _ _=>(aU (i:=2) nd rfl (Or.inl rfl) (.inr rfl))) (bB (by decide)) (λ_ _ _ _=>dD) (λ_ _ _ _=>gE (bH (aB (pv 0)) (aB (pv 2)) (λ_ _=>rfl)) Γ))) aE) Γ)))))
def dI0(T:Txt K mg a)(b:FnOk P w K mg base CX0 1 a.a0p a.a0w ["columns","some"] (dsp 2 bC))(c:FnOk P w K mg base CX0 1 a.a0v a.a0L ["columns","rows"] (dsp 2 cZ))(d:FnOk P w K mg base CX0 1 a.picked a.a0V ["row","places"] (dsp 2 cT)):FnOk P w K mg base CX0 2 a.cut a.a2H ["table","columns"] (dsp 2 lV):=by
 refine bU T.a2V cE2 (by decide) aM1 (λcdv A outer s H E e=>?_);have nd:=cE2.nd;unfold aM1;exact(aF (aP (i:=2) nd rfl (Or.inr rfl) (aK (λΓ=>aI b (e.mono (by decide)) (by rfl) T.a1k T.a0A.kp (jA T) .nil bE (gA (aA (bH (aB (pv 0)) ge_int (λ_ _=>rfl)) (aA (aB (pv 1)) aE)) Γ))))
  (aO (bP (aK (λΓ=>aI c (e.mono (by decide)) (by rfl) T.a2w T.a1t.kp (zG T) .nil bE (gA (aA (aB (pv 1)) (aA (eI (ow:=[3]) (bA (by decide)) (λΓ=>dL (csc [3] (by kernel_rfl)) (gI (cP K (by rfl) (bH (aB (pv 0)) ge_int (λ_ _=>rfl))) Γ) (λ_ _ _ _=>(aU (i:=3) nd rfl (Or.inl rfl) (.inr rfl))) (bB (by decide)) (λ_ _ _ _=>dD) (λ_ _ _ _=>gE (cO (aK (λΓ=>aI d (e.mono (by decide)) (by rfl) T.a2m T.a1u.kp (vK T) .nil bE (gA (aA (aB (pv 3)) (aA (aB (pv 2)) aE)) Γ)))) Γ))) aE)) Γ))))))
def bZ5(T:Txt K mg a)(b:FnOk P w K mg base CX0 2 a.cut a.a2H ["table","columns"] (dsp 2 lV)):FnOk P w K mg base CX0 3 a.apart a.a1P ["table","some"] (dsp 2 dS):=by
 refine bU T.a2n aW7 (by decide) oF (λcdv A outer s H E c=>?_);have nd:=aW7.nd;unfold oF;exact(aO (bP (eI (ow:=[2]) (bA (by decide)) (λΓ=>dL (csc [2] (by kernel_rfl)) (gI (cP K (by rfl) (aB (pv 1))) Γ) (λ_ _ _ _=>(aU (i:=2) nd rfl (Or.inl rfl) (.inr rfl))) (bB (by decide)) (λ_ _ _ _=>dD) (λ_ _ _ _=>gE (cO (aK (λΓ=>aI b (c.mono (by decide)) (by rfl) T.a2Z T.a2V.kp (dF0 T) .nil bE (gA (aA (aB (pv 0)) (aA (aB (pv 2)) aE)) Γ)))) Γ)))))
def aM6(T:Txt K mg a):FnOk P w K mg base CX0 1 a.a1S a.a0O ["_law_found"] (dsp 1 eP):=by
 refine bU T.a1J uU (by decide) fQ (λcdv A outer s H E b=>?_);have nd:=uU.nd;unfold fQ;exact(aO (bP (aV4 (pM (c:="int") K (by decide) (λΓ=>aV (fH K (by rfl)) (by rfl) T.a0t bN (aS (gE (aB (pv 0)) Γ) (aS (jK (v:=.ty "int") (by rfl) T.a2Y aB8 rfl) bY)))) (aV3 (dC8 (pM (c:="bool") K (by decide) (λΓ=>aV (fH K (by rfl)) (by rfl) T.a0t bN (aS (gE (aB (pv 0)) Γ) (aS (jK (v:=.ty "bool") (by rfl) T.a3l bM1 rfl) bY)))))))))
def xK(T:Txt K mg a)(d:FnOk P w K mg base CX0 1 a.a1S a.a0O ["_law_found"] (dsp 1 eP)):FnOk P w K mg base CX0 2 a.a0Q a.a0z ["_law_found","_law_columns","_law_rows_here"] (dsp 3 bX):=by
 refine bU T.a0S lM (by decide) dA (λcdv A outer s H E b=>?_);have nd:=lM.nd;unfold dA;exact(aF (mU (GW.gt (bB7 (mO (mM (pM (c:="tuple") K (by decide) (λΓ=>aV (fH K (by rfl)) (by rfl) T.a0t bN (aS (gE (aB (pv 0)) Γ) (aS (jK (v:=.ty "tuple") (by rfl) T.a0s aY rfl) bY)))))) (bB7 (eF (bL5 b.units) (hZ (neg:=true)) (cM eJ (λΓ=>aV bK (by rfl) T.a1n bW (gA (aA (aB (pv 0)) aE) Γ))) ge_int (dG _)) (aV2 (mO (mM (pM (c:="tuple") K (by decide) (λΓ=>aV (fH K (by rfl)) (by rfl) T.a0t bN (aS (gE (bH (aB (pv 0)) ge_int (λ_ _=>rfl)) Γ) (aS (jK (v:=.ty "tuple") (by rfl) T.a0s aY rfl) bY)))))))))) (aO (bP bJ2)) eG)
  (aF (mP (own:=[3]) (bA (by decide)) (λΓ=>iN a7e rfl (gI (cP K (by rfl) (bH (aB (pv 0)) ge_int (λ_ _=>rfl))) Γ) (aU (i:=3) nd rfl (Or.inl rfl))
  (gSs (aO (mU (GW.gt (bB7 (mO (mM (pM (c:="tuple") K (by decide) (λΓ=>aV (fH K (by rfl)) (by rfl) T.a0t bN (aS (gE (aB (pv 3)) Γ) (aS (jK (v:=.ty "tuple") (by rfl) T.a0s aY rfl) bY)))))) (aV2 (mO (mM (cM bK9 (λΓ=>aV (aG9 K (by rfl) (by rfl)) (by rfl) T.a3k aW6 (gA (aA (eI (ow:=[4]) (bA (by decide)) (λΓ=>dL (csc [4] (by kernel_rfl)) (gI (cP K (by rfl) (aB (pv 3))) Γ) (λ_ _ _ _=>(aU (i:=4) nd rfl (Or.inl rfl) (.inr rfl))) (bB (by decide)) (λ_ _ _ _=>dD) (λ_ _ _ _=>gE (cO (aK (λΓ=>aI d (b.mono (by decide)) (by rfl) T.a2J T.a1J.kp (aQ2 T) .nil bE (gA (aA (aB (pv 4)) aE) Γ)))) Γ))) aE) Γ)))))))) (aO (bP bJ2)) eG)) Γ)))
  (aO (bP (aV4 (pH (jV b.units) (hZ (neg:=false)) (bH (aB (pv 0)) ge_int (λ_ _=>rfl)) (cM eV (λΓ=>bG bR (by rfl) T.a0s aY (gA (aA (aB (pv 1)) aE) Γ))) (dG _)) (aV3 (pH (jV b.units) (hZ (neg:=false)) (bH (aB (pv 0)) ge_int (λ_ _=>rfl)) (cM eV (λΓ=>bG bR (by rfl) T.a0s aY (gA (aA (cM fL (λΓ=>oB (id:="sorted") (U:="set") (eL rfl (aL4 b)) (by rfl) T.a1C eX (by rfl) T.a2S nP (gA (aA (aB (pv 2)) aE) Γ))) aE) Γ))) (dG _))))))))
def aD1(T:Txt K mg a)(b:FnOk P w K mg base CX0 1 a.a2u a.a0W ["_law_columns","_law_row","_law_some_here"] (dsp 3 bQ)):FnOk P w K mg base CX0 2 a.a1B a.a0H ["_law_one","_law_other"] (dsp 2 cU):=by
 refine bU T.a1o nR (by decide) eQ (λcdv A outer s H E c=>?_);have nd:=nR.nd;unfold eQ;exact(aF (mE (ow:=[7]) (i:=2) (bA (by decide)) (λΓ=>lY (i:=2) nd rfl rfl (csc [7] (by kernel_rfl)) (gI (cP K (by rfl) (bH (aB (pv 0)) ge_int (λ_ _=>rfl))) Γ) (λ_ _ _ _=>(aU (i:=7) nd rfl (Or.inl rfl) (.inr rfl))) (bB (by decide)) (λ_ _ _ _=>(nN (eF (cD8 c.units) (wJ (neg:=false)) (aB (pv 7)) (bH (aB (pv 1)) ge_int (λ_ _=>rfl)) (by with_unfolding_all rfl)))) (λ_ _ _ _=>gE (cO (aB (pv 7))) Γ) rfl))
  (aF (mE (ow:=[7]) (i:=3) (bA (by decide)) (λΓ=>lY (i:=3) nd rfl rfl (csc [7] (by kernel_rfl)) (gI (cP K (by rfl) (bH (aB (pv 1)) ge_int (λ_ _=>rfl))) Γ) (λ_ _ _ _=>(aU (i:=7) nd rfl (Or.inl rfl) (.inr rfl))) (bB (by decide)) (λ_ _ _ _=>(nN (eF (jW c.units) (wJ (neg:=true)) (aB (pv 7)) (bH (aB (pv 0)) ge_int (λ_ _=>rfl)) (by with_unfolding_all rfl)))) (λ_ _ _ _=>gE (cO (aB (pv 7))) Γ) rfl))
  (aF (aP (i:=4) nd rfl (Or.inl rfl) (gZ aE))
  (aF (mP (own:=[5]) (bA (by decide)) (λΓ=>iN a7e rfl (gI (cP K (by rfl) (bH (aB (pv 0)) ge_int (λ_ _=>rfl))) Γ) (aU (i:=5) nd rfl (Or.inl rfl))
  (gSs (aO (mP (own:=[6]) (bA (by decide)) (λΓ=>iN a7e rfl (gI (cP K (by rfl) (bH (aB (pv 1)) ge_int (λ_ _=>rfl))) Γ) (aU (i:=6) nd rfl (Or.inl rfl))
  (gSs (aO (mU (eF (jV c.units) (hZ (neg:=false)) (aK (λΓ=>aI b (c.mono (by decide)) (by rfl) T.a1R T.a0Z.kp (nU T) .nil bE (gA (aA (bH (aB (pv 0)) ge_int (λ_ _=>rfl)) (aA (aB (pv 5)) (aA (aB (pv 2)) aE))) Γ))) (aK (λΓ=>aI b (c.mono (by decide)) (by rfl) T.a1R T.a0Z.kp (nU T) .nil bE (gA (aA (bH (aB (pv 1)) ge_int (λ_ _=>rfl)) (aA (aB (pv 6)) (aA (aB (pv 2)) aE))) Γ))) (dG _)) (aO (oS (wD aB5 (λΓ=>jG K (by rfl) a9d a0f a1f fB (pv 4) (gA (aA (cO (aW bL bM (aB (pv 5)) (aK (λΓ=>aI b (c.mono (by decide)) (by rfl) T.a1R T.a0Z.kp (nU T) .nil bE (gA (aA (bH (aB (pv 1)) ge_int (λ_ _=>rfl)) (aA (aB (pv 6)) (aA (aB (pv 3)) aE))) Γ))))) aE) Γ))))) eG)) Γ)))) Γ)))
  (aO (bP (fU (aA (aW bL bM (bH (aB (pv 0)) ge_int (λ_ _=>rfl)) (cM eV (λΓ=>bG bR (by rfl) T.a0s aY (gA (aA (aB (pv 3)) aE) Γ)))) (aA (cM eV (λΓ=>bG bR (by rfl) T.a0s aY (gA (aA (cM fL (λΓ=>oB (id:="sorted") (U:="set") (eL rfl (aL4 c)) (by rfl) T.a1C eX (by rfl) T.a2S nP (gA (aA (aB (pv 4)) aE) Γ))) aE) Γ))) aE)))))))))
def bD9(T:Txt K mg a)(c:FnOk P w K mg base CX0 2 a.a1B a.a0H ["_law_one","_law_other"] (dsp 2 cU))(d:FnOk P w K mg base CX0 1 a.a2u a.a0W ["_law_columns","_law_row","_law_some_here"] (dsp 3 bQ)):FnOk P w K mg base CX0 3 a.a2z a.a1w ["_law_table_here","_law_pieces_here"] (dsp 2 eY):=by
 refine bU T.a2q zD (by decide) iS (λcdv A outer s H E b=>?_);have nd:=zD.nd;unfold iS;exact(aF (aP (i:=2) nd rfl (Or.inr rfl) (bH (aB (pv 1)) ge_int (λ_ _=>rfl)))
  (aF (mP (own:=[3]) (bA (by decide)) (λΓ=>iN a7e rfl (gI (cP K (by rfl) (hV (aB (pv 1)) (jU ge_int) jT)) Γ) (aU (i:=3) nd rfl (Or.inl rfl))
  (gSs (aO (aP (i:=2) nd rfl (Or.inr rfl) (aK (λΓ=>aI c (b.mono (by decide)) (by rfl) T.a2G T.a1o.kp (aJ7 T) .nil bE (gA (aA (aB (pv 2)) (aA (aB (pv 3)) aE)) Γ))))) Γ)))
  (aF (aP (i:=4) nd rfl (Or.inl rfl) (cM bO4 (λΓ=>aV bD5 (by rfl) T.a1C eX (gA (aA (eI (ow:=[6]) (bA (by decide)) (λΓ=>dL (csc [6] (by kernel_rfl)) (gI (cP K (by rfl) (bH (aB (pv 2)) ge_int (λ_ _=>rfl))) Γ) (λ_ _ _ _=>(aU (i:=6) nd rfl (Or.inl rfl) (.inr rfl))) (bB (by decide)) (λ_ _ _ _=>dD) (λ_ _ _ _=>gE (cO (aK (λΓ=>aI d (b.mono (by decide)) (by rfl) T.a1R T.a0Z.kp (nU T) .nil bE (gA (aA (bH (aB (pv 2)) ge_int (λ_ _=>rfl)) (aA (aB (pv 6)) (aA (bH (aB (pv 0)) ge_int (λ_ _=>rfl)) aE))) Γ)))) Γ))) aE) Γ))))
  (aF (mE (ow:=[6]) (i:=5) (bA (by decide)) (λΓ=>lY (i:=5) nd rfl rfl (csc [6] (by kernel_rfl)) (gI (cP K (by rfl) (aB (pv 4))) Γ) (λ_ _ _ _=>(aU (i:=6) nd rfl (Or.inl rfl) (.inr rfl))) (bB (by decide)) (λ_ _ _ _=>(nN (eF (jW b.units) (wJ (neg:=true)) (aB (pv 6)) (bH (aB (pv 0)) ge_int (λ_ _=>rfl)) (by with_unfolding_all rfl)))) (λ_ _ _ _=>gE (cO (aB (pv 6))) Γ) rfl))
  (aF (mU (eF (jV b.units) (hZ (neg:=false)) (aB (pv 5)) (gZ aE) (dG _)) (aO (bP (fU (aA eT aE)))) eG)
  (aO (bP (fU (aA eT (aA (bH (aB (pv 5)) ge_int (λ_ _=>rfl)) aE))))))))))
def pA(T:Txt K mg a):FnOk P w K mg base CX0 1 a.a0m a.a0u ["one","other"] (dsp 2 bZ):=by
 refine bU T.a0F iQ (by decide) cE (λcdv A outer s H E b=>?_);have nd:=iQ.nd;unfold cE;exact(aO (bP (eI (ow:=[2]) (bA (by decide)) (λΓ=>dL (csc [2] (by kernel_rfl)) (gI (cP K (by rfl) (bH (aB (pv 0)) ge_int (λ_ _=>rfl))) Γ) (λ_ _ _ _=>(aU (i:=2) nd rfl (Or.inl rfl) (.inr rfl))) (bB (by decide)) (λ_ _ _ _=>(nN (eF (cD8 b.units) (wJ (neg:=false)) (aB (pv 2)) (bH (aB (pv 1)) ge_int (λ_ _=>rfl)) (by with_unfolding_all rfl)))) (λ_ _ _ _=>gE (cO (aB (pv 2))) Γ)))))
def bE0(T:Txt K mg a)(b:FnOk P w K mg base CX0 1 a.picked a.a0V ["row","places"] (dsp 2 cT))(c:FnOk P w K mg base CX0 1 a.a0p a.a0w ["columns","some"] (dsp 2 bC)):FnOk P w K mg base CX0 2 a.grouped a.a1A ["table","columns","others"] (dsp 3 gQ):=by
 refine bU T.a2p zE (by decide) iT (λcdv A outer s H E d=>?_);have nd:=zE.nd;unfold iT;exact(aF (aP (i:=3) nd rfl (Or.inl rfl) (aK (λΓ=>aI c (d.mono (by decide)) (by rfl) T.a1k T.a0A.kp (jA T) .nil bE (gA (aA (bH (aB (pv 0)) ge_int (λ_ _=>rfl)) (aA (aB (pv 1)) aE)) Γ))))
  (aF (aP (i:=4) nd rfl (Or.inl rfl) (aK (λΓ=>aI c (d.mono (by decide)) (by rfl) T.a1k T.a0A.kp (jA T) .nil bE (gA (aA (bH (aB (pv 0)) ge_int (λ_ _=>rfl)) (aA (aB (pv 2)) aE)) Γ))))
  (cR0 (K:=K) (g:=5) (row:=6) (by decide) (pC (i:=5) nd rfl (Or.inl rfl) bV8) (λΓ=>iN a7e rfl (gI (cP K (by rfl) (bH (aB (pv 0)) ge_int (λ_ _=>rfl))) Γ) (aU (i:=6) nd rfl (Or.inl rfl)) (gD (vS (jG K (by rfl) a9d a0f a1f fB (dG2 (dA0 d) (pv 5) (gE (aK (λΓ=>aI b (d.mono (by decide)) (by rfl) T.a2m T.a1u.kp (vK T) .nil bE (gA (aA (aB (pv 6)) (aA (aB (pv 3)) aE)) Γ))) Γ) (aT9 bY) ⟨rfl,rfl,rfl,rfl⟩) (gA (aA (cO (aK (λΓ=>aI b (d.mono (by decide)) (by rfl) T.a2m T.a1u.kp (vK T) .nil bE (gA (aA (aB (pv 6)) (aA (aB (pv 4)) aE)) Γ)))) aE) Γ))))) (yF (dQ7 (pv 5))))))
def bP7(T:Txt K mg a)(c:FnOk P w K mg base CX0 1 a.a0m a.a0u ["one","other"] (dsp 2 bZ))(d:FnOk P w K mg base CX0 2 a.grouped a.a1A ["table","columns","others"] (dsp 3 gQ))(e:FnOk P w K mg base CX0 1 a.a0p a.a0w ["columns","some"] (dsp 2 bC))(f:FnOk P w K mg base CX0 1 a.picked a.a0V ["row","places"] (dsp 2 cT))(g:FnOk P w K mg base CX0 1 a.a0v a.a0L ["columns","rows"] (dsp 2 cZ)):FnOk P w K mg base CX0 3 a.joined a.a1T ["one","other"] (dsp 2 gC):=by
 refine bU T.a2A aJ5 (by decide) lW (λcdv A outer s H E b=>?_);have nd:=aJ5.nd;unfold lW;exact(aF (aP (i:=2) nd rfl (Or.inl rfl) (aK (λΓ=>aI c (b.mono (by decide)) (by rfl) T.a1Y T.a0F.kp (vB T) .nil bE (gA (aA (aB (pv 0)) (aA (aB (pv 1)) aE)) Γ))))
  (aF (mE (ow:=[8]) (i:=3) (bA (by decide)) (λΓ=>lY (i:=3) nd rfl rfl (csc [8] (by kernel_rfl)) (gI (cP K (by rfl) (bH (aB (pv 1)) ge_int (λ_ _=>rfl))) Γ) (λ_ _ _ _=>(aU (i:=8) nd rfl (Or.inl rfl) (.inr rfl))) (bB (by decide)) (λ_ _ _ _=>(nN (eF (jW b.units) (wJ (neg:=true)) (aB (pv 8)) (bH (aB (pv 0)) ge_int (λ_ _=>rfl)) (by with_unfolding_all rfl)))) (λ_ _ _ _=>gE (cO (aB (pv 8))) Γ) rfl))
  (aF (aP (i:=4) nd rfl (Or.inl rfl) (aK (λΓ=>aI d (b.mono (by decide)) (by rfl) T.a2T T.a2p.kp (bM3 T) .nil bE (gA (aA (aB (pv 1)) (aA (aB (pv 2)) (aA (aB (pv 3)) aE))) Γ))))
  (aF (aP (i:=5) nd rfl (Or.inl rfl) (aK (λΓ=>aI e (b.mono (by decide)) (by rfl) T.a1k T.a0A.kp (jA T) .nil bE (gA (aA (bH (aB (pv 0)) ge_int (λ_ _=>rfl)) (aA (aB (pv 2)) aE)) Γ))))
  (aF (aP (i:=6) nd rfl (Or.inl rfl) (gZ aE))
  (aF (mP (own:=[7]) (bA (by decide)) (λΓ=>iN a7e rfl (gI (cP K (by rfl) (bH (aB (pv 0)) ge_int (λ_ _=>rfl))) Γ) (aU (i:=7) nd rfl (Or.inr rfl))
  (gSs (aO (oS (cM4 cN7 (λΓ=>jG K (by rfl) a9d F.slot_list_extend F.type_list_extend cN6 (pv 6) (gA (aA (eI (ow:=[9]) (bA (by decide)) (λΓ=>dL (csc [9] (by kernel_rfl)) (gI (cP K (by rfl) (cR4 (dA0 b) (aB (pv 4)) (aK (λΓ=>aI f (b.mono (by decide)) (by rfl) T.a2m T.a1u.kp (vK T) .nil bE (gA (aA (aB (pv 7)) (aA (aB (pv 5)) aE)) Γ))) (gZ aE) ⟨rfl,rfl,rfl,rfl⟩)) Γ) (λ_ _ _ _=>(aU (i:=9) nd rfl (Or.inl rfl) (.inr rfl))) (bB (by decide)) (λ_ _ _ _=>dD) (λ_ _ _ _=>gE (cO (aW bL bM (aB (pv 7)) (aB (pv 9)))) Γ))) aE) Γ))))) Γ)))
  (aO (bP (aK (λΓ=>aI g (b.mono (by decide)) (by rfl) T.a2w T.a1t.kp (zG T) .nil bE (gA (aA (aW bL bM (bH (aB (pv 0)) ge_int (λ_ _=>rfl)) (cM eV (λΓ=>bG bR (by rfl) T.a0s aY (gA (aA (aB (pv 3)) aE) Γ)))) (aA (aB (pv 6)) aE)) Γ)))))))))))
def aD2(T:Txt K mg a)(b:FnOk P w K mg base CX0 3 a.joined a.a1T ["one","other"] (dsp 2 gC)):FnOk P w K mg base CX0 4 a.a0o a.a0J ["tables"] (dsp 1 dU):=by
 refine bU T.a1s nT (by decide) eR (λcdv A outer s H E c=>?_);have nd:=nT.nd;unfold eR;exact(aF (aP (i:=1) nd rfl (Or.inl rfl) (fU (aA (fU aE) (aA (fU (aA (fU aE) aE)) aE))))
  (aF (mP (own:=[2]) (bA (by decide)) (λΓ=>iN a7e rfl (gI (cP K (by rfl) (aB (pv 0))) Γ) (aU (i:=2) nd rfl (Or.inl rfl))
  (gSs (aO (aP (i:=1) nd rfl (Or.inl rfl) (aK (λΓ=>aI b (c.mono (by decide)) (by rfl) T.a2W T.a2A.kp (bX7 T) .nil bE (gA (aA (aB (pv 1)) (aA (aB (pv 2)) aE)) Γ))))) Γ)))
  (aO (bP (aB (pv 1))))))
def aS3(T:Txt K mg a)(c:FnOk P w K mg base CX0 2 a.cut a.a2H ["table","columns"] (dsp 2 lV))(d:FnOk P w K mg base CX0 4 a.a0o a.a0J ["tables"] (dsp 1 dU))(e:FnOk P w K mg base CX0 3 a.apart a.a1P ["table","some"] (dsp 2 dS)):FnOk P w K mg base CX0 5 a.together a.a0Y ["table","some"] (dsp 2 cI):=by
 refine bU T.a1z wV (by decide) gU (λcdv A outer s H E b=>?_);have nd:=wV.nd;unfold gU;exact(aF (aP (i:=2) nd rfl (Or.inl rfl) (aK (λΓ=>aI c (b.mono (by decide)) (by rfl) T.a2Z T.a2V.kp (dF0 T) .nil bE (gA (aA (aK (λΓ=>aI d (b.mono (by decide)) (by rfl) T.a2F T.a1s.kp (aJ8 T) .nil bE (gA (aA (aK (λΓ=>aI e (b.mono (by decide)) (by rfl) T.a2K T.a2n.kp (aQ1 T) .nil bE (gA (aA (aB (pv 0)) (aA (aB (pv 1)) aE)) Γ))) aE) Γ))) (aA (bH (aB (pv 0)) ge_int (λ_ _=>rfl)) aE)) Γ))))
  (aF (mP (own:=[3]) (bA (by decide)) (λΓ=>iN a7e rfl (gI (cP K (by rfl) (bH (aB (pv 2)) ge_int (λ_ _=>rfl))) Γ) (aU (i:=3) nd rfl (Or.inl rfl))
  (gSs (aO (mU (eF (jW b.units) (wJ (neg:=true)) (aB (pv 3)) (bH (aB (pv 0)) ge_int (λ_ _=>rfl)) (by with_unfolding_all rfl)) (aO (bP (fU (aA eT (aA (cO (aB (pv 3))) aE))))) eG)) Γ)))
  (aO (bP (fU (aA eT aE))))))
def dI1(T:Txt K mg a)(e:FnOk P w K mg base CX0 1 a.a2B a.a1v ["_law_script","_law_k"] (dsp 2 cX))(j:FnOk P w K mg base CX0 3 a.a1O a.a0R ["_law_box_here","_law_names_here","_law_ceiling"] (dsp 3 dE))(k:FnOk P w K mg base CX0 2 a.a1N a.a0P ["_law_box_here","_law_many"] (dsp 2 dF))(l:FnOk P w K mg base CX0 3 a.a1Z a.a0X ["_law_box_here","_law_columns"] (bW9 2 cS))(f:FnOk P w K mg base CX0 1 a.a2k a.a1m ["_law_pieces_here"] (dsp 1 cH))(d:FnOk P w K mg base CX0 2 a.a1E a.a0I ["_law_table_here","_law_some_here"] (dsp 2 bF))(g:FnOk P w K mg base CX0 3 a.apart a.a1P ["table","some"] (dsp 2 dS))(m:FnOk P w K mg base CX0 2 a.a0Q a.a0z ["_law_found","_law_columns","_law_rows_here"] (dsp 3 bX))(o:FnOk P w K mg base CX0 3 a.a2z a.a1w ["_law_table_here","_law_pieces_here"] (dsp 2 eY))(h:FnOk P w K mg base CX0 5 a.together a.a0Y ["table","some"] (dsp 2 cI)):FnOk P w K mg base CX0 6 a.law a.a2X ["_law_script"] (bW9 1 xJ):=by
 refine bK3 T.a3p cE3 (by decide) zP aR8 (λcdv A outer s H E b=>GM.to ?_);have nd:=cE3.nd;unfold zP;exact(aR7 (bO5 (aP (i:=1) nd rfl (Or.inl rfl) (aK (λΓ=>aI e (b.mono (by decide)) (by rfl) T.a2E T.a1M.kp (aJ6 T) .nil bE (gA (aA (aB (pv 0)) (aA ge_int aE)) Γ)))))
  (aR7 (bO5 (aP (i:=2) nd rfl (Or.inl rfl) (aK (λΓ=>aI j (b.mono (by decide)) (by rfl) T.a2I T.a1G.kp (aP9 T) .nil bE (gA (aA (aK (λΓ=>aI e (b.mono (by decide)) (by rfl) T.a2E T.a1M.kp (aJ6 T) .nil bE (gA (aA (aB (pv 0)) (aA ge_int aE)) Γ))) (aA (aK (λΓ=>aI k (b.mono (by decide)) (by rfl) T.a2M T.a1K.kp (aQ0 T) .nil bE (gA (aA (aB (pv 1)) (aA ge_int aE)) Γ))) (aA ge_int aE))) Γ)))))
  (aR7 (cQ6 dH9 (λΓ=>pC (i:=3) nd rfl (Or.inl rfl) (aI l (b.mono (by decide)) (by rfl) T.a2P T.a1X.kp (bC4 T) .nil bE (gA (aA (aB (pv 1)) (aA (bH (aB (pv 2)) ge_int (λ_ _=>rfl)) aE)) Γ))))
  (dG4 (aF (mU (mO (mM (aK (λΓ=>aI f (b.mono (by decide)) (by rfl) T.a2y T.a1x.kp (zF T) .nil bE (gA (aA (aK (λΓ=>aI d (b.mono (by decide)) (by rfl) T.a1p T.a0E.kp (lO T) .nil bE (gA (aA (aB (pv 2)) (aA (aB (pv 3)) aE)) Γ))) aE) Γ))))) (aO (aP (i:=3) nd rfl (Or.inl rfl) (fU (aA (bH (aB (pv 2)) ge_int (λ_ _=>rfl)) (aA (cO (hV (bH (aB (pv 2)) ge_int (λ_ _=>rfl)) jT (jU ge_int))) aE))))) eG)
  (aF (mU (mO (mM (aK (λΓ=>aI f (b.mono (by decide)) (by rfl) T.a2y T.a1x.kp (zF T) .nil bE (gA (aA (aK (λΓ=>aI d (b.mono (by decide)) (by rfl) T.a1p T.a0E.kp (lO T) .nil bE (gA (aA (aB (pv 2)) (aA (aB (pv 3)) aE)) Γ))) aE) Γ))))) (aO (aP (i:=3) nd rfl (Or.inl rfl) (fU (aA (bH (aB (pv 2)) ge_int (λ_ _=>rfl)) aE)))) eG)
  (aF (aP (i:=4) nd rfl (Or.inl rfl) (aK (λΓ=>aI d (b.mono (by decide)) (by rfl) T.a1p T.a0E.kp (lO T) .nil bE (gA (aA (aB (pv 2)) (aA (aB (pv 3)) aE)) Γ))))
  (aF (aP (i:=5) nd rfl (Or.inl rfl) (aK (λΓ=>aI g (b.mono (by decide)) (by rfl) T.a2K T.a2n.kp (aQ1 T) .nil bE (gA (aA (aB (pv 2)) (aA (aB (pv 3)) aE)) Γ))))
  (aF (mU (GW.gt (bB7 (mO (mM (pM (c:="list") K (by decide) (λΓ=>aV (fH K (by rfl)) (by rfl) T.a0t bN (aS (gE (aB (pv 5)) Γ) (aS (jK (v:=.ty "list") (by rfl) T.a2U wQ rfl) bY)))))) (aV2 (eF (bL5 b.units) (hZ (neg:=true)) (cM eJ (λΓ=>aV bK (by rfl) T.a1n bW (gA (aA (aB (pv 5)) aE) Γ))) (cM eJ (λΓ=>aV bK (by rfl) T.a1n bW (gA (aA (aB (pv 4)) aE) Γ))) (dG _))))) (aO (bP bJ2)) eG)
  (aF (mU (mO (mM (cM bK9 (λΓ=>aV (aG9 K (by rfl) (by rfl)) (by rfl) T.a3k aW6 (gA (aA (eI (ow:=[8,9]) (bK0 (iX (bA (by decide)) (iX (bA (by decide)) aO9))) (λΓ=>dL (csc [8,9] (by kernel_rfl)) (gI (dH6 K (λΓ=>dH3 K (by rfl) (by rfl) T.a3o bX6 (gA (aA (aB (pv 5)) (aA (cO (aB (pv 4))) aE)) Γ))) Γ) (λ_ _ _ _=>(aA6 (n:=2) K rfl rfl (iU (aU (i:=8) nd rfl (Or.inl rfl) (.inr rfl)) (iU (aU (i:=9) nd rfl (Or.inl rfl) (.inr rfl)) aN8)))) (bI5 (yJ (bB (by decide)) (yJ (bB (by decide)) bH4 yK) yK)) (λ_ _ _ _=>dD) (λ_ _ _ _=>gE (cO (aK (λΓ=>aI m (b.mono (by decide)) (by rfl) T.a2t T.a0S.kp (xZ T) .nil bE (gA (aA (aB (pv 8)) (aA (bH (aB (pv 9)) ge_int (λ_ _=>rfl)) (aA (bH (aB (pv 9)) ge_int (λ_ _=>rfl)) aE))) Γ)))) Γ))) aE) Γ))))) (aO (bP bJ2)) eG)
  (aF (oS (cM5 cN8 (cL7 K (by rfl) a9d F.slot_list_clear F.type_list_clear bT1 (pv 5))))
  (aF (aP (i:=6) nd rfl (Or.inl rfl) (aK (λΓ=>aI o (b.mono (by decide)) (by rfl) T.a2R T.a2q.kp (bM2 T) .nil bE (gA (aA (aB (pv 2)) (aA (aB (pv 4)) aE)) Γ))))
  (aF (aP (i:=7) nd rfl (Or.inl rfl) (aK (λΓ=>aI h (b.mono (by decide)) (by rfl) T.a2x T.a1z.kp (zH T) .nil bE (gA (aA (aB (pv 2)) (aA (aB (pv 3)) aE)) Γ))))
  (aF (mU (GW.gt (bB7 (mO (mM (pM (c:="tuple") K (by decide) (λΓ=>aV (fH K (by rfl)) (by rfl) T.a0t bN (aS (gE (aB (pv 7)) Γ) (aS (jK (v:=.ty "tuple") (by rfl) T.a0s aY rfl) bY)))))) (bB7 (eF (bL5 b.units) (hZ (neg:=true)) (aB (pv 7)) (aB (pv 6)) (dG _)) (aV2 (GW.gt (cD7 (eF (jV b.units) (hZ (neg:=false)) (cM eJ (λΓ=>aV bK (by rfl) T.a1n bW (gA (aA (aB (pv 7)) aE) Γ))) ge_int (dG _)) (bJ4 (mO (mM (pM (c:="tuple") K (by decide) (λΓ=>aV (fH K (by rfl)) (by rfl) T.a0t bN (aS (gE (bH (aB (pv 7)) ge_int (λ_ _=>rfl)) Γ) (aS (jK (v:=.ty "tuple") (by rfl) T.a0s aY rfl) bY))))))))))))) (aO (bP bJ2)) eG)
  (aO (bP (aV4 (pH (jV b.units) (hZ (neg:=false)) (aK (λΓ=>aI h (b.mono (by decide)) (by rfl) T.a2x T.a1z.kp (zH T) .nil bE (gA (aA (aB (pv 2)) (aA (fU (aA (bH (aB (pv 2)) ge_int (λ_ _=>rfl)) aE)) aE)) Γ))) (fU (aA eT aE)) (dG _)) (aV3 (pH (jV b.units) (hZ (neg:=false)) (cM eJ (λΓ=>aV bK (by rfl) T.a1n bW (gA (aA (aK (λΓ=>aI g (b.mono (by decide)) (by rfl) T.a2K T.a2n.kp (aQ1 T) .nil bE (gA (aA (aB (pv 2)) (aA (aB (pv 3)) aE)) Γ))) aE) Γ))) (cM eJ (λΓ=>aV bK (by rfl) T.a1n bW (gA (aA (aB (pv 4)) aE) Γ))) (dG _))))))))))))))))))))
end
local macro_rules | `(tactic| walk_at "dx")=>do
 let l:=("cD9 pN pO pQ pR pS pT pU pV pW pX pY pZ qA qB qC qD aH5 qE jX jY jZ qF qG kA kB kD qH qI aH6 qJ qK aH7 qL qM qN qO qP qQ kH kI qR qS qT qU qV kJ qW kK qX qY qZ rA rB rC rD rE kL kM kO rF rG rH rJ rK rL rM rN rO rP aH8 kP iA kQ rQ kR sF sG sH sI sJ sK sM sN sO lS aH9 sP lC iE fJ uW jC aL3 uY iF uF uG uH uI uJ uK uL uM sQ lE lF lG sR sS sV sW sZ aI0 aI1 aI2 aI3 tE tG tH lH lI tJ lJ tK tL lK iB tM lL aI4 tF tN tO tP tQ aI5 tS cE1 tT tU tR bI tV tW tX tY rR rS rT rU rV rW rX rY rZ kS kU kW kX sA sC sE reduceIte".splitOn " ").toArray.map fun s=>Lean.mkIdent s.toName
 let m:=("tZ uA uB aB6 aI6 Int.reducePow Int.reduceNeg Int.reduceLT Int.reduceLE Nat.reducePow Nat.reduceLT Int.reduceToNat Nat.reduceLeDiff uE uC aI7 uD kY kZ lA lB List.set_cons_zero List.set_cons_succ cW aP5 List.length_cons List.length_nil Nat.reduceAdd Nat.zero_add true_and and_true and_self Bool.not_false Bool.not_true Bool.false_eq_true Bool.true_and Bool.and_true Bool.or_false decide_eq_true_eq".splitOn " ").toArray.map fun s=>Lean.mkIdent s.toName
 `(tactic| simp only[$[↓$l:ident],*,$[$m:ident],*])
def sl2:(2<=sizeLine):=by decide
def dZ{a b m:Int}(h:0 < m)(c:m < 18446744073709551616){K:Res->List Sl->Prop}(k:∀ d e f,0<=d->d < m->K (.val (.int d)) [⟨.par,.lst [.int e,.int f]⟩,⟨.val,.int m⟩]):CK aN [⟨.par,.lst [.int a,.int b]⟩,⟨.val,.int m⟩] K:=by
 unfold aN;rw[cQ];show RS gK [_,_,none,none] _;unfold gK;walk_at "dx";rw[aB6 h c];split;exact⟨h,True.intro,k _ _ _ (a6i _ (by lia)) (a4g _ h)⟩;exact⟨h,k _ _ _ (a6i _ (by lia)) (a4g _ h)⟩
def bP8{ns:List Int}{i:Int}(h0:0<=i)(a:i < (ns.length:Int)):∃ c,atI (ns.map D.int) i=some (.int c):=by
 obtain⟨c,b⟩:=bH9 (ys:=ns) h0 a;exact⟨c,by rw[bI0,b];rfl⟩
def cF9{ns:List Int}{n:Int}(h0:0<=n)(e:n < 1000){K:Res->List Sl->Prop}(k:∀ a b,K (.own (.lst [.int a,.int b])) [⟨.val,.lst (ns.map D.int)⟩,⟨.val,.int n⟩]):CK cX [⟨.val,.lst (ns.map D.int)⟩,⟨.val,.int n⟩] K:=by
 unfold cX;rw[cQ];show RS iR [_,_,none,none] _;unfold iR;walk_at "dx";split;rename_i d;obtain⟨c,d⟩:=bP8 (ns:=ns) h0 (by simpa using d);rw[d];walk_at "dx";exact⟨sl2,k _ _⟩;split;rename_i d;refine⟨d,?_⟩;obtain⟨c,d⟩:=bP8 (ns:=ns) (i:=n % ((ns.map D.int).length:Int)) (a6i _ (by lia)) (by have:=a4g n d;simpa using this);rw[d];walk_at "dx";exact⟨sl2,k _ _⟩;exact⟨sl2,k _ _⟩
def aD3{lo:Int}{n i:Nat}{d:D}(h:(bE4 lo n)[i]? = some d):i < n/\d=.int (lo+i):=by
 unfold bE4 at h;rw[a0b]at h;cases e:(List.range n)[i]? with
 | none=>rw[e]at h;cases h
 | some k=>
   rw[e]at h;obtain⟨hi,a⟩:=a1a.mp e;rw[List.length_range]at hi;rw[List.getElem_range]at a;subst a;exact⟨hi,(a7a h).symm⟩
def jE(lo:Int)(n:Nat):(bE4 lo n).length=n:=by simp[bE4]
def aO4{a:Type}{l:List a}{i:Int}{c:a}(h:atI l i=some c):c∈l:=by
 unfold atI at h;obtain⟨j,_,b⟩:=aC h;exact a2b b
def dI2{l:List D}{d:Int}(h0:0<=d)(a:d < (l.length:Int))(b:d < 9223372036854775808){K:D×D->Prop}(k:∀ y r,(y::r).Perm l->r.length+1=l.length->K (.lst r,y)):OK1 (aH2 (.lst l) [.int d]) K:=by
 obtain⟨n,rfl⟩:∃ n:Nat,d=n:=⟨d.toNat,by lia⟩;have hn:n < l.length:=by lia
 unfold aH2;dsimp only;rw[a3s ⟨by lia,by lia⟩];have e:ixN l.length (n:Int)=some n:=by
  unfold ixN;rw[a3s (by lia),a3s (by lia)];simp
 rw[e];show OK1 ((l[n]?).map _) K;rw[a0a hn];exact k _ _ (aR4 l n hn) (by rw[List.length_eraseIdx_of_lt hn];lia)
def bZ6{a b:Int}{xs:List D}{m:Md}{t:D}(hm:m=.par/\t=.lst xs\/m=.val/\t=.tup xs)(q:xs.length<=1000){K:Res->List Sl->Prop}(k:∀ ys e f,ys.Perm xs->K (.own (.lst ys)) [⟨.par,.lst [.int e,.int f]⟩,⟨m,t⟩]) :
  CK eN [⟨.par,.lst [.int a,.int b]⟩,⟨m,t⟩] K:=by
 unfold eN;rw[cQ];show RS fM [_,_,none,none] _;unfold fM;rcases hm with⟨rfl,rfl⟩ | ⟨rfl,rfl⟩
 all_goals
  walk_at "dx";refine⟨a2d _,?_⟩;refine bD1 (λm τ=>∃ e f left found,m=left.length/\left.length<=xs.length/\found.length+left.length=xs.length/\(found++left).Perm xs/\τ=[some ⟨.par,.lst [.int e,.int f]⟩,some _,some ⟨.own,.lst left⟩,some ⟨.own,.lst found⟩]) xs.length (by lia) ⟨a,b,xs,[],rfl,a6a _,by simp,.refl _,rfl⟩ ?_;rintro m τ ⟨e,f,left,found,rfl,i,j,h,rfl⟩;walk_at "dx";split;rename_i c;refine dZ (by simpa using c) (by lia) λd l n o p=>?_;walk_at "dx";refine dI2 o (by simpa using p) (by lia) λy r g s=>?_;refine⟨a4c (by lia:found.length < 1001) (by decide),.inl ⟨_,r.length,.inl rfl,by lia,l,n,r,found++[y],rfl,by lia,by rw[a9a];simp only[List.length_cons,List.length_nil];lia,?_,rfl⟩⟩;rw[List.append_assoc];exact(List.Perm.append_left found g).trans h;rename_i c;have:left=[]:=a0d (by lia);subst this;exact k found e f (by simpa using h)
def Tx(z:Str):Prop:=z.length<=100/\∀ c∈z.cps.toList,c < 128
noncomputable def dX7(i j:Str):Bool:=!(Builtin.Str.occurrences j i 0 j.length 1).isEmpty
theorem xL{i j:Str}{K:Res->Prop}:OK1 (inD false (.str i) (.str j)) K=K (.val (.bl (dX7 i j))):=rfl
theorem xM{z:Str}{lo hi:Option Int}{K:Res->Prop}:SK (.str z) lo hi K=(z.length<=sizeLine/\K (.val (.str (Txt.slice z lo hi)))):=by
 show OK1 (if _ then _ else none) K=_;rw[bJ];rfl
theorem mZ{z:Str}{i:Int}{K:Res->Prop}:OK1 (aN2 (.str z) (.int i)) K=((z.length<=1000/\0<=i/\i<=1000)/\K (.val (.str (Txt.mul z i)))):=by
 unfold aN2;dsimp only;rw[bJ];rfl
theorem aS4{i:Nat}{σ a:Sg}:mV [i] σ a=a.set i (σ[i]?.getD none):=rfl
def aY5:(Str.ofString "abcdefghijklmnopqrstuvwxyz").cps.toList.length=26:=by decide
def oQ(z:Str):z.length=z.cps.toList.length:=by show z.cps.size=_;simp
def xN(x y:Str):(x++y).cps.toList=x.cps.toList++y.cps.toList:=by show(x.cps++y.cps).toList=_;simp
theorem xO(x y:Str):(x++y).length=x.length+y.length:=by rw[oQ,oQ,oQ,xN,a9a]
def As(z:Str):Prop:=∀ c∈z.cps.toList,c < 128
def bP9{x y:Str}(b:As x)(d:As y):As (x++y):=by
 intro c a;rw[xN]at a;rcases a3c.mp a with h | h;exact b c h;exact d c h
def aY6{z:Str}(h:As z)(lo hi:Option Int):As (Txt.slice z lo hi):=by
 intro c a;unfold Txt.slice at a;split at a;exact h c a;simp only[List.mem_filterMap]at a;obtain⟨i,_,hi⟩:=a;exact h c (Array.mem_toList_iff.mpr (Array.mem_of_getElem? hi))
theorem slice_le(z:Str)(lo hi:Option Int):(Txt.slice z lo hi).length<=z.length:=Txt.slice_le z lo hi
def aD4{z:Str}(h:As z):cV (.str z)=true:=by
 unfold cV;rw[a1e];refine⟨?_,rfl⟩;show PyData.strOk z=true;unfold PyData.strOk;rw[← Array.all_toList,a8g];intro c a;have:=h c a;simp;lia
def aY7(d:D)(l:List D):cV d=true->cV (.lst l)=true->(gB d).depth<=59->cV (.lst (d::l))=true:=by
 intro a b h;obtain⟨c,i⟩:=cC a;obtain⟨e,f⟩:=cC b;unfold cV;rw[a1e,a3w];have g:(gB (.lst (d::l))).canLay0=((gB d).canLay0&&(gB (.lst l)).canLay0):=by
  simp only[gB,toPys,PyData.canLay0,PyData.canLayAll0]
 refine⟨by rw[g,c,e];rfl,?_⟩;simp only[gB,toPys,PyData.depth,PyData.depthAll]at f ⊢;lia
theorem aD5:∀ {zs:List Str},(∀ z∈zs,As z)->cV (.lst (zs.map D.str))=true
 | [],_=>rfl
 | z::r,h=>aY7 _ _ (aD4 (h z a3a)) (aD5 λy a=>h y (a5a _ a)) (by show PyData.depth (.str z)<=59;simp[PyData.depth])
local macro_rules | `(tactic| walk_at "dx")=>do
 let l:=("cD9 pN pO pQ pR pS pT pU pV pW pX pY pZ qA qB qC qD aH5 qE jX jY jZ qF qG kA kB kD qH qI aH6 qJ qK aH7 qL qM qN qO qP qQ kH kI qR qS qT qU qV kJ qW kK qX qY qZ rA rB rC rD rE kL kM kO rF rG rH rJ rK rL rM rN rO rP aH8 kP iA kQ rQ kR sF sG sH sI sJ sK sM sN sO lS aH9 sP lC iE fJ uW jC aL3 uY iF uF uG uH uI uJ uK uL uM sQ lE lF lG sR sS sV sW sZ aI0 aI1 aI2 aI3 tE tG tH lH lI tJ lJ tK tL lK iB tM lL aI4 tF tN tO tP tQ aI5 tS cE1 tT xM mZ xL tU tR bI tV tW tX tY rR rS rT rU rV rW rX rY rZ kS kU kW kX sA sC sE reduceIte".splitOn " ").toArray.map fun s=>Lean.mkIdent s.toName
 let m:=("aS4 List.getElem?_cons_succ List.getElem?_cons_zero Option.getD_some tZ uA uB aB6 aI6 Int.reducePow Int.reduceNeg Int.reduceLT Int.reduceLE Nat.reducePow Nat.reduceLT Int.reduceToNat Nat.reduceLeDiff uE uC aI7 uD kY kZ lA lB List.set_cons_zero List.set_cons_succ cW aP5 List.length_cons List.length_nil Nat.reduceAdd Nat.zero_add true_and and_true and_self Bool.not_false Bool.not_true Bool.false_eq_true Bool.true_and Bool.and_true Bool.or_false decide_eq_true_eq".splitOn " ").toArray.map fun s=>Lean.mkIdent s.toName
 `(tactic| simp only[$[↓$l:ident],*,$[$m:ident],*])
theorem bQ0:∀ (zs:List Str),(∀ z∈zs,z.length<=1)->(zs.map (·.length)).sum<=zs.length
 | [],_=>by simp
 | z::r,h=>by
   have b:=h z a3a;have c:=bQ0 r λy a=>h y (a5a _ a);simp only[List.map_cons,List.sum_cons,List.length_cons];lia
def cS0{e:Int}(b:0<=e)(d:e < 26):∃ c,atI (Str.ofString "abcdefghijklmnopqrstuvwxyz").cps.toList e=some c/\c < 128:=by
 obtain⟨c,a⟩:=bH9 (ys:=(Str.ofString "abcdefghijklmnopqrstuvwxyz").cps.toList) b (by rw[aY5];exact d);exact⟨c,a,cM1 c (aO4 a)⟩
def aY8{c:Nat}(h:c < 128):As ⟨#[c]⟩:=by
 intro x a;have:x=c:=by simpa using a
 subst this;exact h
def dR0:∀ n:Fin 24,((Str.ofString "abcdefghijklmnopqrstuvwxyz").cps.toList.drop n).take 3=[97+(n:Nat),98+(n:Nat),99+(n:Nat)]:=by decide
def dR1{k:Int}(h0:0<=k)(g:k < 24):∃ (z:Str) (p q r:Nat),Txt.slice (Txt.slice (Str.ofString "abcdefghijklmnopqrstuvwxyz") (some k) none) none (some 3)=z/\z.length=3/\jO z=[.str ⟨#[p]⟩,.str ⟨#[q]⟩,.str ⟨#[r]⟩]/\(p < 128/\q < 128/\r < 128)/\p < q/\q < r:=by
 have a:(Str.ofString "abcdefghijklmnopqrstuvwxyz").length=26:=by decide
 have c:=bB6 (x:=Str.ofString "abcdefghijklmnopqrstuvwxyz") h0 (by rw[a];lia);have e:(Txt.slice (Str.ofString "abcdefghijklmnopqrstuvwxyz") (some k) none).length=26-k.toNat:=by
  rw[oQ,c,a7g,aY5]
 have d:=bV1 (x:=Txt.slice (Str.ofString "abcdefghijklmnopqrstuvwxyz") (some k) none) (j:=3) (by decide) (by rw[e];lia);rw[c]at d;have f:=dR0 ⟨k.toNat,by lia⟩;have b:(Txt.slice (Txt.slice (Str.ofString "abcdefghijklmnopqrstuvwxyz") (some k) none) none (some 3)).cps.toList=[97+k.toNat,98+k.toNat,99+k.toNat]:=d.trans f;generalize Txt.slice (Txt.slice (Str.ofString "abcdefghijklmnopqrstuvwxyz") (some k) none) none (some 3)=z at b;exact⟨z,_,_,_,rfl,by rw[oQ,b];rfl,by unfold jO;rw[b];rfl,⟨by lia,by lia,by lia⟩,by lia,by lia⟩
def tx1{c:Nat}(h:c < 128):Tx ⟨#[c]⟩:=⟨by show 1<=100;decide,aY8 h⟩
def aY9{x y:Str}{m n:Nat}(a:x.length<=m/\As x)(b:y.length<=n/\As y):(x++y).length<=m+n/\As (x++y):=⟨by rw[xO];lia,bP9 a.2 b.2⟩
theorem cM8(c:Nat):Str.length ⟨#[c]⟩=1:=rfl
def bZ7{e:Int}(h0:0<=e)(a:e < 11):∃ z:Str,atI ([D.str "table",D.str "tree",D.str "none",D.str "answer",D.str "levels",D.str "looks"]++[D.str "at",D.str "count",D.str "ears",D.str "cover",D.str "place"]) e=some (.str z)/\Tx z:=by
 have:e=0\/e=1\/e=2\/e=3\/e=4\/e=5\/e=6\/e=7\/e=8\/e=9\/e=10:=by lia
 rcases this with rfl | rfl | rfl | rfl | rfl | rfl | rfl | rfl | rfl | rfl | rfl<;>exact⟨_,rfl,by unfold Tx;decide⟩
def aS5(ys:List Str)(j:Nat)(z:Str):(ys.map D.str).set j (.str z)=(ys.set j z).map D.str:=by rw[List.map_set]
def dI3{n:Nat}{k:Int}(h0:0<=k)(a:k < n){K:Nat->Prop}(q:∀ j,j < n->K j):OK1 (ixN n k) K:=by
 obtain⟨m,rfl⟩:∃ m:Nat,k=m:=⟨k.toNat,by lia⟩;have e:ixN n (m:Int)=some m:=by
  unfold ixN;rw[a3s (by lia),a3s (by lia)];simp
 rw[e];exact q m (by lia)
def dI4{m:Int}(h:m=0\/m=1):(Txt.mul "z" m).length<=1/\As (Txt.mul "z" m):=by
 rcases h with rfl | rfl;exact⟨by decide,by unfold As;decide⟩;exact⟨by decide,by unfold As;decide⟩
def zm2(p:Prop)[Decidable p]:(if p then(1:Int)else 0)=0\/(if p then(1:Int)else 0)=1:=by
 split;exact .inr rfl;exact .inl rfl
def cS1{e:Int}(a:0<=e)(b:e < 26):atI (Str.ofString "abcdefghijklmnopqrstuvwxyz").cps.toList e=some (97+e.toNat):=by
 have h:∀ n:Fin 26,atI (Str.ofString "abcdefghijklmnopqrstuvwxyz").cps.toList ((n:Nat):Int)=some (97+(n:Nat)):=by decide
 have:=h ⟨e.toNat,by lia⟩;rwa[show((e.toNat:Nat):Int)=e by lia]at this
def bZ8{ys:List Str}(h:∀ (i j:Nat) y,i < j->ys[i]? = some y->ys[j]? = some y->False):ys.Nodup:=by
 rw[a6g,List.pairwise_iff_getElem];intro i j hi hj a z;exact h i j ys[i] a (a0a hi) (by rw[z];exact a0a hj)
def dI5{neg:Bool}{z:Str}{zs:List Str}(hz:As z)(h:∀ z∈zs,As z){K:Res->Prop}(k:K (.val (.bl (if neg=true then !zs.contains z else zs.contains z)))):OK1 (inD neg (.str z) (.lst (zs.map D.str))) K:=by
 show OK1 (if _ then _ else none) K;rw[bJ];refine⟨⟨aD4 hz,aD5 h⟩,?_⟩;have e:((zs.map D.str).any λy=>xS y (.str z))=zs.contains z:=by
  rw[List.any_map,List.contains_eq_any_beq];congr 1;funext y;show(y==z)=(z==y);rw[a3g,a3v,a3v,eq_comm]
 rw[e];exact k
def bQ1{b:Type}{l:List b}{j:Nat}{z:b}(h:l.Nodup)(hz:z∉l):(l.set j z).Nodup:=by
 rw[a6g,List.pairwise_iff_getElem]at h ⊢;intro i k hi c a;rw[a4f]at hi c;rw[List.getElem_set,List.getElem_set];split;split;lia;exact λe=>hz (e ▸ a9g _);split;exact λe=>hz (e ▸ a9g _);exact h i k hi c a
def bZ9{a b:Int}{K:Res->List Sl->Prop}(k:∀ (zs:List Str) E F,zs.length=6->zs.Nodup->(∀ z∈zs,Tx z)->K (.own (.lst (zs.map D.str))) [⟨.par,.lst [.int E,.int F]⟩,⟨.val,.int 6⟩]) :
  CK dF [⟨.par,.lst [.int a,.int b]⟩,⟨.val,.int 6⟩] K:=by
 unfold dF;rw[cQ];show RS fP [_,_,none,none,none,none,none,none,none,none,none,none,none,none,none] _;unfold fP;walk_at "dx";refine dZ (by decide) (by decide) λn a1 b1 n0 n5=>?_;walk_at "dx";refine⟨by lia,by rw[jE];exact a3b (by lia:n.toNat<=5) (by decide),?_⟩;refine lT _ _ (λi acc τ=>i<=5/\∃ (zs:List Str) (E F:Int),acc=zs.map D.str/\zs.length=i/\(∀ z∈zs,z.length<=1/\As z)/\τ=[some ⟨.par,.lst [.int E,.int F]⟩,some ⟨.val,.int 6⟩,some ⟨.val,.str "abcdefghijklmnopqrstuvwxyz"⟩,none,none,none,none,none,none,none,none,none,none,none,none]) ⟨by lia,[],a1,b1,rfl,rfl,by simp,rfl⟩ ?_ ?_;rintro i d acc τ hd ⟨_,zs,E,F,rfl,hl,f,rfl⟩;obtain⟨hi,rfl⟩:=aD3 hd;walk_at "dx";refine dZ (by decide) (by decide) λe a2 b2 e0 L=>?_;walk_at "dx";refine⟨by decide,?_⟩;obtain⟨c,M,N⟩:=cS0 e0 L;rw[M];walk_at "dx";refine⟨_,rfl,by lia,zs++[⟨#[c]⟩],a2,b2,by rw[a4d];rfl,by rw[a9a,hl];rfl,?_,rfl⟩;intro z O;rcases a3c.mp O with h | h;exact f z h;rw[a1b]at h;subst h;exact⟨a6a 1,aY8 N⟩;rintro acc τ ⟨h5,zs,E,F,rfl,hl,f,rfl⟩;have hs:=bQ0 zs λz h=>(f z h).1;rw[cO8];refine⟨by simp only[show(Str.ofString "").length=0 by decide];lia,?_⟩;have I:=aO5 (m:=128) (sep:=Str.ofString "") (by decide) zs λz h=>(f z h).2;have u:(Txt.join (Str.ofString "") zs).length<=5:=by
  refine a3b (cK8 _ _) ?_;simp only[show(Str.ofString "").length=0 by decide];lia
 revert I u;generalize Txt.join (Str.ofString "") zs=x;intro I u;have P:x.length<=sizeLine:=a3b u (by decide);walk_at "dx";rw[jC P];walk_at "dx";refine dZ (by lia) (by lia) λl a2 b2 k10 k11=>?_;walk_at "dx";refine dZ (by lia) (by lia) λv a3 b3 k20 k21=>?_;walk_at "dx";refine dZ (by lia) (by lia) λk3 a4 b4 k30 k31=>?_;walk_at "dx";split
 ·refine dZ (by lia) (by lia) λk4 a5 b5 A B=>?_;walk_at "dx";obtain⟨z,p,q,r,e,Q,es,⟨R,S,T⟩,pq,qr⟩:=dR1 A B;rw[e,es];refine⟨by decide,a3b (slice_le _ _ _) (by decide),Q,?_⟩;walk_at "dx";simp only[xO,cM8];refine⟨by decide,by decide,by decide,by decide,by decide,by decide,by decide,by decide,by decide,?_⟩;have tp:=tx1 R;have tq:=tx1 S;have tr:=tx1 T;have l1:∀ {c:Nat},c < 128->Str.length ⟨#[c]⟩<=1/\As ⟨#[c]⟩:=λh=>⟨a6a 1,aY8 h⟩;have J:∀ {x:Str} {n:Nat},n<=100->x.length<=n/\As x->Tx x:=λhn h=>⟨a3b h.1 hn,h.2⟩;refine k [⟨#[p]⟩,⟨#[p]⟩++⟨#[q]⟩,⟨#[q]⟩,⟨#[q]⟩++⟨#[r]⟩,⟨#[r]⟩,⟨#[p]⟩++⟨#[r]⟩] _ _ rfl ?_ ?_
  ·have C:∀ x y:Nat,(⟨#[x]⟩:Str)++⟨#[y]⟩=⟨#[x,y]⟩:=λ_ _=>rfl;have n1:p≠q:=by lia
   have n2:q≠r:=by lia
   have n3:p≠r:=by lia
   rw[C,C,C];simp[n1,n2,n3,Ne.symm n1,Ne.symm n2,Ne.symm n3]
  intro z f;simp only[List.mem_cons,List.not_mem_nil,or_false]at f;rcases f with rfl | rfl | rfl | rfl | rfl | rfl;exact tp;exact J (by decide) (aY9 (l1 R) (l1 S));exact tq;exact J (by decide) (aY9 (l1 S) (l1 T));exact tr;exact J (by decide) (aY9 (l1 R) (l1 T))
 ·refine⟨a2d _,?_⟩;refine jD (λi τ=>i<=6/\∃ (ys:List Str) (G o2:Option Sl),((G=none/\o2=none)\/∃ d e,G=some ⟨.val,d⟩/\o2=some ⟨.val,e⟩)/\ys.length=i/\(∀ (j:Nat) y,ys[j]? = some y->Tx y/\∃ t,y.cps.toList=(Txt.slice x none (some l)).cps.toList++(97+((v+5*(j:Int)) % 26).toNat)::t)/\τ=[some ⟨.par,.lst [.int a4,.int b4]⟩,some ⟨.val,.int 6⟩,some ⟨.val,.str "abcdefghijklmnopqrstuvwxyz"⟩,some ⟨.val,.str x⟩,some ⟨.val,.int l⟩,some ⟨.val,.int v⟩,some ⟨.val,.int k3⟩,none,none,none,none,some ⟨.own,.lst (ys.map D.str)⟩,G,o2,none]) ⟨by lia,[],none,none,.inl ⟨rfl,rfl⟩,rfl,by simp,rfl⟩ ?_ ?_
  ·rintro i d τ hd ⟨_,ys,G,o2,U,o,g,rfl⟩;obtain⟨hi,rfl⟩:=aD3 hd;have M:=cS1 (e:=(v+5*(0+(i:Int))) % 26) (a6i _ (by decide)) (a4g _ (by decide));have N:97+((v+5*(0+(i:Int))) % 26).toNat < 128:=by
    have:=a4g (v+5*(0+(i:Int))) (b:=26) (by decide);lia
   have l1:=slice_le x none (some l);have l2:=slice_le x (some l) none;have g1:=aY6 (z:=x) I none (some l);have g2:=aY6 (z:=x) I (some l) none;have sl:100<=sizeLine:=by decide
   have done:∀ (w:Str) (t:Str) ,(w.length<=20/\As w)->(t.length<=1/\As t)->Tx (w++t):=λw t V W=>by
    have:=aY9 V W;exact⟨by lia,this.2⟩
   have fin:∀ t:Str,(t.length<=1/\As t)->∀ (j:Nat) y,(ys++[Txt.slice x none (some l)++⟨#[97+((v+5*(0+(i:Int))) % 26).toNat]⟩++Txt.slice x (some l) none++t])[j]? = some y->Tx y/\∃ t,y.cps.toList=(Txt.slice x none (some l)).cps.toList++(97+((v+5*(j:Int)) % 26).toNat)::t:=λt W j y h=>by
    by_cases hj:j < ys.length;rw[a7c hj]at h;exact g j y h;have X:j=i:=by
     have:=(a1a.mp h).1;rw[a9a,List.length_singleton]at this;lia
    subst X;rw[a5b (by lia),o,Nat.sub_self]at h;obtain rfl:=a7a h;refine⟨done _ _ ⟨?_,bP9 (bP9 g1 (aY8 N)) g2⟩ W,(Txt.slice x (some l) none).cps.toList++t.cps.toList,?_⟩;rw[xO,xO,cM8];lia;rw[xN,xN,xN,Int.zero_add];simp
   rcases U with⟨rfl,rfl⟩ | ⟨d,e,rfl,rfl⟩
   all_goals
    walk_at "dx";rw[M];walk_at "dx";have Y:=dI4 (zm2 ((0+(i:Int)) % 2=1));have z0:=dI4 (m:=0) (.inl rfl);have zi:=zm2 ((0+(i:Int)) % 2=1);simp only[xO,cM8];revert zi Y;generalize (if(0+(i:Int)) % 2=1 then(1:Int)else 0)=zz;intro Y zi;refine⟨by lia,by decide,by lia,by lia,by lia,?_⟩;have H:(List.map D.str ys).length < sizeLine:=by rw[a2a];lia
    split;exact⟨⟨by decide,by lia,by lia⟩,by lia,H,_,.inl rfl,by lia,ys++[_],_,_,.inr ⟨_,_,rfl,rfl⟩,by rw[a9a,o];rfl,fin _ Y,by rw[a4d];rfl⟩;exact⟨by decide,by lia,H,_,.inl rfl,by lia,ys++[_],_,_,.inr ⟨_,_,rfl,rfl⟩,by rw[a9a,o];rfl,fin _ z0,by rw[a4d];rfl⟩
  ·rintro τ ⟨_,ys,G,o2,U,o,g,rfl⟩;rw[jE]at o;have hn:ys.Nodup:=bZ8 λi j y hij h1 h2=>by
    obtain⟨_,t1,L⟩:=g i y h1;obtain⟨_,J,C⟩:=g j y h2;rw[L]at C;have e3:=(List.cons.inj (List.append_cancel_left C)).1;have hj:=(a1a.mp h2).1;rw[o]at hj;have h6:j < 6:=by lia
    lia
   have s:∀ z∈ys,Tx z:=λz f=>by
    obtain⟨j,hj⟩:=List.mem_iff_getElem?.mp f;exact(g j z hj).1
   have Z:∀ z∈ys,As z:=λz h=>(s z h).2;rcases U with⟨rfl,rfl⟩ | ⟨d,e,rfl,rfl⟩
   all_goals
    walk_at "dx";refine⟨by decide,by decide,by decide,dZ (by lia) (by lia) λk4 a5 b5 A B=>?_⟩;obtain⟨w,V,tw⟩:=bZ7 A B;walk_at "dx";rw[V];walk_at "dx";refine dZ (by lia) (by lia) λk5 a6 b6 k50 k51=>?_;walk_at "dx";split
    ·refine dI5 tw.2 Z ?_;walk_at "dx";split
     ·rename_i hnw;have nw:w∉ys:=by simpa using hnw
      refine dZ (by lia) (by lia) λk6 a7 b7 k60 k61=>?_;walk_at "dx";refine dI3 k60 (by rw[a2a,o];lia) λj hj=>?_;rw[aS5];refine k _ _ _ (by rw[a4f,o]) (bQ1 hn nw) λz f=>?_;rcases List.mem_or_eq_of_mem_set f with h | h;exact s z h;exact h ▸ tw
     ·exact k _ _ _ o hn s
    ·exact k _ _ _ o hn s
open Sx
def xP{ks:List (List Int)}{n:Nat}(h:∀ k∈ks,k.length=n)(g:2<=(srt ks).length):∀ k∈ks,k≠[]:=by
 rintro k i rfl;have d:n=0:=(h [] i).symm;have f:=iM ks
 match e:srt ks,g with
 | a::b::r,_=>
   rw[e]at f;have c:=(a9f.mp f).1 b a3a;have ha:=h a ((eK ks a).mp (by rw[e];simp));have hb:=h b ((eK ks b).mp (by rw[e];simp));rw[a0d (ha.trans d),a0d (hb.trans d)]at c;cases c
def cS2{e:Int}(h0:0<=e)(a:e < 4):∃ m:Int,atI [D.int 2,D.int 3,D.int 10,D.int 1000] e=some (.int m)/\0 < m/\m<=1000:=by
 have:e=0\/e=1\/e=2\/e=3:=by lia
 rcases this with rfl | rfl | rfl | rfl<;>exact⟨_,rfl,by decide,by decide⟩
def dI6{a b e:Int}(h0:0<=e)(c:e < 2)(ha:0 < a/\a<=61)(hb:0 < b/\b<=61):∃ m:Int,atI [D.int a,D.int b] e=some (.int m)/\0 < m/\m<=61:=by
 have:e=0\/e=1:=by lia
 rcases this with rfl | rfl;exact⟨_,rfl,ha⟩;exact⟨_,rfl,hb⟩
theorem xQ{l:List D}{K:List D->Prop}:OK1 (yR (.tup l)) K=K l:=rfl
theorem zQ{l:List D}{K:List D->Prop}:OK1 (yR (.lst l)) K=K l:=rfl
def cU7{ks:List (List Int)}{K:Res->Prop}(h:ks.length < 4000/\(2<=(srt ks).length->∀ k∈ks,k≠[]))(k:K (.own (.lst ((srt ks).map tI)))):OK1 (eM [.lst (ks.map tI)]) K:=by rw[dF8];exact⟨h,k⟩
def dT2{ks:List (List Int)}{K:Res->Prop}(h:ks.length < 4000/\(2<=(srt ks).length->∀ k∈ks,k≠[]))(k:K (.own (.lst ((srt ks).map tI)))):OK1 (eM [.tup (ks.map tI)]) K:=by rw[dF9];exact⟨h,k⟩
def cS3{a b:Int}{zs:List Str}(hz:zs.length<=100){K:Res->List Sl->Prop}(k:∀ (ks:List (List Int)) f g,ks.length<=60->(∀ k∈ks,k.length=zs.length)->bE8 ks->K (.val (.tup (ks.map tI))) [⟨.par,.lst [.int f,.int g]⟩,⟨.val,.tup (zs.map D.str)⟩,⟨.val,.int 60⟩]) :
  CK fN [⟨.par,.lst [.int a,.int b]⟩,⟨.val,.tup (zs.map D.str)⟩,⟨.val,.int 60⟩] K:=by
 unfold fN;rw[cQ];show RS gM [_,_,_,none,none,none,none] _;unfold gM;walk_at "dx";refine⟨by decide,dZ (by decide) (by decide) λn H I s t=>?_⟩;obtain⟨m,hm,u,J⟩:=cS2 s t;walk_at "dx";rw[hm];walk_at "dx";refine⟨by decide,dZ (by decide) (by decide) λn2 L M p q=>?_⟩;obtain⟨c,v,w,N⟩:=dI6 (a:=61) (b:=6) p q (by decide) (by decide);walk_at "dx";rw[show(60:Int)+1=61 from rfl,v];walk_at "dx";refine dZ w (by lia) λn3 x z A B=>?_;walk_at "dx";refine⟨by lia,by rw[jE];exact a3b (by lia:n3.toNat<=100) (by decide),?_⟩;refine lT _ _ (λi acc τ=>i<=61/\∃ (ks:List (List Int)) (f g:Int),acc=ks.map tI/\ks.length=i/\(∀ k∈ks,k.length=zs.length)/\τ=[some ⟨.par,.lst [.int f,.int g]⟩,some ⟨.val,.tup (zs.map D.str)⟩,some ⟨.val,.int 60⟩,some ⟨.val,.int m⟩,some ⟨.val,.int n3⟩,none,none]) ⟨by lia,[],x,z,rfl,rfl,by simp,rfl⟩ ?_ ?_;rintro i d acc τ hd ⟨_,ks,f,g,rfl,l,o,rfl⟩;obtain⟨hi,rfl⟩:=aD3 hd;walk_at "dx";rw[xQ];refine⟨by rw[a2a];exact a3b hz (by decide),?_⟩;refine lT _ _ (λj acc τ=>∃ (vs:List Int) (f g:Int),acc=vs.map D.int/\vs.length=j/\τ=[some ⟨.par,.lst [.int f,.int g]⟩,some ⟨.val,.tup (zs.map D.str)⟩,some ⟨.val,.int 60⟩,some ⟨.val,.int m⟩,some ⟨.val,.int n3⟩,some ⟨.val,.int (0+(i:Int))⟩,none]) ⟨[],f,g,rfl,rfl,rfl⟩ ?_ ?_;rintro j d acc τ hd ⟨vs,f,g,rfl,l,rfl⟩;walk_at "dx";refine dZ u (by lia) λe C E O P=>?_;walk_at "dx";exact⟨_,rfl,vs++[e],C,E,by rw[a4d];rfl,by rw[a9a,l];rfl,rfl⟩;rintro acc τ ⟨vs,f,g,rfl,F,rfl⟩;refine⟨_,rfl,by lia,ks++[vs],f,g,by rw[a4d];rfl,by rw[a9a,l];rfl,?_,rfl⟩;intro k r;rcases a3c.mp r with h | h;exact o k h;rw[a1b]at h;subst h;rw[F,a2a];rintro acc τ ⟨_,ks,f,g,rfl,l,o,rfl⟩;walk_at "dx";rw[jE]at l;have Q:=mY ks;refine cU7 ⟨by lia,xP o⟩ ?_;walk_at "dx";exact k _ _ _ (by lia) (λy G=>o y ((eK ks y).mp G)) (iM ks)
theorem zR{z:Str}{K:List D->Prop}:OK1 (yR (.str z)) K=K (jO z):=rfl
theorem zS{l:List D}{K:List D->Prop}:OK1 (dX6 (.tup l)) K=K l:=rfl
local macro_rules | `(tactic| walk_at "dx")=>do
 let l:=("cD9 pN pO pQ pR pS pT pU pV pW pX pY pZ qA qB qC qD aH5 qE jX jY jZ qF qG kA kB kD qH qI aH6 qJ qK aH7 qL qM qN qO qP qQ kH kI qR qS qT qU qV kJ qW kK qX qY qZ rA rB rC rD rE kL kM kO rF rG rH rJ rK rL rM rN rO rP aH8 kP iA kQ rQ kR sF sG sH sI sJ sK sM sN sO lS aH9 sP lC iE fJ uW jC aL3 uY iF uF uG uH uI uJ uK uL uM sQ lE lF lG sR sS sV sW sZ aI0 aI1 aI2 aI3 tE tG tH lH lI tJ lJ tK tL lK iB tM lL aI4 tF tN tO tP tQ aI5 tS cE1 tT xM mZ xL xQ zQ zR zS tU tR bI tV tW tX tY rR rS rT rU rV rW rX rY rZ kS kU kW kX sA sC sE reduceIte".splitOn " ").toArray.map fun s=>Lean.mkIdent s.toName
 let m:=("aS4 List.getElem?_cons_succ List.getElem?_cons_zero Option.getD_some tZ uA uB aB6 aI6 Int.reducePow Int.reduceNeg Int.reduceLT Int.reduceLE Nat.reducePow Nat.reduceLT Int.reduceToNat Nat.reduceLeDiff uE uC aI7 uD kY kZ lA lB List.set_cons_zero List.set_cons_succ cW aP5 List.length_cons List.length_nil Nat.reduceAdd Nat.zero_add true_and and_true and_self Bool.not_false Bool.not_true Bool.false_eq_true Bool.true_and Bool.and_true Bool.or_false decide_eq_true_eq".splitOn " ").toArray.map fun s=>Lean.mkIdent s.toName
 `(tactic| simp only[$[↓$l:ident],*,$[$m:ident],*])
def bQ2{r:DT}{σ:Sg}{Q a:Bool->Sg->Prop}(h:RT r σ Q)(w:∀ b c,Q b c->a b c):RT r σ a:=cN h λx=>w x.1 x.2
def bQ3{r:DE}{σ:Sg}{Q a:Res->Sg->Prop}(h:RE r σ Q)(w:∀ b c,Q b c->a b c):RE r σ a:=cN h λx=>w x.1 x.2
def cR{m:Type}{g:D->Sg->Option Sg}{ow:List Nat}{t:DT}{e:DE}{K:List D×Sg->Prop}(f:m->D)(u:m->D)(xs:List m){a:Sg}(l:Sg)(q:a=l)
  (hs:∀ x∈xs,OK1 (g (u x) l) λc=>RT t c λb h=>b=true/\RE e h λr j=>r=.val (f x)/\bS ow j=l) (k:K (xs.map f,l)):OK1 (bD0 ow g t e (xs.map u) a) K:=by
 subst q;refine lT _ _ (λi acc τ'=>acc=(xs.take i).map f/\τ'=a) ⟨rfl,rfl⟩ ?_ ?_;rintro i d acc τ' hd ⟨rfl,rfl⟩;rw[a0b]at hd;obtain⟨x,o,rfl⟩:=a7b.mp hd;refine cN (hs x (a2b o)) λc s=>bQ2 s λb h n=>?_;obtain⟨rfl,n⟩:=n;rw[a3s rfl];refine bQ3 n λr j p=>?_;exact⟨_,p.1,by rw[a5e,o,a4d];rfl,p.2⟩;rintro acc τ' ⟨rfl,rfl⟩;rw[a2a,List.take_length];exact k
def fR{n:Type}{g:D->Sg->Option Sg}{ow:List Nat}{t:DT}{e:DE}{K:List D×Sg->Prop}(p:n->Bool)(f:n->D)(u:n->D)(xs:List n){a:Sg}(j:Sg)(o:a=j)
  (hs:∀ x∈xs,OK1 (g (u x) j) λl=>RT t l λb c=>b=p x/\bS ow c=j/\RE e c λr m=>r=.val (f x)/\bS ow m=j) (k:K ((xs.filter p).map f,j)):OK1 (bD0 ow g t e (xs.map u) a) K:=by
 subst o;refine lT _ _ (λi acc τ'=>acc=((xs.take i).filter p).map f/\τ'=a) ⟨rfl,rfl⟩ ?_ ?_
 ·rintro i d acc τ' hd ⟨rfl,rfl⟩;rw[a0b]at hd;obtain⟨x,v,rfl⟩:=a7b.mp hd;refine cN (hs x (a2b v)) λl y=>bQ2 y λb c s=>?_;obtain⟨rfl,s,z⟩:=s;have o:(xs.take (i+1)).filter p=(xs.take i).filter p++(if p x=true then[x]else[]):=by
   rw[a5e,v,List.filter_append];cases h:p x<;>simp[h]
  by_cases q:p x=true;rw[a3s q];refine bQ3 z λr m w=>?_;exact⟨_,w.1,by rw[o,a3s q,a4d];rfl,w.2⟩;rw[a3u q];exact⟨by rw[o,a3u q,a1g],s⟩
 ·rintro acc τ' ⟨rfl,rfl⟩;rw[a2a,List.take_length];exact k
local macro_rules | `(tactic| walk_at "dx")=>do
 let l:=("xH cD9 pN pO pQ pR pS pT pU pV pW pX pY pZ qA qB qC qD aH5 qE jX jY jZ qF qG kA kB kD qH qI aH6 qJ qK aH7 qL qM qN qO qP qQ kH kI qR qS qT qU qV kJ qW kK qX qY qZ rA rB rC rD rE kL kM kO rF rG rH rJ rK rL rM rN rO rP aH8 kP iA kQ rQ kR sF sG sH sI sJ sK sM sN sO lS aH9 sP lC iE fJ uW jC aL3 uY iF uF uG uH uI uJ uK uL uM sQ lE lF lG sR sS sV sW sZ aI0 aI1 aI2 aI3 tE tG tH lH lI tJ lJ tK tL lK iB tM lL aI4 tF tN tO tP tQ aI5 tS cE1 tT xM mZ xL xQ zQ zR zS tU tR bI tV tW tX tY rR rS rT rU rV rW rX rY rZ kS kU kW kX sA sC sE reduceIte".splitOn " ").toArray.map fun s=>Lean.mkIdent s.toName
 let m:=("aS4 List.getElem?_cons_succ List.getElem?_cons_zero Option.getD_some tZ uA uB aB6 aI6 Int.reducePow Int.reduceNeg Int.reduceLT Int.reduceLE Nat.reducePow Nat.reduceLT Int.reduceToNat Nat.reduceLeDiff uE uC aI7 uD kY kZ lA lB List.set_cons_zero List.set_cons_succ cW aP5 List.length_cons List.length_nil Nat.reduceAdd Nat.zero_add true_and and_true and_self Bool.not_false Bool.not_true Bool.false_eq_true Bool.true_and Bool.and_true Bool.or_false decide_eq_true_eq".splitOn " ").toArray.map fun s=>Lean.mkIdent s.toName
 `(tactic| simp only[$[↓$l:ident],*,$[$m:ident],*])
def cA0{i:Int}{K:Res->List Sl->Prop}(k:K (.val (.bl true)) [⟨.val,.int i⟩]):CK eP [⟨.val,.int i⟩] K:=by
 unfold eP;rw[cQ];show RS fQ [_] _;unfold fQ;walk_at "dx";exact k
noncomputable def pk(cs so:List Str)(row:List Int):List Int:=so.map λz=>row.getD (cs.idxOf z) 0
def bQ4{row:List Int}{n:Nat}(h:n < row.length):atI (row.map D.int) (n:Int)=some (.int (row.getD n 0)):=by
 rw[bI0];unfold atI ixN;rw[a3s (by lia),a3s (by lia)];simp[h]
def jI{a:Type}{l:List a}(h:l.length<=100):l.length<=sizeLine:=a3b h (by decide)
def zJ{cs:List Str}{z:Str}(h:z∈cs):cs.idxOf z < cs.length:=List.idxOf_lt_length_of_mem h
def cS4(cs so:List Str)(row:List Int):tI (pk cs so row)=.tup (so.map λz=>.int (row.getD (cs.idxOf z) 0)):=by
 unfold tI pk;rw[List.map_map];rfl
def dI7{cs so:List Str}{row:List Int}(b:row.length=cs.length)(hs:∀ z∈so,z∈cs)(c:so.length<=100){K:Res->List Sl->Prop}(k:K (.val (tI (pk cs so row))) [⟨.val,.tup (cs.map D.str)⟩,⟨.val,tI row⟩,⟨.val,.tup (so.map D.str)⟩]) :
  CK bQ [⟨.val,.tup (cs.map D.str)⟩,⟨.val,tI row⟩,⟨.val,.tup (so.map D.str)⟩] K:=by
 unfold bQ;rw[cQ];show RS gO [_,_,_,none] _;unfold gO;walk_at "dx";refine⟨jI (by rwa[a2a]),cR (λz=>.int (row.getD (cs.idxOf z) 0)) D.str so [_,_,_,none] rfl (λz a=>?_) ?_⟩;walk_at "dx";exact⟨hs z a,by rw[bQ4 (by rw[b];exact zJ (hs z a))];exact⟨rfl,rfl⟩⟩;rw[cS4]at k;exact k
def bQ5{cs so:List Str}(hs:∀ z∈so,z∈cs)(b:so.length<=100){K:Res->List Sl->Prop}(k:K (.own (.lst (so.map λz=>.int (cs.idxOf z:Nat)))) [⟨.val,.tup (cs.map D.str)⟩,⟨.val,.tup (so.map D.str)⟩]) :
  CK bC [⟨.val,.tup (cs.map D.str)⟩,⟨.val,.tup (so.map D.str)⟩] K:=by
 unfold bC;rw[cQ];show RS cY [_,_,none] _;unfold cY;walk_at "dx";refine⟨jI (by rwa[a2a]),cR (λz=>.int (cs.idxOf z:Nat)) D.str so [_,_,none] rfl (λz a=>?_) k⟩;walk_at "dx";exact⟨hs z a,rfl⟩
def cG0{cs:List Str}{ks:List (List Int)}{r:D}{m:Md}(hm:(m=.par\/m=.val)/\r=.lst (ks.map tI)\/m=.val/\r=.tup (ks.map tI))(h:ks.length < 4000/\(2<=(srt ks).length->∀ k∈ks,k≠[]))
  {K:Res->List Sl->Prop} (k:K (.val (.tup [.tup (cs.map D.str),.tup ((srt ks).map tI)])) [⟨.val,.tup (cs.map D.str)⟩,⟨m,r⟩]):CK cZ [⟨.val,.tup (cs.map D.str)⟩,⟨m,r⟩] K:=by
 unfold cZ;rw[cQ];show RS gP [_,_] _;unfold gP;rcases hm with⟨rfl | rfl,rfl⟩ | ⟨rfl,rfl⟩;walk_at "dx";refine cU7 h ?_;walk_at "dx";exact⟨sl2,k⟩;walk_at "dx";refine cU7 h ?_;walk_at "dx";exact⟨sl2,k⟩;walk_at "dx";refine dT2 h ?_;walk_at "dx";exact⟨sl2,k⟩
def oG{cs so:List Str}{row:List Int}(a:row.length=cs.length)(hs:∀ z∈so,z∈cs)(c:so.length<=100){K:Res->List Sl->Prop}(k:K (.val (tI (pk cs so row))) [⟨.val,tI row⟩,⟨.par,.lst (so.map λz=>.int (cs.idxOf z:Nat))⟩]) :
  CK cT [⟨.val,tI row⟩,⟨.par,.lst (so.map λz=>.int (cs.idxOf z:Nat))⟩] K:=by
 unfold cT;rw[cQ];show RS lU [_,_,none] _;unfold lU;walk_at "dx";refine⟨jI (by rwa[a2a]),cR (λz=>.int (row.getD (cs.idxOf z) 0)) (λz=>.int (cs.idxOf z:Nat)) so [_,_,none] rfl (λz b=>?_) ?_⟩;walk_at "dx";rw[bQ4 (by rw[a];exact zJ (hs z b))];exact⟨rfl,rfl⟩;walk_at "dx";rw[cS4]at k;exact k
noncomputable def ov(b:Bool)(d:D):Option Sl:=if b=true then some ⟨.val,d⟩else none
theorem aZ0{b:Bool}{d:D}{r:Sg}{s:Sl}{K:Sg->Prop}:Dv.PK 0 (ov b d::r) s K=K (some s::r):=by cases b<;>rfl
def nA{neg:Bool}{d:D}(h:cV d=true){K:Res->Prop}(k:K (.val (.bl (!neg)))):OK1 (eqD neg d d) K:=by
 have e:xS d d=true:=SeqAt.eqv_refl _ (cC h).1;show OK1 (if _ then _ else none) K;rw[bJ,e];refine⟨⟨h,h⟩,?_⟩;cases neg<;>exact k
theorem aD6{m:Nat}(hm:m<=59):∀ (l:List D),(∀ d∈l,cV d=true/\(gB d).depth<=m)->(cV (.tup l)=true/\cV (.lst l)=true)/\(gB (.tup l)).depth<=m+1
 | [],_=>⟨⟨rfl,rfl⟩,by simp[gB,toPys,PyData.depth,PyData.depthAll]⟩
 | d::r,h=>by
   obtain⟨⟨a,b⟩,c⟩:=aD6 hm r λx e=>h x (a5a _ e);obtain⟨p,q⟩:=h d a3a;obtain⟨f,k⟩:=cC p;obtain⟨g,n⟩:=cC a;have i:(gB (.tup (d::r))).canLay0=((gB d).canLay0&&(gB (.tup r)).canLay0):=by
    simp only[gB,toPys,PyData.canLay0,PyData.canLayAll0]
   have j:(gB (.tup (d::r))).depth<=m+1:=by
    simp only[gB,toPys,PyData.depth,PyData.depthAll]at c ⊢;lia
   refine⟨⟨?_,aY7 d r p b (a3b q hm)⟩,j⟩;unfold cV;rw[a1e,a3w,i,f,g];exact⟨rfl,by lia⟩
def dI8(k:List Int):cV (tI k)=true/\(gB (tI k)).depth<=1:=by
 obtain⟨⟨a,_⟩,b⟩:=aD6 (m:=0) (by decide) (k.map D.int) λd hd=>by
  obtain⟨i,_,rfl⟩:=a2e.mp hd;exact⟨rfl,a6a 0⟩
 exact⟨a,b⟩
def bQ6(ks:List (List Int)):cV (.tup (ks.map tI))=true/\cV (.lst (ks.map tI))=true:=
 (aD6 (m:=1) (by decide) (ks.map tI) λd hd=>by
  obtain⟨i,_,rfl⟩:=a2e.mp hd;exact dI8 i).1
def cA1{zs:List Str}(h:∀ z∈zs,Tx z):cV (.tup (zs.map D.str))=true:=
 (aD6 (m:=0) (by decide) (zs.map D.str) λd hd=>by
  obtain⟨i,hi,rfl⟩:=a2e.mp hd;exact⟨aD4 (h i hi).2,a6a 0⟩).1.1
theorem aZ1{l:List D}{K:Res->Prop}:OK1 (aH1 "tuple" (.tup l)) K=K (.val (.bl true)):=rfl
theorem aZ2{l:List D}{K:Res->Prop}:OK1 (aH1 "list" (.lst l)) K=K (.val (.bl true)):=rfl
theorem aZ3{i j:Int}{K:Res->Prop}:OK1 (eqD true (.int i) (.int j)) K=K (.val (.bl (!decide (i=j)))):=by
 have h:xS (.int i) (.int j)=decide (i=j):=by
  show(i==j)=_;rw[a3g];simp
 show OK1 (if cV (.int i)=true/\cV (.int j)=true then some (Res.val (.bl (if true then !xS (.int i) (.int j)else xS (.int i) (.int j))))else none) K=_;rw[a3s ⟨rfl,rfl⟩,h];rfl
local macro_rules | `(tactic| walk_at "dx")=>do
 let l:=("aZ1 aZ2 aZ3 aZ0 xH cD9 pN pO pQ pR pS pT pU pV pW pX pY pZ qA qB qC qD aH5 qE jX jY jZ qF qG kA kB kD qH qI aH6 qJ qK aH7 qL qM qN qO qP qQ kH kI qR qS qT qU qV kJ qW kK qX qY qZ rA rB rC rD rE kL kM kO rF rG rH rJ rK rL rM rN rO rP aH8 kP iA kQ rQ kR sF sG sH sI sJ sK sM sN sO lS aH9 sP lC iE fJ uW jC aL3 uY iF uF uG uH uI uJ uK uL uM sQ lE lF lG sR sS sV sW sZ aI0 aI1 aI2 aI3 tE tG tH lH lI tJ lJ tK tL lK iB tM lL aI4 tF tN tO tP tQ aI5 tS cE1 tT xM mZ xL xQ zQ zR zS tU tR bI tV tW tX tY rR rS rT rU rV rW rX rY rZ kS kU kW kX sA sC sE reduceIte".splitOn " ").toArray.map fun s=>Lean.mkIdent s.toName
 let m:=("aS4 List.getElem?_cons_succ List.getElem?_cons_zero Option.getD_some tZ uA uB aB6 aI6 Int.reducePow Int.reduceNeg Int.reduceLT Int.reduceLE Nat.reducePow Nat.reduceLT Int.reduceToNat Nat.reduceLeDiff uE uC aI7 uD kY kZ lA lB List.set_cons_zero List.set_cons_succ cW aP5 List.length_cons List.length_nil Nat.reduceAdd Nat.zero_add true_and and_true and_self Bool.not_false Bool.not_true Bool.false_eq_true Bool.true_and Bool.and_true Bool.or_false decide_eq_true_eq".splitOn " ").toArray.map fun s=>Lean.mkIdent s.toName
 `(tactic| simp only[$[↓$l:ident],*,$[$m:ident],*])
def dI9{a:Type}(y:List a):(y.map λ_=>D.bl true)=(y.map λ_=>true).map D.bl:=by rw[List.map_map];rfl
def aZ4{a:Type}(y:List a):(y.map λ_=>true).all id=true:=by simp
def aS6{cs:List Str}{ks:List (List Int)}{r:D}{m:Md}(hm:m=.par/\r=.lst (ks.map tI)\/m=.val/\r=.tup (ks.map tI))(e:∀ z∈cs,Tx z)(h:ks.length < 4000/\(2<=(srt ks).length->∀ k∈ks,k≠[]))
  (f:∀ k∈ks,k.length<=100) {K:Res->List Sl->Prop} (k:K (.val (.bl true)) [⟨.val,.tup [.tup (cs.map D.str),.tup ((srt ks).map tI)]⟩,⟨.val,.tup (cs.map D.str)⟩,⟨m,r⟩]) :
  CK bX [⟨.val,.tup [.tup (cs.map D.str),.tup ((srt ks).map tI)]⟩,⟨.val,.tup (cs.map D.str)⟩,⟨m,r⟩] K:=by
 have sl:∀ y∈srt ks,(y.map D.int).length<=sizeLine:=λy a=>by
  rw[a2a];exact jI (f y ((eK ks y).mp a))
 unfold bX;rw[cQ];show RS dA [_,_,_,none,none] _;unfold dA;rcases hm with⟨rfl,rfl⟩ | ⟨rfl,rfl⟩
 all_goals
  walk_at "dx";rw[a3u (by decide)];refine jD (λi c=>∃ b d,c=[_,_,_,ov b d,none]) ⟨false,.non,rfl⟩ ?_ ?_;rintro i d c hd ⟨b,d',rfl⟩;rw[a0b]at hd;obtain⟨y,a,rfl⟩:=a7b.mp hd;walk_at "dx";refine⟨sl y (a2b a),cR (λ_=>.bl true) D.int y [_,_,_,_,none] rfl (λx g=>?_) ?_⟩;walk_at "dx";refine cA0 ?_;walk_at "dx";exact rfl;rw[dI9 y];walk_at "dx";rw[aZ4];exact⟨_,.inl rfl,true,tI y,rfl⟩;rintro σ' ⟨b,d,rfl⟩;walk_at "dx";refine nA (cA1 e) ?_;walk_at "dx"
  first
  | refine cU7 h ?_
  | refine dT2 h ?_
  walk_at "dx";refine nA (bQ6 _).1 ?_;walk_at "dx";exact k
def bQ7{a:Type}{o:Option a}{x:a}{K:a->Prop}(e:o=some x)(k:K x):OK1 o K:=dH.mpr ⟨x,e,k⟩
def cS5{g row:Nat}{ri:DI}{a:DE}{b:DA}{σ:Sg}{Q:Out->Prop}(h0:σ[g]? = some none)(h:RI ri (σ.set g (some SG)) λitems l σ1=>l=none/\σ1[g]? = some (some SG)/\items.length < 4000/\OK1 (cQ9 row a b items [] (σ1.set g none)) λy=>Q (.rt (.own (cF5 y.1)) (y.2.set g none))):RS (cU6 g row ri a b) σ Q:=by
 obtain⟨x,e,c,d,f,i⟩:=dH.mp h;obtain⟨y,j,q⟩:=dH.mp i;refine bQ7 (x:=.rt (.own (cF5 y.1)) (y.2.set g none)) ?_ q;unfold cU6;rw[a3s h0,e];exact(a3s ⟨c,d,f⟩).trans (by rw[j];rfl)
theorem aZ5{h:Type}{row:Nat}{i:DE}{j:DA}{K:GA0×Sg->Prop}(u:h->D)(f:h->List Key)(v:h->D)(P:Sg->Prop):∀ (xs:List h) (acc:GA0) (b:Sg),P b ->
  (∀ x∈xs,∀ b,P b->OK1 (dgN row (u x) b) λc=>RE i c λr d=>dG5 r=some (f x)/\RA j d λrs g=>vals rs=some [v x]/\P g)->(∀ b,P b->K (xs.foldl (λa x=>aN4 (f x) (v x) a) acc,b))->OK1 (cQ9 row i j (xs.map u) acc b) K
 | [],acc,b,l,_,k=>bQ7 rfl (k b l)
 | x::xs,acc,b,l,hs,k=>by
   obtain⟨c,m,n⟩:=dH.mp (hs x a3a b l);obtain⟨⟨r,d⟩,o,p,s⟩:=dH.mp n;obtain⟨⟨rs,g⟩,t,w,A⟩:=dH.mp s;obtain⟨z,e,q⟩:=dH.mp (aZ5 (K:=K) u f v P xs (aN4 (f x) (v x) acc) g A (λy B=>hs y (a5a _ B)) k);refine bQ7 (x:=z) ?_ q;show(dgN row (u x) b).bind _=some z;rw[m];show(i c).bind _=some z;rw[o];show(dG5 r).bind _=some z;rw[p];show(j d).bind _=some z;rw[t];show(vals rs).bind _=some z;rw[w];exact e
noncomputable def lk:GA0->List Key->Option (List D)
 | [],_=>none
 | p::r,k=>if p.1=k then some p.2 else lk r k
theorem oH:∀ k:List Key,xG (k.map yP)=some k
 | []=>rfl
 | x::r=>by
   show(dQ6 (yP x)).bind _=_;have e:dQ6 (yP x)=some x:=by cases x<;>rfl
   rw[e];show(xG (r.map yP)).bind _=_;rw[oH r];rfl
theorem aZ6(k:List Key):∀ acc:GA0,bO6 (acc.map λp=>.tup (p.1.map yP)) (acc.map λp=>.lst p.2) k=some ((lk acc k).map .lst)
 | []=>rfl
 | p::r=>by
   show(xG (p.1.map yP)).bind _=some ((if p.1=k then some p.2 else lk r k).map D.lst);rw[oH];show(if p.1=k then _ else _)=_;by_cases e:p.1=k;rw[a3s e,a3s e];rfl;rw[a3u e,a3u e];exact aZ6 k r
theorem cG1(k j:List Key)(v:D):∀ acc:GA0,lk (aN4 k v acc) j=if k=j then some ((lk acc k).getD []++[v])else lk acc j
 | []=>by show(if k=j then _ else _)=_;rfl
 | p::r=>by
   show lk (if p.1=k then _ else _) j=_;by_cases e:p.1=k;rw[a3s e];show(if p.1=j then _ else _)=_;by_cases z:k=j;rw[a3s (e.trans z),a3s z];show _=some ((if p.1=k then some p.2 else _).getD []++[v]);rw[a3s e];rfl;rw[a3u (λq=>z (e.symm.trans q)),a3u z];show _=(if p.1=j then _ else _);rw[a3u (λq=>z (e.symm.trans q))]
   ·rw[a3u e];show(if p.1=j then _ else _)=_;rw[cG1 k j v r];show _=if k=j then some ((if p.1=k then some p.2 else lk r k).getD []++[v])else(if p.1=j then _ else _)
    rw[a3u e];by_cases z:k=j;rw[a3s z,a3u (λq=>e (q.trans z.symm)),a3s z];rw[a3u z,a3u z]
theorem cG2{b:Type}(f:b->List Key)(v:b->D)(k:List Key):∀ (xs:List b) (acc:GA0),((lk (xs.foldl (λa x=>aN4 (f x) (v x) a) acc) k).getD []=(lk acc k).getD []++(xs.filter λx=>decide (f x=k)).map v) /\
  ((lk (xs.foldl (λa x=>aN4 (f x) (v x) a) acc) k).isSome=((lk acc k).isSome||xs.any λx=>decide (f x=k)))
 | [],acc=>by simp
 | x::xs,acc=>by
   obtain⟨c,d⟩:=cG2 f v k xs (aN4 (f x) (v x) acc);rw[List.foldl_cons,c,d,cG1];by_cases e:f x=k;simp[e];simp[e]
noncomputable abbrev tD(cs:List Str)(ks:List (List Int)):D:=.tup [.tup (cs.map D.str),.tup (ks.map tI)]
def aZ7{neg:Bool}{z:Str}{zs:List Str}(hz:As z)(h:∀ z∈zs,As z){K:Res->Prop}(k:K (.val (.bl (if neg=true then !zs.contains z else zs.contains z)))):OK1 (inD neg (.str z) (.tup (zs.map D.str))) K:=by
 show OK1 (if _ then _ else none) K;rw[bJ];refine⟨⟨aD4 hz,aD5 h⟩,?_⟩;have e:((zs.map D.str).any λy=>xS y (.str z))=zs.contains z:=by
  rw[List.any_map,List.contains_eq_any_beq];congr 1;funext y;show(y==z)=(z==y);rw[a3g,a3v,a3v,eq_comm]
 rw[e];exact k
def pB{cs so:List Str}(hs:∀ z∈so,z∈cs)(b:so.length<=100){K:Res->List Sl->Prop}(k:K (.own (.lst (so.map λz=>.int (cs.idxOf z:Nat)))) [⟨.val,.tup (cs.map D.str)⟩,⟨.par,.lst (so.map D.str)⟩]) :
  CK bC [⟨.val,.tup (cs.map D.str)⟩,⟨.par,.lst (so.map D.str)⟩] K:=by
 unfold bC;rw[cQ];show RS cY [_,_,none] _;unfold cY;walk_at "dx";refine⟨jI (by rwa[a2a]),cR (λz=>.int (cs.idxOf z:Nat)) D.str so [_,_,none] rfl (λz a=>?_) ?_⟩;walk_at "dx";exact⟨hs z a,rfl⟩;walk_at "dx";exact k
noncomputable def cmn(cs ds:List Str):List Str:=cs.filter λz=>ds.contains z
noncomputable def mor(cs ds:List Str):List Str:=ds.filter λz=>!cs.contains z
def cA2{cs ds:List Str}:∀ z∈cmn cs ds,z∈cs:=λz h=>(List.mem_filter.mp h).1
def cS6{cs ds:List Str}:∀ z∈cmn cs ds,z∈ds:=λz h=>by simpa using(List.mem_filter.mp h).2
def cA3{cs ds:List Str}:∀ z∈mor cs ds,z∈ds:=λz h=>(List.mem_filter.mp h).1
def bQ8{cs ds:List Str}{ks a:List (List Int)}(e:cs.length<=20)(b:∀ z∈cs,Tx z)(c:∀ z∈ds,Tx z){K:Res->List Sl->Prop}(k:K (.own (.lst ((cmn cs ds).map D.str))) [⟨.val,tD cs ks⟩,⟨.val,tD ds a⟩]) :
  CK bZ [⟨.val,tD cs ks⟩,⟨.val,tD ds a⟩] K:=by
 unfold bZ;rw[cQ];show RS cE [_,_,none] _;unfold cE;walk_at "dx";refine⟨jI (by rw[a2a];lia),fR (λz=>ds.contains z) D.str D.str cs [_,_,none] rfl (λz d=>?_) k⟩;walk_at "dx";refine aZ7 (b z d).2 (λz h=>(c z h).2) ?_;walk_at "dx";rfl
def cS7(l:List Int):dG5 (.val (tI l))=some (l.map Sum.inl):=by
 show xG (l.map D.int)=_;have:l.map D.int=(l.map (Sum.inl:Int->Key)).map yP:=by rw[List.map_map];rfl
 rw[this,oH]
noncomputable def grs(cs so mo:List Str)(ks:List (List Int)):GA0:=ks.foldl (λa x=>aN4 ((pk cs so x).map Sum.inl) (tI (pk cs mo x)) a) []
def bE1{cs so mo:List Str}{ks:List (List Int)}(c:∀ y∈ks,y.length=cs.length)(g:ks.length<=600)(hs:∀ z∈so,z∈cs)(hm:∀ z∈mo,z∈cs)(sl:so.length<=100)(e:mo.length<=100){K:Res->List Sl->Prop}
  (k:K (.own (cF5 (grs cs so mo ks))) [⟨.val,tD cs ks⟩,⟨.par,.lst (so.map D.str)⟩,⟨.par,.lst (mo.map D.str)⟩]) :
  CK gQ [⟨.val,tD cs ks⟩,⟨.par,.lst (so.map D.str)⟩,⟨.par,.lst (mo.map D.str)⟩] K:=by
 unfold gQ;rw[cQ];show RS iT [_,_,_,none,none,none,none] _;unfold iT;walk_at "dx";refine pB hs sl ?_;walk_at "dx";refine pB hm e ?_;walk_at "dx";refine cS5 rfl ?_;walk_at "dx";refine⟨by rw[a2a];lia,aZ5 tI (λx=>(pk cs so x).map Sum.inl) (λx=>tI (pk cs mo x)) (λa=>∃ b d,a=[_,_,_,_,_,none,ov b d]) ks [] _ ⟨false,.non,rfl⟩ ?_ ?_⟩;rintro x f a ⟨b,d,rfl⟩;walk_at "dx";refine oG (c x f) hs sl ?_;walk_at "dx";refine⟨cS7 _,oG (c x f) hm e ?_⟩;walk_at "dx";exact⟨rfl,true,_,rfl⟩;rintro a ⟨b,d,rfl⟩;walk_at "dx";exact k
end Mr
namespace Dv
open PySem L2 Mr
mutual
def smp:D->Bool
 | .non=>true
 | .int _=>true
 | .str z=>PyData.strOk z
 | .tup l=>smps l
 | .lst l=>smps l
 | _=>false
def smps:List D->Bool
 | []=>true
 | d::r=>smp d&&smps r
end
mutual
theorem bQ9:∀ {d:D},smp d=true->(gB d).canLay0=true
 | .non,_=>rfl
 | .int _,_=>rfl
 | .str z,h=>h
 | .tup l,h=>smps_lay (l:=l) h
 | .lst l,h=>smps_lay (l:=l) h
 | .bl _,h=>nomatch h
 | .dic _ _,h=>nomatch h
theorem smps_lay:∀ {l:List D},smps l=true->PyData.canLayAll0 (toPys l)=true
 | [],_=>rfl
 | d::r,h=>by
   have h':smp d=true/\smps r=true:=by simpa[smps]using h
   show((gB d).canLay0&&PyData.canLayAll0 (toPys r))=true;rw[bQ9 h'.1,smps_lay h'.2];rfl
end
mutual
theorem bR0:∀ {d e:D},smp d=true->smp e=true->(PyData.eqv (gB d) (gB e)=true↔d=e)
 | .non,e,_,he=>by cases e<;>simp_all [gB,PyData.eqv,smp]
 | .str x,e,_,he=>by cases e<;>simp_all [gB,PyData.eqv,smp]
 | .int i,e,_,he=>by cases e<;>simp_all [gB,PyData.eqv,smp]
 | .tup l,e,hd,he=>by
   cases e with
   | tup m=>
     show PyData.eqvAll (toPys l) (toPys m)=true↔_;rw[eqvs_smp (l:=l) (m:=m) hd he,D.tup.injEq]
   | _=>simp_all [gB,PyData.eqv,smp]
 | .lst l,e,hd,he=>by
   cases e with
   | lst m=>
     show PyData.eqvAll (toPys l) (toPys m)=true↔_;rw[eqvs_smp (l:=l) (m:=m) hd he,D.lst.injEq]
   | _=>simp_all [gB,PyData.eqv,smp]
 | .bl _,_,h,_=>nomatch h
 | .dic _ _,_,h,_=>nomatch h
theorem eqvs_smp:∀ {l m:List D},smps l=true->smps m=true->(PyData.eqvAll (toPys l) (toPys m)=true↔l=m)
 | [],[],_,_=>by simp[toPys,PyData.eqvAll]
 | [],e::m,_,_=>by simp[toPys,PyData.eqvAll]
 | d::l,[],_,_=>by simp[toPys,PyData.eqvAll]
 | d::l,e::m,hd,he=>by
   have a:smp d=true/\smps l=true:=by simpa[smps]using hd
   have b:smp e=true/\smps m=true:=by simpa[smps]using he
   show((gB d).eqv (gB e)&&PyData.eqvAll (toPys l) (toPys m))=true↔_;rw[a1e,bR0 a.1 b.1,eqvs_smp a.2 b.2,List.cons.injEq]
end
structure Ok(n:Nat)(d:D):Prop where
 smp:Dv.smp d=true
 dep:(gB d).depth<=n
theorem aS7:∀ {l:List D},(∀ d∈l,smp d=true)->smps l=true
 | [],_=>rfl
 | d::r,h=>by
   show(smp d&&smps r)=true;rw[h d a3a,aS7 λx a=>h x (a5a _ a)];rfl
theorem aS8{n:Nat}:∀ {l:List D},(∀ d∈l,(gB d).depth<=n)->PyData.depthAll (toPys l)<=n
 | [],_=>a2d _
 | d::r,h=>Nat.max_le.mpr ⟨h d a3a,aS8 λx a=>h x (a5a _ a)⟩
theorem Ok.lst{n:Nat}{l:List D}(h:∀ d∈l,Ok n d):Ok (n+1) (.lst l):=⟨aS7 λd hd=>(h d hd).smp,Nat.succ_le_succ (aS8 λd hd=>(h d hd).dep)⟩
theorem Ok.tup{n:Nat}{l:List D}(h:∀ d∈l,Ok n d):Ok (n+1) (.tup l):=⟨aS7 λd hd=>(h d hd).smp,Nat.succ_le_succ (aS8 λd hd=>(h d hd).dep)⟩
theorem Ok.int{n:Nat}{i:Int}:Ok n (.int i):=⟨rfl,a2d _⟩
theorem Ok.str{n:Nat}{z:Str}(h:∀ c∈z.cps.toList,c < 128):Ok n (.str z):=by
 refine⟨?_,a2d _⟩;show PyData.strOk z=true;unfold PyData.strOk;rw[← Array.all_toList,a8g];intro c a;have:=h c a;simp;lia
def Ok.cmp{n:Nat}{d:D}(h:Ok n d)(hn:n<=60):cV d=true:=by
 unfold cV;rw[bQ9 h.smp,a3A (a3b h.dep hn)];rfl
def bR1{n m:Nat}{d e:D}(a:Ok n d)(b:Ok m e):xS d e=decide (d=e):=by
 rw[a3g,a3w];exact bR0 a.smp b.smp
def cG3{neg:Bool}{n m:Nat}{d e:D}(a:Ok n d)(b:Ok m e)(hn:n<=60)(hm:m<=60){K:Res->Prop}(k:K (.val (.bl (if neg=true then !decide (d=e)else decide (d=e))))):OK1 (eqD neg d e) K:=by
 unfold eqD;rw[a3s ⟨a.cmp hn,b.cmp hm⟩,bR1 a b];exact k
theorem cG4{n m:Nat}{d:D}(h:Ok n d):∀ {l:List D},(∀ x∈l,Ok m x)->(l.any λy=>xS y d)=decide (d∈l)
 | [],_=>by simp
 | x::r,hl=>by
   rw[List.any_cons,cG4 h λy a=>hl y (a5a _ a),bR1 (hl x a3a) h,a3g,Bool.or_eq_true,a3w,a3w,a3w,a1c,eq_comm]
def dJ0{neg:Bool}{n m:Nat}{d:D}{l:List D}{b:Bool}(c:Ok n d)(a:∀ x∈l,Ok m x)(hn:n<=60)(hm:m < 60){K:Res->Prop}(k:K (.val (.bl (if neg=true then !decide (d∈l)else decide (d∈l))))):OK1 (inD neg d (if b=true then .lst l else .tup l)) K:=by
 have e:inD neg d (if b=true then .lst l else .tup l)=if cV d=true/\cV (if b=true then .lst l else .tup l)=true then some (.val (.bl (if neg then !(l.any λy=>xS y d)else l.any λy=>xS y d)))else none:=by
  cases b<;>cases d<;>rfl
 have f:cV (if b=true then .lst l else .tup l)=true:=by
  cases b;exact(Ok.tup a).cmp (by lia);exact(Ok.lst a).cmp (by lia)
 rw[e,a3s ⟨c.cmp hn,f⟩,cG4 c a];exact k
def cS8{neg:Bool}{n m:Nat}{d:D}{l:List D}(a:Ok n d)(c:∀ x∈l,Ok m x)(hn:n<=60)(hm:m < 60){K:Res->Prop}(k:K (.val (.bl (if neg=true then !decide (d∈l)else decide (d∈l))))):OK1 (inD neg d (.tup l)) K:=dJ0 (b:=false) a c hn hm k
end Dv
namespace Mr
open PySem L2 Dv Sx
theorem aS9{l m:List D}{K:D×D->Prop}:OK1 (dL5 (.lst l) [.lst m]) K=(l.length+m.length<=sizeLine/\K (.lst (l++m),.non)):=by
 show OK1 (if _ then _ else none) K=_;rw[bJ];rfl
theorem bR2{σ:Sg}{d:D}{K:D->Prop}:RD σ (.val d) K=K d:=rfl
local macro_rules | `(tactic| walk_at "dx")=>do
 let l:=("aS9 bR2 aZ1 aZ2 aZ3 aZ0 xH cD9 pN pO pQ pR pS pT pU pV pW pX pY pZ qA qB qC qD aH5 qE jX jY jZ qF qG kA kB kD qH qI aH6 qJ qK aH7 qL qM qN qO qP qQ kH kI qR qS qT qU qV kJ qW kK qX qY qZ rA rB rC rD rE kL kM kO rF rG rH rJ rK rL rM rN rO rP aH8 kP iA kQ rQ kR sF sG sH sI sJ sK sM sN sO lS aH9 sP lC iE fJ uW jC aL3 uY iF uF uG uH uI uJ uK uL uM sQ lE lF lG sR sS sV sW sZ aI0 aI1 aI2 aI3 tE tG tH lH lI tJ lJ tK tL lK iB tM lL aI4 tF tN tO tP tQ aI5 tS cE1 tT xM mZ xL xQ zQ zR zS tU tR bI tV tW tX tY rR rS rT rU rV rW rX rY rZ kS kU kW kX sA sC sE reduceIte".splitOn " ").toArray.map fun s=>Lean.mkIdent s.toName
 let m:=("aS4 List.getElem?_cons_succ List.getElem?_cons_zero Option.getD_some tZ uA uB aB6 aI6 Int.reducePow Int.reduceNeg Int.reduceLT Int.reduceLE Nat.reducePow Nat.reduceLT Int.reduceToNat Nat.reduceLeDiff uE uC aI7 uD kY kZ lA lB List.set_cons_zero List.set_cons_succ cW aP5 List.length_cons List.length_nil Nat.reduceAdd Nat.zero_add true_and and_true and_self Bool.not_false Bool.not_true Bool.false_eq_true Bool.true_and Bool.and_true Bool.or_false decide_eq_true_eq".splitOn " ").toArray.map fun s=>Lean.mkIdent s.toName
 `(tactic| simp only[$[↓$l:ident],*,$[$m:ident],*])
def okI(l:List Int):Ok 1 (tI l):=Ok.tup λd h=>by obtain⟨i,_,rfl⟩:=a2e.mp h;exact Ok.int
def cG5{a b:List Int}:tI a=tI b↔a=b:=by
 constructor
 ·intro h;have:a.map D.int=b.map D.int:=by injection h
  exact(List.map_inj_right (f:=D.int) λx y h=>by injection h).mp this
 ·rintro rfl;rfl
def dR2{a b:List Int}{K:Res->Prop}(k:K (.val (.bl (decide (a=b))))):OK1 (eqD false (tI a) (tI b)) K:=cG3 (okI a) (okI b) (by decide) (by decide) (by
 have:decide (tI a=tI b)=decide (a=b):=by rw[a3g,a3w,a3w,cG5]
 rw[this];exact k)
noncomputable def fT(cs ds:List Str)(a:List (List Int))(row:List Int):List (List Int):=(a.filter λf=>decide (pk ds (cmn cs ds) f=pk cs (cmn cs ds) row)).map λf=>row++pk ds (mor cs ds) f
noncomputable def jn(cs ds:List Str)(ks a:List (List Int)):List (List Int):=ks.flatMap (fT cs ds a)
def oJ{cs ds:List Str}{a:List (List Int)}{row:List Int}:(fT cs ds a row).length<=a.length:=by
 unfold fT;rw[a2a];exact List.length_filter_le _ _
theorem vO{a b:Type}{f:a->List b}{n:Nat}(h:∀ x,(f x).length<=n):∀ l:List a,(l.flatMap f).length<=l.length*n
 | []=>by simp
 | x::l=>by
   have:=vO h l;have:=h x;rw[List.flatMap_cons,a9a,a5f,Nat.succ_mul];lia
def cG6{cs ds:List Str}{ks a:List (List Int)}(h:ks.length*a.length<=3600):(jn cs ds ks a).length<=ks.length*a.length:=vO (f:=fT cs ds a) (λx=>oJ) ks
def cG7{cs ds:List Str}{ks b:List (List Int)}(c:∀ y∈ks,y.length=cs.length):∀ y∈jn cs ds ks b,y.length=cs.length+(mor cs ds).length:=λy d=>by
 obtain⟨a,e,g⟩:=List.mem_flatMap.mp d;obtain⟨f,_,rfl⟩:=a2e.mp g;rw[a9a,c a e];simp[pk]
def cG8{cs ds:List Str}{ks a:List (List Int)}(h:ks.length*a.length<=3600)(b:∀ y∈ks,y.length=cs.length):(jn cs ds ks a).length < 4000/\(2<=(srt (jn cs ds ks a)).length->∀ k∈jn cs ds ks a,k≠[]):=
 ⟨by have:=cG6 (cs:=cs) (ds:=ds) h;lia,xP (cG7 b)⟩
def aD7{a:Type}{l:List a}(h:l.length<=3600):l.length<=sizeLine:=a3b h (by decide)
def dJ1{g i f:DE}{σ:Sg}{Q:Res->Sg->Prop}(acc:GA0)(h:RE g σ λx b=>RD b x λj=>cR3 j=true/\RE i b λy c=>RE f c λz a=>z=.own (.lst [])/\RD a x λd=>RD a y λe=>∃ l,d=cF5 acc/\e=tI l/\∀ v,(v=.val (.lst ((lk acc (l.map Sum.inl)).getD []))\/v=.own (.lst ((lk acc (l.map Sum.inl)).getD [])))->Q v a):RE (bO7 g i f) σ Q:=by
 obtain⟨⟨x,b⟩,s,h⟩:=dH.mp h;obtain⟨j,m,h0,h⟩:=dH.mp h;obtain⟨⟨y,c⟩,n,h⟩:=dH.mp h;obtain⟨⟨z,a⟩,o,p,h⟩:=dH.mp h;obtain⟨d,q,h⟩:=dH.mp h;obtain⟨e,r,l,rfl,rfl,k⟩:=dH.mp h;dsimp only at m n o q r p k;have t:dL8 (cF5 acc) (tI l)=some ((lk acc (l.map Sum.inl)).map D.lst):=by
  show(xG (l.map D.int)).bind _=_;have:l.map D.int=(l.map (Sum.inl:Int->Key)).map yP:=by rw[List.map_map];rfl
  rw[this,oH];exact aZ6 _ acc
 have u:bO7 g i f σ=some ((match (lk acc (l.map Sum.inl)).map D.lst with | some v=>.val v | none=>z),a):=by
  unfold bO7;rw[s];show(rd b x).bind _=_;rw[m];show(if cR3 j=true then _ else none)=_;rw[a3s h0,n];show(f c).bind _=_;rw[o];show(rd a x).bind _=_;rw[q];show(rd a y).bind _=_;rw[r];show(dL8 (cF5 acc) (tI l)).bind _=_;rw[t];rfl
 refine bQ7 u (k _ ?_);subst p;cases w:lk acc (l.map Sum.inl)with
 | none=>exact .inr rfl
 | some v=>exact .inl rfl
def dJ2{a b:List Int}:a.map (Sum.inl:Int->Key)=b.map Sum.inl↔a=b:=List.map_inj_right λx y h=>by injection h
def cS9{cs ds:List Str}{a:List (List Int)}{row:List Int}:((lk (grs ds (cmn cs ds) (mor cs ds) a) ((pk cs (cmn cs ds) row).map Sum.inl)).getD [])=(a.filter λf=>decide (pk ds (cmn cs ds) f=pk cs (cmn cs ds) row)).map λf=>tI (pk ds (mor cs ds) f):=by
 have:=(cG2 (λx=>(pk ds (cmn cs ds) x).map Sum.inl) (λx=>tI (pk ds (mor cs ds) x)) ((pk cs (cmn cs ds) row).map Sum.inl) a []).1;rw[show lk [] ((pk cs (cmn cs ds) row).map Sum.inl)=none from rfl]at this;refine this.trans ?_;simp only[Option.getD_none,List.nil_append];congr 1;exact List.filter_congr λf _=>by rw[a3g,a3w,a3w,dJ2]
def bR3{cs ds:List Str}{ks a:List (List Int)}(e:cs.length<=20)(hd:ds.length<=20)(g:∀ z∈cs,Tx z)(j:∀ z∈ds,Tx z)(q:ks.length<=3600)(hj:a.length<=600)(hm:ks.length*a.length<=3600)(c:∀ y∈ks,y.length=cs.length)(hs:∀ y∈a,y.length=ds.length){K:Res->List Sl->Prop}
  (k:K (.val (tD (cs++mor cs ds) (srt (jn cs ds ks a)))) [⟨.val,tD cs ks⟩,⟨.val,tD ds a⟩]) :
  CK gC [⟨.val,tD cs ks⟩,⟨.val,tD ds a⟩] K:=by
 have cl:(cmn cs ds).length<=20:=a3b (List.length_filter_le _ _) e;have r:(mor cs ds).length<=20:=a3b (List.length_filter_le _ _) hd;have sl:10000<=sizeLine:=by decide
 unfold gC;rw[cQ];show RS lW [_,_,none,none,none,none,none,none,none,none] _;unfold lW;walk_at "dx";refine bQ8 e g j ?_;walk_at "dx";refine⟨jI (by rw[a2a];lia),fR (λz=>!cs.contains z) D.str D.str ds [_,_,_,none,none,none,none,none,none,none] rfl (λz p=>?_) ?_⟩;walk_at "dx";refine aZ7 (j z p).2 (λz h=>(g z h).2) ?_;walk_at "dx";rfl
 walk_at "dx";refine⟨by decide,bE1 (so:=cmn cs ds) (mo:=mor cs ds) hs hj cS6 cA3 (by lia) (by lia) ?_⟩;walk_at "dx";refine pB (so:=cmn cs ds) cA2 (by lia) ?_;walk_at "dx";refine⟨a2d _,jD (λi l=>∃ b d,l=[_,_,some ⟨.own,.lst ((cmn cs ds).map D.str)⟩,some ⟨.own,.lst ((mor cs ds).map D.str)⟩,some ⟨.own,cF5 (grs ds (cmn cs ds) (mor cs ds) a)⟩,some ⟨.own,.lst ((cmn cs ds).map λz=>.int (cs.idxOf z:Nat))⟩,some ⟨.own,.lst (((ks.take i).flatMap (fT cs ds a)).map tI)⟩,ov b d,none,none]) ⟨false,.non,rfl⟩ ?_ ?_⟩
 ·rintro i d l hd ⟨b,d',rfl⟩;rw[a0b]at hd;obtain⟨row,m,rfl⟩:=a7b.mp hd;have n:=a2b m;have s:((ks.take i).flatMap (fT cs ds a)).length<=3600:=by
   have t:=vO (f:=fT cs ds a) (λx=>oJ) (ks.take i);have u:(ks.take i).length*a.length<=ks.length*a.length:=Nat.mul_le_mul_right _ (List.length_take_le' _ _);lia
  have tk:(ks.take (i+1)).flatMap (fT cs ds a)=(ks.take i).flatMap (fT cs ds a)++fT cs ds a row:=by rw[a5e,m,List.flatMap_append];simp
  walk_at "dx";refine dJ1 (grs ds (cmn cs ds) (mor cs ds) a) ?_;walk_at "dx";refine⟨rfl,oG (c row n) cA2 (by lia) ?_⟩;walk_at "dx";refine⟨a2d _,_,rfl,λv o=>?_⟩;rw[cS9]at o;have w:=List.length_filter_le (λf=>decide (pk ds (cmn cs ds) f=pk cs (cmn cs ds) row)) a;rcases o with rfl | rfl
  all_goals
   walk_at "dx";refine⟨by rw[a2a];lia,cR (λf=>tI (row++pk ds (mor cs ds) f)) (λf=>tI (pk ds (mor cs ds) f)) _ [_,_,_,_,_,_,_,_,none,none] rfl (λf A=>?_) ?_⟩;walk_at "dx";refine⟨?_,by rw[← a4d],rfl⟩;rw[a2a,a2a,c row n];simp[pk];lia;walk_at "dx";refine⟨by rw[a2a,a2a];lia,_,.inl rfl,true,tI row,?_⟩;rw[tk,a4d];unfold fT;rw[List.map_map];rfl
 ·rintro σ' ⟨b,d,rfl⟩;rw[a2a,List.take_length];walk_at "dx";refine⟨by rw[a2a,a2a];lia,?_⟩;rw[← a4d];refine cG0 (.inl ⟨.inl rfl,rfl⟩) (cG8 hm c) ?_;walk_at "dx";exact k
def bR4{cs so:List Str}{row:List Int}(b:row.length=cs.length)(hs:∀ z∈so,z∈cs)(c:so.length<=100){K:Res->List Sl->Prop}(k:K (.val (tI (pk cs so row))) [⟨.val,.tup (cs.map D.str)⟩,⟨.val,tI row⟩,⟨.par,.lst (so.map D.str)⟩]) :
  CK bQ [⟨.val,.tup (cs.map D.str)⟩,⟨.val,tI row⟩,⟨.par,.lst (so.map D.str)⟩] K:=by
 unfold bQ;rw[cQ];show RS gO [_,_,_,none] _;unfold gO;walk_at "dx";refine⟨jI (by rwa[a2a]),cR (λz=>.int (row.getD (cs.idxOf z) 0)) D.str so [_,_,_,none] rfl (λz a=>?_) ?_⟩;walk_at "dx";exact⟨hs z a,by rw[bQ4 (by rw[b];exact zJ (hs z a))];exact⟨rfl,rfl⟩⟩;walk_at "dx";rw[cS4]at k;exact k
def bE2{cs ds:List Str}{a:List (List Int)}{row f:List Int}{j:Nat}(b:a[j]? = some f):fT cs ds (a.take (j+1)) row=fT cs ds (a.take j) row++(if pk cs (cmn cs ds) row=pk ds (cmn cs ds) f then[row++pk ds (mor cs ds) f]else[]):=by
 unfold fT;rw[a5e,b,List.filter_append,a4d];congr 1;by_cases e:pk cs (cmn cs ds) row=pk ds (cmn cs ds) f;rw[a3s e];simp[e];rw[a3u e];simp[Ne.symm e]
def aD8{cs ds:List Str}{ks a:List (List Int)}(v:cs.length<=20)(hd:ds.length<=20)(o:∀ z∈cs,Tx z)(p:∀ z∈ds,Tx z)(w:ks.length<=3600)(hj:a.length<=600)(hm:ks.length*a.length<=3600)(m:∀ y∈ks,y.length=cs.length)(hs:∀ y∈a,y.length=ds.length){K:Res->List Sl->Prop}
  (k:K (.val (tD (cs++mor cs ds) (srt (jn cs ds ks a)))) [⟨.val,tD cs ks⟩,⟨.val,tD ds a⟩]) :
  CK cU [⟨.val,tD cs ks⟩,⟨.val,tD ds a⟩] K:=by
 have cl:(cmn cs ds).length<=20:=a3b (List.length_filter_le _ _) v;have A:(mor cs ds).length<=20:=a3b (List.length_filter_le _ _) hd;have sl:10000<=sizeLine:=by decide
 unfold cU;rw[cQ];show RS eQ [_,_,none,none,none,none,none,none] _;unfold eQ;walk_at "dx";refine⟨jI (by rw[a2a];lia),fR (λz=>ds.contains z) D.str D.str cs [_,_,none,none,none,none,none,none] rfl (λz n=>?_) ?_⟩;walk_at "dx";refine aZ7 (o z n).2 (λz h=>(p z h).2) ?_;walk_at "dx";rfl
 walk_at "dx";refine⟨jI (by rw[a2a];lia),fR (λz=>!cs.contains z) D.str D.str ds [_,_,_,none,none,none,none,none] rfl (λz n=>?_) ?_⟩;walk_at "dx";refine aZ7 (p z n).2 (λz h=>(o z h).2) ?_;walk_at "dx";rfl
 walk_at "dx";refine⟨a2d _,jD (λi g=>∃ b d c d',g=[some ⟨.val,tD cs ks⟩,some ⟨.val,tD ds a⟩,some ⟨.own,.lst ((cmn cs ds).map D.str)⟩,some ⟨.own,.lst ((mor cs ds).map D.str)⟩,some ⟨.own,.lst (((ks.take i).flatMap (fT cs ds a)).map tI)⟩,ov b d,ov c d',none]) ⟨false,.non,false,.non,rfl⟩ ?_ ?_⟩
 ·rintro i d g hd ⟨b,B,c,l,rfl⟩;rw[a0b]at hd;obtain⟨row,q,rfl⟩:=a7b.mp hd;have r:=a2b q;have C:((ks.take i).flatMap (fT cs ds a)).length<=3600:=by
   have E:=vO (f:=fT cs ds a) (λx=>oJ) (ks.take i);have F:(ks.take i).length*a.length<=ks.length*a.length:=Nat.mul_le_mul_right _ (List.length_take_le' _ _);lia
  have tk:(ks.take (i+1)).flatMap (fT cs ds a)=(ks.take i).flatMap (fT cs ds a)++fT cs ds a row:=by rw[a5e,q,List.flatMap_append];simp
  walk_at "dx";refine jD (λj g=>∃ c d',g=[some ⟨.val,tD cs ks⟩,some ⟨.val,tD ds a⟩,some ⟨.own,.lst ((cmn cs ds).map D.str)⟩,some ⟨.own,.lst ((mor cs ds).map D.str)⟩,some ⟨.own,.lst (((ks.take i).flatMap (fT cs ds a)++fT cs ds (a.take j) row).map tI)⟩,some ⟨.val,tI row⟩,ov c d',none]) ⟨c,l,by simp[fT]⟩ ?_ ?_
  ·rintro j d g hd ⟨c,l,rfl⟩;rw[a0b]at hd;obtain⟨f,s,rfl⟩:=a7b.mp hd;have t:=a2b s;walk_at "dx";refine bR4 (so:=cmn cs ds) (m row r) cA2 (by lia) ?_;walk_at "dx";refine bR4 (so:=cmn cs ds) (hs f t) cS6 (by lia) ?_;walk_at "dx";refine dR2 ?_;walk_at "dx";have u:=bE2 (cs:=cs) (ds:=ds) (row:=row) s;have G:(fT cs ds (a.take j) row).length<=600:=a3b oJ (a3b (List.length_take_le' _ _) hj);split;rename_i e;refine bR4 (so:=mor cs ds) (hs f t) cA3 (by lia) ?_;walk_at "dx";refine⟨?_,?_,_,.inl rfl,true,tI f,?_⟩;rw[a2a,a2a,m row r];simp[pk];lia;rw[a2a,a9a];lia;rw[u,a3s e,← List.append_assoc,a4d (l₂:=[row++pk ds (mor cs ds) f])];rw[← a4d];rfl;rename_i e;exact⟨_,.inl rfl,true,tI f,by rw[u,a3u e,a1g];rfl⟩
  ·rintro σ' ⟨c,l,rfl⟩;refine⟨_,.inl rfl,true,tI row,c,l,?_⟩;rw[a2a,List.take_length,tk];rfl
 ·rintro σ' ⟨b,d,c,d',rfl⟩;rw[a2a,List.take_length];walk_at "dx";refine⟨by rw[a2a,a2a];lia,cU7 (cG8 hm m) ?_⟩;walk_at "dx";refine⟨by decide,?_⟩;rw[← a4d];exact k
def dJ3{cs so:List Str}{ks:List (List Int)}(c:∀ y∈ks,y.length=cs.length)(hs:∀ z∈so,z∈cs)(b:so.length<=100)(d:ks.length<=3600)
  {K:Res->List Sl->Prop} (k:K (.val (tD so (srt (ks.map (pk cs so))))) [⟨.val,tD cs ks⟩,⟨.val,.tup (so.map D.str)⟩]) :
  CK lV [⟨.val,tD cs ks⟩,⟨.val,.tup (so.map D.str)⟩] K:=by
 unfold lV;rw[cQ];show RS aM1 [_,_,none,none] _;unfold aM1;walk_at "dx";refine bQ5 hs b ?_;walk_at "dx";refine⟨aD7 (by rw[a2a];lia),cR (λy=>tI (pk cs so y)) tI ks [_,_,_,none] rfl (λy a=>?_) ?_⟩;walk_at "dx";refine oG (c y a) hs b ?_;walk_at "dx";exact rfl;refine cG0 (ks:=ks.map (pk cs so)) (.inl ⟨.inl rfl,by rw[List.map_map];rfl⟩) ⟨by rw[a2a];lia,xP (n:=so.length) λy a=>?_⟩ ?_;obtain⟨x,_,rfl⟩:=a2e.mp a;exact a2a ..;walk_at "dx";exact k
noncomputable def gt(cs:List Str)(row:List Int)(z:Str):Int:=row.getD (cs.idxOf z) 0
def bE3(cs so:List Str)(row:List Int):pk cs so row=so.map (gt cs row):=rfl
def aM7{cs:List Str}{f:Str->Int}{z:Str}(h:z∈cs):gt cs (cs.map f) z=f z:=by
 unfold gt;have a:=zJ h;rw[a2i,a0b,a0a a];simp
def uZ{cs:List Str}{row:List Int}(nd:cs.Nodup)(a:row.length=cs.length):cs.map (gt cs row)=row:=by
 refine List.ext_getElem (by simp[a]) λi c b=>?_;rw[List.getElem_map];unfold gt;have hi:i < cs.length:=by lia
 rw[List.Nodup.idxOf_getElem nd i hi,a2i,a0a b];rfl
def mJ{so:List Str}{f g:Str->Int}(h:∀ z∈so,f z=g z):so.map f=so.map g:=List.map_congr_left h
def vP{so:List Str}{f g:Str->Int}(h:so.map f=so.map g):∀ z∈so,f z=g z:=List.map_inj_left.mp h
structure Tb where
 cs:List Str
 ks:List (List Int)
 nd:cs.Nodup
 tx:∀ z∈cs,Tx z
 ln:∀ y∈ks,y.length=cs.length
 ri:bE8 ks
namespace Tb
noncomputable def d(A:Tb):D:=tD A.cs A.ks
def sm(A:Tb)(f:Str->Int):Prop:=A.cs.map f∈A.ks
def sm_same{A:Tb}{f g:Str->Int}(h:∀ z∈A.cs,f z=g z):A.sm f↔A.sm g:=by unfold sm;rw[mJ h]
def ext{cs:List Str}{ks ls:List (List Int)}(nd:cs.Nodup)(b:∀ y∈ks,y.length=cs.length)(c:∀ y∈ls,y.length=cs.length)(d:bE8 ks)(e:bE8 ls)(h:∀ f:Str->Int,cs.map f∈ks↔cs.map f∈ls):ks=ls:=by
 refine aK9 d e λx=>⟨λa=>?_,λa=>?_⟩;have:=(h (gt cs x)).mp (by rw[uZ nd (b x a)];exact a);rwa[uZ nd (b x a)]at this;have:=(h (gt cs x)).mpr (by rw[uZ nd (c x a)];exact a);rwa[uZ nd (c x a)]at this
def same{A B:Tb}(a:A.cs=B.cs)(h:∀ f,A.sm f↔B.sm f):A=B:=by
 cases A;cases B;cases a;have:=ext (by assumption) (by assumption) (by assumption) (by assumption) (by assumption) h;cases this;rfl
noncomputable def J(A B:Tb):Tb where
 cs:=A.cs++mor A.cs B.cs
 ks:=srt (jn A.cs B.cs A.ks B.ks)
 nd:=List.nodup_append.mpr ⟨A.nd,B.nd.sublist List.filter_sublist,λx b y a e=>by
  have:=(List.mem_filter.mp a).2;simp at this;exact this (e ▸ b)⟩
 tx:=λz h=>(a3c.mp h).elim (A.tx z) λh=>B.tx z (cA3 z h)
 ln:=λy a=>by rw[cG7 A.ln y ((eK _ y).mp a),a9a]
 ri:=iM _
def dR3{A B:Tb}{z:Str}:z∈(J A B).cs↔z∈A.cs\/z∈B.cs:=by
 show z∈A.cs++mor A.cs B.cs↔_;unfold mor;rw[a3c,List.mem_filter];by_cases h:z∈A.cs<;>simp[h]
def dX8{A B:Tb}{f:Str->Int}:(J A B).sm f↔A.sm f/\B.sm f:=by
 show(A.cs++mor A.cs B.cs).map f∈srt (jn A.cs B.cs A.ks B.ks)↔_;rw[eK,a4d];unfold jn fT;rw[List.mem_flatMap];constructor
 ·rintro⟨row,b,c⟩;obtain⟨g,j,k⟩:=a2e.mp c;obtain⟨h,d⟩:=List.mem_filter.mp j;have d:=of_decide_eq_true d;have l:row.length=(A.cs.map f).length:=by rw[A.ln row b,a2a]
  obtain⟨i,m⟩:=List.append_inj k l;refine⟨show A.cs.map f∈A.ks from i ▸ b,?_⟩;have n:=uZ B.nd (B.ln g h);show B.cs.map f∈B.ks;rw[show B.cs.map f=B.cs.map (gt B.cs g)from mJ λz a=>?_,n];exact h;by_cases e:z∈A.cs;have o:z∈cmn A.cs B.cs:=List.mem_filter.mpr ⟨e,by simpa using a⟩;have:=vP d z o;rw[i]at this;exact(this.trans (aM7 e)).symm;have hm:z∈mor A.cs B.cs:=List.mem_filter.mpr ⟨a,by simpa using e⟩;exact(vP m z hm).symm
 ·rintro⟨b,c⟩;refine⟨A.cs.map f,b,a2e.mpr ⟨B.cs.map f,List.mem_filter.mpr ⟨c,a3A ?_⟩,?_⟩⟩
  ·rw[bE3,bE3];exact mJ λz a=>by rw[aM7 (cS6 z a),aM7 (cA2 z a)]
  ·rw[bE3];congr 1;exact mJ λz a=>aM7 (cA3 z a)
noncomputable def C(A:Tb)(so:List Str)(nd:so.Nodup)(hs:∀ z∈so,z∈A.cs):Tb where
 cs:=so
 ks:=srt (A.ks.map (pk A.cs so))
 nd:=nd
 tx:=λz h=>A.tx z (hs z h)
 ln:=λy a=>by
  obtain⟨x,_,rfl⟩:=a2e.mp ((eK _ y).mp a);exact a2a ..
 ri:=iM _
def C_sm{A:Tb}{so:List Str}{nd:so.Nodup}{hs:∀ z∈so,z∈A.cs}{f:Str->Int}:(C A so nd hs).sm f↔∃ g,A.sm g/\∀ z∈so,g z=f z:=by
 show so.map f∈srt (A.ks.map (pk A.cs so))↔_;rw[eK,a2e];constructor;rintro⟨x,a,b⟩;refine⟨gt A.cs x,?_,vP b⟩;show A.cs.map _∈A.ks;rw[uZ A.nd (A.ln x a)];exact a;rintro⟨g,a,b⟩;refine⟨A.cs.map g,a,?_⟩;rw[bE3];exact mJ λz c=>(aM7 (hs z c)).trans (b z c)
noncomputable def U(b:Bool):Tb where
 cs:=[]
 ks:=if b=true then[[]]else[]
 nd:=.nil
 tx:=λ_ h=>nomatch h
 ln:=λy a=>by
  cases b;cases a;rw[a1b.mp a];rfl
 ri:=by cases b<;>simp[bE8]
def dX9{b:Bool}{f:Str->Int}:(U b).sm f↔b=true:=by
 show[]∈(if b=true then[[]]else([]:List (List Int)))↔_;cases b<;>simp
def cT0{A B:Tb}(hm:∀ z,z∈A.cs↔z∈B.cs)(hs:∀ f,A.sm f↔B.sm f):C A B.cs B.nd (λz h=>(hm z).mpr h)=B:=same rfl λf=>by
 rw[C_sm,← hs f];exact⟨λ⟨g,a,b⟩=>(sm_same λz c=>b z ((hm z).mp c)).mp a,λh=>⟨f,h,λ_ _=>rfl⟩⟩
def dJ4{A:Tb}:J (U true) A=A:=same (by show[]++mor [] A.cs=_;simp[mor]) λf=>by
 rw[dX8,dX9];simp
def dY0{A B:Tb}(h:A.ks.length*B.ks.length<=3600):(J A B).ks.length<=A.ks.length*B.ks.length:=a3b (mY _) (cG6 h)
def self(A:Tb):A.C A.cs A.nd (λ_ h=>h)=A:=cT0 (λ_=>Iff.rfl) λ_=>Iff.rfl
def Pc(A P:Tb):Prop:=∃ nd hs,P=A.C P.cs nd hs
theorem pcs{A:Tb}:∀ {ss:List (List Str)},(∀ s∈ss,s.Nodup/\∀ c∈s,c∈A.cs)->∃ ps:List Tb,ps.map Tb.cs=ss/\∀ P∈ps,Pc A P
 | [],_=>⟨[],rfl,λ_ h=>nomatch h⟩
 | s::ss,h=>by
   obtain⟨ps,e,q⟩:=pcs (ss:=ss) λs hs=>h s (a5a _ hs);obtain⟨b,d⟩:=h s a3a;refine⟨A.C s b d::ps,by rw[a6d,e];rfl,λP a=>?_⟩;rcases a1c.mp a with rfl | a;exact⟨b,d,rfl⟩;exact q P a
theorem Pc.d{A P:Tb}(h:Pc A P):P.d=tD P.cs (srt (A.ks.map (pk A.cs P.cs))):=by
 obtain⟨nd,hs,e⟩:=h;have:P.ks=srt (A.ks.map (pk A.cs P.cs)):=a3D Tb.ks e;unfold Tb.d;rw[this]
def Pc.le{A P:Tb}(h:Pc A P):P.ks.length<=A.ks.length:=by
 obtain⟨nd,hs,e⟩:=h;have:P.ks=srt (A.ks.map (pk A.cs P.cs)):=a3D Tb.ks e;have l:=mY (A.ks.map (pk A.cs P.cs));rw[a2a]at l;rw[this];exact l
def Pc.sub{A P:Tb}(h:Pc A P):∀ z∈P.cs,z∈A.cs:=h.2.1
noncomputable def prd(n:Nat)(ps:List Tb):Nat:=ps.foldl (λn P=>n*max 1 P.ks.length) n
theorem cG9:∀ (ps:List Tb) (n:Nat),n<=prd n ps
 | [],n=>a6a _
 | P::r,n=>a3b (Nat.le_mul_of_pos_right n (by lia)) (cG9 r (n*max 1 P.ks.length))
def bR5(n:Nat)(ps a:List Tb):prd n (ps++a)=prd (prd n ps) a:=List.foldl_append ..
def prd_take(n:Nat)(ps:List Tb)(i:Nat):prd n (ps.take i)<=prd n ps:=by
 have:=bR5 n (ps.take i) (ps.drop i);rw[List.take_append_drop]at this;rw[this];exact cG9 _ _
def prd_snoc{n:Nat}{ps:List Tb}{i:Nat}{P:Tb}(h:ps[i]? = some P):prd n (ps.take (i+1))=prd n (ps.take i)*max 1 P.ks.length:=by
 rw[a5e,h,bR5];rfl
noncomputable def W(ps:List Tb):Tb:=ps.foldl J (U true)
def W_snoc{ps:List Tb}{i:Nat}{P:Tb}(h:ps[i]? = some P):W (ps.take (i+1))=(W (ps.take i)).J P:=by
 unfold W;rw[a5e,h,List.foldl_append];rfl
def W_one(P:Tb):W [P]=P:=dJ4
theorem aZ8{z:Str}:∀ {ps:List Tb} {X:Tb},z∈(ps.foldl J X).cs↔z∈X.cs\/∃ P∈ps,z∈P.cs
 | [],X=>by simp
 | P::r,X=>by
   rw[List.foldl_cons,aZ8,dR3];simp[or_assoc]
def W_mem{z:Str}{ps:List Tb}:z∈(W ps).cs↔∃ P∈ps,z∈P.cs:=by
 unfold W;rw[aZ8];exact⟨λh=>h.elim (λh=>nomatch h) id,.inr⟩
def W_sub{A:Tb}{ps:List Tb}(h:∀ P∈ps,Pc A P):∀ z∈(W ps).cs,z∈A.cs:=λz a=>by
 obtain⟨P,b,a⟩:=W_mem.mp a;exact(h P b).sub z a
def W_len{A:Tb}{ps:List Tb}(h:∀ P∈ps,Pc A P)(a:A.cs.length<=6):(W ps).cs.length<=6:=a3b (zO (W ps).nd (W_sub h)) a
theorem W_ks{ps:List Tb}(h:prd 1 ps<=3000):∀ i,(W (ps.take i)).ks.length<=prd 1 (ps.take i)
 | 0=>a6a _
 | i+1=>by
   cases e:ps[i]? with
   | none=>
     have l:=a1d.mp e;have:=W_ks h i;rw[a2c l]at this;rw[a2c (by lia)];exact this
   | some P=>
     have a:=W_ks h i;have b:=prd_take 1 ps (i+1);rw[prd_snoc e]at b ⊢;rw[W_snoc e];have c:(W (ps.take i)).ks.length*P.ks.length<=prd 1 (ps.take i)*max 1 P.ks.length:=Nat.mul_le_mul a (by lia);exact a3b (dY0 (by lia)) c
def W_fit{ps:List Tb}{i:Nat}{P:Tb}(h:prd 1 ps<=3000)(e:ps[i]? = some P):(W (ps.take i)).ks.length*P.ks.length<=3600:=by
 have a:=prd_take 1 ps (i+1);rw[prd_snoc e]at a;have b:(W (ps.take i)).ks.length*P.ks.length<=prd 1 (ps.take i)*max 1 P.ks.length:=Nat.mul_le_mul (W_ks h i) (by lia);lia
def pk_inj{W:Tb}{so:List Str}(h:∀ z∈W.cs,z∈so):(W.ks.map (pk W.cs so)).Nodup:=by
 refine List.pairwise_map.mpr ((aK8 W.ri).imp_of_mem λ{a b} ha hb n e=>n ?_);rw[bE3,bE3]at e;have c:=vP e;rw[← uZ W.nd (W.ln a ha),← uZ W.nd (W.ln b hb)];exact mJ λz d=>c z (h z d)
def nd_two{ks:List (List Int)}{n:Nat}(nd:ks.Nodup)(h:∀ k∈ks,k.length=n)(c:2<=ks.length):∀ k∈ks,k≠[]:=by
 intro k d e;subst e;have h0:n=0:=(h [] d).symm
 match ks,nd,c with
 | a::b::r,nd,_=>
   have ha:a=[]:=List.length_eq_zero_iff.mp (by rw[h a (by simp),h0]);have hb:b=[]:=List.length_eq_zero_iff.mp (by rw[h b (by simp),h0]);rw[ha,hb]at nd;simp at nd
noncomputable def told(A G:Tb):D:=match G.ks.filter λr=>decide (r∉A.ks)with
 | []=>.tup [.str "same"]
 | r::_=>.tup [.str "more",tI r]
end Tb
def cA4{c k:Type}(f:c->k){ys zs:List k}(h:ys.Perm zs):∀ l:List c,zs=l.map f->∃ l':List c,ys=l'.map f/\l'.Perm l:=by
 induction h with
 | nil=>intro l e;exact⟨l,e,.refl _⟩
 | cons x _ m=>
   intro l e;cases l with
   | nil=>cases e
   | cons a r=>
     obtain⟨d,g⟩:=List.cons.inj e;obtain⟨l',i,j⟩:=m r g;exact⟨a::l',by rw[d,i];rfl,j.cons a⟩
 | swap x y _=>
   intro l e;cases l with
   | nil=>cases e
   | cons a r=>
     cases r with
     | nil=>cases e
     | cons b s=>
       obtain⟨d,g⟩:=List.cons.inj e;obtain⟨n,o⟩:=List.cons.inj g;exact⟨b::a::s,by rw[d,n,o];rfl,.swap a b s⟩
 | trans _ _ i1 i2=>
   intro l e;obtain⟨l1,i,j⟩:=i2 l e;obtain⟨p,q,t⟩:=i1 l1 i;exact⟨p,q,t.trans j⟩
def bR6{a:Type}(f:a->D)(l:List a)(lo hi:Option Int):∃ l':List a,Dv.bS0 (l.map f) lo hi=l'.map f/\l'.Sublist l:=
 ⟨(l.drop (HT.sIx (l.map f).length 0 lo)).take (HT.sIx (l.map f).length (l.map f).length hi-HT.sIx (l.map f).length 0 lo),by unfold Dv.bS0;rw[List.map_take,List.map_drop],(List.take_sublist _ _).trans (List.drop_sublist _ _)⟩
theorem dT3{d:D}{r:Sg}:lendO (some 0) (some ⟨.own,d⟩::r)=some ⟨.lent,d⟩::r:=rfl
theorem dT4{d:D}{r:Sg}:lendO (some 0) (some ⟨.par,d⟩::r)=some ⟨.lent,d⟩::r:=rfl
theorem dT5{d:D}{r:Sg}:lendO (some 0) (some ⟨.val,d⟩::r)=some ⟨.val,d⟩::r:=rfl
theorem dT6{d:D}{r:Sg}:lendO (some 0) (some ⟨.lent,d⟩::r)=some ⟨.lent,d⟩::r:=rfl
theorem dT7{i:Nat}{o:Option Sl}{r:Sg}:lendO (some (i+1)) (o::r)=o::lendO (some i) r:=by
 show lend (i+1) (o::r)=o::lend i r;unfold lend;rw[a9c];generalize r[i]? = x
 match x with
 | none=>rfl
 | some none=>rfl
 | some (some ⟨.own,_⟩)=>rfl
 | some (some ⟨.par,_⟩)=>rfl
 | some (some ⟨.val,_⟩)=>rfl
 | some (some ⟨.lent,_⟩)=>rfl
theorem dT8{d e:D}{m:Md}{a r:Sg}:yQ (some 0) (some ⟨.own,e⟩::a) (some ⟨m,d⟩::r)=some ⟨.own,d⟩::r:=rfl
theorem dT9{d e:D}{m:Md}{a r:Sg}:yQ (some 0) (some ⟨.par,e⟩::a) (some ⟨m,d⟩::r)=some ⟨.par,d⟩::r:=rfl
theorem dU0{d e:D}{m:Md}{a r:Sg}:yQ (some 0) (some ⟨.val,e⟩::a) (some ⟨m,d⟩::r)=some ⟨m,d⟩::r:=rfl
theorem dU1{d e:D}{m:Md}{a r:Sg}:yQ (some 0) (some ⟨.lent,e⟩::a) (some ⟨m,d⟩::r)=some ⟨m,d⟩::r:=rfl
theorem dU2{i:Nat}{o o':Option Sl}{a r:Sg}:yQ (some (i+1)) (o::a) (o'::r)=o'::yQ (some i) a r:=by
 show unl (i+1) (o::a) (o'::r)=o'::unl i a r;unfold unl;rw[a9c,a9c];generalize a[i]? = x;generalize r[i]? = y
 match x,y with
 | none,_=>rfl
 | some none,_=>rfl
 | some (some _),none=>rfl
 | some (some _),some none=>rfl
 | some (some ⟨.own,_⟩),some (some _)=>rfl
 | some (some ⟨.par,_⟩),some (some _)=>rfl
 | some (some ⟨.val,_⟩),some (some _)=>rfl
 | some (some ⟨.lent,_⟩),some (some _)=>rfl
theorem dU3{i:Nat}{σ a:Sg}:yS (some i) σ (.nx a)=.nx (yQ (some i) σ a):=rfl
theorem dU4{i:Nat}{σ a:Sg}{x:Res}:yS (some i) σ (.rt x a)=.rt x (yQ (some i) σ a):=rfl
theorem dJ5{A:Tb}{K:Res->Prop}:OK1 (ixD A.d (.int 0)) K=K (.val (.tup (A.cs.map D.str))):=rfl
theorem dJ6{A:Tb}{K:Res->Prop}:OK1 (ixD A.d (.int 1)) K=K (.val (.tup (A.ks.map tI))):=rfl
theorem bR7{x:Res}{m:List D}{K:Res×List D->Prop}:OK1 (dL9 [x,.val (.lst m)]) K=K (x,m):=rfl
theorem dJ7{l:List D}{K:List D->Prop}:OK1 (lD (.lst l)) K=K l:=rfl
theorem cH0{l:List D}{K:D×D->Prop}:OK1 (dD9 (.lst l) []) K=K (.lst [],.non):=rfl
local macro_rules | `(tactic| walk_at "dx")=>do
 let l:=("dJ5 dJ6 bP0 bR7 dJ7 cH0 aS9 bR2 aZ1 aZ2 aZ3 aZ0 xH cD9 pN pO pQ pR pS pT pU pV pW pX pY pZ qA qB qC qD aH5 qE jX jY jZ qF qG kA kB kD qH qI aH6 qJ qK aH7 qL qM qN qO qP qQ kH kI qR qS qT qU qV kJ qW kK qX qY qZ rA rB rC rD rE kL kM kO rF rG rH rJ rK rL rM rN rO rP aH8 kP iA kQ rQ kR sF sG sH sI sJ sK sM sN sO lS aH9 sP lC iE fJ uW jC aL3 uY iF uF uG uH uI uJ uK uL uM sQ lE lF lG sR sS sV sW sZ aI0 aI1 aI2 aI3 tE tG tH lH lI tJ lJ tK tL lK iB tM lL aI4 tF tN tO tP tQ aI5 tS cE1 tT xM mZ xL xQ zQ zR zS tU tR bI tV tW tX tY rR rS rT rU rV rW rX rY rZ kS kU kW kX sA sC sE reduceIte".splitOn " ").toArray.map fun s=>Lean.mkIdent s.toName
 let m:=("aS4 List.getElem?_cons_succ List.getElem?_cons_zero Option.getD_some tZ uA uB aB6 aI6 Int.reducePow Int.reduceNeg Int.reduceLT Int.reduceLE Nat.reducePow Nat.reduceLT Int.reduceToNat Nat.reduceLeDiff uE dT3 dT4 dT5 dT6 dT7 dT8 dT9 dU0 dU1 dU2 dU3 dU4 uC aI7 uD kY kZ lA lB List.set_cons_zero List.set_cons_succ cW aP5 List.length_cons List.length_nil Nat.reduceAdd Nat.zero_add true_and and_true and_self Bool.not_false Bool.not_true Bool.false_eq_true Bool.true_and Bool.and_true Bool.or_false decide_eq_true_eq".splitOn " ").toArray.map fun s=>Lean.mkIdent s.toName
 `(tactic| simp only[$[↓$l:ident],*,$[$m:ident],*])
def cA5{a b:Int}{zs:List Str}(hz:zs.length<=6)(e:zs.Nodup)(f:∀ z∈zs,Tx z){K:Res->List Sl->Prop}(k:∀ (A:Tb) g i,A.cs.length<=6->A.ks.length<=60->K (.val A.d) [⟨.par,.lst [.int g,.int i]⟩,⟨.par,.lst (zs.map D.str)⟩,⟨.val,.int 60⟩]) :
  CK dE [⟨.par,.lst [.int a,.int b]⟩,⟨.par,.lst (zs.map D.str)⟩,⟨.val,.int 60⟩] K:=by
 unfold dE;rw[cQ];show RS fO [_,_,_,none] _;unfold fO;walk_at "dx";refine⟨rfl,bZ6 (xs:=zs.map D.str) (.inl ⟨rfl,rfl⟩) (by rw[a2a];lia) λys r s j=>?_⟩;obtain⟨l,rfl,pl⟩:=cA4 D.str j zs rfl;have t:=pl.length_eq;walk_at "dx";refine dZ (by rw[a2a];lia) (by rw[a2a];lia) λn u v w n1=>?_;obtain⟨cs,c,sc⟩:=bR6 D.str l none (some n);have m:=sc.length_le;walk_at "dx";rw[c];refine cS3 (by lia) λks x y o p q=>?_;walk_at "dx";exact⟨sl2,k ⟨cs,ks,(pl.nodup_iff.mpr e).sublist sc,λz h=>f z (pl.mem_iff.mp (sc.subset h)),p,q⟩ _ _ (by show cs.length<=6;lia) o⟩
noncomputable abbrev sD(ps:List Tb):D:=.tup (ps.map λP=>cD P.cs)
def oK{A:Tb}{ps:List Tb}(g:∀ P∈ps,A.Pc P)(l:ps.length<=3)(h:A.cs.length<=6)(j:A.ks.length<=60){K:Res->List Sl->Prop}(k:K (.own (.lst (ps.map Tb.d))) [⟨.val,A.d⟩,⟨.val,sD ps⟩]) :
  CK bF [⟨.val,A.d⟩,⟨.val,sD ps⟩] K:=by
 unfold bF;rw[cQ];show RS eO [_,_,none,none,none] _;unfold eO;walk_at "dx";refine⟨a2d _,jD (λi e=>∃ b d,e=[some ⟨.val,A.d⟩,some ⟨.val,sD ps⟩,some ⟨.own,.lst ((ps.take i).map Tb.d)⟩,ov b d,none]) ⟨false,.non,rfl⟩ ?_ ?_⟩;rintro i d e hd ⟨b,d',rfl⟩;rw[a0b]at hd;obtain⟨P,f,rfl⟩:=a7b.mp hd;have a:=g P (a2b f);have pl:=a3b (zO P.nd a.sub) h;walk_at "dx";refine⟨aD7 (by rw[a2a];lia),cR (λy=>tI (pk A.cs P.cs y)) tI A.ks [_,_,_,_,none] rfl (λy c=>?_) ?_⟩;walk_at "dx";refine dI7 (A.ln y c) a.sub (by lia) ?_;walk_at "dx";exact rfl;rw[show(A.ks.map λy=>tI (pk A.cs P.cs y))=(A.ks.map (pk A.cs P.cs)).map tI by rw[List.map_map];rfl];walk_at "dx";refine cU7 ⟨by rw[a2a];lia,xP (n:=P.cs.length) λy c=>?_⟩ ?_;obtain⟨x,_,rfl⟩:=a2e.mp c;exact a2a ..;walk_at "dx";refine⟨sl2,by rw[a2a,a2g];exact a1j (by lia:_<=3) (by decide),_,.inl rfl,true,cD P.cs,?_⟩;rw[a5e,f,a4d];rw[show List.map Tb.d (some P).toList=[P.d]from rfl,a.d];rfl;rintro σ' ⟨b,d,rfl⟩;walk_at "dx";rw[a2a,List.take_length];exact k
def aT0{ps:List Tb}(l:ps.length<=3)(a:∀ P∈ps,P.ks.length<=60){K:Res->List Sl->Prop}(k:K (.val (.bl (decide (Tb.prd 1 ps<=3000)))) [⟨.par,.lst (ps.map Tb.d)⟩]) :
  CK cH [⟨.par,.lst (ps.map Tb.d)⟩] K:=by
 unfold cH;rw[cQ];show RS gN [_,none,none,none] _;unfold gN;walk_at "dx";refine jD (λi f=>∃ b d c d',f=[some ⟨.lent,.lst (ps.map Tb.d)⟩,some ⟨.val,.int (Tb.prd 1 (ps.take i):Nat)⟩,ov b d,ov c d']) ⟨false,.non,false,.non,rfl⟩ ?_ ?_
 ·rintro i d f hd ⟨b,d',c,h,rfl⟩;rw[a0b]at hd;obtain⟨P,g,rfl⟩:=a7b.mp hd;have j:=a P (a2b g);have e:((Tb.prd 1 (ps.take (i+1)):Nat):Int)=(Tb.prd 1 (ps.take i):Nat)*(if((P.ks.map tI).length:Int) > 1 then((P.ks.map tI).length:Int)else 1):=by
   rw[Tb.prd_snoc g,a2a,Int.natCast_mul];congr 1;split<;>lia
  unfold Tb.d;walk_at "dx";refine⟨.inl (.inr ?_),_,.inl rfl,true,_,true,_,by rw[e];rfl⟩;rw[a2a];split<;>constructor<;>lia
 ·rintro σ' ⟨b,d,c,d',rfl⟩;walk_at "dx";rw[a2a,List.take_length,show decide (((Tb.prd 1 ps:Nat):Int)<=3000)=decide (Tb.prd 1 ps<=3000)from decide_eq_decide.mpr (by lia)];exact k
def dU5{A:Tb}{so:List Str}(nd:so.Nodup)(hs:∀ z∈so,z∈A.cs)(a:so.length<=100)(b:A.ks.length<=3600){K:Res->List Sl->Prop}(k:K (.val (A.C so nd hs).d) [⟨.val,A.d⟩,⟨.val,.tup (so.map D.str)⟩]):CK lV [⟨.val,A.d⟩,⟨.val,.tup (so.map D.str)⟩] K:=
 dJ3 A.ln hs a b k
def vQ{A:Tb}{ps:List Tb}(a:∀ P∈ps,A.Pc P)(g:ps.length<=3)(c:A.cs.length<=6)(f:A.ks.length<=60){K:Res->List Sl->Prop}(k:K (.own (.lst (ps.map Tb.d))) [⟨.val,A.d⟩,⟨.val,sD ps⟩]) :
  CK dS [⟨.val,A.d⟩,⟨.val,sD ps⟩] K:=by
 unfold dS;rw[cQ];show RS oF [_,_,none] _;unfold oF;walk_at "dx";refine⟨jI (by rw[a2a];lia),cR Tb.d (λP=>cD P.cs) ps [_,_,none] rfl (λP b=>?_) ?_⟩;obtain⟨nd,hs,e⟩:=a P b;walk_at "dx";refine dU5 nd hs (a3b (a3b (zO P.nd (a P b).sub) c) (by decide)) (by lia) ?_;rw[← e];walk_at "dx";exact rfl;walk_at "dx";exact k
def dR4{A B:Tb}(a:A.cs.length<=6)(b:B.cs.length<=6)(c:A.ks.length<=3000)(e:B.ks.length<=60)(h:A.ks.length*B.ks.length<=3600){K:Res->List Sl->Prop}(k:K (.val (A.J B).d) [⟨.val,A.d⟩,⟨.val,B.d⟩]):CK gC [⟨.val,A.d⟩,⟨.val,B.d⟩] K:=
 bR3 (by lia) (by lia) A.tx B.tx (by lia) (by lia) h A.ln B.ln k
def dJ8{A B:Tb}(a:A.cs.length<=6)(b:B.cs.length<=6)(c:A.ks.length<=3000)(e:B.ks.length<=60)(h:A.ks.length*B.ks.length<=3600){K:Res->List Sl->Prop}(k:K (.val (A.J B).d) [⟨.val,A.d⟩,⟨.val,B.d⟩]):CK cU [⟨.val,A.d⟩,⟨.val,B.d⟩] K:=
 aD8 (by lia) (by lia) A.tx B.tx (by lia) (by lia) h A.ln B.ln k
structure Fit(A:Tb)(ps:List Tb):Prop where
 p:∀ P∈ps,A.Pc P
 l1:1<=ps.length
 l3:ps.length<=3
 c6:A.cs.length<=6
 k60:A.ks.length<=60
 f:Tb.prd 1 ps<=3000
 cv:∀ z∈A.cs,∃ P∈ps,z∈P.cs
theorem Fit.pk{A:Tb}{ps:List Tb}(h:Fit A ps){P:Tb}(a:P∈ps):P.ks.length<=60/\P.cs.length<=6:=⟨a3b (h.p P a).le h.k60,a3b (zO P.nd (h.p P a).sub) h.c6⟩
def Fit.wk{A:Tb}{ps:List Tb}(h:Fit A ps)(i:Nat):(Tb.W (ps.take i)).ks.length<=3000/\(Tb.W (ps.take i)).cs.length<=6:=⟨a3b (Tb.W_ks h.f i) (a3b (Tb.prd_take 1 ps i) h.f),Tb.W_len (λP a=>h.p P (a7f a)) h.c6⟩
def aD9{A:Tb}{ps:List Tb}(h:Fit A ps){K:Res->List Sl->Prop}(k:K (.val (Tb.W ps).d) [⟨.par,.lst (ps.map Tb.d)⟩]):CK dU [⟨.par,.lst (ps.map Tb.d)⟩] K:=by
 unfold dU;rw[cQ];show RS eR [_,none,none] _;unfold eR;walk_at "dx";refine⟨by decide,by decide,by decide,by decide,?_⟩;refine jD (λi c=>∃ b d,c=[some ⟨.lent,.lst (ps.map Tb.d)⟩,some ⟨.val,(Tb.W (ps.take i)).d⟩,ov b d]) ⟨false,.non,rfl⟩ ?_ ?_;rintro i d c hd ⟨b,d',rfl⟩;rw[a0b]at hd;obtain⟨P,a,rfl⟩:=a7b.mp hd;have e:=h.pk (a2b a);have g:=h.wk i;walk_at "dx";refine dR4 g.2 e.2 g.1 e.1 (Tb.W_fit h.f a) ?_;walk_at "dx";exact⟨_,.inl rfl,true,_,by rw[Tb.W_snoc a];rfl⟩;rintro σ' ⟨b,d,rfl⟩;walk_at "dx";rw[a2a,List.take_length];exact k
def aZ9{a:List Int}{ls:List (List Int)}{K:Res->Prop}(k:K (.val (.bl (decide (a∉ls))))):OK1 (inD true (tI a) (.tup (ls.map tI))) K:=cS8 (okI a) (λx h=>by obtain⟨y,_,rfl⟩:=a2e.mp h;exact okI y) (by decide) (by decide) (by
 have:decide (tI a∈ls.map tI)=decide (a∈ls):=by
  rw[a3g,a3w,a3w,a2e];exact⟨λ⟨y,h,e⟩=>cG5.mp e ▸ h,λh=>⟨a,h,rfl⟩⟩
 rw[decide_not]at k;rw[this];exact k)
def xR{A G:Tb}(h:G.ks.filter (λr=>decide (r∉A.ks))=[]):Tb.told A G=.tup [.str "same"]:=by unfold Tb.told;rw[h]
def aM8{A G:Tb}{r:List Int}{l:List (List Int)}(h:G.ks.filter (λr=>decide (r∉A.ks))=r::l):Tb.told A G=.tup [.str "more",tI r]:=by unfold Tb.told;rw[h]
def dJ9{p:List Int->Bool}{l:List (List Int)}{i:Nat}{r:List Int}(b:(l.take i).filter p=[])(a:l[i]? = some r)(c:p r=true):l.filter p=r::(l.drop (i+1)).filter p:=by
 have hi:=(a1a.mp a).1;have e:l=l.take i++r::l.drop (i+1):=by
  have:=List.take_append_drop i l;rw[List.drop_eq_getElem_cons hi,(a1a.mp a).2]at this;exact this.symm
 conv=>lhs;rw[e]
 rw[List.filter_append,b,List.filter_cons_of_pos c];rfl
def dY1(x:D)(l:List D):bS0 (x::l) (some 1) none=l:=by
 have e:HT.sIx (x::l).length 0 (some 1)=1:=by
  refine(HT.sIx_nat _ 0 1).trans ?_;rw[a5f];lia
 unfold bS0;rw[e];show(l.take _)=l;exact a2c (by show l.length<=(x::l).length-1;simp)
def Fit.cut{A:Tb}{ps:List Tb}(h:Fit A ps):∀ z∈A.cs,z∈(Tb.W ps).cs:=λz a=>Tb.W_mem.mpr (h.cv z a)
noncomputable def Fit.G{A:Tb}{ps:List Tb}(h:Fit A ps):Tb:=(Tb.W ps).C A.cs A.nd h.cut
def Fit.all{A:Tb}{ps:List Tb}(h:Fit A ps):(Tb.W ps).ks.length<=3000/\(Tb.W ps).cs.length<=6:=by
 have:=h.wk ps.length;rwa[List.take_length]at this
def nB{A:Tb}{ps:List Tb}(h:Fit A ps){K:Res->List Sl->Prop}(k:K (.val (Tb.told A h.G)) [⟨.val,A.d⟩,⟨.val,sD ps⟩]):CK cI [⟨.val,A.d⟩,⟨.val,sD ps⟩] K:=by
 unfold cI;rw[cQ];show RS gU [_,_,none,none] _;unfold gU;walk_at "dx";refine vQ h.p h.l3 h.c6 h.k60 ?_;walk_at "dx";refine aD9 h ?_;walk_at "dx";refine dU5 A.nd h.cut (a3b h.c6 (by decide)) (a3b h.all.1 (by decide)) ?_;walk_at "dx";show OK1 (cP8 _ _ (h.G.ks.map tI) _) _;refine cP9 (λi c=>(h.G.ks.take i).filter (λr=>decide (r∉A.ks))=[]/\∃ b d,c=[some ⟨.val,A.d⟩,some ⟨.val,sD ps⟩,some ⟨.val,h.G.d⟩,ov b d]) ⟨rfl,false,.non,rfl⟩ ?_ ?_;rintro i d c hd ⟨a,b,d',rfl⟩;rw[a0b]at hd;obtain⟨r,e,rfl⟩:=a7b.mp hd;walk_at "dx";refine aZ9 ?_;walk_at "dx";refine dK8 (λhn=>?_) (λhn=>?_);refine⟨sl2,.inr (.inl ⟨_,_,rfl,?_⟩)⟩;walk_at "dx";rw[aM8 (dJ9 a e (a3A hn))]at k;exact k;refine .inl ⟨_,.inl rfl,?_,true,_,rfl⟩;rw[a5e,e,List.filter_append,a];show[]++[r].filter _=[];exact List.filter_eq_nil_iff.mpr λz f q=>hn (by rw[← a1b.mp f];exact of_decide_eq_true q);rintro σ' ⟨a,b,d,rfl⟩;rw[a2a,List.take_length]at a;walk_at "dx";rw[xR a]at k;exact⟨by decide,k⟩
def dK0{A:Tb}{ps:List Tb}(h:Fit A ps){K:Res->List Sl->Prop}(k:K (.val (Tb.told A h.G)) [⟨.val,A.d⟩,⟨.val,.lst (ps.map Tb.d)⟩]):CK eY [⟨.val,A.d⟩,⟨.val,.lst (ps.map Tb.d)⟩] K:=by
 obtain⟨a,r,rfl⟩:∃ a r,ps=a::r:=by
  match ps,h.l1 with
  | a::r,_=>exact⟨a,r,rfl⟩
 unfold eY;rw[cQ];show RS iS [_,_,none,none,none,none,none] _;unfold iS;rw[show(a::r).map Tb.d=a.d::r.map Tb.d from rfl];walk_at "dx";rw[dY1];refine jD (λi j=>∃ b d,j=[some ⟨.val,A.d⟩,some ⟨.val,.lst (a.d::r.map Tb.d)⟩,some ⟨.val,(Tb.W ((a::r).take (i+1))).d⟩,ov b d,none,none,none]) ⟨false,.non,by rw[show(a::r).take (0+1)=[a]from rfl,Tb.W_one];rfl⟩ ?_ ?_
 ·rintro i d j hd ⟨b,d',rfl⟩;rw[a0b]at hd;obtain⟨P,t,rfl⟩:=a7b.mp hd;have c:(a::r)[i+1]? = some P:=by simpa using t
  have m:=h.pk (a2b c);have o:=h.wk (i+1);walk_at "dx";refine dJ8 o.2 m.2 o.1 m.1 (Tb.W_fit h.f c) ?_;walk_at "dx";exact⟨_,.inl rfl,true,_,by rw[Tb.W_snoc c];rfl⟩
 ·rintro σ' ⟨b,d,rfl⟩;have u:(a::r).take ((r.map Tb.d).length+1)=a::r:=by rw[a2a];exact a2c (by simp)
  rw[u];have ha:=h.all;have ws:=Tb.W_sub h.p;generalize q:Tb.W (a::r)=W at ha ws;have s:h.G.ks=srt (W.ks.map (pk W.cs A.cs)):=by subst q;rfl
  have g:∀ z∈A.cs,z∈W.cs:=by subst q;exact h.cut
  have nd:=Tb.pk_inj (W:=W) (so:=A.cs) ws;walk_at "dx";refine⟨aD7 (by rw[a2a];lia),cR (λy=>tI (pk W.cs A.cs y)) tI W.ks [_,_,_,_,none,none,none] rfl (λy e=>?_) ?_⟩;walk_at "dx";refine dI7 (W.ln y e) g (a3b h.c6 (by decide)) ?_;walk_at "dx";exact rfl;rw[show(W.ks.map λy=>tI (pk W.cs A.cs y))=(W.ks.map (pk W.cs A.cs)).map tI by rw[List.map_map];rfl];walk_at "dx";rw[dG0];refine⟨⟨by rw[a2a];lia,nd,Tb.nd_two (n:=A.cs.length) nd λy e=>?_⟩,?_⟩;obtain⟨x,_,rfl⟩:=a2e.mp e;exact a2a ..;rw[← s];have v:h.G.ks.length<=3600:=by
   rw[s];have:=mY (W.ks.map (pk W.cs A.cs));rw[a2a]at this;lia
  walk_at "dx";refine⟨aD7 (by rw[a2a];exact v),fR (λr=>decide (r∉A.ks)) tI tI h.G.ks [_,_,_,_,_,none,none] rfl (λy e=>?_) ?_⟩;walk_at "dx";refine aZ9 ?_;walk_at "dx";exact rfl;walk_at "dx";cases hf:h.G.ks.filter (λr=>decide (r∉A.ks))with
  | nil=>
    rw[xR hf]at k;refine⟨a2d _,nA (bQ6 []).2 ?_⟩;walk_at "dx";exact⟨by decide,k⟩
  | cons y l=>
    rw[aM8 hf]at k;refine⟨a2d _,cG3 (Ok.lst (n:=1) λd hd=>by obtain⟨y,_,rfl⟩:=a2e.mp hd;exact okI y) (Ok.lst (n:=1) λd hd=>absurd hd (by simp)) (by decide) (by decide) ?_⟩;rw[show decide (D.lst ((y::l).map tI)=D.lst [])=false from a3y (λz=>by injection z with z;cases z)];walk_at "dx";refine bQ7 (x:=tI y) (by rw[a6d];exact dW7) ⟨sl2,k⟩
theorem dK1{q:MS}{σ:Sg}{Q:Out->Prop}:sqM q Q (.nx σ)=q σ Q:=rfl
theorem dR5{i j:Nat}{σ a:Sg}:mV [i,j] σ a=(a.set i (σ[i]?.getD none)).set j (σ[j]?.getD none):=rfl
def cA6(ps:List Tb):bS1 (ps.map Tb.d) (ps.map Tb.d)=ps.map λP=>.tup [P.d,P.d]:=by
 unfold bS1
 induction ps with
 | nil=>rfl
 | cons P r a=>rw[a6d,List.zip_cons_cons,a6d,a];rfl
theorem dK2{σ:Sg}{i j:Nat}:bS [i,j] σ=(σ.set i none).set j none:=rfl
local macro_rules | `(tactic| walk_at "dx")=>do
 let l:=("dK1 dJ5 dJ6 bP0 bR7 dJ7 cH0 aS9 bR2 aZ1 aZ2 aZ3 aZ0 xH cD9 pN pO pQ pR pS pT pU pV pW pX pY pZ qA qB qC qD aH5 qE jX jY jZ qF qG kA kB kD qH qI aH6 qJ qK aH7 qL qM qN qO qP qQ kH kI qR qS qT qU qV kJ qW kK qX qY qZ rA rB rC rD rE kL kM kO rF rG rH rJ rK rL rM rN rO rP aH8 kP iA kQ rQ kR sF sG sH sI sJ sK sM sN sO lS aH9 sP lC iE fJ uW jC aL3 uY iF uF uG uH uI uJ uK uL uM sQ lE lF lG sR sS sV sW sZ aI0 aI1 aI2 aI3 tE tG tH lH lI tJ lJ tK tL lK iB tM lL aI4 tF tN tO tP tQ aI5 tS cE1 tT xM mZ xL xQ zQ zR zS tU tR bI tV tW tX tY rR rS rT rU rV rW rX rY rZ kS kU kW kX sA sC sE reduceIte".splitOn " ").toArray.map fun s=>Lean.mkIdent s.toName
 let m:=("dK2 dR5 aS4 List.getElem?_cons_succ List.getElem?_cons_zero Option.getD_some tZ uA uB aB6 aI6 Int.reducePow Int.reduceNeg Int.reduceLT Int.reduceLE Nat.reducePow Nat.reduceLT Int.reduceToNat Nat.reduceLeDiff uE dT3 dT4 dT5 dT6 dT7 dT8 dT9 dU0 dU1 dU2 dU3 dU4 uC aI7 uD kY kZ lA lB List.set_cons_zero List.set_cons_succ cW aP5 List.length_cons List.length_nil Nat.reduceAdd Nat.zero_add true_and and_true and_self Bool.not_false Bool.not_true Bool.false_eq_true Bool.true_and Bool.and_true Bool.or_false decide_eq_true_eq".splitOn " ").toArray.map fun s=>Lean.mkIdent s.toName
 `(tactic| simp only[$[↓$l:ident],*,$[$m:ident],*])
def cT1{as:List Sl}{K:Res->List Sl->Prop}{o:Out}(h:cO3 as K o):dS4 as K o:=by
 cases o with
 | nx σ=>exact h
 | rt r σ=>exact dH.mp h
 | bk σ=>exact h
 | ct σ=>exact h
 | ex c f σ=>exact h
noncomputable def aT1:DS:=(cF (dQ 4 (aX 2 bF (aD (aH 2) (aD (aH 3) aR))))
 (cF (dQ 5 (aX 2 dS (aD (aH 2) (aD (aH 3) aR))))
 (cF (wE (dOr (aA8 (fX (aG2 (aH1 "list") (aH 5)))) (fX (aT (eqD true) (dCB vJ (aD (aH 5) aR)) (dCB vJ (aD (aH 4) aR))))) (iW (dC (.bl false))) iK)
 (cF (wE (aA8 (fX (dCB cU3 (aD (fS [8,9] (dH4 (aD (aH 5) (aD (dFz (aH 4)) aR))) (aO8 2 (jP (dgN 8) (jP (dgN 9) aO7))) mL (dFz (aX 3 bX (aD (aH 8) (aD (aT ixD (aH 9) (dC (.int 0))) (aD (aT ixD (aH 9) (dC (.int 1))) aR)))))) aR)))) (iW (dC (.bl false))) iK)
 (cF (xW (bB8 "list" 5 dD9))
 (cF (dQ 6 (aX 2 eY (aD (aH 2) (aD (aH 4) aR))))
 (cF (dQ 7 (aX 2 cI (aD (aH 2) (aD (aH 3) aR))))
 (cF (wE (dOr (aA8 (fX (aG2 (aH1 "tuple") (aH 7)))) (dOr (fX (aT (eqD true) (aH 7) (aH 6))) (cT8 (fX (aT (eqD false) (dCB vJ (aD (aH 7) aR)) (dC (.int 2)))) (aA8 (fX (aG2 (aH1 "tuple") (aT ixD (aH 7) (dC (.int 1))))))))) (iW (dC (.bl false))) iK)
 (iW (aG3 (aT (eqD false) (aX 2 cI (aD (aH 2) (aD (wC (aD (aT ixD (aH 2) (dC (.int 0))) aR)) aR))) (wC (aD (dC (.str "same")) aR))) (aT (eqD false) (dCB vJ (aD (aX 2 dS (aD (aH 2) (aD (aH 3) aR))) aR)) (dCB vJ (aD (aH 4) aR)))))))))))))
def cA7{l:List (List Int)}(h:bE8 l):srt l=l:=aK9 (iM l) h (eK l)
def aT2{A:Tb}(b:A.cs.length<=6)(a:A.ks.length<=60):Fit A [A] where
 p:=λP c=>by rw[a1b.mp c];exact⟨A.nd,λ_ h=>h,(Tb.self A).symm⟩
 l1:=a6a _
 l3:=by show 1<=3;decide
 c6:=b
 k60:=a
 f:=by show 1*max 1 A.ks.length<=3000;lia
 cv:=λz d=>⟨A,by simp,d⟩
def bA0{A:Tb}(h:Fit A [A]):Tb.told A h.G=.tup [.str "same"]:=by
 have e:h.G=A:=by
  have:Tb.W [A]=A:=Tb.W_one A;unfold Fit.G;refine Tb.same rfl λf=>?_;rw[Tb.C_sm,this];exact⟨λ⟨g,a,b⟩=>(Tb.sm_same b).mp a,λq=>⟨f,q,λ_ _=>rfl⟩⟩
 refine xR ?_;rw[e];exact List.filter_eq_nil_iff.mpr λz c q=>of_decide_eq_true q c
def aE0:cV (.tup [.str "same"])=true:=(Ok.tup (n:=1) λd hd=>by rw[a1b.mp hd];exact Ok.str (by decide)).cmp (by decide)
def cA8(r:List Int):cV (.tup [.str "more",tI r])=true:=(Ok.tup (n:=1) λd hd=>by
 rcases a1c.mp hd with rfl | hd;exact Ok.str (by decide);rw[a1b.mp hd];exact okI r).cmp (by decide)
def wF{A:Tb}{ps:List Tb}(h:Fit A ps){ns:List Int}{a b:Int}:RS aT1 [some ⟨.val,.lst (ns.map D.int)⟩,some ⟨.own,.lst [.int a,.int b]⟩,some ⟨.val,A.d⟩,some ⟨.val,sD ps⟩,none,none,none,none,none,none] (cO3 [⟨.val,.lst (ns.map D.int)⟩] λy _=>y=.val (.bl true)):=by
 unfold aT1;walk_at "dx";refine oK h.p h.l3 h.c6 h.k60 ?_;walk_at "dx";refine vQ h.p h.l3 h.c6 h.k60 ?_;walk_at "dx";rw[a3u (by decide),cA6];refine⟨jI (by rw[a2a];have:=h.l3;lia),cR (λ_=>.bl true) (λP=>.tup [P.d,P.d]) ps [_,_,_,_,_,_,none,none,none,none] rfl (λP f=>?_) ?_⟩
 ·have j:=h.pk f;walk_at "dx";have e:P.d=.tup [.tup (P.cs.map D.str),.tup ((srt P.ks).map tI)]:=by rw[cA7 P.ri];rfl
  conv=>lhs;rw[e]
  refine aS6 (.inr ⟨rfl,rfl⟩) P.tx ⟨by lia,xP (n:=P.cs.length) P.ln⟩ (λk g=>by rw[P.ln k g];lia) ?_;walk_at "dx"
 ·rw[dI9 ps];walk_at "dx";rw[aZ4,a3u (by decide)];refine dK0 h ?_;walk_at "dx";refine nB h ?_;obtain⟨t,c⟩:∃ t,t=Tb.told A h.G:=⟨_,rfl⟩;rw[← c];have i:t=.tup [.str "same"]\/∃ r,t=.tup [.str "more",tI r]:=by
   rw[c];unfold Tb.told;split;exact .inl rfl;exact .inr ⟨_,rfl⟩
  clear c;rcases i with rfl | ⟨r,rfl⟩;walk_at "dx";refine nA aE0 ?_;walk_at "dx";rw[a3u (by decide)];refine⟨by decide,nB (ps:=[A]) (aT2 h.c6 h.k60) ?_⟩;rw[bA0];walk_at "dx";refine⟨by decide,nA aE0 ?_⟩;walk_at "dx";refine vQ h.p h.l3 h.c6 h.k60 ?_;walk_at "dx";exact a3D (λb=>Res.val (D.bl b)) (a3A trivial);walk_at "dx";refine nA (cA8 r) ?_;walk_at "dx";rw[a3s (by decide)];refine⟨by decide,nB (ps:=[A]) (aT2 h.c6 h.k60) ?_⟩;rw[bA0];walk_at "dx";refine⟨by decide,nA aE0 ?_⟩;walk_at "dx";refine vQ h.p h.l3 h.c6 h.k60 ?_;walk_at "dx";exact a3D (λb=>Res.val (D.bl b)) (a3A trivial)
def cA9(ns:List Int)(hn:ns.length<=63):xJ [⟨.val,.lst (ns.map D.int)⟩] λy _=>y=.val (.bl true):=by
 unfold xJ dL4;refine aR8 _ _ _ (λo h=>cT1 h) ?_;show zP [_,none,none,none,none,none,none,none,none,none] _;rw[show zP=(cF3 (RS (dQ 1 (aX 2 cX (aD (aH 0) (aD (dC (.int 0)) aR)))))
 (cF3 (RS (dQ 2 (aX 3 dE (aD (aX 2 cX (aD (aH 0) (aD (dC (.int 1)) aR))) (aD (aX 2 dF (aD (aH 1) (aD (dC (.int 6)) aR))) (aD (dC (.int 60)) aR))))))
 (cF3 (bY8 3 2 cS (aD (aH 1) (aD (aT ixD (aH 2) (dC (.int 0))) aR)))
 (RS (cF (wE (aA8 (fX (aX 1 cH (aD (aX 2 bF (aD (aH 2) (aD (aH 3) aR))) aR)))) (dQ 3 (wC (aD (aT ixD (aH 2) (dC (.int 0))) (aD (dFz (dSl (aT ixD (aH 2) (dC (.int 0))) bK7 (dP (dC (.int 1))))) aR)))) iK)
 (cF (wE (aA8 (fX (aX 1 cH (aD (aX 2 bF (aD (aH 2) (aD (aH 3) aR))) aR)))) (dQ 3 (wC (aD (aT ixD (aH 2) (dC (.int 0))) aR))) iK)
 aT1))))))from rfl]
 show RS _ _ (sqM _ _);walk_at "dx";refine cF9 (by decide) (by decide) λa b=>?_;walk_at "dx";show RS _ _ (sqM _ _);walk_at "dx";refine cF9 (by decide) (by decide) λx B=>?_;walk_at "dx";refine bZ9 λE p q F r t=>?_;walk_at "dx";refine cA5 (by lia) r t λA G H i c=>?_;walk_at "dx";show(_/\_)/\cS _ _;refine⟨⟨rfl,rfl⟩,p,q,A.cs,rfl,i,A.nd,λss u v hs=>?_⟩;show RS _ [some ⟨.val,.lst (ns.map D.int)⟩,some ⟨.own,.lst [.int u,.int v]⟩,some ⟨.val,A.d⟩,some ⟨.val,.tup (ss.map cD)⟩,none,none,none,none,none,none] _;obtain⟨l1,l3,s1,s2⟩:=hs;obtain⟨ps,rfl,l⟩:=Tb.pcs s1;rw[a2a]at l1 l3;have cv:∀ z∈A.cs,∃ P∈ps,z∈P.cs:=λz m=>by
  obtain⟨s,hs,m⟩:=s2 z m;obtain⟨P,g,rfl⟩:=a2e.mp hs;exact⟨P,g,m⟩
 rw[show(ps.map Tb.cs).map cD=ps.map λP=>cD P.cs from List.map_map ..];walk_at "dx";refine oK l l3 i c ?_;walk_at "dx";refine aT0 l3 (λP g=>a3b (l P g).le c) ?_;walk_at "dx";by_cases n:Tb.prd 1 ps<=3000;rw[a3A n,a3u (by decide)];refine oK l l3 i c ?_;walk_at "dx";refine aT0 l3 (λP g=>a3b (l P g).le c) ?_;walk_at "dx";rw[a3A n,a3u (by decide)];exact wF ⟨l,l1,l3,i,c,n,cv⟩;rw[a3y n,a3s (by decide)];obtain⟨so,w,sc⟩:=bR6 D.str A.cs none (some 1);rw[w];have f:=A.nd.sublist sc;have j:∀ P∈[A,A.C so f (λz h=>sc.subset h)],A.Pc P:=λP g=>by
  rcases a1c.mp g with e | g;rw[e];exact⟨A.nd,λ_ h=>h,(Tb.self A).symm⟩;rw[a1b.mp g];exact⟨f,λz h=>sc.subset h,rfl⟩
 refine⟨sl2,oK (ps:=[A,A.C so f (λz h=>sc.subset h)]) j (by show 2<=3;decide) i c ?_⟩;walk_at "dx";refine aT0 (ps:=[A,A.C so f (λz h=>sc.subset h)]) (by show 2<=3;decide) (λP g=>a3b (j P g).le c) ?_;walk_at "dx";by_cases k:Tb.prd 1 [A,A.C so f (λz h=>sc.subset h)]<=3000;rw[a3A k,a3u (by decide)];exact wF (ps:=[A,A.C so f (λz h=>sc.subset h)]) ⟨j,by show 1<=2;decide,by show 2<=3;decide,i,c,k,λz m=>⟨A,by simp,m⟩⟩;rw[a3y k,a3s (by decide)];exact⟨by decide,wF (ps:=[A]) (aT2 i c)⟩
end Mr
namespace Mr
open PySem L2
local macro_rules | `(tactic| walk_at "sx")=>do
 let l:=("dA8 cJ3 dA9 cJ5 dB0 dB1 cJ4 bT8 cJ6 cI7 cI8 dW5 dN4 dN5 dA3 cI9 dN6 cJ0 dN7 dA4 dN8 dA5 cJ1 dA6 cJ2 bT7 dA7 dB2 cJ7 cJ8 dN9 dO0 bH5 cJ9 bH6 cK0 bV3 bU9 dB8 dB9 dC5 dO6 dC4 cK4 dC0 cK5 bU4 cK6 cK7 reduceIte bI1 bI2 cL5 bV4 cL6 bV5".splitOn " ").toArray.map fun s=>Lean.mkIdent s.toName
 let m:=("List.set_cons_zero List.set_cons_succ dB6 dO5 Int.reducePow Int.reduceNeg Int.reduceLT Int.reduceLE Int.reduceAdd".splitOn " ").toArray.map fun s=>Lean.mkIdent s.toName
 `(tactic| simp only[$[↓$l:ident],*,$[$m:ident],*])
section
variable{P:Program}{w:World}{K:W.Frag}{mg:Str->Option Value}{base:Heap}{a:Adr}
def aM9(T:Txt K mg a):FnOk P w K mg base CX0 1 a.a0C a.a0q ["_law_box_here","_law_many"] (mT K):=by
 refine T.a0l.ok iZ (λvs H Q E h=>?_) (λcdv A outer s H vs Q E r h=>?_);obtain⟨p,m,rfl,_⟩:=h;rfl;obtain⟨p,m,rfl,⟨i,j,d⟩,c,g,k⟩:=h;have nd:=iZ.nd;refine⟨_,(cK (cH5 (zT bF8 (aN9 cK1 (pv 0) dN (λ_ _=>rfl)) dN (dG _)) (cK (pC (i:=2) nd rfl (Or.inl rfl) (mS gW (aN9 cK1 (pv 0) dN (λ_ _=>rfl)) (pv 1)))
  (cK (yG (mS bF7 (aN9 cK1 (pv 0) dN (λ_ _=>rfl)) (pv 1)) (aE5 (pv 0) dN nF))
  (gD (yF (pv 2))))) aN7)
  (cK (pC (i:=3) nd rfl (Or.inl rfl) (mS gW (mS aU8 (aN9 cK1 (pv 0) dN (λ_ _=>rfl)) dN) dN))
  (cK (yG (mS yN (mS gW (mS yN (mS aU8 (pv 3) dN) dN) dN) dN) (aE5 (pv 0) dN nF))
  (gD (yF (mS gW (mS bF7 (mS yN (mS aU8 (pv 3) dN) (aN9 cK1 (pv 0) dN (λ_ _=>rfl))) dN) (pv 1))))))),?_⟩
 rw[show iH ["_law_box_here","_law_many","_law_digit","_law_one"] [.ref p,.int m]=([some (.ref p),some (.int m),none,none]:St)from rfl];have f:ixF H (.ref p) (.int 0)=some (.int i):=oP (cL d) rfl;have l:ixF H (.ref p) (.int 1)=some (.int j):=oP (cL d) rfl;have t:∀ x,bS6 x 69623:=λx=>dO4 (by decide) (by decide);have n:∀ x,cX9 x m:=λx=>⟨c,g⟩
 try walk_at "sx"
 rw[bB4 f]
 try walk_at "sx"
 refine dK8 (λq=>?_) (λq=>?_)
 ·rw[bB4 f,cD4 c]
  try walk_at "sx"
  rw[bB4 f,cK3 (n _)]
  try walk_at "sx"
  rw[bH8 (k:=0) (j:=0) d rfl];exact k _ _ (a6i _ (by lia)) (a4g _ c) ⟨_,_,aJ⟩ λb o hb e=>by rw[aG hb];exact e
 ·rw[bB4 l]
  try walk_at "sx"
  rw[bH8 (k:=1) (j:=1) d rfl]
  try walk_at "sx"
  rw[bB4 (oP (cL aJ) rfl)]
  try walk_at "sx"
  rw[cD4 c];exact k _ _ (a6i _ (by lia)) (a4g _ c) ⟨_,_,aJ⟩ λb o hb e=>by rw[aG hb];exact e
def aE1(T:Txt K mg a)(I:FnOk P w K mg base CX0 1 a.a0C a.a0q ["_law_box_here","_law_many"] (mT K)):FnOk P w K mg base CX0 2 a.a0U a.a0x ["_law_box_here","_law_things"] (pG K):=by
 refine T.a0M.ok iC (λvs H Q E h=>?_) (λcdv A outer s H vs Q E W h=>?_);obtain⟨p,q,b,xs,rfl,_⟩:=h;rfl;obtain⟨p,q,b,xs,rfl,hb,X,hx,k⟩:=h;have nd:=iC.nd;refine⟨_,(cK (pC (i:=2) nd rfl (Or.inl rfl) (bG yL (by rfl) T.a2U (wQ) (aS (pv 1) bY)))
  (cK (pC (i:=3) nd rfl (Or.inl rfl) (aT9 bY))
  (cK (aT8 a7e (zT bF8 (aV bK (by rfl) T.a1n (bW) (aS (pv 2) bY)) dN (dG _)) (gD (vS (jG K rfl a9d a0f a1f fB (pv 3) (aS (jG K rfl a9d F.slot_list_pop F.type_list_pop aU3 (pv 2) (aS (aI I (W.mono (by decide)) rfl T.a0n T.a0l.kp (aZ T) .nil bE (aS (pv 0) (aS (aV bK (by rfl) T.a1n (bW) (aS (pv 2) bY)) bY))) bY)) bY)))))
  (gD (yF (pv 3)))))),?_⟩
 rw[show iH ["_law_box_here","_law_things","_law_left","_law_found"] [.ref p,.ref q]=([some (.ref p),some (.ref q),none,none]:St)from rfl]
 try walk_at "sx"
 refine up (bV0 X) ?_;intro l u;have x:l≠p:=by obtain⟨i,j,e⟩:=hb;exact(aL e u).symm
 refine⟨a2d _,λf v=>?_⟩;have g:l≠f:=aL aJ v;have y:f≠p:=by obtain⟨i,j,e⟩:=hb.upd (o:=.lst xs) u;exact(aL e v).symm
 have z:H f=none:=by rw[aG g.symm]at v;exact v
 refine cL2 (λm σ H2=>∃ zs fs,m=zs.length/\σ=[some (.ref p),some (.ref q),some (.ref l),some (.ref f)]/\H2 l=some (.lst zs)/\H2 f=some (.lst fs)/\(fs++zs).Perm xs/\iI H2 p/\SameBut p H H2) xs.length
  ⟨xs,[],rfl,rfl,by rw[aG g];exact aJ,aJ,by simpa using List.Perm.refl xs,(hb.upd u).upd v,λb o _ e=>by
   rw[aG (aL (H:=upd H l (.lst xs)) (by rw[aG (aL e u)];exact e) v),aG (aL e u)];exact e⟩ ?_
 rintro m σ H2 N ⟨zs,fs,rfl,rfl,G,n,c,B,C⟩ Y;have U:fs.length+zs.length=xs.length:=by rw[← c.length_eq,a9a]
 try walk_at "sx"
 rw[lZ (cL G)]
 try walk_at "sx"
 refine dK8 (λJ=>?_) (λJ=>?_)
 ·have L:0 < (zs.length:Int):=by simpa using J
  refine⟨N,λ_ _ h=>h,?_⟩;refine⟨tyL n,tyL G,?_⟩;rw[lZ (cL G)];refine dB7 ⟨p,_,rfl,B,L,by lia,λd H3 Z d1 M r=>?_⟩;have O:=r l _ x G;have R:=r f _ y n;have V:=zW (dC1 Z d1);have t:d.toNat < zs.length:=V.2.1;have n63:=vU;refine⟨l,zs,d,d.toNat,zs[d.toNat],rfl,rfl,O,by lia,by have:zs.length<=1000:=by lia
                                                                                                                                                                                                                                                                                lia,V.1,a0a t,?_⟩
  refine⟨f,fs,_,rfl,rfl,by rw[aG g.symm];exact R,a1j (by lia:fs.length<=1000) (by decide),?_⟩;refine Y _ _ (zs.eraseIdx d.toNat).length (by rw[List.length_eraseIdx_of_lt t];lia) ⟨_,_,rfl,rfl,by rw[aG g,aJ],aJ,?_,?_,?_⟩;refine List.Perm.trans ?_ c;rw[List.append_assoc];exact List.Perm.append_left fs (yM zs _ t);obtain⟨i,j,e⟩:=M;exact⟨i,j,by rw[aG y.symm,aG x.symm];exact e⟩;intro b o D e;have e2:=r b o D (C b o D e);rw[aG (aL e z),aG (aL e u)];exact e2
 ·have S:zs=[]:=by
   have:¬ (0 < (zs.length:Int)):=by simpa using J
   exact a0d (by lia)
  subst S;exact k f fs H2 z n (by simpa using c) B C
def aN0(T:Txt K mg a)(a0k:FnOk P w K mg base CX0 1 a.a0C a.a0q ["_law_box_here","_law_many"] (mT K))(a0N:FnOk P w K mg base CX0 2 a.a0U a.a0x ["_law_box_here","_law_things"] (pG K)):FnOk P w K mg base CX0 3 a.a1Z a.a0X ["_law_box_here","_law_columns"] (xI K):=by
 refine T.a1X.ok wS (λvs H Q E h=>?_) (λcdv A outer s H vs Q E hr h=>?_);obtain⟨p,q,cs,rfl,_⟩:=h;rfl;obtain⟨p,q,cs,rfl,hb,hq,hl6,hnd,k⟩:=h;have nd:=wS.nd;refine⟨_,(cK (pC (i:=2) nd rfl (Or.inl rfl) (aT9 bY))
  (cK (iN a7e rfl (nE rfl T.a2D (aS (mS yN dN (aI a0k (hr.mono (by decide)) rfl T.a0n T.a0l.kp (aZ T) .nil bE (aS (pv 0) (aS dN bY)))) bY)) (aU (i:=3) nd rfl (Or.inl rfl))
  (gD (vS (jG K rfl a9d a0f a1f fB (pv 2) (aS (aU1 dK9 (aI a0N (hr.mono (by decide)) rfl T.a2o T.a0M.kp (wW T) .nil bE (aS (pv 0) (aS (pv 1) bY))) bG7 (bG8 (aI a0k (hr.mono (by decide)) rfl T.a0n T.a0l.kp (aZ T) .nil bE (aS (pv 0) (aS (mS yN (aV bK (by rfl) T.a1n (bW) (aS (pv 1) bY)) dN) bY))))) bY)))))
  (cK (iN a7e rfl (aA5 K rfl (pv 1)) (aU (i:=4) nd rfl (Or.inr rfl))
  (gD (cH5 (zT bU8 cW7 (dL (csc [5] (by kernel_rfl)) (aA5 K rfl (pv 2)) (λ_ _ _ _=>(aU (i:=5) nd rfl (Or.inl rfl) (.inr rfl))) (bB (by decide)) (λ_ _ _ _=>aA1) (λ_ _ _ _=>(bF9 dO8 (pv 4) (pv 5) (by with_unfolding_all rfl)))) (by with_unfolding_all rfl)) (gD (vS (jG K rfl a9d a0f a1f fB (aN9 cK1 (pv 2) (aI a0k (hr.mono (by decide)) rfl T.a0n T.a0l.kp (aZ T) .nil bE (aS (pv 0) (aS (aV bK (by rfl) T.a1n (bW) (aS (pv 2) bY)) bY))) (λ_ _=>rfl)) (aS (pv 4) bY)))) aN7)))
  (gD (yF (bG bR (by rfl) T.a0s (aY) (aS (dL (csc [5] (by kernel_rfl)) (aA5 K rfl (pv 2)) (λ_ _ _ _=>(aU (i:=5) nd rfl (Or.inl rfl) (.inr rfl))) (bB (by decide)) (λ_ _ _ _=>aA1) (λ_ _ _ _=>(bG bR (by rfl) T.a0s (aY) (aS (pv 5) bY)))) bY))))))),?_⟩
 rw[show iH ["_law_box_here","_law_columns","_law_some_here","_law_k","_law_column","_law_one"] [.ref p,.ref q]=([some (.ref p),some (.ref q),none,none,none,none]:St)from rfl];have hqp:q≠p:=cR8 hb hq;have I:∀ {w:Addr},H w=none->w≠p:=λhw z=>by subst z;obtain⟨i',j',e'⟩:=hb;rw[hw]at e';cases e'
 try walk_at "sx"
 refine⟨a2d _,λs hs=>?_⟩;have hsp:s≠p:=I hs;have hb1:iI (upd H s (.lst [])) p:=hb.upd hs;have hs1:SameBut p H (upd H s (.lst [])):=SameBut.refl.upd hs;have hss:(upd H s (.lst [])) s=some (.lst []):=aJ;generalize upd H s (.lst [])=H1 at hb1 hs1 hss ⊢;refine dB7 ⟨p,3,rfl,hb1,by decide,by decide,λd1 H2 d10 d11 hb2 R=>?_⟩
 try walk_at "sx"
 refine⟨_,rfl,by lia,by lia,?_⟩;refine cD3 (P:=λ_=>True) aU6 (λi σ H'=>∃ (es:List V) (o3:Option V),σ=[some (V.ref p),some (V.ref q),some (V.ref s),o3,none,none]/\H' s=some (.lst es)/\es.length=i/\cF8 H H' cs es/\iI H' p/\SameBut p H H')
  ⟨[],none,rfl,R s _ hsp hss,rfl,(λe he=>nomatch he),hb2,hs1.trans R⟩ (λ_ _ _ _=>trivial) ?_ ?_
 ·rintro i x σ H3 hx ⟨es,o3,rfl,S,L,hsm,hb3,U⟩;obtain⟨hi,rfl⟩:=aA2 hx
  try walk_at "sx"
  have hq3:=U q _ hqp hq;refine⟨tyL S,dB7 ⟨p,q,false,cs.map V.str,rfl,hb3,cB hq3,by rw[a2a];lia,λr ys H4 hr e4 hpm M G=>?_⟩⟩;have hq4:=G q _ hqp hq3
  try walk_at "sx"
  rw[lZ (cB hq4)]
  try walk_at "sx"
  refine dB7 ⟨p,_,rfl,M,by lia,by rw[a2a];lia,λd2 H5 d20 d21 W X=>?_⟩
  try walk_at "sx"
  have hrp:r≠p:=hb3.ne hr;refine dC3 (cL (X r _ hrp e4)) λg hg=>?_;obtain⟨zs,rfl,hzn,hzc⟩:=cR6 hnd hpm;rw[cL3 d20,← List.map_take];have Y:SameBut p H3 H5:=G.trans X;have n:=Y s _ hsp S;have hs05:SameBut p H H5:=U.trans Y;have hgn:H g=none:=hs05.none W hg;have hgs:s≠g:=aL n hg;refine⟨s,_,_,rfl,rfl,by rw[aG hgs];exact n,by rw[L,a3G];lia,?_⟩;refine⟨_,_,rfl,aJ,by simp[L],?_,(W.upd hg).put hsp,(hs05.upd hg).put hs⟩;intro e he;rcases a3c.mp he with he | he;obtain⟨w,ws,B,v,e3,e4,e5⟩:=hsm e he;have hws:w≠s:=bI8 v S (by rw[← B];exact he);have Z:=Y w _ (I e5) v;exact⟨w,ws,B,by rw[aG hws,aG (aL Z hg)];exact Z,e3,e4,e5⟩;rw[a1b.mp he];exact⟨g,zs.take d2.toNat,rfl,by rw[aG (a5d hgs)];exact aJ,List.Pairwise.sublist (List.take_sublist _ _) hzn,λc hc=>hzc c (a7f hc),hgn⟩
 ·rintro σ H3 ⟨es,o3,rfl,S,L,hsm,hb3,U⟩;have hel1:1<=es.length/\es.length<=3:=by
   unfold cD2 at L;rw[a2a,List.length_range]at L;lia
  clear L
  try walk_at "sx"
  refine up (bU5 (cB (U q _ hqp hq))) ?_;refine cD3 (aU5 (xs:=cs.map V.str)) (λi σ H'=>∃ (o4:Option V),σ=[some (V.ref p),some (V.ref q),some (V.ref s),o3,o4,none]/\H' s=some (.lst es)/\cF8 H H' cs es/\(∀ c∈cs.take i,aY4 H' c es)/\iI H' p/\SameBut p H H')
   ⟨none,rfl,S,hsm,(λc hc=>by simp at hc),hb3,U⟩ ?_ ?_ ?_
  ·rintro i σ H' ⟨o4,_,_,_,_,_,h6⟩;exact eE (cB (h6 q _ hqp hq))
  ·rintro i x σ H4 hx ⟨o4,rfl,m,f,C,M,G⟩;rw[a0b]at hx;obtain⟨c,hc,rfl⟩:=a7b.mp hx
   try walk_at "sx"
   refine up (aU7 (cL m)) ?_;refine bH7 (vZ (xs:=es)) (λj zs H'=>H'=H4/\∃ bs:List Bool,zs=bs.map V.bl/\bs.length=j/\(bs.any id=true↔aY4 H4 c (es.take j))) ⟨rfl,[],rfl,rfl,⟨λe=>absurd e (by decide),λZ1=>by obtain⟨e,he,_⟩:=Z1;simp at he⟩⟩ ?_ (by rw[sizeLine_eq];lia) ?_ ?_;rintro j zs H' ⟨rfl,bs,rfl,h1,_⟩;exact⟨SqL.of m,by rw[a2a,h1];exact a6a _⟩
   ·rintro j x zs H' N hx' ⟨rfl,bs,rfl,h1,h2⟩ hN;obtain⟨w,ws,rfl,ww,_⟩:=f x (a2b hx')
    try walk_at "sx"
    refine⟨true,_,cL ww,rfl,bP2 ws,?_⟩;refine hN _ _ ⟨rfl,bs++[decide (c∈ws)],?_,by simp[h1],?_⟩;rw[a4d,← aM0];rfl;rw[a5e,hx'];show _↔aY4 H' c (es.take j++[.ref w]);rw[cR7 ww,List.any_append,Bool.or_eq_true,h2];simp
   ·rintro zs H' ⟨rfl,bs,rfl,h1,h2⟩ l hl;rw[List.take_length]at h2;have hsl:s≠l:=aL m hl;have n:(upd H' l (.lst (bs.map V.bl))) s=some (.lst es):=by rw[aG hsl];exact m
    have kp:∀ w,H w=none->∀ o,H' w=some o->(upd H' l (.lst (bs.map V.bl))) w=some o:=λw _ o e=>by rw[aG (aL e hl)];exact e
    have D:=f.mono kp;have hcv5:∀ c∈cs.take i,aY4 (upd H' l (.lst (bs.map V.bl))) c es:=λc hc=>(C c hc).mono f kp;have tk:∀ {P:Str->Prop},(∀ c∈cs.take i,P c)->P c->∀ c∈cs.take (i+1),P c:=λ{P} h h' y J=>by
     rw[a5e,hc]at J;rcases a3c.mp J with J | J;exact h y J;rw[a1b.mp J];exact h'
    refine⟨true,_,cL aJ,rfl,bZ4 bs,_,rfl,?_⟩;rw[bP1];refine dK8 (λhm=>?_) (λhm=>?_)
    ·have hno:¬ aY4 H' c es:=λz=>by
      rw[h2.mpr z]at hm;exact absurd hm (by decide)
     have hn5:¬ aY4 (upd H' l (.lst (bs.map V.bl))) c es:=λ⟨e,he,w,ws,B,v,e3⟩=>by
      obtain⟨w',O,e1',Z,_⟩:=f e he;rw[B]at e1';cases e1';have:=kp w (by obtain⟨_,_,f1,_,_,_,f5⟩:=f e he;rw[B]at f1;cases f1;exact f5) _ Z;rw[v]at this;injection this with this
      exact hno ⟨e,he,w,ws,B,by rw[Z,← this],e3⟩
     have W:=M.upd (o:=.lst (bs.map V.bl)) hl;have X:=G.upd (o:=.lst (bs.map V.bl)) hl;clear kp C f m;generalize upd H' l (.lst (bs.map V.bl))=H5 at n D hcv5 W X hn5 ⊢;rw[lZ (cL n)];refine dB7 ⟨p,_,rfl,W,by lia,by lia,λd H6 d0 d1 hb6 hs6=>?_⟩;have k6:∀ w,H w=none->∀ o,H5 w=some o->H6 w=some o:=λw hw o e=>hs6 w o (I hw) e;have hse6:=hs6 s _ hsp n;have hsm6:=D.mono k6;obtain⟨e,he⟩:=bH9 (ys:=es) (i:=d) d0 d1;have hem:=aO4 he;obtain⟨w,ws,rfl,ww,wn,wc,w0⟩:=hsm6 e hem;refine up (bB4 (oP (cL hse6) he)) ?_;have hcw:c∉ws:=λz=>hn5 (by
      obtain⟨w',O,B,v,_⟩:=D _ hem;cases B;have:=k6 w w0 _ v;rw[ww]at this;injection this with this
      exact⟨.ref w,hem,w,ws,rfl,by rw[v,← this],z⟩)
     have hwl:ws.length<=6:=a3b (zO wn wc) hl6;have hws:s≠w:=a5d (bI8 ww hse6 hem);have hcm:c∈cs:=a2b hc;refine⟨tyL ww,?_⟩
     try walk_at "sx"
     refine⟨w,_,_,rfl,rfl,ww,by rw[a2a,a3G];lia,?_⟩;have eW:(upd H6 w (.lst (ws.map V.str++[V.str c]))) w=some (.lst ((ws++[c]).map V.str)):=by rw[aJ,a4d];rfl
     refine⟨_,rfl,by rw[aG hws];exact hse6,?_,tk ?_ ⟨.ref w,hem,w,ws++[c],rfl,eW,by simp⟩,hb6.put (I w0),(X.trans hs6).put w0⟩
     ·intro e he';obtain⟨w',O,B,v,e3,e4,e5⟩:=hsm6 e he';by_cases hw:w'=w;subst hw;refine⟨w',ws++[c],B,eW,?_,λy J=>?_,e5⟩;refine List.nodup_append.mpr ⟨wn,by simp,λa ha b hb z=>?_⟩;rw[a1b.mp hb]at z;exact hcw (z ▸ ha);rcases a3c.mp J with J | J;exact wc y J;rw[a1b.mp J];exact hcm;exact⟨w',O,B,by rw[aG hw];exact v,e3,e4,e5⟩
     ·intro y J;obtain⟨e,he',w',O,B,v,e3⟩:=(hcv5 y J).mono D k6;by_cases hw:w'=w
      ·subst hw;rw[ww]at v;injection v with v;injection v with v
       have:V.str y∈O.map V.str:=List.mem_map_of_mem e3;rw[← v]at this;obtain⟨z,hz,ez⟩:=a2e.mp this;cases ez;exact⟨e,he',w',ws++[c],B,eW,a5g _ hz⟩
      ·exact⟨e,he',w',O,B,by rw[aG hw];exact v,e3⟩
    ·have:aY4 H' c es:=h2.mp (by
      cases hh:bs.any id with
      | true=>rfl
      | false=>rw[hh]at hm;exact absurd rfl hm)
     exact⟨_,rfl,n,D,tk hcv5 (this.mono f kp),M.upd hl,G.upd hl⟩
  ·rintro σ H4 ⟨o4,rfl,m,f,C,M,G⟩;rw[a2a,List.take_length]at C
   try walk_at "sx"
   refine up (aU7 (cL m)) ?_;refine bH7 (vZ (xs:=es)) (λj zs H'=>H' s=some (.lst es)/\cF8 H H' cs es/\(∀ c∈cs,aY4 H' c es)/\iI H' p/\SameBut p H H'/\zs.length=j/\∃ ss,TpsAt H' ss zs/\∀ (j:Nat) t,ss[j]? = some t->∃ w,es[j]? = some (V.ref w)/\H' w=some (.lst (t.map V.str)))
    ⟨m,f,C,M,G,rfl,[],.nil,λj t e=>by simp at e⟩ ?_ (by rw[sizeLine_eq];lia) ?_ ?_
   ·rintro j zs H' ⟨h0,_,_,_,_,h1,_⟩;exact⟨SqL.of h0,by lia⟩
   ·rintro j x zs H' N hx ⟨h0,F,hcv',hb',hs',h1,ss,ht,hj⟩ hN;obtain⟨w,ws,rfl,ww,_,_,w0⟩:=F x (a2b hx)
    try walk_at "sx"
    refine up (bI6 (cL ww)) ?_;intro t hT;have kp:∀ w o,H' w=some o->(upd H' t (.tup (ws.map V.str))) w=some o:=λw o e=>by rw[aG (aL e hT)];exact e
    refine hN _ _ ⟨kp _ _ h0,F.mono λw _ o e=>kp w o e,λc hc=>(hcv' c hc).mono F λw _ o e=>kp w o e,hb'.upd hT,hs'.upd hT,by simp[h1],ss++[ws],(ht.mono λb xs e=>kp b _ e).snoc aJ,λi u e=>?_⟩;have hsl:=ht.length;rcases Nat.lt_or_ge i ss.length with hi | hi;rw[a7c hi]at e;obtain⟨w',B,v⟩:=hj i u e;exact⟨w',B,kp _ _ v⟩;rw[a5b hi]at e;have h0':i-ss.length=0:=by
     have:=(a1a.mp e).1;simp at this;lia
    rw[h0']at e;cases e;exact⟨w,by rw[show i=j by lia];exact hx,kp _ _ ww⟩
   ·rintro zs H' ⟨h0,F,hcv',hb',hs',h1,ss,ht,hj⟩ l hl;refine up (bI6 (cL aJ)) ?_;intro t hT;have hsl:=ht.length;obtain⟨m1,m2⟩:=dH8 (ss:=ss) (es:=es) (by lia) (λj u e hu he=>by
     obtain⟨w,B,v⟩:=hj j u hu;rw[he]at B;cases B;exact⟨w,rfl,v⟩) F hcv'
    have hb2:=hb'.upd (o:=.lst zs) hl;have R:=hs'.upd (o:=.lst zs) hl;have ht2:TpsAt (upd H' l (.lst zs)) ss zs:=ht.mono λb xs e=>by rw[aG (aL e hl)];exact e
    exact k t zs ss _ (R.none hb2 hT) aJ (ht2.mono λb xs e=>by rw[aG (aL e hT)];exact e) ⟨by lia,by lia,m1,m2⟩ (hb2.upd hT) (R.upd hT)
end
open Dv
noncomputable def adr:Adr:=⟨79,Hd.cV8,86,Hd.cV9,93,Hd.cW0,103,Hd.cB1,110,Hd.cB2,98,Hd.cW1,137,Hd.cB7,154,Hd.cC0,127,Hd.cB5,142,Hd.cB8,26,Hd.cU9,21,Hd.cU8,31,Hd.cV0,36,Hd.cV1,65,Hd.cV6,117,Hd.cB3,122,Hd.cB4,132,Hd.cB6,147,Hd.cB9,41,Hd.cV2,48,Hd.cV3,53,Hd.cV4,60,Hd.cV5,72,Hd.cV7,159,Hd.aT3⟩
def vC{K:W.Frag}{x q:Str}{s:Stmt}{f:Addr}{fd:FuncData}(m:Value)(c:Addr)(e:fd=W.fnOf x q (aO0 s) (oN s) (aQ s) .none .none .none m none (.ref c) .none)(l:K.lookup f=some ⟨.type "function",none,.func fd,#[]⟩)(d:W.codeIn K (.ref c) q=true)(k:W.keepIn K (.ref f)=true):Fun K x q s f fd:=⟨⟨_,_,_,_,_,_,_,_,_,e,l,d⟩,k⟩
def txt{P:Params}{h:Heap}{mg:Str->Option Value}(X:(Hd.KF P).In h)(G:h.Ns mainGlobals mg):Txt (Hd.KF P) mg adr:=⟨a7d X G (by kernel_rfl),
vC (.str "law_mostrows_k15_taken_apart_and_joined" 267) 78 (by kernel_rfl) (by kernel_rfl) (by kernel_rfl) (by kernel_rfl),
a7d X G (by kernel_rfl),
vC (.str "law_mostrows_k15_taken_apart_and_joined" 267) 85 (by kernel_rfl) (by kernel_rfl) (by kernel_rfl) (by kernel_rfl),
a7d X G (by kernel_rfl),
vC (.str "law_mostrows_k15_taken_apart_and_joined" 267) 92 (by kernel_rfl) (by kernel_rfl) (by kernel_rfl) (by kernel_rfl),
a7d X G (by kernel_rfl),
vC (.str "law_mostrows_k15_taken_apart_and_joined" 267) 102 (by kernel_rfl) (by kernel_rfl) (by kernel_rfl) (by kernel_rfl),
a7d X G (by kernel_rfl),
vC (.str "law_mostrows_k15_taken_apart_and_joined" 267) 109 (by kernel_rfl) (by kernel_rfl) (by kernel_rfl) (by kernel_rfl),
a7d X G (by kernel_rfl),
vC (.str "law_mostrows_k15_taken_apart_and_joined" 267) 97 (by kernel_rfl) (by kernel_rfl) (by kernel_rfl) (by kernel_rfl),
a7d X G (by kernel_rfl),
vC (.str "law_mostrows_k15_taken_apart_and_joined" 267) 136 (by kernel_rfl) (by kernel_rfl) (by kernel_rfl) (by kernel_rfl),
a7d X G (by kernel_rfl),
vC (.str "law_mostrows_k15_taken_apart_and_joined" 267) 153 (by kernel_rfl) (by kernel_rfl) (by kernel_rfl) (by kernel_rfl),
a7d X G (by kernel_rfl),
vC (.str "law_mostrows_k15_taken_apart_and_joined" 267) 126 (by kernel_rfl) (by kernel_rfl) (by kernel_rfl) (by kernel_rfl),
a7d X G (by kernel_rfl),
vC (.str "law_mostrows_k15_taken_apart_and_joined" 267) 141 (by kernel_rfl) (by kernel_rfl) (by kernel_rfl) (by kernel_rfl),
a7d X G (by kernel_rfl),
vC (.str "mostrows.tables" 187) 25 (by kernel_rfl) (by kernel_rfl) (by kernel_rfl) (by kernel_rfl),
a7d X G (by kernel_rfl),
vC (.str "mostrows.tables" 187) 20 (by kernel_rfl) (by kernel_rfl) (by kernel_rfl) (by kernel_rfl),
a7d X G (by kernel_rfl),
vC (.str "mostrows.tables" 187) 30 (by kernel_rfl) (by kernel_rfl) (by kernel_rfl) (by kernel_rfl),
a7d X G (by kernel_rfl),
vC (.str "mostrows.tables" 187) 35 (by kernel_rfl) (by kernel_rfl) (by kernel_rfl) (by kernel_rfl),
a7d X G (by kernel_rfl),
vC (.str "mostrows.apart" 249) 64 (by kernel_rfl) (by kernel_rfl) (by kernel_rfl) (by kernel_rfl),
a7d X G (by kernel_rfl),
vC (.str "law_mostrows_k15_taken_apart_and_joined" 267) 116 (by kernel_rfl) (by kernel_rfl) (by kernel_rfl) (by kernel_rfl),
a7d X G (by kernel_rfl),
vC (.str "law_mostrows_k15_taken_apart_and_joined" 267) 121 (by kernel_rfl) (by kernel_rfl) (by kernel_rfl) (by kernel_rfl),
a7d X G (by kernel_rfl),
vC (.str "law_mostrows_k15_taken_apart_and_joined" 267) 131 (by kernel_rfl) (by kernel_rfl) (by kernel_rfl) (by kernel_rfl),
a7d X G (by kernel_rfl),
vC (.str "law_mostrows_k15_taken_apart_and_joined" 267) 146 (by kernel_rfl) (by kernel_rfl) (by kernel_rfl) (by kernel_rfl),
a7d X G (by kernel_rfl),
vC (.str "mostrows.tables" 187) 40 (by kernel_rfl) (by kernel_rfl) (by kernel_rfl) (by kernel_rfl),
a7d X G (by kernel_rfl),
vC (.str "mostrows.tables" 187) 47 (by kernel_rfl) (by kernel_rfl) (by kernel_rfl) (by kernel_rfl),
a7d X G (by kernel_rfl),
vC (.str "mostrows.tables" 187) 52 (by kernel_rfl) (by kernel_rfl) (by kernel_rfl) (by kernel_rfl),
a7d X G (by kernel_rfl),
vC (.str "mostrows.tables" 187) 59 (by kernel_rfl) (by kernel_rfl) (by kernel_rfl) (by kernel_rfl),
a7d X G (by kernel_rfl),
vC (.str "mostrows.apart" 249) 71 (by kernel_rfl) (by kernel_rfl) (by kernel_rfl) (by kernel_rfl),
a7d X G (by kernel_rfl),
vC (.str "law_mostrows_k15_taken_apart_and_joined" 267) 158 (by kernel_rfl) (by kernel_rfl) (by kernel_rfl) (by kernel_rfl),
a8e X G (by kernel_rfl),
a8e X G (by kernel_rfl),
a8e X G (by kernel_rfl),
a8e X G (by kernel_rfl),
a8e X G (by kernel_rfl),
a8e X G (by kernel_rfl),
a8e X G (by kernel_rfl),
a8e X G (by kernel_rfl),
a8e X G (by kernel_rfl),
a8e X G (by kernel_rfl),
a8e X G (by kernel_rfl),
a8e X G (by kernel_rfl)⟩
def dK3{P:Program}{w:World}{mg:Str->Option Value}{base:Heap}(T:Txt (Hd.KF w.params) mg adr):FnOk P w (Hd.KF w.params) mg base CX0 6 159 Hd.aT3 ["_law_script"] (bW9 1 xJ):=by
 have i:=bD8 (P:=P) (w:=w) (base:=base) T;have a:=aR9 (P:=P) (w:=w) (base:=base) T;have j:=aM2 (P:=P) (w:=w) (base:=base) T a;have k:=aS0 (P:=P) (w:=w) (base:=base) T a;have l:=aM3 (P:=P) (w:=w) (base:=base) T j a k;have m:=aM4 (P:=P) (w:=w) (base:=base) T a;have e:=aM9 (P:=P) (w:=w) (base:=base) T;have n:=aE1 (P:=P) (w:=w) (base:=base) T e;have o:=aN0 (P:=P) (w:=w) (base:=base) T e n;have p:=o.imp (bP4 (K:=Hd.KF w.params));have q:=aS1 (P:=P) (w:=w) (base:=base) T;have b:=bP5 (P:=P) (w:=w) (base:=base) T;have r:=aD0 (P:=P) (w:=w) (base:=base) T b;have c:=aM5 (P:=P) (w:=w) (base:=base) T;have f:=aS2 (P:=P) (w:=w) (base:=base) T;have d:=bP6 (P:=P) (w:=w) (base:=base) T;have g:=dI0 (P:=P) (w:=w) (base:=base) T c f d;have h:=bZ5 (P:=P) (w:=w) (base:=base) T g;have s:=aM6 (P:=P) (w:=w) (base:=base) T;have t:=xK (P:=P) (w:=w) (base:=base) T s;have u:=aD1 (P:=P) (w:=w) (base:=base) T b;have v:=bD9 (P:=P) (w:=w) (base:=base) T u b;have x:=pA (P:=P) (w:=w) (base:=base) T;have y:=bE0 (P:=P) (w:=w) (base:=base) T d c;have z:=bP7 (P:=P) (w:=w) (base:=base) T x y c d f;have A:=aD2 (P:=P) (w:=w) (base:=base) T z;have B:=aS3 (P:=P) (w:=w) (base:=base) T g A h;have C:=dI1 (P:=P) (w:=w) (base:=base) T i l m p q r h t v B;exact C
def cB0:W.WalkO Hd.Vw [] (W.XL Hd.Vw []) (W.InK Hd.KF) PySem.Challenge.rw_mostrows_k15_taken_apart_and_joined.row.toRowW Hd.dM0 [] (λf vs=>PySem.call f vs):=by
 refine L2.cI3 (l:=PySem.Challenge.rw_mostrows_k15_taken_apart_and_joined) (K:=Hd.KF) (n:=63) (k:=6) (x:="_law_script") (CX:=λ_=>CX0) (sp:=λw=>bW9 1 xJ) rfl (by decide) (by kernel_rfl) ⟨rfl,by decide,by decide⟩ (λw h Y=>Y) (λw mg i h X G e=>?_) (λw _ a ns b c d=>bD7 (cQ7 aR8) (by kernel_rfl) c d (cA9 ns b)) λ_ _ _ _ _ z=>z;have T:=txt X G;have g:=T.a3n.symm.trans e;cases g;exact⟨Hd.aT3,λs v=>.of_eq (by kernel_rfl),λbase _ _=>dK3 T⟩
end Mr
open PySem PySem.W PyProof.Rows
theorem PySem.Challenge.cw_mostrows_k15_taken_apart_and_joined_holds : PySem.Challenge.rw_mostrows_k15_taken_apart_and_joined.Holds :=
 Hd.dU7 Mr.cB0
#print axioms PySem.Challenge.cw_mostrows_k15_taken_apart_and_joined_holds
