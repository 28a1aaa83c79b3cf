import PyProof.Rows.All
import Wide.All
import OpenK.AllK
import Wide.FinOn
import Lean
import PyProof.EqAt
import PyProof.EqKinds
import PyProof.TupleCall
import PyProof.StationsW
import PyProof.RulesAs
import PyProof.ExcClass2
import PyProof.Rows.Exc
import OpenK.KMake
import PyProof.InstStoreFacts
import OpenK.KCls
import PyProof.ExcArgsOwn
import PyProof.ExcAttrAll.ValueError
import PyProof.FitsInt
import PyProof.FString
import PyProof.FString4
import PyProof.StrLawsRepr
import PyProof.NsDelKeeps
import PyProof.NoPylong
import PyProof.FitsBits
import PyProof.Rows.RuleM_int
import PyProof.P3In
import PyProof.NeData
import PyProof.Draws
import PyProof.ZipIter
import PyProof.EnumMake
import PyProof.WalksMore
import PyProof.SetNew
import PyProof.SetKind
import PyProof.Rows.SetFrom
import PyProof.AttrMissHeap
import PyProof.ListMulAny
import PyProof.Rows.SortKeyStr
import PyProof.DictKinds
import PySem.SetOps
import PyProof.SetScanFacts
import PyProof.TupleKey
import PyProof.IsRules
import PyProof.SetRoads
import PySem.Challenge.RW_mostrows_k49_whole_ears_or_a_ring
set_option compiler.extract_closed false
set_option Elab.async false
set_option linter.all false
set_option maxRecDepth 100000
set_option maxHeartbeats 4000000
def a4x:=@PySem.wpAny_bind
def a4y:=@if_pos
def a4z:=@if_neg
def a4A:=@PySem.wpAny_pure
def a4B:=@decide_eq_false
def a4C:=@decide_eq_true
def a4D:=@decide_eq_true_eq
def a4E:=@PySem.wpAny_holding
def a4F:=@congrArg
def a4G:=@PySem.wpAny_newObj_type
def a4H:=@PySem.wpAny_mono
def a4I:=@PySem.wpAny_Call_Name_kw
def a4J:=@PySem.wpAny_truthy_bool
def a4K:=@PySem.wpAny_passesOwn
def a4L:=@PySem.wpAny_getItem_str_slice
def a4M:=@PySem.wpAny_loadPart'
def a4N:=@PySem.wpAny_pyIter_tuple
def a4O:=@if_true
def a4P:=@PySem.wpAny_call_entry
def a4Q:=@PySem.call_meets
def a4R:=@PySem.wpAny_field
def a4S:=@PySem.codeAny_builtin
def a4T:=@PySem.codeAny_mono
def a4U:=@PySem.sizeLine_eq
def a4V:=@PySem.wpAny_standAt
def a4W:=@if_false
def a4X:=@PySem.wpAny_typeOf
def a4Y:=@PySem.plainId_quiet
def a4Z:=@PySem.wpAny_rule
def a5i:=@beq_iff_eq
def a0a:=@List.length_map
def a1a:=@List.getElem?_eq_getElem
def a2a:=@List.getElem?_eq_some_iff
def a3a:=@List.mem_singleton
def a4a:=@List.mem_cons_self
def a5a:=@List.length_append
def a6a:=@List.mem_cons_of_mem
def a7a:=@PySem.Heap.get?_push_of_some
def a8a:=@List.mem_append
def a9a:=@Nat.le_refl
def a0b:=@Option.some.inj
def a1b:=@List.getElem?_set_ne
def a2b:=@List.size_toArray
def a3b:=@List.mem_cons
def a4b:=@List.map_append
def a5b:=@PySem.Heap.lt_size
def a6b:=@List.mem_of_getElem?
def a7b:=@List.getElem_mem
def a8b:=@Nat.le_trans
def a9b:=@List.mem_map
def a0c:=@Bool.false_ne_true
def a1c:=@List.mem_append_right
def a2c:=@PySem.Heap.get?_push_size
def a3c:=@List.getD_eq_getElem?_getD
def a4c:=@PySem.F.plainAttrs_list
def a5c:=@List.getElem?_map
def a6c:=@PySem.W.mg_of
def a7c:=@Nat.zero_le
def a8c:=@List.getElem?_set_self
def a9c:=@Option.map_eq_some_iff
def a0d:=@List.length_take
def a1d:=@Nat.ne_of_lt
def a2d:=@List.mem_append_left
def a3d:=@List.getElem?_cons_succ
def a4d:=@List.getElem?_eq_none_iff
def a5d:=@Nat.lt_of_lt_of_le
def a6d:=@PySem.PassesOwn.never
def a7d:=@List.mem_range
def a8d:=@List.getElem_of_mem
def a9d:=@List.mem_of_mem_take
def a0e:=@Classical.byContradiction
def a1e:=@PySem.F.slot_list_append
def a2e:=@PySem.F.type_list_append
def a3e:=@Bool.eq_iff_iff
def a4e:=@Ne.symm
def a5e:=@PySem.W.mg_none_of
def a6e:=@Nat.lt_irrefl
def a7e:=@List.map_cons
def a8e:=@List.length_drop
def a9e:=@PyProof.Rows.callWith_type1
def a0f:=@List.nodup_cons
def a1f:=@PyProof.Rows.slot_tuple_getitem
def a2f:=@Bool.and_eq_true
def a3f:=@List.take_add_one
def a4f:=@List.length_cons
def a5f:=@List.length_range
def a6f:=@List.getElem?_append_right
def a7f:=@PySem.W.kia_one
def a8f:=@List.getElem?_append_left
def a9f:=@Nat.zero_add
def a0g:=@List.append_nil
def a1g:=@List.length_set
def a2g:=@List.length_nil
def a3g:=@List.all_eq_true
def a4g:=@PyProof.Rows.F.plain_set_update_loop
def a5g:=@PySem.F.slot_tuple_iterator_next
def a6g:=@Array.getElem?_toList
def a7g:=@Nat.lt_trans
def a8g:=@Int.emod_lt_of_pos
def a9g:=@PySem.mem_of_lookup
def a0h:=@Array.length_toList
def a1h:=@List.lookup_cons
def a2h:=@PySem.Heap.size_push
def a3h:=@Nat.ne_of_gt
def a4h:=@List.getElem?_eq_none
def a5h:=@Int.toNat_natCast
def a6h:=@Nat.le_of_lt
def a7h:=@Int.emod_nonneg
def a8h:=@List.map_take
namespace Hd
open PySem PySem.W
noncomputable def top(i:Nat):Stmt:=PySem.Challenge.pw_mostrows_k49_whole_ears_or_a_ring.main.body.getD i (.Pass ⟨0,0,0,0⟩)
noncomputable def kG(x q:Str)(s:Stmt)(m:Value)(c:Addr):FuncData:=match s with
 | .FunctionDef _ a b _ _ _ e _ _ _=>fnOf x q a b e .none .none .none m none (.ref c) .none
 | _=>default
noncomputable def dV5:DefRec:=match top 41 with
 | .FunctionDef n a b _ _ _ e _ _ p=>⟨n,a,b,e,p⟩
 | _=>⟨"",default,[],default,default⟩
noncomputable def kE(P:Params)(x:Str)(t:Tok)(v:Value):DictEntry:=⟨PyData.keyHash P x,.str x t,v⟩
noncomputable def kT(l:List Value):Obj:=⟨.type "tuple",none,.seq l.toArray 0,#[]⟩
noncomputable def kF(f:FuncData):Obj:=⟨.type "function",none,.func f,#[]⟩
noncomputable def dD3:=kG "columns_of" "columns_of" (top 1) (.str "mostrows.questions" 187) 18
noncomputable def dD4:=kG "part" "part" (top 2) (.str "mostrows.questions" 187) 23
noncomputable def dD5:=kG "all_parts" "all_parts" (top 4) (.str "mostrows.parts" 201) 28
noncomputable def dD6:=kG "sets_in" "sets_in" (top 7) (.str "mostrows.rings" 209) 33
noncomputable def dD7:=kG "lies_within" "lies_within" (top 8) (.str "mostrows.rings" 209) 38
noncomputable def dD8:=kG "widest_sets" "widest_sets" (top 9) (.str "mostrows.rings" 209) 43
noncomputable def dD9:=kG "neighbours" "neighbours" (top 10) (.str "mostrows.rings" 209) 48
noncomputable def dE0:=kG "all_but_one" "all_but_one" (top 11) (.str "mostrows.rings" 209) 53
noncomputable def dE1:=kG "is_ring" "is_ring" (top 12) (.str "mostrows.rings" 209) 60
noncomputable def dE2:=kG "stand_together" "stand_together" (top 13) (.str "mostrows.rings" 209) 65
noncomputable def dE3:=kG "walked" "walked" (top 14) (.str "mostrows.rings" 209) 70
noncomputable def dE4:=kG "ring_of" "ring_of" (top 15) (.str "mostrows.rings" 209) 77
noncomputable def dE5:=kG "without" "without" (top 17) (.str "mostrows.ears" 273) 82
noncomputable def dE6:=kG "has_all" "has_all" (top 18) (.str "mostrows.ears" 273) 87
noncomputable def dE7:=kG "holders_of" "holders_of" (top 19) (.str "mostrows.ears" 273) 92
noncomputable def dE8:=kG "ears_in" "ears_in" (top 20) (.str "mostrows.ears" 273) 97
noncomputable def cJ1:=kG "taken_off" "taken_off" (top 21) (.str "mostrows.ears" 273) 104
noncomputable def cJ2:=kG "ears" "ears" (top 22) (.str "mostrows.ears" 273) 111
noncomputable def cJ3:=kG "ears_show" "ears_show" (top 23) (.str "mostrows.ears" 273) 118
noncomputable def cJ4:=kG "_law_box" "_law_box" (top 25) (.str "law_mostrows_k49_whole_ears_or_a_ring" 328) 125
noncomputable def cJ5:=kG "_law_take" "_law_take" (top 26) (.str "law_mostrows_k49_whole_ears_or_a_ring" 328) 132
noncomputable def cJ6:=kG "_law_names" "_law_names" (top 27) (.str "law_mostrows_k49_whole_ears_or_a_ring" 328) 137
noncomputable def cJ7:=kG "_law_shuffled" "_law_shuffled" (top 28) (.str "law_mostrows_k49_whole_ears_or_a_ring" 328) 144
noncomputable def cJ8:=kG "_law_some" "_law_some" (top 29) (.str "law_mostrows_k49_whole_ears_or_a_ring" 328) 151
noncomputable def cJ9:=kG "_law_plain_sets" "_law_plain_sets" (top 30) (.str "law_mostrows_k49_whole_ears_or_a_ring" 328) 156
noncomputable def cK0:=kG "_law_round_sets" "_law_round_sets" (top 31) (.str "law_mostrows_k49_whole_ears_or_a_ring" 328) 161
noncomputable def cK1:=kG "_law_question" "_law_question" (top 32) (.str "law_mostrows_k49_whole_ears_or_a_ring" 328) 166
noncomputable def cK2:=kG "_law_columns" "_law_columns" (top 33) (.str "law_mostrows_k49_whole_ears_or_a_ring" 328) 171
noncomputable def cK3:=kG "_law_holders" "_law_holders" (top 34) (.str "law_mostrows_k49_whole_ears_or_a_ring" 328) 176
noncomputable def cK4:=kG "_law_choices" "_law_choices" (top 35) (.str "law_mostrows_k49_whole_ears_or_a_ring" 328) 181
noncomputable def cK5:=kG "_law_rows_round" "_law_rows_round" (top 36) (.str "law_mostrows_k49_whole_ears_or_a_ring" 328) 186
noncomputable def cK6:=kG "_law_no_ring" "_law_no_ring" (top 37) (.str "law_mostrows_k49_whole_ears_or_a_ring" 328) 191
noncomputable def cK7:=kG "_law_stuck" "_law_stuck" (top 38) (.str "law_mostrows_k49_whole_ears_or_a_ring" 328) 196
noncomputable def cK8:=kG "_law_likes" "_law_likes" (top 39) (.str "law_mostrows_k49_whole_ears_or_a_ring" 328) 201
noncomputable def cK9:=kG "_law_truth" "_law_truth" (top 40) (.str "law_mostrows_k49_whole_ears_or_a_ring" 328) 208
noncomputable def bA1:=kG "law" "law" (top 41) (.str "law_mostrows_k49_whole_ears_or_a_ring" 328) 215
noncomputable def kC(x:Str)(a:Tok)(q:Str)(b c:Tok)(d e f:Int)(g:Addr)(h:Int)(i j k l:Addr)(m n:Int)(o:Tok):Obj:=⟨.type "code",none,.fields #[.str x a,.str q b,.str "/claim/cut.py" c,.int d 0,.int e 0,.int 0 0,.int 0 0,.int f 0,.ref g,.bool true,.int h 0,.ref i,.none,.ref j,.ref k,.ref l,.int m 0,.int n 0,.str "/claim/cut.py" o],#[]⟩
noncomputable def KF(P:Params):W.Frag:=[
(2,⟨.none,none,(.dict #[] 0),#[]⟩),
(3,⟨(.type "dict"),none,(.dict #[kE P "__name__" 165 (.str "law_mostrows_k49_whole_ears_or_a_ring" 328),kE P "__doc__" 166 .none,kE P "__package__" 167 .none,kE P "__loader__" 168 (.builtin "__main__.__loader__#opaque"),kE P "__spec__" 169 .none,kE P "__annotations__" 170 (.ref 6),kE P "__builtins__" 171 (.ref 4),kE P "__file__" 173 (.str "/claim/cut.py" 172),kE P "__cached__" 174 .none,kE P "columns_of" 194 (.ref 19),kE P "part" 200 (.ref 24),kE P "all_parts" 208 (.ref 29),kE P "FEWEST" 212 (.int 3 211),kE P "sets_in" 218 (.ref 34),kE P "lies_within" 224 (.ref 39),kE P "widest_sets" 230 (.ref 44),kE P "neighbours" 236 (.ref 49),kE P "all_but_one" 242 (.ref 54),kE P "is_ring" 251 (.ref 61),kE P "stand_together" 257 (.ref 66),kE P "walked" 263 (.ref 71),kE P "ring_of" 272 (.ref 78),kE P "without" 280 (.ref 83),kE P "has_all" 286 (.ref 88),kE P "holders_of" 292 (.ref 93),kE P "ears_in" 298 (.ref 98),kE P "taken_off" 308 (.ref 105),kE P "ears" 316 (.ref 112),kE P "ears_show" 327 (.ref 119),kE P "_law_box" 339 (.ref 126),kE P "_law_take" 349 (.ref 133),kE P "_law_names" 355 (.ref 138),kE P "_law_shuffled" 365 (.ref 145),kE P "_law_some" 373 (.ref 152),kE P "_law_plain_sets" 379 (.ref 157),kE P "_law_round_sets" 385 (.ref 162),kE P "_law_question" 391 (.ref 167),kE P "_law_columns" 397 (.ref 172),kE P "_law_holders" 403 (.ref 177),kE P "_law_choices" 409 (.ref 182),kE P "_law_rows_round" 415 (.ref 187),kE P "_law_no_ring" 421 (.ref 192),kE P "_law_stuck" 427 (.ref 197),kE P "_law_likes" 433 (.ref 202),kE P "_law_truth" 441 (.ref 209),kE P "law" 454 (.ref 216)] 46),#[]⟩),
(15,kT []),
(18,⟨(.type "code"),none,(.fields #[(.str "columns_of" 189),(.str "columns_of" 190),(.str "/claim/cut.py" 191),(.int 2 0),(.int 1 0),(.int 0 0),(.int 0 0),(.int 3 0),(.ref 15),(.bool true),(.int 181 0),(.ref 16),.none,.none,.none,(.ref 17),(.int 192 0),(.int 2 0),(.str "/claim/cut.py" 193)]),#[]⟩),
(19,kF dD3),
(20,kT []),
(23,⟨(.type "code"),none,(.fields #[(.str "part" 195),(.str "part" 196),(.str "/claim/cut.py" 197),(.int 7 0),(.int 2 0),(.int 0 0),(.int 0 0),(.int 3 0),(.ref 20),(.bool true),(.int 181 0),(.ref 21),.none,.none,.none,(.ref 22),(.int 198 0),(.int 7 0),(.str "/claim/cut.py" 199)]),#[]⟩),
(24,kF dD4),
(25,kT []),
(28,⟨(.type "code"),none,(.fields #[(.str "all_parts" 203),(.str "all_parts" 204),(.str "/claim/cut.py" 205),(.int 10 0),(.int 1 0),(.int 0 0),(.int 0 0),(.int 3 0),(.ref 25),(.bool true),(.int 181 0),(.ref 26),.none,.none,.none,(.ref 27),(.int 206 0),(.int 10 0),(.str "/claim/cut.py" 207)]),#[]⟩),
(29,kF dD5),
(30,kT []),
(33,⟨(.type "code"),none,(.fields #[(.str "sets_in" 213),(.str "sets_in" 214),(.str "/claim/cut.py" 215),(.int 17 0),(.int 2 0),(.int 0 0),(.int 0 0),(.int 3 0),(.ref 30),(.bool true),(.int 181 0),(.ref 31),.none,.none,.none,(.ref 32),(.int 216 0),(.int 17 0),(.str "/claim/cut.py" 217)]),#[]⟩),
(34,kF dD6),
(35,kT []),
(38,⟨(.type "code"),none,(.fields #[(.str "lies_within" 219),(.str "lies_within" 220),(.str "/claim/cut.py" 221),(.int 24 0),(.int 2 0),(.int 0 0),(.int 0 0),(.int 3 0),(.ref 35),(.bool true),(.int 181 0),(.ref 36),.none,.none,.none,(.ref 37),(.int 222 0),(.int 24 0),(.str "/claim/cut.py" 223)]),#[]⟩),
(39,kF dD7),
(40,kT []),
(43,⟨(.type "code"),none,(.fields #[(.str "widest_sets" 225),(.str "widest_sets" 226),(.str "/claim/cut.py" 227),(.int 26 0),(.int 2 0),(.int 0 0),(.int 0 0),(.int 3 0),(.ref 40),(.bool true),(.int 181 0),(.ref 41),.none,.none,.none,(.ref 42),(.int 228 0),(.int 26 0),(.str "/claim/cut.py" 229)]),#[]⟩),
(44,kF dD8),
(45,kT []),
(48,⟨(.type "code"),none,(.fields #[(.str "neighbours" 231),(.str "neighbours" 232),(.str "/claim/cut.py" 233),(.int 29 0),(.int 1 0),(.int 0 0),(.int 0 0),(.int 3 0),(.ref 45),(.bool true),(.int 181 0),(.ref 46),.none,.none,.none,(.ref 47),(.int 234 0),(.int 29 0),(.str "/claim/cut.py" 235)]),#[]⟩),
(49,kF dD9),
(50,kT []),
(53,⟨(.type "code"),none,(.fields #[(.str "all_but_one" 237),(.str "all_but_one" 238),(.str "/claim/cut.py" 239),(.int 32 0),(.int 1 0),(.int 0 0),(.int 0 0),(.int 3 0),(.ref 50),(.bool true),(.int 181 0),(.ref 51),.none,.none,.none,(.ref 52),(.int 240 0),(.int 32 0),(.str "/claim/cut.py" 241)]),#[]⟩),
(54,kF dE0),
(55,kT []),
(57,kT [(.str "question" 246),(.str "columns" 247),(.str "found" 248)]),
(58,kT []),
(60,kC "is_ring" 243 "is_ring" 244 245 34 2 3 55 181 56 57 58 59 249 34 250),
(61,kF dE1),
(62,kT []),
(65,⟨(.type "code"),none,(.fields #[(.str "stand_together" 252),(.str "stand_together" 253),(.str "/claim/cut.py" 254),(.int 39 0),(.int 3 0),(.int 0 0),(.int 0 0),(.int 3 0),(.ref 62),(.bool true),(.int 181 0),(.ref 63),.none,.none,.none,(.ref 64),(.int 255 0),(.int 39 0),(.str "/claim/cut.py" 256)]),#[]⟩),
(66,kF dE2),
(67,kT []),
(70,⟨(.type "code"),none,(.fields #[(.str "walked" 258),(.str "walked" 259),(.str "/claim/cut.py" 260),(.int 41 0),(.int 2 0),(.int 0 0),(.int 0 0),(.int 3 0),(.ref 67),(.bool true),(.int 181 0),(.ref 68),.none,.none,.none,(.ref 69),(.int 261 0),(.int 41 0),(.str "/claim/cut.py" 262)]),#[]⟩),
(71,kF dE3),
(72,kT []),
(74,kT [(.str "question" 267),(.str "columns" 268),(.str "way" 269)]),
(75,kT []),
(77,kC "ring_of" 264 "ring_of" 265 266 47 1 3 72 181 73 74 75 76 270 47 271),
(78,kF dE4),
(79,kT []),
(82,⟨(.type "code"),none,(.fields #[(.str "without" 275),(.str "without" 276),(.str "/claim/cut.py" 277),(.int 54 0),(.int 2 0),(.int 0 0),(.int 0 0),(.int 3 0),(.ref 79),(.bool true),(.int 181 0),(.ref 80),.none,.none,.none,(.ref 81),(.int 278 0),(.int 54 0),(.str "/claim/cut.py" 279)]),#[]⟩),
(83,kF dE5),
(84,kT []),
(87,⟨(.type "code"),none,(.fields #[(.str "has_all" 281),(.str "has_all" 282),(.str "/claim/cut.py" 283),(.int 56 0),(.int 2 0),(.int 0 0),(.int 0 0),(.int 3 0),(.ref 84),(.bool true),(.int 181 0),(.ref 85),.none,.none,.none,(.ref 86),(.int 284 0),(.int 56 0),(.str "/claim/cut.py" 285)]),#[]⟩),
(88,kF dE6),
(89,kT []),
(92,⟨(.type "code"),none,(.fields #[(.str "holders_of" 287),(.str "holders_of" 288),(.str "/claim/cut.py" 289),(.int 58 0),(.int 3 0),(.int 0 0),(.int 0 0),(.int 3 0),(.ref 89),(.bool true),(.int 181 0),(.ref 90),.none,.none,.none,(.ref 91),(.int 290 0),(.int 58 0),(.str "/claim/cut.py" 291)]),#[]⟩),
(93,kF dE7),
(94,kT []),
(97,⟨(.type "code"),none,(.fields #[(.str "ears_in" 293),(.str "ears_in" 294),(.str "/claim/cut.py" 295),(.int 64 0),(.int 1 0),(.int 0 0),(.int 0 0),(.int 3 0),(.ref 94),(.bool true),(.int 181 0),(.ref 95),.none,.none,.none,(.ref 96),(.int 296 0),(.int 64 0),(.str "/claim/cut.py" 297)]),#[]⟩),
(98,kF dE8),
(99,kT []),
(101,kT [(.str "question" 302),(.str "left" 303),(.str "taken" 304),(.str "found" 305)]),
(102,kT []),
(104,kC "taken_off" 299 "taken_off" 300 301 69 1 3 99 181 100 101 102 103 306 69 307),
(105,kF cJ1),
(106,kT []),
(108,kT [(.str "question" 312),(.str "taken" 313)]),
(109,kT []),
(111,kC "ears" 309 "ears" 310 311 78 1 3 106 181 107 108 109 110 314 78 315),
(112,kF cJ2),
(113,kT []),
(115,kT [(.str "question" 320),(.str "some" 321),(.str "left" 322),(.str "name" 323),(.str "holder" 324)]),
(116,kT []),
(118,kC "ears_show" 317 "ears_show" 318 319 83 2 3 113 181 114 115 116 117 325 83 326),
(119,kF cJ3),
(120,kT []),
(122,kT [(.str "_law_script" 333),(.str "_law_k" 334),(.str "_law_cell" 335),(.str "_law_seed" 336)]),
(123,kT []),
(125,kC "_law_box" 330 "_law_box" 331 332 91 2 3 120 181 121 122 123 124 337 91 338),
(126,kF cJ4),
(127,kT []),
(129,kT [(.str "_law_box_here" 343),(.str "_law_many" 344),(.str "_law_digit" 345),(.str "_law_one" 346)]),
(130,kT []),
(132,kC "_law_take" 340 "_law_take" 341 342 99 2 3 127 181 128 129 130 131 347 99 348),
(133,kF cJ5),
(134,kT []),
(137,⟨(.type "code"),none,(.fields #[(.str "_law_names" 350),(.str "_law_names" 351),(.str "/claim/cut.py" 352),(.int 107 0),(.int 2 0),(.int 0 0),(.int 0 0),(.int 3 0),(.ref 134),(.bool true),(.int 181 0),(.ref 135),.none,.none,.none,(.ref 136),(.int 353 0),(.int 107 0),(.str "/claim/cut.py" 354)]),#[]⟩),
(138,kF cJ6),
(139,kT []),
(141,kT [(.str "_law_box_here" 359),(.str "_law_things" 360),(.str "_law_left" 361),(.str "_law_found" 362)]),
(142,kT []),
(144,kC "_law_shuffled" 356 "_law_shuffled" 357 358 121 2 3 139 181 140 141 142 143 363 121 364),
(145,kF cJ7),
(146,kT []),
(148,kT [(.str "_law_box_here" 369),(.str "_law_things" 370)]),
(149,kT []),
(151,kC "_law_some" 366 "_law_some" 367 368 127 2 3 146 181 147 148 149 150 371 127 372),
(152,kF cJ8),
(153,kT []),
(156,⟨(.type "code"),none,(.fields #[(.str "_law_plain_sets" 374),(.str "_law_plain_sets" 375),(.str "/claim/cut.py" 376),(.int 129 0),(.int 1 0),(.int 0 0),(.int 0 0),(.int 3 0),(.ref 153),(.bool true),(.int 181 0),(.ref 154),.none,.none,.none,(.ref 155),(.int 377 0),(.int 129 0),(.str "/claim/cut.py" 378)]),#[]⟩),
(157,kF cJ9),
(158,kT []),
(161,⟨(.type "code"),none,(.fields #[(.str "_law_round_sets" 380),(.str "_law_round_sets" 381),(.str "/claim/cut.py" 382),(.int 145 0),(.int 1 0),(.int 0 0),(.int 0 0),(.int 3 0),(.ref 158),(.bool true),(.int 181 0),(.ref 159),.none,.none,.none,(.ref 160),(.int 383 0),(.int 145 0),(.str "/claim/cut.py" 384)]),#[]⟩),
(162,kF cK0),
(163,kT []),
(166,⟨(.type "code"),none,(.fields #[(.str "_law_question" 386),(.str "_law_question" 387),(.str "/claim/cut.py" 388),(.int 159 0),(.int 1 0),(.int 0 0),(.int 0 0),(.int 3 0),(.ref 163),(.bool true),(.int 181 0),(.ref 164),.none,.none,.none,(.ref 165),(.int 389 0),(.int 159 0),(.str "/claim/cut.py" 390)]),#[]⟩),
(167,kF cK1),
(168,kT []),
(171,⟨(.type "code"),none,(.fields #[(.str "_law_columns" 392),(.str "_law_columns" 393),(.str "/claim/cut.py" 394),(.int 173 0),(.int 1 0),(.int 0 0),(.int 0 0),(.int 3 0),(.ref 168),(.bool true),(.int 181 0),(.ref 169),.none,.none,.none,(.ref 170),(.int 395 0),(.int 173 0),(.str "/claim/cut.py" 396)]),#[]⟩),
(172,kF cK2),
(173,kT []),
(176,⟨(.type "code"),none,(.fields #[(.str "_law_holders" 398),(.str "_law_holders" 399),(.str "/claim/cut.py" 400),(.int 178 0),(.int 2 0),(.int 0 0),(.int 0 0),(.int 3 0),(.ref 173),(.bool true),(.int 181 0),(.ref 174),.none,.none,.none,(.ref 175),(.int 401 0),(.int 178 0),(.str "/claim/cut.py" 402)]),#[]⟩),
(177,kF cK3),
(178,kT []),
(181,⟨(.type "code"),none,(.fields #[(.str "_law_choices" 404),(.str "_law_choices" 405),(.str "/claim/cut.py" 406),(.int 183 0),(.int 2 0),(.int 0 0),(.int 0 0),(.int 3 0),(.ref 178),(.bool true),(.int 181 0),(.ref 179),.none,.none,.none,(.ref 180),(.int 407 0),(.int 183 0),(.str "/claim/cut.py" 408)]),#[]⟩),
(182,kF cK4),
(183,kT []),
(186,⟨(.type "code"),none,(.fields #[(.str "_law_rows_round" 410),(.str "_law_rows_round" 411),(.str "/claim/cut.py" 412),(.int 194 0),(.int 1 0),(.int 0 0),(.int 0 0),(.int 3 0),(.ref 183),(.bool true),(.int 181 0),(.ref 184),.none,.none,.none,(.ref 185),(.int 413 0),(.int 194 0),(.str "/claim/cut.py" 414)]),#[]⟩),
(187,kF cK5),
(188,kT []),
(191,⟨(.type "code"),none,(.fields #[(.str "_law_no_ring" 416),(.str "_law_no_ring" 417),(.str "/claim/cut.py" 418),(.int 202 0),(.int 2 0),(.int 0 0),(.int 0 0),(.int 3 0),(.ref 188),(.bool true),(.int 181 0),(.ref 189),.none,.none,.none,(.ref 190),(.int 419 0),(.int 202 0),(.str "/claim/cut.py" 420)]),#[]⟩),
(192,kF cK6),
(193,kT []),
(196,⟨(.type "code"),none,(.fields #[(.str "_law_stuck" 422),(.str "_law_stuck" 423),(.str "/claim/cut.py" 424),(.int 209 0),(.int 2 0),(.int 0 0),(.int 0 0),(.int 3 0),(.ref 193),(.bool true),(.int 181 0),(.ref 194),.none,.none,.none,(.ref 195),(.int 425 0),(.int 209 0),(.str "/claim/cut.py" 426)]),#[]⟩),
(197,kF cK7),
(198,kT []),
(201,⟨(.type "code"),none,(.fields #[(.str "_law_likes" 428),(.str "_law_likes" 429),(.str "/claim/cut.py" 430),(.int 221 0),(.int 2 0),(.int 0 0),(.int 0 0),(.int 3 0),(.ref 198),(.bool true),(.int 181 0),(.ref 199),.none,.none,.none,(.ref 200),(.int 431 0),(.int 221 0),(.str "/claim/cut.py" 432)]),#[]⟩),
(202,kF cK8),
(203,kT []),
(205,kT [(.str "_law_found" 437),(.str "_law_due" 438)]),
(206,kT []),
(208,kC "_law_truth" 434 "_law_truth" 435 436 232 2 3 203 181 204 205 206 207 439 232 440),
(209,kF cK9),
(210,kT []),
(212,kT [(.str "_law_script" 445),(.str "_law_question_here" 446),(.str "_law_word" 447),(.str "_law_told" 448),(.str "_law_k" 449),(.str "_law_found" 450),(.str "_law_other" 451)]),
(213,kT []),
(215,kC "law" 442 "law" 443 444 234 1 3 210 181 211 212 213 214 452 234 453),
(216,kF bA1)]
noncomputable def Vw:Program:=view PySem.Challenge.pw_mostrows_k49_whole_ears_or_a_ring [1,2,4,6,7,8,9,10,11,12,13,14,15,17,18,19,20,21,22,23,25,26,27,28,29,30,31,32,33,34,35,36,37,38,39,40,41]
def eC8:PySem.Challenge.rw_mostrows_k49_whole_ears_or_a_ring.wellSaid=true:=by kernel_rfl
def aL:LeftO PySem.Challenge.rw_mostrows_k49_whole_ears_or_a_ring.row.prog Vw [] (λs=>xlAt Vw [] s&&recOk (RowW.records PySem.Challenge.rw_mostrows_k49_whole_ears_or_a_ring.row.toRowW) s) (λs=>[2,3,15,18,19,20,23,24,25,28,29,30,33,34,35,38,39,40,43,44,45,48,49,50,53,54,55,57,58,60,61,62,65,66,67,70,71,72,74,75,77,78,79,82,83,84,87,88,89,92,93,94,97,98,99,101,102,104,105,106,108,109,111,112,113,115,116,118,119,120,122,123,125,126,127,129,130,132,133,134,137,138,139,141,142,144,145,146,148,149,151,152,153,156,157,158,161,162,163,166,167,168,171,172,173,176,177,178,181,182,183,186,187,188,191,192,193,196,197,198,201,202,203,205,206,208,209,210,212,213,215,216].map s.heap.get?) (λw=>(KF w.params).map λp=>some p.2) 2230:=λw=>by kernel_rfl
def eA5(h:WalkO Vw [] (XL Vw []) (InK KF) PySem.Challenge.rw_mostrows_k49_whole_ears_or_a_ring.row.toRowW dV5 [] (λf vs=>PySem.call f vs)):PySem.Challenge.rw_mostrows_k49_whole_ears_or_a_ring.Holds:=
 holds_law eC8 λe=>holds_open (d:=dV5) (kwd:=[]) aL (InK.of λ_=>by kernel_rfl) InK.keeps (λs e=>xl_of s (Bool.and_eq_true_iff.mp e).1) XL.keeps (by kernel_rfl) (by kernel_rfl) (by kernel_rfl) (λs e=>recFacts_of (Bool.and_eq_true_iff.mp e).2) (by kernel_rfl) e (by kernel_rfl) ⟨rfl,rfl,rfl,rfl,rfl,by decide +kernel⟩ (by w_witness2) h
end Hd
namespace L2
open PySem PySem.Spec PyProof.Rows
abbrev Key:=Sum Int Str
noncomputable def bG5:Key->Value->Bool
 | .inl k,v=>Value.isInt k v
 | .inr x,v=>Value.isStrOf x v
noncomputable def eC9(w:World):Key->Int
 | .inl k=>hashInt k
 | .inr x=>hashStr w x
def eN:∀ {k:Key} {v:Value},bG5 k v=true->(∃ i t,k=Sum.inl i/\v=Value.int i t)\/(∃ x t,k=Sum.inr x/\v=Value.str x t)
 | .inl i,v,h=>by
   obtain⟨t,e⟩:=Value.isInt_shape (k:=i) (v:=v) h;exact .inl ⟨i,t,rfl,e⟩
 | .inr x,v,h=>by
   obtain⟨t,e⟩:=Value.isStrOf_shape (x:=x) (v:=v) h;exact .inr ⟨x,t,rfl,e⟩
def bL9(i:Int)(t:Tok):bG5 (.inl i) (.int i t)=true:=by simp[bG5,Value.isInt]
def bM0(x:Str)(t:Tok):bG5 (.inr x) (.str x t)=true:=by simp[bG5,Value.isStrOf]
def dE9(a b:Int):decide ((Sum.inl a:Key)=Sum.inl b)=(a==b):=by
 by_cases e:a=b;subst e;simp;have h:¬ (Sum.inl a:Key)=Sum.inl b:=λq=>e (Sum.inl.inj q);rw[a4B h];exact(beq_eq_false_iff_ne.mpr e).symm
def dF0(a b:Str):decide ((Sum.inr a:Key)=Sum.inr b)=decide (a=b):=by
 by_cases e:a=b;subst e;simp;have h:¬ (Sum.inr a:Key)=Sum.inr b:=λq=>e (Sum.inr.inj q);rw[a4B h,a4B e]
def dF1(a:Int)(b:Str):decide ((Sum.inl a:Key)=Sum.inr b)=false:=a4B (λq=>nomatch q)
def dF2(a:Str)(b:Int):decide ((Sum.inr a:Key)=Sum.inl b)=false:=a4B (λq=>nomatch q)
noncomputable def gH(prog:Program)(w:World):PySem.KeyKind prog w Key where
 is:=bG5
 hash:=eC9 w
 inj:=λv a b ha f=>by
  rcases eN ha with⟨i,t,rfl,rfl⟩ | ⟨x,t,rfl,rfl⟩
  ·rcases eN f with⟨j,u,rfl,e⟩ | ⟨y,u,rfl,e⟩
   ·injection e with c _;rw[c]
   ·exact nomatch e
  ·rcases eN f with⟨j,u,rfl,e⟩ | ⟨y,u,rfl,e⟩;exact nomatch e;injection e with c _;rw[c]
 byValue:=λk v h=>by
  rcases eN h with⟨i,t,rfl,rfl⟩ | ⟨x,t,rfl,rfl⟩<;>rfl
 pyHash:=λd h=>by
  rcases eN d with⟨i,t,rfl,rfl⟩ | ⟨x,t,rfl,rfl⟩;exact wpAny_pyHash_int h;exact wpAny_pyHash_str h
 eqBool:=λg d h=>by
  rcases eN g with⟨i,t,rfl,rfl⟩ | ⟨x,t,rfl,rfl⟩;rcases eN d with⟨j,u,rfl,rfl⟩ | ⟨y,u,rfl,rfl⟩;rw[dE9]at h;exact wpAny_eqBool_int h;rw[dF1]at h;exact SeqAt.EqAt.int_str i t y u _ _ _ _ h;rcases eN d with⟨j,u,rfl,rfl⟩ | ⟨y,u,rfl,rfl⟩;rw[dF2]at h;exact SeqAt.EqAt.str_int x t j u _ _ _ _ h;rw[dF0]at h;exact wpAny_eqBool_str h
 «strs»:=λk x t v h=>by
  rcases eN h with⟨i,u,rfl,e⟩ | ⟨y,u,rfl,e⟩;exact nomatch e;injection e with c _
  subst c;cases v<;>rfl
def aT4(prog:Program)(w:World)(i:Int)(t:Tok):(gH prog w).is (.inl i) (.int i t)=true:=bL9 i t
def aT5(prog:Program)(w:World)(x:Str)(t:Tok):(gH prog w).is (.inr x) (.str x t)=true:=bM0 x t
inductive V where
 | non | bl (b:Bool) | int (i:Int) | str (x:Str) | byt (b:Array UInt8) | flt (b:UInt64) | ref (a:Addr) | ty (n:String)
 deriving DecidableEq
def gR:V->Value->Prop
 | .non,u=>u=Value.none
 | .bl b,u=>u=Value.bool b
 | .int i,u=>∃ t,u=Value.int i t
 | .str x,u=>∃ t,u=Value.str x t
 | .byt b,u=>∃ t,u=Value.bytes b t
 | .flt b,u=>∃ t,u=Value.float b t
 | .ref a,u=>u=Value.ref a
 | .ty n,u=>u=Value.type n
abbrev dI:List V->List Value->Prop:=Paired gR
theorem dI.length{xs:List V}{us:List Value}(r:dI xs us):xs.length=us.length:=Paired.length r
theorem dI.get:∀ {xs:List V} {us:List Value} {i:Nat} {x:V},dI xs us->xs[i]? = some x->∃ u,us[i]? = some u/\gR x u
 | _,_,_,_,.nil,e=>by simp at e
 | _,_,0,_,.cons r _,e=>by simp at e;subst e;exact⟨_,rfl,r⟩
 | _,_,i+1,x,.cons _ t,e=>by
   obtain⟨u,a,b⟩:=dI.get (i:=i) (x:=x) t (by simpa using e);exact⟨u,by simpa using a,b⟩
theorem dI.set{x:V}{u:Value}(r:gR x u):∀ {xs:List V} {us:List Value} (i:Nat),dI xs us->dI (xs.set i x) (us.set i u)
 | _,_,_,.nil=>.nil
 | _,_,0,.cons _ t=>.cons r t
 | _,_,i+1,.cons q t=>.cons q (dI.set r i t)
theorem dI.append:∀ {xs ys:List V} {us ws:List Value},dI xs us->dI ys ws->dI (xs++ys) (us++ws)
 | _,_,_,_,.nil,s=>s
 | _,_,_,_,.cons r t,s=>.cons r (dI.append t s)
theorem dI.take:∀ {xs:List V} {us:List Value} (n:Nat),dI xs us->dI (xs.take n) (us.take n)
 | _,_,0,_=>.nil
 | _,_,_+1,.nil=>.nil
 | _,_,n+1,.cons r t=>.cons r (dI.take n t)
theorem dI.drop:∀ {xs:List V} {us:List Value} (n:Nat),dI xs us->dI (xs.drop n) (us.drop n)
 | _,_,0,r=>r
 | _,_,_+1,.nil=>.nil
 | _,_,n+1,.cons _ t=>dI.drop n t
def cB2:Option V->Option Value->Prop
 | some v,some u=>gR v u
 | none,none=>True
 | _,_=>False
def KV{κ:Type}:List (κ×V)->List (κ×Value)->Prop:=Paired λ(p:κ×V) (q:κ×Value)=>p.1=q.1/\gR p.2 q.2
noncomputable def kV:Key->V
 | .inl i=>.int i
 | .inr x=>.str x
inductive HO where
 | lst (xs:List V)
 | tup (xs:List V)
 | dK (kvs:List (Key×V)) | dT (kvs:List (List Key×V))
 | set (S:Int->Bool) (n:Nat)
 | ins (C dx:Addr) (fs:List (Str×V))
 | own (x:Addr)
 | xd (fs:List (Str×V))
 | met (f x:Addr)
 | rng (lo hi:Int)
 | frz (o:Obj) (u:HO)
 | tbl (ps:Array Value)
 | ext (φ:Heap->Prop)
abbrev Hp:=Addr->Option HO
noncomputable def upd(H:Hp)(a:Addr)(o:HO):Hp:=λb=>if b=a then some o else H b
def aY{H:Hp}{a:Addr}{o:HO}:upd H a o a=some o:=by unfold upd;rw[a4y rfl]
def aS{H:Hp}{a b:Addr}{o:HO}(h:b≠a):upd H a o b=H b:=by unfold upd;rw[a4z h]
def bK{H:Hp}{a b:Addr}{o:HO}(h:H a=some o)(h':H b=none):a≠b:=by
 intro e;subst e;rw[h]at h';cases h'
def eD0(h:Heap)(a:Addr):Prop:=∃ o,h.get? a=some o/\o.dict=none
section
variable(P:Program)(w:World)
def eV(H:Hp)(h:Heap)(a:Addr):HO->Prop
 | .lst xs=>xs.length<=sizeLine/\∃ (b:List Value) (n:Nat),dI xs b/\h.get? a=some {cls:=.type "list",data:=.seq b.toArray n}
 | .tup xs=>xs.length<=sizeLine/\∃ b:List Value,dI xs b/\IsTup h a b.toArray/\eD0 h a
 | .dK kvs=>kvs.length<=sizeLine/\(a==sysModules)=false/\∃ vs,KV kvs vs/\h.DictOf (gH P w) a vs
 | .dT kvs=>kvs.length<=sizeLine/\(a==sysModules)=false/\∃ xs:List (List Key×Addr×Value),
   Paired (λ(p:List Key×V) (q:List Key×Addr×Value)=>p.1=q.1/\H q.2.1=some (.tup (p.1.map kV))/\gR p.2 q.2.2) kvs xs /\
   ∃ o es e,h.get? a=some o/\o.ExactDict/\o.data=.dict es e/\es.toList=xs.map (entryOfKey (tupleKind (gH P w)))/\(xs.map (·.1)).Nodup
 | .set S n=>h.SetOf (intKind P w) a S n
 | .ins C dx fs=>H dx=some (.own a)/\fs.length<=1000/\dx≠a/\h.get? a=some (W.instObj C dx) /\
   ∃ mA,h.Ns1 dx mA/\(∀ f,cB2 (fs.lookup f) (mA f))/\Within mA (fs.map (·.1))
 | .own _=>∃ o,h.get? a=some o
 | .xd fs=>∃ mA,h.Ns1 a mA/\∀ f,cB2 (fs.lookup f) (mA f)
 | .rng lo hi=>∃ t u v,h.get? a=some {cls:=.type "range",data:=.fields #[.int lo t,.int hi u,.int 1 v]}
 | .frz o u=>h.get? a=some o/\eV H h a u
 | .tbl ps=>h.get? a=some {cls:=.none,data:=.fields ps}
 | .met f x=>h.get? a=some (W.methodObj (.ref f) (.ref x))
 | .ext φ=>φ h/\(∃ o,h.get? a=some o)/\∀ c d:Heap,φ c->(∀ o,c.get? a=some o->d.get? a=some o)->φ d
def HOk(H:Hp)(h:Heap):Prop:=∀ a o,H a=some o->eV P w H h a o
end
section
variable{P:Program}{w:World}{H H':Hp}{h h':Heap}{a:Addr}{o:HO}
theorem eV.lt(x:eV P w H h a o):a < h.objs.size:=by
 cases o with
 | lst xs=>obtain⟨_,_,_,_,e⟩:=x;exact a5b e
 | tup xs=>obtain⟨_,_,_,p,_⟩:=x;exact p.lt
 | dK kvs=>obtain⟨_,_,_,_,o,_,_,e,_⟩:=x;exact a5b e
 | dT kvs=>obtain⟨_,_,_,_,o,_,_,e,_⟩:=x;exact a5b e
 | set S n=>obtain⟨o,_,_,_,e,_⟩:=x;exact a5b e
 | ins C dx fs=>obtain⟨_,_,_,e,_⟩:=x;exact a5b e
 | own y=>obtain⟨_,e⟩:=x;exact a5b e
 | xd fs=>obtain⟨_,⟨_,_,_,e,_⟩,_⟩:=x;exact a5b e
 | rng lo hi=>obtain⟨_,_,_,e⟩:=x;exact a5b e
 | frz ob u=>obtain⟨e,_⟩:=x;exact a5b e
 | tbl ps=>exact a5b (show h.get? a=some _ from x)
 | met f y=>exact a5b (show h.get? a=some _ from x)
 | ext φ=>obtain⟨_,⟨_,e⟩,_⟩:=x;exact a5b e
theorem Paired.mapP{α e:Type}{F G:α->e->Prop}:∀ {c:List α} {d:List e},Paired F c d->(∀ a b,F a b->G a b)->Paired G c d
 | _,_,.nil,_=>.nil
 | _,_,.cons r t,f=>.cons (f _ _ r) (Paired.mapP t f)
def eV.stay(x:eV P w H h a o)(k:∀ b u,(b=a\/H b=some (.own a))->h.get? b=some u->h'.get? b=some u)
  (m:∀ b,H b=some (.own a)->H' b=some (.own a)) (s:∀ b xs,H b=some (.tup xs)->H' b=some (.tup xs)):eV P w H' h' a o:=by
 induction o with
 | lst xs=>obtain⟨z,i,n,r,e⟩:=x;exact⟨z,i,n,r,k _ _ (.inl rfl) e⟩
 | tup xs=>obtain⟨z,i,r,⟨ob,e,c⟩,⟨j,l,A⟩⟩:=x;exact⟨z,i,r,⟨ob,k _ _ (.inl rfl) e,c⟩,⟨j,k _ _ (.inl rfl) l,A⟩⟩
 | dK kvs=>obtain⟨z,y,vs,r,ob,es,g,e,c⟩:=x;exact⟨z,y,vs,r,ob,es,g,k _ _ (.inl rfl) e,c⟩
 | dT kvs=>
   obtain⟨z,y,xs,r,ob,es,g,e,c⟩:=x;exact⟨z,y,xs,Paired.mapP r λp q z=>⟨z.1,s _ _ z.2.1,z.2.2⟩,ob,es,g,k _ _ (.inl rfl) e,c⟩
 | set S n=>obtain⟨ob,es,g,t,e,c⟩:=x;exact⟨ob,es,g,t,k _ _ (.inl rfl) e,c⟩
 | ins C dx fs=>
   obtain⟨d,z,ne,e,mA,⟨od,es,g,l,c⟩,r⟩:=x;exact⟨m _ d,z,ne,k _ _ (.inl rfl) e,mA,⟨od,es,g,k _ _ (.inr d) l,c⟩,r⟩
 | own y=>obtain⟨ob,e⟩:=x;exact⟨ob,k _ _ (.inl rfl) e⟩
 | xd fs=>obtain⟨mA,⟨od,es,g,e,c⟩,r⟩:=x;exact⟨mA,⟨od,es,g,k _ _ (.inl rfl) e,c⟩,r⟩
 | rng lo hi=>obtain⟨t,u,v,e⟩:=x;exact⟨t,u,v,k _ _ (.inl rfl) e⟩
 | frz ob u B=>obtain⟨e,q⟩:=x;exact⟨k _ _ (.inl rfl) e,B q⟩
 | tbl ps=>
   have e:h.get? a=some {cls:=.none,data:=.fields ps}:=x;show h'.get? a=some {cls:=.none,data:=.fields ps};exact k a _ (.inl rfl) e
 | met f y=>
   have e:h.get? a=some (W.methodObj (.ref f) (.ref y)):=x;show h'.get? a=some (W.methodObj (.ref f) (.ref y));exact k a _ (.inl rfl) e
 | ext φ=>obtain⟨p,⟨o,e⟩,st⟩:=x;exact⟨st _ _ p λo q=>k _ _ (.inl rfl) q,⟨o,k _ _ (.inl rfl) e⟩,st⟩
theorem HOk.lt(x:HOk P w H h)(e:H a=some o):a < h.objs.size:=(x a o e).lt
def HOk.fresh(x:HOk P w H h)(e:h.objs.size<=a):H a=none:=by
 cases q:H a with
 | none=>rfl
 | some u=>exact absurd (a5d (x.lt q) e) (a6e _)
def HOk.kept(x:HOk P w H h)(k:∀ b u,h.get? b=some u->h'.get? b=some u):HOk P w H h':=λa o e=>
 (x a o e).stay (λb u _ q=>k b u q) (λ_ q=>q) λ_ _ q=>q
def HOk.laid(x:HOk P w H h)(k:∀ b u,h.get? b=some u->h'.get? b=some u)(g:h.objs.size<=a)(d:eV P w (upd H a o) h' a o):HOk P w (upd H a o) h':=λb u e=>by
 have hn:=x.fresh g;by_cases f:b=a;subst f;rw[aY]at e;cases e;exact d;rw[aS f]at e;exact(x b u e).stay (λc v _ q=>k c v q) (λc q=>by rw[aS (bK q hn)];exact q) λc xs q=>by rw[aS (bK q hn)];exact q
end
def Rd(H:Hp)(a:Addr)(u:HO):Prop:=H a=some u\/∃ o,H a=some (.frz o u)
theorem Rd.ok{P:Program}{w:World}{H:Hp}{h:Heap}{a:Addr}{u:HO}(r:Rd H a u)(x:HOk P w H h):eV P w H h a u:=by
 rcases r with r | ⟨o,r⟩;exact x a u r;obtain⟨_,q⟩:=x a _ r;exact q
def Mut:Option HO->Prop
 | some (.lst _)=>True
 | some (.dK _)=>True
 | some (.dT _)=>True
 | some (.set _ _)=>True
 | some (.ins _ _ _)=>True
 | some (.ext _)=>True
 | _=>False
section
variable{P:Program}{w:World}{H:Hp}{h h':Heap}{x e:Addr}{o':HO}
def HOk.write(ok:HOk P w H h)(mu:Mut (H x))(m:e=x\/H e=some (.own x))(k:∀ b u,b≠e->h.get? b=some u->h'.get? b=some u)(j:∃ u,h'.get? e=some u)
  (l:eV P w (upd H x o') h' x o'):HOk P w (upd H x o') h':=λb u q=>by
 have d:∀ c y,H c=some (.own y)->c≠x:=λc y r z=>by subst z;rw[r]at mu;exact mu
 have f:∀ c xs,H c=some (.tup xs)->c≠x:=λc xs r z=>by subst z;rw[r]at mu;exact mu
 by_cases g:b=x;subst g;rw[aY]at q;cases q;exact l;rw[aS g]at q;by_cases a:b=e
 ·have n:H b=some (.own x):=by
   rcases m with z | z;exact absurd (a.trans z) g;rw[a];exact z
  rw[q]at n;cases n;obtain⟨v,o⟩:=j;exact⟨v,by rw[a];exact o⟩
 ·refine(ok b u q).stay (λc v i r=>k c v ?_ r) (λc r=>by rw[aS (d c b r)];exact r) λc xs r=>by rw[aS (f c xs r)];exact r
  rcases i with rfl | i;exact a;rintro rfl;rcases m with z | z;exact d c b i z;rw[i]at z;cases z;exact g rfl
end
structure Un(fs ex:List Addr)(H H':Hp)(h h':Heap):Prop where
 keep:∀ b o,h.get? b=some o->H b=none->b∉fs->b∉ex->h'.get? b=some o
 slot:∀ b o,h.get? b=some o->H b=none->b∈fs->b∉ex->∃ sl,h'.get? b=some {o with slots:=sl}
 free:∀ b o,h.get? b=some o->H b=none->b∉ex->H' b=none
 there:∀ b o,h.get? b=some o->b∉ex->∃ o',h'.get? b=some o'
 tups:∀ b xs,H b=some (.tup xs)->H' b=some (.tup xs)
 frzs:∀ b o u,H b=some (.frz o u)->H' b=some (.frz o u)
 tbls:∀ b ps,H b=some (.tbl ps)->∃ more,H' b=some (.tbl (ps++more))
section
variable{fs fs' ex ex':List Addr}{H H1 H2:Hp}{h h1 h2 h':Heap}{a x e:Addr}{o:HO}
def Un.any(u:Un fs ex H H1 h h1){b:Addr}{ob:Obj}(q:h.get? b=some ob)(n:H b=none)(a:b∉ex):∃ sl,h1.get? b=some {ob with slots:=sl}:=by
 by_cases c:b∈fs;exact u.slot b ob q n c a;exact⟨ob.slots,u.keep b ob q n c a⟩
def Un.kept(k:∀ b u,h.get? b=some u->h'.get? b=some u):Un fs ex H H h h':=
 ⟨λb ob q _ _ _=>k b ob q,λb ob q _ _ _=>⟨ob.slots,k b ob q⟩,λ_ _ _ n _=>n,λb ob q _=>⟨ob,k b ob q⟩,λ_ _ q=>q,λ_ _ _ q=>q,λ_ ps q=>⟨#[],by rw[q];simp⟩⟩
def Un.refl:Un fs ex H H h h:=Un.kept λ_ _ q=>q
def Un.laid(k:∀ b u,h.get? b=some u->h'.get? b=some u)(c:h.objs.size<=a)(hn:H a=none):Un fs ex H (upd H a o) h h' where
 keep:=λb u q _ _ _=>k b u q
 slot:=λb u q _ _ _=>⟨u.slots,k b u q⟩
 free:=λb u q n _=>by rw[aS (a1d (a5d (a5b q) c))];exact n
 there:=λb u q _=>⟨u,k b u q⟩
 tups:=λb xs q=>by rw[aS (bK q hn)];exact q
 frzs:=λb u xs q=>by rw[aS (bK q hn)];exact q
 tbls:=λb ps q=>⟨#[],by rw[aS (bK q hn),q];simp⟩
def Un.write(mu:Mut (H x))(g:e=x\/H e=some (.own x))(k:∀ b u,b≠e->h.get? b=some u->h'.get? b=some u)(c:∃ u,h'.get? e=some u):Un fs ex H (upd H x o) h h':=by
 have d:∀ b,H b=none->b≠x:=λb n z=>by subst z;rw[n]at mu;exact mu
 have f:∀ b,H b=none->b≠e:=λb n z=>by
  subst z;rcases g with r | r;exact d b n r;rw[n]at r;cases r
 have hm:∀ b u,H b=some u->¬ Mut (some u)->b≠x:=λb u q i z=>by subst z;rw[q]at mu;exact i mu
 refine⟨λb u q n _ _=>k b u (f b n) q,λb u q n _ _=>⟨u.slots,k b u (f b n) q⟩,λb u q n _=>by rw[aS (d b n)];exact n,λb u q _=>?_,
  λb xs q=>by rw[aS (hm b _ q λz=>z)];exact q,λb u xs q=>by rw[aS (hm b _ q λz=>z)];exact q,λb ps q=>⟨#[],by rw[aS (hm b _ q λz=>z),q];simp⟩⟩
 by_cases a:b=e;subst a;exact c;exact⟨u,k b u a q⟩
end
noncomputable def trk(h:Heap)(H:Hp):List Addr:=(List.range h.objs.size).filter λa=>(H a).isSome
noncomputable def cB3(h:Heap)(H:Hp):Heap:=W.hideAll h (trk h H)
def bM1(h:Heap)(H:Hp):(cB3 h H).objs.size=h.objs.size:=W.hideAll_size _ _
def cB4{h:Heap}{H:Hp}{b:Addr}{o:Obj}(e:h.get? b=some o)(n:H b=none):(cB3 h H).get? b=some o:=
 W.hideAll_get _ e λhm=>by
  have q:(H b).isSome=true:=(List.mem_filter.mp hm).2;rw[n]at q;simp at q
def cR1{h:Heap}{H:Hp}{b:Addr}{o:Obj}(e:(cB3 h H).get? b=some o):h.get? b=some o/\H b=none:=by
 have a:h.get? b=some o:=W.of_hideAll (trk h H) e;refine⟨a,?_⟩;cases q:H b with
 | none=>rfl
 | some x=>
   have hm:b∈trk h H:=List.mem_filter.mpr ⟨a7d.mpr (a5b a),by simp[q]⟩;have z:(cB3 h H).get? b=none:=W.hideAll_none (trk h H) hm;rw[z]at e;cases e
noncomputable def cR2(g h:Heap)(L:Addr):List (Addr×Obj):=(List.range h.objs.size).filterMap λa=>if a=L\/(g.get? a).isSome=true then none else(h.get? a).map λo=>(a,o)
noncomputable def mL(g h:Heap)(L d:Addr):List (Addr×Obj):=(cR2 g h L).filter λp=>decide (p.1≠d)
structure Mod(K:W.Frag)(mg:Str->Option Value)(base:Heap):Prop where
 kin:K.In base
 glob:base.Ns mainGlobals mg
 blt:∃ mb,base.Ns builtinsNs mb/\∀ x:Str,x≠"__name__"->mb x=bootBuiltins x
 nolimit:base.NoLimit
structure Cx where
 prog:Program
 w:World
 K:W.Frag
 mg:Str->Option Value
 base:Heap
 A:Around
 N:List Str
 s₀:Shared
 H₀:Hp
 env:Env
 outer:List Env
 stack:List Env
 ex:List Addr
 fn:Str->Bool
 calm:Bool
 pn:List (Addr×Obj)
 xe:Value->Shared->Prop
noncomputable def frs(l:List Env):List Addr:=l.filterMap (·.frame)
noncomputable abbrev Cx.fs(X:Cx):List Addr:=frs X.outer
def Vis(sc:Scope)(x:Str):Prop:=sc.names.lookup x=some .local\/sc.names.lookup x=some .cell\/sc.names.lookup x=some .free
def Loc(sc:Scope)(x:Str):Prop:=sc.names.lookup x=some .local\/sc.names.lookup x=some .cell
def eD1(env:Env)(h:Heap)(m:Str->Option Value)(x:Str)(u:Value):Prop:=
 (env.kindOf x=some .local/\m x=some u)\/((env.kindOf x=some .cell\/env.kindOf x=some .free)/\∃ c,env.cells.lookup x=some c/\h.IsCell c (some u))
structure Cx.Ok(X:Cx):Prop where
 mod:Mod X.K X.mg X.base
 kind:X.env.scope.kind=.function
 glob:X.env.globals=mainGlobals
 blt:X.env.builtins=builtinsNs
 above:X.s₀.heap.objs.size<=X.env.locals
 inj:∀ x y c,X.env.cells.lookup x=some c->X.env.cells.lookup y=some c->x=y
 has:∀ x,(X.env.kindOf x=some .cell\/X.env.kindOf x=some .free)->∃ c,X.env.cells.lookup x=some c
 cab:∀ x c,X.fn x=true->X.env.cells.lookup x=some c->X.s₀.heap.objs.size<=c
 hd:X.calm=true->X.A.handled=none
 frames:X.A.frames=some X.stack
 stk:X.stack=X.outer\/(X.stack=X.env::X.outer/\X.env.frame=some X.env.locals)
 exf:∀ b∈X.ex,b≠X.env.locals/\∀ x c,X.env.cells.lookup x=some c->c≠b
 bs:∀ b o,X.base.get? b=some o->X.s₀.heap.get? b=some o/\X.H₀ b=none
 bsz:X.base.objs.size<=X.s₀.heap.objs.size
 noex:∀ b o,X.base.get? b=some o->b∉X.ex
 exfs:∀ b∈X.ex,b∉X.fs
 funs:X.s₀.heap.FunFrames X.base X.outer
 frf:∀ b∈X.fs,X.H₀ b=none
structure Inv(X:Cx)(pins:List (Addr×Obj))(σ:List (Option V))(H:Hp)(s:Shared):Prop where
 ok:X.Ok
 os:s.os=X.s₀.os
 bare:AllBare s.gens
 base:Un X.fs X.ex X.H₀ H X.s₀.heap s.heap
 loc:∃ m,s.heap.Ns X.env.locals m/\∀ (i:Nat) (x:Str) (v:V),X.N[i]? = some x->σ[i]? = some (some v)->Vis X.env.scope x->∃ u,gR v u/\eD1 X.env s.heap m x u
 cell:∀ x c,X.env.cells.lookup x=some c->∃ v,s.heap.IsCell c v
 free:H X.env.locals=none
 freeC:∀ x c,X.env.cells.lookup x=some c->H c=none
 pin:∀ p∈X.pn++pins,s.heap.get? p.1=some p.2/\H p.1=none/\p.1≠X.env.locals/\p.1∉X.fs/\∀ v,p.2.data≠.cell v
 hok:HOk X.prog X.w H s.heap
 len:σ.length=X.N.length
section
variable{X:Cx}{pins:List (Addr×Obj)}{σ:List (Option V)}{H H':Hp}{s:Shared}{h':Heap}
def Cx.Ok.nofr(ok:X.Ok){b:Addr}{o:Obj}(e:X.base.get? b=some o):b∉X.fs:=λa=>by
 have:=(ok.funs.mem a).1;rw[e]at this;cases this
theorem Inv.bs(I:Inv X pins σ H s):∀ b o,X.base.get? b=some o->s.heap.get? b=some o/\H b=none:=λb o e=>
 ⟨I.base.keep b o (I.ok.bs b o e).1 (I.ok.bs b o e).2 (I.ok.nofr e) (I.ok.noex b o e),I.base.free b o (I.ok.bs b o e).1 (I.ok.bs b o e).2 (I.ok.noex b o e)⟩
def Inv.bk(I:Inv X pins σ H s):∀ b o,X.base.get? b=some o->s.heap.get? b=some o:=λb o e=>(I.bs b o e).1
theorem Inv.mod(I:Inv X pins σ H s):Mod X.K X.mg X.base:=I.ok.mod
def Inv.kIn(I:Inv X pins σ H s):X.K.In s.heap:=I.ok.mod.kin.keeps I.bk
theorem Inv.lt(I:Inv X pins σ H s):X.env.locals < s.heap.objs.size:=let ⟨_,hn,_⟩:=I.loc;hn.lt
def Inv.sz(I:Inv X pins σ H s):X.s₀.heap.objs.size<=s.heap.objs.size:=a8b I.ok.above (a6h I.lt)
def Inv.nofs(I:Inv X pins σ H s){a:Addr}(h:s.heap.objs.size<=a):a∉X.fs:=λb=>by
 obtain⟨_,o,c,_⟩:=I.ok.funs.mem b;exact absurd (a5d (a5b c) (a8b I.sz h)) (a6e _)
def Inv.cne(I:Inv X pins σ H s):∀ x c,X.env.cells.lookup x=some c->c≠X.env.locals:=λx c e z=>by
 obtain⟨v,o,d,hd⟩:=I.cell x c e;obtain⟨m,⟨o',es,f,a,b,_⟩,_⟩:=I.loc;rw[z,a]at d;cases d;rw[b]at hd;cases hd
theorem Inv.funs(I:Inv X pins σ H s):s.heap.FunFrames X.base X.outer:=by
 have all:∀ (l:List Env),(∀ b∈frs l,b∈X.fs)->X.s₀.heap.FunFrames X.base l->s.heap.FunFrames X.base l:=by
  intro l
  induction l with
  | nil=>intro _ _;trivial
  | cons env r g=>
    intro f h;obtain⟨i,⟨L,o,a,hn,j,hd⟩,k⟩:=h;have c:L∈X.fs:=f L (by unfold frs;rw[List.filterMap_cons,a];exact a4a);obtain⟨sl,e⟩:=I.base.slot L o j (I.ok.frf L c) c λz=>I.ok.exfs L z c;exact⟨i,⟨L,_,a,hn,e,hd⟩,g (λb d=>f b (by unfold frs;rw[List.filterMap_cons,a];exact a6a _ d)) k⟩
 exact all X.outer (λ_ d=>d) I.ok.funs
theorem Inv.stack(I:Inv X pins σ H s):s.heap.FunFrames X.base X.stack:=by
 rcases I.ok.stk with e | ⟨e,a⟩;rw[e];exact I.funs;rw[e];obtain⟨m,hn,_⟩:=I.loc;refine .cons (by rw[I.ok.kind];decide) a hn ?_ I.funs;exact Heap.get?_none_of_le (a8b I.ok.bsz I.ok.above)
def Inv.stkSub(I:Inv X pins σ H s):∀ b∈frs X.stack,b∈X.env.locals::X.fs:=λb a=>by
 rcases I.ok.stk with e | ⟨e,c⟩;rw[e]at a;exact a6a _ a;rw[e]at a;unfold frs at a;rw[List.filterMap_cons,c]at a;exact a
def Inv.stkFree(I:Inv X pins σ H s):∀ b∈frs X.stack,H b=none:=λb a=>by
 rcases a3b.mp (I.stkSub b a)with e | a;rw[e];exact I.free;obtain⟨_,o,c,_⟩:=I.ok.funs.mem a;exact I.base.free b o c (I.ok.frf b a) λz=>I.ok.exfs b z a
def Inv.step{g':Array GenState}{t':Nat}{d':Drawn}{ch:List Addr}(I:Inv X pins σ H s)
  (f:∀ b∈ch,(b∈X.ex\/X.s₀.heap.objs.size<=b)/\b≠X.env.locals/\(∀ x c,X.env.cells.lookup x=some c->c≠b)/\∀ p∈X.pn++pins,p.1≠b)
  (keep:∀ b o,b≠X.env.locals->b∉X.fs->b∉ch->s.heap.get? b=some o->H b=none->h'.get? b=some o)
  (slot:∀ b o,b≠X.env.locals->b∈X.fs->b∉ch->s.heap.get? b=some o->H b=none->∃ sl,h'.get? b=some {o with slots:=sl}) (free:∀ b o,b∉ch->s.heap.get? b=some o->H b=none->H' b=none)
  (there:∀ b o,b∉ch->s.heap.get? b=some o->∃ o',h'.get? b=some o')
  (tups:∀ b xs,H b=some (.tup xs)->H' b=some (.tup xs)) (frzs:∀ b o u,H b=some (.frz o u)->H' b=some (.frz o u)) (tbls:∀ b ps,H b=some (.tbl ps)->∃ more,H' b=some (.tbl (ps++more)))
  (ns:∀ m,s.heap.Ns X.env.locals m->h'.Ns X.env.locals m) (hok:HOk X.prog X.w H' h') (J:AllBare g') :
  Inv X pins σ H' {s with heap:=h',gens:=g',drawn:=d',toks:=t'}:=by
 have B:∀ b o,X.s₀.heap.get? b=some o->b≠X.env.locals:=λb o e=>a1d (a5d (a5b e) I.ok.above);have j:∀ b o,X.s₀.heap.get? b=some o->b∉X.ex->b∉ch:=λb o e a y=>by
  rcases(f b y).1 with z | z;exact a z;exact absurd (a5d (a5b e) z) (a6e _)
 have g:∀ x c,X.env.cells.lookup x=some c->∀ v,s.heap.IsCell c v->h'.IsCell c v:=λx c e v ⟨o,A,hd⟩=>by
  have h:c∉ch:=λz=>(f c z).2.2.1 x c e rfl;by_cases E:c∈X.fs;obtain⟨sl,q⟩:=slot c o (I.cne x c e) E h A (I.freeC x c e);exact⟨_,q,hd⟩;exact⟨o,keep c o (I.cne x c e) E h A (I.freeC x c e),hd⟩
 refine⟨I.ok,I.os,J,⟨λb o e n y a=>?_,λb o e n y a=>?_,λb o e n a=>?_,λb o e a=>?_,λb xs e=>tups b xs (I.base.tups b xs e),λb o xs e=>frzs b o xs (I.base.frzs b o xs e),λb ps e=>?_⟩,?_,λx c e=>?_,?_,λx c e=>?_,λp F=>?_,hok,I.len⟩;exact keep b o (B b o e) y (j b o e a) (I.base.keep b o e n y a) (I.base.free b o e n a);obtain⟨sl,t⟩:=I.base.slot b o e n y a;obtain⟨D,C⟩:=slot b _ (B b o e) y (j b o e a) t (I.base.free b o e n a);exact⟨D,C⟩;obtain⟨o',t⟩:=I.base.there b o e a;exact free b o' (j b o e a) t (I.base.free b o e n a);obtain⟨o',t⟩:=I.base.there b o e a;exact there b o' (j b o e a) t;obtain⟨K,t⟩:=I.base.tbls b ps e;obtain⟨L,C⟩:=tbls b _ t;exact⟨K++L,by rw[C,Array.append_assoc]⟩;obtain⟨m,hn,M⟩:=I.loc;refine⟨m,ns m hn,λi x v t C N=>?_⟩;obtain⟨u,r,l⟩:=M i x v t C N;refine⟨u,r,?_⟩;rcases l with l | ⟨k,c,e,z⟩;exact .inl l;exact .inr ⟨k,c,e,g x c e _ z⟩;obtain⟨v,z⟩:=I.cell x c e;exact⟨v,g x c e v z⟩;obtain⟨m,⟨o,_,_,A,_⟩,_⟩:=I.loc;exact free _ o (λz=>(f _ z).2.1 rfl) A I.free;obtain⟨v,o,A,hd⟩:=I.cell x c e;exact free c o (λz=>(f c z).2.2.1 x c e rfl) A (I.freeC x c e);obtain⟨e,n,ne,G,d⟩:=I.pin p F;have h:p.1∉ch:=λz=>(f p.1 z).2.2.2 p F rfl;exact⟨keep p.1 p.2 ne G h e n,free p.1 p.2 h e n,ne,G,d⟩
def Inv.un{t':Nat}(I:Inv X pins σ H s)(u:Un X.fs [] H H' s.heap h')(hok:HOk X.prog X.w H' h'):Inv X pins σ H' {s with heap:=h',toks:=t'}:=by
 obtain⟨m,⟨o,es,j,g,r⟩,_⟩:=id I.loc;obtain⟨sl,h⟩:=u.any g I.free (by simp);exact I.step (g':=s.gens) (d':=s.drawn) (ch:=[]) (λ_ z=>nomatch z) (λb o _ c _ e n=>u.keep b o e n c (by simp)) (λb o _ c _ e n=>u.slot b o e n c (by simp)) (λb o _ e n=>u.free b o e n (by simp)) (λb o _ e=>u.there b o e (by simp)) u.tups u.frzs u.tbls (λk hm=>by
  obtain⟨o',d,f,a,i⟩:=hm;rw[g]at a;cases a;exact⟨_,d,f,h,i⟩) hok I.bare
def Inv.call{g':Array GenState}{t':Nat}{d':Drawn}{ch:List Addr}(I:Inv X pins σ H s)(u:Un (frs X.stack) ch H H' s.heap h')(hok:HOk X.prog X.w H' h')(k:AllBare g')
  (d:∀ b∈ch,(b∈X.ex\/X.s₀.heap.objs.size<=b)/\b≠X.env.locals/\(∀ x c,X.env.cells.lookup x=some c->c≠b)/\∀ p∈X.pn++pins,p.1≠b) :
  Inv X pins σ H' {s with heap:=h',gens:=g',drawn:=d',toks:=t'}:=by
 obtain⟨m,⟨o,es,t,j,r⟩,_⟩:=id I.loc;obtain⟨sl,g⟩:=u.any j I.free λz=>(d _ z).2.1 rfl;exact I.step (ch:=ch) d (λb o g l a e n=>u.keep b o e n (λz=>(a3b.mp (I.stkSub b z)).elim g l) a) (λb o _ _ a e n=>u.any e n a) (λb o a e n=>u.free b o e n a) (λb o a e=>u.there b o e a) u.tups u.frzs u.tbls (λv hm=>by
  obtain⟨o',h,i,f,q⟩:=hm;rw[j]at f;cases f;exact⟨_,h,i,g,q⟩) hok k
def Inv.turned{t':Nat}{it:Addr}(I:Inv X pins σ H s)(k:∀ b o,b≠it->s.heap.get? b=some o->h'.get? b=some o)(hn:H it=none)(f:it≠X.env.locals)
  (g:it∈X.ex\/X.s₀.heap.objs.size<=it) (h:∀ x c,X.env.cells.lookup x=some c->c≠it) (i:∀ p∈X.pn++pins,p.1≠it):Inv X pins σ H {s with heap:=h',toks:=t'}:=by
 have d:∀ b u,H b=some u->b≠it:=λb u e z=>by rw[z,hn]at e;cases e
 refine I.step (g':=s.gens) (d':=s.drawn) (ch:=[it]) (λb j=>?_) (λb o _ _ a e _=>k b o (λz=>a (by simp[z])) e) (λb o _ _ a e _=>⟨o.slots,k b o (λz=>a (by simp[z])) e⟩) (λ_ _ _ _ n=>n)
  (λb o a e=>⟨o,k b o (λz=>a (by simp[z])) e⟩) (λ_ _ e=>e) (λ_ _ _ e=>e) (λb ps e=>⟨#[],by rw[e];simp⟩) (λm hm=>?_) (λb u e=>?_) I.bare
 ·have e:b=it:=by simpa using j
  subst e;exact⟨g,f,h,i⟩
 ·obtain⟨o,es,l,t,r⟩:=hm;exact⟨o,es,l,k _ o (a4e f) t,r⟩
 ·refine(I.hok b u e).stay (λc v a q=>k c v ?_ q) (λ_ q=>q) λ_ _ q=>q;rcases a with z | z;rw[z];exact d b u e;exact d c _ z
def Inv.tok(I:Inv X pins σ H s)(t:Nat):Inv X pins σ H {s with toks:=t}:=I.un (h':=s.heap) (t':=t) Un.refl I.hok
theorem Inv.kept{t':Nat}(I:Inv X pins σ H s)(k:∀ b u,s.heap.get? b=some u->h'.get? b=some u):Inv X pins σ H {s with heap:=h',toks:=t'}:=I.un (Un.kept k) (I.hok.kept k)
theorem Inv.laid{a:Addr}{o:HO}{t':Nat}(I:Inv X pins σ H s)(k:∀ b u,s.heap.get? b=some u->h'.get? b=some u)(c:s.heap.objs.size<=a)(d:eV X.prog X.w (upd H a o) h' a o) :
  Inv X pins σ (upd H a o) {s with heap:=h',toks:=t'}:=I.un (Un.laid k c (I.hok.fresh c)) (I.hok.laid k c d)
theorem Inv.write{x e:Addr}{o:HO}{t':Nat}(I:Inv X pins σ H s)(mu:Mut (H x))(d:e=x\/H e=some (.own x))(k:∀ b u,b≠e->s.heap.get? b=some u->h'.get? b=some u)(a:∃ u,h'.get? e=some u)
  (c:eV X.prog X.w (upd H x o) h' x o):Inv X pins σ (upd H x o) {s with heap:=h',toks:=t'}:=I.un (Un.write mu d k a) (I.hok.write mu d k a c)
def Inv.weak{σ':List (Option V)}(I:Inv X pins σ H s)(b:σ'.length=σ.length)(w:∀ (i:Nat) v,σ'[i]? = some (some v)->σ[i]? = some (some v)):Inv X pins σ' H s:=
 ⟨I.ok,I.os,I.bare,I.base,let ⟨m,hn,a⟩:=I.loc;⟨m,hn,λi x v c d e=>a i x v c (w i v d) e⟩,I.cell,I.free,I.freeC,I.pin,I.hok,b.trans I.len⟩
def Inv.pins_of{a:List (Addr×Obj)}(I:Inv X pins σ H s)(h:∀ p∈a,s.heap.get? p.1=some p.2/\H p.1=none/\p.1≠X.env.locals/\p.1∉X.fs/\∀ v,p.2.data≠.cell v):Inv X a σ H s:=
 ⟨I.ok,I.os,I.bare,I.base,I.loc,I.cell,I.free,I.freeC,λp b=>(a8a.mp b).elim (λz=>I.pin p (a2d _ z)) (h p),I.hok,I.len⟩
def bA2{N:List Str}(c:N.Nodup){i j:Nat}{x:Str}(a:N[i]? = some x)(b:N[j]? = some x):i=j:=by
 obtain⟨f,d⟩:=a2a.mp a;obtain⟨g,e⟩:=a2a.mp b;exact(List.getElem_inj c).mp (d.trans e.symm)
def aK9{M:Model}{A:Around}{E:Value->Shared->Prop}{i:Nat}{x:Str}{v:V}{u:Value}{Q:Unit->Shared->Prop}(I:Inv X pins σ H s)(hN:X.N.Nodup)(hi:X.N[i]? = some x)(B:Loc X.env.scope x)(r:gR v u)
  (h:∀ s',Inv X pins (σ.set i (some v)) H s'->(∃ a,Heap.SameBut a s.heap s'.heap/\(a=X.env.locals\/X.env.cells.lookup x=some a))->Q () s') (hf:X.fn x=true\/X.env.scope.names.lookup x=some .local:=by first | exact .inl rfl | exact .inr rfl | assumption):wpAny M A (storeName X.env x u) Q E s:=by
 obtain⟨m,hn,hl⟩:=id I.loc;have O:(X.env.scope.kind==.class||(X.env.scope.kind==.module&&X.env.locals != X.env.globals))=false:=by rw[I.ok.kind];rfl
 have F:i < σ.length:=by rw[I.len];exact(a2a.mp hi).1
 have cne:=I.cne;have g:∀ {a:Addr} {h':Heap},(∃ o,s.heap.get? a=some o/\H a=none)->Heap.SameBut a s.heap h'->HOk X.prog X.w H h':=λ{a h'} ha f b ob e=>by
  obtain⟨_,_,C⟩:=ha;refine(I.hok b ob e).stay (λc U t q=>(f.2 c ?_).trans q) (λ_ q=>q) λ_ _ q=>q;rintro rfl;rcases t with rfl | t;rw[C]at e;cases e;rw[C]at t;cases t
 rcases B with G | G
 ·refine wpAny_storeName_local G hn (λh' Y f=>?_) O;obtain⟨oL,_,_,Z,_⟩:=id hn;refine h _ ⟨I.ok,I.os,I.bare,⟨λb o e n J B=>?_,λb o e n J B=>?_,I.base.free,λb o e B=>?_,I.base.tups,I.base.frzs,I.base.tbls⟩,⟨_,Y,λj y v' l D e3=>?_⟩,λy c e=>?_,I.free,I.freeC,λp hp=>?_,g ⟨oL,Z,I.free⟩ f,by simpa using I.len⟩ ⟨_,f,.inl rfl⟩;exact(f.2 b (a1d (a5d (a5b e) I.ok.above))).trans (I.base.keep b o e n J B);obtain⟨sl,l⟩:=I.base.slot b o e n J B;exact⟨sl,(f.2 b (a1d (a5d (a5b e) I.ok.above))).trans l⟩;obtain⟨o',l⟩:=I.base.there b o e B;exact⟨o',(f.2 b (a1d (a5d (a5b e) I.ok.above))).trans l⟩;by_cases K:j=i;subst K;rw[hi]at l;cases l;rw[a8c F]at D;cases D;exact⟨u,r,.inl ⟨G,by simp⟩⟩;rw[a1b (a4e K)]at D;obtain⟨u',r',q⟩:=hl j y v' l D e3;refine⟨u',r',?_⟩;rcases q with⟨k,e⟩ | ⟨k,c,e,z⟩;refine .inl ⟨k,?_⟩;have:y≠x:=λe=>K (bA2 hN l (e ▸ hi));simp[this,e];exact .inr ⟨k,c,e,z.sameBut f (cne y c e)⟩;obtain⟨U,z⟩:=I.cell y c e;exact⟨U,z.sameBut f (cne y c e)⟩;obtain⟨e,n,ne,nf,d⟩:=I.pin p hp;exact⟨(f.2 p.1 ne).trans e,n,ne,nf,d⟩
 ·have L:X.fn x=true:=by
   rcases hf with z | z;exact z;rw[z]at G;cases G
  obtain⟨c,t⟩:=I.ok.has x (.inl G);obtain⟨U,z⟩:=I.cell x c t;refine wpAny_storeName_cell I.ok.kind G t z (λh' P f=>?_);obtain⟨oc,R,S⟩:=id z;refine h {s with heap:=h'} ⟨I.ok,I.os,I.bare,⟨λb o e n J B=>?_,λb o e n J B=>?_,I.base.free,λb o e B=>?_,I.base.tups,I.base.frzs,I.base.tbls⟩,⟨m,hn.sameBut f (a4e (cne x c t)),λj y v' l D e3=>?_⟩,λy W e=>?_,I.free,I.freeC,λp hp=>?_,g ⟨oc,R,I.freeC x c t⟩ f,by simpa using I.len⟩ ⟨c,f,.inr t⟩;exact(f.2 b (a1d (a5d (a5b e) (I.ok.cab x c L t)))).trans (I.base.keep b o e n J B);obtain⟨sl,l⟩:=I.base.slot b o e n J B;exact⟨sl,(f.2 b (a1d (a5d (a5b e) (I.ok.cab x c L t)))).trans l⟩;obtain⟨o',l⟩:=I.base.there b o e B;exact⟨o',(f.2 b (a1d (a5d (a5b e) (I.ok.cab x c L t)))).trans l⟩;by_cases K:j=i;subst K;rw[hi]at l;cases l;rw[a8c F]at D;cases D;exact⟨u,r,.inr ⟨.inl G,c,t,P⟩⟩;rw[a1b (a4e K)]at D;obtain⟨u',r',q⟩:=hl j y v' l D e3;refine⟨u',r',?_⟩;rcases q with q | ⟨k,W,e,z'⟩;exact .inl q;refine .inr ⟨k,W,e,z'.sameBut f ?_⟩;rintro rfl;exact K (bA2 hN l (I.ok.inj _ _ _ e t ▸ hi));by_cases T:W=c;subst T;exact⟨_,P⟩;obtain⟨w2,z2⟩:=I.cell y W e;exact⟨w2,z2.sameBut f T⟩;obtain⟨e,n,ne,nf,d⟩:=I.pin p hp;refine⟨(f.2 p.1 ?_).trans e,n,ne,nf,d⟩;intro q;rw[q,R]at e;have q':oc=p.2:=a0b e;exact d U (by rw[← q'];exact S)
def tH{M:Model}{A:Around}{E:Value->Shared->Prop}{i:Nat}{x:Str}{v:V}{u:Value}{Q:Unit->Shared->Prop}(I:Inv X pins σ H s)(a:X.N.Nodup)(hi:X.N[i]? = some x)(b:Loc X.env.scope x)(r:gR v u)
  (h:∀ s',Inv X pins (σ.set i (some v)) H s'->Q () s') (c:X.fn x=true\/X.env.scope.names.lookup x=some .local:=by first | exact .inl rfl | exact .inr rfl | assumption):wpAny M A (storeName X.env x u) Q E s:=
 aK9 I a hi b r (λs' d _=>h s' d) c
def Inv.call'{s':Shared}{ch:List Addr}(I:Inv X pins σ H s)(d:s'.os=s.os)(u:Un (frs X.stack) ch H H' s.heap s'.heap)(hok:HOk X.prog X.w H' s'.heap)(f:AllBare s'.gens)
  (a:∀ b∈ch,(b∈X.ex\/X.s₀.heap.objs.size<=b)/\b≠X.env.locals/\(∀ x c,X.env.cells.lookup x=some c->c≠b)/\∀ p∈X.pn++pins,p.1≠b):Inv X pins σ H' s':=by
 obtain⟨h',g',d',t',o'⟩:=s';have e:o'=s.os:=d;subst e;exact I.call (g':=g') (t':=t') (d':=d') u hok f a
end
abbrev XK:=Value->Option Addr->Hp->Prop
abbrev St:=List (Option V)
abbrev VK:=V->Hp->Prop
abbrev TE:=St->Hp->VK->Prop
abbrev TT:=St->Hp->(Bool->Hp->Prop)->Prop
abbrev TA:=St->Hp->(List V->Hp->Prop)->Prop
structure Ends where
 nx:St->Hp->Prop
 rt:VK
 bk:St->Hp->Prop:=λ_ _=>False
 ct:St->Hp->Prop:=λ_ _=>False
abbrev TS:=Ends->St->Hp->Prop
def EP(X:Cx)(pins:List (Addr×Obj))(σ:St)(Q:VK)(u:Value)(s':Shared):Prop:=∃ v H',Inv X pins σ H' s'/\gR v u/\Q v H'
def TP(X:Cx)(pins:List (Addr×Obj))(σ:St)(Q:Bool->Hp->Prop)(b:Bool)(s':Shared):Prop:=∃ H',Inv X pins σ H' s'/\Q b H'
def AP(X:Cx)(pins:List (Addr×Obj))(σ:St)(Q:List V->Hp->Prop)(us:List Value)(s':Shared):Prop:=∃ vs H',Inv X pins σ H' s'/\dI vs us/\Q vs H'
def SP(X:Cx)(pins:List (Addr×Obj))(D:Ends)(f:Flow)(s':Shared):Prop:=
 match f with
 | .next=>∃ σ' H',Inv X pins σ' H' s'/\D.nx σ' H'
 | .brk=>∃ σ' H',Inv X pins σ' H' s'/\D.bk σ' H'
 | .cont=>∃ σ' H',Inv X pins σ' H' s'/\D.ct σ' H'
 | .ret u=>∃ v σ' H',Inv X pins σ' H' s'/\gR v u/\D.rt v H'
def PE(X:Cx)(e:Expr)(t:TE):Prop:=
 ∀ (pins:List (Addr×Obj)) (s:Shared) (σ:St) (H:Hp) (Q:VK),Inv X pins σ H s->t σ H Q->wpAny (model X.prog X.w) X.A (eval e X.env) (EP X pins σ Q) X.xe s
def PT(X:Cx)(e:Expr)(t:TT):Prop:=
 ∀ (pins:List (Addr×Obj)) (s:Shared) (σ:St) (H:Hp) (Q:Bool->Hp->Prop),Inv X pins σ H s->t σ H Q->wpAny (model X.prog X.w) X.A (isTrue e X.env (eval e X.env)) (TP X pins σ Q) X.xe s
def PW(X:Cx)(e:Expr)(t:TT):Prop:=
 ∀ (a:Sem Value) (pins:List (Addr×Obj)) (s:Shared) (σ:St) (H:Hp) (Q:Bool->Hp->Prop),Inv X pins σ H s->t σ H Q->wpAny (model X.prog X.w) X.A (isTrue e X.env a) (TP X pins σ Q) X.xe s
def PW.pt{X:Cx}{e:Expr}{t:TT}(h:PW X e t):PT X e t:=h _
def PA(X:Cx)(es:List Expr)(t:TA):Prop:=
 ∀ (a:Pos) (pins:List (Addr×Obj)) (s:Shared) (σ:St) (H:Hp) (Q:List V->Hp->Prop),Inv X pins σ H s->t σ H Q->wpAny (model X.prog X.w) X.A (spliced (backTo a (starEach es X.env))) (AP X pins σ Q) X.xe s
def PS(X:Cx)(st:Stmt)(t:TS):Prop:=
 ∀ (pins:List (Addr×Obj)) (s:Shared) (σ:St) (H:Hp) (D:Ends),Inv X pins σ H s->t D σ H->wpAny (model X.prog X.w) X.A (exec st X.env) (SP X pins D) X.xe s
def PSs(X:Cx)(st:List Stmt)(t:TS):Prop:=
 ∀ (pins:List (Addr×Obj)) (s:Shared) (σ:St) (H:Hp) (D:Ends),Inv X pins σ H s->t D σ H->wpAny (model X.prog X.w) X.A (execs st X.env) (SP X pins D) X.xe s
def thn{α:Type}{t:Sem α}{Q b:α->Shared->Prop}{M:Model}{A:Around}{E:Value->Shared->Prop}{s:Shared}(h:wpAny M A t Q E s)(c:∀ a s,Q a s->b a s):wpAny M A t b E s:=a4H h c λ_ _ x=>x
section
variable{X:Cx}
def cB5(i:Nat):TE:=λσ H Q=>∃ v,σ[i]? = some (some v)/\Q v H
def tC(v:V):TE:=λ_ H Q=>Q v H
def dF3{i:Nat}{x:Str}{pos:Pos}(g:X.N[i]? = some x)(j:Vis X.env.scope x)(hd:(x==("__debug__":Str))=false:=by decide)(d:(x==("__classdict__":Str))=false:=by decide):PE X (.Name x pos) (cB5 i):=by
 intro pins s σ H Q I h;obtain⟨v,e,h⟩:=h;obtain⟨m,hn,k⟩:=I.loc;obtain⟨u,r,l⟩:=k i x v g e j;have fin:EP X pins σ Q u s:=⟨v,H,I,r,h⟩;rcases l with⟨b,hm⟩ | ⟨b,c,f,a⟩;exact wpAny_Name (wpAny_loadName_local I.ok.kind b hn hm fin) hd;rcases b with b | b;exact wpAny_Name (wpAny_loadName_cell I.ok.kind b f a fin) hd;exact wpAny_Name (wpAny_loadName_free I.ok.kind b f a fin d) hd
def iD{i j pos}:PE X (.Constant (.int i) j pos) (tC (.int i)):=λ_ _ _ H _ I h=>wpAny_Constant_int ⟨.int i,H,I.tok _,⟨_,rfl⟩,h⟩
def dV6{b j pos}:PE X (.Constant (.bool b) j pos) (tC (.bl b)):=λ_ _ _ H _ I h=>Constant_bool ⟨.bl b,H,I,rfl,h⟩
def dF4{j pos}:PE X (.Constant .none j pos) (tC .non):=λ_ _ _ H _ I h=>Constant_none ⟨.non,H,I,rfl,h⟩
def cL0{x j pos}:PE X (.Constant (.str x) j pos) (tC (.str x)):=λ_ _ _ H _ I h=>Calls.Constant_str ⟨.str x,H,I.tok _,⟨_,rfl⟩,h⟩
def Gl(X:Cx)(x:Str):Prop:=X.env.kindOf x=some .globalImplicit
def bM2{E:Value->Shared->Prop}{pins:List (Addr×Obj)}{s:Shared}{σ:St}{H:Hp}{x:Str}{u:Value}{pos:Pos}{Q:Value->Shared->Prop}(I:Inv X pins σ H s)(a:Gl X x)(hm:X.mg x=some u)(h:Q u s)
  (hd:(x==("__debug__":Str))=false:=by decide):wpAny (model X.prog X.w) X.A (eval (.Name x pos) X.env) Q E s:=
 Calls.Name_function_global I.ok.kind a (Calls.loadGlobal_global (by rw[I.ok.glob];exact I.mod.glob.keeps I.bk) hm h) hd
def nR{E:Value->Shared->Prop}{pins:List (Addr×Obj)}{s:Shared}{σ:St}{H:Hp}{x:Str}{u:Value}{pos:Pos}{Q:Value->Shared->Prop}(I:Inv X pins σ H s)(a:Gl X x)(hm:X.mg x=none)(b:bootBuiltins x=some u)(h:Q u s)
  (hn:x≠"__name__":=by decide) (hd:(x==("__debug__":Str))=false:=by decide):wpAny (model X.prog X.w) X.A (eval (.Name x pos) X.env) Q E s:=by
 obtain⟨mb,c,d⟩:=I.mod.blt;exact Calls.Name_function_global I.ok.kind a (Calls.loadGlobal_builtin (by rw[I.ok.glob];exact I.mod.glob.keeps I.bk) hm (by rw[I.ok.blt];exact c.keeps I.bk) ((d x hn).trans b) h) hd
def cR3{x:Str}{v:V}{u:Value}{pos:Pos}(a:Gl X x)(hm:X.mg x=some u)(r:gR v u)(hd:(x==("__debug__":Str))=false:=by decide):PE X (.Name x pos) (tC v):=
 λ_ _ _ H _ I h=>bM2 I a hm ⟨v,H,I,r,h⟩ hd
def cR4{x:Str}{v:V}{u:Value}{pos:Pos}(a:Gl X x)(hm:X.mg x=none)(b:bootBuiltins x=some u)(r:gR v u)(hn:x≠"__name__":=by decide)(hd:(x==("__debug__":Str))=false:=by decide):PE X (.Name x pos) (tC v):=
 λ_ _ _ H _ I h=>nR I a hm b ⟨v,H,I,r,h⟩ hn hd
variable{a b:Expr}{ta tb:TE}{pos:Pos}
def tB(t:TE):TT:=λσ H Q=>t σ H λx a=>∃ c,x=.bl c/\Q c a
def dF5{e:Expr}{t:TE}(h:PE X e t)(b:∀ a,isTrue e X.env a=(do let v ← a;standAt e.pos;holding [v] (truthy v)):=by intro _;rfl):PT X e (tB t):=by
 intro pins s σ H Q I c;refine isTrue_plain (thn (h pins s σ H _ I c) λv s1 Z0=>?_) (b _);obtain⟨x,f,g,i,j⟩:=Z0;obtain⟨d,rfl,q⟩:=j;cases i;exact a4J ⟨f,g,q⟩
variable{tA tB':TT}{mL:List Expr}
def eA6(t u:TT):TT:=λσ H Q=>t σ H λc a=>if c=true then u σ a Q else Q false a
def tOr(t u:TT):TT:=λσ H Q=>t σ H λc a=>if c=true then Q true a else u σ a Q
def eA7(t:TT):TT:=λσ H Q=>t σ H λc a=>Q (!c) a
def aT6(ha:PT X a tA):PW X (.BoolOp .And [a] pos) tA:=by
 intro b pins s σ H Q I h;refine isTrue_and (thn (ha pins s σ H Q I h) λc s1 e=>?_);cases c with
 | true=>exact isTrue_and_nil e
 | false=>exact e
def dF6(ha:PT X a tA):PW X (.BoolOp .Or [a] pos) tA:=by
 intro b pins s σ H Q I h;refine isTrue_or (thn (ha pins s σ H Q I h) λc s1 e=>?_);cases c with
 | false=>exact isTrue_or_nil e
 | true=>exact e
def bA3(ha:PT X a tA)(g:PW X (.BoolOp .And (b::mL) pos) tB'):PW X (.BoolOp .And (a::b::mL) pos) (eA6 tA tB'):=by
 intro i pins s σ H Q I h;refine isTrue_and (thn (ha pins s σ H _ I h) λc s1 Z0=>?_);obtain⟨d,e,f⟩:=Z0;cases c with
 | true=>exact g i pins s1 σ d Q e f
 | false=>exact⟨d,e,f⟩
def dV7(ha:PT X a tA)(g:PW X (.BoolOp .Or (b::mL) pos) tB'):PW X (.BoolOp .Or (a::b::mL) pos) (tOr tA tB'):=by
 intro i pins s σ H Q I h;refine isTrue_or (thn (ha pins s σ H _ I h) λc s1 Z0=>?_);obtain⟨d,e,f⟩:=Z0;cases c with
 | true=>exact⟨d,e,f⟩
 | false=>exact g i pins s1 σ d Q e f
def dF7(ha:PT X a tA):PT X (.UnaryOp .Not a pos) (eA7 tA):=by
 intro pins s σ H Q I h;exact isTrue_not (ha pins s σ H (λc b=>Q (!c) b) I h)
def dF8(ta tb:TE):TE:=λσ H Q=>ta σ H λx a=>∃ c,x=.bl c/\if c=true then tb σ a Q else Q (.bl false) a
def eA8(ta tb:TE):TE:=λσ H Q=>ta σ H λx a=>∃ c,x=.bl c/\if c=true then Q (.bl true) a else tb σ a Q
def dV8(ta:TE):TE:=λσ H Q=>ta σ H λx a=>∃ c,x=.bl c/\Q (.bl (!c)) a
def dF9{op}{t:TE}(h:PE X a t):PE X (.BoolOp op [a] pos) t:=λpins s σ H Q I b=>BoolOp_one (h pins s σ H Q I b)
def dG0(ha:PE X a ta)(g:PE X (.BoolOp .And (b::mL) pos) tb):PE X (.BoolOp .And (a::b::mL) pos) (dF8 ta tb):=by
 intro pins s σ H Q I h;refine BoolOp_and (thn (ha pins s σ H _ I h) λv s1 Z0=>?_);obtain⟨x,e,f,i,d⟩:=Z0;obtain⟨c,rfl,d⟩:=d;cases i;refine a4J ?_;cases c with
 | true=>exact g pins s1 σ e Q f d
 | false=>exact⟨.bl false,e,f,rfl,d⟩
def dV9(ha:PE X a ta)(g:PE X (.BoolOp .Or (b::mL) pos) tb):PE X (.BoolOp .Or (a::b::mL) pos) (eA8 ta tb):=by
 intro pins s σ H Q I h;refine BoolOp_or (thn (ha pins s σ H _ I h) λv s1 Z0=>?_);obtain⟨x,e,f,i,d⟩:=Z0;obtain⟨c,rfl,d⟩:=d;cases i;refine a4J ?_;cases c with
 | false=>exact g pins s1 σ e Q f d
 | true=>exact⟨.bl true,e,f,rfl,d⟩
def tIf(t:TT)(ta tb:TE):TE:=λσ H Q=>t σ H λc a=>if c=true then ta σ a Q else tb σ a Q
end
def SqL(K:W.Frag)(H:Hp)(a:Addr)(xs:List V):Prop:=
 Rd H a (.lst xs) \/
  ∃ (o:Obj) (its:Array Value) (n:Nat),K.lookup a=some o/\o.cls=.type "list"/\o.dict=none/\o.data=.seq its n/\its.size<=sizeLine/\dI xs its.toList
def SqT(K:W.Frag)(H:Hp)(a:Addr)(xs:List V):Prop:=
 Rd H a (.tup xs) \/
  ∃ (o:Obj) (its:Array Value) (n:Nat),K.lookup a=some o/\o.cls=.type "tuple"/\o.data=.seq its n/\its.size<=sizeLine/\dI xs its.toList
noncomputable def eD2:Value->Option V
 | .none=>some .non
 | .bool b=>some (.bl b)
 | .int i _=>some (.int i)
 | .str x _=>some (.str x)
 | .bytes b _=>some (.byt b)
 | .float b _=>some (.flt b)
 | .ref a=>some (.ref a)
 | .type n=>some (.ty n)
 | _=>none
def gR.abs{x:V}{u:Value}(r:gR x u):eD2 u=some x:=by
 cases x with
 | non=>cases r;rfl
 | bl _=>cases r;rfl
 | int _=>obtain⟨t,rfl⟩:=r;rfl
 | str _=>obtain⟨t,rfl⟩:=r;rfl
 | byt _=>obtain⟨t,rfl⟩:=r;rfl
 | flt _=>obtain⟨t,rfl⟩:=r;rfl
 | ref _=>cases r;rfl
 | ty _=>cases r;rfl
def gR.inj{x y:V}{u:Value}(r:gR x u)(q:gR y u):x=y:=a0b (r.abs.symm.trans q.abs)
theorem dI.inj:∀ {xs ys:List V} {us:List Value},dI xs us->dI ys us->xs=ys
 | _,_,_,.nil,.nil=>rfl
 | _,_,_,.cons r t,.cons a b=>by rw[r.inj a,dI.inj t b]
section
variable{X:Cx}{pins:List (Addr×Obj)}{σ:St}{H:Hp}{s:Shared}{a:Addr}{xs ys:List V}
def SqL.of{K:W.Frag}(h:H a=some (.lst xs)):SqL K H a xs:=.inl (.inl h)
def SqT.of{K:W.Frag}(h:H a=some (.tup xs)):SqT K H a xs:=.inl (.inl h)
def Inv.list(I:Inv X pins σ H s)(h:SqL X.K H a xs):∃ b:List Value,dI xs b/\PlainL s.heap a b.toArray/\xs.length<=sizeLine:=by
 rcases h with h | ⟨o,b,n,c,d,hd,f,g,r⟩;obtain⟨z,b,n,r,e⟩:=h.ok I.hok;exact⟨b,r,⟨_,n,e,rfl,rfl,rfl⟩,z⟩;refine⟨b.toList,r,⟨o,n,I.kIn a o c,d,hd,by simpa using f⟩,?_⟩;have e:=r.length;simp only[Array.length_toList]at e;lia
def Inv.tuple(I:Inv X pins σ H s)(h:SqT X.K H a xs):∃ b:List Value,dI xs b/\IsTup s.heap a b.toArray/\xs.length<=sizeLine:=by
 rcases h with h | ⟨o,b,n,c,d,f,g,r⟩;obtain⟨z,b,r,p,_⟩:=h.ok I.hok;exact⟨b,r,p,z⟩;refine⟨b.toList,r,⟨o,I.kIn a o c,d,n,by simpa using f⟩,?_⟩;have e:=r.length;simp only[Array.length_toList]at e;lia
def Inv.list_inj(I:Inv X pins σ H s)(h:SqL X.K H a xs)(h':SqL X.K H a ys):xs=ys:=by
 obtain⟨c,r,⟨o,n,e,_,_,d⟩,_⟩:=I.list h;obtain⟨b,g,⟨o',j,f,_,_,d'⟩,_⟩:=I.list h';rw[e]at f;cases f;rw[d]at d';injection d' with i _
 have:c=b:=by simpa using a4F Array.toList i
 subst this;exact r.inj g
def Inv.tuple_inj(I:Inv X pins σ H s)(h:SqT X.K H a xs)(h':SqT X.K H a ys):xs=ys:=by
 obtain⟨c,r,⟨o,e,_,n,d⟩,_⟩:=I.tuple h;obtain⟨b,g,⟨o',f,_,j,d'⟩,_⟩:=I.tuple h';rw[e]at f;cases f;rw[d]at d';injection d' with i _
 have:c=b:=by simpa using a4F Array.toList i
 subst this;exact r.inj g
end
noncomputable abbrev Cx.wish(X:Cx)(E:Value->Shared->Prop):Cx:={X with xe:=E}
noncomputable abbrev Cx.nox(X:Cx):Cx:=X.wish λ_ _=>False
theorem Cx.Ok.wish{X:Cx}(ok:X.Ok)(E:Value->Shared->Prop):(X.wish E).Ok:=
 ⟨ok.mod,ok.kind,ok.glob,ok.blt,ok.above,ok.inj,ok.has,ok.cab,ok.hd,ok.frames,ok.stk,ok.exf,ok.bs,ok.bsz,ok.noex,ok.exfs,ok.funs,ok.frf⟩
def Cx.Ok.unwish{X:Cx}{E:Value->Shared->Prop}(ok:(X.wish E).Ok):X.Ok:=
 ⟨ok.mod,ok.kind,ok.glob,ok.blt,ok.above,ok.inj,ok.has,ok.cab,ok.hd,ok.frames,ok.stk,ok.exf,ok.bs,ok.bsz,ok.noex,ok.exfs,ok.funs,ok.frf⟩
section
variable{X:Cx}{pins:List (Addr×Obj)}{σ:St}{H:Hp}{s:Shared}{E:Value->Shared->Prop}
theorem Inv.wish(I:Inv X pins σ H s)(E:Value->Shared->Prop):Inv (X.wish E) pins σ H s:=⟨I.ok.wish E,I.os,I.bare,I.base,I.loc,I.cell,I.free,I.freeC,I.pin,I.hok,I.len⟩
theorem Inv.unwish(I:Inv (X.wish E) pins σ H s):Inv X pins σ H s:=⟨I.ok.unwish,I.os,I.bare,I.base,I.loc,I.cell,I.free,I.freeC,I.pin,I.hok,I.len⟩
theorem SP.unwish{D:Ends}{f:Flow}{s':Shared}(h:SP (X.wish E) pins D f s'):SP X pins D f s':=by
 cases f with
 | next=>obtain⟨σ',H',I,q⟩:=h;exact⟨σ',H',I.unwish,q⟩
 | brk=>obtain⟨σ',H',I,q⟩:=h;exact⟨σ',H',I.unwish,q⟩
 | cont=>obtain⟨σ',H',I,q⟩:=h;exact⟨σ',H',I.unwish,q⟩
 | ret u=>obtain⟨v,σ',H',I,r,q⟩:=h;exact⟨v,σ',H',I.unwish,r,q⟩
theorem PSs.nox{st:List Stmt}{t:TS}(h:PSs X.nox st t):PSs X st t:=λpins s σ H D I a=>
 a4H (h pins s σ H D (I.wish _) a) (λ_ _ q=>q.unwish) λ_ _ z=>False.elim z
end
section
variable{X:Cx}{st:Stmt}{mL:List Stmt}{t u:TS}{e:Expr}{te:TE}{pos:Pos}
def dG1:TS:=λD σ H=>D.nx σ H
def dU1(t u:TS):TS:=λD σ H=>t {D with nx:=u D} σ H
def tM:PSs X [] dG1:=λ_ _ σ H _ I h=>wpAny_execs_nil ⟨σ,H,I,h⟩
def jB(a:PS X st t)(b:PSs X mL u):PSs X (st::mL) (dU1 t u):=by
 intro pins s σ H D I h;refine wpAny_execs_cons (thn (a pins s σ H {D with nx:=u D} I h) λf s1 q=>?_);cases f with
 | next=>
   obtain⟨σ',H',c,q⟩:=q;exact b pins s1 σ' H' D c q
 | ret v=>exact q
 | brk=>exact q
 | cont=>exact q
def mP(a:PS X st t):PSs X [st] t:=by
 intro pins s σ H D I h;refine wpAny_execs_cons (thn (a pins s σ H D I h) λf s1 q=>?_);cases f with
 | next=>exact wpAny_execs_nil q
 | ret v=>exact q
 | brk=>exact q
 | cont=>exact q
def Inv.quiet{pins:List (Addr×Obj)}{σ:St}{H:Hp}{s:Shared}(I:Inv X pins σ H s):interactive X.env=false:=by simp[interactive,I.ok.kind]
def dG2(te:TE):TS:=λD σ H=>te σ H λ_ a=>D.nx σ a
def aF3(a:PE X e te)(b:swapsWith e none pos.line X.env=pure false:=by rfl):PS X (.Expr e pos) (dG2 te):=by
 intro pins s σ H D I h;exact wpAny_Expr_any (thn (a pins s σ H _ I h) λv s1 ⟨x,c,d,g,f⟩=>⟨σ,c,d,f⟩) I.quiet b
def eA9(te:TE):TS:=λD σ H=>te σ H D.rt
def cL1(a:PE X e te):PS X (.Return (some e) pos) (eA9 te):=by
 intro pins s σ H D I h;exact wpAny_Return_some (thn (a pins s σ H _ I h) λv s1 ⟨x,b,c,d,f⟩=>⟨x,σ,b,c,d,f⟩)
def dW0:TS:=λD _ H=>D.rt .non H
def eB0(c:TT)(t u:TS):TS:=λD σ H=>c σ H λb a=>if b=true then t D σ a else u D σ a
def bG6{c:Expr}{a b:List Stmt}{e:TT}(j:PT X c e)(ha:PSs X a t)(k:PSs X b u):PS X (.If c a b pos) (eB0 e t u):=by
 intro pins s σ H D I h;refine wpAny_If (thn (j pins s σ H _ I h) λd s1 Z0=>?_);obtain⟨f,g,i⟩:=Z0;cases d with
 | true=>exact ha pins s1 σ f D g i
 | false=>exact k pins s1 σ f D g i
end
abbrev TG:=V->St->Hp->(St->Hp->Prop)->Prop
abbrev TGs:=List V->St->Hp->(St->Hp->Prop)->Prop
def PG(X:Cx)(a:Expr)(t:TG):Prop:=
 ∀ (pins:List (Addr×Obj)) (s:Shared) (σ:St) (H:Hp) (v:V) (u:Value) (Q:St->Hp->Prop),Inv X pins σ H s->gR v u->t v σ H Q ->
   wpAny (model X.prog X.w) X.A (assign a X.env u) (λ_ s'=>∃ σ' H',Inv X pins σ' H' s'/\Q σ' H') X.xe s
def PGs(X:Cx)(a:List Expr)(t:TGs):Prop:=
 ∀ (pins:List (Addr×Obj)) (s:Shared) (σ:St) (H:Hp) (vs:List V) (us:List Value) (Q:St->Hp->Prop),Inv X pins σ H s->dI vs us->t vs σ H Q ->
   wpAny (model X.prog X.w) X.A (assignInOrder ((assignEach a X.env).map (·.2)) us) (λ_ s'=>∃ σ' H',Inv X pins σ' H' s'/\Q σ' H') X.xe s
abbrev dU2:=V->V->V->Hp->(Hp->Prop)->Prop
def eB1(X:Cx)(t:dU2):Prop:=
 ∀ (pins:List (Addr×Obj)) (s:Shared) (σ:St) (H:Hp) (o i v:V) (ov a u:Value) (Q:Hp->Prop),Inv X pins σ H s->gR o ov->gR i a->gR v u->t o i v H Q ->
   wpAny (model X.prog X.w) X.A (setItem ov a u) (λ_ s'=>∃ H',Inv X pins σ H' s'/\Q H') X.xe s
section
variable{X:Cx}{pos:Pos}
def aF4(i:Nat):TG:=λv σ H Q=>Q (σ.set i (some v)) H
def aM{i:Nat}{x:Str}(a:X.N.Nodup)(hi:X.N[i]? = some x)(b:Loc X.env.scope x)(c:X.fn x=true\/X.env.scope.names.lookup x=some .local:=by first | exact .inl rfl | exact .inr rfl | assumption):PG X (.Name x pos) (aF4 i):=by
 intro pins s σ H v u Q I r h;exact wpAny_assign_Name (tH I a hi b r (λs' d=>⟨_,H,d,h⟩) c)
def dW1:TGs:=λvs σ H Q=>vs=[]/\Q σ H
def cR5(t:TG)(u:TGs):TGs:=λvs σ H Q=>∃ v r,vs=v::r/\t v σ H λσ' H'=>u r σ' H' Q
def eW:PGs X [] dW1:=by
 intro pins s σ H vs us Q I r h;obtain⟨e,h⟩:=h;subst e;cases r;exact assignInOrder_nil ⟨σ,H,I,h⟩
def bE{e:Expr}{es:List Expr}{t:TG}{u:TGs}(b:PG X e t)(c:PGs X es u)
  (d:(assignEach (e::es) X.env).map (·.2)=assign e X.env::(assignEach es X.env).map (·.2):=by rfl):PGs X (e::es) (cR5 t u):=by
 intro pins s σ H vs us Q I r h;obtain⟨v,l,f,h⟩:=h;subst f;cases r with
 | cons r g=>
   rw[d];refine assignInOrder_cons (thn (b pins s σ H _ _ _ I r h) λ_ s1 Z0=>?_);obtain⟨a,i,j,k⟩:=Z0;exact c pins s1 a i _ _ Q j g k
def eD3(K:W.Frag)(n:Nat)(t:TGs):TG:=λv σ H Q=>∃ a xs,v=.ref a/\SqT K H a xs/\xs.length=n/\t xs σ H Q
def dG3{es:List Expr}{k:Nat}{t:TGs}{n:Nat}(g:X.calm=true)(h:PGs X es t)
  (hn:(assignEach es X.env).length=n:=by rfl) (c:(assignEach es X.env).findIdx? (·.1)=none:=by rfl):PG X (.Tuple es k pos) (eD3 X.K n t):=by
 intro pins s σ H v u Q I r d;obtain⟨a,xs,i,j,l,d⟩:=d;subst i;cases r;obtain⟨m,f,p,x⟩:=I.tuple j;refine assign_Tuple_tuple (I.ok.hd g) p (by simp[hn,← l,f.length]) c λh' q=>?_;have w:Inv X pins σ H {s with heap:=h'}:=I.kept (t':=s.toks) λb o e=>q b o (a1d (a5b e)) e;exact h pins _ σ H xs _ Q w (by simpa using f) d
def dW2(to a:TE)(t:dU2):TG:=λv σ H Q=>to σ H λo b=>a σ b λi c=>t o i v c λd=>Q σ d
def cL2{o i:Expr}{to b:TE}{t:dU2}(c:PE X o to)(hi:PE X i b)(d:eB1 X t)
  (ha:∀ v,assign (.Subscript o i pos) X.env v=(do
   let ov ← holding [v] (eval o X.env)
   let a ← holding [v,ov] (eval i X.env)
   standAt pos
   holding [v,ov,a] (setItem ov a v)
   release [v,ov,a] []):=by intro _;rfl):PG X (.Subscript o i pos) (dW2 to b t):=by
 intro pins s σ H v u Q I r h;rw[ha];refine a4x (a4E (thn (c pins s σ H _ I h) λov s1 Z0=>?_));obtain⟨x,e,f,g,j⟩:=Z0;refine a4x (a4E (thn (hi pins s1 σ e _ f j) λa s2 ⟨y,k,l,m,n⟩=>?_));refine a4x (a4V (a4x (a4E (thn (d pins s2 σ k x y v ov a u _ l g m r n) λ_ z ⟨p,q,w⟩=>?_))));exact wpAny_release ⟨σ,p,q,w⟩
def cR6(a:TE)(g:TG):TS:=λD σ H=>a σ H λx b=>g x σ b D.nx
def bM3{tg e:Expr}{a:TE}{g:TG}(b:PE X e a)(c:PG X tg g)(d:swapsWithSole [tg] e pos.line X.env=pure false:=by rfl)(f:swappedStores [tg] e X.env=pure none:=by rfl)
  (i:(assignEach [tg] X.env).map (·.2)=[assign tg X.env]:=by rfl):PS X (.Assign [tg] e pos) (cR6 a g):=by
 intro pins s σ H D I h;refine wpAny_Assign_stores (thn (b pins s σ H _ I h) λv s1 Z0=>?_) d f;obtain⟨x,j,k,l,m⟩:=Z0;rw[i];exact thn (c pins s1 σ j x v _ k l m) λ_ s2 q=>q
def aL0{i:Nat}{x:Str}{e:Expr}{b:TE}{a:Pos}(c:X.N.Nodup)(hi:X.N[i]? = some x)(d:Loc X.env.scope x)(f:PE X e b)(g:swapsWith e (some (.Name x a)) pos.line X.env=pure false:=by rfl)(j:X.fn x=true\/X.env.scope.names.lookup x=some .local:=by first | exact .inl rfl | exact .inr rfl | assumption) :
  PS X (.Assign [.Name x a] e pos) (cR6 b (aF4 i)):=by
 intro pins s σ H D I h;refine wpAny_Assign_Name (thn (f pins s σ H _ I h) λv s1 Z0=>?_) g;obtain⟨y,k,l,m,n⟩:=Z0;exact tH l c hi d m (λs2 o=>⟨_,k,o,n⟩) j
def dW3(i j:Nat)(a:TA):TS:=λD σ H=>a σ H λvs b=>∃ v w,vs=[v,w]/\D.nx ((σ.set i (some v)).set j (some w)) b
def dG4{i j:Nat}{x y:Str}{a b:Expr}{u:TA}{g k pt:Pos}{kt l c}(G:X.calm=true)(z:X.N.Nodup)(hi:X.N[i]? = some x)(J:X.N[j]? = some y)(m:i≠j)
  (B:X.env.scope.names.lookup x=some .local) (C:X.env.scope.names.lookup y=some .local) (ha:PA X [a,b] u)
  (K:swappedStores [.Tuple [.Name x g,.Name y k] kt pt] (.Tuple [a,b] l c) X.env=pure (some [x,y]))
  (L:swapsWithSole [.Tuple [.Name x g,.Name y k] kt pt] (.Tuple [a,b] l c) pos.line X.env=pure false:=by rfl) :
  PS X (.Assign [.Tuple [.Name x g,.Name y k] kt pt] (.Tuple [a,b] l c) pos) (dW3 i j u):=by
 intro pins s σ H D I h;rw[exec_Assign_arm];refine a4x (a4V ?_);rw[L];refine a4x (a4A ?_);rw[a4z (by decide)];refine a4x (Tuple_ (thn (ha _ pins s σ H _ I h) λus s1 Z0=>?_));obtain⟨vs,E,M,O,n⟩:=Z0;obtain⟨v,w,P,n⟩:=n;subst P;obtain⟨d,f,rfl,Q,r⟩:∃ d f,us=[d,f]/\gR v d/\gR w f:=by
  cases O with
  | cons p q=>
    cases q with
    | cons R S=>
      cases S;exact⟨_,_,rfl,p,R⟩
 refine a4G ?_ (by show 2<=sizeLine;decide);have T:Inv X pins σ E {s1 with heap:=s1.heap.push {cls:=.type "tuple",data:=.seq [d,f].toArray}}:=M.kept (t':=s1.toks) λb o e=>a7a _ e;rw[K];refine a4x (a4A ?_);show wpAny (model X.prog X.w) X.A (do rule "assign.swapped-stores";let items ← unpackItems (.ref s1.heap.objs.size) 2 none;assignInOrder [λv=>bindName X.env y v,λv=>bindName X.env x v] items.reverse;pure Flow.next) _ _ _;refine a4x (a4Z (a4x (unpackItems_tuple (items:=#[d,f]) (I.ok.hd G) (IsTup.new s1.heap _) λh' t=>?_)));have U:=T.kept (h':=h') (t':=s1.toks) λb o e=>t b o (a1d (a5b e)) e;show wpAny _ _ (assignInOrder [λv=>bindName X.env y v,λv=>bindName X.env x v] [f,d] >>= λ_=>pure Flow.next) _ _ _;refine a4x (assignInOrder_cons (wpAny_bindName (tH U z J (.inl C) r (λs2 V=>?_) (.inr C))));refine assignInOrder_cons (wpAny_bindName (tH V z hi (.inl B) Q (λW F=>assignInOrder_nil (a4A ?_)) (.inr B)));rw[List.set_comm _ _ (a4e m)]at F;exact⟨_,E,F,n⟩
end
section
variable{X:Cx}{pos:Pos}
def bM4(c:TT)(tb:TS):TS:=λD σ H=>∃ W:Nat->St->Hp->Prop,(∃ m,W m σ H)/\∀ m σ H,W m σ H ->
 c σ H λb a=>if b=true then ∃ N:St->Hp->Prop,(∀ σ' H',N σ' H'->∃ d,d < m/\W d σ' H')/\tb {D with nx:=N,ct:=N,bk:=D.nx} σ a else D.nx σ a
def aF5{c:Expr}{e:List Stmt}{o:TT}{p:TS}(q:PassesOwn (model X.prog X.w) X.A X.env X.xe)(y:PT X c o)(z:PSs X e p):PS X (.While c e [] pos) (bM4 o p):=by
 intro pins s σ H D I h;obtain⟨W,⟨B,C⟩,turn⟩:=h;refine wpAny_While (codeAny_whileLoop (λn s'=>∃ σ' H',Inv X pins σ' H' s'/\W n σ' H') ?_ B ⟨σ,H,I,C⟩);rintro n s1 ⟨d,r,E,F⟩;refine a4K q (thn (y pins s1 d r _ E (turn n d r F)) λb s2 Z0=>?_);obtain⟨t,u,i⟩:=Z0;cases b with
 | true=>
   obtain⟨N,x,i⟩:=i;rw[a4y rfl];refine a4K q (thn (z pins s2 d t _ u i) λf G j=>?_);cases f with
   | next=>
     obtain⟨a,g,k,n3⟩:=j;obtain⟨l,hm,m⟩:=x a g n3;exact⟨l,hm,a,g,k,m⟩
   | cont=>
     obtain⟨a,g,k,n3⟩:=j;obtain⟨l,hm,m⟩:=x a g n3;exact⟨l,hm,a,g,k,m⟩
   | brk=>exact j
   | ret v=>exact j
 | false=>
   rw[a4z a0c];exact wpAny_execs_nil ⟨d,t,u,i⟩
end
structure It where
 go:Nat->Hp->Prop
 yld:Nat->Hp->V->Hp->Prop
 stop:Nat->Hp->Prop
def bM5(X:Cx)(pins:List (Addr×Obj))(H:Hp)(b:Addr):Prop:=
 H b=none/\b≠X.env.locals/\b∉X.fs/\(b∈X.ex\/X.s₀.heap.objs.size<=b)/\(∀ x c,X.env.cells.lookup x=some c->c≠b)/\∀ p∈X.pn++pins,p.1≠b
def Inv.fpOk{X:Cx}{pins:List (Addr×Obj)}{σ:St}{H H':Hp}{s:Shared}{b:Addr}(I:Inv X pins σ H s)(a:s.heap.objs.size<=b)(hn:H' b=none):bM5 X pins H' b:=by
 refine⟨hn,a3h (a5d I.lt a),I.nofs a,.inr (a8b I.sz a),λx c e z=>?_,λp d z=>?_⟩;obtain⟨v,q⟩:=I.cell x c e;exact absurd (a5d q.lt (by rw[z];exact a)) (a6e _);exact absurd (a5d (a5b (I.pin p d).1) (by rw[z];exact a)) (a6e _)
structure Turn(P:Program)(w:World)(K:W.Frag)(tg:Expr)(J:It)(fp:List Addr)(it:Addr)(tn:Nat->Heap->Prop):Prop where
 mem:it∈fp
 obj:∀ i h,tn i h->∀ b∈fp,∃ o,h.get? b=some o/\∀ v,o.data≠.cell v
 keep:∀ i h h',tn i h->(∀ b∈fp,∀ o,h.get? b=some o->h'.get? b=some o)->tn i h'
 item:∀ (X:Cx),X.prog=P->X.w=w->X.K=K->X.calm=true->∀ (i:Nat) (pins:List (Addr×Obj)) (s:Shared) (σ:St) (H:Hp) (E:Value->Shared->Prop),Inv X pins σ H s->(∀ b∈fp,bM5 X pins H b)->tn i s.heap->J.go i H ->
  wpAny (model P w) X.A (pyNext (.ref it)) (λr s1=>∃ u,r=some u /\
   wpAny (model P w) X.A (letOwnedTupleGo tg (.ref it) u) (λ_ s2=>∃ x H',Inv X pins σ H' s2/\gR x u/\J.yld i H x H'/\tn (i+1) s2.heap/\∀ b∈fp,H' b=none) E s1) E s
 done:∀ (X:Cx),X.prog=P->X.w=w->X.K=K->X.calm=true->∀ (i:Nat) (pins:List (Addr×Obj)) (s:Shared) (σ:St) (H:Hp) (E:Value->Shared->Prop),Inv X pins σ H s->(∀ b∈fp,bM5 X pins H b)->tn i s.heap->J.stop i H ->
  wpAny (model P w) X.A (pyNext (.ref it)) (λr s1=>r=none/\Inv X pins σ H s1) E s
 self:∀ (A:Around) (i:Nat) (s:Shared) (Q:Value->Shared->Prop) (E:Value->Shared->Prop),tn i s.heap->Q (.ref it) s->wpAny (model P w) A (pyIter (.ref it)) Q E s
abbrev TI:=St->Hp->(It->Hp->Prop)->Prop
def PIE(X:Cx)(pins:List (Addr×Obj))(σ:St)(tg:Expr)(R:It->Hp->Prop)(a:Value)(s2:Shared):Prop:=
 ∃ (it:Addr) (fp:List Addr) (tn:Nat->Heap->Prop) (J:It) (H':Hp),a=.ref it/\Inv X pins σ H' s2/\Turn X.prog X.w X.K tg J fp it tn/\tn 0 s2.heap/\(∀ b∈fp,bM5 X pins H' b)/\R J H'
def PI(X:Cx)(tg iter:Expr)(a:TI):Prop:=
 ∀ (pins:List (Addr×Obj)) (s:Shared) (σ:St) (H:Hp) (R:It->Hp->Prop),Inv X pins σ H s->a σ H R ->
   wpAny (model X.prog X.w) X.A (eval iter X.env) (λv s1=>wpAny (model X.prog X.w) X.A (pyIter v) (PIE X pins σ tg R) X.xe s1) X.xe s
def bM6{M:Model}{A:Around}{E:Value->Shared->Prop}{s:Shared}{tg:Expr}{it:Addr}{u:Value}{o:Obj}{n:String}{vs:Array Value}{Q:Unit->Shared->Prop}(b:s.heap.get? it=some o)(c:o.cls=.type n)(hd:o.data=.fields vs)
  (hn:["enumerate","zip","dict_itemiterator","dict_reverseitemiterator","odict_iterator","itertools.zip_longest","itertools.pairwise"].contains n=false) (a:Q () s):wpAny M A (letOwnedTupleGo tg (.ref it) u) Q E s:=by
 unfold letOwnedTupleGo;cases tg<;>first
  | exact a4A a
  | (cases u<;>first
    | exact a4A a
    | (refine a4x (wpAny_load b ?_)
       rw[c,hd];show wpAny M A (if(["enumerate","zip","dict_itemiterator","dict_reverseitemiterator","odict_iterator","itertools.zip_longest","itertools.pairwise"].contains n&&vs[0]? == some (rawInt _))=true then _ else _) Q E s;rw[a4z (by intro h;rw[hn,Bool.false_and]at h;cases h)];exact a4A a))
noncomputable def Itl(K:W.Frag)(a:Addr):It:=
 ⟨λi H=>∃ xs x,SqL K H a xs/\xs[i]? = some x,λi H x H'=>H'=H/\∀ xs,SqL K H a xs->xs[i]? = some x,λi H=>∃ xs,SqL K H a xs/\xs.length<=i⟩
noncomputable def Itt(K:W.Frag)(a:Addr):It:=
 ⟨λi H=>∃ xs x,SqT K H a xs/\xs[i]? = some x,λi H x H'=>H'=H/\∀ xs,SqT K H a xs->xs[i]? = some x,λi H=>∃ xs,SqT K H a xs/\xs.length<=i⟩
noncomputable def Itr(lo:Int)(n:Nat):It:=⟨λi _=>i < n,λi H x H'=>H'=H/\x=.int (lo+i),λi _=>n<=i⟩
def bM7{P:Program}{w:World}{K:W.Frag}{tg:Expr}(a it:Addr):Turn P w K tg (Itl K a) [it] it (λi h=>h.IsListIter it a i) where
 mem:=by simp
 obj:=λi h st b f=>by
  have e:b=it:=by simpa using f
  subst e;obtain⟨o,e,c,d⟩:=st;exact⟨o,e,λv z=>by rw[d]at z;cases z⟩
 keep:=λi h h' st k=>st.at λo e=>k it (by simp) o e
 item:=by
  intro X m n q J i pins s σ H E I j st r;subst m n q;obtain⟨xs,x,l,t⟩:=r;obtain⟨y,A,p,L⟩:=I.list l;obtain⟨u,M,N⟩:=A.get t;obtain⟨B,C,O,D,F,G⟩:=j it (by simp);refine wpAny_pyNext_list_item st p.isList (x:=u) (by simpa using M) λh' g Q=>?_;have R:Inv X pins σ H {s with heap:=h'}:=I.turned (t':=s.toks) (λb o f e=>(Q.2 b f).trans e) B C D F G;obtain⟨o,e,c,d⟩:=id g;exact⟨u,rfl,bM6 (s:={s with heap:=h'}) e c d (by decide) ⟨x,H,R,N,⟨rfl,λys S=>by rw[I.list_inj S l];exact t⟩,g,λb f=>(j b f).1⟩⟩
 done:=by
  intro X m n q J i pins s σ H E I j st r;subst m n q;obtain⟨xs,l,t⟩:=r;obtain⟨y,A,p,L⟩:=I.list l;obtain⟨B,C,O,D,F,G⟩:=j it (by simp);have U:=A.length;exact wpAny_pyNext_list_end (I.ok.hd J) st p.isList (by simp;lia) λh' T=>⟨rfl,I.turned (t':=s.toks) (λb o f e=>T b o f e) B C D F G⟩
 self:=λ_ _ _ _ _ st h=>wpAny_pyIter_listiter st h
def bG7{P:Program}{w:World}{K:W.Frag}{tg:Expr}(a it:Addr):Turn P w K tg (Itt K a) [it] it (λi h=>h.IsTupleIter it a i) where
 mem:=by simp
 obj:=λi h st b f=>by
  have e:b=it:=by simpa using f
  subst e;obtain⟨o,e,c,d⟩:=st;exact⟨o,e,λv z=>by rw[d]at z;cases z⟩
 keep:=λi h h' st k=>st.at λo e=>k it (by simp) o e
 item:=by
  intro X n q r J i pins s σ H E I l st t;subst n q r;obtain⟨xs,x,m,y⟩:=t;obtain⟨g,A,p,L⟩:=I.tuple m;obtain⟨u,M,N⟩:=A.get y;obtain⟨B,C,O,D,F,G⟩:=l it (by simp);refine wpAny_pyNext_tuple_item st (show s.heap.IsTuple a g.toArray from p) (x:=u) (by simpa using M) λh' j Q=>?_;have R:Inv X pins σ H {s with heap:=h'}:=I.turned (t':=s.toks) (λb o f e=>(Q.2 b f).trans e) B C D F G;obtain⟨o,e,c,d⟩:=id j;exact⟨u,rfl,bM6 (s:={s with heap:=h'}) e c d (by decide) ⟨x,H,R,N,⟨rfl,λys S=>by rw[I.tuple_inj S m];exact y⟩,j,λb f=>(l b f).1⟩⟩
 done:=by
  intro X n q r J i pins s σ H E I l st t;subst n q r;obtain⟨xs,m,y⟩:=t;obtain⟨g,A,p,L⟩:=I.tuple m;obtain⟨B,C,O,D,F,G⟩:=l it (by simp);have U:=A.length;exact wpAny_pyNext_tuple_end (I.ok.hd J) st (show s.heap.IsTuple a g.toArray from p) (by simp;lia) λh' T=>⟨rfl,I.turned (t':=s.toks) (λb o f e=>T b o f e) B C D F G⟩
 self:=λ_ _ _ _ _ st h=>wpAny_pyIter_tupleiter st h
def bG8{P:Program}{w:World}{K:W.Frag}{tg:Expr}(it:Addr)(lo:Int)(n:Nat):Turn P w K tg (Itr lo n) [it] it (λi h=>IsRangeIter h it (lo+(i:Nat)*1) ((n:Int)-(i:Nat)) 1) where
 mem:=by simp
 obj:=λi h st b a=>by
  have e:b=it:=by simpa using a
  subst e;exact⟨_,st,λv z=>by
   have y:Data.fields _=Data.cell v:=z;cases y⟩
 keep:=λi h h' st k=>k it (by simp) _ st
 item:=by
  intro X f g j l i pins s σ H E I d st m;subst f g j;obtain⟨p,q,A,r,u,x⟩:=d it (by simp);have W:=Walks.range (prog:=X.prog) (w:=X.w) (I.ok.hd l) it lo 1 n;refine W.item i s _ _ m st λv h' tk B c C=>?_;obtain⟨t,rfl⟩:=B;have D:Inv X pins σ H {s with heap:=h',toks:=tk}:=I.turned (λb o a e=>C b o (by simpa using a) e) p q r u x;refine⟨_,rfl,bM6 (s:={s with heap:=h',toks:=tk}) (n:="range_iterator") c rfl rfl (by decide) ⟨.int (lo+i),H,D,⟨t,?_⟩,⟨rfl,rfl⟩,c,λb a=>(d b a).1⟩⟩;rw[Int.mul_one]
 done:=by
  intro X f g j l i pins s σ H E I d st m;subst f g j;obtain⟨p,q,A,r,u,x⟩:=d it (by simp);exact wpAny_pyNext_range_end (I.ok.hd l) st (by have:n<=i:=m;lia) λh' F=>⟨rfl,I.turned (t':=s.toks) (λb o a e=>F b o a e) p q r u x⟩
 self:=λ_ _ _ _ _ st h=>wpAny_pyIter_rangeiter st h
section
variable{X:Cx}{tg:Expr}
def bA4{pins:List (Addr×Obj)}{σ:St}{H:Hp}{s:Shared}{R:It->Hp->Prop}{E:Value->Shared->Prop}{lo hi:Int}{t u v:Tok}{tk:Nat}(I:Inv X pins σ H s)(c:-(2 ^ 62)<=lo)(d:lo < 2 ^ 62)(f:-(2 ^ 62)<=hi)(g:hi < 2 ^ 62)
  (q:R (Itr lo (hi-lo).toNat) H):wpAny (model X.prog X.w) X.A (pyIter (.ref s.heap.objs.size)) (PIE X pins σ tg R) E {s with heap:=s.heap.push {cls:=.type "range",data:=.fields #[.int lo t,.int hi u,.int 1 v]},toks:=tk}:=by
 refine wpAny_pyIter_range (IsRange.new ..) (small_one c d f g) ?_;have a:Inv X pins σ H {s with heap:=s.heap.push {cls:=.type "range",data:=.fields #[.int lo t,.int hi u,.int 1 v]},toks:=tk}:=I.kept λb o e=>a7a _ e;refine⟨(s.heap.push {cls:=.type "range",data:=.fields #[.int lo t,.int hi u,.int 1 v]}).objs.size,[(s.heap.push {cls:=.type "range",data:=.fields #[.int lo t,.int hi u,.int 1 v]}).objs.size],_,_,H,rfl,
  a.kept (t':=tk) λb o e=>a7a _ e,bG8 _ lo (hi-lo).toNat,?_,λb h=>?_,q⟩
 ·have i:lo+((0:Nat):Int)*1=lo:=by simp
  have j:(((hi-lo).toNat:Nat):Int)-((0:Nat):Int)=Builtin.Range.rangeSize lo hi 1:=by rw[rangeSize_one];split<;>lia
  show IsRangeIter _ _ (lo+((0:Nat):Int)*1) ((((hi-lo).toNat:Nat):Int)-((0:Nat):Int)) 1;rw[i,j];exact a2c _ rfl
 ·have e:b=(s.heap.push {cls:=.type "range",data:=.fields #[.int lo t,.int hi u,.int 1 v]}).objs.size:=by simpa using h
  subst e;exact a.fpOk (a9a _) (a.hok.fresh (a9a _))
def cR7(a:TA):TI:=λσ H R=>a σ H λvs b=>∃ j:Int,vs=[.int j] /\ -(2 ^ 62)<=j/\j < 2 ^ 62/\R (Itr 0 j.toNat) b
def cR8(a:TA):TI:=λσ H R=>a σ H λvs b=>∃ i j:Int,vs=[.int i,.int j]/\(-(2 ^ 62)<=i/\i < 2 ^ 62 /\ -(2 ^ 62)<=j/\j < 2 ^ 62)/\R (Itr i (j-i).toNat) b
def eR{a:Expr}{c:TA}{p pos:Pos}(d:Gl X "range")(hm:X.mg "range"=none)(ha:PA X [a] c)(f:starEach [a] X.env=[(false,eval a X.env)]:=by rfl):PI X tg (.Call (.Name "range" p) [a] [] pos) (cR7 c):=by
 intro pins s σ H R I h;refine Call_ (nR I d hm boot_range (a9e (thn (ha pos pins s σ H _ I h) λus s1 Z0=>?_) f rfl));obtain⟨vs,m,g,i,b⟩:=Z0;obtain⟨j,e,b,k,q⟩:=b;subst e;cases i with
 | cons r l=>
   cases l;obtain⟨t,rfl⟩:=r;exact call_range_1 (bA4 g (by lia) (by lia) b k (by simpa using q))
def tN{a b:Expr}{g:TA}{p pos:Pos}(k:Gl X "range")(hm:X.mg "range"=none)(ha:PA X [a,b] g)(l:starEach [a,b] X.env=[(false,eval a X.env),(false,eval b X.env)]:=by rfl)(c:starEach [b] X.env=[(false,eval b X.env)]:=by rfl) :
  PI X tg (.Call (.Name "range" p) [a,b] [] pos) (cR8 g):=by
 intro pins s σ H R I h;refine Call_ (nR I k hm boot_range (a9e (thn (ha pos pins s σ H _ I h) λus s1 Z0=>?_) (by rw[l,c]) (by rw[c];rfl)));obtain⟨vs,x,m,n,d⟩:=Z0;obtain⟨i,j,e,⟨d,o,u,v⟩,q⟩:=d;subst e;cases n with
 | cons r f=>
   cases f with
   | cons w f=>
     cases f;obtain⟨t,rfl⟩:=r;obtain⟨y,rfl⟩:=w;exact call_range_2 (bA4 m d o u v q)
def dU3(c:TI)(g:TG)(d:TS):TS:=λD σ H=>c σ H λJ e=>∃ W:Nat->Nat->St->Hp->Prop,(∃ m,W 0 m σ e)/\∀ i m σ H,W i m σ H ->
 (J.stop i H/\D.nx σ H)\/(J.go i H/\∃ N:St->Hp->Prop,(∀ σ' H',N σ' H'->∃ b,b < m/\W (i+1) b σ' H')/\∀ x H',J.yld i H x H'->g x σ H' λa f=>d {D with nx:=N,ct:=N,bk:=D.nx} a f)
noncomputable def tO(fp:List Addr)(h:Heap):List (Addr×Obj):=fp.filterMap λb=>(h.get? b).map λo=>(b,o)
def nM{fp:List Addr}{h:Heap}{b:Addr}{o:Obj}(a:b∈fp)(e:h.get? b=some o):(b,o)∈tO fp h:=List.mem_filterMap.mpr ⟨b,a,by rw[e];rfl⟩
def bM8{fp:List Addr}{h:Heap}{p:Addr×Obj}(a:p∈tO fp h):p.1∈fp/\h.get? p.1=some p.2:=by
 obtain⟨b,c,e⟩:=List.mem_filterMap.mp a;cases q:h.get? b with
 | none=>rw[q]at e;cases e
 | some o=>
   rw[q]at e;have d:(b,o)=p:=a0b e;subst d;exact⟨c,q⟩
def Inv.pinned{pins:List (Addr×Obj)}{σ:St}{H:Hp}{s:Shared}{fp:List Addr}(I:Inv X pins σ H s)(f:∀ b∈fp,bM5 X pins H b)(g:∀ b∈fp,∃ o,s.heap.get? b=some o/\∀ v,o.data≠.cell v):Inv X (pins++tO fp s.heap) σ H s:=
 I.pins_of λp h=>(a8a.mp h).elim (λz=>I.pin p (a1c _ z)) λz=>by
  obtain⟨a,e⟩:=bM8 z;obtain⟨i,j,k,_⟩:=f p.1 a;obtain⟨o,c,d⟩:=g p.1 a;rw[e]at c;cases c;exact⟨e,i,j,k,d⟩
def Inv.unpinned{pins pl:List (Addr×Obj)}{σ:St}{H:Hp}{s:Shared}(I:Inv X (pins++pl) σ H s):Inv X pins σ H s:=I.pins_of λp a=>I.pin p (a1c _ (a2d _ a))
def gO{iter:Expr}{q:List Stmt}{S:TI}{g:TG}{U:TS}{pos:Pos}(B:PassesOwn (model X.prog X.w) X.A X.env X.xe)(V:X.calm=true)(hi:PI X tg iter S)(hg:PG X tg g)(c:PSs X q U)
  (hs:∀ x,foldedSetIterable iter X.env x=pure x:=by intro _;rfl):PS X (.For tg iter q [] pos) (dU3 S g U):=by
 intro pins s σ H D I h;refine wpAny_For (thn (hi pins s σ H _ I h) λv s1 h1=>thn h1 λitv s2 h2=>?_) hs;obtain⟨it,fp,tn,J,H2,e,I2,T,K,Y,W,⟨m0,w0⟩,turn⟩:=h2;subst e
 -- Z stays true of L t objects through L loop
 have j:∀ {H':Hp},(∀ b∈fp,H' b=none)->∀ b∈fp,bM5 X pins H' b:=λhn b c=>⟨hn b c,(Y b c).2⟩;refine codeAny_forLoop_any (λn s'=>∃ i σ' H',Inv X pins σ' H' s'/\tn i s'.heap/\(∀ b∈fp,H' b=none)/\W i n σ' H') ?_ m0 ⟨0,σ,H2,I2,K,λb c=>(Y b c).1,w0⟩;rintro n s3 ⟨i,k,G,I3,C,E,w3⟩;rcases turn i n k G w3 with⟨stop,qn⟩ | ⟨go,N,hN,step⟩
 ·refine a4K B (thn (T.done X rfl rfl rfl V i pins s3 k G X.xe I3 (j E) C stop) λr s4 Z0=>?_);obtain⟨M,I4⟩:=Z0;subst M;exact wpAny_execs_nil ⟨k,G,I4,qn⟩
 ·refine a4K B (thn (T.item X rfl rfl rfl V i pins s3 k G X.xe I3 (j E) C go) λr s4 Z0=>?_);obtain⟨u,M,h4⟩:=Z0;subst M;refine a4K B (thn h4 λ_ s5 ⟨x,H5,I5,r5,y5,z,O⟩=>?_);have P:=I5.pinned (j O) (T.obj _ _ z);refine a4K B (thn (hg _ s5 k H5 x u _ P r5 (step x H5 y5)) λ_ s6 ⟨Q,H6,I6,q6⟩=>?_);refine a4K B (thn (c _ s6 Q H6 _ I6 q6) λf R y=>?_);have again:∀ {a:St} {l:Hp},Inv X (pins++tO fp s5.heap) a l R->N a l->∃ m,m < n/\∃ i σ' H',Inv X pins σ' H' R/\tn i R.heap/\(∀ b∈fp,H' b=none)/\W i m σ' H':=λ{a l} p F=>by
   obtain⟨m',hm,w7⟩:=hN a l F;refine⟨m',hm,i+1,a,l,p.unpinned,T.keep _ _ _ z λb c o e=>(p.pin (b,o) (a1c _ (a1c _ (nM c e)))).1,λb c=>?_,w7⟩;obtain⟨o,e,d⟩:=T.obj _ _ z b c;exact(p.pin (b,o) (a1c _ (a1c _ (nM c e)))).2.1
  cases f with
  | next=>obtain⟨a,l,p,F⟩:=y;exact again p F
  | cont=>obtain⟨a,l,p,F⟩:=y;exact again p F
  | brk=>obtain⟨a,l,p,y⟩:=y;exact⟨a,l,p.unpinned,y⟩
  | ret v=>obtain⟨x7,a,l,p,r7,y⟩:=y;exact⟨x7,a,l,p.unpinned,r7,y⟩
end
abbrev R2:=V->V->Hp->VK->Prop
def OpR(X:Cx)(f:Value->Value->Sem Value)(r:R2):Prop:=
 ∀ (pins:List (Addr×Obj)) (s:Shared) (σ:St) (H:Hp) (x y:V) (v u:Value) (Q:VK),Inv X pins σ H s->gR x v->gR y u->r x y H Q ->
   wpAny (model X.prog X.w) X.A (f v u) (EP X pins σ Q) X.xe s
def UnR(X:Cx)(f:Value->Sem Value)(r:V->Hp->VK->Prop):Prop:=
 ∀ (pins:List (Addr×Obj)) (s:Shared) (σ:St) (H:Hp) (x:V) (v:Value) (Q:VK),Inv X pins σ H s->gR x v->r x H Q ->
   wpAny (model X.prog X.w) X.A (f v) (EP X pins σ Q) X.xe s
def lE(X:Cx)(f:Value)(r:List V->Hp->VK->Prop):Prop:=
 ∀ (pins:List (Addr×Obj)) (s:Shared) (σ:St) (H:Hp) (xs:List V) (us:List Value) (Q:VK),Inv X pins σ H s->dI xs us->r xs H Q ->
   wpAny (model X.prog X.w) X.A (call f us) (EP X pins σ Q) X.xe s
def eD4(X:Cx)(r:V->Hp->(Bool->Hp->Prop)->Prop):Prop:=
 ∀ (pins:List (Addr×Obj)) (s:Shared) (σ:St) (H:Hp) (x:V) (v:Value) (Q:Bool->Hp->Prop),Inv X pins σ H s->gR x v->r x H Q ->
   wpAny (model X.prog X.w) X.A (truthy v) (TP X pins σ Q) X.xe s
def tOp(r:R2)(a b:TE):TE:=λσ H Q=>a σ H λx c=>b σ c λy d=>r x y d Q
def tUn(r:V->Hp->VK->Prop)(a:TE):TE:=λσ H Q=>a σ H λx b=>r x b Q
def rI(C:Int->Int->Prop)(g:Int->Int->V):R2:=λx y H Q=>∃ i j,x=.int i/\y=.int j/\C i j/\Q (g i j) H
def rI0(g:Int->Int->V):R2:=λx y H Q=>∃ i j,x=.int i/\y=.int j/\Q (g i j) H
def rU(g:Int->V):V->Hp->VK->Prop:=λx H Q=>∃ i,x=.int i/\Q (g i) H
section
variable{X:Cx}{a b c:Expr}{ta tb tc:TE}{pos:Pos}
def dW4(ha:PE X a ta)(i:PE X b tb){pins:List (Addr×Obj)}{s:Shared}{σ:St}{H:Hp}{R:V->V->Hp->Prop}(I:Inv X pins σ H s)
  (h:ta σ H λx g=>tb σ g λy c=>R x y c) {Q:Value->Shared->Prop} {f:Value->Value->Sem Value}
  (j:∀ v u s2 x y c,Inv X pins σ c s2->gR x v->gR y u->R x y c->wpAny (model X.prog X.w) X.A (f v u) Q X.xe s2) :
  wpAny (model X.prog X.w) X.A (eval a X.env) (λv d=>wpAny (model X.prog X.w) X.A (eval b X.env) (λu e=>wpAny (model X.prog X.w) X.A (f v u) Q X.xe e) X.xe d) X.xe s:=by
 refine thn (ha pins s σ H _ I h) λv s1 Z0=>?_;obtain⟨x,g,k,l,m⟩:=Z0;refine thn (i pins s1 σ g _ k m) λu s2 ⟨y,c,n,o,p⟩=>?_;exact j v u s2 x y c n l o p
def bG9{c:Operator}{r:R2}(d:OpR X (binaryOp c) r)(ha:PE X a ta)(e:PE X b tb):PE X (.BinOp a c b pos) (tOp r ta tb):=by
 intro pins s σ H Q I h;exact wpAny_BinOp (dW4 ha e I h λv u s2 x y f g i j q=>d pins s2 σ f x y v u Q g i j q)
def dW5{b:UnaryOp}{r:V->Hp->VK->Prop}(c:UnR X (unaryOp b) r)(ha:PE X a ta):PE X (.UnaryOp b a pos) (tUn r ta):=by
 intro pins s σ H Q I h;exact UnaryOp_ (thn (ha pins s σ H _ I h) λv s1 ⟨x,d,e,f,g⟩=>c pins s1 σ d x v Q e f g)
def opI{f:Value->Value->Sem Value}{C:Int->Int->Prop}{g:Int->Int->Int}
  (rule:∀ (i j:Int) (t u:Tok) (s:Shared) (Q:Value->Shared->Prop) (E:Value->Shared->Prop),C i j->Q (.int (g i j) s.toks) {s with toks:=s.toks+1}->wpAny (model X.prog X.w) X.A (f (.int i t) (.int j u)) Q E s) :
  OpR X f (rI C λi j=>.int (g i j)):=by
 intro pins s σ H x y v u Q I a b h;obtain⟨i,j,rfl,rfl,c,q⟩:=h;obtain⟨t,rfl⟩:=a;obtain⟨d,rfl⟩:=b;exact rule i j t d s _ _ c ⟨.int (g i j),H,I.tok _,⟨_,rfl⟩,q⟩
def eB2{f:Value->Value->Sem Value}{g:Int->Int->Int}
  (rule:∀ (i j:Int) (t u:Tok) (s:Shared) (Q:Value->Shared->Prop) (E:Value->Shared->Prop),Q (.int (g i j) s.toks) {s with toks:=s.toks+1}->wpAny (model X.prog X.w) X.A (f (.int i t) (.int j u)) Q E s) :
  OpR X f (rI0 λi j=>.int (g i j)):=by
 intro pins s σ H x y v u Q I a b h;obtain⟨i,j,rfl,rfl,q⟩:=h;obtain⟨t,rfl⟩:=a;obtain⟨c,rfl⟩:=b;exact rule i j t c s _ _ ⟨.int (g i j),H,I.tok _,⟨_,rfl⟩,q⟩
def dW6{f:Value->Value->Sem Value}{g:Int->Int->Bool}
  (rule:∀ (i j:Int) (t u:Tok) (s:Shared) (Q:Value->Shared->Prop) (E:Value->Shared->Prop),Q (.bool (g i j)) s->wpAny (model X.prog X.w) X.A (f (.int i t) (.int j u)) Q E s) :
  OpR X f (rI0 λi j=>.bl (g i j)):=by
 intro pins s σ H x y v u Q I a b h;obtain⟨i,j,rfl,rfl,q⟩:=h;obtain⟨t,rfl⟩:=a;obtain⟨c,rfl⟩:=b;exact rule i j t c s _ _ ⟨.bl (g i j),H,I,rfl,q⟩
def dC3(i j:Int):Prop:=0<=j/\j<=1000000/\i.natAbs < 2 ^ 64
def dC4(i j:Int):Prop:=(-(2 ^ 64) < i/\i < 2 ^ 64)\/(-(2 ^ 64) < j/\j < 2 ^ 64)
theorem dC4.ok{i j:Int}(h:dC4 i j):IntMulOk i j:=by
 rcases h with⟨a,b⟩ | ⟨a,b⟩;exact .of_left (intBits_le_64 a b);exact .of_right (intBits_le_64 a b)
def dG5:OpR X (binaryOp .Add) (rI0 λi j=>.int (i+j)):=eB2 λ_ _ _ _ _ _ _ q=>add_int q
def bM9:OpR X (binaryOp .Sub) (rI0 λi j=>.int (i-j)):=eB2 λ_ _ _ _ _ _ _ q=>sub_int q
def dG6:OpR X (binaryOp .Mult) (rI dC4 λi j=>.int (i*j)):=opI λ_ _ _ _ _ _ _ a q=>mul_int q a.ok
def mQ:OpR X (binaryOp .Mod) (rI (λ_ j=>0 < j) λi j=>.int (i % j)):=opI λi j _ _ _ _ _ a q=>by
 have b:(0:Int) < j:=a;exact mod_int' (by lia) (by rw[Int.fmod_eq_emod_of_nonneg i (by lia)];exact q)
def dG7:OpR X (binaryOp .Pow) (rI dC3 λi j=>.int (i ^ j.toNat)):=opI λ_ _ _ _ _ _ _ a q=>pow_int_small a.1 a.2.1 a.2.2 q
def unI{f:Value->Sem Value}{g:Int->Int}
  (rule:∀ (i:Int) (t:Tok) (s:Shared) (Q:Value->Shared->Prop) (E:Value->Shared->Prop),Q (.int (g i) s.toks) {s with toks:=s.toks+1}->wpAny (model X.prog X.w) X.A (f (.int i t)) Q E s) :
  UnR X f (rU λi=>.int (g i)):=by
 intro pins s σ H x v Q I a h;obtain⟨i,rfl,q⟩:=h;obtain⟨t,rfl⟩:=a;exact rule i t s _ _ ⟨.int (g i),H,I.tok _,⟨_,rfl⟩,q⟩
def bA5:UnR X (unaryOp .USub) (rU λi=>.int (-i)):=unI λ_ _ _ _ _ q=>neg_int q
end
noncomputable def cR9:V->V->Bool
 | .non,.non=>true | .non,.int _=>true | .int _,.non=>true | .non,.bl _=>true | .bl _,.non=>true | .non,.str _=>true | .str _,.non=>true
 | .int _,.int _=>true | .bl _,.bl _=>true | .str _,.str _=>true | .byt _,.byt _=>true
 | .int _,.str _=>true | .str _,.int _=>true | .bl _,.str _=>true | .str _,.bl _=>true
 | _,_=>false
def rEq:R2:=λx y H Q=>cR9 x y=true/\Q (.bl (decide (x=y))) H
def rNe:R2:=λx y H Q=>cR9 x y=true/\Q (.bl (!decide (x=y))) H
def bN0{i j:Int}:decide (V.int i=V.int j)=(i==j):=by
 rw[a3e];simp
def cL3{i j:Bool}:decide (V.bl i=V.bl j)=(i==j):=by
 rw[a3e];simp
def aF6{i j:Str}:decide (V.str i=V.str j)=(i==j):=by
 rw[a3e];simp
def bN1{i j:Array UInt8}:decide (V.byt i=V.byt j)=(i.toList==j.toList):=by
 rw[a3e];cases i;cases j;simp
section
variable{X:Cx}{a b c:Expr}{ta tb tc:TE}{pos:Pos}
def cC{pins:List (Addr×Obj)}{σ:St}{H:Hp}{s:Shared}{Q:VK}{k a:Bool}(I:Inv X pins σ H s)(q:Q (.bl k) H)(e:k=a):EP X pins σ Q (.bool a) s:=by
 subst e;exact⟨.bl k,H,I,rfl,q⟩
def dW7:OpR X (compareOp .Eq) rEq:=by
 intro pins s σ H x y v u Q I d a h;obtain⟨c,q⟩:=h;cases x with
 | non=>
   cases d;cases y with
   | non=>cases a;exact PySem.EqNone.eq_none_none (cC I q (by simp))
   | bl j=>cases a;exact PySem.EqNone.eq_none_bool (cC I q (by simp))
   | int j=>obtain⟨b,rfl⟩:=a;exact PySem.EqNone.eq_none_int (cC I q (by simp))
   | str j=>obtain⟨b,rfl⟩:=a;exact PySem.EqNone.eq_none_str (cC I q (by simp))
   | _=>exact absurd (show false=true from c) a0c
 | bl i=>
   cases d;cases y with
   | non=>cases a;exact PySem.EqNone.eq_bool_none (cC I q (by simp))
   | bl j=>cases a;exact eq_bool (cC I q cL3)
   | str j=>obtain⟨b,rfl⟩:=a;exact PySem.EqMixed.eq_bool_str (cC I q (by simp))
   | _=>exact absurd (show false=true from c) a0c
 | int i=>
   obtain⟨t,rfl⟩:=d;cases y with
   | non=>cases a;exact PySem.EqNone.eq_int_none (cC I q (by simp))
   | int j=>obtain⟨b,rfl⟩:=a;exact eq_int (cC I q bN0)
   | str j=>obtain⟨b,rfl⟩:=a;exact PySem.EqMixed.eq_int_str (cC I q (by simp))
   | _=>exact absurd (show false=true from c) a0c
 | str i=>
   obtain⟨t,rfl⟩:=d;cases y with
   | non=>cases a;exact PySem.EqNone.eq_str_none (cC I q (by simp))
   | bl j=>cases a;exact PySem.EqMixed.eq_str_bool (cC I q (by simp))
   | int j=>obtain⟨b,rfl⟩:=a;exact PySem.EqMixed.eq_str_int (cC I q (by simp))
   | str j=>obtain⟨b,rfl⟩:=a;exact eq_str (cC I q aF6)
   | _=>exact absurd (show false=true from c) a0c
 | byt i=>
   obtain⟨t,rfl⟩:=d;cases y with
   | byt j=>obtain⟨b,rfl⟩:=a;exact W.eq_bytes (cC I q bN1)
   | _=>exact absurd (show false=true from c) a0c
 | _=>cases y<;>exact absurd (show false=true from c) a0c
def dW8:OpR X (compareOp .NotEq) rNe:=by
 intro pins s σ H x y v u Q I d a h;obtain⟨c,q⟩:=h;cases x with
 | non=>
   cases d;cases y with
   | non=>cases a;exact PySem.EqNone.ne_none_none (cC I q (by simp))
   | bl j=>cases a;exact PySem.EqNone.ne_none_bool (cC I q (by simp))
   | int j=>obtain⟨b,rfl⟩:=a;exact PySem.EqNone.ne_none_int (cC I q (by simp))
   | str j=>obtain⟨b,rfl⟩:=a;exact PySem.EqNone.ne_none_str (cC I q (by simp))
   | _=>exact absurd (show false=true from c) a0c
 | bl i=>
   cases d;cases y with
   | non=>cases a;exact PySem.EqNone.ne_bool_none (cC I q (by simp))
   | bl j=>cases a;exact ne_bool (cC I q (a4F not cL3))
   | str j=>obtain⟨b,rfl⟩:=a;exact PySem.EqMixed.ne_bool_str (cC I q (by simp))
   | _=>exact absurd (show false=true from c) a0c
 | int i=>
   obtain⟨t,rfl⟩:=d;cases y with
   | non=>cases a;exact PySem.EqNone.ne_int_none (cC I q (by simp))
   | int j=>obtain⟨b,rfl⟩:=a;exact ne_int (cC I q (a4F not bN0))
   | str j=>obtain⟨b,rfl⟩:=a;exact PySem.EqMixed.ne_int_str (cC I q (by simp))
   | _=>exact absurd (show false=true from c) a0c
 | str i=>
   obtain⟨t,rfl⟩:=d;cases y with
   | non=>cases a;exact PySem.EqNone.ne_str_none (cC I q (by simp))
   | bl j=>cases a;exact PySem.EqMixed.ne_str_bool (cC I q (by simp))
   | int j=>obtain⟨b,rfl⟩:=a;exact PySem.EqMixed.ne_str_int (cC I q (by simp))
   | str j=>obtain⟨b,rfl⟩:=a;exact ne_str (cC I q (a4F not aF6))
   | _=>exact absurd (show false=true from c) a0c
 | byt i=>
   obtain⟨t,rfl⟩:=d;cases y with
   | byt j=>obtain⟨b,rfl⟩:=a;exact W.ne_bytes (cC I q (a4F not bN1))
   | _=>exact absurd (show false=true from c) a0c
 | _=>cases y<;>exact absurd (show false=true from c) a0c
def aT7:OpR X (compareOp .Lt) (rI0 λi j=>.bl (decide (i < j))):=dW6 λ_ _ _ _ _ _ _ q=>lt_int q
def bH0:OpR X (compareOp .Gt) (rI0 λi j=>.bl (decide (j < i))):=dW6 λ_ _ _ _ _ _ _ q=>gt_int q
def dW9:OpR X (compareOp .GtE) (rI0 λi j=>.bl (decide (j<=i))):=dW6 λ_ _ _ _ _ _ _ q=>ge_int q
def bN2:OpR X (compareOp .In) (λx y H Q=>∃ i j,x=.str i/\y=.str j/\Q (.bl (!(Builtin.Str.occurrences j i 0 j.length 1).isEmpty)) H):=by
 intro pins s σ H x y v u Q I a b h;obtain⟨i,j,rfl,rfl,q⟩:=h;obtain⟨t,rfl⟩:=a;obtain⟨c,rfl⟩:=b;exact in_str (cC I q rfl)
def cS0:OpR X (compareOp .IsNot) (λx y H Q=>y=.non/\Q (.bl (!decide (x=.non))) H):=by
 intro pins s σ H x y v u Q I a b h;obtain⟨rfl,q⟩:=h;cases b;refine isnot_none_gen (cC I q ?_);cases x<;>first
  | (cases a;rfl)
  | (obtain⟨t,rfl⟩:=a;rfl)
def aL1:OpR X (compareOp .NotIn) (λx y H Q=>∃ i j,x=.str i/\y=.str j/\Q (.bl (!(!(Builtin.Str.occurrences j i 0 j.length 1).isEmpty))) H):=by
 intro pins s σ H x y v u Q I a b h;obtain⟨i,j,rfl,rfl,q⟩:=h;obtain⟨t,rfl⟩:=a;obtain⟨c,rfl⟩:=b;exact notIn_str (cC I q rfl)
def OpR.or{f:Value->Value->Sem Value}{r a:R2}(h:OpR X f r)(h':OpR X f a):OpR X f (λx y H Q=>r x y H Q\/a x y H Q):=by
 intro pins s σ H x y v u Q I b c q;rcases q with q | q;exact h pins s σ H x y v u Q I b c q;exact h' pins s σ H x y v u Q I b c q
def bM(b:Expr){a:CmpOp}(h:a≠.In:=by decide)(c:a≠.NotIn:=by decide):behindInMarks a b=false:=by
 have d:(a==CmpOp.In)=false:=by cases a<;>first | rfl | exact absurd rfl h
 have e:(a==CmpOp.NotIn)=false:=by cases a<;>first | rfl | exact absurd rfl c
 cases b<;>simp[behindInMarks,d,e]
def cS1{c:CmpOp}{r:R2}(d:OpR X (compareOp c) r)(ha:PE X a ta)(e:PE X b tb)(hm:behindInMarks c b=false):PE X (.Compare a [c] [b] pos) (tOp r ta tb):=by
 intro pins s σ H Q I h;exact wpAny_Compare1 (dW4 ha e I h λv u s2 x y f g i j q=>d pins s2 σ f x y v u Q g i j q) hm
def dG8(t:TE):TT:=λσ H Q=>t σ H λx H'=>∃ k,x=.bl k/\Q k H'
def lG{d:CmpOp}{r:R2}(f:OpR X (compareOp d) r)(ha:PE X a ta)(g:PE X b tb)(hm:behindInMarks d b=false):PT X (.Compare a [d] [b] pos) (dG8 (tOp r ta tb)):=by
 intro pins s σ H Q I h;refine wpAny_isTrue_Compare1 (thn (ha pins s σ H _ I h) λv s1 ⟨x,i,j,l,m⟩=>thn (g pins s1 σ i _ j m) λu s2 ⟨y,n,o,p,q⟩=>
  thn (f pins s2 σ n x y v u _ o l p q) λc C ⟨z,t,w,A,k,e,B⟩=>?_) hm
 subst e;cases A;exact a4J ⟨t,w,B⟩
def dG9(r b:R2)(ta tb tc:TE):TE:=λσ H Q=>ta σ H λx c=>tb σ c λy d=>r x y d λz a=>∃ k,z=.bl k /\
 (if k=true then tc σ a λe f=>b y e f Q else Q (.bl false) a)
def eB3(K:W.Frag)(x:V)(H:Hp)(k:Bool):Prop:=
 match x with
 | .non=>k=false
 | .bl b=>k=b
 | .int i=>k=(i != 0)
 | .str y=>y.length<=sizeLine/\k=((y.length:Int) != 0)
 | .byt y=>y.size<=sizeLine/\k=((y.size:Int) != 0)
 | .ref p=>(∃ xs,SqL K H p xs/\k = !xs.isEmpty)\/(∃ xs,SqT K H p xs/\k = !xs.isEmpty)\/∃ kvs,H p=some (.dK kvs)/\k = !kvs.isEmpty
 | _=>False
def bH1{κ:Type}{kvs:List (κ×V)}{vs:List (κ×Value)}(r:KV kvs vs):(!vs.isEmpty) = !kvs.isEmpty:=by
 cases r<;>rfl
def aB9{xs:List V}{a:List Value}(r:dI xs a):(!a.toArray.isEmpty) = !xs.isEmpty:=by
 cases r<;>simp
def tP:(sizeLine:Nat) < 2 ^ 63:=by rw[a4U];decide
def dH0:eD4 X (λx H Q=>∃ k,eB3 X.K x H k/\Q k H):=by
 intro pins s σ H x v Q I d h;obtain⟨k,e,q⟩:=h;have u:=tP;have z:sizeLine=16777216:=a4U;cases x with
 | non=>
   cases d;have a:k=false:=e;subst a;exact truthy_none ⟨H,I,q⟩
 | bl b=>
   cases d;have a:k=b:=e;subst a;exact a4J ⟨H,I,q⟩
 | int i=>
   obtain⟨t,rfl⟩:=d;have a:k=(i != 0):=e;subst a;exact PySem.P.truthy_int ⟨H,I,q⟩
 | str y=>
   obtain⟨t,rfl⟩:=d;obtain⟨n,a⟩:y.length<=sizeLine/\k=((y.length:Int) != 0):=e;subst a;exact PySem.P.truthy_str (by lia) ⟨H,I.tok _,q⟩
 | byt y=>
   obtain⟨t,rfl⟩:=d;obtain⟨n,a⟩:y.size<=sizeLine/\k=((y.size:Int) != 0):=e;subst a;exact W.truthy_bytes (by lia) ⟨H,I.tok _,q⟩
 | ref p=>
   cases d;have a:(∃ xs,SqL X.K H p xs/\k = !xs.isEmpty)\/(∃ xs,SqT X.K H p xs/\k = !xs.isEmpty)\/∃ kvs,H p=some (.dK kvs)/\k = !kvs.isEmpty:=e;rcases a with⟨xs,f,a⟩ | ⟨xs,f,a⟩ | ⟨kvs,f,a⟩;subst a;obtain⟨g,r,j,l⟩:=I.list f;have c:=r.length;exact wpAny_truthy_list j.isList (by simp only[List.size_toArray];lia) ⟨H,I.tok _,by rw[aB9 r];exact q⟩;subst a;obtain⟨g,r,j,l⟩:=I.tuple f;have c:=r.length;exact truthy_tuple j (by simp only[List.size_toArray];lia) ⟨H,I.tok _,by rw[aB9 r];exact q⟩;subst a;obtain⟨l,o,vs,r,m⟩:kvs.length<=sizeLine/\(p==sysModules)=false/\∃ vs,KV kvs vs/\s.heap.DictOf (gH X.prog X.w) p vs:=I.hok p _ f;have c:kvs.length=vs.length:=Paired.length r;exact wpAny_truthy_dict o m (by lia) ⟨H,I.tok _,by rw[bH1 r];exact q⟩
 | _=>exact(show False from e).elim
def cB6(ha:PE X a ta)(c:∀ b,isTrue a X.env b=(do let v ← b;standAt a.pos;holding [v] (truthy v))) :
  PT X a (λσ H Q=>ta σ H λx H'=>∃ k,eB3 X.K x H' k/\Q k H'):=by
 intro pins s σ H Q I h;exact isTrue_plain (thn (ha pins s σ H _ I h) λv s1 ⟨x,d,e,f,g⟩=>dH0 pins s1 σ d x v Q e f g) (c _)
def bH2:OpR X (binaryOp .Add) (λx y H Q=>∃ i j,x=.str i/\y=.str j/\i.length+j.length<=sizeLine/\Q (.str (i++j)) H):=by
 intro pins s σ H x y v u Q I a b h;obtain⟨i,j,rfl,rfl,c,q⟩:=h;obtain⟨t,rfl⟩:=a;obtain⟨d,rfl⟩:=b;exact add_str (λd tk=>⟨.str (i++j),H,I.tok _,⟨_,rfl⟩,q⟩) c
def aA4{x:V}{us:List Value}(r:dI [x] us):∃ u,us=[u]/\gR x u:=by
 cases r with
 | cons a b=>cases b;exact⟨_,rfl,a⟩
def dH1{x y:V}{us:List Value}(r:dI [x,y] us):∃ u a,us=[u,a]/\gR x u/\gR y a:=by
 cases r with
 | cons b c=>
   cases c with
   | cons d e=>cases e;exact⟨_,_,rfl,b,d⟩
def tQ(b:X.calm=true):lE X (.builtin "min") (λxs H Q=>∃ i j,xs=[.int i,.int j]/\Q (.int (if j < i then j else i)) H):=by
 intro pins s σ H xs us Q I r h;obtain⟨i,j,rfl,q⟩:=h;obtain⟨u,c,rfl,⟨t,rfl⟩,⟨d,rfl⟩⟩:=dH1 r;refine min_two_ints (I.ok.hd b) λh' tk k=>⟨_,H,I.kept k,?_,q⟩;by_cases a:j < i;rw[a4y a,a4y a];exact⟨_,rfl⟩;rw[a4z a,a4z a];exact⟨_,rfl⟩
def aL2:lE X (.type "int") (λxs H Q=>(∃ i,xs=[.int i]/\Q (.int i) H)\/∃ k,xs=[.bl k]/\Q (.int (if k then 1 else 0)) H):=by
 intro pins s σ H xs us Q I r h;rcases h with⟨i,rfl,q⟩ | ⟨k,rfl,q⟩;obtain⟨u,rfl,t,rfl⟩:=aA4 r;exact call_int_int ⟨.int i,H,I,⟨_,rfl⟩,q⟩;obtain⟨u,rfl,a⟩:=aA4 r;cases a;exact call_int_bool ⟨.int (if k then 1 else 0),H,I.tok _,⟨_,rfl⟩,q⟩
end
structure ObjM(h:Heap)(x dx C:Addr)(mA:Str->Option Value):Prop where
 obj:h.get? x=some (W.instObj C dx)
 ns:h.Ns1 dx mA
 ne:dx≠x
def bN3{h:Heap}{dx:Addr}{mA:Str->Option Value}(n:h.Ns1 dx mA):∃ od,h.get? dx=some od/\∀ name,W.lookIn name od=some (mA name):=by
 obtain⟨o,es,i,c,hd,d,_,hm⟩:=n;refine⟨o,c,λname=>?_⟩;have e:=hm name;unfold nsFind findBy at e;rw[← Array.find?_toList]at e;unfold W.lookIn;rw[hd];dsimp only;split;rename_i y q;rw[q]at e;exact a4F some e;rename_i q;rw[q]at e;have a:es.toList.any (·.refKey)=false:=by
  rw[List.any_eq_false];intro y f;obtain⟨z,t,b⟩:=d y (Array.mem_toList_iff.mp f);simp[DictEntry.refKey,b]
 have g:¬ es.toList.any (·.refKey)=true:=by rw[a];exact a0c
 rw[a4z g];exact a4F some e
def ObjM.look{h:Heap}{x dx C:Addr}{mA:Str->Option Value}(I:ObjM h x dx C mA):∃ od,W.InstAt h x (W.instObj C dx) C (some od)/\∀ name,W.lookIn name od=some (mA name):=
 let ⟨od,a,hl⟩:=bN3 I.ns
 ⟨od,⟨I.obj,rfl,rfl,a⟩,hl⟩
section
variable{prog:Program}{w:World}{A:Around}{E:Value->Shared->Prop}{s:Shared}{K:W.Frag}{x dx C f:Addr}{mA:Str->Option Value}{name:Str}{v:Value}
end
def cB2.some_of{v:V}{o:Option Value}(r:cB2 (some v) o):∃ u,o=some u/\gR v u:=by
 cases o with
 | none=>exact(show False from r).elim
 | some u=>exact⟨u,rfl,r⟩
section
variable{P:Program}{w:World}{H H':Hp}{h h':Heap}{a C dx:Addr}{fs fs':List (Str×V)}
def cS2(hok:HOk P w H h)(e:H a=some (.ins C dx fs)):∃ mA,ObjM h a dx C mA/\(∀ f,cB2 (fs.lookup f) (mA f))/\Within mA (fs.map (·.1))/\fs.length<=1000/\H dx=some (.own a):=by
 obtain⟨d,z,ne,ob,mA,n,r,q⟩:=(show eV P w H h a (.ins C dx fs)from hok a _ e);exact⟨mA,⟨ob,n,ne⟩,r,q,z,d⟩
end
structure Cls(K:W.Frag)(C:Addr):Prop where
 pg:W.plainGet K C Str.empty=true
 hd:W.hasDictIn K C=true
 po:W.plainOver K C=true
 sa:W.findIn K (.ref C) "__setattr__"=some (some (.builtin "object.__setattr__"))
def Cls.get{K:W.Frag}{C:Addr}(c:Cls K C)(f:Str):W.plainGet K C f=true:=c.pg
section
variable{X:Cx}{pins:List (Addr×Obj)}{σ:St}{H:Hp}{s:Shared}{a C dx:Addr}{fs:List (Str×V)}{f:Str}{v:V}{A:Around}{E:Value->Shared->Prop}
end
section
variable{X:Cx}{o e value:Expr}{f:Str}{pos pos' tpos:Pos}{ta tv:TE}
end
section
variable{X:Cx}{pins:List (Addr×Obj)}{σ:St}{H:Hp}{s:Shared}{A:Around}{E:Value->Shared->Prop}{Q:Value->Shared->Prop}{c:Value}{b:Bool}
inductive TyOf(K:W.Frag)(H:Hp):V->Value->Prop where
 | non:TyOf K H .non (.type "NoneType")
 | bl (x:Bool):TyOf K H (.bl x) (.type "bool")
 | int (i:Int):TyOf K H (.int i) (.type "int")
 | str (x:Str):TyOf K H (.str x) (.type "str")
 | flt (x:UInt64):TyOf K H (.flt x) (.type "float")
 | lst {a:Addr} {xs:List V} (e:H a=some (.lst xs)):TyOf K H (.ref a) (.type "list")
 | frz {a:Addr} {o:Obj} {xs:List V} (e:H a=some (.frz o (.lst xs))):TyOf K H (.ref a) (.type "list")
 | tup {a:Addr} {xs:List V} (e:H a=some (.tup xs)):TyOf K H (.ref a) (.type "tuple")
 | dK {a:Addr} {kvs:List (Key×V)} (e:H a=some (.dK kvs)):TyOf K H (.ref a) (.type "dict")
 | dT {a:Addr} {kvs:List (List Key×V)} (e:H a=some (.dT kvs)):TyOf K H (.ref a) (.type "dict")
 | ins {a C dx:Addr} {fs:List (Str×V)} (e:H a=some (.ins C dx fs)) (cl:Cls K C) (ha:W.findIn K (.ref C) "__class__"=some (some (.builtin "object.__class__")))
   (hn:W.specialIn K (.builtin "object.__class__") "__get__"=some (some (.builtin "getset_descriptor.__get__"))) (htk:W.takesIn K (.builtin "object.__class__")=some true)
   (hm:W.mroIn K C (.type "object")=some true):TyOf K H (.ref a) (.ref C)
def bN4{x:V}{u t:Value}(I:Inv X pins σ H s)(d:gR x u)(ty:TyOf X.K H x t)(e:W.kitOne X.K t c=some b)(h:∀ tk,Q (.bool b) {s with toks:=tk}) :
  wpAny (model X.prog X.w) A (call (.builtin "isinstance") [u,c]) Q E s:=by
 cases ty with
 | non=>cases (show u=Value.none from d);exact a7f W.kitx_none I.kIn True.intro e (λz=>nomatch z) h
 | bl y=>cases (show u=Value.bool y from d);exact a7f W.kitx_bool I.kIn True.intro e (λz=>nomatch z) h
 | int i=>obtain⟨t,q⟩:=(show ∃ t,u=Value.int i t from d);cases q;exact a7f W.kitx_int I.kIn True.intro e (λz=>nomatch z) h
 | str y=>obtain⟨t,q⟩:=(show ∃ t,u=Value.str y t from d);cases q;exact a7f W.kitx_str I.kIn True.intro e (λz=>nomatch z) h
 | flt y=>obtain⟨t,q⟩:=(show ∃ t,u=Value.float y t from d);cases q;exact a7f W.kitx_float I.kIn True.intro e (λz=>nomatch z) h
 | @lst a xs f=>
   cases (show u=Value.ref a from d);obtain⟨_,_,n,_,g⟩:=(show eV X.prog X.w H s.heap a (.lst xs)from I.hok a _ f);exact a7f W.kitx_list I.kIn ⟨_,g,rfl⟩ e (λz=>nomatch z) h
 | @frz a ob xs f=>
   cases (show u=Value.ref a from d);obtain⟨_,_,_,n,_,g⟩:=(show eV X.prog X.w H s.heap a (.frz ob (.lst xs))from I.hok a _ f);exact a7f W.kitx_list I.kIn ⟨_,g,rfl⟩ e (λz=>nomatch z) h
 | @tup a xs f=>
   cases (show u=Value.ref a from d);obtain⟨_,_,_,p,_⟩:=(show eV X.prog X.w H s.heap a (.tup xs)from I.hok a _ f);obtain⟨o,g,j,_⟩:=p;exact a7f W.kitx_tuple I.kIn ⟨o,g,j⟩ e (λz=>nomatch z) h
 | @dK a kvs f=>
   cases (show u=Value.ref a from d);obtain⟨_,_,vs,_,p⟩:=(show eV X.prog X.w H s.heap a (.dK kvs)from I.hok a _ f);obtain⟨o,es,k,g,j,_⟩:=p;exact a7f W.kitx_dict I.kIn ⟨o,g,j.1⟩ e (λz=>nomatch z) h
 | @dT a kvs f=>
   cases (show u=Value.ref a from d);obtain⟨_,_,xs,_,o,es,k,g,j,_⟩:=(show eV X.prog X.w H s.heap a (.dT kvs)from I.hok a _ f);exact a7f W.kitx_dict I.kIn ⟨o,g,j.1⟩ e (λz=>nomatch z) h
 | @ins a C dx fs f cl ha hn htk hm=>
   cases (show u=Value.ref a from d);obtain⟨mA,O,_⟩:=cS2 I.hok f;obtain⟨od,J,_⟩:=O.look;exact a7f (W.kitx_own (cl.get _) cl.hd ha hn htk hm) I.kIn J e (λz=>nomatch z) h
end
structure Room(k:Nat)(A:Around):Prop where
 hd:A.handled=none
 dp:A.depth+3*k+5 < recursionLimit
 un:A.units+16*k+200 < cLine
def Room.mono{j k:Nat}{A:Around}(r:Room k A)(h:j<=k):Room j A:=⟨r.hd,by have:=r.dp;lia,by have:=r.un;lia⟩
theorem Room.deeper{k:Nat}{A:Around}(r:Room (k+1) A)(env:Env):Room k (A.deeper env):=
 ⟨r.hd,by have:=r.dp;show A.depth+1+3*k+5 < _;lia,by have:=r.un;show A.units+3+16*k+200 < _;lia⟩
theorem Room.depth{k:Nat}{A:Around}(r:Room k A):A.depth < recursionLimit:=by have:=r.dp;lia
theorem Room.units{k:Nat}{A:Around}(r:Room k A):A.units+64 < cLine:=by have:=r.un;lia
def dX0:TA:=λ_ H Q=>Q [] H
def cB7(a:TE)(tr:TA):TA:=λσ H Q=>a σ H λx b=>tr σ b λxs c=>Q (x::xs) c
section
variable{X:Cx}{e:Expr}{es:List Expr}{te:TE}{t:TA}{pos:Pos}
def gS:PA X [] dX0:=λ_ _ _ _ H Q I h=>Calls.spliced_nil ⟨[],H,I,.nil,h⟩
def cD(ha:PE X e te)(a:PA X es t)(b:starEach (e::es) X.env=(false,eval e X.env)::starEach es X.env:=by rfl):PA X (e::es) (cB7 te t):=by
 intro pos pins s σ H Q I h;rw[b];show wpAny _ _ (spliced ((false,eval e X.env)::backTo pos (starEach es X.env))) _ _ s;refine Calls.spliced_cons (thn (ha pins s σ H _ I h) λu s1 Z0=>?_);obtain⟨x,c,d,f,g⟩:=Z0;exact thn (a pos pins s1 σ c _ d g) λus s2 ⟨xs,i,j,k,l⟩=>⟨x::xs,i,j,.cons f k,l⟩
def eB4(t:TA):TE:=λσ H Q=>t σ H λxs a=>xs.length<=sizeLine/\∀ p,a p=none->Q (.ref p) (upd a p (.tup xs))
def eB5(t:TA):TE:=λσ H Q=>t σ H λxs a=>xs.length<=sizeLine/\∀ p,a p=none->Q (.ref p) (upd a p (.lst xs))
def dH2{d}(h:PA X es t):PE X (.Tuple es d pos) (eB4 t):=by
 intro pins s σ H Q I f;refine wpAny_Tuple_spliced (thn (h pos pins s σ H _ I f) λus s1 ⟨xs,a,c,r,z,q⟩=>⟨by rw[← r.length];exact z,?_⟩);have g:a s1.heap.objs.size=none:=c.hok.fresh (a9a _);refine⟨.ref s1.heap.objs.size,upd a s1.heap.objs.size (.tup xs),c.laid (t':=s1.toks) (λb u e=>a7a _ e) (a9a _) ?_,rfl,q _ g⟩;exact⟨z,us,r,⟨_,a2c _ rfl,rfl,_,rfl⟩,⟨_,a2c _ rfl,rfl⟩⟩
def cL4(h:PA X es t):PE X (.List es pos) (eB5 t):=by
 intro pins s σ H Q I d;refine wpAny_List_spliced (thn (h pos pins s σ H _ I d) λus s1 ⟨xs,a,c,r,z,q⟩=>⟨by rw[← r.length];exact z,?_⟩);have f:a s1.heap.objs.size=none:=c.hok.fresh (a9a _);refine⟨.ref s1.heap.objs.size,upd a s1.heap.objs.size (.lst xs),c.laid (t':=s1.toks) (λb u e=>a7a _ e) (a9a _) ?_,rfl,q _ f⟩;exact⟨z,us,0,r,a2c _ rfl⟩
end
abbrev Sp:=List V->Hp->VK->XK->Prop
abbrev CXT:=List Env->Hp->Shared->XK->Value->Shared->Prop
structure Env0(P:Program)(w:World)(K:W.Frag)(mg:Str->Option Value)(base:Heap)(A:Around)(outer:List Env)(s:Shared)(H:Hp):Prop where
 frames:A.frames=some outer
 mod:Mod K mg base
 bs:∀ b o,base.get? b=some o->s.heap.get? b=some o/\H b=none
 bsz:base.objs.size<=s.heap.objs.size
 funs:s.heap.FunFrames base outer
 frf:∀ b∈frs outer,H b=none
 hok:HOk P w H s.heap
 bare:AllBare s.gens
def CE(outer:List Env)(P:Program)(w:World)(H:Hp)(s:Shared)(Q:VK)(u:Value)(s':Shared):Prop:=
 ∃ v H',s'.os=s.os/\AllBare s'.gens/\Un (frs outer) [] H H' s.heap s'.heap/\HOk P w H' s'.heap/\gR v u/\Q v H'
def CR(CX:CXT)(outer:List Env)(P:Program)(w:World)(H:Hp)(s:Shared)(Q:VK)(E:XK)(r:Result)(s':Shared):Prop:=
 match r with
 | .ok (.ret u)=>CE outer P w H s Q u s'
 | .ok _=>False
 | .error e=>CX outer H s E e s'
structure FnOk(P:Program)(w:World)(K:W.Frag)(mg:Str->Option Value)(base:Heap)(CX:CXT)(k:Nat)(f:Addr)(fd:FuncData)(ps:List Str)(sp:Sp):Prop where
 len:∀ vs H Q E,sp vs H Q E->vs.length=ps.length
 run:∀ (A:Around) (outer:List Env) (s:Shared) (H:Hp) (args:Args) (us:List Value) (vs:List V) (Q:VK) (E:XK),Room k A->Env0 P w K mg base A outer s H->BindsTo s fd args (ps.zip us)->dI vs us->sp vs H Q E ->
  codeAny (model P w) A (.call (.ref f) args) (CR CX outer P w H s Q E) s
def FnOk.imp{P:Program}{w:World}{K:W.Frag}{mg:Str->Option Value}{base:Heap}{CX:CXT}{k:Nat}{f:Addr}{fd:FuncData}{ps:List Str}{sp a:Sp}(F:FnOk P w K mg base CX k f fd ps sp)
  (h:∀ vs H Q E,a vs H Q E->sp vs H Q E):FnOk P w K mg base CX k f fd ps a:=
 ⟨λvs H Q E q=>F.len vs H Q E (h _ _ _ _ q),λA outer s H args us vs Q E b c d e g=>F.run A outer s H args us vs Q E b c d e (h _ _ _ _ g)⟩
section
variable{X:Cx}{pins:List (Addr×Obj)}{σ:St}{H:Hp}{s s':Shared}
def Inv.env0(I:Inv X pins σ H s):Env0 X.prog X.w X.K X.mg X.base X.A X.stack s H:=
 ⟨I.ok.frames,I.ok.mod,I.bs,a8b I.ok.bsz I.sz,I.stack,I.stkFree,I.hok,I.bare⟩
def Inv.after{Q:VK}{u:Value}(I:Inv X pins σ H s)(h:CE X.stack X.prog X.w H s Q u s'):EP X pins σ Q u s':=by
 obtain⟨v,H',os,bare,un,hok,r,q⟩:=h;obtain⟨c,g,d,t,a⟩:=s';obtain rfl:a=s.os:=os;exact⟨v,H',I.call (h':=c) (g':=g) (d':=d) (t':=t) (ch:=[]) un hok bare (λb z=>absurd z (by simp)),r,q⟩
end
def bH3(sp:Sp)(a:List V)(E:XK)(t:TA):TE:=λσ H Q=>t σ H λvs b=>sp (vs++a) b Q E
def eM(K:W.Frag)(fd:FuncData)(ps:List Str)(ds:List Value):Prop:=
 ∀ (s:Shared) (us:List Value),K.In s.heap->(us++ds).length=ps.length->BindsTo s fd ⟨us,[]⟩ (ps.zip (us++ds))
def eM.all{K:W.Frag}{fd:FuncData}{ps:List Str}(h:∀ us:List Value,us.length=ps.length->bindArgs fd ⟨us,[]⟩=pure (ps.zip us)):eM K fd ps []:=λs us _ a=>by
 rw[a0g]at a ⊢;exact .of_eq (h us a)
def bN5(CX:CXT)(X:Cx)(E:XK):Prop:=∀ (pins:List (Addr×Obj)) (σ:St) (H:Hp) (s:Shared) (e:Value) (s':Shared),Inv X pins σ H s->CX X.stack H s E e s'->X.xe e s'
section
variable{X:Cx}{CX:CXT}{k:Nat}{f C:Addr}{fd:FuncData}{ps:List Str}{sp:Sp}{dvs:List V}{ds:List Value}{E:XK}{x m:Str}{p pos apos:Pos}{e o:Expr}{es:List Expr}{ta:TE}{t:TA}
def dH3{pins:List (Addr×Obj)}{σ:St}{H:Hp}{s:Shared}{Q:VK}{us:List Value}{vs:List V}(F:FnOk X.prog X.w X.K X.mg X.base CX k f fd ps sp)(c:Room k X.A)(d:eM X.K fd ps ds)(hd:dI dvs ds)(g:bN5 CX X E)
  (I:Inv X pins σ H s) (r:dI vs us) (h:sp (vs++dvs) H Q E):wpAny (model X.prog X.w) X.A (call (.ref f) us) (EP X pins σ Q) X.xe s:=by
 have b:dI (vs++dvs) (us++ds):=r.append hd;have i:(us++ds).length=ps.length:=by rw[← b.length];exact F.len _ _ _ _ h
 refine wpAny_call (a4T (F.run X.A X.stack s H ⟨us,[]⟩ (us++ds) (vs++dvs) Q E c I.env0 (d s us I.kIn i) b h) λr s' a=>?_);cases r with
 | error e=>exact g pins σ H s e s' I a
 | ok j=>
   cases j with
   | ret u=>exact I.after a
   | next=>exact False.elim a
   | brk=>exact False.elim a
   | cont=>exact False.elim a
def aJ(F:FnOk X.prog X.w X.K X.mg X.base CX k f fd ps sp)(d:Room k X.A)(g:Gl X x)(hm:X.mg x=some (.ref f))(i:W.keepIn X.K (.ref f)=true)(j:eM X.K fd ps ds)(hd:dI dvs ds)(l:bN5 CX X E)
  (ha:PA X (e::es) t) (a:(x==("__debug__":Str))=false:=by decide) (m:starEach (e::es) X.env=(false,eval e X.env)::starEach es X.env:=by rfl) (b:(backTo pos (starEach es X.env)).any (·.1)=false:=by rfl) :
  PE X (.Call (.Name x p) (e::es) [] pos) (bH3 sp dvs E t):=by
 intro pins s σ H Q I h;refine a4I (bM2 I g hm ?_ a);refine W.callWith_K (h₀:=X.base) I.ok.mod.kin i (thn (ha pos pins s σ H _ I h) λus s1 ⟨vs,n,c,r,q⟩=>⟨c.kIn,?_⟩) m b;exact dH3 F d j hd l c r q
end
def PK(X:Cx)(a:List Keyword)(t:TA):Prop:=
 ∀ (b:Pos) (pins:List (Addr×Obj)) (s:Shared) (σ:St) (H:Hp) (Q:List V->Hp->Prop),Inv X pins σ H s->t σ H Q->wpAny (model X.prog X.w) X.A (evalAll ((backToKw b (keywordEach a X.env)).map (·.2))) (AP X pins σ Q) X.xe s
section
variable{X:Cx}{CX:CXT}{k:Nat}{f C:Addr}{fd:FuncData}{ps ks:List Str}{sp:Sp}{E:XK}{x m:Str}{p pos apos kpos:Pos}{e o:Expr}{es:List Expr}{kws:List Keyword}{te ta:TE}{t tk:TA}{nm:Option Str}
variable{g:List Value->List Value->List Value}{gV:List V->List V->List V}
end
structure FnScope(N P:List Str)(sc:Scope):Prop where
 kind:sc.kind=.function
 co:sc.isCoroutine=false
 gen:sc.isGenerator=false
 nd:N.Nodup
 pre:N.take P.length=P
 par:∀ x∈P,sc.names.lookup x=some .local\/sc.names.lookup x=some .cell
 nofree:∀ y∈sc.names,y.2≠.free
theorem aL3{kindOf:Str->Option NameKind}{x:Str}:∀ {binds:List (Str×Value)} {m:Str->Option Value},(∀ v,(x,v)∉binds)->bindL kindOf binds m x=m x
 | [],_,_=>rfl
 | (n,v)::r,m,h=>by
   unfold bindL;rw[aL3 λw a=>h w (a6a _ a)];split
   ·have:x≠n:=by rintro rfl;exact h v a4a
    simp[this]
   ·rfl
theorem aL4{kindOf:Str->Option NameKind}{x:Str}:∀ {binds:List (Str×Value)} {m:Str->Option Value},(∀ v,(x,v)∉binds)->bindC kindOf binds m x=m x
 | [],_,_=>rfl
 | (n,v)::r,m,h=>by
   unfold bindC;rw[aL4 λw a=>h w (a6a _ a)];split;rfl
   ·have:x≠n:=by rintro rfl;exact h v a4a
    simp[this]
theorem aL5{kindOf:Str->Option NameKind}{x:Str}{v:Value}:∀ {P:List Str} {vs:List Value} {i:Nat} {m:Str->Option Value},P.Nodup->P[i]? = some x->vs[i]? = some v->kindOf x=some .local ->
  bindL kindOf (P.zip vs) m x=some v
 | [],_,_,_,_,h,_,_=>by simp at h
 | _::_,[],_,_,_,_,h,_=>by simp at h
 | p::P,w::vs,0,m,nd,a,b,c=>by
   simp at a b;subst a;subst b;show bindL kindOf ((p,w)::P.zip vs) m p=_;unfold bindL;rw[aL3 λv d=>(a0f.mp nd).1 (List.of_mem_zip d).1,a4y c];simp
 | p::P,w::vs,i+1,m,nd,a,b,c=>by
   show bindL kindOf ((p,w)::P.zip vs) m x=_;unfold bindL;exact aL5 (i:=i) (a0f.mp nd).2 (by simpa using a) (by simpa using b) c
theorem aL6{kindOf:Str->Option NameKind}{x:Str}{v:Value}:∀ {P:List Str} {vs:List Value} {i:Nat} {m:Str->Option Value},P.Nodup->P[i]? = some x->vs[i]? = some v->kindOf x≠some .local ->
  bindC kindOf (P.zip vs) m x=some v
 | [],_,_,_,_,h,_,_=>by simp at h
 | _::_,[],_,_,_,_,h,_=>by simp at h
 | p::P,w::vs,0,m,nd,a,b,c=>by
   simp at a b;subst a;subst b;show bindC kindOf ((p,w)::P.zip vs) m p=_;unfold bindC;rw[aL4 λv d=>(a0f.mp nd).1 (List.of_mem_zip d).1,a4z c];simp
 | p::P,w::vs,i+1,m,nd,a,b,c=>by
   show bindC kindOf ((p,w)::P.zip vs) m x=_;unfold bindC;exact aL6 (i:=i) (a0f.mp nd).2 (by simpa using a) (by simpa using b) c
noncomputable def lH(N:List Str)(vs:List V):St:=vs.map some++List.replicate (N.length-vs.length) none
noncomputable def cL5(CX:CXT)(P:Program)(w:World)(K:W.Frag)(mg:Str->Option Value)(base:Heap)(N:List Str)(qual:Str)(scope:Scope)(f:Addr)(cd:Value)(A:Around)(outer:List Env)(s:Shared)(H:Hp)(E:XK):Cx where
 prog:=P
 w:=w
 K:=K
 mg:=mg
 base:=base
 A:=A.deeper (envOfC qual scope s.heap.objs.size f cd)
 N:=N
 s₀:=s
 H₀:=H
 env:=envOfC qual scope s.heap.objs.size f cd
 outer:=outer
 stack:=envOfC qual scope s.heap.objs.size f cd::outer
 ex:=[]
 calm:=true
 fn:=λ_=>true
 pn:=[]
 xe:=λe s'=>wpAny (model P w) (A.deeper (envOfC qual scope s.heap.objs.size f cd)) (leaving (envOfC qual scope s.heap.objs.size f cd) e) (λ_ a=>CX outer H s E e a) (λb a=>CX outer H s E b a) s'
def bA6{sc:Scope}{n:Nat}{x:Str}(h:sc.names.lookup x=some .cell):∃ c,(cellsFrom n sc.names []).lookup x=some c:=by
 have q:=W.cellsFrom_some sc.names n [] (.inl h);exact Option.isSome_iff_exists.mp q
def bN6{CX:CXT}{P:Program}{w:World}{K:W.Frag}{mg:Str->Option Value}{base:Heap}{N ps:List Str}{qual:Str}{scope:Scope}{f:Addr}{cd:Value}{A:Around}{outer:List Env}{s s1:Shared}{H:Hp}{E:XK}{us:List Value}{vs:List V}
  (S:FnScope N ps scope) (hd:A.handled=none) (g:Env0 P w K mg base A outer s H) (G:vs.length=ps.length) (r:dI vs us)
  (x:InCallC s s.heap.objs.size (bindL (envOfC qual scope s.heap.objs.size f cd).kindOf (ps.zip us) λ_=>none) (cellsFrom (s.heap.objs.size+1) scope.names []) (bindC (envOfC qual scope s.heap.objs.size f cd).kindOf (ps.zip us) λ_=>none) s1) :
  Inv (cL5 CX P w K mg base N qual scope f cd A outer s H E) [] (lH N vs) H s1:=by
 have D:ps.length<=N.length:=by have:=a4F List.length S.pre;rw[a0d]at this;lia
 obtain⟨t,tk,rfl,B⟩:=x.done;have j:∀ b:Addr,b∉(cL5 CX P w K mg base N qual scope f cd A outer s H E).ex:=λb z=>absurd (show b∈([]:List Addr)from z) (by simp);refine⟨⟨g.mod,S.kind,rfl,rfl,a9a _,λy z c t d=>?_,λy l=>?_,λy c _ h=>?_,λ_=>hd,Around.frames_deeper g.frames,.inr ⟨rfl,rfl⟩,λb z=>absurd z (j b),g.bs,g.bsz,λb _ _=>j b,λb z=>absurd z (j b),g.funs,g.frf⟩,
  rfl,g.bare,Un.kept B,⟨_,x.toInCall.ns,λi y v t d I=>?_⟩,λy c h=>⟨_,x.cell y c h⟩,g.hok.fresh (a9a _),λy c h=>?_,λp m=>absurd (show p∈([]:List (Addr×Obj))from m) (by simp),g.hok.kept B,?_⟩
 ·exact name_of_addr x.apart (a9g t) (a9g d)
 ·have l:scope.names.lookup y=some .cell\/scope.names.lookup y=some .free:=l;rcases l with l | l;exact bA6 l;exact absurd rfl (S.nofree _ (a9g l))
 ·exact a6h (x.above y c (a9g h))
 ·have hi:i < vs.length:=by
   unfold lH at d;by_cases hi:i < vs.length;exact hi;rw[a6f (by simpa using hi)]at d;rw[List.getElem?_replicate]at d;split at d<;>cases d
  have ha:vs[i]? = some v:=by
   unfold lH at d;rw[a8f (by simpa using hi),a5c]at d;cases e:vs[i]? with
   | none=>rw[e]at d;cases d
   | some a=>rw[e]at d;cases d;rfl
  obtain⟨u,C,F⟩:=r.get ha;have m:ps[i]? = some y:=by
   rw[← S.pre,List.getElem?_take_of_lt (by lia)];exact t
  have o:ps.Nodup:=by rw[← S.pre];exact S.nd.sublist (List.take_sublist _ _)
  refine⟨u,F,?_⟩;rcases S.par y (a6b m)with k | k;exact .inl ⟨k,aL5 o m C k⟩;obtain⟨c,e⟩:=bA6 (n:=s.heap.objs.size+1) k;refine .inr ⟨.inl k,c,e,?_⟩;have q:=x.cell y c e;rw[aL6 o m C (by show scope.names.lookup y≠_;rw[k];decide)]at q;exact q
 ·exact g.hok.fresh (a6h (x.above y c (a9g h)))
 ·unfold lH;show _=N.length;rw[a5a,a0a,List.length_replicate];lia
def dX1{CX:CXT}{P:Program}{w:World}{K:W.Frag}{mg:Str->Option Value}{base:Heap}{k:Nat}{f:Addr}{name qual:Str}{a:Arguments}{c:List Stmt}{scope:Scope}{B kV doc pm cdv ct oc:Value}{an od:Option Addr}
  {osl:Array (Option Value)} {N ps:List Str} {sp:Sp} (lk:K.lookup f=some ⟨oc,od,.func (W.fnOf name qual a c scope B kV doc pm an cdv ct),osl⟩) (l:W.codeIn K cdv qual=true) (S:FnScope N ps scope)
  (len:∀ vs H Q E,sp vs H Q E->vs.length=ps.length)
  (d:∀ (A:Around) (outer:List Env) (s:Shared) (H:Hp) (vs:List V) (Q:VK) (E:XK),Room k (A.deeper (envOfC qual scope s.heap.objs.size f cdv))->sp vs H Q E ->
   ∃ t,PSs (cL5 CX P w K mg base N qual scope f cdv A outer s H E) c t/\t {nx:=λ_ H'=>Q .non H',rt:=Q} (lH N vs) H) :
  FnOk P w K mg base CX (k+1) f (W.fnOf name qual a c scope B kV doc pm an cdv ct) ps sp:=by
 refine⟨len,λA outer s H args us vs Q E m i D r j=>?_⟩;have F:=len _ _ _ _ j;have C:K.In s.heap:=i.mod.kin.keeps λb o e=>(i.bs b o e).1;have p:s.heap.NoLimit:=i.mod.nolimit.keeps λb o e=>(i.bs b o e).1;have g:∀ y∈ps.zip us,scope.names.lookup y.1=some .local\/(scope.names.lookup y.1=some .cell/\((cellsFrom (s.heap.objs.size+1) scope.names []).lookup y.1).isSome=true):=λ⟨n,v⟩ G=>by
  rcases S.par n (List.of_mem_zip G).1 with q | q;exact .inl q;exact .inr ⟨q,W.cellsFrom_some _ _ _ (.inl q)⟩
 refine codeAny_call_function m.depth (C _ _ lk) rfl S.co S.gen rfl (W.codeRec_of C l) (D _ _ _ _ ?_);refine wpAny_newFunctionEnv_cells S.kind g λenv L s1 x=>?_;subst L;refine⟨p.keeps x.toInCall.keep,codeAny_func ?_⟩;obtain⟨t,M,O⟩:=d A outer s H vs Q E (m.deeper _) j;have I:Inv (cL5 CX P w K mg base N qual scope f cdv A outer s H E) [] (lH N vs) H s1:=bN6 S m.hd i F r x;refine a4H (M [] s1 (lH N vs) H _ I O) (λR s' h=>?_) λe s' h=>h;have fin:∀ {σ':St} {H':Hp} {v:V} {u:Value},Inv (cL5 CX P w K mg base N qual scope f cdv A outer s H E) [] σ' H' s'->gR v u->Q v H'->CE outer P w H s Q u s':=
  λ{σ' H' v u} J z q=>⟨v,H',J.os,J.bare,J.base,J.hok,z,q⟩
 cases R with
 | ret u=>
   obtain⟨v,σ',H',J,z,q⟩:=h;exact fin J z q
 | next=>
   obtain⟨σ',H',J,q⟩:=h;exact fin (v:=V.non) (u:=Value.none) J rfl q
 | brk=>
   obtain⟨_,_,_,q⟩:=h;exact False.elim q
 | cont=>
   obtain⟨_,_,_,q⟩:=h;exact False.elim q
section
variable{X:Cx}{x:Str}{p pos:Pos}{e:Expr}{es:List Expr}{t:TA}{id T:String}{r:List V->Hp->VK->Prop}
def tCB(r:List V->Hp->VK->Prop)(t:TA):TE:=λσ H Q=>t σ H λvs a=>r vs a Q
def bA(c:lE X (.builtin id) r)(d:Gl X x)(hm:X.mg x=none)(f:bootBuiltins x=some (.builtin id))(ha:PA X (e::es) t)(hn:x≠"__name__":=by decide)(a:(x==("__debug__":Str))=false:=by decide)
  (g:starEach (e::es) X.env=(false,eval e X.env)::starEach es X.env:=by rfl) (b:(backTo pos (starEach es X.env)).any (·.1)=false:=by rfl):PE X (.Call (.Name x p) (e::es) [] pos) (tCB r t):=by
 intro pins s σ H Q I h;refine a4I (nR I d hm f ?_ hn a);exact PyProof.Rows.callWith_builtin1 (thn (ha pos pins s σ H _ I h) λus s1 ⟨vs,i,j,k,l⟩=>c pins s1 σ i vs us Q j k l) g b
def cI(c:lE X (.type T) r)(d:Gl X x)(hm:X.mg x=none)(f:bootBuiltins x=some (.type T))(ha:PA X (e::es) t)(hn:x≠"__name__":=by decide)(a:(x==("__debug__":Str))=false:=by decide)
  (g:starEach (e::es) X.env=(false,eval e X.env)::starEach es X.env:=by rfl) (b:(backTo pos (starEach es X.env)).any (·.1)=false:=by rfl):PE X (.Call (.Name x p) (e::es) [] pos) (tCB r t):=by
 intro pins s σ H Q I h;refine a4I (nR I d hm f ?_ hn a);exact a9e (thn (ha pos pins s σ H _ I h) λus s1 ⟨vs,i,j,k,l⟩=>c pins s1 σ i vs us Q j k l) g b
end
end L2
namespace HT
open PySem PyProof.Rows
section
open PySem.SeqAt
open PySem.AutoSeq1 (wpAny_loadPart')
open PySem.MeetsSeq PySem.MeetsSeq2 PySem.MeetsSeq3
end
section
variable{prog:Program}{w:World}{A:Around}{E:Value->Shared->Prop}{s:Shared}
def cat_tup{t b:Addr}{vs ws:List Value}{Q:Value->Shared->Prop}(l:IsTup s.heap t vs.toArray)(m:IsTup s.heap b ws.toArray)(h:vs≠[])
  (o:ws=[]->Q (.ref t) s) (p:ws≠[]->Q (.ref s.heap.objs.size) {s with heap:=s.heap.push {cls:=.type "tuple",data:=.seq (vs++ws).toArray}})
  (hsz:vs.length+ws.length<=sizeLine):wpAny (model prog w) A (binaryOp .Add (.ref t) (.ref b)) Q E s:=by
 obtain⟨⟨cls,i,data,sl⟩,f,j,n,hd⟩:=id l;obtain⟨⟨k,c,data2,sl2⟩,a,d,n2,hd2⟩:=id m;simp only at j hd d hd2;subst j hd d hd2;have e:vs.toArray++ws.toArray=(vs++ws).toArray:=by simp
 by_cases g:ws=[]
 ·exact concat_meets ⟨_,f,rfl⟩ ⟨_,a,rfl⟩ noFill_tuple_add seq_tuple_add F.slot_tuple_add F.entry_tuple_add (F.args_tuple_add_2 _ _)
   (tuple_addW1 t b vs.toArray ws.toArray n n2 i c sl sl2 (by simpa using h) (by simp[g])) ⟨f,a,o g⟩
 ·refine concat_meets ⟨_,f,rfl⟩ ⟨_,a,rfl⟩ noFill_tuple_add seq_tuple_add F.slot_tuple_add F.entry_tuple_add (F.args_tuple_add_2 _ _)
   (tuple_addW2 t b vs.toArray ws.toArray n n2 i c sl sl2 (by simpa using h) (by simpa using g) (by rw[List.size_toArray,List.size_toArray];exact hsz)) ⟨f,a,?_⟩
  rw[e];exact p g
noncomputable def sIx(n d:Nat):Option Int->Nat
 | none=>d
 | some v=>if v < 0 then(v+(n:Int)).toNat else min v.toNat n
def sIx_none(n d:Nat):sIx n d none=d:=rfl
def sIx_nat(n d k:Nat):sIx n d (some (k:Int))=min k n:=by
 show(if(k:Int) < 0 then((k:Int)+(n:Int)).toNat else min (k:Int).toNat n)=min k n;rw[a4z (by lia),a5h]
def dH4(n d:Nat)(hd:d<=n)(o:Option Int):sIx n d o<=n:=by
 cases o with
 | none=>exact hd
 | some v=>
   show(if v < 0 then(v+(n:Int)).toNat else min v.toNat n)<=n;by_cases a:v < 0;rw[a4y a];lia;rw[a4z a];exact Nat.min_le_right _ _
def bN7(v:Int)(n d:Nat):(if v < 0 then max (v+(n:Int)) 0 else min v (n:Int))=((sIx n d (some v):Nat):Int):=by
 show(if v < 0 then max (v+(n:Int)) 0 else min v (n:Int))=(((if v < 0 then(v+(n:Int)).toNat else min v.toNat n):Nat):Int);by_cases a:v < 0;simp only[if_pos a];lia;simp only[if_neg a];lia
def bH4(lo hi:Option Int)(n:Nat):Builtin.Slice.sliceAdjust lo hi 1 (n:Int)=(((sIx n 0 lo:Nat):Int),((sIx n n hi:Nat):Int)):=by
 have a:¬ ((1:Int) < 0):=by lia
 unfold Builtin.Slice.sliceAdjust;simp only[a,if_false];refine Prod.ext ?_ ?_
 ·cases lo with
  | none=>rfl
  | some v=>exact bN7 v n 0
 ·cases hi with
  | none=>rfl
  | some v=>exact bN7 v n n
def bH5(i j:Nat):Builtin.Slice.slicePlaces (i:Int) (j:Int) 1=j-i:=by
 unfold Builtin.Slice.slicePlaces;have a:(1:Int) > 0:=by lia
 simp only[a,if_true,Int.ediv_one];split<;>lia
def aC0{v:Value}{o:Option Int}{Q:Option Int->Shared->Prop}(p:IsPart v o)(h:Q o s):wpAny (model prog w) A (Builtin.Slice.slicePartIndex v) Q E s:=by
 cases p with
 | none=>exact slicePart_none h
 | int i t=>exact slicePart_int h
def lY{sl:Addr}{c d:Value}{lo hi:Option Int}{n:Nat}{Q:Int×Int×Nat->Shared->Prop}(e:s.heap.IsSliceOf sl c d .none)(f:IsPart c lo)(g:IsPart d hi)
  (h:Q (((sIx n 0 lo:Nat):Int),1,sIx n n hi-sIx n 0 lo) s):wpAny (model prog w) A (Builtin.Slice.sliceApplied (.ref sl) (pure (n:Int))) Q E s:=by
 obtain⟨os,a,i,b⟩:=id e;unfold Builtin.Slice.sliceApplied Builtin.Slice.sliceFields;refine a4x (a4x (a4R a b (x:=c) rfl (a4x (a4R a b (x:=d) rfl (a4x (a4R a b (x:=.none) rfl (a4A ?_)))))));refine a4x (slicePart_none ?_);show wpAny _ _ (if((1:Int)==0)=true then _ else _) _ _ s;rw[a4z (by decide)];refine a4x (aC0 f (a4x (aC0 g (a4x (a4A ?_)))));show wpAny _ _ (match Builtin.Slice.sliceAdjust lo hi 1 (n:Int)with | (lo,hi)=>pure (lo,(1:Int),Builtin.Slice.slicePlaces lo hi 1)) _ _ s;rw[bH4 lo hi n];show wpAny _ _ (pure (((sIx n 0 lo:Nat):Int),(1:Int),Builtin.Slice.slicePlaces ((sIx n 0 lo:Nat):Int) ((sIx n n hi:Nat):Int) 1)) _ _ s;rw[bH5];exact a4A h
def cB8(xs:Array Value)(i k:Nat):((List.range k).filterMap λ(m:Nat)=>xs[((i:Int)+(m:Int)*1).toNat]?).toArray=((xs.toList.drop i).take k).toArray:=by
 have e:(λ(m:Nat)=>xs[((i:Int)+(m:Int)*1).toNat]?)=λm=>xs[i+m]?:=by
  funext m;have:((i:Int)+(m:Int)*1).toNat=i+m:=by lia
  rw[this]
 rw[e];have:=pick_run xs i k;rw[List.filterMap_map]at this;have a:((λx=>xs[x]?) ∘ λx=>i+x)=λm=>xs[i+m]?:=rfl;rw[a]at this;rw[this]
def getItem_tuple_cut{t sl:Addr}{items:Array Value}{g i:Value}{lo hi:Option Int}{Q:Value->Shared->Prop}(b:IsTup s.heap t items)(j:s.heap.IsSliceOf sl g i .none)(k:IsPart g lo)(l:IsPart i hi)
  (n:¬ (sIx items.size 0 lo=0/\sIx items.size items.size hi=items.size))
  (h:Q (.ref s.heap.objs.size) {s with heap:=s.heap.push {cls:=.type "tuple",data:=.seq ((items.toList.drop (sIx items.size 0 lo)).take (sIx items.size items.size hi-sIx items.size 0 lo)).toArray}})
  (hsz:items.size<=sizeLine):wpAny (model prog w) A (getItem (.ref t) (.ref sl)) Q E s:=by
 have a:sizeOk (.seq ((items.toList.drop (sIx items.size 0 lo)).take (sIx items.size items.size hi-sIx items.size 0 lo)).toArray):=by
  show((items.toList.drop (sIx items.size 0 lo)).take (sIx items.size items.size hi-sIx items.size 0 lo)).toArray.size<=sizeLine;rw[a2b,a0d,a8e,a0h];lia
 have p:sIx items.size items.size hi<=items.size:=dH4 _ _ (a9a _) hi;obtain⟨os,c,d,o⟩:=id j;have e:s.TypeIs (.ref sl) "slice":=⟨os,c,d⟩;unfold getItem
 try with_reducible refine a4E ?_
 first | refine a4x (a4A ?_) | skip
 refine a4x (wpAny_sequenceKey b.typeIs (by decide) ?_);refine a4x (wpAny_callSpecial?_slot (name:=Str.ofString "__getitem__") b.typeIs a1f
  (a4P a1f b.typeIs entry_tuple_getitem ?_ (args_tuple_getitem _ _)))
 show wpAny _ _ (Builtin.Tuple.tupleItemsOf (.ref t) >>= _) _ _ s;refine a4x (tupleItemsOf_ b ?_);refine a4x (a4X e ?_);rw[a4y (by decide)];refine a4x (lY j k l ?_);have f:¬ ((((sIx items.size 0 lo:Nat):Int)==0&&(1:Int)==1&&(sIx items.size items.size hi-sIx items.size 0 lo)==items.size)=true):=by
  intro q;rw[a2f,a2f]at q;have r:((sIx items.size 0 lo:Nat):Int)=0:=eq_of_beq q.1.1;have u:sIx items.size items.size hi-sIx items.size 0 lo=items.size:=eq_of_beq q.2;exact n ⟨by lia,by lia⟩
 show wpAny _ _ (if(((sIx items.size 0 lo:Nat):Int)==0&&(1:Int)==1&&(sIx items.size items.size hi-sIx items.size 0 lo)==items.size)=true then _ else _) _ _ s;rw[a4z f,cB8]
 first
  | exact a4x (m:=Builtin.Tuple.tupleExact _) (a4G (a4A ⟨_,rfl,a4A h⟩) a)
  | exact a4x (m:=Builtin.Tuple.tupleExact _) (a4G (a4x (a4A (a4A ⟨_,rfl,a4A h⟩))) a)
  | exact a4x (a4x (m:=Builtin.Tuple.tupleExact _) (a4G (a4A (a4A ⟨_,rfl,a4A h⟩)) a))
  | exact a4x (a4x (m:=Builtin.Tuple.tupleExact _) (a4G (a4A ⟨_,rfl,a4A h⟩) a))
end
end HT
namespace L2
open PySem PySem.Spec PyProof.Rows
abbrev TO:=St->Hp->(Option Int->Hp->Prop)->Prop
def PO(X:Cx)(e:Option Expr)(t:TO):Prop:=
 ∀ (pins:List (Addr×Obj)) (s:Shared) (σ:St) (H:Hp) (Q:Option Int->Hp->Prop),Inv X pins σ H s->t σ H Q ->
   wpAny (model X.prog X.w) X.A (evalPart e X.env) (λu s'=>∃ o H',Inv X pins σ H' s'/\IsPart u o/\Q o H') X.xe s
def bN8:TO:=λ_ H Q=>Q none H
def dH5(t:TE):TO:=λσ H Q=>t σ H λx a=>∃ i,x=.int i/\Q (some i) a
section
variable{X:Cx}{e:Expr}{te:TE}{lo hi:Option Expr}{tl th:TO}{pos p2:Pos}
def cS3:PO X none bN8:=by
 intro pins s σ H Q I h;rw[evalPart_none];exact a4A ⟨none,H,I,.none,h⟩
def cS4(h:PE X e te):PO X (some e) (dH5 te):=by
 intro pins s σ H Q I a;rw[evalPart_some];refine thn (h pins s σ H _ I a) λu s1 Z0=>?_;obtain⟨x,b,c,d,f⟩:=Z0;obtain⟨i,rfl,q⟩:=f;obtain⟨t,rfl⟩:=d;exact⟨some i,b,c,.int i t,q⟩
def SlR(X:Cx)(r:V->Option Int->Option Int->Hp->VK->Prop):Prop:=
 ∀ (pins:List (Addr×Obj)) (s:Shared) (σ:St) (H:Hp) (x:V) (v a b:Value) (lo hi:Option Int) (sl:Addr) (Q:VK),Inv X pins σ H s->gR x v->s.heap.IsSliceOf sl a b .none->IsPart a lo->IsPart b hi->r x lo hi H Q ->
   ∃ T id,typeLookup (.type T) "__getitem__"=pure (some (.builtin id))/\s.TypeIs v T/\wpAny (model X.prog X.w) X.A (getItem v (.ref sl)) (EP X pins σ Q) X.xe s
def tSl(r:V->Option Int->Option Int->Hp->VK->Prop)(te:TE)(tl th:TO):TE:=λσ H Q=>te σ H λx a=>tl σ a λl b=>th σ b λu c=>r x l u c Q
def cB9{r:V->Option Int->Option Int->Hp->VK->Prop}(g:SlR X r)(i:PE X e te)(j:PO X lo tl)(k:PO X hi th):PE X (.Subscript e (.Slice lo hi none p2) pos) (tSl r te tl th):=by
 intro pins s σ H Q I h;refine Subscript_ (thn (i pins s σ H _ I h) λv s1 Z0=>?_);obtain⟨x,m,n,o,p⟩:=Z0;refine wpAny_Slice (thn (j pins s1 σ m _ n p) λc s2 ⟨l,t,y,z,B⟩=>thn (k pins s2 σ t _ y B) λd a ⟨u,f,C,D,E⟩=>?_);rw[evalPart_none];refine a4A ?_;have F:Inv X pins σ f {a with heap:=a.heap.push {cls:=.type "slice",data:=.fields #[c,d,.none]}}:=C.kept (t':=a.toks) λb ob q=>a7a _ q;obtain⟨T,id,G,J,K⟩:=g pins {a with heap:=a.heap.push {cls:=.type "slice",data:=.fields #[c,d,.none]}} σ f x v c d l u a.heap.objs.size Q F o (Heap.IsSliceOf.new ..) z D E;show wpAny (model X.prog X.w) X.A (subscriptTail e (.Slice lo hi none p2) v (.ref a.heap.objs.size)) (EP X pins σ Q) X.xe {a with heap:=a.heap.push {cls:=.type "slice",data:=.fields #[c,d,.none]}};exact tail_any (ops:=[.ref a.heap.objs.size,v]) J G K (by with_unfolding_all rfl)
noncomputable def aT8(xs:List V)(lo hi:Option Int):List V:=(xs.drop (HT.sIx xs.length 0 lo)).take (HT.sIx xs.length xs.length hi-HT.sIx xs.length 0 lo)
def tR(xs:List V)(lo hi:Option Int):(aT8 xs lo hi).length<=xs.length:=by
 unfold aT8;rw[a0d,a8e];lia
def eD5(K:W.Frag):V->Option Int->Option Int->Hp->VK->Prop:=λx lo hi H Q=>∃ a xs,x=.ref a/\SqT K H a xs /\
 ¬ (HT.sIx xs.length 0 lo=0/\HT.sIx xs.length xs.length hi=xs.length)/\∀ p,H p=none->Q (.ref p) (upd H p (.tup (aT8 xs lo hi)))
def dH6:SlR X (eD5 X.K):=by
 intro pins s σ H x v n p lo hi sl Q I g i j k h;obtain⟨a,xs,rfl,l,m,q⟩:=h;cases g;obtain⟨d,r,e,f⟩:=I.tuple l;have c:d.toArray.size=xs.length:=by rw[a2b];exact r.length.symm
 refine⟨"tuple",_,a1f.lookup,e.typeIs,?_⟩;refine HT.getItem_tuple_cut e i j k (by rw[c];exact m) ?_ (by rw[c];exact f);rw[c];refine⟨.ref s.heap.objs.size,_,I.laid (t':=s.toks) (o:=.tup (aT8 xs lo hi)) (λb ob q=>a7a _ q) (a9a _) ?_,rfl,q _ (I.hok.fresh (a9a _))⟩;exact⟨a8b (tR xs lo hi) f,_,(r.drop (HT.sIx xs.length 0 lo)).take (HT.sIx xs.length xs.length hi-HT.sIx xs.length 0 lo),IsTup.new _ _,⟨_,a2c _ rfl,rfl⟩⟩
def dX2(K:W.Frag):R2:=λx y H Q=>∃ a b xs ys,x=.ref a/\y=.ref b/\SqT K H a xs/\SqT K H b ys/\xs≠[]/\xs.length+ys.length<=sizeLine /\
 (ys=[]->Q (.ref a) H)/\(ys≠[]->∀ p,H p=none->Q (.ref p) (upd H p (.tup (xs++ys))))
def dI.nil_iff{xs:List V}{us:List Value}(r:dI xs us):us=[]↔xs=[]:=by
 cases r with
 | nil=>simp
 | cons _ _=>simp
def cS5:OpR X (binaryOp .Add) (dX2 X.K):=by
 intro pins s σ H x y v u Q I g i h;obtain⟨a,b,xs,ys,rfl,rfl,ha,j,k,e,l,m⟩:=h;cases g;cases i;obtain⟨n,d,p,_⟩:=I.tuple ha;obtain⟨f,c,p2,_⟩:=I.tuple j;refine HT.cat_tup p p2 (λz=>k (d.nil_iff.mp z)) (λz=>⟨.ref a,H,I,rfl,l (c.nil_iff.mp z)⟩) (λz=>?_) (by rw[← d.length,← c.length];exact e);refine⟨.ref s.heap.objs.size,_,I.laid (t':=s.toks) (o:=.tup (xs++ys)) (λb ob q=>a7a _ q) (a9a _) ?_,rfl,m (λw=>z (c.nil_iff.mpr w)) _ (I.hok.fresh (a9a _))⟩;exact⟨by rw[a5a];exact e,_,d.append c,IsTup.new _ _,⟨_,a2c _ rfl,rfl⟩⟩
end
noncomputable def ixN(n:Nat)(i:Int):Option Nat:=if 0<=i then(if i < n then some i.toNat else none)else if -(n:Int)<=i then some (i+n).toNat else none
noncomputable def atI{α:Type}(xs:List α)(i:Int):Option α:=(ixN xs.length i).bind λj=>xs[j]?
def aT9{n:Nat}{i:Int}{j:Nat}(h:ixN n i=some j):seqIndex? i n=some j/\j < n /\ -(n:Int)<=i/\i < n:=by
 unfold ixN at h;by_cases h0:0<=i;rw[a4y h0]at h;by_cases a:i < n;rw[a4y a]at h;have e:i.toNat=j:=a0b h;exact⟨by rw[seqIndex_of h0 a,e],by lia,by lia,a⟩;rw[a4z a]at h;cases h;rw[a4z h0]at h;by_cases a:-(n:Int)<=i;rw[a4y a]at h;have e:(i+n).toNat=j:=a0b h;exact⟨by rw[seqIndex_neg (by lia) a,e],by lia,a,by lia⟩;rw[a4z a]at h;cases h
def aU0{α:Type}{xs:List α}{i:Int}{v:α}(h:atI xs i=some v):∃ j,seqIndex? i xs.length=some j/\xs[j]? = some v/\j < xs.length /\ -(xs.length:Int)<=i/\i < xs.length:=by
 unfold atI at h;cases e:ixN xs.length i with
 | none=>rw[e]at h;cases h
 | some j=>
   rw[e]at h;obtain⟨a,b,c,d⟩:=aT9 e;exact⟨j,a,h,b,c,d⟩
def bN9{α:Type}{xs:List α}{j:Nat}{v:α}(h:xs[j]? = some v):atI xs (j:Int)=some v:=by
 have a:j < xs.length:=(a2a.mp h).1;have e:ixN xs.length (j:Int)=some j:=by
  unfold ixN;rw[a4y (by lia),a4y (by lia)];simp
 unfold atI;rw[e];exact h
def bO0(b:Expr):Prop:=∀ o i,subscripted b false o i=operate [o,i] (getItem o i)
def IxR(X:Cx)(r:R2):Prop:=
 ∀ (b a:Expr) (pins:List (Addr×Obj)) (s:Shared) (σ:St) (H:Hp) (x y:V) (v u:Value) (Q:VK),Inv X pins σ H s->gR x v->gR y u->r x y H Q ->
   subscripted a false v u=operate [v,u] (getItem v u)->wpAny (model X.prog X.w) X.A (subscriptTail b a v u) (EP X pins σ Q) X.xe s
def MtR(X:Cx)(id:String)(r:V->List V->Hp->VK->Prop):Prop:=
 ∀ (pins:List (Addr×Obj)) (s:Shared) (σ:St) (H:Hp) (x:V) (xs:List V) (v:Value) (us:List Value) (Q:VK),Inv X pins σ H s->gR x v->dI xs us->r x xs H Q ->
   wpAny (model X.prog X.w) X.A (call (.builtin id) (v::us)) (EP X pins σ Q) X.xe s
section
variable{X:Cx}{a b:Expr}{ta tb:TE}{pos:Pos}
def dX3{r:R2}(c:IxR X r)(ha:PE X a ta)(d:PE X b tb)(e:bO0 b):PE X (.Subscript a b pos) (tOp r ta tb):=by
 intro pins s σ H Q I h;exact Subscript_ (dW4 ha d I h λv u s2 x y f g i j q=>c a b pins s2 σ f x y v u Q g i j q (e _ _))
def eD6(K:W.Frag):R2:=λx y H Q=>∃ p xs i v,x=.ref p/\y=.int i/\SqL K H p xs/\atI xs i=some v/\Q v H
def eD7(K:W.Frag):R2:=λx y H Q=>∃ p xs i v,x=.ref p/\y=.int i/\SqT K H p xs/\atI xs i=some v/\Q v H
def eD8:R2:=λx y H Q=>∃ z i c,x=.str z/\y=.int i/\z.length<=sizeLine/\atI z.cps.toList i=some c/\Q (.str ⟨#[c]⟩) H
def cS6:IxR X (eD6 X.K):=by
 intro b c pins s σ H x y v u Q I m n h k;obtain⟨p,xs,i,z,rfl,rfl,o,A,q⟩:=h;cases m;obtain⟨t,rfl⟩:=n;obtain⟨d,r,e,F⟩:=I.list o;obtain⟨j,a,B,G,C,D⟩:=aU0 A;obtain⟨w,l,f⟩:=r.get B;have E:=r.length;have hn:=tP;have fin:EP X pins σ Q w s:=⟨z,H,I,f,q⟩;by_cases h0:0<=i
 ·have g:i.toNat=j:=by
   rw[seqIndex_of h0 D]at a;exact a0b a
  exact item_listR e.isList h0 (by lia) (by rw[g];simpa using l) fin k
 ·have g:(i+(d.toArray.size:Int)).toNat=j:=by
   rw[seqIndex_neg (by lia) C]at a;rw[a2b,← E];exact a0b a
  exact subscriptTail_builtinR (x:=w) e.isList.typeIs slot_list_getitem.lookup
   (wpAny_getItem_list_neg (Q:=λr s'=>r=w/\EP X pins σ Q r s') e.isList (by lia) (by rw[a2b]<;>lia) (by lia) (by rw[g];simpa using l) ⟨rfl,fin⟩) k
def dH7:IxR X (eD7 X.K):=by
 intro a b pins s σ H x y v u Q I e f h g;obtain⟨p,xs,i,z,rfl,rfl,k,l,q⟩:=h;cases e;obtain⟨t,rfl⟩:=f;obtain⟨m,r,d,C⟩:=I.tuple k;obtain⟨j,n,o,D,E,F⟩:=aU0 l;obtain⟨w,A,c⟩:=r.get o;have B:=r.length;have hn:=tP;have fin:EP X pins σ Q w s:=⟨z,H,I,c,q⟩;exact subscriptTail_builtinR (x:=w) d.typeIs slot_tuple_getitem.lookup
  (getItem_tuple (j:=j) (Q:=λr s'=>r=w/\EP X pins σ Q r s') d (by lia) (by lia) (by rw[a2b,← B];exact n) (by simpa using A) ⟨rfl,fin⟩) g
def dH8:IxR X eD8:=by
 intro a b pins s σ H x y v u Q I e f h g;obtain⟨z,i,c,rfl,rfl,w,k,q⟩:=h;obtain⟨t,rfl⟩:=e;obtain⟨A,rfl⟩:=f;obtain⟨j,d,l,B,m,n⟩:=aU0 k;have o:z.cps.toList.length=z.length:=by simp[Str.length]
 rw[o]at d m n;have hn:=tP;exact tail_any (typeIs_str s z t) slot_str_getitem.lookup (getItem_str (c:=c) (by
  have p:decide (i < -(2 ^ 63:Int))=false:=a4B (by lia);have r:decide (i ≥ 2 ^ 63)=false:=a4B (by lia);rw[p,r,Bool.or_false]) (by rw[d];simpa using l) ⟨.str ⟨#[c]⟩,H,I.tok _,⟨_,rfl⟩,q⟩) g
def bH6(a:List Value)(n j:Nat)(u:Value):Obj.mapSeq (·.setIfInBounds j u) {cls:=.type "list",data:=.seq a.toArray n}={cls:=.type "list",data:=.seq (a.set j u).toArray n}:=by
 simp[Obj.mapSeq]
theorem Inv.lst{pins:List (Addr×Obj)}{σ:St}{H:Hp}{s:Shared}{p:Addr}{xs:List V}(I:Inv X pins σ H s)(h:H p=some (.lst xs)) :
  ∃ (a:List Value) (n:Nat),dI xs a/\s.heap.get? p=some {cls:=.type "list",data:=.seq a.toArray n}/\xs.length<=sizeLine:=by
 obtain⟨z,a,n,r,e⟩:=I.hok p _ h;exact⟨a,n,r,e,z⟩
def Inv.lstUpd{pins:List (Addr×Obj)}{σ:St}{H:Hp}{s:Shared}{p:Addr}{xs ys:List V}{a its':List Value}{n c:Nat}{f:Obj->Obj}(I:Inv X pins σ H s)(h:H p=some (.lst xs))
  (g:s.heap.get? p=some {cls:=.type "list",data:=.seq a.toArray n}) (d:f {cls:=.type "list",data:=.seq a.toArray n}={cls:=.type "list",data:=.seq its'.toArray c}) (r:dI ys its') (i:ys.length<=sizeLine) (t:Nat) :
  Inv X pins σ (upd H p (.lst ys)) {s with heap:=s.heap.update p f,toks:=t}:=by
 have e:(s.heap.update p f).get? p=some {cls:=.type "list",data:=.seq its'.toArray c}:=by
  rw[Heap.get?_update_self f g (by rw[d]<;>rfl),d]
 refine I.write (x:=p) (e:=p) (by rw[h];trivial) (.inl rfl) (λb u j q=>(Heap.get?_update_other _ _ (a4e j)).trans q) ⟨_,e⟩ ?_;exact⟨i,its',c,r,e⟩
def dH9:V->V->V->Hp->(Hp->Prop)->Prop:=λo i v H Q=>∃ p xs k j,o=.ref p/\i=.int k/\H p=some (.lst xs)/\ixN xs.length k=some j/\Q (upd H p (.lst (xs.set j v)))
def bA7:eB1 X dH9:=by
 intro pins s σ H o i v ov A u Q I w ri x h;obtain⟨p,xs,k,j,rfl,rfl,f,y,q⟩:=h;cases w;obtain⟨t,rfl⟩:=ri;obtain⟨a,n,r,c,z⟩:=I.lst f;obtain⟨b,B,g,l⟩:=aT9 y;have d:=r.length;have hn:=tP;have m:Inv X pins σ (upd H p (.lst (xs.set j v))) {s with heap:=s.heap.update p (Obj.mapSeq (·.setIfInBounds j u))}:=
  I.lstUpd f c (bH6 a n j u) (r.set x j) (by rw[a1g];exact z) s.toks
 by_cases h0:0<=k
 ·have e:k.toNat=j:=by
   rw[seqIndex_of h0 l]at b;exact a0b b
  exact W.ki_setAt c h0 (by lia) (by rw[a2b,← d];exact l) (by rw[e];exact⟨_,m,q⟩)
 ·have e:(k+(a.toArray.size:Int)).toNat=j:=by
   rw[seqIndex_neg (by lia) g]at b;rw[a2b,← d];exact a0b b
  exact W.ki_setBack c (by lia) (by rw[a2b,← d];exact g) (by lia) (by rw[e];exact⟨_,m,q⟩)
def aL7(lo hi:Option Int)(n:Nat):(sliceBounds lo hi none n).1=((HT.sIx n 0 lo:Nat):Int)/\(sliceBounds lo hi none n).2.1=((HT.sIx n n hi:Nat):Int)/\(sliceBounds lo hi none n).2.2=1:=by
 refine⟨?_,?_,rfl⟩
 ·cases lo with
  | none=>simp[sliceBounds,HT.sIx]
  | some i=>
    simp only[sliceBounds,HT.sIx,Option.getD_none,show(1:Int) > 0 by decide,if_true];by_cases h:i < 0;simp only[h,if_true]<;>lia;simp only[h,if_false]<;>lia
 ·cases hi with
  | none=>simp[sliceBounds,HT.sIx]
  | some i=>
    simp only[sliceBounds,HT.sIx,Option.getD_none,show(1:Int) > 0 by decide,if_true];by_cases h:i < 0;simp only[h,if_true]<;>lia;simp only[h,if_false]<;>lia
def aF7(a:List Value)(lo hi:Option Int):slicePick a.toArray lo hi none=((a.drop (HT.sIx a.length 0 lo)).take (HT.sIx a.length a.length hi-HT.sIx a.length 0 lo)).toArray:=by
 obtain⟨b,c,d⟩:=aL7 lo hi a.toArray.size;unfold slicePick;rw[b,c,d];simp only[sliceRange_one,pick_run,List.size_toArray]<;>rfl
def eD9(K:W.Frag):V->Option Int->Option Int->Hp->VK->Prop:=λx lo hi H Q=>∃ a xs,x=.ref a/\SqL K H a xs/\∀ p,H p=none->Q (.ref p) (upd H p (.lst (aT8 xs lo hi)))
def cS7:SlR X (eD9 X.K):=by
 intro pins s σ H x v m n lo hi sl Q I e f g i h;obtain⟨a,xs,rfl,j,q⟩:=h;cases e;obtain⟨k,r,d,l⟩:=I.list j;have c:=r.length;refine⟨"list",_,slot_list_getitem.lookup,d.isList.typeIs,?_⟩;refine wpAny_getItem_list_slice d.isList f g i .none (by simp) ?_ (by rw[List.size_toArray]<;>lia);rw[aF7,← c];refine⟨.ref s.heap.objs.size,_,I.laid (t':=s.toks) (o:=.lst (aT8 xs lo hi)) (λb ob q=>a7a _ q) (a9a _) ?_,rfl,q _ (I.hok.fresh (a9a _))⟩;exact⟨a8b (tR xs lo hi) l,_,0,(r.drop (HT.sIx xs.length 0 lo)).take (HT.sIx xs.length xs.length hi-HT.sIx xs.length 0 lo),a2c _ rfl⟩
def sD:lE X (.builtin "len") (λxs H Q=>∃ p ys,xs=[.ref p]/\(SqL X.K H p ys\/SqT X.K H p ys)/\Q (.int ys.length) H):=by
 intro pins s σ H xs us Q I r h;obtain⟨p,ys,rfl,b,q⟩:=h;obtain⟨u,rfl,f⟩:=aA4 r;cases f;have hn:=tP;rcases b with b | b;obtain⟨c,d,e,g⟩:=I.list b;have a:=d.length;exact Calls.call_len_list e.isList (by simp only[List.size_toArray]<;>lia) ⟨.int ys.length,H,I.tok _,⟨s.toks+1,by rw[a2b,a]⟩,q⟩;obtain⟨c,d,e,g⟩:=I.tuple b;have a:=d.length;exact len_tuple e (by simp only[List.size_toArray]<;>lia) ⟨.int ys.length,H,I.tok _,⟨s.toks+1,by rw[a2b,a]⟩,q⟩
def aL8:lE X (.builtin "len") (λxs H Q=>∃ z,xs=[.str z]/\z.length<=sizeLine/\Q (.int z.length) H):=by
 intro pins s σ H xs us Q I r h;obtain⟨z,rfl,a,q⟩:=h;obtain⟨u,rfl,t,rfl⟩:=aA4 r;have hn:=tP;exact len_str (by lia) ⟨.int z.length,H,I.tok _,⟨_,rfl⟩,q⟩
def sE:lE X (.type "list") (λxs H Q=>∃ p ys,xs=[.ref p]/\(SqL X.K H p ys\/SqT X.K H p ys)/\∀ l,H l=none->Q (.ref l) (upd H l (.lst ys))):=by
 intro pins s σ H xs us Q I r h;obtain⟨p,ys,rfl,f,q⟩:=h;obtain⟨u,rfl,t⟩:=aA4 r;cases t;have fin:∀ (a:List Value),dI ys a->ys.length<=sizeLine->∀ (h':Heap) (c:Nat),(∀ b o',s.heap.get? b=some o'->h'.get? b=some o') ->
   h'.get? s.heap.objs.size=some {cls:=.type "list",dict:=none,data:=.seq a.toArray c,slots:=#[]}->EP X pins σ Q (.ref s.heap.objs.size) {s with heap:=h'}:=λa d g h' c kp e=>
  ⟨.ref s.heap.objs.size,_,I.laid (t':=s.toks) kp (a9a _) (show eV X.prog X.w _ h' _ (.lst ys)from⟨g,a,c,d,e⟩),rfl,q _ (I.hok.fresh (a9a _))⟩
 rcases f with f | f;obtain⟨a,d,j,g⟩:=I.list f;have i:=d.length;obtain⟨o,k,m,n,hd⟩:=j.isList;exact call_list_seq p (.inl rfl) k m hd (λh' c kp e=>fin a d g h' c kp e) (by simp only[List.size_toArray]<;>lia);obtain⟨a,d,j,g⟩:=I.tuple f;have i:=d.length;obtain⟨o,k,m,n,hd⟩:=j;exact call_list_seq p (.inr rfl) k m hd (λh' c kp e=>fin a d g h' c kp e) (by simp only[List.size_toArray]<;>lia)
def pV:lE X (.type "tuple") (λxs H Q=>∃ p ys,xs=[.ref p]/\((SqL X.K H p ys/\∀ l,H l=none->Q (.ref l) (upd H l (.tup ys)))\/(SqT X.K H p ys/\Q (.ref p) H))):=by
 intro pins s σ H xs us Q I r h;obtain⟨p,ys,rfl,h⟩:=h;obtain⟨u,rfl,k⟩:=aA4 r;cases k;rcases h with⟨c,q⟩ | ⟨c,q⟩
 ·obtain⟨a,d,f,g⟩:=I.list c;have i:=d.length;refine call_tuple_list f.isList (λh' kp=>?_) (by simp only[List.size_toArray]<;>lia);have j:Inv X pins σ H {s with heap:=h'}:=I.kept (t':=s.toks) kp;have m:Inv X pins σ (upd H h'.objs.size (.tup ys)) {s with heap:=h'.push {cls:=.type "tuple",data:=.seq a.toArray}}:=
   j.laid (t':=s.toks) (λb o e=>a7a _ e) (a9a _) (show eV X.prog X.w _ _ _ (.tup ys)from⟨g,a,d,IsTup.new _ _,⟨_,a2c _ rfl,rfl⟩⟩)
  exact⟨.ref h'.objs.size,_,m,rfl,q _ (j.hok.fresh (a9a _))⟩
 ·obtain⟨a,d,f,g⟩:=I.tuple c;exact call_tuple_same f ⟨.ref p,H,I,rfl,q⟩
def tyV(K:W.Frag)(T:String)(x:V)(H:Hp):Prop:=match x with
 | .str _=>T="str"
 | .int _=>T="int"
 | .ref p=>(T="list"/\∃ xs,SqL K H p xs)\/(T="tuple"/\∃ o,K.lookup p=some o/\o.cls=.type "tuple"/\o.dict=none) \/
   (T="dict"/\((∃ kvs,H p=some (.dK kvs))\/∃ kvs,H p=some (.dT kvs)))\/(T="set"/\∃ S n,H p=some (.set S n))
 | _=>False
def cL6{pins:List (Addr×Obj)}{σ:St}{H:Hp}{s:Shared}{T:String}{x:V}{v:Value}(I:Inv X pins σ H s)(r:gR x v)(ty:tyV X.K T x H) :
  s.TypeIs v T/\∀ a,v=.ref a->∃ ob,s.heap.get? a=some ob/\ob.dict=none:=by
 cases x with
 | str z=>
   obtain⟨t,rfl⟩:=r;cases (show T="str" from ty);exact⟨typeIs_str s z t,λ_ e=>nomatch e⟩
 | int i=>
   obtain⟨t,rfl⟩:=r;cases (show T="int" from ty);exact⟨typeIs_int s i t,λ_ e=>nomatch e⟩
 | ref p=>
   cases r;rcases ty with⟨rfl,xs,g⟩ | ⟨rfl,o,b,h,hd⟩ | ⟨rfl,b⟩ | ⟨rfl,S,n,b⟩;obtain⟨j,_,f,_⟩:=I.list g;refine⟨f.isList.typeIs,λa e=>?_⟩;cases e;obtain⟨o,n,e,c,hd,_⟩:=f;exact⟨o,e,hd⟩;refine⟨⟨o,I.kIn p o b,h⟩,λa e=>?_⟩;cases e;exact⟨o,I.kIn _ o b,hd⟩
   ·have z:∃ o,s.heap.get? p=some o/\o.ExactDict:=by
     rcases b with⟨kvs,b⟩ | ⟨kvs,b⟩;obtain⟨_,_,_,_,o,_,_,e,ex,_⟩:=I.hok p _ b;exact⟨o,e,ex⟩;obtain⟨_,_,_,_,o,_,_,e,ex,_⟩:=I.hok p _ b;exact⟨o,e,ex⟩
    obtain⟨o,e,ex⟩:=z;refine⟨⟨o,e,ex.1⟩,λa d=>?_⟩;cases d;exact⟨o,e,ex.2.1⟩
   ·obtain⟨o,_,_,_,e,ex,_⟩:=I.hok p _ b;refine⟨⟨o,e,ex.1⟩,λa d=>?_⟩;cases d;exact⟨o,e,ex.2.1⟩
 | _=>exact False.elim ty
def dX4(K:W.Frag)(T:String)(r:V->List V->Hp->VK->Prop)(to:TE):TE:=λσ H Q=>to σ H λx a=>tyV K T x a/\r x [] a Q
def tBM(K:W.Frag)(T:String)(r:V->List V->Hp->VK->Prop)(to:TE)(t:TA):TE:=λσ H Q=>to σ H λx a=>tyV K T x a/\t σ a λxs b=>r x xs b Q
variable{o e:Expr}{es:List Expr}{to:TE}{t:TA}{name:Str}{apos cpos:Pos}{T id:String}{r:V->List V->Hp->VK->Prop}
def dI0(f:PlainAttrs T)(slot:Slot T name id)(c:typeOf (.builtin id)=pure (.type "method_descriptor"))(hm:MtR X id r)(g:PE X o to)
  (a:attributeBase o name X.env (eval o X.env)=eval o X.env:=by rfl) (b:(apos.endLine==cpos.line)=true:=by rfl):PE X (.Call (.Attribute o name apos) [] [] cpos) (dX4 X.K T r to):=by
 intro pins s σ H Q I h;refine wpAny_Call_method0_late a b (thn (g pins s σ H _ I h) λv s1 Z0=>?_);obtain⟨x,i,d,e,ty,j⟩:=Z0;obtain⟨k,l⟩:=cL6 d e ty;exact⟨T,id,f,slot,c,k,l,Calls.callWith_builtin rfl (PySem.evalArgs_none (hm pins s1 σ i x [] v [] Q d e .nil j))⟩
def dX5(k:PlainAttrs T)(slot:Slot T name id)(f:typeOf (.builtin id)=pure (.type "method_descriptor"))(hm:MtR X id r)(l:PE X o to)(ha:PA X (e::es) t)
  (b:attributeBase o name X.env (eval o X.env)=eval o X.env:=by rfl)
  (d:((backTo cpos (starEach (e::es) X.env)).all (λx=>!x.1)&&(backToKw cpos (keywordEach [] X.env)).all (λx=>x.1.isSome)
   && decide ((e::es).length+([]:List Keyword).length+(if([]:List Keyword).isEmpty then 0 else 1) < 30))=true:=by rfl)
  (c:(apos.endLine==cpos.line)=true:=by rfl) (m:starEach (e::es) X.env=(false,eval e X.env)::starEach es X.env:=by rfl) (a:(backTo cpos (starEach es X.env)).any (·.1)=false:=by rfl) :
  PE X (.Call (.Attribute o name apos) (e::es) [] cpos) (tBM X.K T r to t):=by
 intro pins s σ H Q I h;refine wpAny_Call_method_late b d c rfl (thn (l pins s σ H _ I h) λv s1 Z0=>?_);obtain⟨x,n,g,i,ty,p⟩:=Z0;obtain⟨q,u⟩:=cL6 g i ty;refine⟨T,id,k,slot,f,q,u,?_⟩;have j:=ha cpos pins s1 σ n _ g p;rw[m]at j ⊢;refine Calls.callWith_builtin (by show(false||(backTo cpos (starEach es X.env)).any (·.1))=false;rw[a]<;>rfl) (Calls.evalArgs_plain ?_);exact thn j λus s2 ⟨vs,w,y,z,A⟩=>hm pins s2 σ w x vs v us Q y i z A
end
def MtM(X:Cx)(id:String)(r:V->List V->Hp->VK->Prop):Prop:=
 ∀ (pins:List (Addr×Obj)) (s:Shared) (σ:St) (H:Hp) (x:V) (xs:List V) (v:Value) (us:List Value) (Q:VK),Inv X pins σ H s->gR x v->dI xs us->r x xs H Q ->
   wpAny (model X.prog X.w) X.A (call (.builtin id) (v::us)) (EP X pins σ Q) X.xe s
def dI.one:∀ {x:V} {us:List Value},dI [x] us->∃ u,us=[u]/\gR x u
 | _,_,.cons r .nil=>⟨_,rfl,r⟩
def dI.zero:∀ {us:List Value},dI [] us->us=[]
 | _,.nil=>rfl
theorem dI.dropLast{xs:List V}{us:List Value}(h:dI xs us):dI xs.dropLast us.dropLast:=by
 induction h with
 | nil=>exact .nil
 | cons r t a=>
   cases t with
   | nil=>exact .nil
   | cons q b=>exact .cons r a
theorem dI.eraseIdx:∀ {xs:List V} {us:List Value} (i:Nat),dI xs us->dI (xs.eraseIdx i) (us.eraseIdx i)
 | _,_,_,.nil=>.nil
 | _,_,0,.cons _ t=>t
 | _,_,i+1,.cons r t=>.cons r (dI.eraseIdx i t)
def bH7{α:Type}(l:List α):l.eraseIdx (l.length-1)=l.dropLast:=by
 induction l with
 | nil=>rfl
 | cons a r c=>
   cases r with
   | nil=>rfl
   | cons b r=>
     have e:(a::b::r).length-1=((b::r).length-1)+1:=by
      have d:(a::b::r).length=r.length+2:=rfl;have f:(b::r).length=r.length+1:=rfl;lia
     rw[e,List.eraseIdx_cons_succ,c]
     all_goals rfl
theorem aL9{α:Type}:∀ (l:List α) (i:Nat),(l.eraseIdx i).length<=l.length
 | [],_=>a9a _
 | _::_,0=>Nat.le_succ _
 | _::r,i+1=>Nat.succ_le_succ (aL9 r i)
section
variable{X:Cx}{pins:List (Addr×Obj)}{σ:St}{H:Hp}{s:Shared}{l b:Addr}{xs ys zs:List V}
def Inv.lset{a its':List Value}{n:Nat}{f:Array Value->Array Value}{t':Nat}(I:Inv X pins σ H s)(b:H l=some (.lst xs))
  (e:s.heap.get? l=some {cls:=.type "list",data:=.seq a.toArray n}) (c:f a.toArray=its'.toArray) (d:dI ys its') (g:ys.length<=sizeLine) :
  Inv X pins σ (upd H l (.lst ys)) {s with heap:=s.heap.update l (Obj.mapSeq f),toks:=t'}:=by
 have q:=PySem.IsL.update e f;rw[c]at q;refine I.write (x:=l) (e:=l) (by rw[b];exact trivial) (.inl rfl) (λj u h i=>(Heap.get?_update_other s.heap (Obj.mapSeq f) (a4e h)).trans i) ⟨_,q⟩ ?_;exact⟨g,its',_,d,q⟩
def Inv.lnew{a:List Value}{t':Nat}(I:Inv X pins σ H s)(b:dI ys a)(c:ys.length<=sizeLine) :
  Inv X pins σ (upd H s.heap.objs.size (.lst ys)) {s with heap:=s.heap.push {cls:=.type "list",data:=.seq a.toArray},toks:=t'}:=
 I.laid (λ_ _ q=>a7a _ q) (a9a _) ⟨c,a,0,b,a2c _ rfl⟩
theorem Inv.fresh(I:Inv X pins σ H s):H s.heap.objs.size=none:=I.hok.fresh (a9a _)
def Inv.lstM(I:Inv X pins σ H s)(b:H l=some (.lst xs)):xs.length<=sizeLine/\∃ (a:List Value) (n:Nat),dI xs a/\xs.length=a.length/\s.heap.get? l=some {cls:=.type "list",data:=.seq a.toArray n}:=by
 obtain⟨z,a,n,r,e⟩:=I.hok l _ b;exact⟨z,a,n,r,r.length,e⟩
def bA8{n:Nat}(h:n<=sizeLine):Builtin.List.listTooLong n=false:=by
 unfold Builtin.List.listTooLong;exact a4B (by lia)
end
section
variable{X:Cx}
def bO1:V->List V->Hp->VK->Prop:=λx vs H Q=>∃ l xs y,x=.ref l/\vs=[y]/\H l=some (.lst xs)/\xs.length < sizeLine/\Q .non (upd H l (.lst (xs++[y])))
def eX:MtM X "list.append" bO1:=by
 intro pins s σ H x vs v us Q I c d h;obtain⟨l,xs,y,rfl,rfl,b,g,q⟩:=h;cases c;obtain⟨u,rfl,f⟩:=d.one;obtain⟨z,a,n,r,i,e⟩:=I.lstM b;refine a4Q F.slot_list_append ⟨_,e,rfl⟩ F.entry_list_append (F.args_list_append_2 _ _) (PySem.list_append l a.toArray n u (by rw[a2b];lia)) ⟨e,?_⟩;refine⟨.non,_,I.lset (its':=a++[u]) b e (by simp) (r.append (.cons f .nil)) ?_,rfl,q⟩;rw[a5a,List.length_singleton];lia
def cS8:V->List V->Hp->VK->Prop:=λx vs H Q=>∃ l b xs zs,x=.ref l/\vs=[.ref b]/\H l=some (.lst xs)/\H b=some (.lst zs)/\xs.length+zs.length<=sizeLine/\Q .non (upd H l (.lst (xs++zs)))
def dI1:MtM X "list.extend" cS8:=by
 intro pins s σ H x vs v us Q I i j h;obtain⟨l,b,xs,w,rfl,rfl,g,k,y,q⟩:=h;cases i;obtain⟨u,rfl,m⟩:=j.one;cases m;obtain⟨z,c,n,r,A,e⟩:=I.lstM g;obtain⟨B,a,n2,o,p,t⟩:=I.lstM k;have f:c.toArray.size+a.toArray.size<=sizeLine:=by rw[a2b,a2b];lia
 have d:¬ (!c.toArray.isEmpty&&Builtin.List.listTooLong (c.toArray.size+a.toArray.size))=true:=by
  rw[bA8 f,Bool.and_false];exact a0c
 refine a4Q F.slot_list_extend ⟨_,e,rfl⟩ F.entry_list_extend (F.args_list_extend_2 _ _)
  (AutoSeq1.list_extend_list_list_0 l c.toArray n b a.toArray n2 d (by rw[a2b];lia) (by lia)) ⟨e,t,?_⟩
 refine⟨.non,_,I.lset (its':=c++a) g e (by simp) (r.append o) ?_,rfl,q⟩;rw[a5a];lia
def eE0:V->List V->Hp->VK->Prop:=λx vs H Q=>∃ l xs y,x=.ref l/\vs=[]/\H l=some (.lst xs)/\xs[xs.length-1]? = some y/\Q y (upd H l (.lst xs.dropLast))
def dI2:MtM X "list.pop" eE0:=by
 intro pins s σ H x vs v us Q I f g h;obtain⟨l,xs,y,rfl,rfl,d,i,q⟩:=h;cases f;have b:=g.zero;subst b;obtain⟨z,a,n,r,j,e⟩:=I.lstM d;obtain⟨u,k,m⟩:=r.get i;have c:a.toArray[a.toArray.size-1]? = some u:=by
  show a.toArray[a.length-1]? = some u;rw[← a6g,← j];exact k
 refine a4Q F.slot_list_pop ⟨_,e,rfl⟩ F.entry_list_pop (F.args_list_pop_1 _) (MeetsSeq.list_pop_last l a.toArray n u c (by rw[a2b];lia)) ⟨e,?_⟩;refine⟨y,_,I.lset (its':=a.dropLast) d e ?_ r.dropLast ?_,m,q⟩;show a.toArray.eraseIdxIfInBounds (a.toArray.size-1)=a.dropLast.toArray;rw[a2b,List.eraseIdxIfInBounds_toArray,bH7];rw[List.length_dropLast];lia
def cL7:V->List V->Hp->VK->Prop:=λx vs H Q=>∃ l xs i k y,x=.ref l/\vs=[.int i]/\H l=some (.lst xs) /\ -(2 ^ 63)<=i/\i < 2 ^ 63/\seqIndex? i xs.length=some k/\xs[k]? = some y/\Q y (upd H l (.lst (xs.eraseIdx k)))
def cC0:MtM X "list.pop" cL7:=by
 intro pins s σ H x vs v us Q I d f h;obtain⟨l,xs,i,k,y,rfl,rfl,c,g,j,m,o,q⟩:=h;cases d;obtain⟨u,rfl,p⟩:=f.one;obtain⟨t,rfl⟩:=p;obtain⟨z,a,n,r,A,e⟩:=I.lstM c;obtain⟨w,B,b⟩:=r.get o;refine a4Q F.slot_list_pop ⟨_,e,rfl⟩ F.entry_list_pop (F.args_list_pop_2 _ _)
  (MeetsSeq.list_pop_at l a.toArray n i t k w (fitsIndex_both g j) (by rw[a2b,← A];exact m) (by rw[← a6g];exact B) (by rw[a2b];lia)) ⟨e,?_⟩
 refine⟨y,_,I.lset (its':=a.eraseIdx k) c e ?_ (r.eraseIdx k) ?_,b,q⟩;show a.toArray.eraseIdxIfInBounds k=(a.eraseIdx k).toArray;rw[List.eraseIdxIfInBounds_toArray];have:=aL9 xs k;lia
def eE1:R2:=λx y H Q=>∃ l b xs zs,x=.ref l/\y=.ref b/\H l=some (.lst xs)/\H b=some (.lst zs)/\xs.length+zs.length<=sizeLine/\∀ p,H p=none->Q (.ref p) (upd H p (.lst (xs++zs)))
def dI3:OpR X (binaryOp .Add) eE1:=by
 intro pins s σ H x y v u Q I d f h;obtain⟨l,b,xs,p,rfl,rfl,g,i,t,q⟩:=h;cases d;cases f;obtain⟨z,c,n,r,w,e⟩:=I.lstM g;obtain⟨A,a,n2,j,k,m⟩:=I.lstM i;refine PySem.P.add_list e m ?_ (by rw[a2b,a2b];lia);have o:c.toArray++a.toArray=(c++a).toArray:=by simp
 rw[o];exact⟨.ref _,_,I.lnew (t':=s.toks) (r.append j) (by rw[a5a];lia),rfl,q _ I.fresh⟩
end
section
variable{prog:Program}{w:World}{A:Around}{E:Value->Shared->Prop}{s:Shared}
set_option maxRecDepth 100000 in
end
section
variable{X:Cx}
end
end L2
namespace Att
open PySem PySem.W PySem.Calls PyProof.Rows
def tT{P:Params}{h:Heap}:∀ (ns:List Int) (vs:List Value),WellAll P h vs (ns.map WData.int)->IntsAre vs ns:=by
 intro ns
 induction ns with
 | nil=>
   intro vs w;rw[List.map_nil]at w;cases w;exact .nil
 | cons n ns c=>
   intro vs w;rw[a7e]at w;cases w with
   | cons a b=>
     cases a;exact .cons _ _ (c _ b)
def bO2{l:OpenLaw}{n:Nat}(hn:l.most=some n){P:Params}{h:Heap}{args:List WData}{vals:List Value}
  (b:l.row.toRowW.claim.pre args=true) (i:WellAll P h vals args) :
  ∃ a vs ns,vals=[Value.ref a]/\args=[WData.list (ns.map WData.int)]/\h.get? a=some {cls:=.type "list",data:=.seq vs.toArray}/\IntsAre vs ns/\ns.length<=n:=by
 have j:WShape.hasAll [] args [.list .int]=true:=(pre_splitW b).1;have k:l.pre.holds [] {args:=args}=true:=(pre_splitW b).2;obtain⟨d,r,rfl,m,o⟩:=hasAllW_cons j;obtain rfl:=hasAllW_nil o;obtain⟨xs,rfl,p⟩:=hasW_list m;obtain⟨ns,rfl⟩:=items_int p;have c:ns.length<=n:=by
  unfold OpenLaw.pre at k;have f:(WTm.not (.lt (.lit (.int (n:Int))) (.len (.arg 0)))).holds [] {args:=[.list (ns.map .int)]}=true:=by
   have f:=(holds_andW k).1;rw[hn]at f;exact f
  have g:=condW_of f (w_not (w_lt w_lit (w_len_list (w_arg rfl))));rw[a0a]at g;refine Nat.le_of_not_lt λq=>?_;have s:(n:Int) < ((ns.length:Nat):Int):=by lia
  first
   | (rw[a4C s]at g;exact absurd g (by decide))
   | (simp at g;lia)
 cases i with
 | cons t u=>
   cases u;cases t with
   | list v e=>exact⟨_,_,ns,rfl,rfl,v,tT ns _ e,c⟩
def bO3(l:OpenLaw)(args:List WData):l.row.toRowW.claim.post args (.bool true) args=true:=
 postW_of (r:=l.row.toRowW) (X:=(true==true))
  (show WShape.has [] (.bool true) .bool=true by first | rfl | decide | simp[WShape.has,WShape.arms,WShape.armsAll])
  (show(WTm.eq .res (.lit (.bool true))).value [] {args:=args,res:=some (.bool true),after:=args}=some (.bool (true==true))from w_eq_bool (w_res rfl) w_lit) rfl
def attach_call{l:OpenLaw}{n:Nat}{q:Program}{c:List Str}{t:(Str->Option Value)->Heap->Prop}{u:World->Heap->Prop}{d:DefRec}
  (hn:l.most=some n) (k:d.params.defaults=[])
  (call:∀ (w:World) (s₀ b:Shared) (mg mb:Str->Option Value) (g:Addr) (o:Obj) (pm cd doc:Value) (a:Addr) (vs:List Value) (ns:List Int),
   Ground q c [] t w s₀ mg mb b.heap->u w b.heap ->
   b.heap.get? g=some o->o.data=.func (docDef d.name d.params d.body d.scope pm cd doc)->b.heap.CodeRec cd d.name->mg d.name=some (.ref g) ->
   b.heap.get? a=some {cls:=.type "list",data:=.seq vs.toArray}->IntsAre vs ns->ns.length<=n->b.gens=#[] ->
   codeAny (model l.prog w) callerA (.call (.ref g) ⟨[.ref a],[]⟩) (λr s'=>r=.ok (.ret (.bool true))/\OldK b.heap s'.heap/\s'.os=b.os/\AllBare s'.gens) b) :
  WalkO q c t u l.row.toRowW d [] (λf vs=>PySem.call f vs):=by
 intro w s₀ b mg mb G Y g o pm cd doc y kV z hd m v p A args vals as h x B s C;obtain rfl:y=.none:=Dflts.none v k;obtain rfl:kV=.none:=Dflts.noKw v;obtain⟨a,vs,ns,rfl,rfl,i,e,j⟩:=bO2 hn h s;refine enter_call (a4T (call w s₀ b mg mb g o pm cd doc a vs ns G Y z (fd_plain hd) m p i e j A) λr s' D=>?_);obtain⟨rfl,E,F,H⟩:=D;exact⟨.inl ⟨.bool true,.bool true,[],rfl,λ_=>rfl,.bool true,bO3 l _,λ_=>⟨List.Pairwise.nil,λ_ hm=>(nomatch hm)⟩⟩,E,F,H⟩
section
variable{prog:Program}{w:World}{A:Around}{E:Value->Shared->Prop}{s:Shared}{K:Frag}
end
end Att
namespace L2
open PySem PySem.Spec PyProof.Rows
theorem aM0:∀ {vs:List Value} {ns:List Int},IntsAre vs ns->dI (ns.map V.int) vs
 | _,_,.nil=>.nil
 | _,_,.cons n t h=>.cons ⟨t,rfl⟩ (aM0 h)
def dI4(H:Hp):Prop:=∀ b,H b=none\/∃ o xs,H b=some (.frz o (.lst xs))
def cC1{P:Program}{w:World}{K:W.Frag}{mg mb:Str->Option Value}{CX:CXT}{k:Nat}{J a:Addr}{fd:FuncData}{x:Str}{sp:Sp}{c:Shared}{vs:List Value}{ns:List Int}
  (T:K.In c.heap) (y:c.heap.Ns mainGlobals mg) (g:c.heap.Ns builtinsNs mb) (L:∀ x:Str,x≠"__name__"->mb x=bootBuiltins x) (A:c.heap.NoLimit) (hg:c.gens=#[])
  (ha:c.heap.get? a=some {cls:=.type "list",data:=.seq vs.toArray}) (hi:IntsAre vs ns) (U:ns.length<=sizeLine) (hr:Room k callerA)
  (F:∀ base:Heap,K.In base->base.Ns mainGlobals mg->FnOk P w K mg base CX k J fd [x] sp) (p:∀ (s:Shared) (u:Value),BindsTo s fd ⟨[u],[]⟩ [(x,u)])
  (M:∀ H:Hp,dI4 H->SqL K H a (ns.map V.int)->sp [.ref a] H (λv _=>v=.bl true) λ_ _ _=>False)
  (N:∀ H e s',CX [] H c (λ_ _ _=>False) e s'->False) :
  codeAny (model P w) callerA (.call (.ref J) ⟨[.ref a],[]⟩) (λr s'=>r=.ok (.ret (.bool true))/\OldK c.heap s'.heap/\s'.os=c.os/\AllBare s'.gens) c:=by
 have X:=aM0 hi;have B:=hi.length
 -- from an abstract heap in O nothing but C i may be tracked
 have l:∀ H:Hp,dI4 H->SqL K H a (ns.map V.int)->HOk P w H c.heap->(∀ b,H b≠none->b=a)->(H a≠none->K.lookup a=none) ->
   codeAny (model P w) callerA (.call (.ref J) ⟨[.ref a],[]⟩) (λr s'=>r=.ok (.ret (.bool true))/\OldK c.heap s'.heap/\s'.os=c.os/\AllBare s'.gens) c:=by
  intro H Y hS hok Z hK;have f:∀ {b:Addr} {o:Obj},c.heap.get? b=some o->H b=none->(cB3 c.heap H).get? b=some o:=λe n=>cB4 e n;have Q:∀ {b:Addr} {o:Obj} {es:Array DictEntry} {D:Nat},c.heap.get? b=some o->o.data=.dict es D->H b=none:=λ{b o es D} e d=>by
   cases q:H b with
   | none=>rfl
   | some u=>
     have R:b=a:=Z b (by rw[q];simp);subst R;rw[ha]at e;cases e;have d':Data.seq vs.toArray _=Data.dict es D:=d;cases d'
  have j:∀ {b:Addr} {m:Str->Option Value},c.heap.Ns b m->(cB3 c.heap H).Ns b m:=λ{b m} ⟨o,es,D,e,d,r⟩=>⟨o,es,D,f e (Q e d),d,r⟩;have E:K.In (cB3 c.heap H):=λb o e=>f (T b o e) (by
   cases q:H b with
   | none=>rfl
   | some u=>
     have R:b=a:=Z b (by rw[q];simp);subst R;rw[hK (by rw[q];simp)]at e;cases e)
  have hM:Mod K mg (cB3 c.heap H):=⟨E,j y,⟨mb,j g,L⟩,let ⟨mc,h1,h2⟩:=A;⟨mc,j h1,h2⟩⟩;have e0:Env0 P w K mg (cB3 c.heap H) callerA [] c H:=⟨rfl,hM,λb o e=>cR1 e,Nat.le_of_eq (bM1 _ _),trivial,λb g=>absurd (show b∈([]:List Addr)from g) (by simp),hok,.of_eq hg⟩;refine a4T ((F _ E (j y)).run callerA [] c H ⟨[.ref a],[]⟩ [.ref a] [.ref a] _ _ hr e0 (p c (.ref a)) (.cons rfl .nil) (M H Y hS)) λr s' h=>?_;cases r with
  | error e=>exact(N H e s' h).elim
  | ok fl=>
    cases fl with
    | next=>exact False.elim h
    | brk=>exact False.elim h
    | cont=>exact False.elim h
    | ret u=>
      obtain⟨v,H',os,bare,un,G,r',q⟩:=h;have q':v=.bl true:=q;subst q';obtain rfl:u=Value.bool true:=r';refine⟨rfl,OldK.of_keep λb o e=>?_,os,bare⟩;cases q:H b with
      | none=>exact un.keep b o e q (by intro z;exact absurd (show b∈([]:List Addr)from z) (by simp)) (by simp)
      | some u=>
        rcases Y b with z | ⟨ob,xs,z⟩;rw[q]at z;cases z;have z2:=un.frzs b ob _ z;obtain⟨e1,_⟩:=hok b _ z;obtain⟨e2,_⟩:=G b _ z2;rw[e]at e1;cases e1;exact e2
 cases S:K.lookup a with
 | some o=>
   -- C i is one of C t own objects
   have e:=T a o S;rw[ha]at e;cases e;refine l (λ_=>none) (λ_=>.inl rfl) (.inr ⟨_,vs.toArray,_,S,rfl,rfl,rfl,by rw[a2b,B];exact U,by simpa using X⟩) (λb u z=>by have I:(none:Option HO)=some u:=z;cases I) (λb z=>absurd rfl z) λz=>absurd rfl z
 | none=>
   refine l (λb=>if b=a then some (.frz {cls:=.type "list",data:=.seq vs.toArray} (.lst (ns.map V.int)))else none) (λb=>?_) (.inl (.inr ⟨{cls:=.type "list",data:=.seq vs.toArray},a4y rfl⟩)) (λb u z=>?_) (λb z=>?_) λ_=>S;by_cases g:b=a;exact .inr ⟨_,_,a4y g⟩;exact .inl (a4z g);by_cases g:b=a;have I:=(a4y g).symm.trans z;cases I;subst g;exact⟨ha,by rw[a0a];exact U,vs,_,X,ha⟩;have I:=(a4z g).symm.trans z;cases I;by_cases g:b=a;exact g;exact absurd (a4z g) z
def cS9{l:W.OpenLaw}{n k:Nat}{q:Program}{i:List Str}{E:(Str->Option Value)->Heap->Prop}{C:World->Heap->Prop}{d:DefRec}{K:Params->W.Frag}{CX:World->CXT}{sp:World->Sp}{x:Str}
  (hn:l.most=some n) (t:n<=sizeLine) (y:d.params.defaults=[]) (I:Room k callerA)
  (J:∀ (w:World) (h:Heap),C w h->(K w.params).In h)
  (F:∀ (w:World) (mg:Str->Option Value) (r:Addr) (h:Heap),(K w.params).In h->h.Ns mainGlobals mg->mg d.name=some (.ref r) ->
   ∃ fd:FuncData,(∀ (s:Shared) (u:Value),BindsTo s fd ⟨[u],[]⟩ [(x,u)]) /\
     ∀ base:Heap,(K w.params).In base->base.Ns mainGlobals mg->FnOk l.prog w (K w.params) mg base (CX w) k r fd [x] (sp w))
  (z:∀ (w:World) (H:Hp) (a:Addr) (ns:List Int),ns.length<=n->dI4 H->SqL (K w.params) H a (ns.map V.int)->sp w [.ref a] H (λv _=>v=.bl true) λ_ _ _=>False)
  (A:∀ (w:World) (H:Hp) (s:Shared) (e:Value) (s':Shared),CX w [] H s (λ_ _ _=>False) e s'->False) :
  W.WalkO q i E C l.row.toRowW d [] (λf vs=>PySem.call f vs):=by
 refine Att.attach_call hn y λw s₀ m mg mb r o pm cd doc a vs ns G Y R hd L B p j c M=>?_;have D:=J w _ Y;obtain⟨fd,N,O⟩:=F w mg r _ D G.T.g B;exact cC1 D G.T.g G.T.b G.T.builtins G.T.nolimit M p j (a8b c t) I O N (λH P Q=>z w H a ns c P Q) λH e s'=>A w H m e s'
noncomputable def aU1(s:Stmt):Arguments:=match s with
 | .FunctionDef _ a _ _ _ _ _ _ _ _=>a
 | _=>{posonlyargs:=[],args:=[],vararg:=none,kwonlyargs:=[],kw_defaults:=[],kwarg:=none,defaults:=[]}
noncomputable def qZ(s:Stmt):List Stmt:=match s with
 | .FunctionDef _ _ b _ _ _ _ _ _ _=>b
 | _=>[]
noncomputable def aW(s:Stmt):Scope:=match s with
 | .FunctionDef _ _ _ _ _ _ sc _ _ _=>sc
 | _=>{kind:=.function,names:=[],isGenerator:=false,isCoroutine:=false}
abbrev CX0:CXT:=λ_ _ _ _ _ _=>False
abbrev E0:XK:=λ_ _ _=>False
def bD{X:Cx}:bN5 CX0 X E0:=λ_ _ _ _ _ _ _ h=>h.elim
structure Fun(K:W.Frag)(x qual:Str)(st:Stmt)(f:Addr)(fd:FuncData):Prop where
 ex:∃ (oc:Value) (od:Option Addr) (kV doc pm:Value) (an:Option Addr) (cdv ct:Value) (osl:Array (Option Value)),
  fd=W.fnOf x qual (aU1 st) (qZ st) (aW st) .none kV doc pm an cdv ct/\K.lookup f=some ⟨oc,od,.func fd,osl⟩/\W.codeIn K cdv qual=true
 kp:W.keepIn K (.ref f)=true
section
variable{P:Program}{w:World}{K:W.Frag}{mg:Str->Option Value}{base:Heap}
theorem Fun.ok{x qual:Str}{st:Stmt}{f:Addr}{fd:FuncData}{N ps:List Str}{k:Nat}{sp:Sp}(F:Fun K x qual st f fd)(S:FnScope N ps (aW st))(len:∀ vs H Q E,sp vs H Q E->vs.length=ps.length)
  (a:∀ (cdv:Value) (A:Around) (outer:List Env) (s:Shared) (H:Hp) (vs:List V) (Q:VK) (E:XK),Room k (A.deeper (envOfC qual (aW st) s.heap.objs.size f cdv))->sp vs H Q E ->
   ∃ t,PSs (cL5 CX0 P w K mg base N qual (aW st) f cdv A outer s H E).nox (qZ st) t/\t {nx:=λ_ H'=>Q .non H',rt:=Q} (lH N vs) H):FnOk P w K mg base CX0 (k+1) f fd ps sp:=by
 obtain⟨oc,od,kV,doc,pm,an,cdv,ct,osl,rfl,lk,b⟩:=F.ex;refine dX1 lk b S len λA outer s H vs Q E d c=>?_;obtain⟨t,h,q⟩:=a cdv A outer s H vs Q E d c;exact⟨t,h.nox,q⟩
def Fun.binds{x qual:Str}{st:Stmt}{f:Addr}{fd:FuncData}{ps:List Str}(F:Fun K x qual st f fd)
  (h:∀ (kV doc pm:Value) (an:Option Addr) (cdv ct:Value) (us:List Value),us.length=ps.length->bindArgs (W.fnOf x qual (aU1 st) (qZ st) (aW st) .none kV doc pm an cdv ct) ⟨us,[]⟩=pure (ps.zip us)):eM K fd ps []:=by
 obtain⟨oc,od,kV,doc,pm,an,cdv,ct,osl,rfl,lk,a⟩:=F.ex;exact .all (h kV doc pm an cdv ct)
end
def dX6{A:Around}{k:Nat}(a:Room k A):A.units+1 < cLine:=Nat.lt_of_le_of_lt (Nat.add_le_add_left (by decide:1<=64) _) a.units
section
variable{X:Cx}
def pv(i:Nat){x:Str}{pos:Pos}(b:X.N[i]? = some x:=by rfl)(c:Vis X.env.scope x:=by first | exact Or.inl rfl | exact Or.inr (Or.inl rfl) | exact Or.inr (Or.inr rfl))(hd:(x==("__debug__":Str))=false:=by decide)
  (a:(x==("__classdict__":Str))=false:=by decide):PE X (.Name x pos) (cB5 i):=dF3 b c hd a
end
def dX7{A B:Prop}(h:B):if false=true then A else B:=by
 rw[a4z a0c];exact h
def cL8{c A B:Prop}[Decidable c](a:c->A)(b:¬ c->B):if c then A else B:=by
 by_cases h:c;rw[a4y h];exact a h;rw[a4z h];exact b h
def aT2(H H':Hp):Prop:=∀ b o,H b=some o->H' b=some o
def aT2.refl(H:Hp):aT2 H H:=λ_ _ h=>h
def bH8{scope:Scope}{env:Env}(h:∀ y∈scope.names,y.2=.free->∃ c,env.cells.lookup y.1=some c) :
  ∃ cl:List (Str×Addr),closureFor scope env=pure cl/\(∀ x c,cl.lookup x=some c->env.cells.lookup x=some c)/\∀ y∈scope.names,y.2=.free->∃ c,cl.lookup y.1=some c:=by
 have p:∀ (l:List (Str×NameKind)) (acc:List (Str×Addr)),(∀ y∈l,y.2=.free->∃ c,env.cells.lookup y.1=some c)->(∀ x c,acc.lookup x=some c->env.cells.lookup x=some c) ->
   ∃ cl:List (Str×Addr),((forIn l acc λ(x:Str×NameKind) (r:List (Str×Addr))=>if(x.2==NameKind.free)=true then do let a ← cellOf env x.1;pure (ForInStep.yield ((x.1,a)::r))else pure (ForInStep.yield r)):Sem (List (Str×Addr)))=pure cl /\
     (∀ x c,cl.lookup x=some c->env.cells.lookup x=some c)/\(∀ x c,acc.lookup x=some c->∃ d,cl.lookup x=some d)/\∀ y∈l,y.2=.free->∃ c,cl.lookup y.1=some c:=by
  intro l
  induction l with
  | nil=>intro acc _ ha;exact⟨acc,rfl,ha,λx c e=>⟨c,e⟩,λ_ b=>nomatch b⟩
  | cons y r t=>
    intro acc q ha;obtain⟨n,k⟩:=y;rw[List.forIn_cons];by_cases i:(k==NameKind.free)=true
    ·have s:k=.free:=by simpa using i
     obtain⟨c,u⟩:=q (n,k) a4a s;have v:cellOf env n=pure c:=by unfold cellOf;rw[u]
     obtain⟨cl,e,f,j,g⟩:=t ((n,c)::acc) (λy b=>q y (a6a _ b)) (λx d e=>by
      rw[a1h]at e;split at e
      ·rename_i m;have:x=n:=by simpa using m
       cases e;rw[this];exact u
      ·exact ha x d e)
     have has:∃ d,cl.lookup n=some d:=j n c (by rw[a1h];simp);refine⟨cl,?_,f,λx d e=>?_,λy b o=>?_⟩;simp only[i,if_true,v];exact e
     ·by_cases m:x=n;subst m;exact has;exact j x d (by rw[a1h];have:(x==n)=false:=by simpa using m
                                                       rw[this];exact e)
     ·rcases a3b.mp b with rfl | b;exact has;exact g y b o
    ·obtain⟨cl,e,f,j,g⟩:=t acc (λy b=>q y (a6a _ b)) ha;refine⟨cl,?_,f,j,λy b o=>?_⟩;simp only[i];exact e;rcases a3b.mp b with rfl | b;exact absurd (by simpa using o) i;exact g y b o
 obtain⟨cl,e,f,_,g⟩:=p scope.names [] h (λx c e=>nomatch e);refine⟨cl,?_,f,g⟩;unfold closureFor;simp only[bind_pure];exact e
def mR{α:Type}{x n:Str}{v:α}{r:List (Str×α)}(h:(x==n)=true):List.lookup x ((n,v)::r)=some v:=by rw[a1h,h]
def iH{α:Type}{x n:Str}{v:α}{r:List (Str×α)}(h:(x==n)=false):List.lookup x ((n,v)::r)=List.lookup x r:=by rw[a1h,h]
def cL9{scope:Scope}{env:Env}{x:Str}(h:(relabel scope env).names.lookup x=some .cell\/(relabel scope env).names.lookup x=some .free)(d:∀ y∈scope.names,y.2≠.cell) :
  (x,NameKind.free)∈scope.names:=by
 unfold relabel at h;dsimp only at h;revert h d;generalize scope.names=l;intro h d
 induction l with
 | nil=>rcases h with h | h<;>cases h
 | cons y r i=>
   obtain⟨n,k⟩:=y;rw[a7e]at h;dsimp only at h;have c:=λh=>i h λy j=>d y (a6a _ j);have f:k≠.cell:=d (n,k) a4a;by_cases e:(k==NameKind.free&&env.scope.kind==.function&&env.kindOf n==some .cell)=true
   ·have g:k=.free:=by
     simp only[Bool.and_eq_true,beq_iff_eq]at e;exact e.1.1
    rw[a4y e]at h;cases b:x==n with
    | true=>
      have a:x=n:=by simpa using b
      subst a g;exact a4a
    | false=>
      rw[iH b]at h;exact a6a _ (c h)
   ·rw[a4z e]at h;cases b:x==n with
    | true=>
      have a:x=n:=by simpa using b
      rw[mR b]at h;subst a;rcases h with h | h;exact absurd (a0b h) f
      ·rw[a0b h];exact a4a
    | false=>
      rw[iH b]at h;exact a6a _ (c h)
def pW{scope:Scope}{env:Env}{x:Str}(h:(relabel scope env).names.lookup x=some .cell\/(relabel scope env).names.lookup x=some .free) :
  (x,NameKind.free)∈scope.names\/scope.names.lookup x=some .cell:=by
 unfold relabel at h;dsimp only at h;revert h;generalize scope.names=l;intro h
 induction l with
 | nil=>rcases h with h | h<;>cases h
 | cons y r e=>
   obtain⟨n,k⟩:=y;rw[a7e]at h;dsimp only at h;by_cases c:(k==NameKind.free&&env.scope.kind==.function&&env.kindOf n==some .cell)=true
   ·have d:k=.free:=by
     simp only[Bool.and_eq_true,beq_iff_eq]at c;exact c.1.1
    rw[a4y c]at h;cases a:x==n with
    | true=>
      have b:x=n:=by simpa using a
      subst b d;exact .inl a4a
    | false=>
      rw[iH a]at h;rcases e h with z | z;exact .inl (a6a _ z)
      ·exact .inr (by rw[iH a];exact z)
   ·rw[a4z c]at h;cases a:x==n with
    | true=>
      have b:x=n:=by simpa using a
      rw[mR a]at h;subst b;rcases h with h | h;exact .inr (by rw[mR a];exact h)
      ·rw[a0b h];exact .inl a4a
    | false=>
      rw[iH a]at h;rcases e h with z | z;exact .inl (a6a _ z);exact .inr (by rw[iH a];exact z)
theorem fK:∀ (names:List (Str×NameKind)) (n:Nat) (acc:List (Str×Addr)),cellsFrom n names acc=cellsFrom n names []++acc
 | [],n,acc=>rfl
 | (x,k)::r,n,acc=>by
   unfold cellsFrom;split;rw[fK r (n+1) ((x,n)::acc),fK r (n+1) [(x,n)],List.append_assoc];rfl;exact fK r n acc
theorem lI:∀ (names:List (Str×NameKind)) (n:Nat) (x:Str) (c:Addr),(x,c)∈cellsFrom n names []->(x,NameKind.cell)∈names
 | [],n,x,c,h=>nomatch h
 | (y,k)::r,n,x,c,h=>by
   unfold cellsFrom at h;split at h
   ·rename_i b;have a:k=.cell:=by simpa using b
    rw[fK]at h;rcases a8a.mp h with z | z;exact a6a _ (lI r _ x c z);have e:=a3a.mp z;cases e;rw[a];exact a4a
   ·exact a6a _ (lI r _ x c h)
theorem gU:∀ (names:List (Str×NameKind)) (n:Nat) (x:Str),(x,NameKind.cell)∈names->∃ c,(cellsFrom n names []).lookup x=some c
 | [],n,x,h=>nomatch h
 | (y,k)::r,n,x,h=>by
   have a:∀ m,(x,NameKind.cell)∈r->∃ c,(cellsFrom m r []).lookup x=some c:=λm hm=>gU r m x hm;unfold cellsFrom;split
   ·rename_i b;rw[fK,List.lookup_append];rcases a3b.mp h with z | z
    ·cases z;cases e:(cellsFrom (n+1) r []).lookup y with
     | some c=>exact⟨c,rfl⟩
     | none=>exact⟨n,by simp⟩
    ·obtain⟨c,d⟩:=a (n+1) z;exact⟨c,by rw[d];rfl⟩
   ·rename_i b;rcases a3b.mp h with z | z;cases z;exact absurd rfl b;exact a n z
def cT0{M:Model}{A:Around}{E:Value->Shared->Prop}{s:Shared}{scope:Scope}{globals:Addr}{cl:List (Str×Addr)}{qual:Str}{env:Env}{Q:Env->Shared->Prop}
  (c:Q (newEnv scope s.heap.objs.size globals (cellsFrom (s.heap.objs.size+1) scope.names cl) qual none .none (some env) builtinsNs) {s with heap:=pushCells (s.heap.push {cls:=.type "dict",data:=.dict #[]}) scope.names}) :
  wpAny M A (newFunctionEnv scope globals cl [] qual none .none (some env)) Q E s:=by
 simp only[newFunctionEnv,Option.isSome_some,if_true];refine a4x (wpAny_alloc ?_);refine a4x (wpAny_layCells _ (λb kind cells=>by cases a:kind==NameKind.cell<;>simp[a]) _ _ _ _ ?_);rw[show({s with heap:=s.heap.push {cls:=.type "dict",data:=.dict #[]}}:Shared).heap.objs.size=s.heap.objs.size+1 from a2h ..];refine a4x ?_;rw[List.forIn_nil];exact a4A (a4A c)
def aF8{scope:Scope}{env:Env}{x:Str}(h:(relabel scope env).names.lookup x=some .local):scope.names.lookup x=some .local:=by
 unfold relabel at h;dsimp only at h;revert h;generalize scope.names=l;intro h
 induction l with
 | nil=>cases h
 | cons y r b=>
   obtain⟨n,k⟩:=y;rw[a7e]at h;dsimp only at h;by_cases c:(k==NameKind.free&&env.scope.kind==.function&&env.kindOf n==some .cell)=true
   ·rw[a4y c]at h;cases a:x==n with
    | true=>rw[mR a]at h;cases h
    | false=>rw[iH a]at h ⊢;exact b h
   ·rw[a4z c]at h;cases a:x==n with
    | true=>rw[mR a]at h ⊢;exact h
    | false=>rw[iH a]at h ⊢;exact b h
def Inv.adopt{X:Cx}{pins:List (Addr×Obj)}{σ:St}{H:Hp}{s:Shared}{a:Addr}{o:HO}(I:Inv X pins σ H s)(hn:H a=none)(h:X.s₀.heap.objs.size<=a)(i:a≠X.env.locals)
  (j:∀ x c,X.env.cells.lookup x=some c->c≠a) (k:∀ p∈X.pn++pins,p.1≠a) (d:eV X.prog X.w (upd H a o) s.heap a o):Inv X pins σ (upd H a o) s:=by
 have ne:∀ b u,H b=some u->b≠a:=λb u e=>bK e hn;refine⟨I.ok,I.os,I.bare,⟨I.base.keep,I.base.slot,λb ob q n l=>?_,I.base.there,λb xs q=>?_,λb ob u q=>?_,λb ps q=>?_⟩,I.loc,I.cell,?_,λx c e=>?_,λp f=>?_,λb u e=>?_,I.len⟩;rw[aS (a1d (a5d (a5b q) h))];exact I.base.free b ob q n l;have:=I.base.tups b xs q;rw[aS (ne b _ this)];exact this;have:=I.base.frzs b ob u q;rw[aS (ne b _ this)];exact this;obtain⟨m,this⟩:=I.base.tbls b ps q;exact⟨m,by rw[aS (ne b _ this)];exact this⟩;rw[aS (a4e i)];exact I.free;rw[aS (j x c e)];exact I.freeC x c e;obtain⟨e,n,r⟩:=I.pin p f;exact⟨e,by rw[aS (k p f)];exact n,r⟩;by_cases g:b=a;subst g;rw[aY]at e;cases e;exact d;rw[aS g]at e;exact(I.hok b u e).stay (λc v _ q=>q) (λc q=>by rw[aS (ne c _ q)];exact q) λc xs q=>by rw[aS (ne c _ q)];exact q
def aU2{prog:Program}{w:World}{A:Around}{R:Result->Shared->Prop}{s:Shared}{elt a iter:Expr}{l:List Expr}{scope:Scope}{pos:Pos}{it acc:Value}{env:Env}(I:Nat->Shared->Prop)
  (turn:∀ n s,I n s->wpAny (model prog w) A (pyNext it) (λr e=>match r with
   | none=>R (.ok .next) e
   | some v=>wpAny (model prog w) A (letOwnedTupleGo a it v) (λ_ f=>wpAny (model prog w) A (assign a env v) (λ_ i=>
     wpAny (model prog w) A (forIn l true λc r=>if r=true then do let ok ← isTrue c env (eval c env);pure (ForInStep.yield ok)else pure (ForInStep.yield r)) (λok g=>
      if ok=true then wpAny (model prog w) A (eval elt env) (λx j=>
       wpAny (model prog w) A (call (.builtin "list.append") [acc,x]) (λ_ k=>∃ m,m < n/\I m k) (λ_ _=>False) j) (λ_ _=>False) g
      else ∃ m,m < n/\I m g) (λ_ _=>False) i) (λ_ _=>False) f) (λ_ _=>False) e) (λ_ _=>False) s)
  (n:Nat) (h:I n s) :
  codeAny (model prog w) A (.compLoop (.ListComp elt [⟨a,iter,l,0⟩] scope pos) 0 it acc env) R s:=by
 refine codeAny_loop rfl I (λn s t=>?_) n h;show wpAny _ A ((compTurn (.ListComp elt [⟨a,iter,l,0⟩] scope pos) 0 it acc env).onRaise (λx=>do noteFrame x env;theTreesLotGoes x)) _ _ s;refine wpAny_noted ?_;rw[compTurn_list];refine a4x (a4V (a4x (a4H (turn n s t) (λr e d=>?_) λ_ _ h'=>h'.elim)));cases r with
 | none=>exact a4A d
 | some v=>
   refine a4x (a4H d (λ_ f d=>?_) λ_ _ h'=>h'.elim);refine a4x (a4H d (λ_ i o=>a4x (a4H o (λok g b=>?_) λ_ _ h'=>h'.elim)) λ_ _ h'=>h'.elim);cases ok with
   | true=>
     simp only[if_true]at b ⊢;refine a4x (a4x (a4H b (λx j p=>a4x (a4H p (λ_ k q=>a4A (a4A ⟨rfl,q⟩)) λ_ _ h'=>h'.elim)) λ_ _ h'=>h'.elim))
   | false=>
     simp only[Bool.false_eq_true,if_false]at b ⊢
     first
      | exact a4x (a4A (a4A ⟨rfl,b⟩))
      | exact a4A ⟨rfl,b⟩
noncomputable abbrev cxC(X:Cx)(scope:Scope)(cl:List (Str×Addr))(ex:List Addr)(s:Shared)(H:Hp):Cx:=
 {X with s₀:=s,H₀:=H,env:=compEnvC scope cl s.heap.objs.size X.env,outer:=X.stack,ex:=ex,fn:=λx=>scope.names.lookup x==some .cell,xe:=λ_ _=>False}
noncomputable def blank(own:List Nat)(σ:St):St:=own.foldl (λσ i=>σ.set i none) σ
theorem sF:∀ (own:List Nat) (σ:St),(blank own σ).length=σ.length
 | [],_=>rfl
 | i::r,σ=>(sF r (σ.set i none)).trans (by simp)
theorem rB:∀ (own:List Nat) (σ:St) (i:Nat) (v:V),(blank own σ)[i]? = some (some v)->i∉own/\σ[i]? = some (some v)
 | [],_,_,_,h=>⟨by simp,h⟩
 | j::r,σ,i,v,h=>by
   obtain⟨b,a⟩:=rB r (σ.set j none) i v h;by_cases e:i=j;subst e;rw[List.getElem?_set]at a;simp at a;rw[a1b (a4e e)]at a;exact⟨by simp[e,b],a⟩
def cT1(own:List Nat)(g:TG):Prop:=∀ x σ H Q,g x σ H Q->g x σ H λσ' H'=>Q σ' H'/\σ'.length=σ.length/\∀ i,i∉own->σ'[i]? = σ[i]?
def cC2(own:List Nat)(g:TGs):Prop:=∀ x σ H Q,g x σ H Q->g x σ H λσ' H'=>Q σ' H'/\σ'.length=σ.length/\∀ i,i∉own->σ'[i]? = σ[i]?
def aN{own:List Nat}{i:Nat}(h:i∈own):cT1 own (aF4 i):=λx σ H Q q=>
 ⟨q,by simp,λj a=>List.getElem?_set_ne (λe:i=j=>a (by rw[← e];exact h))⟩
def fU{own:List Nat}:cC2 own dW1:=λx σ H Q q=>⟨q.1,q.2,rfl,λ_ _=>rfl⟩
def bN{own:List Nat}{t:TG}{u:TGs}(k:cT1 own t)(l:cC2 own u)(mt:∀ x σ H Q h,(∀ a b,Q a b->h a b)->t x σ H Q->t x σ H h):cC2 own (cR5 t u):=by
 intro x σ H Q q;obtain⟨v,r,e,q⟩:=q;refine⟨v,r,e,mt _ _ _ _ _ (λd m g=>?_) (k _ _ _ _ q)⟩;obtain⟨g,l1,j⟩:=g;have:=l _ _ _ _ g;revert this;exact λthis=>by
  have f:u r d m (λσ' H'=>Q σ' H'/\σ'.length=d.length/\∀ i,i∉own->σ'[i]? = d[i]?):=this;rw[l1]at f;have n:(λ(σ':St) H'=>Q σ' H'/\σ'.length=σ.length/\∀ i,i∉own->σ'[i]? = d[i]?)=(λ(σ':St) H'=>Q σ' H'/\σ'.length=σ.length/\∀ i,i∉own->σ'[i]? = σ[i]?):=by
   funext σ' H';apply propext;constructor;rintro⟨a,b,c⟩;exact⟨a,b,λi hi=>(c i hi).trans (j i hi)⟩;rintro⟨a,b,c⟩;exact⟨a,b,λi hi=>(c i hi).trans (j i hi).symm⟩
  rw[← n];exact f
def bO{i:Nat}:∀ x σ H (Q c:St->Hp->Prop),(∀ a b,Q a b->c a b)->aF4 i x σ H Q->aF4 i x σ H c:=λ_ _ _ _ _ f q=>f _ _ q
def cM0(X:Cx)(a:List Expr)(t:TT):Prop:=
 ∀ (pins:List (Addr×Obj)) (s:Shared) (σ:St) (H:Hp) (Q:Bool->Hp->Prop),Inv X pins σ H s->t σ H Q ->
   wpAny (model X.prog X.w) X.A (forIn a true λc r=>if r=true then do let ok ← isTrue c X.env (eval c X.env);pure (ForInStep.yield ok)else pure (ForInStep.yield r)) (TP X pins σ Q) X.xe s
def dI5:TT:=λ_ H Q=>Q true H
def aF9{X:Cx}:cM0 X [] dI5:=λ_ _ _ H _ I h=>wpAny_tests_nil ⟨H,I,h⟩
def bA9{X:Cx}{c:Expr}{t:TT}(h:PT X c t):cM0 X [c] t:=λpins s σ H Q I q=>wpAny_tests_one (h pins s σ H Q I q)
structure CompScope(X:Cx)(scope:Scope)(own:List Nat):Prop where
 kind:scope.kind=.function
 cells:∀ y∈scope.names,y.2=.cell->scope.names.lookup y.1=some .cell
 names:∀ y∈scope.names,y.2=.local->scope.names.lookup y.1=some .local
 free:∀ y∈scope.names,y.2=.free->X.env.kindOf y.1=some .cell\/X.env.kindOf y.1=some .free
 own:∀ i x,X.N[i]? = some x->(scope.names.lookup x=some .local\/scope.names.lookup x=some .cell)->i∈own
 calm:X.calm=true
def cM1(own:List Nat)(e:TI)(g:TG)(f:TT)(h:TE)(σ:St)(H:Hp)(F:List V->Hp->Prop):Prop:=
 e σ H λJ j=>∃ W:Nat->Nat->List V->Hp->Prop,(∃ m,W 0 m [] j)/\∀ i m ys H,W i m ys H->ys.length<=sizeLine /\
  ((J.stop i H/\F ys H)\/(J.go i H/\∀ x H',J.yld i H x H'->g x (blank own σ) H' λa k=>f a k λb d=>
    if b=true then h a d λv l=>∃ c,c < m/\W (i+1) c (ys++[v]) l else ∃ c,c < m/\W (i+1) c ys d))
def bH9(own:List Nat)(a:TI)(g:TG)(b:TT)(c:TE):TE:=λσ H Q=>cM1 own a g b c σ H λys H'=>∀ p,H' p=none->Q (.ref p) (upd H' p (.lst ys))
structure Stray(X:Cx)(pins:List (Addr×Obj))(H:Hp)(b:Addr):Prop where
 un:H b=none
 loc:b≠X.env.locals
 young:X.s₀.heap.objs.size<=b
 cell:∀ x c,X.env.cells.lookup x=some c->c≠b
 pin:∀ p∈X.pn++pins,p.1≠b
def Inv.stray{X:Cx}{pins:List (Addr×Obj)}{σ:St}{H H':Hp}{s:Shared}{b:Addr}(I:Inv X pins σ H s)(a:s.heap.objs.size<=b)(hn:H' b=none):Stray X pins H' b:=by
 obtain⟨c,d,g,h,e,f⟩:=I.fpOk a hn;exact⟨c,d,a8b I.sz a,e,f⟩
set_option maxHeartbeats 8000000 in
def bI0{X:Cx}{tg iter elt:Expr}{ifs:List Expr}{scope:Scope}{pos:Pos}{own:List Nat}{g:TG}{tt:TT}{te:TE}{use:Option (Value->Sem Unit)}{Qf:Value->Shared->Prop}
  (S:CompScope X scope own) (hg:∀ cl ex s H,PG (cxC X scope cl ex s H) tg g) (hG:cT1 own g)
  (ht:∀ cl ex s H,cM0 (cxC X scope cl ex s H) ifs tt) (he:∀ cl ex s H,PE (cxC X scope cl ex s H) elt te)
  {pins:List (Addr×Obj)} {a:Shared} {σ:St} {t:Hp} {F:List V->Hp->Prop} {cl:List (Str×Addr)} {J:It} {fp:List Addr} {it D:Addr} {tn:Nat->Heap->Prop} {h₁:Heap} {mC:Str->Option Value} {tk m0:Nat} {W:Nat->Nat->List V->Hp->Prop}
  (B:Inv X pins σ t a) (T:Turn X.prog X.w X.K tg J fp it tn) (O:∀ x c,cl.lookup x=some c->(X.env.cells.lookup x=some c/\scope.names.lookup x≠some .cell)\/(a.heap.objs.size < c/\scope.names.lookup x=some .cell/\h₁.IsCell c none)) (cl2:∀ y∈scope.names,y.2=.free\/y.2=.cell->∃ c,cl.lookup y.1=some c)
  (cl3:∀ x y c,cl.lookup x=some c->cl.lookup y=some c->x=y)
  (R:∀ b∈fp,bM5 X pins t b) (N:∀ b∈fp,b < D) (G:D < a.heap.objs.size) (I:∀ b,b∈frs X.stack->b < D) (hbase:∀ b o,X.base.get? b=some o->b < D) (h:Stray X pins t D)
  (hD3:a.heap.get? D=some {cls:=.type "list",data:=.seq ([]:List Value).toArray}) (st3:tn 0 a.heap) (U:h₁.Ns a.heap.objs.size mC) (E:∀ b o,a.heap.get? b=some o->h₁.get? b=some o)
  (w0:W 0 m0 [] t) (turn:∀ i m ys H,W i m ys H->ys.length<=sizeLine /\
  ((J.stop i H/\F ys H)\/(J.go i H/\∀ x H',J.yld i H x H'->g x (blank own σ) H' λσ2 t=>tt σ2 t λb H3=>
    if b=true then te σ2 H3 λv Q=>∃ Y,Y < m/\W (i+1) Y (ys++[v]) Q else ∃ Y,Y < m/\W (i+1) Y ys H3)))
  (fin:∀ D C ys H' s' m,Inv X pins σ (upd H' D (.lst ys)) s'->H' D=none->s'.heap.Ns C m->Stray X pins (upd H' D (.lst ys)) C->F ys H' ->
   compPost (model X.prog X.w) X.A X.xe use Qf (.ref D) C (.ok .next) s') :
  codeAny (model X.prog X.w) X.A (.compLoop (.ListComp elt [⟨tg,iter,ifs,0⟩] scope pos) 0 (.ref it) (.ref D) (compEnvC scope cl a.heap.objs.size X.env))
   (compPost (model X.prog X.w) X.A X.xe use Qf (.ref D) a.heap.objs.size) {a with heap:=h₁,toks:=tk}:=by
 have cneD:∀ x c,cl.lookup x=some c->c≠D:=λx c q=>by
  rcases O x c q with z | z;exact h.cell x c z.1;exact(a1d (a7g G z.1)).symm
 have cneF:∀ b∈fp,∀ x c,cl.lookup x=some c->c≠b:=λb f x c q=>by
  rcases O x c q with z | z;exact(R b f).2.2.2.2.1 x c z.1;exact(a1d (a7g (a7g (N b f) G) z.1)).symm
 have okY:(cxC X scope cl (D::fp) a t).Ok:=by
  refine⟨B.ok.mod,S.kind,B.ok.glob,B.ok.blt,a9a _,cl3,λx hk=>?_,λx c hf q=>?_,B.ok.hd,B.ok.frames,.inl rfl,λb f=>?_,λb o q=>?_,?_,λb o q f=>?_,λb f Z=>?_,B.stack,B.stkFree⟩;rcases pW hk with z | z;exact cl2 _ z (.inl rfl);exact cl2 _ (mem_of_lookup z) (.inr rfl)
  ·rcases O x c q with z | z
   ·have hf':scope.names.lookup x=some .cell:=by simpa using hf
    exact absurd hf' z.2
   ·exact a6h z.1
  ·constructor;show b≠a.heap.objs.size;rcases a3b.mp f with z | z;rw[z];exact a1d G;exact a1d (a7g (N b z) G);intro x c q;rcases a3b.mp f with z | z;rw[z];exact cneD x c q;exact cneF b z x c q
  ·exact B.bs b o q
  ·exact a8b B.ok.bsz B.sz
  ·rcases a3b.mp f with z | z;have:=hbase b o q;rw[z]at this;exact a6e _ this;rcases(R b z).2.2.2.1 with y | y;exact B.ok.noex b o q y;exact a6e _ (a5d (a5b q) (a8b B.ok.bsz y))
  ·rcases a3b.mp f with z | z;have:=I b Z;rw[z]at this;exact a6e _ this;rcases a3b.mp (B.stkSub b Z)with y | y;exact(R b z).2.1 y;exact(R b z).2.2.1 y
 have IY:Inv (cxC X scope cl (D::fp) a t) pins (blank own σ) t {a with heap:=h₁,toks:=tk}:=by
  refine⟨okY,rfl,B.bare,Un.kept E,⟨_,U,λi x v e1 e2 e3=>?_⟩,λx c q=>?_,B.hok.fresh (a9a _),λx c q=>by
   rcases O x c q with z | z;exact B.freeC x c z.1;exact B.hok.fresh (a6h z.1),λp hp=>?_,B.hok.kept E,(sF own σ).trans B.len⟩
  ·obtain⟨hno,e2'⟩:=rB own σ i v e2;have hnl:¬ (relabel scope X.env).names.lookup x=some .local:=λz=>hno (S.own i x e1 (.inl (aF8 z)));have hnc:¬ scope.names.lookup x=some .cell:=λz=>hno (S.own i x e1 (.inr z));have hcf:(relabel scope X.env).names.lookup x=some .cell\/(relabel scope X.env).names.lookup x=some .free:=by
    rcases e3 with z | z | z;exact absurd z hnl;exact .inl z;exact .inr z
   have hmem:=(pW hcf).resolve_right hnc;have hkX:=S.free _ hmem rfl;obtain⟨m,hm,hl⟩:=B.loc;obtain⟨u,r,lk⟩:=hl i x v e1 e2' (by rcases hkX with z | z;exact .inr (.inl z);exact .inr (.inr z));obtain⟨c,hc⟩:=cl2 _ hmem (.inl rfl);refine⟨u,r,.inr ⟨hcf,c,hc,?_⟩⟩;rcases lk with⟨z,_⟩ | ⟨_,c',hc',ic⟩;dsimp only at hkX;rw[z]at hkX;rcases hkX with y | y<;>cases y;have:=((O _ c hc).resolve_right λz=>hnc z.2.1).1;dsimp only at this;rw[hc']at this;cases this;obtain⟨o,ho,hd⟩:=ic;exact⟨o,E _ _ ho,hd⟩
  ·rcases O x c q with z | z;obtain⟨v,o,ho,hd⟩:=B.cell x c z.1;exact⟨v,o,E _ _ ho,hd⟩;exact⟨_,z.2.2⟩
  ·obtain⟨q,n,ne,nf,d⟩:=B.pin p hp;refine⟨E _ _ q,n,a1d (a5b q),λf=>?_,d⟩;rcases a3b.mp (B.stkSub _ f)with y | y;exact ne y;exact nf y
 have DY:D≠a.heap.objs.size:=a1d G;have statY:∀ {H':Hp},(∀ b∈fp,H' b=none)->∀ b∈fp,bM5 (cxC X scope cl (D::fp) a t) pins H' b:=λhn b f=>by
  refine⟨hn b f,?_,?_,.inl (a6a _ f),cneF b f,(R b f).2.2.2.2.2⟩;show b≠a.heap.objs.size;exact a1d (a7g (N b f) G);intro Z;rcases a3b.mp (B.stkSub b Z)with y | y;exact(R b f).2.1 y;exact(R b f).2.2.1 y
 have hDfp:D∉fp:=λz=>a6e _ (N D z);have hDstk:D∉frs X.stack:=λz=>a6e _ (I D z);have L:∀ {H':Hp} {o:Obj},(∀ b∈fp,H' b=none)->∀ b∈fp,bM5 (cxC X scope cl (D::fp) a t) (pins++[(D,o)]) H' b:=λ{H' o} fr b f=>by
  obtain⟨a1,a2,a3,a4,a5,a6⟩:=statY fr b f;refine⟨a1,a2,a3,a4,a5,λp hp z=>?_⟩;rcases a8a.mp hp with y | y;exact a6 p (a2d _ y) z;rcases a8a.mp y with y | y;exact a6 p (a1c _ y) z;have e:p=(D,o):=a3a.mp y;rw[e]at z;have z':D=b:=z;exact hDfp (by rw[z'];exact f)
 have pin2:∀ {H':Hp} {s':Shared} {l:Array Value} {k:Nat},Inv (cxC X scope cl (D::fp) a t) pins (blank own σ) H' s'->H' D=none->s'.heap.get? D=some {cls:=.type "list",data:=.seq l k} ->
   Inv (cxC X scope cl (D::fp) a t) (pins++[(D,{cls:=.type "list",data:=.seq l k})]) (blank own σ) H' s':=λ{H' s' l k} I4 D4 o4=>I4.pins_of λp hp=>by
  rcases a8a.mp hp with z | z;exact I4.pin p (a1c _ z);have e:p=(D,{cls:=.type "list",data:=.seq l k}):=a3a.mp z;subst e;exact⟨o4,D4,DY,hDstk,λv z=>by cases z⟩
 refine aU2 (λn s'=>∃ i ys H' l k,Inv (cxC X scope cl (D::fp) a t) pins (blank own σ) H' s'/\tn i s'.heap/\(∀ b∈fp,H' b=none)/\H' D=none /\
  s'.heap.get? D=some {cls:=.type "list",data:=.seq l k}/\dI ys l.toList/\W i n ys H') ?_ m0
  ⟨0,[],t,#[],_,IY,T.keep _ _ _ st3 λb f o q=>E b o q,λb f=>(R b f).1,h.un,E _ _ hD3,.nil,w0⟩
 rintro n s4 ⟨i,ys,Q,l,k,I4,st4,fr4,D4,o4,v4,w4⟩;obtain⟨hz,step⟩:=turn i n ys Q w4;rcases step with⟨stop,qn⟩ | ⟨go,step⟩
 ·refine thn (T.done (cxC X scope cl (D::fp) a t) rfl rfl rfl S.calm i _ s4 (blank own σ) Q (λ_ _=>False) (pin2 I4 D4 o4) (L fr4) st4 stop) λr s5 Z0=>?_;obtain⟨hr,I5⟩:=Z0;subst hr;have oD:s5.heap.get? D=some {cls:=.type "list",data:=.seq l k}:=(I5.pin (D,_) (a1c _ (a1c _ a4a))).1;have P:Inv (cxC X scope cl (D::fp) a t) pins (blank own σ) Q s5:=I5.unpinned;have IX:Inv X pins σ Q s5:=by
   refine B.call' (ch:=D::fp) P.os P.base P.hok P.bare λb f=>?_;rcases a3b.mp f with z | z;rw[z];exact⟨.inr h.young,h.loc,h.cell,h.pin⟩;obtain⟨a1,a2,a3,a4,a5,a6⟩:=R b z;exact⟨a4,a2,a5,a6⟩
  obtain⟨m5,hm5,_⟩:=P.loc;have nC:Q a.heap.objs.size=none:=P.free;have IX':Inv X pins σ (upd Q D (.lst ys)) s5:=by
   refine IX.adopt D4 h.young h.loc h.cell h.pin ⟨hz,l.toList,k,v4,?_⟩;rw[oD]
  have strC:Stray X pins (upd Q D (.lst ys)) a.heap.objs.size:=B.stray (a9a _) (by rw[aS (a4e DY)];exact nC);exact fin D _ ys Q s5 m5 IX' D4 hm5 strC qn
 ·refine thn (T.item (cxC X scope cl (D::fp) a t) rfl rfl rfl S.calm i _ s4 (blank own σ) Q (λ_ _=>False) (pin2 I4 D4 o4) (L fr4) st4 go) λr s5 Z0=>?_;obtain⟨u,hr,h5⟩:=Z0;subst hr;refine thn h5 λ_ s6 ⟨x,H6,I6,r6,y6,st6,fr6⟩=>?_;have I6':=I6.pinned (L fr6) (T.obj _ _ st6);refine thn (hg cl (D::fp) a t _ s6 (blank own σ) H6 x u _ I6' r6 (hG _ _ _ _ (step x H6 y6))) λ_ s7 ⟨σ7,H7,I7,⟨q7,l7,p7⟩⟩=>?_;refine thn (ht cl (D::fp) a t _ s7 σ7 H7 _ I7 q7) λb s8 ⟨H8,I8,q8⟩=>?_;have weak:∀ {H9:Hp} {s9:Shared},Inv (cxC X scope cl (D::fp) a t) ((pins++[(D,{cls:=.type "list",data:=.seq l k})])++tO fp s6.heap) σ7 H9 s9 ->
    Inv (cxC X scope cl (D::fp) a t) ((pins++[(D,{cls:=.type "list",data:=.seq l k})])++tO fp s6.heap) (blank own σ) H9 s9:=λI9=>
   I9.weak l7.symm λj v e=>by rw[p7 j (rB own σ j v e).1];exact e
  have tn9:∀ {H9:Hp} {s9:Shared},Inv (cxC X scope cl (D::fp) a t) ((pins++[(D,{cls:=.type "list",data:=.seq l k})])++tO fp s6.heap) (blank own σ) H9 s9->tn (i+1) s9.heap/\∀ b∈fp,H9 b=none:=λI9=>
   ⟨T.keep _ _ _ st6 λb f o q=>(I9.pin (b,o) (a1c _ (a1c _ (nM f q)))).1,λb f=>by
    obtain⟨o,q,d⟩:=T.obj _ _ st6 b f;exact(I9.pin (b,o) (a1c _ (a1c _ (nM f q)))).2.1⟩
  cases b with
  | true=>
    rw[a4y rfl]at q8 ⊢;refine thn (he cl (D::fp) a t _ s8 σ7 H8 _ I8 q8) λy s9 Z0=>?_;obtain⟨v9,H9,I9,r9,Y,hm',w9⟩:=Z0;have M:=weak I9;obtain⟨t9,f9⟩:=tn9 M;have p9:=M.pin (D,_) (a1c _ (a2d _ (a1c _ a4a)));have hlen:=v4.length;have hz':l.size<=sizeLine:=by rw[← a0h];lia
    refine append_at (hsz:=hz') p9.1 λh' hs' hD'=>?_;have I9u:Inv (cxC X scope cl (D::fp) a t) pins (blank own σ) H9 s9:=M.unpinned.unpinned;have I10:Inv (cxC X scope cl (D::fp) a t) pins (blank own σ) H9 {s9 with heap:=h'}:=
     I9u.turned (it:=D) (t':=s9.toks) (λb o f q=>(hs'.2 b f).trans q) p9.2.1 DY (.inl a4a) cneD h.pin
    refine⟨Y,hm',i+1,ys++[v9],H9,l.push y,k+1,I10,T.keep _ _ _ t9 λb f o q=>(hs'.2 b λz=>hDfp (by rw[← z];exact f)).trans q,f9,p9.2.1,hD',?_,w9⟩;rw[Array.toList_push];exact v4.append (.cons r9 .nil)
  | false=>
    rw[a4z a0c]at q8 ⊢;obtain⟨Y,hm',w9⟩:=q8;have M:=weak I8;obtain⟨t9,f9⟩:=tn9 M;have p9:=M.pin (D,_) (a1c _ (a2d _ (a1c _ a4a)));exact⟨Y,hm',i+1,ys,H8,l,k,M.unpinned.unpinned,t9,f9,p9.2.1,p9.1,v4,w9⟩
set_option maxHeartbeats 8000000 in
def aM1{X:Cx}{tg iter elt:Expr}{B:List Expr}{scope:Scope}{pos E:Pos}{own:List Nat}{wi:TI}{g:TG}{tt:TT}{te:TE}{use:Option (Value->Sem Unit)}{Qf:Value->Shared->Prop}
  (S:CompScope X scope own) (hi:PI X tg iter wi) (hg:∀ cl ex s H,PG (cxC X scope cl ex s H) tg g) (hG:cT1 own g)
  (ht:∀ cl ex s H,cM0 (cxC X scope cl ex s H) B tt) (he:∀ cl ex s H,PE (cxC X scope cl ex s H) elt te)
  {pins:List (Addr×Obj)} {s:Shared} {σ:St} {H:Hp} {F:List V->Hp->Prop} (I:Inv X pins σ H s) (hw:cM1 own wi g tt te σ H F)
  (hs:∀ x,foldedSetIterable iter X.env x=pure x)
  (fin:∀ D C ys H' s' m,Inv X pins σ (upd H' D (.lst ys)) s'->H' D=none->s'.heap.Ns C m->Stray X pins (upd H' D (.lst ys)) C->F ys H' ->
   compPost (model X.prog X.w) X.A X.xe use Qf (.ref D) C (.ok .next) s') :
  wpAny (model X.prog X.w) X.A (comprehension (.ListComp elt [⟨tg,iter,B,0⟩] scope pos) scope X.env E (newList []) false (eval iter X.env) use) Qf X.xe s:=by
 obtain⟨cl,R,U,Y⟩:=bH8 (scope:=scope) (env:=X.env) λy P hf=>I.ok.has y.1 (S.free y P hf);refine wpAny_comprehension_free (use:=use) rfl hs R S.kind S.names (thn (hi pins s σ H _ I hw) λv s₁ h₁=>thn h₁ λitv a G=>?_);obtain⟨it,fp,tn,J,H2,e,r,T,t,f2,W,⟨m0,w0⟩,turn⟩:=G;subst e;refine a4G (cT0 ?_);dsimp only;have Z:(a.heap.push {cls:=.type "list",dict:=none,data:=.seq ([]:List Value).toArray}).objs.size=a.heap.objs.size+1:=a2h ..;have h:∀ b o,a.heap.get? b=some o->(a.heap.push {cls:=.type "list",dict:=none,data:=.seq ([]:List Value).toArray}).get? b=some o:=λb o q=>a7a _ q;have K:(a.heap.push {cls:=.type "list",dict:=none,data:=.seq ([]:List Value).toArray}).get? a.heap.objs.size=some {cls:=.type "list",dict:=none,data:=.seq ([]:List Value).toArray}:=a2c _ rfl;generalize hG3:a.heap.push {cls:=.type "list",dict:=none,data:=.seq ([]:List Value).toArray}=d at Z h K ⊢;have n:(d.push {cls:=.type "dict",data:=.dict #[]}).objs.size=d.objs.size+1:=a2h ..;have i:(pushCells (d.push {cls:=.type "dict",data:=.dict #[]}) scope.names).Ns d.objs.size (λ_=>none):=(Heap.Ns.new d (.type "dict")).keeps (pushCells_keeps _ _);have k:∀ b o,d.get? b=some o->(pushCells (d.push {cls:=.type "dict",data:=.dict #[]}) scope.names).get? b=some o:=λb o q=>pushCells_keeps _ _ b o (a7a _ q);have ok:=cellsFrom_ok scope.names (d.push {cls:=.type "dict",data:=.dict #[]}) (d.objs.size+1) [] ⟨λ_ _ hm=>(nomatch hm),List.Pairwise.nil⟩ (by rw[n];exact a9a _);rw[n]at ok;generalize pushCells (d.push {cls:=.type "dict",data:=.dict #[]}) scope.names=h₁ at i k ok ⊢;have I3:Inv X pins σ H2 {a with heap:=d}:=r.kept (t':=a.toks) h;have look:∀ x,(cellsFrom (d.objs.size+1) scope.names cl).lookup x=((cellsFrom (d.objs.size+1) scope.names []).lookup x).or (cl.lookup x):=λx=>by rw[fK,List.lookup_append]
 have L:∀ x c,(cellsFrom (d.objs.size+1) scope.names []).lookup x=some c->d.objs.size < c/\scope.names.lookup x=some .cell/\h₁.IsCell c none:=λx c q=>
  ⟨(ok.empty x c (mem_of_lookup q)).2,S.cells _ (lI _ _ x c (mem_of_lookup q)) rfl,(ok.empty x c (mem_of_lookup q)).1⟩
 have j:∀ x c,(cellsFrom (d.objs.size+1) scope.names cl).lookup x=some c->(X.env.cells.lookup x=some c/\scope.names.lookup x≠some .cell)\/(d.objs.size < c/\scope.names.lookup x=some .cell/\h₁.IsCell c none):=λx c q=>by
  rw[look]at q;cases e:(cellsFrom (d.objs.size+1) scope.names []).lookup x with
  | some M=>rw[e]at q;cases q;exact .inr (L x _ e)
  | none=>
    rw[e]at q;refine .inl ⟨U x c q,λz=>?_⟩;obtain⟨M,f⟩:=gU scope.names (d.objs.size+1) x (mem_of_lookup z);rw[e]at f;cases f
 have l:∀ x c,X.env.cells.lookup x=some c->c < d.objs.size:=λx c q=>by
  obtain⟨v,o,ho,hd⟩:=I3.cell x c q;exact a5b ho
 have p:=bI0 (iter:=iter) (elt:=elt) (pos:=pos) (use:=use) (Qf:=Qf) (tk:=a.toks) (h₁:=h₁) S hg hG ht he I3 T j (λy P hk=>by
   rw[look];rcases hk with z | z
   ·obtain⟨c,hc⟩:=Y y P z;cases e:(cellsFrom (d.objs.size+1) scope.names []).lookup y.1 with
    | some M=>exact⟨M,rfl⟩
    | none=>exact⟨c,hc⟩
   ·obtain⟨c,hc⟩:=gU scope.names (d.objs.size+1) y.1 (by rw[← z];exact P);exact⟨c,by rw[hc];rfl⟩) (λx y c q1 Q=>by
   rcases j x c q1 with N | N;rcases j y c Q with u | u;exact I3.ok.inj x y c N.1 u.1;exact absurd u.1 (Nat.not_lt.mpr (a6h (l x c N.1)));rcases j y c Q with u | u;exact absurd N.1 (Nat.not_lt.mpr (a6h (l y c u.1)));have m1:(cellsFrom (d.objs.size+1) scope.names []).lookup x=some c:=by
    obtain⟨M,f⟩:=gU scope.names (d.objs.size+1) x (mem_of_lookup N.2.1);rw[look,f]at q1;cases q1;exact f
   have m2:(cellsFrom (d.objs.size+1) scope.names []).lookup y=some c:=by
    obtain⟨M,f⟩:=gU scope.names (d.objs.size+1) y (mem_of_lookup u.2.1);rw[look,f]at Q;cases Q;exact f
   exact name_of_addr ok.apart (mem_of_lookup m1) (mem_of_lookup m2)) f2 (λb O=>by obtain⟨o,q,_⟩:=T.obj _ _ t b O;exact a5b q)
  (by show a.heap.objs.size < d.objs.size;lia) (λb O=>by
   rcases a3b.mp (r.stkSub b O)with z | z;rw[z];exact r.lt;exact Nat.lt_of_not_le λhle=>r.nofs hle z)
  (λb o q=>a5b (r.bs b o q).1) (r.stray (a9a _) (r.hok.fresh (a9a _))) K (T.keep _ _ _ t λb O o q=>h b o q) i k w0 turn fin
 exact codeAny_compStart_list p (T.self _ 0 _ _ _ (T.keep _ _ _ t λb O o q=>k b o (h b o q)) p)
def bV{X:Cx}{tg iter elt:Expr}{a:List Expr}{scope:Scope}{pos:Pos}{own:List Nat}{d:TI}{g:TG}{f:TT}{h:TE}
  (S:CompScope X scope own) (hi:PI X tg iter d) (i:∀ cl ex s H,PG (cxC X scope cl ex s H) tg g) (j:cT1 own g)
  (k:∀ cl ex s H,cM0 (cxC X scope cl ex s H) a f) (l:∀ cl ex s H,PE (cxC X scope cl ex s H) elt h)
  (n:∀ x,foldedSetIterable iter X.env x=pure x:=by intro _;rfl):PE X (.ListComp elt [⟨tg,iter,a,0⟩] scope pos) (bH9 own d g f h):=by
 intro pins s σ H Q I p;rw[eval_ListComp];refine aM1 (use:=none) S hi i j k l I p n λD C ys H' s' m r t hm str q=>?_;refine⟨m,hm,λh' c=>⟨.ref D,upd H' D (.lst ys),?_,rfl,q D t⟩⟩;exact r.turned (it:=C) (t':=s'.toks) (λb o u e=>(c.2 b u).trans e) str.un str.loc (.inr str.young) str.cell str.pin
def fL{X:Cx}{i:Nat}{x:Str}{tg iter elt:Expr}{d:List Expr}{scope:Scope}{pos c f:Pos}{own:List Nat}{u:TI}{g:TG}{w:TT}{y:TE}
  (B:X.N.Nodup) (j:X.N[i]? = some x) (A:X.env.scope.names.lookup x=some .local)
  (S:CompScope X scope own) (hi:PI X tg iter u) (E:∀ cl ex s H,PG (cxC X scope cl ex s H) tg g) (F:cT1 own g)
  (G:∀ cl ex s H,cM0 (cxC X scope cl ex s H) d w) (J:∀ cl ex s H,PE (cxC X scope cl ex s H) elt y)
  (k:swapsWith (.ListComp elt [⟨tg,iter,d,0⟩] scope pos) (some (.Name x c)) f.line X.env=pure true)
  (K:∀ x,foldedSetIterable iter X.env x=pure x:=by intro _;rfl) :
  PS X (.Assign [.Name x c] (.ListComp elt [⟨tg,iter,d,0⟩] scope pos) f) (λD σ H=>bH9 own u g w y σ H λv L=>D.nx (σ.set i (some v)) L):=by
 intro pins s σ H M I O;rw[exec_Assign_Name_used _ _ _ _ k];refine a4x (a4V (a4x ?_));show wpAny _ _ (do let _ ← comprehension (.ListComp elt [⟨tg,iter,d,0⟩] scope pos) scope X.env _ (newList []) false (eval iter X.env) (some (assign (.Name x c) X.env))) _ _ s;refine a4x (thn (aM1 (use:=some (assign (.Name x c) X.env)) (Qf:=λ_ s'=>SP X pins M .next s') S hi E F G J I O K λD C ys H' s' m P Q hm str q=>?_) λ_ s' R=>a4A (a4A R));show wpAny _ _ (assign (.Name x c) X.env (.ref D)) _ _ s';refine wpAny_assign_Name (aK9 (v:=.ref D) P B j (.inl A) (show gR (.ref D) (Value.ref D)from rfl) (λl n p=>?_) (.inr A));obtain⟨a,h,ha⟩:=p;have r:C≠a:=by
  rcases ha with z | z;rw[z];exact str.loc;exact a4e (str.cell x a z)
 refine⟨m,hm.sameBut h r,λh' t=>⟨_,_,?_,q D Q⟩⟩;exact n.turned (it:=C) (t':=l.toks) (λb o T e=>(t.2 b T).trans e) str.un str.loc (.inr str.young) str.cell str.pin
section
variable{X:Cx}
def cC3(w:X.calm=true):lE X (.builtin "all") (λxs H Q=>∃ (a:Addr) (bs:List Bool),xs=[.ref a]/\SqL X.K H a (bs.map V.bl)/\Q (.bl (bs.all id)) H):=by
 intro pins s σ H xs us Q I r h;obtain⟨a,bs,rfl,ha,q⟩:=h;obtain⟨u,rfl,y⟩:=aA4 r;cases y;obtain⟨d,j,p,F⟩:=I.list ha;have k:a < s.heap.objs.size:=by obtain⟨_,e,_⟩:=p.isList;exact a5b e
 have B:X.A.in1.handled=none:=I.ok.hd w;refine call_all_walk (wpAny_pyIter_list p.isList ?_);refine⟨s.heap.objs.size,[s.heap.objs.size,a],[s.heap.objs.size],d.toArray.size,_,_,λi=>(bs[i]?).getD true,rfl,Walks.list (A:=X.A.in1) B _ a (a1d k) d.toArray,
  ⟨⟨_,a2c _ rfl,rfl,rfl⟩,p.isList.push _⟩,λi v s' G J C m=>?_,λh' tk D=>?_⟩
 ·have hi:d[i]? = some v:=by simpa using C
  have c:=j.length;have n:i < d.length:=(a2a.mp hi).1;have g:i < bs.length:=by rw[a0a]at c;lia
  obtain⟨u,t,E⟩:=j.get (i:=i) (x:=V.bl bs[i]) (by rw[a5c,a1a g];rfl);rw[hi]at t;cases t;have e:v=Value.bool bs[i]:=E;subst e;simp only[List.getElem?_eq_getElem g,Option.getD_some]at m;exact a4J m
 ·have e:((List.range d.toArray.size).all λi=>(bs[i]?).getD true)=bs.all id:=by
   have c:=j.length;rw[a0a]at c;rw[a2b,← c];rw[a3e,a3g,a3g];constructor;intro l b g;obtain⟨i,hi,rfl⟩:=a8d g;have:=l i (a7d.mpr hi);simp only[List.getElem?_eq_getElem hi,Option.getD_some]at this;exact this;intro l i hi;have f:=a7d.mp hi;simp only[List.getElem?_eq_getElem f,Option.getD_some];exact l _ (a7b f)
  rw[e];exact⟨.bl _,H,I.kept (t':=tk) λb o q=>D b o (λhm=>by
   have z:b=s.heap.objs.size:=by simpa using hm
   rw[z]at q;exact a6e _ (a5b q)) (a7a _ q),rfl,q⟩
noncomputable def Its(x:Str):It:=⟨λi _=>∃ c,x.cps[i]? = some c,λi H v H'=>H'=H/\∃ c,x.cps[i]? = some c/\v=.str ⟨#[c]⟩,λi _=>x.cps[i]? = none⟩
def bB0{P:Program}{w:World}{K:W.Frag}{tg:Expr}(x:Str)(t:Tok)(it:Addr)(ty:String)(g:ty="str_ascii_iterator"\/ty="str_iterator"):Turn P w K tg (Its x) [it] it (λi h=>h.IsStrIter it ty x t i) where
 mem:=by simp
 obj:=λi h st b a=>by
  have e:b=it:=by simpa using a
  subst e;obtain⟨o,e,c,d⟩:=st;exact⟨o,e,λv z=>by rw[d]at z;cases z⟩
 keep:=λi h h' st k=>by
  obtain⟨o,e,c,d⟩:=st;exact⟨o,k it (by simp) o e,c,d⟩
 item:=by
  intro X u y A B i pins s σ H E I l st C;subst u y A;obtain⟨c,j⟩:=C;obtain⟨m,n,L,p,q,r⟩:=l it (by simp);rcases g with rfl | rfl;refine wpAny_pyNext_ascii_item st j λh' f D=>?_;have F:Inv X pins σ H {s with heap:=h',toks:=s.toks+1}:=I.turned (t':=s.toks+1) (λb o a e=>(D.2 b a).trans e) m n p q r;obtain⟨o,e,G,d⟩:=id f;exact⟨_,rfl,bM6 (s:={s with heap:=h',toks:=s.toks+1}) e G d (by decide) ⟨.str ⟨#[c]⟩,H,F,⟨_,rfl⟩,⟨rfl,c,j,rfl⟩,f,λb a=>(l b a).1⟩⟩;refine wpAny_pyNext_wide_item st j λh' f D=>?_;have F:Inv X pins σ H {s with heap:=h',toks:=s.toks+1}:=I.turned (t':=s.toks+1) (λb o a e=>(D.2 b a).trans e) m n p q r;obtain⟨o,e,G,d⟩:=id f;exact⟨_,rfl,bM6 (s:={s with heap:=h',toks:=s.toks+1}) e G d (by decide) ⟨.str ⟨#[c]⟩,H,F,⟨_,rfl⟩,⟨rfl,c,j,rfl⟩,f,λb a=>(l b a).1⟩⟩
 done:=by
  intro X u y A B i pins s σ H E I l st C;subst u y A;have j:x.cps[i]? = none:=C;obtain⟨m,n,L,p,q,r⟩:=l it (by simp);rcases g with rfl | rfl;exact wpAny_pyNext_ascii_end (I.ok.hd B) st j λh' J=>⟨rfl,I.turned (t':=s.toks) (λb o a e=>J b o a e) m n p q r⟩;exact wpAny_pyNext_wide_end (I.ok.hd B) st j λh' J=>⟨rfl,I.turned (t':=s.toks) (λb o a e=>J b o a e) m n p q r⟩
 self:=λ_ _ _ _ _ st h=>by
  rcases g with rfl | rfl;exact wpAny_pyIter_striter_ascii st h;exact wpAny_pyIter_striter_wide st h
def eE2:V->Option Int->Option Int->Hp->VK->Prop:=λx lo hi H Q=>∃ z,x=.str z/\z.length<=sizeLine/\Q (.str (Txt.slice z lo hi)) H
def dI6:SlR X eE2:=by
 intro pins s σ H x v n o lo hi sl Q I f b g e h;obtain⟨z,rfl,m,q⟩:=h;obtain⟨t,rfl⟩:=f;refine⟨"str",_,F.slot_str_getitem.lookup,typeIs_str _ _ _,?_⟩;have fin:∀ c k,EP X pins σ Q (.str (Txt.slice z lo hi) c) {s with toks:=k}:=λc k=>⟨.str _,H,I.tok k,⟨c,rfl⟩,q⟩;have a:(Txt.slice z lo hi).length<=sizeLine:=a8b (Txt.slice_le z lo hi) m;cases g with
 | none=>
   cases e with
   | none=>exact a4L (l:=none) (u:=none) (st:=none) b rfl (post_val_or_str ⟨a,fin⟩)
   | int j d=>exact a4L (l:=none) (u:=some (j,d)) (st:=none) b rfl (post_val_or_str ⟨a,fin⟩)
 | int i t1=>
   cases e with
   | none=>exact a4L (l:=some (i,t1)) (u:=none) (st:=none) b rfl (post_val_or_str ⟨a,fin⟩)
   | int j d=>exact a4L (l:=some (i,t1)) (u:=some (j,d)) (st:=none) b rfl (post_val_or_str ⟨a,fin⟩)
def bI1{ys:List Str}:∀ {us:List Value},dI (ys.map V.str) us->StrsAre us ys:=by
 induction ys with
 | nil=>intro us r;cases r;exact .nil
 | cons y r a=>
   intro us h;cases h with
   | cons b c=>
     obtain⟨t,rfl⟩:=b;exact .cons y t (a c)
def cC4(K:W.Frag):V->List V->Hp->VK->Prop:=λx vs H Q=>∃ b a ys,x=.str b/\vs=[.ref a]/\SqL K H a (ys.map V.str)/\(ys.map (·.length)).sum+ys.length*b.length<=16777216/\Q (.str (Txt.join b ys)) H
def cT2:MtR X "str.join" (cC4 X.K):=by
 intro pins s σ H x vs v us Q I b c h;obtain⟨d,a,ys,rfl,rfl,ha,e,q⟩:=h;obtain⟨t,rfl⟩:=b;obtain⟨u,rfl,f⟩:=c.one;cases f;obtain⟨g,r,p,_⟩:=I.list ha;exact join_list p.isList (by simpa using bI1 r) e λi k=>⟨.str _,H,I.tok k,⟨i,rfl⟩,q⟩
def aU3:lE X (.builtin "isinstance") (λxs H Q=>∃ x c t b,xs=[x,.ty c]/\TyOf X.K H x t/\W.kitOne X.K t (.type c)=some b/\Q (.bl b) H):=by
 intro pins s σ H xs us Q I r h;obtain⟨x,c,t,b,rfl,ty,e,q⟩:=h;obtain⟨u,d,rfl,f,a⟩:=dH1 r;cases (show d=Value.type c from a);exact bN4 I f ty e λtk=>⟨.bl b,H,I.tok tk,rfl,q⟩
end
structure Tag(Q:VK):Type where mk ::
def Ask(sp:Sp)(vs:List V)(H:Hp)(E:XK)(Q:VK)(_:Tag Q):Prop:=sp vs H Q E
section
variable{σ:St}{H:Hp}{Q:VK}{v x y:V}{n:Nat}{i j:Int}{a b:Bool}{D:Ends}
theorem bO4{r:St}:cB5 0 (some v::r) H Q=Q v H:=propext ⟨λZ1=>by obtain⟨_,e,q⟩:=Z1;cases e;exact q,λq=>⟨_,rfl,q⟩⟩
theorem bO5{o:Option V}{r:St}:cB5 (n+1) (o::r) H Q=cB5 n r H Q:=rfl
theorem eB6:tC v σ H Q=Q v H:=rfl
theorem dI7{r:R2}{a b:TE}:tOp r a b σ H Q=a σ H λx c=>b σ c λy d=>r x y d Q:=rfl
theorem dI8{r:V->Hp->VK->Prop}{a:TE}:tUn r a σ H Q=a σ H λx b=>r x b Q:=rfl
theorem cM2{g:Int->Int->V}:rI0 g (.int i) (.int j) H Q=Q (g i j) H:=propext ⟨λZ1=>by obtain⟨_,_,e,a,q⟩:=Z1;cases e;cases a;exact q,λq=>⟨_,_,rfl,rfl,q⟩⟩
theorem cT3{C:Int->Int->Prop}{g:Int->Int->V}(h:C i j):rI C g (.int i) (.int j) H Q=Q (g i j) H:=propext ⟨λZ1=>by obtain⟨_,_,e,a,_,q⟩:=Z1;cases e;cases a;exact q,λq=>⟨_,_,rfl,rfl,h,q⟩⟩
theorem dI9{R:Bool->Prop}:(∃ k,V.bl a=V.bl k/\R k)=R a:=propext ⟨λZ1=>by obtain⟨_,e,q⟩:=Z1;cases e;exact q,λq=>⟨_,rfl,q⟩⟩
theorem bO6{t:TE}{R:Bool->Hp->Prop}:dG8 t σ H R=t σ H λx H'=>∃ k,x=.bl k/\R k H':=rfl
theorem dJ0{t:TE}{R:Bool->Hp->Prop}:tB t σ H R=t σ H λx H'=>∃ k,x=.bl k/\R k H':=rfl
theorem cM3{t u:TT}{R:Bool->Hp->Prop}:eA6 t u σ H R=t σ H λc H1=>if c=true then u σ H1 R else R false H1:=rfl
theorem dJ1{t u:TT}{R:Bool->Hp->Prop}:tOr t u σ H R=t σ H λc a=>if c=true then R true a else u σ a R:=rfl
theorem cM4{t:TT}{R:Bool->Hp->Prop}:eA7 t σ H R=t σ H λc H1=>R (!c) H1:=rfl
theorem bO7{t u:TE}:dF8 t u σ H Q=t σ H λx H1=>∃ c,x=.bl c/\if c=true then u σ H1 Q else Q (.bl false) H1:=rfl
theorem cM5{t u:TE}:eA8 t u σ H Q=t σ H λx a=>∃ c,x=.bl c/\if c=true then Q (.bl true) a else u σ a Q:=rfl
theorem bO8{t:TE}:dV8 t σ H Q=t σ H λx H1=>∃ c,x=.bl c/\Q (.bl (!c)) H1:=rfl
theorem bB1{r a:R2}{b c d:TE}:dG9 r a b c d σ H Q=b σ H λx f=>c σ f λy g=>r x y g λz e=>∃ k,z=.bl k/\if k=true then d σ e (λu h=>a y u h Q)else Q (.bl false) e:=rfl
theorem cM6{t:TT}{a b:TE}:tIf t a b σ H Q=t σ H λc d=>if c=true then a σ d Q else b σ d Q:=rfl
theorem cM7{t u:TS}:dU1 t u D σ H=t {D with nx:=u D} σ H:=rfl
theorem bO9:dG1 D σ H=D.nx σ H:=rfl
theorem bP0{a:TE}:dG2 a D σ H=a σ H λ_ H1=>D.nx σ H1:=rfl
theorem cM8{a:TE}:eA9 a D σ H=a σ H D.rt:=rfl
theorem bP1:dW0 D σ H=D.rt .non H:=rfl
theorem cM9{c:TT}{t u:TS}:eB0 c t u D σ H=c σ H λb H1=>if b=true then t D σ H1 else u D σ H1:=rfl
theorem cN0{a:TE}{g:TG}:cR6 a g D σ H=a σ H λx b=>g x σ b D.nx:=rfl
theorem bB2{R:St->Hp->Prop}:aF4 n v σ H R=R (σ.set n (some v)) H:=rfl
theorem bP2{to a:TE}{t:dU2}{R:St->Hp->Prop}:dW2 to a t v σ H R=to σ H λo b=>a σ b λi c=>t o i v c λd=>R σ d:=rfl
theorem cN1{R:List V->Hp->Prop}:dX0 σ H R=R [] H:=rfl
theorem bP3{a:TE}{tr:TA}{R:List V->Hp->Prop}:cB7 a tr σ H R=a σ H λx b=>tr σ b λxs c=>R (x::xs) c:=rfl
theorem bP4{sp:Sp}{E:XK}{t:TA}:bH3 sp [] E t σ H Q=t σ H λvs a=>Ask sp vs a E Q ⟨⟩:=by
 unfold bH3 Ask;simp only[List.append_nil]
theorem dJ2{r:List V->Hp->VK->Prop}{t:TA}:tCB r t σ H Q=t σ H λvs a=>r vs a Q:=rfl
theorem dJ3{r:V->Option Int->Option Int->Hp->VK->Prop}{a:TE}{b c:TO}:tSl r a b c σ H Q=a σ H λx d=>b σ d λl e=>c σ e λu f=>r x l u f Q:=rfl
theorem aM2{R:Option Int->Hp->Prop}:bN8 σ H R=R none H:=rfl
theorem bP5{t:TE}{R:Option Int->Hp->Prop}:dH5 t σ H R=t σ H λx H1=>∃ i,x=.int i/\R (some i) H1:=rfl
theorem bP6{R:Bool->Hp->Prop}:dI5 σ H R=R true H:=rfl
end
noncomputable def iI(H:Hp)(p:Addr):Option (Bool×List V):=match H p with
 | some (.lst xs)=>some (true,xs)
 | some (.tup xs)=>some (false,xs)
 | some (.frz _ (.lst xs))=>some (true,xs)
 | _=>none
def tI{H:Hp}{p:Addr}{xs:List V}(h:H p=some (.lst xs)):iI H p=some (true,xs):=by unfold iI;rw[h]
def eO{H:Hp}{p:Addr}{xs:List V}(h:H p=some (.tup xs)):iI H p=some (false,xs):=by unfold iI;rw[h]
def cC5{H:Hp}{p:Addr}{o:Obj}{xs:List V}(h:H p=some (.frz o (.lst xs))):iI H p=some (true,xs):=by unfold iI;rw[h]
def gP{K:W.Frag}{H:Hp}{p:Addr}{xs:List V}(h:iI H p=some (true,xs)):SqL K H p xs:=by
 unfold iI at h;split at h;rename_i e;cases h;exact .inl (.inl e);cases h;rename_i o ys e;cases h;exact .inl (.inr ⟨o,e⟩);cases h
def eY{K:W.Frag}{H:Hp}{p:Addr}{xs:List V}(h:iI H p=some (false,xs)):SqT K H p xs:=by
 unfold iI at h;split at h;cases h;rename_i e;cases h;exact .inl (.inl e);cases h;cases h
noncomputable def ixF(H:Hp)(x y:V):Option V:=match x,y with
 | .ref p,.int i=>(iI H p).bind λq=>atI q.2 i
 | .str z,.int i=>if z.length<=sizeLine then(atI z.cps.toList i).map λc=>.str ⟨#[c]⟩else none
 | _,_=>none
noncomputable def dJ4(H:Hp)(x:V):Option Nat:=match x with
 | .ref p=>(iI H p).map (·.2.length)
 | .str z=>if z.length<=sizeLine then some z.length else none
 | _=>none
def eB7:R2:=λx y H Q=>∃ v,ixF H x y=some v/\Q v H
section
variable{X:Cx}
def eE3:IxR X eB7:=by
 intro a d pins s σ H x y v u Q I g j h k;obtain⟨z,e,q⟩:=h;unfold ixF at e;split at e
 ·rename_i p i;cases f:iI H p with
  | none=>rw[f]at e;cases e
  | some w=>
    obtain⟨b,xs⟩:=w;rw[f]at e;cases b with
    | true=>exact cS6 a d pins s σ H _ _ v u Q I g j ⟨p,xs,i,z,rfl,rfl,gP f,e,q⟩ k
    | false=>exact dH7 a d pins s σ H _ _ v u Q I g j ⟨p,xs,i,z,rfl,rfl,eY f,e,q⟩ k
 ·rename_i t i;split at e
  ·rename_i m;cases l:atI t.cps.toList i with
   | none=>rw[l]at e;cases e
   | some c=>
     rw[l]at e;cases e;exact dH8 a d pins s σ H _ _ v u Q I g j ⟨t,i,c,rfl,rfl,m,l,q⟩ k
  ·cases e
 ·cases e
def cC6:List V->Hp->VK->Prop:=λxs H Q=>∃ x n,xs=[x]/\dJ4 H x=some n/\Q (.int n) H
def bI:lE X (.builtin "len") cC6:=by
 intro pins s σ H xs us Q I r h;obtain⟨x,n,rfl,e,q⟩:=h;unfold dJ4 at e;split at e
 ·rename_i p;cases a:iI H p with
  | none=>rw[a]at e;cases e
  | some w=>
    obtain⟨b,xs⟩:=w;rw[a]at e;cases e;cases b with
    | true=>exact sD pins s σ H _ us Q I r ⟨p,xs,rfl,.inl (gP a),q⟩
    | false=>exact sD pins s σ H _ us Q I r ⟨p,xs,rfl,.inr (eY a),q⟩
 ·rename_i z;split at e;rename_i c;cases e;exact aL8 pins s σ H _ us Q I r ⟨z,rfl,c,q⟩;cases e
 ·cases e
def eB8:V->Option Int->Option Int->Hp->VK->Prop:=λx lo hi H Q=>match x with
 | .str z=>z.length<=sizeLine/\Q (.str (Txt.slice z lo hi)) H
 | .ref p=>(∃ xs,iI H p=some (true,xs)/\∀ r,H r=none->Q (.ref r) (upd H r (.lst (aT8 xs lo hi)))) \/
   ∃ xs,iI H p=some (false,xs)/\¬ (HT.sIx xs.length 0 lo=0/\HT.sIx xs.length xs.length hi=xs.length)/\∀ r,H r=none->Q (.ref r) (upd H r (.tup (aT8 xs lo hi)))
 | _=>False
def dX8:SlR X eB8:=by
 intro pins s σ H x v a b lo hi sl Q I c d e f h;unfold eB8 at h;split at h;rename_i z;exact dI6 pins s σ H _ v a b lo hi sl Q I c d e f ⟨z,rfl,h.1,h.2⟩;rename_i p;rcases h with⟨xs,g,q⟩ | ⟨xs,g,hw,q⟩;exact cS7 pins s σ H _ v a b lo hi sl Q I c d e f ⟨p,xs,rfl,gP g,q⟩;exact dH6 pins s σ H _ v a b lo hi sl Q I c d e f ⟨p,xs,rfl,eY g,hw,q⟩;exact h.elim
def dX9(K:W.Frag)(b:TE):TI:=λσ H R=>b σ H λx a=>match x with
 | .str z=>R (Its z) a
 | .ref p=>(∃ xs,iI a p=some (true,xs)/\R (Itl K p) a)\/∃ xs,iI a p=some (false,xs)/\R (Itt K p) a
 | _=>False
def dJ5{tg l:Expr}{k:TE}(n:PE X l k):PI X tg l (dX9 X.K k):=by
 intro pins s σ H R I h;refine thn (n pins s σ H _ I h) λv s1 Z0=>?_;obtain⟨x,i,c,m,f⟩:=Z0;split at f
 ·rename_i x;obtain⟨t,rfl⟩:=m;cases ha:x.cps.all (· < 128)with
  | true=>
    refine wpAny_pyIter_ascii ha ?_;refine⟨s1.heap.objs.size,[s1.heap.objs.size],_,_,i,rfl,c.kept (t':=s1.toks) λb o e=>a7a _ e,bB0 x t _ _ (.inl rfl),⟨_,a2c _ rfl,rfl,rfl⟩,λb d=>?_,f⟩;have e:b=s1.heap.objs.size:=by simpa using d
    subst e;exact c.fpOk (a9a _) (c.hok.fresh (a9a _))
  | false=>
    refine wpAny_pyIter_wide ha ?_;refine⟨s1.heap.objs.size,[s1.heap.objs.size],_,_,i,rfl,c.kept (t':=s1.toks) λb o e=>a7a _ e,bB0 x t _ _ (.inr rfl),⟨_,a2c _ rfl,rfl,rfl⟩,λb d=>?_,f⟩;have e:b=s1.heap.objs.size:=by simpa using d
    subst e;exact c.fpOk (a9a _) (c.hok.fresh (a9a _))
 ·rename_i a;cases m;rcases f with⟨xs,j,q⟩ | ⟨xs,j,q⟩
  ·obtain⟨g,r,p,u⟩:=c.list (gP j);refine wpAny_pyIter_list p.isList ?_;refine⟨s1.heap.objs.size,[s1.heap.objs.size],_,_,i,rfl,c.kept (t':=s1.toks) λb o e=>a7a _ e,bM7 a _,⟨_,a2c _ rfl,rfl,rfl⟩,λb d=>?_,q⟩;have e:b=s1.heap.objs.size:=by simpa using d
   subst e;exact c.fpOk (a9a _) (c.hok.fresh (a9a _))
  ·obtain⟨g,r,p,u⟩:=c.tuple (eY j);refine a4N (show s1.heap.IsTuple a g.toArray from p) ?_;refine⟨s1.heap.objs.size,[s1.heap.objs.size],_,_,i,rfl,c.kept (t':=s1.toks) λb o e=>a7a _ e,bG7 a _,⟨_,a2c _ rfl,rfl,rfl⟩,λb d=>?_,q⟩;have e:b=s1.heap.objs.size:=by simpa using d
   subst e;exact c.fpOk (a9a _) (c.hok.fresh (a9a _))
 ·exact f.elim
noncomputable def cN2(N:List Str)(sc scope:Scope)(own:List Nat):Bool:=
 (match scope.kind with | .function=>true | _=>false) &&
 scope.names.all (λy=>match y.2 with
  | .cell=>(match scope.names.lookup y.1 with | some .cell=>true | _=>false)
  | .local=>(match scope.names.lookup y.1 with | some .local=>true | _=>false)
  | .free=>(match sc.names.lookup y.1 with | some .cell=>true | some .free=>true | _=>false)
  | _=>true) &&
 (List.range N.length).all λi=>match N[i]? with
  | some x=>(match scope.names.lookup x with | some .local=>own.contains i | some .cell=>own.contains i | _=>true)
  | none=>true
def csc{scope:Scope}(own:List Nat)(h:cN2 X.N X.env.scope scope own=true)(g:X.calm=true:=by rfl):CompScope X scope own:=by
 unfold cN2 at h;rw[a2f,a2f]at h;obtain⟨⟨j,b⟩,d⟩:=h;rw[a3g]at b d;refine⟨?_,λy a e=>?_,λy a e=>?_,λy a e=>?_,λi x f c=>?_,g⟩;revert j;cases scope.kind<;>simp;have:=b y a;rw[e]at this;dsimp only at this;split at this;assumption;cases this;have:=b y a;rw[e]at this;dsimp only at this;split at this;assumption;cases this;have:=b y a;rw[e]at this;dsimp only at this;show X.env.scope.names.lookup y.1=some .cell\/X.env.scope.names.lookup y.1=some .free;split at this;rename_i q;exact .inl q;rename_i q;exact .inr q;cases this;have hi:i < X.N.length:=(a2a.mp f).1;have:=d i (a7d.mpr hi);rw[f]at this;dsimp only at this;rcases c with c | c<;>rw[c]at this<;>simpa using this
end
structure ItIs(J:It)(xs:List V)(P:Hp->Prop):Prop where
 go:∀ H i x,P H->xs[i]? = some x->J.go i H
 yld:∀ H i x y H',P H->xs[i]? = some x->J.yld i H y H'->H'=H/\y=x
 stop:∀ H i,P H->xs[i]? = none->J.stop i H
def aM3{K:W.Frag}{a:Addr}{xs:List V}:ItIs (Itl K a) xs (λH=>SqL K H a xs) where
 go:=λH i x h e=>⟨xs,x,h,e⟩
 yld:=λH i x y H' h e ⟨b,c⟩=>⟨b,by have:=c xs h;rw[e]at this;exact(a0b this).symm⟩
 stop:=λH i h e=>⟨xs,h,a4d.mp e⟩
def cC7{K:W.Frag}{a:Addr}{xs:List V}:ItIs (Itt K a) xs (λH=>SqT K H a xs) where
 go:=λH i x h e=>⟨xs,x,h,e⟩
 yld:=λH i x y H' h e ⟨b,c⟩=>⟨b,by have:=c xs h;rw[e]at this;exact(a0b this).symm⟩
 stop:=λH i h e=>⟨xs,h,a4d.mp e⟩
noncomputable def cT4(lo:Int)(n:Nat):List V:=(List.range n).map λ(i:Nat)=>V.int (lo+(i:Int))
def pX{lo:Int}{n i:Nat}{x:V}(h:(cT4 lo n)[i]? = some x):i < n/\x=.int (lo+i):=by
 unfold cT4 at h;rw[a5c]at h;cases e:(List.range n)[i]? with
 | none=>rw[e]at h;cases h
 | some k=>
   rw[e]at h;obtain⟨hi,a⟩:=a2a.mp e;rw[a5f]at hi;rw[List.getElem_range]at a;subst a;exact⟨hi,(a0b h).symm⟩
def gJ(lo:Int)(n:Nat):(cT4 lo n).length=n:=by simp[cT4]
def pY{lo:Int}{n:Nat}{P:Hp->Prop}:ItIs (Itr lo n) (cT4 lo n) P where
 go:=λH i x _ e=>(pX e).1
 yld:=λH i x y H' _ e ⟨a,b⟩=>⟨a,by rw[(pX e).2];exact b⟩
 stop:=λH i _ e=>by
  have:=a4d.mp e;rw[gJ]at this;exact this
noncomputable def iJ(x:Str):List V:=x.cps.toList.map λc=>.str ⟨#[c]⟩
def jC(x:Str):(iJ x).length=x.length:=by simp[iJ,Str.length]
def cC8{x:Str}{P:Hp->Prop}:ItIs (Its x) (iJ x) P where
 go:=λH i v _ e=>by
  unfold iJ at e;rw[a5c]at e;cases q:x.cps.toList[i]? with
  | none=>rw[q]at e;cases e
  | some c=>exact⟨c,by simpa using q⟩
 yld:=λH i v y H' _ e ⟨b,c,d,f⟩=>⟨b,by
  unfold iJ at e;rw[a5c]at e;have q:x.cps.toList[i]? = some c:=by simpa using d
  rw[q]at e;cases e;exact f⟩
 stop:=λH i _ e=>by
  have a:=a4d.mp e;rw[jC]at a;show x.cps[i]? = none;rw[Array.getElem?_eq_none_iff];exact a
def aU4{J:It}{xs:List V}{P:Hp->Prop}(w:ItIs J xs P){own:List Nat}{g:TG}{l:TT}{n:TE}{σ:St}{o:Hp}{F:List V->Hp->Prop}(Pv:Nat->List V->Hp->Prop)(h0:Pv 0 [] o)
  (r:∀ i ys H,Pv i ys H->P H/\ys.length<=i) (hn:xs.length<=sizeLine)
  (step:∀ i x ys H (N:List V->Hp->Prop),xs[i]? = some x->Pv i ys H->(∀ a H',Pv (i+1) a H'->N a H')->g x (blank own σ) H λc j=>l c j λb f=>if b=true then n c f λv d=>N (ys++[v]) d else N ys f)
  (fin:∀ ys H,Pv xs.length ys H->F ys H) :
  ∃ W:Nat->Nat->List V->Hp->Prop,(∃ m,W 0 m [] o)/\∀ i m ys H,W i m ys H->ys.length<=sizeLine /\
  ((J.stop i H/\F ys H)\/(J.go i H/\∀ x H',J.yld i H x H'->g x (blank own σ) H' λc j=>l c j λb f=>
    if b=true then n c f λv d=>∃ m',m' < m/\W (i+1) m' (ys++[v]) d else ∃ m',m' < m/\W (i+1) m' ys f)):=by
 refine⟨λi m ys H=>m=xs.length-i/\i<=xs.length/\Pv i ys H,⟨xs.length,by simp,a7c _,h0⟩,?_⟩;rintro i m ys H ⟨rfl,hi,p⟩;obtain⟨k,s⟩:=r i ys H p;refine⟨by lia,?_⟩;by_cases h:i < xs.length;have e:xs[i]? = some xs[i]:=a1a h;refine .inr ⟨w.go H i _ k e,λx H' y=>?_⟩;obtain⟨rfl,rfl⟩:=w.yld H i _ x H' k e y;exact step i _ ys H' (λa d=>∃ m',m' < xs.length-i/\m'=xs.length-(i+1)/\i+1<=xs.length/\Pv (i+1) a d) e p λa d q=>⟨xs.length-(i+1),by lia,rfl,h,q⟩;have e:i=xs.length:=by lia
 subst e;exact .inl ⟨w.stop H _ k (a4d.mpr (a9a _)),fin ys H p⟩
def dJ6{J:It}{xs:List V}{P:Hp->Prop}(w:ItIs J xs P){g:TG}{d:TS}{D:Ends}{σ:St}{H:Hp}(Pv:Nat->St->Hp->Prop)(h0:Pv 0 σ H)(h:∀ i σ H,Pv i σ H->P H)
  (j:∀ i x σ H,xs[i]? = some x->Pv i σ H->g x σ H λa c=>d {D with nx:=Pv (i+1),ct:=Pv (i+1),bk:=D.nx} a c) (hd:∀ σ H,Pv xs.length σ H->D.nx σ H) :
  ∃ W:Nat->Nat->St->Hp->Prop,(∃ m,W 0 m σ H)/\∀ i m σ H,W i m σ H ->
    (J.stop i H/\D.nx σ H)\/(J.go i H/\∃ N:St->Hp->Prop,(∀ σ' H',N σ' H'->∃ f,f < m/\W (i+1) f σ' H')/\∀ x H',J.yld i H x H'->g x σ H' λa c=>d {D with nx:=N,ct:=N,bk:=D.nx} a c):=by
 refine⟨λi m σ H=>m=xs.length-i/\i<=xs.length/\Pv i σ H,⟨xs.length,by simp,a7c _,h0⟩,?_⟩;rintro i m σ H ⟨rfl,hi,p⟩;have q:=h i σ H p;by_cases b:i < xs.length;have e:xs[i]? = some xs[i]:=a1a b;refine .inr ⟨w.go H i _ q e,Pv (i+1),λσ' H' k=>⟨xs.length-(i+1),by lia,rfl,b,k⟩,λx H' y=>?_⟩;obtain⟨rfl,rfl⟩:=w.yld H i _ x H' q e y;exact j i _ σ _ e p;have e:i=xs.length:=by lia
 subst e;exact .inl ⟨w.stop H _ q (a4d.mpr (a9a _)),hd σ H p⟩
section
variable{σ:St}{H:Hp}{Q:VK}{z:Str}{p q:Addr}{xs ys:List V}{i j:Int}{b:Bool}{v x y:V}
def cC9(h:z.length<=sizeLine):dJ4 H (.str z)=some z.length:=by show(if z.length<=sizeLine then some z.length else none)=_;rw[a4y h]
def aG0(h:iI H p=some (b,xs)):dJ4 H (.ref p)=some xs.length:=by show(iI H p).map (·.2.length)=_;rw[h];rfl
def dJ7{n:Nat}(h:dJ4 H x=some n):cC6 [x] H Q=Q (.int n) H:=
 propext ⟨λZ1=>by obtain⟨a,b,e,f,q⟩:=Z1;cases e;rw[h]at f;cases f;exact q,λq=>⟨_,n,rfl,h,q⟩⟩
def aC1(h:iI H p=some (b,xs)):cC6 [.ref p] H Q=Q (.int xs.length) H:=dJ7 (aG0 h)
def bP7(h:iI H p=some (b,xs))(e:atI xs i=some v):ixF H (.ref p) (.int i)=some v:=by show(iI H p).bind (λq=>atI q.2 i)=_;rw[h];exact e
def cT5{c:Nat}(h:z.length<=sizeLine)(e:atI z.cps.toList i=some c):ixF H (.str z) (.int i)=some (.str ⟨#[c]⟩):=by
 show(if z.length<=sizeLine then(atI z.cps.toList i).map λc=>V.str ⟨#[c]⟩else none)=_;rw[a4y h,e];rfl
end
def cD0{X:Cx}{x:Str}{i:Int}{pos:Pos}(a:Gl X x)(h:∃ t,X.mg x=some (.int i t))(hd:(x==("__debug__":Str))=false:=by decide):PE X (.Name x pos) (tC (.int i)):=
 let ⟨_,e⟩:=h;cR3 a e ⟨_,rfl⟩ hd
section
variable{σ:St}{H:Hp}{Q:VK}{p:Addr}{xs:List V}{k:Int}{j:Nat}{v:V}
def cT6{sp:Sp}{vs:List V}{E:XK}{t:Tag Q}(h:sp vs H Q E):Ask sp vs H E Q t:=h
def bP8{α:Type}{ys:List α}{i:Int}(h0:0<=i)(a:i < ys.length):∃ c,atI ys i=some c:=by
 obtain⟨n,rfl⟩:=Int.eq_ofNat_of_zero_le h0;have hn:n < ys.length:=by lia
 exact⟨ys[n],bN9 (a1a hn)⟩
end
end L2
namespace L2
open PySem
def dJ8{i j:Int}{g:Int->Int->V}{H:Hp}{Q:VK}(h:0 < j):rI (λ_ j=>0 < j) g (.int i) (.int j) H Q=Q (g i j) H:=cT3 h
theorem cN3{t:TA}{σ:St}{H:Hp}{Q:VK}:eB5 t σ H Q=t σ H λxs a=>xs.length<=sizeLine/\∀ p,a p=none->Q (.ref p) (upd a p (.lst xs)):=rfl
theorem cN4{t:TA}{σ:St}{H:Hp}{Q:VK}:eB4 t σ H Q=t σ H λxs a=>xs.length<=sizeLine/\∀ p,a p=none->Q (.ref p) (upd a p (.tup xs)):=rfl
theorem dJ9{K:W.Frag}{T:String}{r:V->List V->Hp->VK->Prop}{to:TE}{t:TA}{σ:St}{H:Hp}{Q:VK}:tBM K T r to t σ H Q=to σ H λx a=>tyV K T x a/\t σ a λxs b=>r x xs b Q:=rfl
def dK0{i:Int}{b:Bool}:dC4 i (if b=true then 1 else 0):=by
 cases b<;>exact .inr ⟨by decide,by decide⟩
def bP9{α a:Type}{f:α->a}{ys:List α}{i:Int}:atI (ys.map f) i=(atI ys i).map f:=by
 unfold atI;rw[a0a];cases ixN ys.length i with
 | none=>rfl
 | some j=>simp
def cH{H:Hp}{p:Addr}{o:HO}(h:H p=none):aT2 H (upd H p o):=λb u e=>by rw[aS (bK e h)];exact e
def dY0(own:List Nat)(g:TG)(e:TT)(f:TE)(σ:St)(J:It)(h:Hp)(F:List V->Hp->Prop):Prop:=
 ∃ W:Nat->Nat->List V->Hp->Prop,(∃ m,W 0 m [] h)/\∀ i m ys H,W i m ys H->ys.length<=sizeLine /\
   ((J.stop i H/\F ys H)\/(J.go i H/\∀ x H',J.yld i H x H'->g x (blank own σ) H' λa j=>e a j λb d=>
     if b=true then f a d λv k=>∃ c,c < m/\W (i+1) c (ys++[v]) k else ∃ c,c < m/\W (i+1) c ys d))
def eE4(g:TG)(c:TS)(D:Ends)(σ:St)(J:It)(d:Hp):Prop:=∃ W:Nat->Nat->St->Hp->Prop,(∃ m,W 0 m σ d)/\∀ i m σ H,W i m σ H ->
 (J.stop i H/\D.nx σ H)\/(J.go i H/\∃ N:St->Hp->Prop,(∀ σ' H',N σ' H'->∃ b,b < m/\W (i+1) b σ' H')/\∀ x H',J.yld i H x H'->g x σ H' λa e=>c {D with nx:=N,ct:=N,bk:=D.nx} a e)
theorem bQ0{own:List Nat}{a:TI}{g:TG}{b:TT}{c:TE}{σ:St}{H:Hp}{Q:VK}:bH9 own a g b c σ H Q=a σ H λJ d=>dY0 own g b c σ J d λys H'=>∀ p,H' p=none->Q (.ref p) (upd H' p (.lst ys)):=rfl
theorem cN5{a:TI}{g:TG}{b:TS}{D:Ends}{σ:St}{H:Hp}:dU3 a g b D σ H=a σ H λJ H1=>eE4 g b D σ J H1:=rfl
def cT7(K:W.Frag)(x:V)(a:Hp)(R:It->Hp->Prop):Prop:=match x with
 | .str z=>R (Its z) a
 | .ref p=>(∃ xs,iI a p=some (true,xs)/\R (Itl K p) a)\/∃ xs,iI a p=some (false,xs)/\R (Itt K p) a
 | _=>False
theorem bQ1{K:W.Frag}{a:TE}{σ:St}{H:Hp}{R:It->Hp->Prop}:dX9 K a σ H R=a σ H λx b=>cT7 K x b R:=rfl
theorem bB3{K:W.Frag}{z:Str}{H:Hp}{R:It->Hp->Prop}:cT7 K (.str z) H R=R (Its z) H:=rfl
def cD1{K:W.Frag}{p:Addr}{xs:List V}{H:Hp}{R:It->Hp->Prop}(h:iI H p=some (true,xs)):cT7 K (.ref p) H R=R (Itl K p) H:=
 propext ⟨λq=>by
  rcases q with⟨_,_,q⟩ | ⟨_,e,_⟩;exact q;rw[h]at e;exact(nomatch e),λq=>.inl ⟨xs,h,q⟩⟩
theorem bQ2{a:TA}{σ:St}{H:Hp}{R:It->Hp->Prop}:cR7 a σ H R=a σ H λvs H1=>∃ j:Int,vs=[.int j] /\ -(2 ^ 62)<=j/\j < 2 ^ 62/\R (Itr 0 j.toNat) H1:=rfl
theorem bQ3{a:TA}{σ:St}{H:Hp}{R:It->Hp->Prop}:cR8 a σ H R=a σ H λvs H1=>∃ i j:Int,vs=[.int i,.int j]/\(-(2 ^ 62)<=i/\i < 2 ^ 62 /\ -(2 ^ 62)<=j/\j < 2 ^ 62)/\R (Itr i (j-i).toNat) H1:=rfl
theorem aM4{σ:St}:blank [] σ=σ:=rfl
theorem aM5{i:Nat}{r:List Nat}{σ:St}:blank (i::r) σ=blank r (σ.set i none):=rfl
def bB4{i j:Int}:decide (V.int i=V.int j)=decide (i=j):=by
 by_cases h:i=j;subst h;simp;rw[a4B h,a4B λe=>h (V.int.inj e)]
def cT8(sep:Str)(ys:List Str):(Txt.join sep ys).length<=(ys.map (·.length)).sum+ys.length*sep.length:=by
 show(Builtin.Str.glued sep ys).length<=_;rw[StrLaws.glued_eq_join];exact StrLaws.join_length_le sep ys
end L2
namespace L2
def up{p q:Prop}(h:p=q)(a:q):p:=by rw[h];exact a
def cD2{K:PySem.W.Frag}{t:String}:PySem.W.kitOne K (.type t) (.type t)=some true:=by
 unfold PySem.W.kitOne;rw[a4y (by simp)]
open PySem PySem.Spec PyProof.Rows
section
variable{prog:Program}{w:World}{A:Around}{E:Value->Shared->Prop}
theorem tU{it:Addr}{x:Str}{t:Tok}{ty:String}(f:ty="str_ascii_iterator"\/ty="str_iterator"):∀ (n i:Nat) (s:Shared) (Q:List Value->Shared->Prop),s.heap.IsStrIter it ty x t i->i+n<=x.length ->
  (∀ h' tk us,h'.IsStrIter it ty x t (i+n)->Heap.SameBut it s.heap h'->dI (((iJ x).drop i).take n) us->Q us {s with heap:=h',toks:=tk})->wpAny (model prog w) A (draw (.ref it) n) Q E s
 | 0,i,s,Q,hit,_,j=>by
   show wpAny _ _ (pure []) Q E s;exact a4A (by simpa using j s.heap s.toks [] hit (Heap.SameBut.refl ..) (by simpa using(.nil:dI [] [])))
 | n+1,i,s,Q,hit,hle,j=>by
   have g:i < x.cps.size:=by have:x.length=x.cps.size:=rfl;lia
   have k:x.cps[i]? = some x.cps[i]:=by simp[g]
   have hd:(iJ x).drop i=V.str ⟨#[x.cps[i]]⟩::(iJ x).drop (i+1):=by
    rw[List.drop_eq_getElem_cons (by rw[jC];exact g)];congr 1;simp[iJ]
   show wpAny _ _ (pyNext (.ref it) >>= _) Q E s;have go:∀ b,b.IsStrIter it ty x t (i+1)->Heap.SameBut it s.heap b ->
     wpAny (model prog w) A (match (some (Value.str ⟨#[x.cps[i]]⟩ s.toks))with | none=>pure [] | some v=>do return v::(← holding [v] (draw (.ref it) n))) Q E {s with heap:=b,toks:=s.toks+1}:=λb a c=>by
    refine a4x (a4E (tU f n (i+1) _ _ a (by lia) λh tk us d e l=>a4A ?_));refine j h tk _ (by rw[show i+(n+1)=i+1+n by lia];exact d) (c.trans e) ?_;rw[hd,List.take_succ_cons];exact .cons ⟨_,rfl⟩ l
   rcases f with rfl | rfl;exact a4x (wpAny_pyNext_ascii_item hit k λb a c=>go b a c);exact a4x (wpAny_pyNext_wide_item hit k λb a c=>go b a c)
def aG1{s:Shared}{x:Str}{t:Tok}{targets:List (Bool×(Value->Sem Unit))}{Q:Unit->Shared->Prop}(hh:A.handled=none)
  (hn:targets.length=x.length) (hstar:targets.findIdx? (·.1)=none)
  (h:∀ h' tk us,Heap.ExtBut s.heap.objs.size s.heap h'->dI (iJ x) us->wpAny (model prog w) A (assignInOrder (targets.map (·.2)) us) Q E {s with heap:=h',toks:=tk}) :
  wpAny (model prog w) A (unpack (.str x t) targets) Q E s:=by
 unfold unpack;rw[hn,hstar];refine a4x (a4E ?_);unfold unpackItems;refine a4x ?_;unfold notIterableAtAll;refine a4x (wpAny_specialOf (typeIs_str _ _ _) F.slot_str_iter.lookup ?_);refine a4A ?_;simp only[Bool.false_eq_true,if_false];have go:∀ ty,(ty="str_ascii_iterator"\/ty="str_iterator")->wpAny (model prog w) A (do
   let items ← holding [Value.ref s.heap.objs.size] (draw (.ref s.heap.objs.size) x.length)
   if items.length < x.length then
    rule "unpack.too-few";raiseError "ValueError" s!"not enough values to unpack (expected {x.length}, got {items.length})"
   if(← holding items (pyNext (.ref s.heap.objs.size))).isSome then
    rule "unpack.too-many";raiseError "ValueError" s!"too many values to unpack (expected {x.length})"
   return items:Sem (List Value)) (λus s'=>wpAny (model prog w) A (assignInOrder (targets.map (·.2)) us) Q E s') E {s with heap:=s.heap.push {cls:=.type ty,data:=.fields #[.str x t,.int 0 0]}}:=by
  intro ty hty;refine a4x (a4E (tU (it:=s.heap.objs.size) (x:=x) (t:=t) hty x.length 0 _ _ ⟨_,a2c _ rfl,rfl,rfl⟩ (by lia) λh₁ tk us hit₁ hs₁ hv=>?_));have hv':dI (iJ x) us:=by
   have e:((iJ x).drop 0).take x.length=iJ x:=by
    rw[List.drop_zero];exact List.take_of_length_le (by rw[jC];exact a9a _)
   rw[e]at hv;exact hv
  have hl:us.length=x.length:=by rw[← hv'.length,jC]
  rw[a4z (by lia)];have hend:x.cps[x.length]? = none:=by simp[Str.length]
  rw[a9f]at hit₁;have fin:∀ h₂,Heap.ExtBut s.heap.objs.size h₁ h₂->wpAny (model prog w) A (do
    if(none:Option Value).isSome then
     rule "unpack.too-many";raiseError "ValueError" s!"too many values to unpack (expected {x.length})"
    return us:Sem (List Value)) (λus s'=>wpAny (model prog w) A (assignInOrder (targets.map (·.2)) us) Q E s') E {s with heap:=h₂,toks:=tk}:=by
   intro h₂ he₂;simp only[Option.isSome_none,Bool.false_eq_true,if_false];exact a4A (h h₂ tk us (λb o hb e=>he₂ b o hb (hs₁.extBut b o hb (a7a _ e))) hv')
  rcases hty with rfl | rfl;exact a4x (a4E (wpAny_pyNext_ascii_end hh hit₁ hend λh₂ he₂=>fin h₂ he₂));exact a4x (a4E (wpAny_pyNext_wide_end hh hit₁ hend λh₂ he₂=>fin h₂ he₂))
 cases ha:x.cps.all (· < 128)with
 | true=>exact a4x (a4E (wpAny_pyIter_ascii ha (go _ (.inl rfl))))
 | false=>exact a4x (a4E (wpAny_pyIter_wide ha (go _ (.inr rfl))))
end
section
variable{X:Cx}{pos:Pos}
def bI2(K:W.Frag)(n:Nat)(t:TGs):TG:=λv σ H Q=>match v with
 | .str z=>z.length=n/\t (iJ z) σ H Q
 | .ref a=>∃ xs,iI H a=some (false,xs)/\xs.length=n/\t xs σ H Q
 | _=>False
def cT9{es:List Expr}{k:Nat}{t:TGs}{n:Nat}(g:X.calm=true)(h:PGs X es t)
  (hn:(assignEach es X.env).length=n:=by rfl) (d:(assignEach es X.env).findIdx? (·.1)=none:=by rfl):PG X (.Tuple es k pos) (bI2 X.K n t):=by
 intro pins s σ H v u Q I r c;unfold bI2 at c;split at c;rename_i z;obtain⟨f,c⟩:=c;obtain⟨tk,rfl⟩:=r;rw[assign_Tuple];refine a4x (a4V (aG1 (I.ok.hd g) (hn.trans f.symm) d λh' tk us i j=>?_));have l:Inv X pins σ H {s with heap:=h',toks:=tk}:=I.kept λb o e=>i b o (a1d (a5b e)) e;exact h pins _ σ H _ _ Q l j c;rename_i a;obtain⟨xs,m,f,c⟩:=c;exact dG3 (k:=k) (pos:=pos) g h hn d pins s σ H _ u Q I r ⟨a,xs,rfl,eY m,f,c⟩;exact c.elim
end
section
variable{X:Cx}
def cN6:List V->Hp->VK->Prop:=λxs H Q=>∃ p b ys,xs=[.ref p]/\iI H p=some (b,ys)/\∀ l,H l=none->Q (.ref l) (upd H l (.lst ys))
def rC:lE X (.type "list") cN6:=by
 intro pins s σ H xs us Q I r h;obtain⟨p,b,ys,rfl,a,q⟩:=h;cases b with
 | true=>exact sE pins s σ H _ us Q I r ⟨p,ys,rfl,.inl (gP a),q⟩
 | false=>exact sE pins s σ H _ us Q I r ⟨p,ys,rfl,.inr (eY a),q⟩
def dK1:List V->Hp->VK->Prop:=λxs H Q=>∃ p b ys,xs=[.ref p]/\iI H p=some (b,ys)/\if b=true then ∀ l,H l=none->Q (.ref l) (upd H l (.tup ys))else Q (.ref p) H
def eT:lE X (.type "tuple") dK1:=by
 intro pins s σ H xs us Q I r h;obtain⟨p,b,ys,rfl,a,q⟩:=h;cases b with
 | true=>exact pV pins s σ H _ us Q I r ⟨p,ys,rfl,.inl ⟨gP a,by simpa using q⟩⟩
 | false=>exact pV pins s σ H _ us Q I r ⟨p,ys,rfl,.inr ⟨eY a,by simpa using q⟩⟩
def cU0:R2:=λx y H Q=>match x,y with
 | .int i,.int j=>dC4 i j/\Q (.int (i*j)) H
 | .str z,.int i=>z.length<=1000/\0<=i/\i<=1000/\∀ y:Str,y.length<=z.length*i.toNat->y=Txt.mul z i->Q (.str y) H
 | _,_=>False
def cU1(z:Str)(i:Int)(h0:0<=i):(Txt.mul z i).length<=z.length*i.toNat:=by
 unfold Txt.mul;by_cases b:i < 1;rw[a4y b];exact a7c _;rw[a4z b];by_cases c:(i==1||z.length==0)=true
 ·rw[a4y c];have:1<=i.toNat:=by lia
  calc z.length=z.length*1:=by rw[Nat.mul_one]
   _<=z.length*i.toNat:=Nat.mul_le_mul_left _ this
 ·rw[a4z c];have a:∀ (k:Nat) (acc:Array Nat),((List.replicate k z.cps).foldl (· ++ ·) acc).size=acc.size+k*z.cps.size:=by
   intro k
   induction k with
   | zero=>intro acc;simp
   | succ k d=>
     intro acc;rw[List.replicate_succ,List.foldl_cons,d,Array.size_append,Nat.succ_mul];lia
  show((List.replicate i.toNat z.cps).foldl (· ++ ·) #[]).size<=_;rw[a];show 0+_<=_;rw[a9f,Nat.mul_comm];exact a9a _
def dK2:OpR X (binaryOp .Mult) cU0:=by
 intro pins s σ H x y v u Q I a b h;unfold cU0 at h;split at h;exact dG6 pins s σ H _ _ v u Q I a b ⟨_,_,rfl,rfl,h.1,h.2⟩
 ·rename_i z i;obtain⟨d,e,j,q⟩:=h;obtain⟨t,rfl⟩:=a;obtain⟨c,rfl⟩:=b;have f:z.length*i.toNat<=1000*1000:=Nat.mul_le_mul d (by lia);refine SB.mul ⟨?_,λha g=>?_,λha g=>?_⟩ λc k=>⟨.str _,H,I.tok k,⟨c,rfl⟩,q _ (cU1 z i e) rfl⟩;rw[a4B (by lia),a4B (by lia)];rfl
  ·have l:(1000:Int)<=(2 ^ 63-1) / i:=by
    rw[Int.le_ediv_iff_mul_le (by lia)];lia
   lia
  ·unfold Builtin.Str.tooLong;exact a4B (by rw[a4U];lia)
 ·exact h.elim
end
section
variable{H:Hp}{Q:VK}{i j:Int}{p:Addr}{b:Bool}{xs:List V}
def tyL{K:W.Frag}(h:H p=some (.lst xs)):tyV K "list" (.ref p) H:=.inl ⟨rfl,_,SqL.of h⟩
end
end L2
namespace L2
theorem aC2{α:Type}:∀ (l:List α) (i:Nat) (h:i < l.length),(l[i]::l.eraseIdx i).Perm l
 | [],i,h=>absurd h (Nat.not_lt_zero _)
 | x::r,0,_=>by simpa using List.Perm.refl _
 | x::r,i+1,h=>by
   have a:=aC2 r i (by simpa using h);simp only[List.getElem_cons_succ,List.eraseIdx_cons_succ];exact(List.Perm.swap x _ _).trans (a.cons x)
open PySem
def aG2(x:Str):x.length=x.cps.toList.length:=by simp[Str.length]
open PySem.Spec PyProof.Rows
inductive Dt where
 | non | int (i:Int) | str (x:Str) | tup (l:List Dt)
noncomputable instance:DecidableEq Dt:=λ_ _=>Classical.propDecidable _
mutual
inductive Rep(H:Hp):Dt->V->Prop
 | non:Rep H .non .non
 | int (i:Int):Rep H (.int i) (.int i)
 | str (x:Str):Rep H (.str x) (.str x)
 | tup {l:List Dt} {p:Addr} {xs:List V}:H p=some (.tup xs)->Reps H l xs->Rep H (.tup l) (.ref p)
inductive Reps(H:Hp):List Dt->List V->Prop
 | nil:Reps H [] []
 | cons {d:Dt} {r:List Dt} {x:V} {xs:List V}:Rep H d x->Reps H r xs->Reps H (d::r) (x::xs)
end
mutual
theorem Rep.inj{H:Hp}:∀ {d e:Dt} {x:V},Rep H d x->Rep H e x->d=e
 | _,_,_,.non,h=>by cases h;rfl
 | _,_,_,.int i,h=>by cases h;rfl
 | _,_,_,.str x,h=>by cases h;rfl
 | _,_,_,.tup h r,h'=>by
   cases h' with
   | tup a b=>
     rw[h]at a;cases a;rw[Reps.inj r b]
theorem Reps.inj{H:Hp}:∀ {l m:List Dt} {xs:List V},Reps H l xs->Reps H m xs->l=m
 | _,_,_,.nil,h=>by cases h;rfl
 | _,_,_,.cons a r,h=>by
   cases h with
   | cons a2 b=>rw[Rep.inj a a2,Reps.inj r b]
end
theorem Reps.length{H:Hp}:∀ {l:List Dt} {xs:List V},Reps H l xs->l.length=xs.length
 | _,_,.nil=>rfl
 | _,_,.cons _ r=>by simp[Reps.length r]
theorem Reps.get{H:Hp}:∀ {l:List Dt} {xs:List V} {i:Nat} {d:Dt},Reps H l xs->l[i]? = some d->∃ x,xs[i]? = some x/\Rep H d x
 | _,_,_,_,.nil,h=>by simp at h
 | _,_,0,_,.cons a r,h=>by simp at h;subst h;exact⟨_,rfl,a⟩
 | _,_,i+1,_,.cons a r,h=>by
   obtain⟨x,e,q⟩:=Reps.get (i:=i) r (by simpa using h);exact⟨x,by simpa using e,q⟩
mutual
def Dt.dep:Dt->Nat
 | .tup l=>Dt.deps l+1
 | _=>0
def Dt.deps:List Dt->Nat
 | []=>0
 | d::r=>max d.dep (Dt.deps r)
end
theorem aG3:∀ {l:List Dt} {i:Nat} {d:Dt},l[i]? = some d->d.dep<=Dt.deps l
 | [],_,_,h=>by simp at h
 | e::r,0,d,h=>by
   simp at h;subst h;unfold Dt.deps;exact Nat.le_max_left _ _
 | e::r,i+1,d,h=>by
   have:=aG3 (l:=r) (i:=i) (d:=d) (by simpa using h);unfold Dt.deps;exact a8b this (Nat.le_max_right _ _)
def lJ(l m:List Dt):((List.range (min l.length m.length)).all (λj=>decide (l[j]? = m[j]?))&&l.length==m.length)=decide (l=m):=by
 rw[a3e,a2f,a3g,a4D,a5i];constructor;rintro⟨a,b⟩;apply List.ext_getElem?;intro j;by_cases c:j < l.length;have:=a j (a7d.mpr (by lia));exact of_decide_eq_true this;rw[a4d.mpr (by lia),a4d.mpr (by lia)];rintro rfl;exact⟨λj _=>a4C rfl,rfl⟩
section
variable{X:Cx}{pins:List (Addr×Obj)}{σ:St}{H:Hp}{s:Shared}
def cD3(I:Inv X pins σ H s):∀ (n:Nat) {A:Around} {o E:Dt} {x y:V} {u v:Value},A.units+n < cLine->o.dep<=n->Rep H o x->Rep H E y->gR x u->gR y v->SeqAt.EqAt A s u v (decide (o=E)):=by
 intro n
 induction n with
 | zero=>
   intro A o E x y u v W hd G f k a;have b:A.units < cLine:=by lia
   cases G with
   | non=>
     cases k;cases f with
     | non=>cases a;rw[a4C rfl];exact SeqAt.EqAt.same _
     | int i=>obtain⟨t,rfl⟩:=a;rw[a4B (λz=>nomatch z)];exact SeqAt.EqAt.none_int _ _
     | str i=>obtain⟨t,rfl⟩:=a;rw[a4B (λz=>nomatch z)];exact SeqAt.EqAt.none_str _ _
     | tup h r=>
       cases a;rw[a4B (λz=>nomatch z)];obtain⟨c,_,g,_⟩:=I.tuple (SqT.of h);exact SeqAt.EqAt.none_tuple g b
   | int i=>
     obtain⟨t,rfl⟩:=k;cases f with
     | non=>cases a;rw[a4B (λz=>nomatch z)];exact SeqAt.EqAt.int_none _ _
     | int j=>
       obtain⟨w,rfl⟩:=a;have e:decide (Dt.int i=Dt.int j)=(i==j):=by
        rw[a3e,a4D,a5i];exact⟨λz=>by cases z;rfl,λz=>by rw[z]⟩
       rw[e];exact SeqAt.EqAt.int_int _ _ _ _
     | str j=>obtain⟨w,rfl⟩:=a;rw[a4B (λz=>nomatch z)];exact SeqAt.EqAt.int_str _ _ _ _
     | tup h r=>
       cases a;rw[a4B (λz=>nomatch z)];obtain⟨c,_,g,_⟩:=I.tuple (SqT.of h);exact SeqAt.EqAt.int_tuple _ _ g b
   | str i=>
     obtain⟨t,rfl⟩:=k;cases f with
     | non=>cases a;rw[a4B (λz=>nomatch z)];exact SeqAt.EqAt.str_none _ _
     | int j=>obtain⟨w,rfl⟩:=a;rw[a4B (λz=>nomatch z)];exact SeqAt.EqAt.str_int _ _ _ _
     | str j=>
       obtain⟨w,rfl⟩:=a;have e:decide (Dt.str i=Dt.str j)=(i==j):=by
        rw[a3e,a4D,a5i];exact⟨λz=>by cases z;rfl,λz=>by rw[z]⟩
       rw[e];exact SeqAt.EqAt.str_str _ _ _ _
     | tup h r=>
       cases a;rw[a4B (λz=>nomatch z)];obtain⟨c,_,g,_⟩:=I.tuple (SqT.of h);exact SeqAt.EqAt.str_tuple _ _ g b
   | tup h r=>unfold Dt.dep at hd;lia
 | succ n F=>
   intro A o E x y u v W hd G f k a;have b:A.units < cLine:=by lia
   cases G with
   | non=>exact F (by lia) (a7c _) .non f k a
   | int i=>exact F (by lia) (a7c _) (.int i) f k a
   | str i=>exact F (by lia) (a7c _) (.str i) f k a
   | @tup l p xs h r=>
     cases k;obtain⟨c,S,g,_⟩:=I.tuple (SqT.of h);cases f with
     | non=>cases a;rw[a4B (λz=>nomatch z)];exact SeqAt.EqAt.tuple_none g b
     | int j=>obtain⟨w,rfl⟩:=a;rw[a4B (λz=>nomatch z)];exact SeqAt.EqAt.tuple_int _ _ g b
     | str j=>obtain⟨w,rfl⟩:=a;rw[a4B (λz=>nomatch z)];exact SeqAt.EqAt.tuple_str _ _ g b
     | @tup m q ys J f=>
       cases a;obtain⟨d,B,K,_⟩:=I.tuple (SqT.of J);by_cases C:p=q;subst C;rw[h]at J;cases J;rw[Reps.inj r f,a4C rfl];exact SeqAt.EqAt.same _
       ·have L:Dt.deps l<=n:=by unfold Dt.dep at hd;lia
        have Y:c.length=l.length:=by rw[← S.length,r.length]
        have Z:d.length=m.length:=by rw[← B.length,f.length]
        have D:=SeqAt.RcAt.tuples (A:=A) (e:=λj=>decide (l[j]? = m[j]?)) g K b λj h1 M=>by
         have N:j < c.length:=by simpa using h1
         have O:j < d.length:=by simpa using M
         have P:l[j]? = some l[j]:=a1a (by lia);have hm:m[j]? = some m[j]:=a1a (by lia);obtain⟨x',ex,rx⟩:=r.get P;obtain⟨y',ey,ry⟩:=f.get hm;obtain⟨u',T,Q⟩:=S.get ex;obtain⟨v',U,R⟩:=B.get ey;have:=F (A:=A.in1) (by show A.units+1+n < cLine;lia) (a8b (aG3 P) L) rx ry Q R;have g1:c.toArray[j]=u':=by
          rw[a1a N]at T;simpa using T
         have g2:d.toArray[j]=v':=by
          rw[a1a O]at U;simpa using U
         rw[g1,g2];have e3:decide (l[j]? = m[j]?)=decide (l[j]=m[j]):=by rw[P,hm];simp
         rw[e3];exact this
        have e4:((List.range (min c.toArray.size d.toArray.size)).all (λj=>decide (l[j]? = m[j]?))&&c.toArray.size==d.toArray.size)=decide (Dt.tup l=Dt.tup m):=by
         rw[a2b,a2b,Y,Z,lJ];rw[a3e,a4D,a4D];exact⟨λz=>by rw[z],λz=>by cases z;rfl⟩
        rw[e4]at D;exact SeqAt.EqAt.of_refs C D
end
section
variable{X:Cx}{pins:List (Addr×Obj)}{σ:St}{H:Hp}{s:Shared}
def pZ(I:Inv X pins σ H s){A:Around}{l m:List Dt}{xs ys:List V}{b a:List Value}(D:A.units+64 < cLine)(hd:Dt.deps l<=60)(i:Reps H l xs)(k:Reps H m ys)(n:dI xs b)(o:dI ys a) :
  ∀ j (p:j < b.toArray.size) (q:j < a.toArray.size),SeqAt.EqAt A.in1 s b.toArray[j] a.toArray[j] (decide (l[j]? = m[j]?)):=by
 intro j p q;have E:b.length=l.length:=by rw[← n.length,i.length]
 have F:a.length=m.length:=by rw[← o.length,k.length]
 have c:j < b.length:=by simpa using p
 have d:j < a.length:=by simpa using q
 have e:l[j]? = some l[j]:=a1a (by lia);have hm:m[j]? = some m[j]:=a1a (by lia);obtain⟨G,ex,u⟩:=i.get e;obtain⟨J,v,w⟩:=k.get hm;obtain⟨x,r,f⟩:=n.get ex;obtain⟨y,t,g⟩:=o.get v;have h:=cD3 I 60 (A:=A.in1) (by show A.units+1+60 < cLine;lia) (a8b (aG3 e) hd) u w f g;have z:b.toArray[j]=x:=by
  rw[a1a c]at r;simpa using r
 have B:a.toArray[j]=y:=by
  rw[a1a d]at t;simpa using t
 rw[z,B];have C:decide (l[j]? = m[j]?)=decide (l[j]=m[j]):=by rw[e,hm];simp
 rw[C];exact h
def dC5(neg:Bool):R2:=λx y H Q=>match x,y with
 | .ref p,.ref q=>∃ b xs ys l m,iI H p=some (b,xs)/\iI H q=some (b,ys)/\Reps H l xs/\Reps H m ys/\Dt.deps l<=60/\Q (.bl (if neg then !decide (l=m)else decide (l=m))) H
 | _,_=>cR9 x y=true/\Q (.bl (if neg then !decide (x=y)else decide (x=y))) H
def bB5{l m:List Dt}(h:l.length=m.length):(List.range l.length).all (λj=>decide (l[j]? = m[j]?))=decide (l=m):=by
 have:=lJ l m;rw[h,Nat.min_self]at this;rw[h,← this];simp
def bB6(o:X.A.units+64 < cLine):OpR X (compareOp .Eq) (dC5 false):=by
 intro pins s σ H x y v u Q I r t h;unfold dC5 at h;split at h
 ·rename_i p q;obtain⟨b,xs,ys,l,m,w,B,f,g,hd,q⟩:=h;cases r;cases t;have k:Q (.bl (decide (l=m))) H:=by simpa using q
  cases b with
  | true=>
    obtain⟨c,d,i,_⟩:=I.list (gP w);obtain⟨a,e,j,_⟩:=I.list (gP B);have n:c.length=l.length:=by rw[← d.length,f.length]
    have C:a.length=m.length:=by rw[← e.length,g.length]
    by_cases D:l.length=m.length;refine SeqAt.eq_listAt i.isList j.isList (by simp only[List.size_toArray];lia) (by lia) (pZ I o hd f g d e) (cC I k ?_);rw[a2b,n,bB5 D];refine SeqAt.eq_list_lengthsAt i.isList j.isList (by simp only[List.size_toArray,bne_iff_ne];lia) (by lia) (cC I k ?_);exact a4B λz=>D (by rw[z])
  | false=>
    obtain⟨c,d,i,_⟩:=I.tuple (eY w);obtain⟨a,e,j,_⟩:=I.tuple (eY B);have n:c.length=l.length:=by rw[← d.length,f.length]
    have C:a.length=m.length:=by rw[← e.length,g.length]
    refine SeqAt.eq_tupleAt i j (by lia) (pZ I o hd f g d e) (cC I k ?_);rw[a2b,a2b,n,C,lJ]
 ·exact dW7 pins s σ H _ _ v u Q I r t ⟨h.1,by simpa using h.2⟩
def dK3(o:X.A.units+64 < cLine):OpR X (compareOp .NotEq) (dC5 true):=by
 intro pins s σ H x y v u Q I r t h;unfold dC5 at h;split at h
 ·rename_i p q;obtain⟨b,xs,ys,l,m,w,B,f,g,hd,q⟩:=h;cases r;cases t;have k:Q (.bl (!decide (l=m))) H:=by simpa using q
  cases b with
  | true=>
    obtain⟨c,d,i,_⟩:=I.list (gP w);obtain⟨a,e,j,_⟩:=I.list (gP B);have n:c.length=l.length:=by rw[← d.length,f.length]
    have C:a.length=m.length:=by rw[← e.length,g.length]
    by_cases D:l.length=m.length;refine SeqAt.RcNeAt.lists i.isList j.isList (by simp only[List.size_toArray];lia) (by lia) (pZ I o hd f g d e) _ _ _ _ (cC I k ?_);rw[a2b,n,bB5 D];refine SeqAt.RcNeAt.lists_lengths i.isList j.isList (by simp only[List.size_toArray,bne_iff_ne];lia) (by lia) _ _ _ _ (cC I k ?_);rw[a4B λz=>D (by rw[z])];rfl
  | false=>
    obtain⟨c,d,i,_⟩:=I.tuple (eY w);obtain⟨a,e,j,_⟩:=I.tuple (eY B);have n:c.length=l.length:=by rw[← d.length,f.length]
    have C:a.length=m.length:=by rw[← e.length,g.length]
    refine SeqAt.RcNeAt.tuples i j (by lia) (pZ I o hd f g d e) _ _ _ _ (cC I k ?_);rw[a2b,a2b,n,C,lJ]
 ·exact dW8 pins s σ H _ _ v u Q I r t ⟨h.1,by simpa using h.2⟩
theorem bQ4{i j:Int}{Q:VK}:dC5 false (.int i) (.int j) H Q=Q (.bl (decide (i=j))) H:=by
 show(cR9 _ _=true/\_)=_;rw[show cR9 (.int i) (.int j)=true from rfl,← bB4];simp
theorem bQ5{i j:Int}{Q:VK}:dC5 true (.int i) (.int j) H Q=Q (.bl (!decide (i=j))) H:=by
 show(cR9 _ _=true/\_)=_;rw[show cR9 (.int i) (.int j)=true from rfl,← bB4];simp
end
section
variable{X:Cx}
def cU2{prog:Program}{w:World}{A:Around}{E:Value->Shared->Prop}{s:Shared}{t b:Addr}{ws:List Value}{Q:Value->Shared->Prop}(h:IsTup s.heap t ([]:List Value).toArray)(i:IsTup s.heap b ws.toArray)
  (j:Q (.ref b) s):wpAny (model prog w) A (binaryOp .Add (.ref t) (.ref b)) Q E s:=by
 obtain⟨⟨cls,k,data,sl⟩,e,f,n,hd⟩:=id h;obtain⟨⟨g,d,data2,sl2⟩,a,c,n2,hd2⟩:=id i;simp only at f hd c hd2;subst f hd c hd2;exact concat_meets ⟨_,e,rfl⟩ ⟨_,a,rfl⟩ noFill_tuple_add seq_tuple_add F.slot_tuple_add F.entry_tuple_add (F.args_tuple_add_2 _ _)
   (tuple_addW0 t b ([]:List Value).toArray ws.toArray n n2 k d sl sl2 (by simp)) ⟨e,a,j⟩
def cD4:R2:=λx y H Q=>match x,y with
 | .int i,.int j=>Q (.int (i+j)) H
 | .str a,.str b=>a.length+b.length<=sizeLine/\Q (.str (a++b)) H
 | .ref p,.ref q=>(∃ xs ys,H p=some (.lst xs)/\H q=some (.lst ys)/\xs.length+ys.length<=sizeLine/\∀ r,H r=none->Q (.ref r) (upd H r (.lst (xs++ys)))) \/
   ∃ xs ys,iI H p=some (false,xs)/\iI H q=some (false,ys)/\xs.length+ys.length<=sizeLine/\(xs=[]->Q (.ref q) H)/\(xs≠[]->ys=[]->Q (.ref p) H)/\(xs≠[]->ys≠[]->∀ r,H r=none->Q (.ref r) (upd H r (.tup (xs++ys))))
 | _,_=>False
def bB7:OpR X (binaryOp .Add) cD4:=by
 intro pins s σ H x y v u Q I a b h;unfold cD4 at h;split at h;exact dG5 pins s σ H _ _ v u Q I a b ⟨_,_,rfl,rfl,h⟩;exact bH2 pins s σ H _ _ v u Q I a b ⟨_,_,rfl,rfl,h.1,h.2⟩;rename_i p q;rcases h with⟨xs,ys,d,f,g,q⟩ | ⟨xs,ys,d,f,g,k,l,m⟩;exact dI3 pins s σ H _ _ v u Q I a b ⟨_,_,xs,ys,rfl,rfl,d,f,g,q⟩;by_cases c:xs=[];cases a;cases b;obtain⟨i,n,o,_⟩:=I.tuple (eY d);obtain⟨j,t,r,_⟩:=I.tuple (eY f);have e:i=[]:=n.nil_iff.mpr c;subst e;exact cU2 o r ⟨.ref q,H,I,rfl,k c⟩;exact cS5 pins s σ H _ _ v u Q I a b ⟨p,q,xs,ys,rfl,rfl,eY d,eY f,c,g,l c,m c⟩;exact h.elim
theorem bB8{i j:Int}{H:Hp}{Q:VK}:cD4 (.int i) (.int j) H Q=Q (.int (i+j)) H:=rfl
def cU3(neg:Bool):R2:=λx y H Q=>match y with
 | .non=>Q (.bl (if neg then !decide (x=.non)else decide (x=.non))) H
 | .bl b=>(match x with | .bl a=>Q (.bl (if neg then !decide (a=b)else decide (a=b))) H | _=>False)
 | _=>False
end
section
variable{X:Cx}
def bQ6:OpR X (compareOp .IsNot) (cU3 true):=by
 intro pins s σ H x y v u Q I c d h;unfold cU3 at h;split at h;exact cS0 pins s σ H _ _ v u Q I c d ⟨rfl,by simpa using h⟩;split at h;rename_i b a;cases c;cases d;exact isnot_bool (cC I h (by cases a<;>cases b<;>rfl));exact h.elim;exact h.elim
theorem bQ7{a b:Bool}{H:Hp}{Q:VK}:cU3 false (.bl a) (.bl b) H Q=Q (.bl (decide (a=b))) H:=rfl
theorem bB9{a b:Bool}{H:Hp}{Q:VK}:cU3 true (.bl a) (.bl b) H Q=Q (.bl (!decide (a=b))) H:=rfl
theorem bQ8{x:V}{H:Hp}{Q:VK}:cU3 false x .non H Q=Q (.bl (decide (x=.non))) H:=rfl
theorem bC0{x:V}{H:Hp}{Q:VK}:cU3 true x .non H Q=Q (.bl (!decide (x=.non))) H:=rfl
theorem bQ9:∀ {b:List Str} {us:List Value},dI (b.map V.str) us->∀ u∈us,∃ z t,u=.str z t
 | [],_,.nil=>λu a=>nomatch a
 | z::r,_,.cons c d=>λu a=>by
   rcases a3b.mp a with e | e;obtain⟨t,q⟩:=c;exact⟨z,t,e.trans q⟩;exact bQ9 d u e
noncomputable def isZ(z:Str):Value->Bool
 | .str y _=>y==z
 | _=>false
end
section
variable{prog:Program}{w:World}{A:Around}{E:Value->Shared->Prop}{s:Shared}
end
noncomputable abbrev eE5(acc:Array Value)(c:Nat):Obj:={cls:=.type "list",dict:=none,data:=.seq acc c,slots:=#[]}
section
variable{prog:Program}{w:World}{A:Around}{E:Value->Shared->Prop}{I S:Addr}{n:Nat}{J:Nat->Array Value->Heap->Prop}{K:Array Value->Heap->Prop}{R:Result->Shared->Prop}
end
section
variable{prog:Program}{w:World}{A:Around}{E:Value->Shared->Prop}{s:Shared}{I:Addr}{Q:Bool->Shared->Prop}
end
def aU5{X:Cx}{T U:String}{x y:Str}{p c pos a:Pos}{e:Expr}{es:List Expr}{t:TA}{r:List V->Hp->VK->Prop}
  (m:∀ pins s σ H vs us Q,Inv X pins σ H s->dI vs us->r vs H Q->wpAny (model X.prog X.w) X.A (call (.type U) us) (λu s1=>wpAny (model X.prog X.w) X.A (call (.type T) [u]) (EP X pins σ Q) X.xe s1) X.xe s)
  (n:Gl X x) (hm:X.mg x=none) (o:bootBuiltins x=some (.type T)) (d:Gl X y) (f:X.mg y=none) (g:bootBuiltins y=some (.type U)) (ha:PA X (e::es) t)
  (hn:x≠"__name__":=by decide) (i:(x==("__debug__":Str))=false:=by decide) (j:y≠"__name__":=by decide) (b:(y==("__debug__":Str))=false:=by decide)
  (q:starEach (e::es) X.env=(false,eval e X.env)::starEach es X.env:=by rfl) (k:(backTo a (starEach es X.env)).any (·.1)=false:=by rfl)
  (l:starEach [.Call (.Name y c) (e::es) [] a] X.env=(false,eval (.Call (.Name y c) (e::es) [] a) X.env)::starEach [] X.env:=by rfl) :
  PE X (.Call (.Name x p) [.Call (.Name y c) (e::es) [] a] [] pos) (tCB r t):=by
 intro pins s σ H Q I h;refine a4I (nR I n hm o ?_ hn i);refine a9e ?_ l (by rfl);rw[l]
 (show wpAny _ _ (spliced ((false,eval (.Call (.Name y c) (e::es) [] a) X.env)::backTo pos (starEach [] X.env))) _ _ s;refine Calls.spliced_cons ?_)
 refine a4I (nR I d f g ?_ j b);refine a9e ?_ q k;exact thn (ha a pins s σ H _ I h) λus s1 ⟨vs,v,z,B,C⟩=>thn (m pins s1 σ v vs us Q z B C) λu s2 D=>Calls.spliced_nil D
section
variable{prog:Program}{w:World}{A:Around}{E:Value->Shared->Prop}{s:Shared}
end
section
variable{X:Cx}
end
structure ZK(h0:Heap)(xs ys:Array Value)(acc:Array Value)(h:Heap):Prop where
 keep:∀ b o,h0.get? b=some o->h.get? b=some o
 got:∀ j,j < min xs.size ys.size->∃ T x y,acc[j]? = some (.ref T)/\xs[j]? = some x/\ys[j]? = some y/\IsPair h T x y/\h0.objs.size+6<=T
 nd:acc.toList.Nodup
section
variable{prog:Program}{w:World}{A:Around}{E:Value->Shared->Prop}{s:Shared}
end
section
variable{prog:Program}{w:World}{A:Around}{E:Value->Shared->Prop}{s:Shared}
end
section
variable{X:Cx}
end
def fV{own:List Nat}{K:W.Frag}{n:Nat}{t:TGs}(a:cC2 own t):cT1 own (bI2 K n t):=λx σ H Q q=>by
 unfold bI2 at q ⊢;split at q;exact⟨q.1,a _ _ _ _ q.2⟩;obtain⟨xs,b,c,d⟩:=q;exact⟨xs,b,c,a _ _ _ _ d⟩;exact q.elim
noncomputable def tV(t c:String):Bool:=t==c||(t=="bool"&&c=="int")
def cD5{K:W.Frag}{t c:String}(a:t="NoneType"\/t="int"\/t="bool"\/t="str"\/t="list"\/t="tuple")(b:c="int"\/c="bool"\/c="str"\/c="list"\/c="tuple"):W.kitOne K (.type t) (.type c)=some (tV t c):=by
 rcases a with rfl | rfl | rfl | rfl | rfl | rfl<;>rcases b with rfl | rfl | rfl | rfl | rfl<;>first | exact cD2 | rfl | (unfold W.kitOne;decide +kernel) | (unfold W.kitOne;rfl)
end L2
namespace Mr
open PySem L2 PyProof.Rows
abbrev Sps:=W.Frag->Sp
def iK(H:Hp)(p:Addr):Prop:=∃ i j:Int,H p=some (.lst [.int i,.int j])
def SameBut(p:Addr)(H H':Hp):Prop:=∀ b o,b≠p->H b=some o->H' b=some o
theorem iK.upd{H:Hp}{p q:Addr}{o:HO}(h:iK H p)(a:H q=none):iK (L2.upd H q o) p:=by
 obtain⟨i,j,e⟩:=h;exact⟨i,j,by rw[aS (bK e a)];exact e⟩
def iK.put{H:Hp}{p q:Addr}{o:HO}(h:iK H p)(a:q≠p):iK (L2.upd H q o) p:=by
 obtain⟨i,j,e⟩:=h;exact⟨i,j,by rw[aS a.symm];exact e⟩
theorem SameBut.upd{H a:Hp}{p q:Addr}{o:HO}(h:SameBut p H a)(c:a q=none):SameBut p H (L2.upd a q o):=λb u d e=>by
 have:=h b u d e;rw[aS (bK this c)];exact this
def SameBut.put{H a:Hp}{p q:Addr}{o:HO}(h:SameBut p H a)(c:H q=none):SameBut p H (L2.upd a q o):=λb u d e=>by
 rw[aS (bK e c)];exact h b u d e
def SameBut.trans{p:Addr}{H a c:Hp}(h:SameBut p H a)(h':SameBut p a c):SameBut p H c:=λb u d e=>h' b u d (h b u d e)
def SameBut.refl{p:Addr}{H:Hp}:SameBut p H H:=λ_ _ _ e=>e
theorem SameBut.none{p q:Addr}{H H':Hp}(h:SameBut p H H')(b:iK H' p)(a:H' q=Option.none):H q=Option.none:=by
 cases e:H q with
 | none=>rfl
 | some o=>
   by_cases z:q=p;subst z;obtain⟨i,j,c⟩:=b;rw[c]at a;cases a;rw[h q o z e]at a;cases a
def tW:Sps:=λ_ vs H Q _=>∃ (p:Addr) (m:Int),vs=[.ref p,.int m]/\iK H p/\0 < m/\m < 1073741824 /\
 ∀ (d:Int) H',0<=d->d < m->iK H' p->SameBut p H H'->Q (.int d) H'
inductive Tr where
 | leaf (z:Str) | node (l r:Tr)
end Mr
namespace L2
open PySem PyProof.Rows
theorem eB9{i j:Int}:(if j < i then j else i)=min i j:=by
 by_cases h:j < i;rw[a4y h];lia;rw[a4z h];lia
theorem dK4{i j:Int}{R:Int->Int->Prop}:(∃ a b,[V.int i,V.int j]=[V.int a,V.int b]/\R a b)=R i j:=
 propext ⟨λZ1=>by obtain⟨a,b,e,q⟩:=Z1;cases e;exact q,λq=>⟨i,j,rfl,q⟩⟩
end L2
namespace L2
open PySem
def aM6{t u:TS}{D:Ends}{σ:St}{H:Hp}(M:St->Hp->Prop)(a:∀ σ' H',M σ' H'->u D σ' H')(b:∀ C:St->Hp->Prop,(∀ σ' H',M σ' H'->C σ' H')->t {D with nx:=C} σ H):dU1 t u D σ H:=b (u D) a
end L2
namespace L2
def dY1{α:Type}{x:α}{r:List α}:atI (x::r) 0=some x:=bN9 (j:=0) (by simp)
theorem cN7{K:PySem.W.Frag}{T:String}{r:V->List V->Hp->VK->Prop}{to:TE}{σ:St}{H:Hp}{Q:VK}:dX4 K T r to σ H Q=to σ H λx a=>tyV K T x a/\r x [] a Q:=rfl
end L2
namespace Mr
open PySem L2
end Mr
namespace L2
open PySem
def bR0{X:Cx}(K:W.Frag)(b:X.K=K){tg l:Expr}{a:TE}(c:PE X l a):PI X tg l (dX9 K a):=by rw[← b];exact dJ5 c
def dO{X:Cx}{pos:Pos}(K:W.Frag)(b:X.K=K){es:List Expr}{k:Nat}{t:TGs}{n:Nat}(c:X.calm=true)(h:PGs X es t)
  (hn:(assignEach es X.env).length=n:=by rfl) (a:(assignEach es X.env).findIdx? (·.1)=none:=by rfl):PG X (.Tuple es k pos) (bI2 K n t):=by rw[← b];exact cT9 c h hn a
section
variable{X:Cx}{o e:Expr}{es:List Expr}{to:TE}{t:TA}{name:Str}{apos cpos:Pos}{T id:String}{r:V->List V->Hp->VK->Prop}
def cU4(K:W.Frag)(d:X.K=K)(e:PlainAttrs T)(slot:Slot T name id)(c:typeOf (.builtin id)=pure (.type "method_descriptor"))(hm:MtR X id r)(f:PE X o to)
  (a:attributeBase o name X.env (eval o X.env)=eval o X.env:=by rfl) (b:(apos.endLine==cpos.line)=true:=by rfl):PE X (.Call (.Attribute o name apos) [] [] cpos) (dX4 K T r to):=by rw[← d];exact dI0 e slot c hm f a b
def gW(K:W.Frag)(g:X.K=K)(h:PlainAttrs T)(slot:Slot T name id)(f:typeOf (.builtin id)=pure (.type "method_descriptor"))(hm:MtR X id r)(i:PE X o to)(ha:PA X (e::es) t)
  (b:attributeBase o name X.env (eval o X.env)=eval o X.env:=by rfl)
  (d:((backTo cpos (starEach (e::es) X.env)).all (λx=>!x.1)&&(backToKw cpos (keywordEach [] X.env)).all (λx=>x.1.isSome)&&decide ((e::es).length+([]:List Keyword).length+(if([]:List Keyword).isEmpty then 0 else 1) < 30))=true:=by rfl)
  (c:(apos.endLine==cpos.line)=true:=by rfl) (j:starEach (e::es) X.env=(false,eval e X.env)::starEach es X.env:=by rfl) (a:(backTo cpos (starEach es X.env)).any (·.1)=false:=by rfl) :
  PE X (.Call (.Attribute o name apos) (e::es) [] cpos) (tBM K T r to t):=by rw[← g];exact dX5 h slot f hm i ha b d c j a
end
theorem cN8{i j:Nat}{a:TA}{D:Ends}{σ:St}{H:Hp}:dW3 i j a D σ H=a σ H λvs H1=>∃ v w,vs=[v,w]/\D.nx ((σ.set i (some v)).set j (some w)) H1:=rfl
end L2
namespace Mr
open PySem L2
end Mr
namespace L2
open PySem
section
variable{H:Hp}{Q:VK}{p q:Addr}{xs:List V}
end
end L2
namespace L2
end L2
namespace Mr
open PySem L2
open PyProof.Rows
section
variable{p q f l sp:Addr}{t:Tr}{v:V}{es ls:List V}{zs:List Str}{H0 H H':Hp}{fs:List V}
end
end Mr
namespace L2
open PySem
section
variable{M:Model}{A:Around}{E:Value->Shared->Prop}{s:Shared}
end
open PySem.Spec PyProof.Rows
section
variable{P:Program}{w:World}{H:Hp}{h:Heap}{e:Addr}{C:Value}{d:Option Addr}{tb:Value}
end
section
variable{X:Cx}{pins:List (Addr×Obj)}{σ:St}{H:Hp}{s:Shared}
end
section
variable{P:Program}{w:World}{K:W.Frag}{mg:Str->Option Value}{base:Heap}{N:List Str}{qual:Str}{scope:Scope}{f:Addr}{cd:Value}{A:Around}{outer:List Env}{s:Shared}{H:Hp}{E:XK}
end
end L2
namespace PySem
section
variable{prog:Program}{w:World}{E:Value->Shared->Prop}{A:Around}{os:OsState}{h:Heap}{t:Nat}{g:Array GenState}{d:Drawn}{mL:List Value}{fI:Addr}{oI:Obj}{mN:Str->Option Value}
 {nm q:Str} {B newId initId:String} {C N:Addr} {bs bm bmB sub:List Value} {hdct ab:Bool} {sn:List Str} {col:Option Bool} {dd:Option Addr} {k0 k1 k2 k3 k5:Option Value}
end
end PySem
namespace L2
open PySem PySem.Spec PyProof.Rows
section
variable{P:Program}{w:World}{H:Hp}{h:Heap}{a:Addr}{o:HO}
end
section
variable{X:Cx}{pins:List (Addr×Obj)}{σ:St}{H:Hp}{s:Shared}
end
section
variable{X:Cx}{CX:CXT}{k:Nat}{f C:Addr}{fd:FuncData}{ps:List Str}{sp:Sp}{E:XK}{x:Str}{p pos:Pos}{e:Expr}{es:List Expr}{t:TA}{B newId initId:String}{bmB:List Value}
end
end L2
namespace L2
open PySem
section
variable{M:Model}{A:Around}{E:Value->Shared->Prop}{env:Env}
variable{nm q:Str}{C N:Addr}{bs bm:List Value}{hdct:Bool}{sn:List Str}{sub:List Value}{ab:Bool}{col:Option Bool}{dd:Option Addr}{k0 k1 k2 k3 k5:Option Value}{newId:String}
end
open PyProof.Rows
section
variable{prog:Program}{w:World}{A:Around}{E:Value->Shared->Prop}{h:Heap}{g:Array GenState}{d:Drawn}{t:Nat}{os:OsState}
variable{nm q:Str}{C N:Addr}{bs bm bmB:List Value}{hdct:Bool}{sn:List Str}{sub:List Value}{ab:Bool}{col:Option Bool}{dd:Option Addr}{k0 k1 k2 k3 k5:Option Value}{B newId initId:String}
end
open PySem.W PySem.Spec PySem.Builtin PySem.Builtin.ObjectAttr
section
variable{prog:Program}{w:World}{A:Around}{E:Value->Shared->Prop}{s:Shared}{K:Frag}{x C:Addr}{ox:Obj}{name:Str}{v:Value}{cd:ClassData}{bmB:List Value}{B:String}{Q:Unit->Shared->Prop}{R:Result->Shared->Prop}
end
end L2
namespace L2
open PySem PySem.W PySem.Spec PyProof.Rows
section
variable{prog:Program}{w:World}{A:Around}{E:Value->Shared->Prop}{s:Shared}{K:Frag}{x C:Addr}{ox:Obj}{od:Option Obj}{name:Str}{expr:Bool}{v:Value}{Q:Value->Shared->Prop}{B:String}
end
section
variable{M:Model}{A:Around}{E:Value->Shared->Prop}{s:Shared}
variable{K:Frag}{e C D:Addr}{oe:Obj}{Q:Bool->Shared->Prop}
end
section
variable{prog:Program}{w:World}{A:Around}{E:Value->Shared->Prop}{s:Shared}{K:Frag}{x C:Addr}{ox:Obj}{od:Option Obj}{B:String}
end
end L2
namespace L2
open PySem PySem.Spec PyProof.Rows
section
variable{X:Cx}{o e value:Expr}{to te tv:TE}{f:Str}{pos pos' apos:Pos}
end
section
variable{P:Program}{w:World}{K:W.Frag}{mg:Str->Option Value}{base:Heap}{N:List Str}{qual:Str}{scope:Scope}{f:Addr}{cd:Value}{A:Around}{outer:List Env}{s:Shared}{H:Hp}{E:XK}{x:Expr}{te:TE}{pos:Pos}
end
section
variable{X:Cx}{C:Addr}{x:Str}{p pos:Pos}{e:Expr}{es:List Expr}{t:TA}
end
section
variable{X:Cx}{R:Str}{CR:Addr}{rp apos pos:Pos}{a:Expr}{as:List Expr}{t:TA}
end
section
variable{X:Cx}{e:Expr}{te:TE}{z1:Str}{j:Nat}{p p' pos:Pos}
end
theorem aM7:∀ {a:List Addr} {us:List Value},dI (a.map V.ref) us->us=a.map Value.ref
 | [],_,.nil=>rfl
 | D::r,_,.cons b c=>by
   cases (show _=Value.ref D from b);rw[aM7 c];rfl
section
variable{X:Cx}{pins pins':List (Addr×Obj)}{σ:St}{H:Hp}{s:Shared}{E:Value->Shared->Prop}{e:Value}
end
section
variable{X:Cx}{CX:CXT}{k:Nat}{f:Addr}{fd:FuncData}{ps:List Str}{sp:Sp}{E:St->XK}{x:Str}{p pos:Pos}{e:Expr}{es:List Expr}{t:TA}{pins0:List (Addr×Obj)}
end
section
variable{X:Cx}{pins:List (Addr×Obj)}{σ:St}{H:Hp}{s:Shared}{T:Addr}{oT:Obj}
end
abbrev TH:=Addr->Addr->Option Addr->Addr->TS
section
variable{X:Cx}{t:Expr}{tt:TE}{n:Str}{i:Nat}{b0:Stmt}{body:List Stmt}{ts:TS}{pos:Pos}{mL:List ExceptHandler}{th:TH}
end
section
variable{κ:Type}[DecidableEq κ]
noncomputable def cA7(kvs:List (κ×V))(k:κ):Option V:=(kvs.find? λa=>decide (a.1=k)).map (·.2)
noncomputable def bR1(kvs:List (κ×V))(k:κ)(v:V):List (κ×V):=
 if(kvs.any λa=>decide (a.1=k))=true then kvs.map (λa=>if a.1=k then(a.1,v)else a)else kvs++[(k,v)]
def aG4{p:κ×V}{r:List (κ×V)}{k:κ}(e:p.1=k):cA7 (p::r) k=some p.2:=by simp[cA7,List.find?_cons,e]
def aG5{p:κ×V}{r:List (κ×V)}{k:κ}(e:¬ p.1=k):cA7 (p::r) k=cA7 r k:=by simp[cA7,List.find?_cons,e]
def aU6(kvs:List (κ×V))(k:κ)(v:V):(bR1 kvs k v).length<=kvs.length+1:=by
 unfold bR1;split;rw[a0a];lia;rw[a5a,a4f,a2g];lia
def KV.val{kvs:List (κ×V)}{vs:List (κ×Value)}(r:KV kvs vs)(k:κ):cB2 (cA7 kvs k) (valueAt vs k):=by
 unfold KV at r
 induction r with
 | nil=>exact True.intro
 | @cons p q ps qs h t d=>
   obtain⟨c,f⟩:=h;by_cases e:p.1=k
   ·have a:q.1=k:=c.symm.trans e;have b:valueAt (q::qs) k=some q.2:=by simp[valueAt,List.find?_cons,a]
    rw[aG4 e,b];exact f
   ·have a:¬ q.1=k:=λz=>e (c.trans z);have b:valueAt (q::qs) k=valueAt qs k:=by simp[valueAt,List.find?_cons,a]
    rw[aG5 e,b];exact d
theorem KV.any{kvs:List (κ×V)}{vs:List (κ×Value)}(r:KV kvs vs)(k:κ):(kvs.any λa=>decide (a.1=k))=vs.any λa=>decide (a.1=k):=by
 unfold KV at r
 induction r with
 | nil=>rfl
 | cons h t b=>rw[List.any_cons,List.any_cons,b,h.1]
def KV.repl{kvs:List (κ×V)}{vs:List (κ×Value)}(r:KV kvs vs)(k:κ){y:V}{u:Value}(c:gR y u) :
  KV (kvs.map λa=>if a.1=k then(a.1,y)else a) (vs.map λa=>if a.1=k then(a.1,u)else a):=by
 unfold KV at r ⊢
 induction r with
 | nil=>exact .nil
 | @cons p q ps qs h t d=>
   rw[a7e,a7e];refine .cons ?_ d;obtain⟨b,f⟩:=h;by_cases e:p.1=k;rw[a4y e,a4y (b.symm.trans e)];exact⟨b,c⟩;rw[a4z e,a4z (λz=>e (b.trans z))];exact⟨b,f⟩
def KV.put{kvs:List (κ×V)}{vs:List (κ×Value)}(r:KV kvs vs)(k:κ){y:V}{u:Value}(a:gR y u):KV (bR1 kvs k y) (stored vs k u):=by
 unfold bR1 stored;rw[r.any k];by_cases e:(vs.any λb=>decide (b.1=k))=true;rw[a4y e,a4y e];exact r.repl k a;rw[a4z e,a4z e];exact Paired.snoc r ⟨rfl,a⟩
end
def cU5{P:Program}{w:World}{k:Key}{u:Value}(r:gR (kV k) u):(gH P w).is k u=true:=by
 cases k with
 | inl i=>obtain⟨t,e⟩:=(show ∃ t,u=Value.int i t from r);subst e;exact aT4 P w i t
 | inr x=>obtain⟨t,e⟩:=(show ∃ t,u=Value.str x t from r);subst e;exact aT5 P w x t
theorem aM8{P:Program}{w:World}:∀ {ks:List Key} {us:List Value},dI (ks.map kV) us->ItemsAre (gH P w) ks us
 | [],_,r=>by rw[List.map_nil]at r;cases r;exact .nil
 | k::ks,_,r=>by
   rw[a7e]at r;cases r with
   | cons h t=>exact .cons (cU5 h) (aM8 t)
abbrev KT(H:Hp):List (List Key×V)->List (List Key×Addr×Value)->Prop:=Paired λp q=>p.1=q.1/\H q.2.1=some (.tup (p.1.map kV))/\gR p.2 q.2.2
def KT.val{H:Hp}{kvs:List (List Key×V)}{xs:List (List Key×Addr×Value)}(r:KT H kvs xs)(k:List Key):cB2 (cA7 kvs k) ((atKey xs k).map (·.2)):=by
 induction r with
 | nil=>exact True.intro
 | @cons p q ps qs h t d=>
   obtain⟨c,_,f⟩:=h;by_cases e:p.1=k
   ·have a:q.1=k:=c.symm.trans e;have b:atKey (q::qs) k=some q.2:=by simp[atKey,List.find?_cons,a]
    rw[aG4 e,b];exact f
   ·have a:¬ q.1=k:=λz=>e (c.trans z);have b:atKey (q::qs) k=atKey qs k:=by simp[atKey,List.find?_cons,a]
    rw[aG5 e,b];exact d
section
variable{P:Program}{w:World}{H:Hp}{h:Heap}{a:Addr}
def dK5{u:HO}(ok:HOk P w H h)(e:Rd H a u):eV P w H h a u:=e.ok ok
def dK6{kvs:List (Key×V)}(ok:HOk P w H h)(e:Rd H a (.dK kvs)):kvs.length<=sizeLine/\(a==sysModules)=false/\∃ vs,KV kvs vs/\h.DictOf (gH P w) a vs:=
 show eV P w H h a (.dK kvs)from dK5 ok e
def cN9{ks:List Key}(ok:HOk P w H h)(e:H a=some (.tup (ks.map kV))):(tupleKind (gH P w)).is h ks a:=by
 obtain⟨_,b,r,⟨o,c,d,n,f⟩,_⟩:=(show eV P w H h a (.tup (ks.map kV))from ok a _ e);exact⟨o,b.toArray,n,c,d,f,by simpa using aM8 r⟩
def dK7{kvs:List (List Key×V)}(ok:HOk P w H h)(e:Rd H a (.dT kvs)):kvs.length<=sizeLine/\(a==sysModules)=false /\
  ∃ xs,KT H kvs xs/\h.DictOfH (tupleKind (gH P w)) a xs:=by
 obtain⟨z,y,xs,r,o,es,d,f,g,i,j,k⟩:=(show eV P w H h a (.dT kvs)from dK5 ok e);refine⟨z,y,xs,r,o,es,d,f,g,i,j,λx b=>?_,k⟩;have all:∀ {l:List (List Key×V)} {m:List (List Key×Addr×Value)},KT H l m->∀ x∈m,(tupleKind (gH P w)).is h x.1 x.2.1:=by
  intro l m q
  induction q with
  | nil=>intro x b;exact nomatch b
  | @cons p q ps qs c t n=>
    intro x b;rcases a3b.mp b with e | b;subst e;exact cN9 ok (by rw[← c.1];exact c.2.1);exact n x b
 exact all r x b
end
def dU4(H:Hp)(a:Addr)(y:V)(r:Option V):Prop:=
 (∃ kvs k,Rd H a (.dK kvs)/\y=kV k/\r=cA7 kvs k)\/∃ kvs k b,Rd H a (.dT kvs)/\y=.ref b/\H b=some (.tup (k.map kV))/\r=cA7 kvs k
section
variable{X:Cx}{pins:List (Addr×Obj)}{σ:St}{H:Hp}{s:Shared}{a:Addr}{y v:V}{u r:Value}{o:Option V}{A:Around}{E:Value->Shared->Prop}
def Inv.big(I:Inv X pins σ H s):sysModules < s.heap.objs.size:=by
 have h:mainGlobals < s.heap.objs.size:=(I.mod.glob.keeps I.bk).lt;exact a7g (by decide) h
def bR2{Q:Value->Shared->Prop}(q:A.units+1 < cLine)(I:Inv X pins σ H s)(g:dU4 H a y (some v))(n:gR y u)(h:∀ d s',Inv X pins σ H s'->gR v d->Q d s') :
  wpAny (model X.prog X.w) A (getItem (.ref a) u) Q E s:=by
 rcases g with⟨kvs,k,e,f,l⟩ | ⟨kvs,k,b,e,f,r,l⟩;subst f;obtain⟨z,hd,vs,rel,i⟩:=dK6 I.hok e;obtain⟨d,j,c⟩:=cB2.some_of (v:=v) (o:=valueAt vs k) (by rw[l];exact rel.val k);exact wpAny_getItem_of (cU5 n) i.mapOf j (h d _ (I.tok _) c);subst f;cases (show u=Value.ref b from n);obtain⟨z,hd,xs,rel,i⟩:=dK7 I.hok e;obtain⟨d,j,c⟩:=cB2.some_of (v:=v) (o:=(atKey xs k).map (·.2)) (by rw[l];exact rel.val k);obtain⟨p,t,m⟩:=a9c.mp j;refine wpAny_getItem_heap (tupleKind_room_in1 q) (cN9 I.hok r) i t ?_;rw[m];exact h d _ (I.tok _) c
def cO0{P:Program}{w:World}{H':Hp}{h':Heap}{kvs:List (Key×V)}{vs:List (Key×Value)}(z:kvs.length<=sizeLine)(hd:(a==sysModules)=false)(rel:KV kvs vs)(b:h'.DictOf (gH P w) a vs) :
  eV P w H' h' a (.dK kvs):=⟨z,hd,vs,rel,b⟩
end
section
variable{X:Cx}{pins:List (Addr×Obj)}{σ:St}{H:Hp}{s:Shared}{a:Addr}{kvs:List (Key×V)}{k:Key}{u:Value}{A:Around}{E:Value->Shared->Prop}
end
def dU5(i:Expr):Prop:=∀ ov a,subscripted i false ov a=operate [ov,a] (getItem ov a)
def cU6{prog:Program}{w:World}{A:Around}{E:Value->Shared->Prop}{s:Shared}{env:Env}{b a:Expr}{pos:Pos}{T id:String}{Q:Value->Shared->Prop}
  (l:typeLookup (.type T) "__getitem__"=pure (some (.builtin id))) (m:dU5 a)
  (h:wpAny (model prog w) A (eval b env) (λo e=>wpAny (model prog w) A (eval a env) (λi c=>c.TypeIs o T/\wpAny (model prog w) A (getItem o i) Q E c) E e) E s) :
  wpAny (model prog w) A (eval (.Subscript b a pos) env) Q E s:=by
 refine Subscript_ (a4H h (λo e g=>a4H g (λi c d=>?_) λ_ _ x=>x) λ_ _ x=>x);obtain⟨k,d⟩:=d;unfold subscriptTail;refine a4x ?_;rw[getitemInPython_of_ne k.not_modules];refine a4x (wpAny_specialOf k l ?_);have fin:wpAny (model prog w) A (subscripted a false o i) (λr f=>wpAny (model prog w) A (letTemporaryGo b o r >>= λ_=>pure r) Q E f) E c:=by
  rw[m o i];exact wpAny_operating (a4H d (λr f j=>a4x (wpAny_letTemporaryGo (a4A j))) λ_ _ x=>x)
 first
  | exact a4A (a4x fin)
  | exact a4x (a4A (a4x fin))
  | exact a4x fin
def aU7{X:Cx}{pins:List (Addr×Obj)}{σ:St}{H:Hp}{s:Shared}{a:Addr}{y:V}{o:Option V}(I:Inv X pins σ H s)(g:dU4 H a y o):s.TypeIs (.ref a) "dict":=by
 rcases g with⟨kvs,k,e,_,_⟩ | ⟨kvs,k,b,e,_,_,_⟩;obtain⟨_,_,vs,_,c⟩:=dK6 I.hok e;exact c.typeIs;obtain⟨_,_,xs,_,c⟩:=dK7 I.hok e;exact c.typeIs
def dY2(c ty:TE):TE:=λσ H Q=>c σ H λx d=>ty σ d λy b=>∃ a v,x=.ref a/\dU4 b a y (some v)/\Q v b
section
variable{X:Cx}{o i e value:Expr}{pos pos' tpos:Pos}{td ty tv:TE}
def cU7(d:X.A.units+1 < cLine)(e:PE X o td)(hi:PE X i ty)(f:dU5 i):PE X (.Subscript o i pos) (dY2 td ty):=by
 intro pins s σ H Q I h;refine cU6 F.slot_dict_getitem.lookup f (thn (e pins s σ H _ I h) λu s1 ⟨x,j,k,l,m⟩=>thn (hi pins s1 σ j _ k m) λt s2 Z0=>?_);obtain⟨y,n,c,p,a,v,ex,g,q⟩:=Z0;subst ex;obtain rfl:u=Value.ref a:=l;exact⟨aU7 c g,bR2 d c g p λw z r b=>⟨v,n,r,b,q⟩⟩
end
section
variable{X:Cx}{pos:Pos}
end
noncomputable def qA(kvs more:List (Key×V)):List (Key×V):=more.foldl (λacc a=>bR1 acc a.1 a.2) kvs
def KV.merge:∀ {more:List (Key×V)} {rs:List (Key×Value)} {kvs:List (Key×V)} {vs:List (Key×Value)},KV more rs->KV kvs vs->KV (qA kvs more) (merged vs rs):=by
 intro more rs kvs vs r;unfold KV at r
 induction r generalizing kvs vs with
 | nil=>intro q;exact q
 | @cons p q ps qs h t a=>
   intro b;have e:KV (bR1 kvs p.1 p.2) (stored vs q.1 q.2):=by
    have:=b.put p.1 h.2;rw[← h.1];exact this
   exact a e
theorem lK:∀ (more kvs:List (Key×V)),(qA kvs more).length<=kvs.length+more.length
 | [],kvs=>by show kvs.length<=kvs.length+0;lia
 | p::r,kvs=>by
   have a:=lK r (bR1 kvs p.1 p.2);have b:=aU6 kvs p.1 p.2;show(qA (bR1 kvs p.1 p.2) r).length<=_;rw[a4f];lia
section
variable{X:Cx}{pins:List (Addr×Obj)}{σ:St}{H:Hp}{s:Shared}{a:Addr}{y d:V}{u r:Value}{o:Option V}{A:Around}{E:Value->Shared->Prop}
end
section
variable{X:Cx}{o e f:Expr}{apos cpos:Pos}{td ty tx:TE}
end
section
variable{X:Cx}{pins:List (Addr×Obj)}{σ:St}{H:Hp}{s:Shared}{a:Addr}{kvs:List (Key×V)}{A:Around}{E:Value->Shared->Prop}
end
section
variable{X:Cx}{pins:List (Addr×Obj)}{σ:St}{H:Hp}{s:Shared}{a:Addr}{y:V}{u:Value}{A:Around}{E:Value->Shared->Prop}
end
section
variable{X:Cx}
end
section
variable{K:W.Frag}{t:TA}{te to tv:TE}{f:Str}{σ:St}{H:Hp}{Q:VK}{D:Ends}{sp:Sp}{C:Addr}{E:XK}{Ex:St->XK}{tb:(St->XK)->TS}{th:TH}{i:Nat}{ts:TS}
end
end L2
namespace Mr
open PySem L2 PyProof.Rows
end Mr
namespace Mr
open PySem L2
section
variable{K:W.Frag}{H:Hp}{C t D0 D1 D2 D3:Addr}{b0 b1 b2 b3:Bool}
end
end Mr
namespace L2
open PySem PySem.Spec PyProof.Rows
theorem bR3:∀ {xs:List V} {us:List Value},xs.length=us.length->(∀ (j:Nat) (x:V) (y:Value),xs[j]? = some x->us[j]? = some y->gR x y)->dI xs us
 | [],[],_,_=>.nil
 | [],_::_,h,_=>by simp at h
 | _::_,[],h,_=>by simp at h
 | x::xs,u::us,h,k=>.cons (k 0 x u rfl rfl) (bR3 (by simpa using h) λj a b ha c=>k (j+1) a b (by simpa using ha) (by simpa using c))
section
variable{X:Cx}
def bC1:List V->Hp->VK->Prop:=λvs H Q=>∃ n:Int,vs=[.int n]/\0<=n/\n<=1000/\∀ r,H r=none->Q (.ref r) (upd H r (.lst ((List.range n.toNat).map λ(i:Nat)=>V.int (i:Int))))
def aG6(m:X.calm=true):∀ pins s σ H vs us Q,Inv X pins σ H s->dI vs us->bC1 vs H Q ->
  wpAny (model X.prog X.w) X.A (call (.type "range") us) (λu s1=>wpAny (model X.prog X.w) X.A (call (.type "list") [u]) (EP X pins σ Q) X.xe s1) X.xe s:=by
 intro pins s σ H vs us Q I p h;obtain⟨n,rfl,h0,F,q⟩:=h;obtain⟨u,rfl,r⟩:=p.one;obtain⟨t,rfl⟩:=r;refine call_range_1 ?_;have f:Builtin.Range.rangeSize 0 n 1=((n.toNat:Nat):Int):=by rw[rangeSize_one];split<;>lia
 refine call_list_range (s:={s with heap:=s.heap.push {cls:=.type "range",data:=.fields #[.int 0 s.toks,.int n t,.int 1 (s.toks+1)]},toks:=s.toks+1+1}) (I.ok.hd m) (IsRange.new ..) (small_one (by lia) (by lia) (by lia) (by lia)) f (by lia) λh' tk acc c v z a=>?_;have d:(s.heap.push {cls:=.type "range",data:=.fields #[.int 0 s.toks,.int n t,.int 1 (s.toks+1)]}).objs.size=s.heap.objs.size+1:=a2h ..;have B:dI ((List.range n.toNat).map λ(i:Nat)=>V.int (i:Int)) acc.toList:=by
  obtain⟨C,g⟩:=a;refine bR3 (by rw[a0a,a5f,a0h,C]) λj x y k l=>?_;rw[a6g]at l;obtain⟨t',rfl⟩:=g j y l;rw[a5c]at k;obtain⟨i,hi,rfl⟩:=a9c.mp k;obtain⟨_,e⟩:=a2a.mp hi;rw[List.getElem_range]at e;subst e;refine⟨t',?_⟩;simp
 refine⟨.ref (s.heap.objs.size+1),upd H (s.heap.objs.size+1) _,?_,by show Value.ref _=_;rw[d],q _ (I.hok.fresh (Nat.le_succ _))⟩;refine I.laid (t':=tk) (λb o D=>v b o (a7a _ D)) (Nat.le_succ _) ⟨by rw[a0a,a5f];exact a8b (by lia:n.toNat<=1000) (by decide),acc.toList,c,B,?_⟩;have E:h'.get? (s.heap.objs.size+1)=some (eE5 acc c):=by rw[← d];exact z
 rw[E,Array.toArray_toList]
end
section
variable{t tk tv td ty tx:TE}{r:List (TE×TE)}{σ:St}{H:Hp}{Q:VK}{R:List (V×V)->Hp->Prop}
end
end L2
namespace Mr
open PySem L2 PyProof.Rows
theorem aC3{m:Nat}{sep:Str}(b:∀ c∈sep.cps.toList,c < m):∀ d:List Str,(∀ z∈d,∀ c∈z.cps.toList,c < m)->∀ c∈(Str.join sep d).cps.toList,c < m
 | [],_=>λc a=>by simp[Str.join,Str.empty]at a
 | [x],h=>λc a=>h x a4a c a
 | x::y::r,h=>λc a=>by
   have f:=aC3 b (y::r) λz g=>h z (a6a _ g);have e:(Str.join sep (x::y::r)).cps.toList=x.cps.toList++sep.cps.toList++(Str.join sep (y::r)).cps.toList:=by
    show(x++sep++Str.join sep (y::r)).cps.toList=_;rw[Str.cps_append,Str.cps_append,Array.toList_append,Array.toList_append]
   rw[e]at a;rcases a8a.mp a with a | a;rcases a8a.mp a with a | a;exact h x a4a c a;exact b c a;exact f c a
def aU8{m:Nat}{sep:Str}(b:∀ c∈sep.cps.toList,c < m)(a:List Str)(h:∀ z∈a,∀ c∈z.cps.toList,c < m):∀ c∈(Txt.join sep a).cps.toList,c < m:=by
 show ∀ c∈(Builtin.Str.glued sep a).cps.toList,c < m;rw[StrLaws.glued_eq_join];exact aC3 b a h
def cU8:∀ c∈(Str.ofString "abcdefghijklmnopqrstuvwxyz").cps.toList,c < 128:=by decide
end Mr
namespace Dv
open PySem L2
inductive D where
 | non | bl (b:Bool) | int (i:Int) | str (x:Str) | tup (l:List D) | lst (l:List D) | dic (ks vs:List D)
noncomputable instance:DecidableEq D:=λ_ _=>Classical.propDecidable _
noncomputable instance:Inhabited D:=⟨.non⟩
noncomputable def cA8:Key->D
 | .inl i=>.int i
 | .inr x=>.str x
def cU9:HO->List D->List V->Prop
 | .dK kvs,ks,ws=>ks=kvs.map (λa=>cA8 a.1)/\ws=kvs.map (·.2)
 | .dT kvs,ks,ws=>ks=kvs.map (λa=>D.tup (a.1.map cA8))/\ws=kvs.map (·.2)
 | _,_,_=>False
mutual
inductive Rp(H:Hp):D->V->Prop
 | non:Rp H .non .non
 | bl (b:Bool):Rp H (.bl b) (.bl b)
 | int (i:Int):Rp H (.int i) (.int i)
 | str (x:Str):Rp H (.str x) (.str x)
 | tup {l:List D} {p:Addr} {xs:List V}:H p=some (.tup xs)->Rps H l xs->Rp H (.tup l) (.ref p)
 | lst {l:List D} {p:Addr} {xs:List V} {o:Obj}:H p=some (.frz o (.lst xs))->Rps H l xs->Rp H (.lst l) (.ref p)
 | dic {ks vs:List D} {p:Addr} {o:Obj} {u:HO} {ws:List V}:H p=some (.frz o u)->cU9 u ks ws->Rps H vs ws->Rp H (.dic ks vs) (.ref p)
inductive Rps(H:Hp):List D->List V->Prop
 | nil:Rps H [] []
 | cons {d:D} {r:List D} {x:V} {xs:List V}:Rp H d x->Rps H r xs->Rps H (d::r) (x::xs)
end
structure Ext(H H':Hp):Prop where
 tup:∀ p xs,H p=some (.tup xs)->H' p=some (.tup xs)
 frz:∀ p o u,H p=some (.frz o u)->H' p=some (.frz o u)
def Ext.same{H H':Hp}(h:aT2 H H'):Ext H H':=⟨λp xs e=>h p _ e,λp o u e=>h p _ e⟩
mutual
theorem Rp.mono{H H':Hp}(a:Ext H H'):∀ {d:D} {x:V},Rp H d x->Rp H' d x
 | _,_,.non=>.non
 | _,_,.bl b=>.bl b
 | _,_,.int i=>.int i
 | _,_,.str x=>.str x
 | _,_,.tup h r=>.tup (a.tup _ _ h) (Rps.mono a r)
 | _,_,.lst h r=>.lst (a.frz _ _ _ h) (Rps.mono a r)
 | _,_,.dic h k r=>.dic (a.frz _ _ _ h) k (Rps.mono a r)
theorem Rps.mono{H H':Hp}(b:Ext H H'):∀ {l:List D} {xs:List V},Rps H l xs->Rps H' l xs
 | _,_,.nil=>.nil
 | _,_,.cons a r=>.cons (Rp.mono b a) (Rps.mono b r)
end
section
variable{H:Hp}
theorem Rps.length:∀ {l:List D} {xs:List V},Rps H l xs->l.length=xs.length
 | _,_,.nil=>rfl
 | _,_,.cons _ r=>by simp[Rps.length r]
theorem Rps.get:∀ {l:List D} {xs:List V} {i:Nat} {d:D},Rps H l xs->l[i]? = some d->∃ x,xs[i]? = some x/\Rp H d x
 | _,_,_,_,.nil,h=>by simp at h
 | _,_,0,_,.cons a r,h=>by simp at h;subst h;exact⟨_,rfl,a⟩
 | _,_,i+1,_,.cons a r,h=>by
   obtain⟨x,e,q⟩:=Rps.get (i:=i) r (by simpa using h);exact⟨x,by simpa using e,q⟩
theorem Rps.append:∀ {l m:List D} {xs ys:List V},Rps H l xs->Rps H m ys->Rps H (l++m) (xs++ys)
 | _,_,_,_,.nil,h=>h
 | _,_,_,_,.cons a r,h=>.cons a (Rps.append r h)
theorem Rps.take:∀ {l:List D} {xs:List V} (n:Nat),Rps H l xs->Rps H (l.take n) (xs.take n)
 | _,_,0,_=>.nil
 | _,_,_+1,.nil=>.nil
 | _,_,n+1,.cons a r=>.cons a (Rps.take n r)
theorem Rps.drop:∀ {l:List D} {xs:List V} (n:Nat),Rps H l xs->Rps H (l.drop n) (xs.drop n)
 | _,_,0,r=>r
 | _,_,_+1,.nil=>.nil
 | _,_,n+1,.cons _ r=>Rps.drop n r
theorem Rps.set:∀ {l:List D} {xs:List V} {d:D} {x:V} (i:Nat),Rps H l xs->Rp H d x->Rps H (l.set i d) (xs.set i x)
 | _,_,_,_,_,.nil,_=>.nil
 | _,_,_,_,0,.cons _ r,q=>.cons q r
 | _,_,_,_,i+1,.cons a r,q=>.cons a (Rps.set i r q)
theorem Rps.eraseIdx:∀ {l:List D} {xs:List V} (i:Nat),Rps H l xs->Rps H (l.eraseIdx i) (xs.eraseIdx i)
 | _,_,_,.nil=>.nil
 | _,_,0,.cons _ r=>r
 | _,_,i+1,.cons a r=>.cons a (Rps.eraseIdx i r)
theorem lL:∀ ns:List Int,Rps H (ns.map D.int) (ns.map V.int)
 | []=>.nil
 | n::r=>.cons (.int n) (lL r)
theorem bC2:∀ ns:List Str,Rps H (ns.map D.str) (ns.map V.str)
 | []=>.nil
 | n::r=>.cons (.str n) (bC2 r)
theorem Rps.ints_inv:∀ {ns:List Int} {xs:List V},Rps H (ns.map D.int) xs->xs=ns.map V.int
 | [],_,h=>by cases h;rfl
 | n::r,_,h=>by
   rw[a7e]at h;cases h with
   | cons a t=>cases a;rw[Rps.ints_inv t];rfl
theorem Rps.strs_inv:∀ {ns:List Str} {xs:List V},Rps H (ns.map D.str) xs->xs=ns.map V.str
 | [],_,h=>by cases h;rfl
 | n::r,_,h=>by
   rw[a7e]at h;cases h with
   | cons a t=>cases a;rw[Rps.strs_inv t];rfl
theorem Rps.bls_inv:∀ {ns:List Bool} {xs:List V},Rps H (ns.map D.bl) xs->xs=ns.map V.bl
 | [],_,h=>by cases h;rfl
 | n::r,_,h=>by
   rw[a7e]at h;cases h with
   | cons a t=>cases a;rw[Rps.bls_inv t];rfl
end
inductive Md where
 | val | own | par | lent
 deriving DecidableEq
noncomputable def Md.mt:Md->Bool
 | .own=>true
 | .par=>true
 | _=>false
structure Sl where
 m:Md
 d:D
abbrev Sg:=List (Option Sl)
def gK(H:Hp)(d:D)(p:Addr):Prop:=match d with
 | .lst l=>∃ xs,H p=some (.lst xs)/\Rps H l xs
 | .dic ks vs=>∃ u ws,H p=some u/\cU9 u ks ws/\Rps H vs ws
 | _=>False
theorem gK.mono{H H':Hp}{d:D}{p:Addr}(h:gK H d p)(e:Ext H H')(c:∀ o,H p=some o->H' p=some o):gK H' d p:=by
 unfold gK at h ⊢;split at h;obtain⟨xs,a,b⟩:=h;exact⟨xs,c _ a,b.mono e⟩;obtain⟨u,ws,a,b,f⟩:=h;exact⟨u,ws,c _ a,b,f.mono e⟩;exact h.elim
def gK.obj{H:Hp}{d:D}{p:Addr}(h:gK H d p):∃ o,H p=some o/\(∀ xs,o≠.tup xs)/\∀ ob u,o≠.frz ob u:=by
 unfold gK at h;split at h;obtain⟨xs,a,b⟩:=h;exact⟨_,a,⟨λ_ z=>(by cases z),λ_ _ z=>(by cases z)⟩⟩;obtain⟨u,ws,a,b,c⟩:=h;refine⟨_,a,λ_ z=>?_,λ_ _ z=>?_⟩<;>(subst z;exact b);exact h.elim
def cD6(H:Hp)(s:Sl)(v:V):Prop:=match s.m with
 | .val=>Rp H s.d v
 | _=>∃ p,v=.ref p/\gK H s.d p
def eP{H:Hp}{s:Sl}{v:V}(h:s.m≠.val):cD6 H s v↔∃ p,v=.ref p/\gK H s.d p:=by
 obtain⟨m,d⟩:=s;cases m with
 | val=>exact absurd rfl h
 | own=>exact Iff.rfl
 | par=>exact Iff.rfl
 | lent=>exact Iff.rfl
def Vw(H:Hp)(d:D)(v:V):Prop:=Rp H d v\/∃ p,v=.ref p/\gK H d p
def cD6.vw{H:Hp}{s:Sl}{v:V}(h:cD6 H s v):Vw H s.d v:=by
 by_cases e:s.m=.val;obtain⟨m,d⟩:=s;cases e;exact .inl h;exact .inr ((eP e).mp h)
inductive Vws(H:Hp):List D->List V->Prop
 | nil:Vws H [] []
 | cons {d:D} {r:List D} {x:V} {xs:List V}:Vw H d x->Vws H r xs->Vws H (d::r) (x::xs)
def sV(σ:Sg)(σV:St)(a:Addr):Prop:=∃ (i:Nat) (s:Sl),σ[i]? = some (some s)/\s.m.mt=true/\σV[i]? = some (some (.ref a))
def cA9(σ:Sg)(σV:St)(a:Addr):Prop:=∃ (i:Nat) (s:Sl),σ[i]? = some (some s)/\s.m≠.val/\σV[i]? = some (some (.ref a))
def sV.nv{σ:Sg}{σV:St}{a:Addr}(h:sV σ σV a):cA9 σ σV a:=by
 obtain⟨i,s,c,b,d⟩:=h;exact⟨i,s,c,λz=>(by rw[z]at b;cases b),d⟩
structure Gm where
 H₀:Hp
 pr:Addr->Prop
structure StOk(Γ:Gm)(H:Hp)(σ:Sg)(σV:St):Prop where
 rel:∀ (i:Nat) s,σ[i]? = some (some s)->∃ v,σV[i]? = some (some v)/\cD6 H s v
 dis:∀ (i j:Nat) s t p,i≠j->σ[i]? = some (some s)->σ[j]? = some (some t)->s.m.mt=true->t.m≠.val->σV[i]? = some (some (.ref p))->σV[j]? = some (some (.ref p))->False
 own:∀ (i:Nat) s p,σ[i]? = some (some s)->s.m=.own->σV[i]? = some (some (.ref p))->Γ.H₀ p=none
 par:∀ (i:Nat) s p,σ[i]? = some (some s)->s.m=.par->σV[i]? = some (some (.ref p))->Γ.pr p
 keep:∀ a o,Γ.H₀ a=some o->¬ Γ.pr a->H a=some o
 dom:∀ a,H a=none->Γ.H₀ a=none
 len:σ.length=σV.length
structure Step(σ:Sg)(σV:St)(H:Hp)(σ':Sg)(σV':St)(H':Hp):Prop where
 fr:∀ a o,H a=some o->¬ sV σ σV a->H' a=some o
 dom:∀ a,H' a=none->H a=none
 mu:∀ a,sV σ' σV' a->sV σ σV a\/H a=none
 nv:∀ a,cA9 σ' σV' a->cA9 σ σV a\/H a=none
 kp:∀ (i:Nat) s,σ[i]? = some (some s)->∃ s',σ'[i]? = some (some s')
 fix:∀ (i:Nat) s,σ[i]? = some (some s)->(s.m=.par\/s.m=.lent)->∃ s',σ'[i]? = some (some s')/\s'.m=s.m/\(s.m=.lent->s'.d=s.d)/\σV'[i]? = σV[i]?
 lt:∀ (i:Nat) s',σ'[i]? = some (some s')->s'.m=.lent->∃ s,σ[i]? = some (some s)/\s.m=.lent
section
variable{σ σ1 σ2:Sg}{σV σV1 σV2:St}{H H1 H2:Hp}{Γ:Gm}
def Step.refl:Step σ σV H σ σV H:=⟨λ_ _ h _=>h,λ_ h=>h,λ_ h=>.inl h,λ_ h=>.inl h,λi s h=>⟨s,h⟩,λi s h _=>⟨s,h,rfl,λ_=>rfl,rfl⟩,λi s h m=>⟨s,h,m⟩⟩
theorem Step.trans(a:Step σ σV H σ1 σV1 H1)(b:Step σ1 σV1 H1 σ2 σV2 H2):Step σ σV H σ2 σV2 H2 where
 fr:=λc o h n=>b.fr c o (a.fr c o h n) λz=>by
  rcases a.mu c z with q | q;exact n q;rw[h]at q;cases q
 dom:=λc h=>a.dom c (b.dom c h)
 mu:=λc h=>by
  rcases b.mu c h with q | q;exact a.mu c q;exact .inr (a.dom c q)
 nv:=λc h=>by
  rcases b.nv c h with q | q;exact a.nv c q;exact .inr (a.dom c q)
 kp:=λi s h=>by
  obtain⟨s1,d⟩:=a.kp i s h;exact b.kp i s1 d
 fix:=λi s h hm=>by
  obtain⟨s1,d,e,f,g⟩:=a.fix i s h hm;obtain⟨s2,j,k,l,p⟩:=b.fix i s1 d (by rw[e];exact hm);exact⟨s2,j,k.trans e,λz=>(l (e.trans z)).trans (f z),p.trans g⟩
 lt:=λi s h m=>by
  obtain⟨s1,d,e⟩:=b.lt i s h m;exact a.lt i s1 d e
def StOk.mutObj(ok:StOk Γ H σ σV){a:Addr}(h:cA9 σ σV a):∃ o,H a=some o/\(∀ xs,o≠.tup xs)/\∀ ob u,o≠.frz ob u:=by
 obtain⟨i,s,b,c,d⟩:=h;obtain⟨v,e,r⟩:=ok.rel i s b;rw[d]at e;cases e;obtain⟨p,e,q⟩:=(eP c).mp r;cases e;exact q.obj
def Step.ext(st:Step σ σV H σ1 σV1 H1)(ok:StOk Γ H σ σV):Ext H H1:=by
 refine⟨λp xs h=>st.fr p _ h λz=>?_,λp o u h=>st.fr p _ h λz=>?_⟩;obtain⟨o,e,n,_⟩:=ok.mutObj z.nv;rw[h]at e;cases e;exact n _ rfl;obtain⟨o,e,_,n⟩:=ok.mutObj z.nv;rw[h]at e;cases e;exact n _ _ rfl
theorem cD6.mono{s:Sl}{v:V}(r:cD6 H s v)(e:Ext H H1)(b:∀ p o,v=.ref p->s.m≠.val->H p=some o->H1 p=some o):cD6 H1 s v:=by
 by_cases q:s.m=.val;obtain⟨m,d⟩:=s;cases q;exact Rp.mono e r;obtain⟨p,a,c⟩:=(eP q).mp r;exact(eP q).mpr ⟨p,a,c.mono e λo=>b p o a q⟩
theorem StOk.same(ok:StOk Γ H σ σV)(h:aT2 H H1):StOk Γ H1 σ σV:=
 ⟨λi s e=>by
  obtain⟨v,b,r⟩:=ok.rel i s e;exact⟨v,b,r.mono (.same h) λp o _ _ q=>h p o q⟩,ok.dis,ok.own,ok.par,λa o e n=>h a o (ok.keep a o e n),λa e=>ok.dom a (by
  cases q:H a with
  | none=>rfl
  | some o=>rw[h a o q]at e;cases e),ok.len⟩
def bR4(h:aT2 H H1){a:Addr}(e:H1 a=none):H a=none:=by
 cases q:H a with
 | none=>rfl
 | some o=>rw[h a o q]at e;cases e
def Step.same(h:aT2 H H1):Step σ σV H σ σV H1:=⟨λa o e _=>h a o e,λa e=>bR4 h e,λ_ h=>.inl h,λ_ h=>.inl h,λi s h=>⟨s,h⟩,λi s h _=>⟨s,h,rfl,λ_=>rfl,rfl⟩,λi s h m=>⟨s,h,m⟩⟩
end
inductive Res where
 | val (d:D) | own (d:D) | slot (i:Nat)
def mS(Γ:Gm)(H:Hp)(σ:Sg)(σV:St)(r:Res)(v:V):Prop:=match r with
 | .val d=>Rp H d v
 | .own d=>∃ p,v=.ref p/\gK H d p/\¬ cA9 σ σV p/\Γ.H₀ p=none
 | .slot i=>σV[i]? = some (some v)/\∃ s,σ[i]? = some (some s)
noncomputable def rd(σ:Sg):Res->Option D
 | .val d=>some d
 | .own d=>some d
 | .slot i=>match σ[i]? with
   | some (some s)=>some s.d
   | _=>none
section
variable{σ σ1:Sg}{σV σV1:St}{H H1:Hp}{Γ:Gm}{r:Res}{v:V}{d:D}
theorem mS.vw(ok:StOk Γ H σ σV)(h:mS Γ H σ σV r v)(e:rd σ r=some d):Vw H d v:=by
 cases r with
 | val d'=>cases e;exact .inl h
 | own d'=>cases e;obtain⟨p,a,b,_⟩:=h;exact .inr ⟨p,a,b⟩
 | slot i=>
   obtain⟨f,s,c⟩:=h;have g:some s.d=some d:=by
    have:rd σ (.slot i)=some s.d:=by show(match σ[i]? with | some (some s)=>some s.d | _=>none)=_;rw[c]
    rw[← this];exact e
   cases g;obtain⟨w,a,b⟩:=ok.rel i s c;rw[f]at a;cases a;exact b.vw
def mS.step(ok:StOk Γ H σ σV)(h:mS Γ H σ σV r v)(st:Step σ σV H σ1 σV H1):mS Γ H1 σ1 σV r v:=by
 cases r with
 | val d=>exact Rp.mono (st.ext ok) h
 | own d=>
   obtain⟨p,c,a,b,e⟩:=h;obtain⟨o,f,_⟩:=a.obj;refine⟨p,c,a.mono (st.ext ok) λo h=>st.fr p o h λz=>b z.nv,λz=>?_,e⟩;rcases st.nv p z with q | q;exact b q;rw[f]at q;cases q
 | slot i=>
   obtain⟨g,s,j⟩:=h;exact⟨g,st.kp i s j⟩
end
abbrev DE:=Sg->Option (Res×Sg)
abbrev DT:=Sg->Option (Bool×Sg)
abbrev DA:=Sg->Option (List Res×Sg)
inductive ResOks(Γ:Gm)(H:Hp)(σ:Sg)(σV:St):List Res->List V->Prop
 | nil:ResOks Γ H σ σV [] []
 | cons {r:Res} {rs:List Res} {v:V} {vs:List V}:mS Γ H σ σV r v->ResOks Γ H σ σV rs vs->(∀ d p,r=.own d->v=.ref p->∀ (j:Nat) d',rs[j]? = some (.own d')->vs[j]? ≠ some (.ref p))->ResOks Γ H σ σV (r::rs) (v::vs)
def Frh(H:Hp)(r:Res)(v:V):Prop:=∀ d p,r=.own d->v=.ref p->H p=none
def jF{H:Hp}{d:D}{v:V}:Frh H (.val d) v:=λ_ _ e=>nomatch e
def Frh.back{H c:Hp}{r:Res}{v:V}{σ b:Sg}{σV a:St}(f:Frh c r v)(st:Step σ σV H b a c):Frh H r v:=λd p e g=>st.dom p (f d p e g)
def dTE(Γ:Gm)(r:DE):TE:=λσV H Q=>∃ σ,StOk Γ H σ σV/\∃ res σ',r σ=some (res,σ') /\
 ∀ v H',StOk Γ H' σ' σV->mS Γ H' σ' σV res v->Step σ σV H σ' σV H'->Frh H res v->Q v H'
def peW{X:Cx}{e:Expr}{t t':TE}(h:PE X e t)(w:∀ σ H Q,t' σ H Q->t σ H Q):PE X e t':=λpins s σ H Q I q=>h pins s σ H Q I (w σ H Q q)
def ptW{X:Cx}{e:Expr}{t t':TT}(h:PT X e t)(w:∀ σ H Q,t' σ H Q->t σ H Q):PT X e t':=λpins s σ H Q I q=>h pins s σ H Q I (w σ H Q q)
def pwW{X:Cx}{e:Expr}{t t':TT}(h:PW X e t)(w:∀ σ H Q,t' σ H Q->t σ H Q):PW X e t':=λa pins s σ H Q I q=>h a pins s σ H Q I (w σ H Q q)
def paW{X:Cx}{e:List Expr}{t t':TA}(h:PA X e t)(w:∀ σ H Q,t' σ H Q->t σ H Q):PA X e t':=λa pins s σ H Q I q=>h a pins s σ H Q I (w σ H Q q)
def psW{X:Cx}{e:Stmt}{t t':TS}(h:PS X e t)(w:∀ D σ H,t' D σ H->t D σ H):PS X e t':=λpins s σ H D I q=>h pins s σ H D I (w D σ H q)
def dK8{X:Cx}{e:List Stmt}{t t':TS}(h:PSs X e t)(w:∀ D σ H,t' D σ H->t D σ H):PSs X e t':=λpins s σ H D I q=>h pins s σ H D I (w D σ H q)
structure GE(X:Cx)(e:Expr)(r:DE):Prop where
 to:∀ Γ,PE X e (dTE Γ r)
def dTT(Γ:Gm)(r:DT):TT:=λσV H Q=>∃ σ,StOk Γ H σ σV/\∃ b σ',r σ=some (b,σ')/\∀ H',StOk Γ H' σ' σV->Step σ σV H σ' σV H'->Q b H'
structure GT(X:Cx)(e:Expr)(r:DT):Prop where
 to:∀ Γ,PT X e (dTT Γ r)
structure GW(X:Cx)(e:Expr)(r:DT):Prop where
 to:∀ Γ,PW X e (dTT Γ r)
def GW.gt{X:Cx}{e:Expr}{r:DT}(h:GW X e r):GT X e r:=.mk λΓ=>(h.to Γ).pt
def eE6(H:Hp)(rs:List Res)(vs:List V):Prop:=∀ (j:Nat) d p,rs[j]? = some (.own d)->vs[j]? = some (.ref p)->H p=none
def dTA(Γ:Gm)(r:DA):TA:=λσV H Q=>∃ σ,StOk Γ H σ σV/\∃ rs σ',r σ=some (rs,σ')/\∀ vs H',StOk Γ H' σ' σV->ResOks Γ H' σ' σV rs vs->Step σ σV H σ' σV H'->eE6 H rs vs->Q vs H'
structure GA(X:Cx)(es:List Expr)(r:DA):Prop where
 to:∀ Γ,PA X es (dTA Γ r)
noncomputable def aH(i:Nat):DE:=λσ=>match σ[i]? with
 | some (some s)=>some (if s.m=.val then .val s.d else .slot i,σ)
 | _=>none
def aA{X:Cx}{e:Expr}{i:Nat}(h:PE X e (cB5 i)):GE X e (aH i):=.mk λΓ=>peW h λσV H Q ⟨σ,ok,res,σ',e,k⟩=>by
 unfold aH at e;split at e;rename_i s a;cases e;obtain⟨v,b,r⟩:=ok.rel i s a;refine⟨v,b,k v H ok ?_ .refl (by split<;>exact λ_ _ e=>nomatch e)⟩;by_cases hm:s.m=.val;rw[a4y hm];obtain⟨m,d⟩:=s;cases hm;exact r;rw[a4z hm];exact⟨b,s,a⟩;cases e
noncomputable def dC(d:D):DE:=λσ=>some (.val d,σ)
def dK9{X:Cx}{e:Expr}{v:V}{d:D}(h:PE X e (tC v))(a:∀ H,Rp H d v):GE X e (dC d):=.mk λΓ=>peW h λσV H Q ⟨σ,ok,res,σ',e,k⟩=>by
 cases e;exact k v H ok (a H) .refl jF
def ge_int{X:Cx}{i:Int}{j pos}:GE X (.Constant (.int i) j pos) (dC (.int i)):=dK9 iD λ_=>.int i
def sW{X:Cx}{i:Bool}{j pos}:GE X (.Constant (.bool i) j pos) (dC (.bl i)):=dK9 dV6 λ_=>.bl i
def qB{X:Cx}{i:Str}{j pos}:GE X (.Constant (.str i) j pos) (dC (.str i)):=dK9 cL0 λ_=>.str i
def bR5{X:Cx}{j pos}:GE X (.Constant .none j pos) (dC .non):=dK9 dF4 λ_=>.non
def cD7{X:Cx}{x:Str}{i:Int}{pos:Pos}(a:Gl X x)(h:∃ t,X.mg x=some (.int i t))(hd:(x==("__debug__":Str))=false:=by decide):GE X (.Name x pos) (dC (.int i)):=dK9 (cD0 a h hd) λ_=>.int i
def aU9(H H':Hp)(r:Res)(v:V):Prop:=match r with
 | .val d=>Rp H' d v
 | .own d=>∃ p,v=.ref p/\H p=none/\gK H' d p
 | .slot _=>False
def aU9.frh{H H':Hp}{r:Res}{v:V}(h:aU9 H H' r v):Frh H r v:=λd p a b=>by
 subst a b;obtain⟨q,e,c,_⟩:=h;cases e;exact c
def aU9.res{Γ:Gm}{H H':Hp}{σ:Sg}{σV:St}{r:Res}{v:V}(h:aU9 H H' r v)(ok:StOk Γ H σ σV):mS Γ H' σ σV r v:=by
 cases r with
 | val d=>exact h
 | own d=>
   obtain⟨p,b,a,c⟩:=h;refine⟨p,b,c,λz=>?_,ok.dom p a⟩;obtain⟨o,e,_⟩:=ok.mutObj z;rw[a]at e;cases e
 | slot i=>exact h.elim
abbrev F1:=D->Option Res
abbrev F2:=D->D->Option Res
abbrev FN:=List D->Option Res
def dC6(a:V->Hp->VK->Prop)(f:F1):Prop:=∀ H d x Q res,Vw H d x->f d=some res->(∀ v H',aT2 H H'->aU9 H H' res v->Q v H')->a x H Q
def aC4(c:R2)(f:F2):Prop:=∀ H a b x y Q res,Vw H a x->Vw H b y->f a b=some res->(∀ v H',aT2 H H'->aU9 H H' res v->Q v H')->c x y H Q
def bL7(b:List V->Hp->VK->Prop)(f:FN):Prop:=∀ H a vs Q res,Vws H a vs->f a=some res->(∀ v H',aT2 H H'->aU9 H H' res v->Q v H')->b vs H Q
noncomputable def bC3(f:F1)(a:DE):DE:=λσ=>(a σ).bind λx=>(rd x.2 x.1).bind λd=>(f d).bind λr=>some (r,x.2)
noncomputable def aX(f:F2)(a b:DE):DE:=λσ=>(a σ).bind λx=>(b x.2).bind λy=>(rd y.2 x.1).bind λd=>(rd y.2 y.1).bind λe=>(f d e).bind λr=>some (r,y.2)
def aE{α c:Type}{o:Option α}{f:α->Option c}{b:c}(h:o.bind f=some b):∃ a,o=some a/\f a=some b:=by
 cases o with
 | none=>cases h
 | some a=>exact⟨a,rfl,h⟩
def qC{Γ:Gm}{l:R2}{f:F2}(q:aC4 l f){m n:DE}{σV:St}{H:Hp}{Q:VK}(h:dTE Γ (aX f m n) σV H Q):tOp l (dTE Γ m) (dTE Γ n) σV H Q:=by
 obtain⟨σ,ok,res,σ',e,k⟩:=h;obtain⟨⟨x,c⟩,s,e⟩:=aE e;obtain⟨⟨y,i⟩,t,e⟩:=aE e;obtain⟨u,w,e⟩:=aE e;obtain⟨z,A,e⟩:=aE e;obtain⟨r,B,e⟩:=aE e;cases e;refine⟨σ,ok,x,c,s,λC I d D g _=>⟨c,d,y,i,t,λE F a G b _=>?_⟩⟩;have j:=D.step d b;refine q F u z C E Q _ (j.vw a w) (G.vw a A) B λv H' o p=>?_;exact k v H' (a.same o) (p.res a) ((g.trans b).trans (.same o)) (p.frh.back (g.trans b))
def bC4{Γ:Gm}{d:V->Hp->VK->Prop}{f:F1}(l:dC6 d f){g:DE}{σV:St}{H:Hp}{Q:VK}(h:dTE Γ (bC3 f g) σV H Q):tUn d (dTE Γ g) σV H Q:=by
 obtain⟨σ,ok,res,σ',e,k⟩:=h;obtain⟨⟨x,c⟩,m,e⟩:=aE e;obtain⟨n,o,e⟩:=aE e;obtain⟨r,p,e⟩:=aE e;cases e;refine⟨σ,ok,x,c,m,λq s a t b _=>?_⟩;refine l s n q Q _ (t.vw a o) p λv H' i j=>?_;exact k v H' (a.same i) (j.res a) (b.trans (.same i)) (j.frh.back b)
section
variable{X:Cx}{a b:Expr}{ra rb:DE}{pos:Pos}
def aZ{c:Operator}{d:R2}{f:F2}(e:OpR X (binaryOp c) d)(g:aC4 d f)(ha:GE X a ra)(h:GE X b rb):GE X (.BinOp a c b pos) (aX f ra rb):=
 .mk λΓ=>peW (bG9 e (ha.to Γ) (h.to Γ)) λ_ _ _=>qC g
def cD8{b:UnaryOp}{c:V->Hp->VK->Prop}{f:F1}(d:UnR X (unaryOp b) c)(e:dC6 c f)(ha:GE X a ra):GE X (.UnaryOp b a pos) (bC3 f ra):=
 .mk λΓ=>peW (dW5 d (ha.to Γ)) λ_ _ _=>bC4 e
def jG{c:CmpOp}{d:R2}{f:F2}(e:OpR X (compareOp c) d)(g:aC4 d f)(ha:GE X a ra)(h:GE X b rb)(hm:behindInMarks c b=false):GE X (.Compare a [c] [b] pos) (aX f ra rb):=
 .mk λΓ=>peW (cS1 e (ha.to Γ) (h.to Γ) hm) λ_ _ _=>qC g
noncomputable def dX(r:DE):DT:=λσ=>(r σ).bind λx=>(rd x.2 x.1).bind λd=>match d with
 | .bl b=>some (b,x.2)
 | _=>none
def aG7{r:DE}{σ σ':Sg}{b:Bool}(h:dX r σ=some (b,σ')):∃ x,r σ=some (x,σ')/\rd σ' x=some (.bl b):=by
 obtain⟨⟨x,c⟩,f,e⟩:=aE h;obtain⟨d,a,e⟩:=aE e;dsimp only at e a;split at e;cases e;exact⟨x,f,a⟩;cases e
def aM9{H:Hp}{b:Bool}{v:V}(h:Vw H (.bl b) v):v=.bl b:=by
 rcases h with h | ⟨p,_,h⟩;cases h;rfl;exact h.elim
def bC5{Γ:Gm}{r:DE}{σV:St}{H:Hp}{Q:Bool->Hp->Prop}(h:dTT Γ (dX r) σV H Q):dTE Γ r σV H (λx H'=>∃ k,x=.bl k/\Q k H'):=by
 obtain⟨σ,ok,b,σ',e,k⟩:=h;obtain⟨x,c,d⟩:=aG7 e;refine⟨σ,ok,x,σ',c,λv H' a f st _=>⟨b,aM9 (f.vw a d),k H' a st⟩⟩
def bY{c:CmpOp}{d:R2}{f:F2}(e:OpR X (compareOp c) d)(g:aC4 d f)(ha:GE X a ra)(i:GE X b rb)(hm:behindInMarks c b=false):GT X (.Compare a [c] [b] pos) (dX (aX f ra rb)):=
 .mk λΓ=>ptW (lG e (ha.to Γ) (i.to Γ) hm) λσ H Q h=>qC g (bC5 h)
def tX{e:Expr}{r:DE}(h:GE X e r)(b:∀ a,isTrue e X.env a=(do let v ← a;standAt e.pos;holding [v] (truthy v)):=by intro _;rfl):GT X e (dX r):=
 .mk λΓ=>ptW (dF5 (h.to Γ) b) λ_ _ _ h=>bC5 h
noncomputable def eC0:D->Option Bool
 | .non=>some false
 | .bl b=>some b
 | .int i=>some (i != 0)
 | .str x=>if x.length<=sizeLine then some ((x.length:Int) != 0)else none
 | .lst l=>some (!l.isEmpty)
 | .tup l=>some (!l.isEmpty)
 | _=>none
noncomputable def dU6(r:DE):DT:=λσ=>(r σ).bind λx=>(rd x.2 x.1).bind λd=>(eC0 d).bind λb=>some (b,x.2)
end
def gX{H:Hp}{l:List D}{v:V}(h:Vw H (.tup l) v):∃ p xs,v=.ref p/\H p=some (.tup xs)/\Rps H l xs:=by
 rcases h with h | ⟨p,_,h⟩
 ·cases h with
  | tup h r=>exact⟨_,_,rfl,h,r⟩
 ·exact h.elim
def iZ{H:Hp}{l:List D}{v:V}(h:Vw H (.lst l) v):∃ p xs,v=.ref p/\iI H p=some (true,xs)/\Rps H l xs:=by
 rcases h with h | ⟨p,e,xs,h,r⟩
 ·cases h with
  | lst h r=>exact⟨_,_,rfl,cC5 h,r⟩
 ·exact⟨p,xs,e,tI h,r⟩
def eZ{H:Hp}{i:Int}{v:V}(h:Vw H (.int i) v):v=.int i:=by
 rcases h with h | ⟨p,_,h⟩;cases h;rfl;exact h.elim
def lZ{H:Hp}{i:Str}{v:V}(h:Vw H (.str i) v):v=.str i:=by
 rcases h with h | ⟨p,_,h⟩;cases h;rfl;exact h.elim
def bR6{H:Hp}{v:V}(h:Vw H .non v):v=.non:=by
 rcases h with h | ⟨p,_,h⟩;cases h;rfl;exact h.elim
noncomputable def cV0:D->Option (Bool×List D)
 | .lst l=>some (true,l)
 | .tup l=>some (false,l)
 | _=>none
def cO1{H:Hp}{d:D}{v:V}{b:Bool}{l:List D}(h:Vw H d v)(e:cV0 d=some (b,l)):∃ p xs,v=.ref p/\iI H p=some (b,xs)/\Rps H l xs:=by
 cases d with
 | lst a=>cases e;exact iZ h
 | tup a=>cases e;obtain⟨p,xs,c,f,g⟩:=gX h;exact⟨p,xs,c,eO f,g⟩
 | _=>cases e
section
variable{X:Cx}{a b:Expr}{ra rb:DE}{pos:Pos}
def cD9(ha:GE X a ra)(o:∀ f,isTrue a X.env f=(do let v ← f;standAt a.pos;holding [v] (truthy v))):GT X a (dU6 ra):=.mk λΓ=>ptW (cB6 (ha.to Γ) o) λσV H Q ⟨σ,ok,b,σ',e,k⟩=>by
 obtain⟨⟨x,q⟩,r,e⟩:=aE e;obtain⟨d,s,e⟩:=aE e;obtain⟨t,g,e⟩:=aE e;cases e;refine⟨σ,ok,x,_,r,λv H' j u st _=>⟨b,?_,k H' j st⟩⟩;have vw:=u.vw j s;cases d with
 | non=>cases g;rw[bR6 vw];rfl
 | bl c=>cases g;rw[aM9 vw];rfl
 | int i=>cases g;rw[eZ vw];rfl
 | str z=>
   rw[lZ vw];have h:(if z.length<=sizeLine then some ((z.length:Int) != 0)else none)=some b:=g;split at h;rename_i w;cases h;exact⟨w,rfl⟩;cases h
 | lst l=>
   cases g;obtain⟨p,xs,rfl,m,n⟩:=iZ vw;refine .inl ⟨xs,gP m,?_⟩;have:=n.length;cases l<;>cases xs<;>simp_all
 | tup l=>
   cases g;obtain⟨p,xs,rfl,m,n⟩:=gX vw;refine .inr (.inl ⟨xs,eY (eO m),?_⟩);have:=n.length;cases l<;>cases xs<;>simp_all
 | dic ks vs=>cases g
variable{tA tB:DT}{mL:List Expr}
noncomputable def dC7(t u:DT):DT:=λσ=>(t σ).bind λx=>if x.1=true then u x.2 else some (false,x.2)
noncomputable def dOr(t u:DT):DT:=λσ=>(t σ).bind λx=>if x.1=true then some (true,x.2)else u x.2
noncomputable def cO2(t:DT):DT:=λσ=>(t σ).bind λx=>some (!x.1,x.2)
def bR7(ha:GT X a tA):GW X (.BoolOp .And [a] pos) tA:=.mk λΓ=>aT6 (ha.to Γ)
def bR8(ha:GT X a tA):GW X (.BoolOp .Or [a] pos) tA:=.mk λΓ=>dF6 (ha.to Γ)
def cO3(ha:GT X a tA)(l:GW X (.BoolOp .And (b::mL) pos) tB):GW X (.BoolOp .And (a::b::mL) pos) (dC7 tA tB):=.mk λΓ=>pwW (bA3 (ha.to Γ) (l.to Γ)) λσV H Q ⟨σ,ok,c,σ',e,k⟩=>by
 obtain⟨⟨x,d⟩,m,e⟩:=aE e;refine⟨σ,ok,x,d,m,λn f g=>?_⟩;dsimp only at e;split at e;rename_i h;rw[a4y h];exact⟨d,f,c,σ',e,λo i j=>k o i (g.trans j)⟩;rename_i h;rw[a4z h];cases e;exact k n f g
def cV1(ha:GT X a tA)(l:GW X (.BoolOp .Or (b::mL) pos) tB):GW X (.BoolOp .Or (a::b::mL) pos) (dOr tA tB):=.mk λΓ=>pwW (dV7 (ha.to Γ) (l.to Γ)) λσV H Q ⟨σ,ok,c,σ',e,k⟩=>by
 obtain⟨⟨x,d⟩,m,e⟩:=aE e;refine⟨σ,ok,x,d,m,λn f g=>?_⟩;dsimp only at e;split at e;rename_i h;rw[a4y h];cases e;exact k n f g;rename_i h;rw[a4z h];exact⟨d,f,c,σ',e,λo i j=>k o i (g.trans j)⟩
def bR9(ha:GT X a tA):GT X (.UnaryOp .Not a pos) (cO2 tA):=.mk λΓ=>ptW (dF7 (ha.to Γ)) λσV H Q ⟨σ,ok,c,σ',e,k⟩=>by
 obtain⟨⟨x,f⟩,g,e⟩:=aE e;cases e;exact⟨σ,ok,x,_,g,λh b d=>k h b d⟩
noncomputable def aV0(t u:DE):DE:=λσ=>(dX t σ).bind λx=>if x.1=true then u x.2 else some (.val (.bl false),x.2)
noncomputable def dU7(t u:DE):DE:=λσ=>(dX t σ).bind λx=>if x.1=true then some (.val (.bl true),x.2)else u x.2
noncomputable def dL0(t:DE):DE:=λσ=>(dX t σ).bind λx=>some (.val (.bl (!x.1)),x.2)
def aN0{op}{r:DE}(h:GE X a r):GE X (.BoolOp op [a] pos) r:=.mk λΓ=>dF9 (h.to Γ)
def bC6(ha:GE X a ra)(l:GE X (.BoolOp .And (b::mL) pos) rb):GE X (.BoolOp .And (a::b::mL) pos) (aV0 ra rb):=.mk λΓ=>peW (dG0 (ha.to Γ) (l.to Γ)) λσV H Q ⟨σ,ok,c,σ',e,k⟩=>by
 obtain⟨⟨x,g⟩,m,e⟩:=aE e;obtain⟨y,n,o⟩:=aG7 m;refine⟨σ,ok,y,g,n,λv p d q f _=>⟨x,aM9 (q.vw d o),?_⟩⟩;dsimp only at e;split at e;rename_i h;rw[a4y h];exact⟨g,d,c,σ',e,λr s i t j u=>k r s i t (f.trans j) (u.back f)⟩;rename_i h;rw[a4z h];cases e;exact k _ p d (.bl false) f jF
def dY3(ha:GE X a ra)(l:GE X (.BoolOp .Or (b::mL) pos) rb):GE X (.BoolOp .Or (a::b::mL) pos) (dU7 ra rb):=.mk λΓ=>peW (dV9 (ha.to Γ) (l.to Γ)) λσV H Q ⟨σ,ok,c,σ',e,k⟩=>by
 obtain⟨⟨x,g⟩,m,e⟩:=aE e;obtain⟨y,n,o⟩:=aG7 m;refine⟨σ,ok,y,g,n,λv p d q f _=>⟨x,aM9 (q.vw d o),?_⟩⟩;dsimp only at e;split at e;rename_i h;rw[a4y h];cases e;exact k _ p d (.bl true) f jF;rename_i h;rw[a4z h];exact⟨g,d,c,σ',e,λr s i t j u=>k r s i t (f.trans j) (u.back f)⟩
noncomputable def dIf(t:DT)(ra rb:DE):DE:=λσ=>(t σ).bind λx=>if x.1=true then ra x.2 else rb x.2
end
def Fz:HO->Prop
 | .lst _=>True
 | .dK _=>True
 | .dT _=>True
 | _=>False
def cV2{X:Cx}{pins:List (Addr×Obj)}{σ:St}{H:Hp}{s:Shared}{p:Addr}{u:HO}(I:Inv X pins σ H s)(h:H p=some u)(d:Fz u):∃ o,Inv X pins σ (upd H p (.frz o u)) s:=by
 have nt:∀ b xs,H b=some (.tup xs)->b≠p:=λb xs e z=>by subst z;rw[h]at e;cases e;exact d
 have j:∀ b o x,H b=some (.frz o x)->b≠p:=λb o x e z=>by subst z;rw[h]at e;cases e;exact d
 have no:∀ b x,H b=some (.own x)->b≠p:=λb x e z=>by subst z;rw[h]at e;cases e;exact d
 have r:∀ b x,H b=some (.tbl x)->b≠p:=λb x e z=>by subst z;rw[h]at e;cases e;exact d
 have f:∀ b,H b=none->b≠p:=λb e z=>by subst z;rw[h]at e;cases e
 obtain⟨o,t⟩:∃ o,s.heap.get? p=some o:=by
  have:=I.hok p u h;have l:=this.lt;cases q:s.heap.get? p with
  | some o=>exact⟨o,rfl⟩
  | none=>
    cases u with
    | lst xs=>obtain⟨_,_,_,_,e⟩:=this;rw[q]at e;cases e
    | dK kvs=>obtain⟨_,_,_,_,ob,_,_,e,_⟩:=this;rw[q]at e;cases e
    | dT kvs=>obtain⟨_,_,_,_,ob,_,_,e,_⟩:=this;rw[q]at e;cases e
    | _=>exact d.elim
 have st:∀ a x,eV X.prog X.w H s.heap a x->eV X.prog X.w (upd H p (.frz o u)) s.heap a x:=λa x k=>
  k.stay (λ_ _ _ e=>e) (λb e=>by rw[aS (no b _ e)];exact e) λb xs e=>by rw[aS (nt b _ e)];exact e
 refine⟨o,{I with base:=?_,free:=?_,freeC:=?_,pin:=?_,hok:=?_}⟩
 ·exact⟨I.base.keep,I.base.slot,λb ob q n v=>by
    have:=I.base.free b ob q n v;rw[aS (f b this)];exact this,I.base.there,λb xs e=>by
    have:=I.base.tups b xs e;rw[aS (nt b _ this)];exact this,λb ob x e=>by
    have:=I.base.frzs b ob x e;rw[aS (j b _ _ this)];exact this,λb ps e=>by
    obtain⟨m,g⟩:=I.base.tbls b ps e;exact⟨m,by rw[aS (r b _ g)];exact g⟩⟩
 ·rw[aS (f _ I.free)];exact I.free
 ·intro x c e;rw[aS (f _ (I.freeC x c e))];exact I.freeC x c e
 ·intro q y;obtain⟨A,i,B⟩:=I.pin q y;exact⟨A,by rw[aS (f _ i)];exact i,B⟩
 ·intro a x e;by_cases ha:a=p;subst ha;rw[aY]at e;cases e;exact⟨t,st a u (I.hok a u h)⟩;rw[aS ha]at e;exact st a x (I.hok a x e)
def tFz(t:TE):TE:=λσ H Q=>t σ H λv H1=>Q v H1\/∃ p u,v=.ref p/\H1 p=some u/\Fz u/\∀ o,Q v (upd H1 p (.frz o u))
def dY4{X:Cx}{e:Expr}{t:TE}(h:PE X e t):PE X e (tFz t):=λpins s σ H Q I q=>
 thn (h pins s σ H _ I q) λu s1 ⟨v,d,b,c,a⟩=>by
  rcases a with a | ⟨p,x,j,f,g,a⟩;exact⟨v,d,b,c,a⟩;obtain⟨o,i⟩:=cV2 b f g;exact⟨v,_,i,c,a o⟩
def bS0{H:Hp}{d:D}{p:Addr}(h:gK H d p):∃ u,H p=some u/\Fz u/\∀ o H',Ext H H'->H' p=some (.frz o u)->Rp H' d (.ref p):=by
 unfold gK at h;split at h;obtain⟨xs,b,a⟩:=h;exact⟨_,b,True.intro,λo H' x e=>.lst e (a.mono x)⟩
 ·obtain⟨u,ws,b,a,c⟩:=h;refine⟨u,b,?_,λo H' x e=>.dic e a (c.mono x)⟩;cases u with
  | dK _=>exact True.intro
  | dT _=>exact True.intro
  | _=>exact a.elim
 ·exact h.elim
def bS1{H:Hp}{p:Addr}{u:HO}{o:Obj}(h:H p=some u)(a:Fz u):Ext H (upd H p (.frz o u)):=
 ⟨λb xs e=>by rw[aS (λz=>by subst z;rw[h]at e;cases e;exact a)];exact e,λb ob x e=>by rw[aS (λz=>by subst z;rw[h]at e;cases e;exact a)];exact e⟩
noncomputable def eC1(σ:Sg):Res->Option (D×Sg)
 | .val d=>some (d,σ)
 | .own d=>some (d,σ)
 | .slot i=>match σ[i]? with
   | some (some s)=>if s.m=.own then some (s.d,σ.set i (some ⟨.val,s.d⟩))else if s.m=.val then some (s.d,σ)else none
   | _=>none
noncomputable def dFz(r:DE):DE:=λσ=>(r σ).bind λx=>(eC1 x.2 x.1).bind λy=>some (.val y.1,y.2)
def cP{α:Type}{l:List α}{i j:Nat}{x y:α}(h:(l.set i x)[j]? = some y):(j=i/\y=x/\i < l.length)\/(j≠i/\l[j]? = some y):=by
 rw[List.getElem?_set]at h;split at h;rename_i e;split at h;cases h;exact .inl ⟨e.symm,rfl,by assumption⟩;cases h;rename_i e;exact .inr ⟨λz=>e z.symm,h⟩
def bW{X:Cx}{e:Expr}{r:DE}(h:GE X e r):GE X e (dFz r):=.mk λΓ=>peW (dY4 (h.to Γ)) λσV H Q ⟨σ,ok,res,σ',e,k⟩=>by
 obtain⟨⟨x,σ1⟩,W,e⟩:=aE e;obtain⟨⟨d,M⟩,C,e⟩:=aE e;cases e;refine⟨σ,ok,x,σ1,W,λv T b A c Y=>?_⟩;dsimp only at C;cases x with
 | val d'=>cases C;exact .inl (k v T b A c jF)
 | own d'=>
   cases C;obtain⟨p,rfl,N,Z,h3⟩:=A;obtain⟨u,G,I,O⟩:=bS0 N;have hn:H p=none:=Y _ p rfl rfl;refine .inr ⟨p,u,rfl,G,I,λo=>?_⟩;have x:=bS1 (o:=o) G I;refine k _ _ ⟨λi s e=>?_,b.dis,b.own,b.par,λa ob e n=>?_,λa e=>?_,b.len⟩ (O o _ x aY) ⟨λa ob e n=>?_,λa e=>?_,c.mu,c.nv,c.kp,c.fix,c.lt⟩ jF;obtain⟨w,D,B⟩:=b.rel i s e;refine⟨w,D,B.mono x λq ob P m C=>?_⟩;rw[aS (λz=>Z ⟨i,s,e,m,by rw[D,P,z]⟩)];exact C;rw[aS (λz=>by subst z;rw[h3]at e;cases e)];exact b.keep a ob e n;by_cases z:a=p;subst z;rw[aY]at e;cases e;rw[aS z]at e;exact b.dom a e;rw[aS (λz=>by subst z;rw[hn]at e;cases e)];exact c.fr a ob e n;by_cases z:a=p;subst z;rw[aY]at e;cases e;rw[aS z]at e;exact c.dom a e
 | slot i=>
   obtain⟨A,s,E⟩:=A;have g:(match σ1[i]? with | some (some s)=>if s.m=.own then some (s.d,σ1.set i (some ⟨.val,s.d⟩))else if s.m=.val then some (s.d,σ1)else none | _=>none)=some (d,M):=C;rw[E]at g;dsimp only at g;obtain⟨w,D,B⟩:=b.rel i s E;rw[A]at D;cases D;split at g
   ·rename_i hm;cases g;obtain⟨m,d⟩:=s;cases hm;obtain⟨p,rfl,N⟩:=(eP (s:=⟨.own,d⟩) (λz=>nomatch z)).mp B;obtain⟨u,G,I,O⟩:=bS0 N;refine .inr ⟨p,u,rfl,G,I,λo=>?_⟩;have x:=bS1 (o:=o) G I;have U:=O o _ x aY;have il:i < σ1.length:=(a2a.mp E).1;have pm:sV σ1 σV p:=⟨i,_,E,rfl,A⟩;have sub:∀ (j:Nat) t,(σ1.set i (some ⟨.val,d⟩))[j]? = some (some t)->t.m≠.val->j≠i/\σ1[j]? = some (some t):=λj t f hm=>by
     rcases cP f with⟨_,z,_⟩ | z;cases z;exact absurd rfl hm;exact z
    have J:∀ t:Sl,t.m.mt=true->t.m≠.val:=λt h z=>by rw[z]at h;cases h
    refine k _ _ ⟨λj t f=>?_,λj l t F q n f el m V=>?_,λj t q f m=>?_,λj t q f m=>?_,λa ob e n=>?_,λa e=>?_,?_⟩ U
     ⟨λa ob e n=>?_,λa e=>?_,λa ⟨j,t,f,m,R⟩=>?_,λa ⟨j,t,f,m,R⟩=>?_,λj t f=>?_,λj t f m=>?_,λj t f m=>c.lt j t (sub j t f (by rw[m];exact λz=>nomatch z)).2 m⟩ jF
    ·rcases cP f with⟨z,L,_⟩ | ⟨z,L⟩;cases L;rw[z];exact⟨_,A,U⟩;obtain⟨w,D,S⟩:=b.rel j t L;refine⟨w,D,S.mono x λq ob P m C=>?_⟩;rw[aS (λy=>b.dis i j _ t p (a4e z) E L rfl m A (by rw[D,P,y]))];exact C
    ·exact b.dis j l t F q n (sub j t f (J t m)).2 (sub l F el V).2 m V
    ·exact b.own j t q (sub j t f (by rw[m];exact λz=>nomatch z)).2 m
    ·exact b.par j t q (sub j t f (by rw[m];exact λz=>nomatch z)).2 m
    ·have hp:=b.own i _ p E rfl A;rw[aS (λz=>by subst z;rw[hp]at e;cases e)];exact b.keep a ob e n
    ·by_cases z:a=p;subst z;rw[aY]at e;cases e;rw[aS z]at e;exact b.dom a e
    ·rw[a1g];exact b.len
    ·by_cases z:a=p;subst z;rcases c.mu a pm with y | y;exact absurd y n;rw[e]at y;cases y;rw[aS z];exact c.fr a ob e n
    ·by_cases z:a=p;subst z;rw[aY]at e;cases e;rw[aS z]at e;exact c.dom a e
    ·exact c.mu a ⟨j,t,(sub j t f (J t m)).2,m,R⟩
    ·exact c.nv a ⟨j,t,(sub j t f m).2,m,R⟩
    ·obtain⟨F,K⟩:=c.kp j t f;by_cases z:j=i;subst z;exact⟨_,by rw[a8c il]⟩;exact⟨F,by rw[a1b (a4e z)];exact K⟩
    ·obtain⟨F,K,h⟩:=c.fix j t f m;refine⟨F,?_,h⟩;rw[a1b (λz=>?_)];exact K;subst z;rw[E]at K;cases K;rcases m with m | m;have:=h.1;rw[m]at this;cases this;have:=h.1;rw[m]at this;cases this
   ·split at g;rename_i hm;cases g;obtain⟨m,d⟩:=s;cases hm;exact .inl (k v T b B c jF);cases g
noncomputable def aP:DA:=λσ=>some ([],σ)
noncomputable def aC(r:DE)(rs:DA):DA:=λσ=>(r σ).bind λx=>(rs x.2).bind λy=>some (x.1::y.1,y.2)
noncomputable def rds(σ:Sg):List Res->Option (List D)
 | []=>some []
 | r::rs=>(rd σ r).bind λd=>(rds σ rs).bind λa=>some (d::a)
noncomputable def vals:List Res->Option (List D)
 | []=>some []
 | .val d::rs=>(vals rs).bind λa=>some (d::a)
 | _=>none
theorem tY{Γ:Gm}{H:Hp}{σ:Sg}{σV:St}(ok:StOk Γ H σ σV):∀ {rs:List Res} {vs:List V} {a:List D},ResOks Γ H σ σV rs vs->rds σ rs=some a->Vws H a vs
 | _,_,_,.nil,e=>by cases e;exact .nil
 | _,_,_,.cons h t _,e=>by
   obtain⟨d,b,e⟩:=aE e;obtain⟨a,c,e⟩:=aE e;cases e;exact .cons (h.vw ok b) (tY ok t c)
theorem qE{Γ:Gm}{H:Hp}{σ:Sg}{σV:St}:∀ {rs:List Res} {vs:List V} {a:List D},ResOks Γ H σ σV rs vs->vals rs=some a->Rps H a vs
 | _,_,_,.nil,e=>by cases e;exact .nil
 | .val d::_,_,_,.cons h t _,e=>by
   obtain⟨a,b,e⟩:=aE e;cases e;exact .cons h (qE t b)
 | .own d::_,_,_,.cons h t _,e=>by cases e
 | .slot d::_,_,_,.cons h t _,e=>by cases e
section
variable{X:Cx}{e:Expr}{es:List Expr}{r:DE}{rs:DA}{pos:Pos}
def aF:GA X [] aP:=.mk λΓ=>paW gS λσV H Q ⟨σ,ok,res,σ',e,k⟩=>by
 cases e;exact k [] H ok .nil .refl (λj d p e=>by simp at e)
def aB(ha:GE X e r)(n:GA X es rs)(s:starEach (e::es) X.env=(false,eval e X.env)::starEach es X.env:=by kernel_rfl):GA X (e::es) (aC r rs):=.mk λΓ=>paW (cD (ha.to Γ) (n.to Γ) s) λσV H Q ⟨σ,ok,res,σ',e,k⟩=>by
 obtain⟨⟨x,a⟩,t,e⟩:=aE e;obtain⟨⟨ys,u⟩,w,e⟩:=aE e;cases e;refine⟨σ,ok,x,a,t,λv G b l c y=>⟨a,b,ys,_,w,λvs z i A f m=>?_⟩⟩;refine k (v::vs) z i (.cons (l.step b f) A λd p g h j d' B C=>?_) (c.trans f) λj d p g h=>?_;subst g h;obtain⟨q,D,E,_⟩:=l;cases D;obtain⟨o,F,_⟩:=E.obj;have:=m j d' p B C;rw[F]at this;cases this;cases j with
 | zero=>simp at g h;subst g h;exact y d p rfl rfl
 | succ j=>exact c.dom p (m j d p (by simpa using g) (by simpa using h))
noncomputable def dCB(f:FN)(a:DA):DE:=λσ=>(a σ).bind λx=>(rds x.2 x.1).bind λb=>(f b).bind λr=>some (r,x.2)
def cJ{c:List V->Hp->VK->Prop}{f:FN}{d:DA}(j:bL7 c f)(h:∀ Γ,PE X e (tCB c (dTA Γ d))):GE X e (dCB f d):=.mk λΓ=>peW (h Γ) λσV H Q ⟨σ,ok,res,σ',e,k⟩=>by
 obtain⟨⟨x,l⟩,m,e⟩:=aE e;obtain⟨n,o,e⟩:=aE e;obtain⟨r,p,e⟩:=aE e;cases e;refine⟨σ,ok,x,_,m,λvs q a s b t=>?_⟩;refine j q n vs Q _ (tY a s o) p λv H' g i=>?_;exact k v H' (a.same g) (i.res a) (b.trans (.same g)) (i.frh.back b)
noncomputable def qY(b:DA):DE:=λσ=>(b σ).bind λx=>(vals x.1).bind λa=>if a.length<=sizeLine then some (.val (.tup a),x.2)else none
noncomputable def kI(b:DA):DE:=λσ=>(b σ).bind λx=>(vals x.1).bind λa=>if a.length<=sizeLine then some (.own (.lst a),x.2)else none
def iL{g}(h:GA X es rs):GE X (.Tuple es g pos) (qY rs):=.mk λΓ=>peW (dH2 (h.to Γ)) λσV H Q ⟨σ,ok,res,σ',e,k⟩=>by
 obtain⟨⟨x,i⟩,j,e⟩:=aE e;obtain⟨q,l,e⟩:=aE e;dsimp only at e;split at e;rename_i m;cases e;refine⟨σ,ok,x,_,j,λvs d a n b r=>?_⟩;have f:=qE n l;refine⟨by rw[← f.length];exact m,λp o=>?_⟩;have c:aT2 d (upd d p (.tup vs)):=cH o;exact k _ _ (a.same c) (.tup aY (f.mono (.same c))) (b.trans (.same c)) jF;cases e
def eB(h:GA X es rs):GE X (.List es pos) (kI rs):=.mk λΓ=>peW (cL4 (h.to Γ)) λσV H Q ⟨σ,ok,res,σ',e,k⟩=>by
 obtain⟨⟨x,j⟩,l,e⟩:=aE e;obtain⟨m,n,e⟩:=aE e;dsimp only at e;split at e;rename_i o;cases e;refine⟨σ,ok,x,_,l,λvs c a q b r=>?_⟩;have f:=qE q n;refine⟨by rw[← f.length];exact o,λp g=>?_⟩;have d:aT2 c (upd c p (.lst vs)):=cH g;have i:aU9 c (upd c p (.lst vs)) (.own (.lst m)) (.ref p):=⟨p,rfl,g,vs,aY,f.mono (.same d)⟩;exact k _ _ (a.same d) (i.res a) (b.trans (.same d)) (i.frh.back b);cases e
end
section
variable{Γ:Gm}{H:Hp}{σ:Sg}{σV:St}{i:Nat}{s:Sl}{p:Addr}{o':HO}{d':D}
def StOk.ownAt(ok:StOk Γ H σ σV)(a:σ[i]? = some (some s))(hm:s.m≠.val):∃ p,σV[i]? = some (some (.ref p))/\gK H s.d p:=by
 obtain⟨v,e,r⟩:=ok.rel i s a;obtain⟨p,rfl,b⟩:=(eP hm).mp r;exact⟨p,e,b⟩
def kJ{m:Md}(h:m.mt=true):m≠.val:=λz=>by rw[z]at h;cases h
def gK.ext{d:D}(h:gK H d p):Ext H (upd H p o'):=by
 obtain⟨o,e,n1,n2⟩:=h.obj;exact⟨λb xs q=>by rw[aS (λz=>by subst z;rw[e]at q;cases q;exact n1 _ rfl)];exact q,λb ob x q=>by rw[aS (λz=>by subst z;rw[e]at q;cases q;exact n2 _ _ rfl)];exact q⟩
def StOk.write(ok:StOk Γ H σ σV)(g:σ[i]? = some (some s))(hm:s.m.mt=true)(k:σV[i]? = some (some (.ref p)))(ow:gK (upd H p o') d' p) :
  StOk Γ (upd H p o') (σ.set i (some ⟨s.m,d'⟩)) σV/\Step σ σV H (σ.set i (some ⟨s.m,d'⟩)) σV (upd H p o'):=by
 obtain⟨L,A,r⟩:=ok.ownAt g (kJ hm);rw[k]at A;cases A;have x:Ext H (upd H p o'):=r.ext;have B:i < σ.length:=(a2a.mp g).1;have back:∀ (j:Nat) t,(σ.set i (some ⟨s.m,d'⟩))[j]? = some (some t)->∃ t',σ[j]? = some (some t')/\t'.m=t.m:=λj t b=>by
  rcases cP b with⟨z,h,_⟩ | ⟨z,h⟩;cases h;subst z;exact⟨s,g,rfl⟩;exact⟨t,h,rfl⟩
 refine⟨⟨λj t b=>?_,λj l t t' q n b D m E=>?_,λj t q b m=>?_,λj t q b m=>?_,λa ob e n=>?_,λa e=>?_,by rw[a1g];exact ok.len⟩,
  ⟨λa ob e n=>?_,λa e=>?_,λa ⟨j,t,b,m,u⟩=>?_,λa ⟨j,t,b,m,u⟩=>?_,λj t b=>?_,λj t b m=>?_,λj t b m=>?_⟩⟩
 ·rcases cP b with⟨z,h,_⟩ | ⟨z,h⟩;cases h;subst z;exact⟨_,k,(eP (s:=⟨s.m,d'⟩) (kJ hm)).mpr ⟨p,rfl,ow⟩⟩;obtain⟨w,C,v⟩:=ok.rel j t h;refine⟨w,C,v.mono x λq ob F m G=>?_⟩;rw[aS (λy=>ok.dis i j _ t p (a4e z) g h hm m k (by rw[C,F,y]))];exact G
 ·obtain⟨c,d,f⟩:=back j t b;obtain⟨I,J,K⟩:=back l t' D;exact ok.dis j l c I q n d J (by rw[f];exact m) (by rw[K];exact E)
 ·obtain⟨c,d,f⟩:=back j t b;exact ok.own j c q d (f.trans m)
 ·obtain⟨c,d,f⟩:=back j t b;exact ok.par j c q d (f.trans m)
 ·have:a≠p:=λz=>by
   subst z;cases o:s.m with
   | own=>rw[ok.own i s a g o k]at e;cases e
   | par=>exact n (ok.par i s a g o k)
   | val=>rw[o]at hm;cases hm
   | lent=>rw[o]at hm;cases hm
  rw[aS this];exact ok.keep a ob e n
 ·by_cases z:a=p;subst z;rw[aY]at e;cases e;rw[aS z]at e;exact ok.dom a e
 ·rw[aS (λz=>n ⟨i,s,g,hm,by rw[z];exact k⟩)];exact e
 ·by_cases z:a=p;subst z;rw[aY]at e;cases e;rw[aS z]at e;exact e
 ·obtain⟨c,d,f⟩:=back j t b;exact .inl ⟨j,c,d,by rw[f];exact m,u⟩
 ·obtain⟨c,d,f⟩:=back j t b;exact .inl ⟨j,c,d,by rw[f];exact m,u⟩
 ·by_cases z:j=i;subst z;exact⟨_,by rw[a8c B]⟩;exact⟨t,by rw[a1b (a4e z)];exact b⟩
 ·by_cases z:j=i;subst z;rw[g]at b;cases b;exact⟨⟨s.m,d'⟩,by rw[a8c B],rfl,λq=>(by rw[q]at hm;cases hm),rfl⟩;exact⟨t,by rw[a1b (a4e z)];exact b,rfl,λ_=>rfl,rfl⟩
 ·obtain⟨c,d,f⟩:=back j t b;exact⟨c,d,f.trans m⟩
end
abbrev FM:=D->List D->Option (D×D)
def dY5(r:V->List V->Hp->VK->Prop)(f:FM):Prop:=∀ H d p a vs Q d' e,gK H d p->Rps H a vs->f d a=some (d',e)->(∀ o' v,gK (upd H p o') d' p->Rp (upd H p o') e v->Q v (upd H p o'))->r (.ref p) vs H Q
def eC2(r:V->List V->Hp->VK->Prop)(f:FM):Prop:=∀ H d p a vs Q d' e,gK H d p->Vws H a vs->f d a=some (d',e)->(∀ o' v,gK (upd H p o') d' p->Rp (upd H p o') e v->Q v (upd H p o'))->r (.ref p) vs H Q
noncomputable def cB0(f:FM)(i:Nat)(a:List D)(σ:Sg):Option (Res×Sg):=match σ[i]? with
 | some (some s)=>if s.m.mt=true then(f s.d a).bind λy=>some (.val y.2,σ.set i (some ⟨s.m,y.1⟩))else none
 | _=>none
noncomputable def tyD(T:String):D->Bool
 | .lst _=>T=="list"
 | .dic _ _=>T=="dict"
 | _=>false
noncomputable def aT3(T:String)(i:Nat)(σ:Sg):Bool:=match σ[i]? with
 | some (some s)=>decide (s.m≠.val)&&tyD T s.d
 | _=>false
noncomputable def lM(T:String)(i:Nat)(f:FM)(a:DA):DE:=λσ=>if aT3 T i σ=true then(a σ).bind λx=>(vals x.1).bind λb=>cB0 f i b x.2 else none
noncomputable def rD(T:String)(i:Nat)(f:FM)(a:DA):DE:=λσ=>if aT3 T i σ=true then(a σ).bind λx=>(rds x.2 x.1).bind λb=>cB0 f i b x.2 else none
noncomputable def dL1(T:String)(i:Nat)(f:FM):DE:=λσ=>if aT3 T i σ=true then cB0 f i [] σ else none
def dL2{K:W.Frag}{T:String}{H:Hp}{d:D}{p:Addr}(h:gK H d p)(e:tyD T d=true):tyV K T (.ref p) H:=by
 unfold gK at h;split at h;obtain⟨xs,a,_⟩:=h;exact .inl ⟨by simpa[tyD]using e,xs,SqL.of a⟩
 ·obtain⟨u,ws,a,b,_⟩:=h;refine .inr (.inr (.inl ⟨by simpa[tyD]using e,?_⟩));cases u with
  | dK kvs=>exact .inl ⟨kvs,a⟩
  | dT kvs=>exact .inr ⟨kvs,a⟩
  | _=>exact b.elim
 ·exact h.elim
def lN{f:FM}{i:Nat}{a:List D}{σ σ':Sg}{res:Res}(h:cB0 f i a σ=some (res,σ')):∃ s d' e,σ[i]? = some (some s)/\s.m.mt=true/\f s.d a=some (d',e)/\res=.val e/\σ'=σ.set i (some ⟨s.m,d'⟩):=by
 unfold cB0 at h;split at h;rename_i s b;split at h;rename_i hm;obtain⟨⟨d',e⟩,c,g⟩:=aE h;cases g;exact⟨s,d',e,b,hm,c,rfl,rfl⟩;cases h;cases h
def aG8{T:String}{i:Nat}{σ:Sg}(h:aT3 T i σ=true):∃ s,σ[i]? = some (some s)/\s.m≠.val/\tyD T s.d=true:=by
 unfold aT3 at h;split at h;rename_i s a;rw[a2f,a4D]at h;exact⟨s,a,h.1,h.2⟩;cases h
section
variable{X:Cx}{e:Expr}{ra:DA}{K:W.Frag}{T:String}{r:V->List V->Hp->VK->Prop}{f:FM}{i:Nat}
def jX(z:dY5 r f)(h:∀ Γ,PE X e (tBM K T r (cB5 i) (dTA Γ ra))):GE X e (lM T i f ra):=.mk λΓ=>peW (h Γ) λσV H Q ⟨σ,ok,res,σ',e,k⟩=>by
 unfold lM at e;split at e;rename_i hn;obtain⟨⟨x,c⟩,A,e⟩:=aE e;obtain⟨B,C,e⟩:=aE e;obtain⟨s,d',y,w,hm,D,rfl,rfl⟩:=lN e;obtain⟨J,g,j,l⟩:=aG8 hn;obtain⟨p,m,E⟩:=ok.ownAt g j;refine⟨_,m,dL2 E l,σ,ok,x,c,A,λvs F a G n L=>?_⟩;obtain⟨M,b,o⟩:=a.ownAt w (kJ hm);rw[m]at b;cases b;refine z F s.d p B vs Q d' y o (qE G C) D λo' v q I=>?_;obtain⟨t,u⟩:=a.write w hm m q;exact k v _ t I (n.trans u) jF;cases e
def rE(z:eC2 r f)(h:∀ Γ,PE X e (tBM K T r (cB5 i) (dTA Γ ra))):GE X e (rD T i f ra):=.mk λΓ=>peW (h Γ) λσV H Q ⟨σ,ok,res,σ',e,k⟩=>by
 unfold rD at e;split at e;rename_i hn;obtain⟨⟨x,c⟩,A,e⟩:=aE e;obtain⟨B,C,e⟩:=aE e;obtain⟨s,d',y,w,hm,D,rfl,rfl⟩:=lN e;obtain⟨J,g,j,l⟩:=aG8 hn;obtain⟨p,m,E⟩:=ok.ownAt g j;refine⟨_,m,dL2 E l,σ,ok,x,c,A,λvs F a G n L=>?_⟩;obtain⟨M,b,o⟩:=a.ownAt w (kJ hm);rw[m]at b;cases b;refine z F s.d p B vs Q d' y o (tY a G C) D λo' v q I=>?_;obtain⟨t,u⟩:=a.write w hm m q;exact k v _ t I (n.trans u) jF;cases e
end
inductive Out where
 | nx (σ:Sg) | rt (r:Res) (σ:Sg) | bk (σ:Sg) | ct (σ:Sg) | ex (c:Str) (f:Option (Str×D)) (σ:Sg)
abbrev DS:=Sg->Option Out
structure Ex where
 ok:Hp->Str->Option (Str×D)->Value->Option Addr->Prop
 to:St->XK
noncomputable def Ex.no:Ex:=⟨λ_ _ _ _ _=>False,λ_ _ _ _=>False⟩
def bS2(Γ:Gm)(E:Ex)(σ:Sg)(σV:St)(H:Hp)(o:Out)(D:Ends):Prop:=match o with
 | .nx σ'=>∀ σV' H',StOk Γ H' σ' σV'->Step σ σV H σ' σV' H'->D.nx σV' H'
 | .rt r σ'=>∀ v σV' H',StOk Γ H' σ' σV'->mS Γ H' σ' σV' r v->Step σ σV H σ' σV' H'->D.rt v H'
 | .bk σ'=>∀ σV' H',StOk Γ H' σ' σV'->Step σ σV H σ' σV' H'->D.bk σV' H'
 | .ct σ'=>∀ σV' H',StOk Γ H' σ' σV'->Step σ σV H σ' σV' H'->D.ct σV' H'
 | .ex c f σ'=>∀ x d σV' H',StOk Γ H' σ' σV'->E.ok H' c f x d->Step σ σV H σ' σV' H'->E.to σV' x d H'
def dTS(Γ:Gm)(E:Ex)(r:DS):TS:=λD σV H=>∃ σ,StOk Γ H σ σV/\∃ o,r σ=some o/\bS2 Γ E σ σV H o D
structure GS(E:Ex)(X:Cx)(s:Stmt)(r:DS):Prop where
 to:∀ Γ,PS X s (dTS Γ E r)
structure GSs(E:Ex)(X:Cx)(s:List Stmt)(r:DS):Prop where
 to:∀ Γ,PSs X s (dTS Γ E r)
def bS2.after{Γ:Gm}{E:Ex}{σ b:Sg}{σV a:St}{H e:Hp}{o:Out}{D:Ends}(h:bS2 Γ E σ σV H o D)(st:Step σ σV H b a e):bS2 Γ E b a e o D:=by
 cases o with
 | nx σ'=>exact λσV' H' ok s=>h σV' H' ok (st.trans s)
 | rt r σ'=>exact λv σV' H' ok q s=>h v σV' H' ok q (st.trans s)
 | bk σ'=>exact λσV' H' ok s=>h σV' H' ok (st.trans s)
 | ct σ'=>exact λσV' H' ok s=>h σV' H' ok (st.trans s)
 | ex c f σ'=>exact λx d σV' H' ok q s=>h x d σV' H' ok q (st.trans s)
noncomputable def fM:DS:=λσ=>some (.nx σ)
noncomputable def bL(a b:DS):DS:=λσ=>(a σ).bind λo=>match o with
 | .nx c=>b c
 | o=>some o
noncomputable def iM(r:DE):DS:=λσ=>(r σ).bind λx=>some (.nx x.2)
noncomputable def gQ(r:DE):DS:=λσ=>(r σ).bind λx=>some (.rt x.1 x.2)
noncomputable def dY6:DS:=λσ=>some (.rt (.val .non) σ)
noncomputable def mB(c:DT)(a b:DS):DS:=λσ=>(c σ).bind λx=>if x.1=true then a x.2 else b x.2
section
variable{X:Cx}{E:Ex}{st:Stmt}{mL:List Stmt}{a b:DS}{pos:Pos}{e:Expr}{r:DE}
def dY:GSs E X [] fM:=.mk λΓ=>dK8 tM λD σV H ⟨σ,ok,o,e,k⟩=>by
 cases e;exact k σV H ok .refl
def aK(h:GS E X st a):GSs E X [st] a:=.mk λΓ=>mP (h.to Γ)
def cE0{Γ:Gm}{E:Ex}{D:Ends}{σV:St}{H:Hp}(h:dTS Γ E (bL a b) D σV H):dU1 (dTS Γ E a) (dTS Γ E b) D σV H:=by
 obtain⟨σ,ok,o,e,k⟩:=h;obtain⟨j,m,e⟩:=aE e;refine⟨σ,ok,j,m,?_⟩;cases j with
 | nx d=>exact λl n g i=>⟨d,g,o,e,k.after i⟩
 | rt r σ'=>cases e;exact k
 | bk σ'=>cases e;exact k
 | ct σ'=>cases e;exact k
 | ex c f σ'=>cases e;exact k
def aG(c:GS E X st a)(d:GSs E X mL b):GSs E X (st::mL) (bL a b):=.mk λΓ=>dK8 (jB (c.to Γ) (d.to Γ)) λ_ _ _=>cE0
def gL(d:GE X e r)(f:swapsWith e none pos.line X.env=pure false:=by rfl):GS E X (.Expr e pos) (iM r):=.mk λΓ=>psW (aF3 (d.to Γ) f) λD σV H ⟨σ,ok,o,e,k⟩=>by
 obtain⟨⟨x,a⟩,g,e⟩:=aE e;cases e;exact⟨σ,ok,x,a,g,λv h b i c _=>k σV h b c⟩
def bP(d:GE X e r):GS E X (.Return (some e) pos) (gQ r):=.mk λΓ=>psW (cL1 (d.to Γ)) λD σV H ⟨σ,ok,o,e,k⟩=>by
 obtain⟨⟨x,a⟩,f,e⟩:=aE e;cases e;exact⟨σ,ok,x,a,f,λv g b h c _=>k v σV g b h c⟩
def jH{c:Expr}{l m:List Stmt}{t:DT}(i:GT X c t)(ha:GSs E X l a)(j:GSs E X m b):GS E X (.If c l m pos) (mB t a b):=.mk λΓ=>psW (bG6 (i.to Γ) (ha.to Γ) (j.to Γ)) λD σV H ⟨σ,ok,o,e,k⟩=>by
 obtain⟨⟨x,d⟩,n,e⟩:=aE e;refine⟨σ,ok,x,d,n,λp f g=>?_⟩;dsimp only at e;split at e;rename_i h;rw[a4y h];exact⟨d,f,o,e,k.after g⟩;rename_i h;rw[a4z h];exact⟨d,f,o,e,k.after g⟩
end
noncomputable def iE(σ:Sg)(i:Nat):Bool:=match σ[i]? with
 | some none=>true
 | some (some s)=>decide (s.m=.val)||decide (s.m=.own)
 | none=>false
def qF{σ:Sg}{i:Nat}(h:iE σ i=true):i < σ.length:=by
 unfold iE at h;split at h;rename_i e;exact(a2a.mp e).1;rename_i e;exact(a2a.mp e).1;cases h
def cE1{σ:Sg}{i:Nat}{s:Sl}(h:iE σ i=true)(a:σ[i]? = some (some s)):s.m=.val\/s.m=.own:=by
 unfold iE at h;rw[a]at h;simpa using h
section
variable{Γ:Gm}{H H0:Hp}{σ σ0:Sg}{σV σV0:St}{i:Nat}{d:D}{v:V}
def StOk.put(ok:StOk Γ H σ σV)(k:iE σ i=true)(r:Rp H d v):StOk Γ H (σ.set i (some ⟨.val,d⟩)) (σV.set i (some v)) where
 rel:=λj t c=>by
  rcases cP c with⟨z,a,_⟩ | ⟨z,a⟩;cases a;subst z;exact⟨v,by rw[a8c (by rw[← ok.len];exact qF k)],r⟩;obtain⟨w,o,f⟩:=ok.rel j t a;exact⟨w,by rw[a1b (a4e z)];exact o,f⟩
 dis:=λj l t p q n c s m h b e=>by
  rcases cP c with⟨z,a,_⟩ | ⟨z,a⟩;cases a;cases m;rcases cP s with⟨y,g,_⟩ | ⟨y,g⟩;cases g;exact h rfl;rw[a1b (a4e z)]at b;rw[a1b (a4e y)]at e;exact ok.dis j l t p q n a g m h b e
 own:=λj t q c m b=>by
  rcases cP c with⟨z,a,_⟩ | ⟨z,a⟩;cases a;cases m;rw[a1b (a4e z)]at b;exact ok.own j t q a m b
 par:=λj t q c m b=>by
  rcases cP c with⟨z,a,_⟩ | ⟨z,a⟩;cases a;cases m;rw[a1b (a4e z)]at b;exact ok.par j t q a m b
 keep:=ok.keep
 dom:=ok.dom
 len:=by rw[a1g,a1g];exact ok.len
def Step.put(st:Step σ0 σV0 H0 σ σV H)(u:iE σ i=true)(m:Md)(hm:m=.val\/m=.own/\∀ p,v=.ref p->H0 p=none):Step σ0 σV0 H0 (σ.set i (some ⟨m,d⟩)) (σV.set i (some v)) H:=by
 have b:m≠.lent:=by rcases hm with rfl | ⟨rfl,_⟩<;>exact λz=>nomatch z
 have w:=qF u;have h:∀ t,σ[i]? = some (some t)->t.m≠.par/\t.m≠.lent:=λt e=>by
  rcases cE1 u e with z | z<;>(rw[z];exact⟨(λy=>by cases y),(λy=>by cases y)⟩)
 refine⟨st.fr,st.dom,λa ⟨j,t,f,mt,g⟩=>?_,λa ⟨j,t,f,nv,g⟩=>?_,λj t f=>?_,λj t f k=>?_,λj t f k=>?_⟩
 ·rcases cP f with⟨z,c,_⟩ | ⟨z,c⟩;cases c;subst z;rcases hm with rfl | ⟨_,q⟩;cases mt;have:=a2a.mp g;obtain⟨x,l⟩:=this;rw[List.getElem_set_self]at l;exact .inr (q a (a0b l));rw[a1b (a4e z)]at g;exact st.mu a ⟨j,t,c,mt,g⟩
 ·rcases cP f with⟨z,c,_⟩ | ⟨z,c⟩;cases c;subst z;rcases hm with rfl | ⟨_,q⟩;exact absurd rfl nv;have:=a2a.mp g;obtain⟨x,l⟩:=this;rw[List.getElem_set_self]at l;exact .inr (q a (a0b l));rw[a1b (a4e z)]at g;exact st.nv a ⟨j,t,c,nv,g⟩
 ·obtain⟨n,o⟩:=st.kp j t f;by_cases z:j=i;subst z;exact⟨_,by rw[a8c w]⟩;exact⟨n,by rw[a1b (a4e z)];exact o⟩
 ·obtain⟨n,o,r,A,B⟩:=st.fix j t f k;have z:j≠i:=λz=>by
   subst z;obtain⟨n1,n2⟩:=h n o;rcases k with s | s;exact n1 (r.trans s);exact n2 (r.trans s)
  exact⟨n,by rw[a1b (a4e z)];exact o,r,A,by rw[a1b (a4e z)];exact B⟩
 ·rcases cP f with⟨z,c,_⟩ | ⟨z,c⟩;cases c;exact absurd k b;exact st.lt j t c k
def StOk.putOwn{p:Addr}(ok:StOk Γ H σ σV)(g:iE σ i=true)(ow:gK H d p)(hn:¬ cA9 σ σV p)(h0:Γ.H₀ p=none):StOk Γ H (σ.set i (some ⟨.own,d⟩)) (σV.set i (some (.ref p))) where
 rel:=λj t e=>by
  rcases cP e with⟨z,c,_⟩ | ⟨z,c⟩;cases c;subst z;exact⟨.ref p,by rw[a8c (by rw[← ok.len];exact qF g)],p,rfl,ow⟩;obtain⟨w,u,h⟩:=ok.rel j t c;exact⟨w,by rw[a1b (a4e z)];exact u,h⟩
 dis:=λj l t k q n e o m r a b=>by
  have s:i < σV.length:=by rw[← ok.len];exact qF g
  rcases cP e with⟨z,c,_⟩ | ⟨z,c⟩;subst z;rw[a8c s]at a;have a:=a0b (a0b a);cases a;rcases cP o with⟨y,f,_⟩ | ⟨y,f⟩;exact n y.symm;rw[a1b (a4e y)]at b;exact hn ⟨l,k,f,r,b⟩;rw[a1b (a4e z)]at a;rcases cP o with⟨y,f,_⟩ | ⟨y,f⟩;subst y;rw[a8c s]at b;have b:=a0b (a0b b);cases b;exact hn ⟨j,t,c,kJ m,a⟩;rw[a1b (a4e y)]at b;exact ok.dis j l t k q n c f m r a b
 own:=λj t q e m a=>by
  rcases cP e with⟨z,c,_⟩ | ⟨z,c⟩;subst z;rw[a8c (by rw[← ok.len];exact qF g)]at a;have a:=a0b (a0b a);cases a;exact h0;rw[a1b (a4e z)]at a;exact ok.own j t q c m a
 par:=λj t q e m a=>by
  rcases cP e with⟨z,c,_⟩ | ⟨z,c⟩;cases c;cases m;rw[a1b (a4e z)]at a;exact ok.par j t q c m a
 keep:=ok.keep
 dom:=ok.dom
 len:=by rw[a1g,a1g];exact ok.len
end
noncomputable def dU8(i:Nat)(r:Res)(σ:Sg):Option Sg:=match r with
 | .val d=>if iE σ i=true then some (σ.set i (some ⟨.val,d⟩))else none
 | .own d=>if iE σ i=true then some (σ.set i (some ⟨.own,d⟩))else none
 | .slot _=>none
noncomputable def cG(i:Nat)(r:DE):DS:=λσ=>(r σ).bind λx=>(dU8 i x.1 x.2).bind λa=>some (.nx a)
def bC7{Γ:Gm}{E:Ex}{i:Nat}{r:DE}{D:Ends}{σV:St}{H:Hp}(h:dTS Γ E (cG i r) D σV H):dTE Γ r σV H (λx n=>D.nx (σV.set i (some x)) n):=by
 obtain⟨σ,ok,o,e,k⟩:=h;obtain⟨⟨x,b⟩,s,e⟩:=aE e;obtain⟨c,m,e⟩:=aE e;cases e;refine⟨σ,ok,x,b,s,λv n f q g t=>?_⟩;cases x with
 | val d=>
   have a:(if iE b i=true then some (b.set i (some ⟨.val,d⟩))else none)=some c:=m;split at a;rename_i l;cases a;exact k _ _ (f.put l q) (g.put l .val (.inl rfl));cases a
 | own d=>
   have a:(if iE b i=true then some (b.set i (some ⟨.own,d⟩))else none)=some c:=m;split at a;rename_i l;cases a;obtain⟨p,rfl,u,w,y⟩:=q;exact k _ _ (f.putOwn l u w y) (g.put l .own (.inr ⟨rfl,λp e=>t _ p rfl e⟩));cases a
 | slot j=>cases m
def dL3{X:Cx}{E:Ex}{i:Nat}{st:Stmt}{r:DE}(h:∀ Γ,PS X st (cR6 (dTE Γ r) (aF4 i))):GS E X st (cG i r):=.mk λΓ=>psW (h Γ) λ_ _ _ h=>bC7 h
noncomputable def aC5(x:Str):List D:=x.cps.toList.map λc=>.str ⟨#[c]⟩
def aN1{H:Hp}(x:Str):Rps H (aC5 x) (iJ x):=by
 unfold aC5 iJ
 induction x.cps.toList with
 | nil=>exact .nil
 | cons a r b=>exact .cons (.str _) b
abbrev DG:=D->Sg->Option Sg
abbrev DGs:=List D->Sg->Option Sg
def cE2(own:List Nat)(g:TG)(e:DG):Prop:=∀ Γ H b a c σ σV d v σ' Q,StOk Γ H σ σV->Step b a c σ σV H->Rp H d v->e d σ=some σ' ->
 (∀ σV',StOk Γ H σ' σV'->Step b a c σ' σV' H->σV'.length=σV.length->(∀ i,i∉own->σV'[i]? = σV[i]? /\ σ'[i]? = σ[i]?)->Q σV' H)->g v σV H Q
def cE3(own:List Nat)(g:TGs)(e:DGs):Prop:=∀ Γ H b a c σ σV d vs σ' Q,StOk Γ H σ σV->Step b a c σ σV H->Rps H d vs->e d σ=some σ' ->
 (∀ σV',StOk Γ H σ' σV'->Step b a c σ' σV' H->σV'.length=σV.length->(∀ i,i∉own->σV'[i]? = σV[i]? /\ σ'[i]? = σ[i]?)->Q σV' H)->g vs σV H Q
noncomputable def dgN(i:Nat):DG:=λd σ=>if iE σ i=true then some (σ.set i (some ⟨.val,d⟩))else none
noncomputable def iA:DGs:=λa σ=>if a.isEmpty then some σ else none
noncomputable def bJ(g:DG)(b:DGs):DGs:=λc σ=>match c with
 | d::r=>(g d σ).bind λa=>b r a
 | []=>none
noncomputable def iF(n:Nat)(a:DGs):DG:=λd σ=>match d with
 | .tup l=>if l.length=n then a l σ else none
 | .str z=>if z.length=n then a (aC5 z) σ else none
 | _=>none
def aQ{own:List Nat}{i:Nat}(h:i∈own):cE2 own (aF4 i) (dgN i):=by
 intro Γ H c a g σ σV d v σ' Q ok st r e k;unfold dgN at e;split at e;rename_i b;cases e;refine k _ (ok.put b r) (st.put b .val (.inl rfl)) (by simp) λj f=>?_;have:i≠j:=λz=>f (by rw[← z];exact h);exact⟨a1b this,a1b this⟩;cases e
def fA{own:List Nat}:cE3 own dW1 iA:=by
 intro Γ H b a c σ σV d vs σ' Q ok st r e k;unfold iA at e;cases r with
 | nil=>cases e;exact⟨rfl,k _ ok st rfl λ_ _=>⟨rfl,rfl⟩⟩
 | cons _ _=>cases e
def bF{own:List Nat}{g:TG}{p:DG}{q:TGs}{c:DGs}(w:cE2 own g p)(x:cE3 own q c):cE3 own (cR5 g q) (bJ p c):=by
 intro Γ H d b s σ σV A vs σ' Q ok st r e k;cases r with
 | nil=>cases e
 | cons a t=>
   obtain⟨f,y,e⟩:=aE e;refine⟨_,_,rfl,w Γ H d b s σ σV _ _ f _ ok st a y λh l m l1 u=>?_⟩;refine x Γ H d b s f h _ _ σ' _ l m t e λj n o z v=>?_;exact k j n o (z.trans l1) λi hi=>⟨(v i hi).1.trans (u i hi).1,(v i hi).2.trans (u i hi).2⟩
def iN{own:List Nat}{K:W.Frag}{n:Nat}{i:TGs}{a:DGs}(h:cE3 own i a):cE2 own (bI2 K n i) (iF n a):=by
 intro Γ H f b j σ σV d v σ' Q ok st r e k;cases d with
 | tup l=>
   have c:(if l.length=n then a l σ else none)=some σ':=e;split at c;rename_i g;obtain⟨p,xs,rfl,o,m⟩:=gX (.inl r);exact⟨xs,eO o,by rw[← m.length];exact g,h Γ H f b j σ σV l xs σ' Q ok st m c k⟩;cases c
 | str z=>
   have c:(if z.length=n then a (aC5 z) σ else none)=some σ':=e;split at c;rename_i g;cases r;exact⟨g,h Γ H f b j σ σV _ _ σ' Q ok st (aN1 z) c k⟩;cases c
 | _=>cases e
noncomputable def dL4(g:DG)(r:DE):DS:=λσ=>(r σ).bind λx=>match x.1 with
 | .val d=>(g d x.2).bind λa=>some (.nx a)
 | _=>none
def dL5{X:Cx}{E:Ex}{own:List Nat}{st:Stmt}{r:DE}{g:TG}{m:DG}(p:cE2 own g m)(h:∀ Γ,PS X st (cR6 (dTE Γ r) g)):GS E X st (dL4 m r):=.mk λΓ=>psW (h Γ) λD σV H ⟨σ,ok,o,e,k⟩=>by
 obtain⟨⟨x,a⟩,q,e⟩:=aE e;refine⟨σ,ok,x,a,q,λv n c s f u=>?_⟩;cases x with
 | val d=>
   obtain⟨i,t,e⟩:=aE e;cases e;exact p Γ n σ σV H a σV d v i _ c f s t λb j l _ _=>k b n j l
 | own d=>cases e
 | slot d=>cases e
noncomputable def dU9(i j:Nat)(a:DA):DS:=λσ=>(a σ).bind λx=>(vals x.1).bind λb=>match b with
 | [d,e]=>if iE x.2 i=true/\iE x.2 j=true/\i≠j then some (.nx ((x.2.set i (some ⟨.val,d⟩)).set j (some ⟨.val,e⟩)))else none
 | _=>none
def dL6{X:Cx}{E:Ex}{i j:Nat}{st:Stmt}{p:DA}(h:∀ Γ,PS X st (dW3 i j (dTA Γ p))):GS E X st (dU9 i j p):=.mk λΓ=>psW (h Γ) λD σV H ⟨σ,ok,o,e,k⟩=>by
 obtain⟨⟨x,c⟩,q,e⟩:=aE e;obtain⟨v,r,e⟩:=aE e;refine⟨σ,ok,x,c,q,λvs w l s m z=>?_⟩;have u:=qE s r;dsimp only at e;split at e
 ·split at e
  ·rename_i d y g;cases e;cases u with
   | cons a t=>cases t with
     | cons b t=>cases t with
       | nil=>
         refine⟨_,_,rfl,?_⟩;have n:=l.put g.1 a;have f:iE (c.set i (some ⟨.val,d⟩)) j=true:=by
          unfold iE;rw[a1b g.2.2];exact g.2.1
         exact k _ _ (n.put f b) ((m.put g.1 .val (.inl rfl)).put f .val (.inl rfl))
  ·cases e
 ·cases e
noncomputable def lend(i:Nat)(σ:Sg):Sg:=match σ[i]? with
 | some (some s)=>if s.m.mt=true then σ.set i (some ⟨.lent,s.d⟩)else σ
 | _=>σ
noncomputable def unl(i:Nat)(a σ:Sg):Sg:=match a[i]?,σ[i]? with
 | some (some s0),some (some s)=>if s0.m.mt=true then σ.set i (some ⟨s0.m,s.d⟩)else σ
 | _,_=>σ
noncomputable def lendO(l:Option Nat)(σ:Sg):Sg:=match l with
 | some i=>lend i σ
 | none=>σ
noncomputable def aC6(l:Option Nat)(a σ:Sg):Sg:=match l with
 | some i=>unl i a σ
 | none=>σ
section
variable{Γ:Gm}{H H1 H2:Hp}{σ σ1 σ2:Sg}{σV σV2:St}{i:Nat}{s:Sl}
def aG9(a:σ[i]? = some (some s))(hm:s.m.mt=true):lend i σ=σ.set i (some ⟨.lent,s.d⟩):=by
 unfold lend;rw[a];simp only[hm,if_true]
def aV1(h:∀ s,σ[i]? = some (some s)->s.m.mt=false):lend i σ=σ:=by
 unfold lend;split;rename_i s a;rw[a4z (by rw[h s a];exact a0c)];rfl
theorem StOk.lend(ok:StOk Γ H σ σV):StOk Γ H (lend i σ) σV:=by
 by_cases g:∃ s,σ[i]? = some (some s)/\s.m.mt=true
 ·obtain⟨s,c,hm⟩:=g;rw[aG9 c hm];obtain⟨p,k,o⟩:=ok.ownAt c (kJ hm);have back:∀ (j:Nat) t,(σ.set i (some ⟨.lent,s.d⟩))[j]? = some (some t)->(j=i/\t=⟨.lent,s.d⟩)\/(j≠i/\σ[j]? = some (some t)):=λj t a=>by
   rcases cP a with⟨z,r,_⟩ | z;cases r;exact .inl ⟨z,rfl⟩;exact .inr z
  refine⟨λj t a=>?_,λj l t h q n a u m v b f=>?_,λj t q a m b=>?_,λj t q a m b=>?_,ok.keep,ok.dom,by rw[a1g];exact ok.len⟩;rcases back j t a with⟨rfl,rfl⟩ | ⟨_,z⟩;exact⟨_,k,p,rfl,o⟩;exact ok.rel j t z;rcases back j t a with⟨rfl,rfl⟩ | ⟨_,z⟩;cases m;rcases back l h u with⟨rfl,rfl⟩ | ⟨_,y⟩;exact ok.dis j l t s q n z c m (kJ hm) b f;exact ok.dis j l t h q n z y m v b f;rcases back j t a with⟨rfl,rfl⟩ | ⟨_,z⟩;cases m;exact ok.own j t q z m b;rcases back j t a with⟨rfl,rfl⟩ | ⟨_,z⟩;cases m;exact ok.par j t q z m b
 ·rw[aV1 λs c=>by
   cases e:s.m.mt with
   | false=>rfl
   | true=>exact absurd ⟨s,c,e⟩ g]
  exact ok
def dL7(ok:StOk Γ H1 σ1 σV)(c:StOk Γ H2 σ2 σV2)(st:Step (lend i σ1) σV H1 σ2 σV2 H2):StOk Γ H2 (unl i σ1 σ2) σV2/\Step σ1 σV H1 (unl i σ1 σ2) σV2 H2:=by
 by_cases S:∃ s,σ1[i]? = some (some s)/\s.m.mt=true
 ·obtain⟨s,u,hm⟩:=S;have Y:i < σ1.length:=(a2a.mp u).1;rw[aG9 u hm]at st;have M:(σ1.set i (some ⟨.lent,s.d⟩))[i]? = some (some ⟨.lent,s.d⟩):=by rw[a8c Y]
  obtain⟨s2,K,Z,d2,T⟩:=st.fix i _ M (.inr rfl);have D:s2.m=.lent:=Z;have E:i < σ2.length:=(a2a.mp K).1;have N:unl i σ1 σ2=σ2.set i (some ⟨s.m,s2.d⟩):=by unfold unl;rw[u,K];simp only[hm,if_true]
  rw[N];obtain⟨p,A,ow⟩:=ok.ownAt u (kJ hm);have f:σV2[i]? = some (some (.ref p)):=T.trans A;obtain⟨p',U,O⟩:=c.ownAt K (by rw[D];exact λz=>nomatch z);rw[f]at U;cases U;have F:∀ (j:Nat) t,j≠i->σ2[j]? = some (some t)->t.m=.lent->σV2[j]? ≠ some (some (.ref p)):=λj t B b P e=>by
   obtain⟨G,C,H⟩:=st.lt j t b P;rw[a1b (a4e B)]at C;have hf:(σ1.set i (some ⟨.lent,s.d⟩))[j]? = some (some G):=by rw[a1b (a4e B)];exact C
   obtain⟨_,_,_,_,vj⟩:=st.fix j G hf (.inr H);rw[vj]at e;exact ok.dis i j s G p (a4e B) u C hm (by rw[H];exact λz=>nomatch z) A e
  have r:∀ (j:Nat) t,j≠i->σ2[j]? = some (some t)->t.m≠.val->σV2[j]? ≠ some (some (.ref p)):=λj t B b P e=>by
   by_cases V:t.m=.lent;exact F j t B b V e;have Q:t.m.mt=true:=by
    cases q:t.m with
    | val=>exact absurd q P
    | own=>rfl
    | par=>rfl
    | lent=>exact absurd q V
   exact c.dis j i t s2 p B b K Q (by rw[D];exact λz=>nomatch z) e f
  have back:∀ (j:Nat) t,(σ2.set i (some ⟨s.m,s2.d⟩))[j]? = some (some t)->(j=i/\t=⟨s.m,s2.d⟩)\/(j≠i/\σ2[j]? = some (some t)):=λj t b=>by
   rcases cP b with⟨z,w,_⟩ | z;cases w;exact .inl ⟨z,rfl⟩;exact .inr z
  have sub:∀ a,sV (σ1.set i (some ⟨.lent,s.d⟩)) σV a->sV σ1 σV a:=λa ⟨j,t,b,m,k⟩=>by
   rcases cP b with⟨z,w,_⟩ | ⟨z,w⟩;cases w;cases m;exact⟨j,t,w,m,k⟩
  have I:∀ a,cA9 (σ1.set i (some ⟨.lent,s.d⟩)) σV a->cA9 σ1 σV a:=λa ⟨j,t,b,m,k⟩=>by
   rcases cP b with⟨z,w,_⟩ | ⟨z,w⟩;subst z;exact⟨j,s,u,kJ hm,k⟩;exact⟨j,t,w,m,k⟩
  constructor
  ·refine⟨λj t b=>?_,λj l t x q n b W m L g v=>?_,λj t q b m g=>?_,λj t q b m g=>?_,c.keep,c.dom,by rw[a1g];exact c.len⟩;rcases back j t b with⟨rfl,rfl⟩ | ⟨_,z⟩;exact⟨_,f,(eP (s:=⟨s.m,s2.d⟩) (kJ hm)).mpr ⟨p,rfl,O⟩⟩;exact c.rel j t z
   ·rcases back j t b with⟨rfl,rfl⟩ | ⟨zn,z⟩;rw[f]at g;have g:=a0b (a0b g);cases g;rcases back l x W with⟨rfl,rfl⟩ | ⟨X,y⟩;exact n rfl;exact r l x X y L v;rcases back l x W with⟨rfl,rfl⟩ | ⟨X,y⟩;rw[f]at v;have v:=a0b (a0b v);cases v;exact r j t zn z (kJ m) g;exact c.dis j l t x q n z y m L g v
   ·rcases back j t b with⟨rfl,rfl⟩ | ⟨_,z⟩;rw[f]at g;have g:=a0b (a0b g);cases g;exact ok.own j s p u m A;exact c.own j t q z m g
   ·rcases back j t b with⟨rfl,rfl⟩ | ⟨_,z⟩;rw[f]at g;have g:=a0b (a0b g);cases g;exact ok.par j s p u m A;exact c.par j t q z m g
  ·refine⟨λa o e n=>st.fr a o e λz=>n (sub a z),st.dom,λa ⟨j,t,b,m,k⟩=>?_,λa ⟨j,t,b,m,k⟩=>?_,λj t b=>?_,λj t b m=>?_,λj t b m=>?_⟩;rcases back j t b with⟨rfl,rfl⟩ | ⟨_,z⟩;rw[f]at k;have k:=a0b (a0b k);cases k;exact .inl ⟨j,s,u,hm,A⟩;rcases st.mu a ⟨j,t,z,m,k⟩with y | y;exact .inl (sub a y);exact .inr y;rcases back j t b with⟨rfl,rfl⟩ | ⟨_,z⟩;rw[f]at k;have k:=a0b (a0b k);cases k;exact .inl ⟨j,s,u,kJ hm,A⟩;rcases st.nv a ⟨j,t,z,m,k⟩with y | y;exact .inl (I a y);exact .inr y;by_cases z:j=i;subst z;exact⟨_,by rw[a8c E]⟩;obtain⟨x,R⟩:=st.kp j t (by rw[a1b (a4e z)];exact b);exact⟨x,by rw[a1b (a4e z)];exact R⟩;by_cases z:j=i;subst z;rw[u]at b;cases b;refine⟨⟨s.m,s2.d⟩,by rw[a8c E],rfl,λq=>?_,T⟩;rw[q]at hm;cases hm;obtain⟨x,R,h⟩:=st.fix j t (by rw[a1b (a4e z)];exact b) m;exact⟨x,by rw[a1b (a4e z)];exact R,h⟩;rcases back j t b with⟨rfl,rfl⟩ | ⟨zn,z⟩;have L:s.m=.lent:=m;rw[L]at hm;cases hm;obtain⟨G,C,m1⟩:=st.lt j t z m;rw[a1b (a4e zn)]at C;exact⟨G,C,m1⟩
 ·have J:∀ s,σ1[i]? = some (some s)->s.m.mt=false:=λs u=>by
   cases e:s.m.mt with
   | false=>rfl
   | true=>exact absurd ⟨s,u,e⟩ S
  rw[aV1 J]at st;have N:unl i σ1 σ2=σ2:=by
   unfold unl;split;rename_i s0 s' h0 h';rw[a4z (by rw[J s0 h0];exact a0c)];rfl
  rw[N];exact⟨c,st⟩
theorem StOk.lendO{l:Option Nat}(ok:StOk Γ H σ σV):StOk Γ H (lendO l σ) σV:=by
 cases l with
 | none=>exact ok
 | some i=>exact ok.lend
def aH0{l:Option Nat}(ok:StOk Γ H1 σ1 σV)(a:StOk Γ H2 σ2 σV2)(st:Step (lendO l σ1) σV H1 σ2 σV2 H2):StOk Γ H2 (aC6 l σ1 σ2) σV2/\Step σ1 σV H1 (aC6 l σ1 σ2) σV2 H2:=by
 cases l with
 | none=>exact⟨a,st⟩
 | some i=>exact dL7 ok a st
def cV3{l:Option Nat}{r:Res}{v:V}(st:Step (lendO l σ1) σV H1 σ2 σV2 H2)(h:mS Γ H2 σ2 σV2 r v):mS Γ H2 (aC6 l σ1 σ2) σV2 r v:=by
 cases l with
 | none=>exact h
 | some i=>
   show mS Γ H2 (unl i σ1 σ2) σV2 r v;have a:Step (lend i σ1) σV H1 σ2 σV2 H2:=st;unfold unl;split
   ·rename_i g s' h0 h';split
    ·rename_i hm;cases r with
     | val d=>exact h
     | own d=>
       obtain⟨p,b,c,k,n⟩:=h;refine⟨p,b,c,λ⟨j,t,o,m,e⟩=>k ?_,n⟩;rcases cP o with⟨z,f,_⟩ | ⟨z,f⟩;subst z;rw[aG9 h0 hm]at a;obtain⟨q,s,u,_⟩:=a.fix j ⟨.lent,g.d⟩ (by rw[a8c (a2a.mp h0).1]) (.inr rfl);exact⟨j,q,s,by rw[u];exact λz=>(by cases z),e⟩
       ·exact⟨j,t,f,m,e⟩
     | slot j=>
       obtain⟨b,t,c⟩:=h;refine⟨b,?_⟩;by_cases z:j=i;subst z;exact⟨_,by rw[a8c (a2a.mp h').1]⟩
       ·exact⟨t,by rw[a1b (a4e z)];exact c⟩
    ·exact h
   ·exact h
end
structure ItD(J:It)(items:List D)(P:Hp->Prop):Prop where
 go:∀ H i d,P H->items[i]? = some d->J.go i H
 yld:∀ H i d y H',P H->items[i]? = some d->J.yld i H y H'->aT2 H H'/\Rp H' d y
 stop:∀ H,P H->J.stop items.length H
def aN2{J:It}{xs:List V}{P:Hp->Prop}{items:List D}(w:ItIs J xs P):ItD J items (λH=>P H/\Rps H items xs) where
 go:=λH i d ⟨h,r⟩ e=>by
  obtain⟨x,ex,_⟩:=r.get e;exact w.go H i x h ex
 yld:=λH i d y H' ⟨h,r⟩ e q=>by
  obtain⟨x,ex,a⟩:=r.get e;obtain⟨rfl,rfl⟩:=w.yld H i x y H' h ex q;exact⟨.refl _,a⟩
 stop:=λH ⟨h,r⟩=>by
  refine w.stop H _ h ?_;have:=r.length;rw[a4d];lia
abbrev DI:=Sg->Option (List D×Option Nat×Sg)
def dTI(Γ:Gm)(ri:DI):TI:=λσV H R=>∃ σ,StOk Γ H σ σV/\∃ items l a,ri σ=some (items,l,a)/\∀ J c P,StOk Γ c a σV->Step σ σV H a σV c->ItD J items P ->
 (∀ d b e,Step (lendO l a) σV c d b e->P e)->R J c
structure GI(X:Cx)(tg iter:Expr)(ri:DI):Prop where
 to:∀ Γ,PI X tg iter (dTI Γ ri)
def piW{X:Cx}{tg e:Expr}{t t':TI}(h:PI X tg e t)(w:∀ σ H Q,t' σ H Q->t σ H Q):PI X tg e t':=λpins s σ H Q I q=>h pins s σ H Q I (w σ H Q q)
noncomputable def aN3:D->Option (List D)
 | .lst l=>some l
 | .tup l=>some l
 | .str x=>some (aC5 x)
 | _=>none
noncomputable def dIt(r:DE):DI:=λσ=>(r σ).bind λx=>(rd x.2 x.1).bind λd=>(aN3 d).bind λl=>some (l,(match x.1 with | .slot i=>some i | _=>none),x.2)
def jD{H a:Hp}{p:Addr}{o:HO}(h:H p=some o)(b:a p=some o):iI a p=iI H p:=by unfold iI;rw[h,b]
def tZ{Γ:Gm}{g:Hp}{a:Sg}{σV:St}{x:Res}{v:V}{d:D}{items:List D}(B:StOk Γ g a σV)(h:mS Γ g a σV x v)(P:rd a x=some d)(I:aN3 d=some items)(vw:Vw g d v) :
  ∀ p b xs,v=.ref p->iI g p=some (b,xs)->Rps g items xs->∀ C k E,Step (lendO (match x with | .slot i=>some i | _=>none) a) σV g C k E->iI E p=some (b,xs)/\Rps E items xs:=by
 intro p b xs u y U C k E n;have ext:Ext g E:=n.ext (Γ:=Γ) B.lendO;refine⟨?_,U.mono ext⟩;cases x with
 | val d'=>
   cases P;subst u;cases d with
   | tup J=>obtain⟨_,_,e,f,_⟩:=gX vw;cases e;rw[jD f (ext.tup _ _ f)];exact y
   | lst J=>
     cases h with
     | lst f _=>rw[jD f (ext.frz _ _ _ f)];exact y
   | dic ks vs=>cases I
   | str z=>cases h
   | _=>cases I
 | own d'=>
   obtain⟨q,Q,K,W,_⟩:=h;rw[u]at Q;cases Q;obtain⟨o,F,_⟩:=K.obj;rw[jD F (n.fr p o F (λz=>W z.nv))];exact y
 | slot i=>
   obtain⟨h,s,l⟩:=h;have c:StOk Γ g a σV:=B;by_cases hm:s.m=.val
   ·obtain⟨w,R,L⟩:=c.rel i s l;rw[h]at R;cases R;subst u;obtain⟨m,S⟩:=s;cases hm;have M:some S=some d:=by
     have:rd a (.slot i)=some S:=by show(match a[i]? with | some (some s)=>some s.d | _=>none)=_;rw[l]
     rw[← this];exact P
    cases M;have N:Rp g d (.ref p):=L;cases d with
    | tup J=>obtain⟨_,_,e,f,_⟩:=gX (.inl N);cases e;rw[jD f (ext.tup _ _ f)];exact y
    | lst J=>
      cases N with
      | lst f _=>rw[jD f (ext.frz _ _ _ f)];exact y
    | dic ks vs=>cases I
    | str z=>cases N
    | _=>cases I
   ·obtain⟨q,G,K⟩:=c.ownAt l hm;rw[h]at G;have G:=a0b (a0b G);rw[u]at G;cases G;obtain⟨o,F,_⟩:=K.obj;have X:¬ sV (lend i a) σV p:=by
     rintro⟨j,t,A,m,T⟩;by_cases r:s.m.mt=true;rw[aG9 l r]at A;rcases cP A with⟨_,O,_⟩ | ⟨z,O⟩;cases O;cases m;exact c.dis j i t s p z O l m hm T (by rw[h,u]);rw[aV1 (λs' H=>by rw[l]at H;cases H;exact Bool.eq_false_iff.mpr r)]at A;by_cases z:j=i;subst z;rw[l]at A;cases A;exact r m;exact c.dis j i t s p z A l m hm T (by rw[h,u])
    rw[jD F (n.fr p o F X)];exact y
def bU{X:Cx}{tg e:Expr}{r:DE}(K:W.Frag)(w:X.K=K)(h:GE X e r):GI X tg e (dIt r):=.mk λΓ=>piW (bR0 K w (h.to Γ)) λσV H R ⟨σ,ok,items,l,y,e,k⟩=>by
 obtain⟨⟨x,A⟩,B,e⟩:=aE e;obtain⟨d,t,e⟩:=aE e;obtain⟨C,i,e⟩:=aE e;cases e;refine⟨σ,ok,x,_,B,λv n b u g E=>?_⟩;have vw:=u.vw b t;have stay:=tZ b u t i vw;cases d with
 | lst D=>
   cases i;obtain⟨p,xs,rfl,j,o⟩:=iZ vw;refine .inl ⟨xs,j,k _ n _ b g (aN2 (aM3 (xs:=xs))) λc a m f=>?_⟩;obtain⟨q,s⟩:=stay p true xs rfl j o c a m f;exact⟨gP q,s⟩
 | tup D=>
   cases i;obtain⟨p,xs,rfl,j,o⟩:=gX vw;refine .inr ⟨xs,eO j,k _ n _ b g (aN2 (cC7 (xs:=xs))) λc a m f=>?_⟩;obtain⟨q,s⟩:=stay p false xs rfl (eO j) o c a m f;exact⟨eY q,s⟩
 | str z=>
   cases i;obtain rfl:=lZ vw;exact k _ n (λH=>True/\Rps H (aC5 z) (iJ z)) b g (aN2 cC8) λc a m f=>⟨True.intro,aN1 z⟩
 | _=>cases i
noncomputable def sY(lo:Int)(n:Nat):List D:=(List.range n).map λ(i:Nat)=>D.int (lo+(i:Int))
def bS3{H:Hp}(lo:Int)(n:Nat):Rps H (sY lo n) (cT4 lo n):=by
 unfold sY cT4
 induction List.range n with
 | nil=>exact .nil
 | cons a r b=>exact .cons (.int _) b
noncomputable def aA5(a:DA):DI:=λσ=>(a σ).bind λx=>(rds x.2 x.1).bind λb=>match b with
 | [.int j]=>if -(2 ^ 62)<=j/\j < 2 ^ 62 then some (sY 0 j.toNat,none,x.2)else none
 | [.int i,.int j]=>if(-(2 ^ 62)<=i/\i < 2 ^ 62) /\ -(2 ^ 62)<=j/\j < 2 ^ 62 then some (sY i (j-i).toNat,none,x.2)else none
 | _=>none
def lO{X:Cx}{tg e:Expr}{d:DA}(h:∀ Γ,PI X tg e (cR7 (dTA Γ d)))(n:∀ σ rs σ',d σ=some (rs,σ')->rs.length=1):GI X tg e (aA5 d):=.mk λΓ=>piW (h Γ) λσV H R ⟨σ,ok,items,l,o,e,k⟩=>by
 obtain⟨⟨x,p⟩,g,e⟩:=aE e;obtain⟨y,r,e⟩:=aE e;refine⟨σ,ok,x,_,g,λvs s c i f z=>?_⟩;have vw:=tY c i r;have u:=n _ _ _ g;dsimp only at e;split at e
 ·split at e
  ·rename_i j;cases e;cases vw with
   | cons a t=>
     cases t;obtain rfl:=eZ a;exact⟨_,rfl,j.1,j.2,k _ s (λH=>True/\Rps H _ _) c f (aN2 pY) λv m A w=>⟨True.intro,bS3 _ _⟩⟩
  ·cases e
 ·exfalso;cases vw with
  | cons a t=>cases t with
    | cons b t=>
      cases i with
      | cons _ q _=>cases q with
        | cons _ q _=>simp at u
 ·cases e
def aV2{X:Cx}{tg e:Expr}{f:DA}(h:∀ Γ,PI X tg e (cR8 (dTA Γ f)))(n:∀ σ rs σ',f σ=some (rs,σ')->rs.length=2):GI X tg e (aA5 f):=.mk λΓ=>piW (h Γ) λσV H R ⟨σ,ok,items,l,o,e,k⟩=>by
 obtain⟨⟨x,p⟩,i,e⟩:=aE e;obtain⟨y,r,e⟩:=aE e;refine⟨σ,ok,x,_,i,λvs s c j g z=>?_⟩;have vw:=tY c j r;have u:=n _ _ _ i;dsimp only at e;split at e
 ·exfalso;cases vw with
  | cons a t=>
    cases t;cases j with
    | cons _ q _=>cases q;simp at u
 ·split at e
  ·rename_i d;cases e;cases vw with
   | cons a t=>cases t with
     | cons b t=>
       cases t;obtain rfl:=eZ a;obtain rfl:=eZ b;exact⟨_,_,rfl,⟨d.1.1,d.1.2,d.2.1,d.2.2⟩,k _ s (λH=>True/\Rps H _ _) c g (aN2 pY) λv m A w=>⟨True.intro,bS3 _ _⟩⟩
  ·cases e
 ·cases e
theorem bC8{r:DE}:∀ σ rs σ',aC r aP σ=some (rs,σ')->rs.length=1:=λσ rs σ' e=>by
 obtain⟨x,_,e⟩:=aE e;cases e;rfl
def cV4{r a:DE}:∀ σ rs σ',aC r (aC a aP) σ=some (rs,σ')->rs.length=2:=λσ rs σ' e=>by
 obtain⟨x,_,e⟩:=aE e;obtain⟨y,h,e⟩:=aE e;cases e;have:=bC8 _ _ _ h;simp[this]
noncomputable def bS4(g:DG)(b:DS):List D->Sg->Option Out
 | [],σ=>some (.nx σ)
 | d::r,σ=>(g d σ).bind λe=>(b e).bind λo=>match o with
   | .nx a=>bS4 g b r a
   | .ct a=>bS4 g b r a
   | .bk a=>some (.nx a)
   | .rt x a=>some (.rt x a)
   | .ex c f a=>some (.ex c f a)
noncomputable def aC7(l:Option Nat)(a:Sg):Out->Out
 | .nx σ=>.nx (aC6 l a σ)
 | .rt r σ=>.rt r (aC6 l a σ)
 | .bk σ=>.bk (aC6 l a σ)
 | .ct σ=>.ct (aC6 l a σ)
 | .ex c f σ=>.ex c f (aC6 l a σ)
noncomputable def pU(ri:DI)(g:DG)(b:DS):DS:=λσ=>(ri σ).bind λx=>(bS4 g b x.1 (lendO x.2.1 x.2.2)).bind λo=>some (aC7 x.2.1 x.2.2 o)
def cE4{Γ:Gm}{E:Ex}{own:List Nat}{ri:DI}{g:TG}{S:DG}{b:DS}(hg:cE2 own g S){D:Ends}{σV:St}{H:Hp}(h:dTS Γ E (pU ri S b) D σV H):dU3 (dTI Γ ri) g (dTS Γ E b) D σV H:=by
 obtain⟨σ,ok,o,e,k⟩:=h;obtain⟨⟨items,l,u⟩,e1,e⟩:=aE e;obtain⟨U,e2,e⟩:=aE e;cases e;refine⟨σ,ok,items,l,u,e1,λJ T P F M N stay=>?_⟩;dsimp only at e2
 -- V end that is wanted of V walk
 have K:∀ n a w,StOk Γ w n a->Step (lendO l u) σV T n a w->∀ W,W=U->(∀ σ',W=.nx σ'->∀ σV' H',StOk Γ H' σ' σV'->Step (lendO l u) σV T σ' σV' H'->D.nx σV' H'):=by
  intro n a w G B W ho σ' X σV' H' Y Z;subst ho X;obtain⟨O,Q⟩:=aH0 F Y Z;exact k σV' H' O (M.trans Q)
 refine⟨λi m a w=>m=items.length-i/\i<=items.length/\∃ n,bS4 S b (items.drop i) n=some U/\StOk Γ w n a/\Step (lendO l u) σV T n a w,⟨items.length,by simp,a7c _,lendO l u,by simpa using e2,F.lendO,.refl⟩,?_⟩;rintro i m a w ⟨rfl,hi,n,A,G,B⟩;have hP:=stay n a w B;by_cases I:i < items.length
 ·have ei:items[i]? = some items[i]:=a1a I;refine .inr ⟨N.go w i _ hP ei,λC R=>∃ m',m' < items.length-i/\m'=items.length-(i+1)/\i+1<=items.length/\∃ z,bS4 S b (items.drop (i+1)) z=some U/\StOk Γ R z C/\Step (lendO l u) σV T z C R,λσ' H' q=>q,λy R hy=>?_⟩;obtain⟨sm,ry⟩:=N.yld w i _ y R hP ei hy;rw[List.drop_eq_getElem_cons I]at A;obtain⟨z,eg,A⟩:=aE A;obtain⟨ob,eb,A⟩:=aE A;refine hg Γ R _ _ _ n a _ y z _ (G.same sm) (B.trans (.same sm)) ry eg λC ok3 t _ _=>?_;refine⟨z,ok3,ob,eb,?_⟩;cases ob with
  | nx s=>exact λj L r p=>⟨_,by lia,rfl,I,s,A,r,t.trans p⟩
  | ct s=>exact λj L r p=>⟨_,by lia,rfl,I,s,A,r,t.trans p⟩
  | bk s=>
    cases A;exact λj L r p=>K s j L r (t.trans p) _ rfl s rfl j L r (t.trans p)
  | rt x s=>
    cases A;intro v j L r r4 p;obtain⟨O,Q⟩:=aH0 F r (t.trans p);exact k v j L O (cV3 (t.trans p) r4) (M.trans Q)
  | ex c f s=>
    cases A;intro v d j L r r4 p;obtain⟨O,Q⟩:=aH0 F r (t.trans p);exact k v d j L O r4 (M.trans Q)
 ·have e0:i=items.length:=by lia
  subst e0;rw[List.drop_length]at A;cases A;exact .inl ⟨N.stop w hP,K n a w G B _ rfl n rfl a w G B⟩
def gY{X:Cx}{E:Ex}{own:List Nat}{st:Stmt}{ri:DI}{g:TG}{a:DG}{b:DS}(c:cE2 own g a)(h:∀ Γ,PS X st (dU3 (dTI Γ ri) g (dTS Γ E b))):GS E X st (pU ri a b):=.mk λΓ=>psW (h Γ) λ_ _ _=>cE4 c
def bS5:∃ n:Nat,1000000<=n:=⟨_,a9a _⟩
noncomputable def dC8:Nat:=Classical.choose bS5
def cV5:1000000<=dC8:=Classical.choose_spec bS5
noncomputable def sG(c:DT)(b:DS):Nat->Sg->Option Out
 | 0,_=>none
 | n+1,σ=>(c σ).bind λx=>if x.1=true then(b x.2).bind λo=>match o with
   | .nx a=>sG c b n a
   | .ct a=>sG c b n a
   | .bk a=>some (.nx a)
   | .rt r a=>some (.rt r a)
   | .ex c f a=>some (.ex c f a)else some (.nx x.2)
noncomputable def uA(c:DT)(b:DS):DS:=λσ=>sG c b dC8 σ
def bI3{Γ:Gm}{E:Ex}{c:DT}{b:DS}{D:Ends}{σV:St}{H:Hp}(h:dTS Γ E (uA c b) D σV H):bM4 (dTT Γ c) (dTS Γ E b) D σV H:=by
 obtain⟨σ,ok,o,e,k⟩:=h;refine⟨λm l A=>∃ u,sG c b m u=some o/\StOk Γ A u l/\Step σ σV H u l A,⟨dC8,σ,e,ok,.refl⟩,?_⟩;rintro m l A ⟨u,p,B,r⟩;cases m with
 | zero=>cases p
 | succ n=>
   obtain⟨⟨t,y⟩,I,p⟩:=aE p;refine⟨u,B,t,y,I,λJ z s=>?_⟩;dsimp only at p;split at p
   ·rename_i C;rw[a4y C];obtain⟨ob,K,p⟩:=aE p;refine⟨λa w=>∃ G,G < n+1/\∃ g,sG c b G g=some o/\StOk Γ w g a/\Step σ σV H g a w,λ_ _ q=>q,y,z,ob,K,?_⟩;cases ob with
    | nx g=>exact λa w i j=>⟨n,Nat.lt_succ_self n,g,p,i,(r.trans s).trans j⟩
    | ct g=>exact λa w i j=>⟨n,Nat.lt_succ_self n,g,p,i,(r.trans s).trans j⟩
    | bk g=>cases p;exact λa w i j=>k a w i ((r.trans s).trans j)
    | rt x g=>cases p;exact λv a w i F j=>k v a w i F ((r.trans s).trans j)
    | ex c f g=>cases p;exact λv d a w i F j=>k v d a w i F ((r.trans s).trans j)
   ·rename_i C;rw[a4z C];cases p;exact k l J z (r.trans s)
def aH1{X:Cx}{E:Ex}{st:Stmt}{c:DT}{b:DS}(h:∀ Γ,PS X st (bM4 (dTT Γ c) (dTS Γ E b))):GS E X st (uA c b):=.mk λΓ=>psW (h Γ) λ_ _ _=>bI3
noncomputable def cV(ow:List Nat)(σ:Sg):Sg:=ow.foldl (λσ i=>σ.set i none) σ
noncomputable def oE(ow:List Nat)(σ a:Sg):Sg:=ow.foldl (λa i=>a.set i (σ[i]?.getD none)) a
theorem jI{α:Type}:∀ (ow:List Nat) (σ:List (Option α)),(ow.foldl (λσ i=>σ.set i none) σ).length=σ.length
 | [],_=>rfl
 | i::r,σ=>(jI r (σ.set i none)).trans (by simp)
theorem iO{α:Type}:∀ (ow:List Nat) (σ:List (Option α)) (j:Nat),j∉ow->(ow.foldl (λσ i=>σ.set i none) σ)[j]? = σ[j]?
 | [],_,_,_=>rfl
 | i::r,σ,j,h=>by
   have a:i≠j:=λz=>h (by rw[z];exact a4a);have b:j∉r:=λz=>h (a6a _ z);show(r.foldl _ (σ.set i none))[j]? = _;rw[iO r _ j b,a1b a]
theorem dE{α:Type}:∀ (ow:List Nat) (σ:List (Option α)) (j:Nat) (x:α),(ow.foldl (λσ i=>σ.set i none) σ)[j]? = some (some x)->j∉ow/\σ[j]? = some (some x)
 | [],_,_,_,h=>⟨by simp,h⟩
 | i::r,σ,j,x,h=>by
   obtain⟨a,b⟩:=dE r (σ.set i none) j x h;rcases cP b with⟨_,z,_⟩ | ⟨z,c⟩;cases z;exact⟨by simp[z,a],c⟩
theorem sH:∀ (ow:List Nat) (σ a:Sg),(oE ow σ a).length=a.length
 | [],_,_=>rfl
 | i::r,σ,a=>(sH r σ (a.set i (σ[i]?.getD none))).trans (by simp)
theorem mT:∀ (ow:List Nat) (σ a:Sg) (j:Nat),j∉ow->(oE ow σ a)[j]? = a[j]?
 | [],_,_,_,_=>rfl
 | i::r,σ,a,j,h=>by
   have b:i≠j:=λz=>h (by rw[z];exact a4a);have c:j∉r:=λz=>h (a6a _ z);show(oE r σ (a.set i (σ[i]?.getD none)))[j]? = _;rw[mT r σ _ j c,a1b b]
theorem tJ:∀ (ow:List Nat) (σ a:Sg) (j:Nat),j∈ow->σ.length=a.length->(oE ow σ a)[j]? = σ[j]?
 | [],_,_,_,h,_=>by simp at h
 | i::r,σ,a,j,h,hl=>by
   show(oE r σ (a.set i (σ[i]?.getD none)))[j]? = _;by_cases b:j∈r;exact tJ r σ _ j b (by simp[hl])
   ·rw[mT r σ _ j b];have:j=i:=by rcases a3b.mp h with z | z;exact z;exact absurd z b
    subst this;by_cases c:j < a.length;rw[a8c c,a1a (by lia:j < σ.length)];rfl;rw[a4d.mpr (by simp;lia),a4d.mpr (by lia)]
section
variable{Γ:Gm}{H H1 H2:Hp}{σ σ1 τ:Sg}{σV σV2 σV3:St}{ow:List Nat}
def StOk.blank(ok:StOk Γ H τ σV2)(h:σV3.length=σV2.length)(e:∀ j,j∉ow->σV3[j]? = σV2[j]?):StOk Γ H (cV ow τ) σV3 where
 rel:=λj t b=>by
  obtain⟨c,d⟩:=dE ow τ j t b;rw[e j c];exact ok.rel j t d
 dis:=λj l t g q n b i m k a f=>by
  obtain⟨c,d⟩:=dE ow τ j t b;obtain⟨o,p⟩:=dE ow τ l g i;rw[e j c]at a;rw[e l o]at f;exact ok.dis j l t g q n d p m k a f
 own:=λj t q b m a=>by
  obtain⟨c,d⟩:=dE ow τ j t b;rw[e j c]at a;exact ok.own j t q d m a
 par:=λj t q b m a=>by
  obtain⟨c,d⟩:=dE ow τ j t b;rw[e j c]at a;exact ok.par j t q d m a
 keep:=ok.keep
 dom:=ok.dom
 len:=by rw[cV,jI,h];exact ok.len
def Step.blank{c:Sg}(g:∀ (j:Nat) t,c[j]? = some (some t)->j∉ow)(st:Step c σV H1 τ σV2 H2)(h:∀ j,j∉ow->σV3[j]? = σV2[j]?):Step c σV H1 (cV ow τ) σV3 H2 where
 fr:=st.fr
 dom:=st.dom
 mu:=λa ⟨j,t,b,m,f⟩=>by
  obtain⟨e,d⟩:=dE ow τ j t b;rw[h j e]at f;exact st.mu a ⟨j,t,d,m,f⟩
 nv:=λa ⟨j,t,b,m,f⟩=>by
  obtain⟨e,d⟩:=dE ow τ j t b;rw[h j e]at f;exact st.nv a ⟨j,t,d,m,f⟩
 kp:=λj t b=>by
  obtain⟨i,k⟩:=st.kp j t b;exact⟨i,by rw[cV,iO ow τ j (g j t b)];exact k⟩
 fix:=λj t b m=>by
  obtain⟨i,k,e,d,l⟩:=st.fix j t b m;exact⟨i,by rw[cV,iO ow τ j (g j t b)];exact k,e,d,by rw[h j (g j t b)];exact l⟩
 lt:=λj t b m=>by
  obtain⟨e,d⟩:=dE ow τ j t b;exact st.lt j t d m
def cV6(c:StOk Γ H1 σ1 σV)(ok:StOk Γ H τ σV2)(x:∀ j,j∉ow->σV2[j]? = σV[j]?)(P:σV2.length=σV.length)(st:Step (cV ow σ1) σV2 H1 τ σV2 H) :
  StOk Γ H (oE ow σ1 τ) σV/\Step σ1 σV H1 (oE ow σ1 τ) σV H:=by
 have A:σ1.length=τ.length:=by rw[c.len,ok.len,P]
 have Q:StOk Γ H1 (cV ow σ1) σV2:=c.blank P x;have ext:Ext H1 H:=st.ext Q;have get:∀ (j:Nat) t,(oE ow σ1 τ)[j]? = some (some t)->(j∈ow/\σ1[j]? = some (some t))\/(j∉ow/\τ[j]? = some (some t)):=λj t e=>by
  by_cases h:j∈ow;rw[tJ ow σ1 τ j h A]at e;exact .inl ⟨h,e⟩;rw[mT ow σ1 τ j h]at e;exact .inr ⟨h,e⟩
 have B:∀ (j:Nat) t,(cV ow σ1)[j]? = some (some t)->j∉ow/\σ1[j]? = some (some t):=λj t e=>dE ow σ1 j t e;have G:∀ (j:Nat),j∉ow->(cV ow σ1)[j]? = σ1[j]?:=λj h=>iO ow σ1 j h;have s:∀ a,sV (cV ow σ1) σV2 a->∃ (j:Nat) (t:Sl),j∉ow/\σ1[j]? = some (some t)/\t.m.mt=true/\σV[j]? = some (some (.ref a)):=λa ⟨j,t,b,m,u⟩=>by
  obtain⟨k,f⟩:=B j t b;rw[x j k]at u;exact⟨j,t,k,f,m,u⟩
 have I:∀ a,cA9 (cV ow σ1) σV2 a->∃ (j:Nat) (t:Sl),j∉ow/\σ1[j]? = some (some t)/\t.m≠.val/\σV[j]? = some (some (.ref a)):=λa ⟨j,t,b,m,u⟩=>by
  obtain⟨k,f⟩:=B j t b;rw[x j k]at u;exact⟨j,t,k,f,m,u⟩
 have C:∀ (j l:Nat) t g q,j∈ow->σ1[j]? = some (some t)->l∉ow->τ[l]? = some (some g)->t.m≠.val->g.m≠.val->(t.m.mt=true\/g.m.mt=true)->σV[j]? = some (some (.ref q))->σV[l]? = some (some (.ref q))->False:=by
  intro j l t g q U b R M m K N i d;rw[← x l R]at d;obtain⟨p,L,S⟩:=c.ownAt b m;rw[i]at L;have L:=a0b (a0b L);cases L;obtain⟨o,V,_⟩:=S.obj;rcases N with N | N;rcases st.nv q ⟨l,g,M,K,d⟩with z | z;obtain⟨D,E,k,f,v,F⟩:=I q z;exact c.dis j D t E q (λy=>k (by rw[← y];exact U)) b f N v i F;rw[V]at z;cases z;rcases st.mu q ⟨l,g,M,N,d⟩with z | z;obtain⟨D,E,k,f,v,F⟩:=s q z;exact c.dis D j E t q (λy=>k (by rw[y];exact U)) f b v m F i;rw[V]at z;cases z
 constructor
 ·refine⟨λj t b=>?_,λj l t g q n b M m K i d=>?_,λj t q b m i=>?_,λj t q b m i=>?_,ok.keep,ok.dom,by rw[sH,ok.len,P]⟩;rcases get j t b with⟨h,e⟩ | ⟨h,e⟩;obtain⟨w,O,r⟩:=c.rel j t e;refine⟨w,O,r.mono ext λp o L m X=>st.fr p o X λz=>?_⟩;obtain⟨D,E,k,f,v,F⟩:=s p z;exact c.dis D j E t p (λy=>k (by rw[y];exact h)) f e v m F (by rw[O,L]);obtain⟨w,O,r⟩:=ok.rel j t e;exact⟨w,by rw[← x j h];exact O,r⟩
  ·rcases get j t b with⟨h,e⟩ | ⟨h,e⟩;rcases get l g M with⟨h',J⟩ | ⟨h',J⟩;exact c.dis j l t g q n e J m K i d;exact C j l t g q h e h' J (kJ m) K (.inl m) i d;rcases get l g M with⟨h',J⟩ | ⟨h',J⟩;exact C l j g t q h' J h e K (kJ m) (.inr m) d i;rw[← x j h]at i;rw[← x l h']at d;exact ok.dis j l t g q n e J m K i d
  ·rcases get j t b with⟨h,e⟩ | ⟨h,e⟩;exact c.own j t q e m i;rw[← x j h]at i;exact ok.own j t q e m i
  ·rcases get j t b with⟨h,e⟩ | ⟨h,e⟩;exact c.par j t q e m i;rw[← x j h]at i;exact ok.par j t q e m i
 ·refine⟨λa o e n=>st.fr a o e λz=>?_,st.dom,λa ⟨j,t,b,m,u⟩=>?_,λa ⟨j,t,b,m,u⟩=>?_,λj t b=>?_,λj t b m=>?_,λj t b m=>?_⟩;obtain⟨D,E,k,f,v,F⟩:=s a z;exact n ⟨D,E,f,v,F⟩;rcases get j t b with⟨h,e⟩ | ⟨h,e⟩;exact .inl ⟨j,t,e,m,u⟩;rw[← x j h]at u;rcases st.mu a ⟨j,t,e,m,u⟩with z | z;obtain⟨D,E,k,f,v,F⟩:=s a z;exact .inl ⟨D,E,f,v,F⟩;exact .inr z;rcases get j t b with⟨h,e⟩ | ⟨h,e⟩;exact .inl ⟨j,t,e,m,u⟩;rw[← x j h]at u;rcases st.nv a ⟨j,t,e,m,u⟩with z | z;obtain⟨D,E,k,f,v,F⟩:=I a z;exact .inl ⟨D,E,f,v,F⟩;exact .inr z;by_cases h:j∈ow;exact⟨t,by rw[tJ ow σ1 τ j h A];exact b⟩;obtain⟨g,T⟩:=st.kp j t (by rw[G j h];exact b);exact⟨g,by rw[mT ow σ1 τ j h];exact T⟩;by_cases h:j∈ow;exact⟨t,by rw[tJ ow σ1 τ j h A];exact b,rfl,λ_=>rfl,rfl⟩;obtain⟨g,T,k,f,v⟩:=st.fix j t (by rw[G j h];exact b) m;exact⟨g,by rw[mT ow σ1 τ j h];exact T,k,f,rfl⟩;rcases get j t b with⟨h,e⟩ | ⟨h,e⟩;exact⟨t,e,m⟩;obtain⟨W,Y,Z⟩:=st.lt j t e m;exact⟨W,(B j W Y).2,Z⟩
end
noncomputable def aV3(ow:List Nat)(g:DG)(t:DT)(e:DE):List D->Sg->Option (List D×Sg)
 | [],a=>some ([],a)
 | d :: r,a=>(g d a).bind λb=>(t b).bind λx=>if x.1=true then(e x.2).bind λy=>match y.1 with
     | .val d'=>(aV3 ow g t e r (cV ow y.2)).bind λz=>some (d'::z.1,z.2)
     | _=>none else aV3 ow g t e r (cV ow x.2)
noncomputable def iB:DT:=λσ=>some (true,σ)
noncomputable def cE(ow:List Nat)(ri:DI)(g:DG)(t:DT)(e:DE):DE:=λσ=>(ri σ).bind λx=>if x.1.length<=sizeLine then(aV3 ow g t e x.1 (cV ow (lendO x.2.1 x.2.2))).bind λy=>
 some (.own (.lst y.1),aC6 x.2.1 x.2.2 (oE ow (lendO x.2.1 x.2.2) y.2))else none
def aN4{Γ:Gm}{ow:List Nat}{ri:DI}{g:TG}{gd:DG}{t:DT}{e:DE}(hg:cE2 ow g gd){σV:St}{H:Hp}{Q:VK}(h:dTE Γ (cE ow ri gd t e) σV H Q) :
  bH9 ow (dTI Γ ri) g (dTT Γ t) (dTE Γ e) σV H Q:=by
 obtain⟨σ,ok,res,σ',x,k⟩:=h;obtain⟨⟨items,l,c⟩,e1,x⟩:=aE x;dsimp only at x;split at x
 case isFalse=>cases x
 case isTrue hlen=>
 obtain⟨⟨all,τe⟩,e2,x⟩:=aE x;cases x;refine⟨σ,ok,items,l,c,e1,λJ I P K L B stay=>?_⟩;have bl:(blank ow σV).length=σV.length:=jI ow σV;have bo:∀ j,j∉ow->(blank ow σV)[j]? = σV[j]?:=λj r=>iO ow σV j r;have M:StOk Γ I (lendO l c) σV:=K.lendO;have okB:StOk Γ I (cV ow (lendO l c)) (blank ow σV):=M.blank bl bo;have hb:∀ (j:Nat) t,(cV ow (lendO l c))[j]? = some (some t)->j∉ow:=λj t ej=>(dE ow _ j t ej).1
 -- a step within,as a step of the q
 have q:∀ o d,StOk Γ d o (blank ow σV)->Step (cV ow (lendO l c)) (blank ow σV) I o (blank ow σV) d->StOk Γ d (oE ow (lendO l c) o) σV/\Step (lendO l c) σV I (oE ow (lendO l c) o) σV d:=
  λo d s u=>cV6 M s bo bl u
 refine⟨λi m ys d=>m=items.length-i/\i<=items.length/\∃ o don mL,aV3 ow gd t e (items.drop i) o=some (mL,τe)/\don++mL=all/\don.length<=i/\Rps d don ys/\StOk Γ d o (blank ow σV)/\Step (cV ow (lendO l c)) (blank ow σV) I o (blank ow σV) d,
  ⟨items.length,by simp,Nat.zero_le _,cV ow (lendO l c),[],all,by simpa using e2,rfl,a7c _,.nil,okB,.refl⟩,?_⟩
 rintro i m ys d ⟨rfl,hi,o,don,mL,f,n,hdl,X,s,u⟩;have hyl:=X.length;obtain⟨okw,N⟩:=q o d s u;have hP:=stay _ σV d N;refine⟨by lia,?_⟩;by_cases w:i < items.length
 ·have ei:items[i]? = some items[i]:=a1a w;refine .inr ⟨B.go d i _ hP ei,λy Y hy=>?_⟩;obtain⟨C,ry⟩:=B.yld d i _ y Y hP ei hy;rw[List.drop_eq_getElem_cons w]at f;obtain⟨O,eg,f⟩:=aE f;obtain⟨⟨b,D⟩,et,f⟩:=aE f;refine hg Γ Y _ _ _ o (blank ow σV) _ y O _ (s.same C) (u.trans (.same C)) ry eg λσV3 R S l3 Z=>?_;have z:Ext d Y:=.same C;refine⟨O,R,b,D,et,λH4 E F=>?_⟩;have A:Ext Y H4:=F.ext R;dsimp only at f;split at f;rename_i hbt;dsimp only;rw[a4y hbt];obtain⟨⟨r5,T⟩,ee,f⟩:=aE f;refine⟨D,E,r5,T,ee,λv H5 ok5 r5' U f5=>?_⟩;dsimp only at f;split at f;rename_i d';obtain⟨⟨G,τe'⟩,ec',f⟩:=aE f;cases f;refine⟨_,by lia,rfl,w,cV ow T,don++[d'],G,ec',by rw[← n];simp,by simp;lia,?_,ok5.blank (by rw[l3]) (λj r=>((Z j r).1).symm),Step.blank hb ((S.trans F).trans U) λj r=>((Z j r).1).symm⟩;exact((X.mono z).mono A |>.mono (U.ext E)).append (.cons r5' .nil);cases f;rename_i hbf;dsimp only;rw[a4z hbf];refine⟨_,by lia,rfl,w,cV ow D,don,mL,f,n,by lia,(X.mono z).mono A,E.blank (by rw[l3]) (λj r=>((Z j r).1).symm),Step.blank hb (S.trans F) λj r=>((Z j r).1).symm⟩
 ·have e0:i=items.length:=by lia
  subst e0;rw[List.drop_length]at f;cases f;rw[a0g]at n;subst n;refine .inl ⟨B.stop d hP,λp hp=>?_⟩;obtain⟨V,W⟩:=aH0 K okw N;have C:aT2 d (upd d p (.lst ys)):=cH hp;have nw:aU9 d (upd d p (.lst ys)) (.own (.lst don)) (.ref p):=⟨p,rfl,hp,ys,aY,X.mono (.same C)⟩;exact k _ _ (V.same C) (nw.res V) ((L.trans W).trans (.same C)) (nw.frh.back (L.trans W))
def bZ{X:Cx}{ow:List Nat}{ex:Expr}{ri:DI}{g:TG}{a:DG}{t:DT}{e:DE}(b:cE2 ow g a)(h:∀ Γ,PE X ex (bH9 ow (dTI Γ ri) g (dTT Γ t) (dTE Γ e))):GE X ex (cE ow ri a t e):=.mk λΓ=>peW (h Γ) λ_ _ _=>aN4 b
def cX{X:Cx}{Γ:Gm}:cM0 X [] (dTT Γ iB):=λpins s σ H Q I ⟨a,ok,b,σ',e,k⟩=>aF9 pins s σ H Q I (by cases e;exact k H ok .refl)
def cN{X:Cx}{Γ:Gm}{c:Expr}{t:DT}(h:GT X c t):cM0 X [c] (dTT Γ t):=bA9 (h.to Γ)
def iG{X:Cx}{E:Ex}{ow:List Nat}{i:Nat}{st:Stmt}{ri:DI}{g:TG}{a:DG}{t:DT}{e:DE}(b:cE2 ow g a)(h:∀ Γ,PS X st (λD σ H=>bH9 ow (dTI Γ ri) g (dTT Γ t) (dTE Γ e) σ H λv c=>D.nx (σ.set i (some v)) c)):GS E X st (cG i (cE ow ri a t e)):=.mk λΓ=>psW (h Γ) λD σV H h=>aN4 b (bC7 h)
abbrev Run:=List Sl->Option (Res×List Sl)
structure ArgOk(H:Hp)(as:List Sl)(vs:List V):Prop where
 len:as.length=vs.length
 rel:∀ (i:Nat) s,as[i]? = some s->∃ v,vs[i]? = some v/\cD6 H s v
 dis:∀ (i j:Nat) s t p,i≠j->as[i]? = some s->as[j]? = some t->s.m.mt=true->t.m≠.val->vs[i]? = some (.ref p)->vs[j]? = some (.ref p)->False
 own:∀ (i:Nat) s,as[i]? = some s->s.m≠.own
def cV7(as:List Sl)(vs:List V)(a:Addr):Prop:=∃ (i:Nat) (s:Sl),as[i]? = some s/\s.m.mt=true/\vs[i]? = some (.ref a)
structure PostOk(as:List Sl)(vs:List V)(H:Hp)(as':List Sl)(H':Hp):Prop where
 rel:∀ (i:Nat) s,as[i]? = some s->s.m.mt=true->∃ s' v,as'[i]? = some s'/\s'.m=s.m/\vs[i]? = some v/\cD6 H' s' v
 fr:∀ a o,H a=some o->¬ cV7 as vs a->H' a=some o
 dom:∀ a,H' a=none->H a=none
def dsp(n:Nat)(run:Run):Sp:=λvs H Q _=>∃ as res as',ArgOk H as vs/\as.length=n/\run as=some (res,as')/\∀ v H',PostOk as vs H as' H'->aU9 H H' res v->Q v H'
noncomputable def dC9(σ:Sg):Res->Option Res
 | .val d=>some (.val d)
 | .own d=>some (.own d)
 | .slot i=>match σ[i]? with
   | some (some s)=>if s.m=.own then some (.own s.d)else if s.m=.val then some (.val s.d)else none
   | _=>none
noncomputable def uB:List Sl->Sg->List Sl
 | [],_=>[]
 | a::as,some s::σ=>(if a.m=.val then a else s)::uB as σ
 | a::as,_::σ=>a::uB as σ
 | a::as,[]=>a::as
noncomputable def ini(len:Nat)(as:List Sl):Sg:=as.map some++List.replicate (len-as.length) none
noncomputable def mM(len:Nat)(a:DS):Run:=λas=>(a (ini len as)).bind λo=>match o with
 | .nx σ=>some (.val .non,uB as σ)
 | .rt r σ=>(dC9 σ r).bind λb=>some (b,uB as σ)
 | _=>none
def oF{len:Nat}{as:List Sl}{i:Nat}{s:Sl}:(ini len as)[i]? = some (some s)↔as[i]? = some s:=by
 unfold ini;by_cases h:i < as.length;rw[a8f (by simpa using h),a5c];cases as[i]? <;> simp;rw[a6f (by simpa using h),List.getElem?_replicate,a4d.mpr (by lia)];split<;>simp
def kK{N:List Str}{vs:List V}{i:Nat}{v:V}:(L2.lH N vs)[i]? = some (some v)↔vs[i]? = some v:=by
 unfold L2.lH;by_cases h:i < vs.length;rw[a8f (by simpa using h),a5c];cases vs[i]? <;> simp;rw[a6f (by simpa using h),List.getElem?_replicate,a4d.mpr (by lia)];split<;>simp
theorem bC9:∀ {as:List Sl} {σ:Sg} {i:Nat} {a s:Sl},as[i]? = some a->σ[i]? = some (some s)->(uB as σ)[i]? = some (if a.m=.val then a else s)
 | [],_,_,_,_,h,_=>by simp at h
 | _::_,[],_,_,_,_,h=>by simp at h
 | a::as,o::σ,0,b,s,h,h'=>by
   simp at h h';subst h h';unfold uB;simp
 | a::as,o::σ,i+1,b,s,h,h'=>by
   have:=bC9 (as:=as) (σ:=σ) (i:=i) (a:=b) (s:=s) (by simpa using h) (by simpa using h');cases o<;>(unfold uB;simpa using this)
section
variable{P:Program}{w:World}{K:W.Frag}{mg:Str->Option Value}{base:Heap}
abbrev MS:=Sg->(Out->Prop)->Prop
abbrev MC:=List Sl->(Res->List Sl->Prop)->Prop
def bD0(m:MS):Prop:=∀ σ (Q a:Out->Prop),(∀ o,Q o->a o)->m σ Q->m σ a
def mTS(Γ:Gm)(E:Ex)(m:MS):TS:=λD σV H=>∃ σ,StOk Γ H σ σV/\m σ λo=>bS2 Γ E σ σV H o D
structure GM(E:Ex)(X:Cx)(ss:List Stmt)(m:MS):Prop where
 to:∀ Γ,PSs X ss (mTS Γ E m)
 mon:bD0 m
def bS6(n:Nat)(C:MC):Sp:=λvs H Q _=>∃ as,ArgOk H as vs/\as.length=n/\C as λres as'=>∀ v H',PostOk as vs H as' H'->aU9 H H' res v->Q v H'
def eC3(as:List Sl)(K:Res->List Sl->Prop)(o:Out):Prop:=match o with
 | .nx σ=>K (.val .non) (uB as σ)
 | .rt r σ=>∃ a,dC9 σ r=some a/\K a (uB as σ)
 | _=>False
def dD0(len:Nat)(m:MS):MC:=λas K=>m (ini len as) (eC3 as K)
def aV4{x qual:Str}{st:Stmt}{f:Addr}{fd:FuncData}{N ps:List Str}{k:Nat}(F:Fun K x qual st f fd)(S:FnScope N ps (aW st))(T:ps.length<=N.length)(m:MS)(hm:bD0 m)
  (U:∀ (cdv:Value) (A:Around) (outer:List Env) (s:Shared) (H:Hp) (E:XK),Room k (A.deeper (PyProof.Rows.envOfC qual (aW st) s.heap.objs.size f cdv))->∀ Γ,PSs (cL5 CX0 P w K mg base N qual (aW st) f cdv A outer s H E).nox (qZ st) (mTS Γ Ex.no m)) :
  FnOk P w K mg base CX0 (k+1) f fd ps (bS6 ps.length (dD0 N.length m)):=by
 refine F.ok S (λvs H Q E Z1=>by obtain⟨as,ok,L,_⟩:=Z1;rw[← ok.len];exact L) λcdv A outer s H vs Q E V h=>?_;obtain⟨as,ok,L,h⟩:=h;refine⟨_,U cdv A outer s H E V ⟨H,cV7 as vs⟩,ini N.length as,?_,hm _ _ _ (λo k=>?_) h⟩;refine⟨λi s e=>?_,λi j s t p n u I m W e X=>?_,λi s p u m=>?_,λi s p u m e=>?_,λa o e _=>e,λa e=>e,?_⟩;obtain⟨v,B,r⟩:=ok.rel i s (oF.mp e);exact⟨v,kK.mpr B,r⟩;exact ok.dis i j s t p n (oF.mp u) (oF.mp I) m W (kK.mp e) (kK.mp X);exact absurd m (ok.own i s (oF.mp u));exact⟨i,s,oF.mp u,by rw[m];rfl,kK.mp e⟩;unfold ini L2.lH;have:=ok.len;simp;lia;have y:∀ σ σV' H',StOk ⟨H,cV7 as vs⟩ H' σ σV'->Step (ini N.length as) (L2.lH N vs) H σ σV' H'->PostOk as vs H (uB as σ) H':=λσ σV' H' b g=>by
  have Y:∀ a,sV (ini N.length as) (L2.lH N vs) a->cV7 as vs a:=λa ⟨j,t,I,m,Z⟩=>⟨j,t,oF.mp I,m,kK.mp Z⟩;refine⟨λi a u m=>?_,λa o e n=>g.fr a o e λz=>n (Y a z),g.dom⟩;have M:a.m=.par:=by
   have h0:=ok.own i a u;cases q:a.m with
   | par=>rfl
   | own=>exact absurd q h0
   | val=>rw[q]at m;cases m
   | lent=>rw[q]at m;cases m
  obtain⟨s',es,ms,_,D⟩:=g.fix i a (oF.mpr u) (.inl M);obtain⟨v,B,r⟩:=b.rel i s' es;obtain⟨v0,O,_⟩:=ok.rel i a u;have:some (some v)=some (some v0):=by rw[← B,D];exact kK.mpr O
  cases this;refine⟨s',v,?_,ms,O,r⟩;rw[bC9 u es,a4z (by rw[M];exact λz=>nomatch z)]
 cases o with
 | nx σ=>
   exact λσV' H' b g=>k .non H' (y σ σV' H' b g) .non
 | rt r σ=>
   obtain⟨res,B,k⟩:=k;intro v σV' H' b J g;refine k v H' (y σ σV' H' b g) ?_;cases r with
   | val d=>cases B;exact J
   | own d=>
     cases B;obtain⟨p,G,C,q3,q4⟩:=J;exact⟨p,G,q4,C⟩
   | slot i=>
     obtain⟨G,s',C⟩:=J;have l:(match σ[i]? with | some (some s)=>if s.m=.own then some (Res.own s.d)else if s.m=.val then some (.val s.d)else none | _=>none)=some res:=B;rw[C]at l;dsimp only at l;obtain⟨v',D,R⟩:=b.rel i s' C;rw[G]at D;cases D;split at l
     ·rename_i hm;cases l;obtain⟨p,rfl,ow⟩:=(eP (by rw[hm];exact λz=>nomatch z)).mp R;exact⟨p,rfl,b.own i s' p C hm G,ow⟩
     ·split at l;rename_i hm;cases l;obtain⟨m,d⟩:=s';cases hm;exact R;cases l
 | bk σ=>exact k.elim
 | ct σ=>exact k.elim
 | ex c f σ=>exact k.elim
def bX{x qual:Str}{st:Stmt}{f:Addr}{fd:FuncData}{N ps:List Str}{k:Nat}(F:Fun K x qual st f fd)(S:FnScope N ps (aW st))(d:ps.length<=N.length)(b:DS)
  (g:∀ (cdv:Value) (A:Around) (outer:List Env) (s:Shared) (H:Hp) (E:XK),Room k (A.deeper (PyProof.Rows.envOfC qual (aW st) s.heap.objs.size f cdv))->GSs Ex.no (cL5 CX0 P w K mg base N qual (aW st) f cdv A outer s H E).nox (qZ st) b) :
  FnOk P w K mg base CX0 (k+1) f fd ps (dsp ps.length (mM N.length b)):=
 (aV4 F S d (λσ Q=>∃ o,b σ=some o/\Q o) (λσ Q m w ⟨o,e,q⟩=>⟨o,e,w o q⟩) λcdv A outer s H E h Γ=>dK8 ((g cdv A outer s H E h).to Γ) λD σV H ⟨σ,ok,o,e,q⟩=>⟨σ,ok,o,e,q⟩).imp
  λvs H Q E ⟨as,res,as',ok,i,a,k⟩=>by
   obtain⟨o,j,a⟩:=aE a;refine⟨as,ok,i,o,j,?_⟩;cases o with
   | nx σ=>cases a;exact k
   | rt r σ=>
     obtain⟨n,l,a⟩:=aE a;cases a;exact⟨_,l,k⟩
   | bk σ=>cases a
   | ct σ=>cases a
   | ex c f σ=>cases a
end
noncomputable def aV5(σ:Sg):Res->Option Sl
 | .val d=>some ⟨.val,d⟩
 | .own d=>some ⟨.par,d⟩
 | .slot i=>match σ[i]? with
   | some (some s)=>some ⟨if s.m.mt=true then .par else s.m,s.d⟩
   | _=>none
noncomputable def uC(σ:Sg):List Res->Option (List Sl)
 | []=>some []
 | r::rs=>(aV5 σ r).bind λa=>(uC σ rs).bind λas=>some (a::as)
noncomputable def bD1(i:Nat):List Res->Bool
 | []=>false
 | .slot j::rs=>decide (i=j)||bD1 i rs
 | _::rs=>bD1 i rs
noncomputable def fB:List Res->Bool
 | []=>true
 | .slot i::rs=>!bD1 i rs&&fB rs
 | _::rs=>fB rs
noncomputable def mU(j:Nat):List Res->List Sl->Option Sl
 | .slot i::rs,a::as=>if i=j then some a else mU j rs as
 | _::rs,_::as=>mU j rs as
 | _,_=>none
noncomputable def lP(rs:List Res)(as:List Sl):Nat->Sg->Sg
 | _,[]=>[]
 | k,some s::σ=>(match mU k rs as with
   | some a=>some (if s.m.mt=true then⟨s.m,a.d⟩else s)
   | none=>some s)::lP rs as (k+1) σ
 | k,none::σ=>none::lP rs as (k+1) σ
noncomputable def aV(n:Nat)(run:Run)(a:DA):DE:=λσ=>(a σ).bind λx=>(uC x.2 x.1).bind λas=>if as.length=n/\fB x.1=true then(run as).bind λy=>some (y.1,lP x.1 y.2 0 x.2)else none
theorem aC8{σ:Sg}:∀ {rs:List Res} {as:List Sl},uC σ rs=some as->as.length=rs.length/\∀ (k:Nat) r,rs[k]? = some r->∃ a,as[k]? = some a/\aV5 σ r=some a
 | [],as,h=>by cases h;exact⟨rfl,λk r e=>by simp at e⟩
 | r::rs,as,h=>by
   obtain⟨a,b,h⟩:=aE h;obtain⟨as',c,h⟩:=aE h;cases h;obtain⟨l,g⟩:=aC8 c;refine⟨by simp[l],λk d e=>?_⟩;cases k with
   | zero=>simp at e;subst e;exact⟨a,rfl,b⟩
   | succ k=>
     obtain⟨f,i,j⟩:=g k d (by simpa using e);exact⟨f,by simpa using i,j⟩
theorem ResOks.get{Γ:Gm}{H:Hp}{σ:Sg}{σV:St}:∀ {rs:List Res} {vs:List V},ResOks Γ H σ σV rs vs->rs.length=vs.length/\∀ (k:Nat) r,rs[k]? = some r->∃ v,vs[k]? = some v/\mS Γ H σ σV r v
 | _,_,.nil=>⟨rfl,λk r e=>by simp at e⟩
 | _,_,.cons h t _=>by
   obtain⟨l,g⟩:=ResOks.get t;refine⟨by simp[l],λk a e=>?_⟩;cases k with
   | zero=>simp at e;subst e;exact⟨_,rfl,h⟩
   | succ k=>
     obtain⟨b,c,d⟩:=g k a (by simpa using e);exact⟨b,by simpa using c,d⟩
theorem ResOks.dis{Γ:Gm}{H:Hp}{σ:Sg}{σV:St}:∀ {rs:List Res} {vs:List V},ResOks Γ H σ σV rs vs->∀ (k l:Nat) d d' p,k < l->rs[k]? = some (.own d)->rs[l]? = some (.own d')->vs[k]? = some (.ref p)->vs[l]? ≠ some (.ref p)
 | _,_,.nil,k,l,d,d',p,_,e,_,_=>by simp at e
 | _,_,.cons h t q,k,l,d,d',p,b,e,a,ev=>by
   cases l with
   | zero=>lia
   | succ l=>
     cases k with
     | zero=>
       simp at e ev;subst e ev;intro z;exact q d p rfl rfl l d' (by simpa using a) (by simpa using z)
     | succ k=>
       intro z;exact ResOks.dis t k l d d' p (by lia) (by simpa using e) (by simpa using a) (by simpa using ev) (by simpa using z)
theorem tK{i:Nat}:∀ {rs:List Res} {k:Nat},rs[k]? = some (.slot i)->bD1 i rs=true
 | [],_,h=>by simp at h
 | r::rs,0,h=>by simp at h;subst h;simp[bD1]
 | r::rs,k+1,h=>by
   have:=tK (rs:=rs) (k:=k) (by simpa using h);cases r<;>simp[bD1,this]
theorem rF:∀ {rs:List Res},fB rs=true->∀ (k l i:Nat),rs[k]? = some (.slot i)->rs[l]? = some (.slot i)->k=l
 | [],_,k,l,i,h,_=>by simp at h
 | r::rs,hn,k,l,i,h,h'=>by
   cases k with
   | zero=>
     cases l with
     | zero=>rfl
     | succ l=>
       simp at h;subst h;unfold fB at hn;rw[a2f]at hn;rw[tK (k:=l) (by simpa using h')]at hn;simp at hn
   | succ k=>
     cases l with
     | zero=>
       simp at h';subst h';unfold fB at hn;rw[a2f]at hn;rw[tK (k:=k) (by simpa using h)]at hn;simp at hn
     | succ l=>
       have a:fB rs=true:=by
        cases r with
        | slot j=>unfold fB at hn;rw[a2f]at hn;exact hn.2
        | val d=>exact hn
        | own d=>exact hn
       exact a4F Nat.succ (rF a k l i (by simpa using h) (by simpa using h'))
theorem jE{j:Nat}:∀ {rs:List Res} {as:List Sl} {a:Sl},mU j rs as=some a->∃ k:Nat,rs[k]? = some (.slot j)/\as[k]? = some a
 | [],_,_,h=>by simp[mU]at h
 | r::rs,[],_,h=>by cases r<;>simp[mU]at h
 | r::rs,a::as,b,h=>by
   cases r with
   | slot i=>
     have h':(if i=j then some a else mU j rs as)=some b:=h;split at h';rename_i e;cases h';subst e;exact⟨0,rfl,rfl⟩
     ·obtain⟨k,c,f⟩:=jE h';exact⟨k+1,by simpa using c,by simpa using f⟩
   | val d=>obtain⟨k,c,f⟩:=jE (rs:=rs) (as:=as) h;exact⟨k+1,by simpa using c,by simpa using f⟩
   | own d=>obtain⟨k,c,f⟩:=jE (rs:=rs) (as:=as) h;exact⟨k+1,by simpa using c,by simpa using f⟩
noncomputable def qG(rs:List Res)(as:List Sl)(k:Nat)(o:Option Sl):Option Sl:=match o with
 | some s=>(match mU k rs as with
   | some a=>some (if s.m.mt=true then⟨s.m,a.d⟩else s)
   | none=>some s)
 | none=>none
theorem mV{rs:List Res}{as:List Sl}:∀ (k:Nat) (σ:Sg) (j:Nat),(lP rs as k σ)[j]? = (σ[j]?).map (qG rs as (k+j))
 | _,[],_=>by simp[lP]
 | k,o::σ,0=>by cases o<;>simp[lP,qG]
 | k,o::σ,j+1=>by
   have:=mV (rs:=rs) (as:=as) (k+1) σ j;have e:k+1+j=k+(j+1):=by lia
   rw[e]at this;cases o<;>simpa[lP]using this
theorem sI{rs:List Res}{as:List Sl}:∀ (k:Nat) (σ:Sg),(lP rs as k σ).length=σ.length
 | _,[]=>rfl
 | k,o::σ=>by cases o<;>simp[lP,sI (k+1) σ]
def aN5{Γ:Gm}{σ c:Sg}{rs:List Res}{as:List Sl}{σV:St}{H H1:Hp}{vs:List V}(e2:uC c rs=some as)(hc:fB rs=true)(x:StOk Γ H1 c σV)(r1:ResOks Γ H1 c σV rs vs)(D:Step σ σV H c σV H1)
  (f1:∀ (j:Nat) d p,rs[j]? = some (.own d)->vs[j]? = some (.ref p)->H p=none) :
  ArgOk H1 as vs/\∀ r as' v H2,PostOk as vs H1 as' H2->aU9 H1 H2 r v->StOk Γ H2 (lP rs as' 0 c) σV/\mS Γ H2 (lP rs as' 0 c) σV r v/\Step σ σV H (lP rs as' 0 c) σV H2/\Frh H r v:=by
 obtain⟨la,ga⟩:=aC8 e2;obtain⟨lv,gv⟩:=r1.get;have P:∀ (i:Nat) a,as[i]? = some a->∃ r v,rs[i]? = some r/\aV5 c r=some a/\vs[i]? = some v/\mS Γ H1 c σV r v:=λi a A=>by
  have hi:i < rs.length:=by rw[← la];exact(a2a.mp A).1
  have Q:rs[i]? = some rs[i]:=a1a hi;obtain⟨a',R,h2⟩:=ga i _ Q;rw[A]at R;cases R;obtain⟨v,h3,h4⟩:=gv i _ Q;exact⟨_,v,Q,h2,h3,h4⟩
 have g:∀ i a,aV5 c (.slot i)=some a->∃ s,c[i]? = some (some s)/\a=⟨if s.m.mt=true then .par else s.m,s.d⟩:=λi a A=>by
  have Y:(match c[i]? with | some (some s)=>some (⟨if s.m.mt=true then .par else s.m,s.d⟩:Sl) | _=>none)=some a:=A;split at Y
  ·rename_i s f;cases Y;exact⟨s,f,rfl⟩
  ·cases Y
 -- an argument that may change: new,or owned here
 have L:∀ a,cV7 as vs a->sV c σV a\/(H a=none/\¬ cA9 c σV a/\Γ.H₀ a=none):=λa ⟨i,s,S,m,G⟩=>by
  obtain⟨r,v,Q,A,E,M⟩:=P i s S;rw[G]at E;cases E;cases r with
  | val d=>cases A;cases m
  | own d=>
    obtain⟨p,C,T,Z,q4⟩:=M;cases C;exact .inr ⟨f1 i d a Q G,Z,q4⟩
  | slot j=>
    obtain⟨s',f,rfl⟩:=g j s A;obtain⟨C,_⟩:=M;refine .inl ⟨j,s',f,?_,C⟩;by_cases hm:s'.m.mt=true;exact hm;simp only[hm]at m;exact absurd m hm
 have J:ArgOk H1 as vs:=by
  refine⟨by rw[la,lv],λi a S=>?_,λi j s t p nij S w m m' G E=>?_,λi a S=>?_⟩
  ·obtain⟨r,v,Q,A,G,M⟩:=P i a S;refine⟨v,G,?_⟩;cases r with
   | val d=>cases A;exact M
   | own d=>cases A;obtain⟨p,C,T,_⟩:=M;exact⟨p,C,T⟩
   | slot j=>
     obtain⟨s',f,rfl⟩:=g j a A;obtain⟨C,_⟩:=M;obtain⟨v',e4,r4⟩:=x.rel j s' f;rw[C]at e4;cases e4;by_cases hm:s'.m.mt=true;simp only[hm,if_true];exact(eP (s:=⟨.par,s'.d⟩) (λz=>nomatch z)).mpr ((eP (kJ hm)).mp r4);simp only[hm];exact r4
  ·obtain⟨r,v,Q,A,U,M⟩:=P i s S;obtain⟨r2,v2,er2,ea2,ev2,rv2⟩:=P j t w;rw[G]at U;cases U;rw[E]at ev2;cases ev2;have F:∀ l a,aV5 c (.slot l)=some a->a.m≠.val->∃ s,c[l]? = some (some s)/\s.m≠.val/\(a.m.mt=true->s.m.mt=true):=λl a A hm=>by
    obtain⟨s',f,rfl⟩:=g l a A;refine⟨s',f,?_,?_⟩;intro z;simp only[z,Md.mt]at hm;exact hm rfl;intro z;by_cases W:s'.m.mt=true;exact W;simp only[W]at z;exact z
   cases r with
   | val d=>cases A;cases m
   | own d=>
     obtain⟨q,C,T,Z,q4⟩:=M;cases C;cases r2 with
     | val d=>cases ea2;exact m' rfl
     | own d2=>
       rcases Nat.lt_or_gt_of_ne nij with z | z;exact r1.dis i j d d2 p z Q er2 G E
       ·exact r1.dis j i d2 d p z er2 Q E G
     | slot l=>
       obtain⟨s',f,W,_⟩:=F l t ea2 m';exact Z ⟨l,s',f,W,rv2.1⟩
   | slot l=>
     obtain⟨s',f,W,hmt⟩:=F l s A (kJ m);cases r2 with
     | val d=>cases ea2;exact m' rfl
     | own d2=>
       obtain⟨q,C,T,Z,q4⟩:=rv2;cases C;exact Z ⟨l,s',f,W,M.1⟩
     | slot l2=>
       obtain⟨s2,hs2,hm2,_⟩:=F l2 t ea2 m';refine x.dis l l2 s' s2 p (λz=>?_) f hs2 (hmt m) hm2 M.1 rv2.1;subst z;exact nij (rF hc i j l Q er2)
  ·obtain⟨r,v,Q,A,U,M⟩:=P i a S;cases r with
   | val d=>cases A;exact λz=>nomatch z
   | own d=>cases A;exact λz=>nomatch z
   | slot j=>
     obtain⟨s',f,rfl⟩:=g j a A;intro z;by_cases hm:s'.m.mt=true;simp only[hm,if_true]at z;cases z;simp only[hm]at z;have z':s'.m=.own:=z;rw[z']at hm;exact hm rfl
 refine⟨J,λr as' v H2 po nw=>?_⟩;have extA:Ext H1 H2:=by
  refine⟨λp xs h=>po.fr p _ h λz=>?_,λp o u h=>po.fr p _ h λz=>?_⟩;obtain⟨i,s,S,m,G⟩:=z;obtain⟨v,e4,r4⟩:=J.rel i s S;rw[G]at e4;cases e4;obtain⟨q,eq,ow⟩:=(eP (kJ m)).mp r4;cases eq;obtain⟨o,ho,n1,_⟩:=ow.obj;rw[h]at ho;cases ho;exact n1 _ rfl;obtain⟨i,s,S,m,G⟩:=z;obtain⟨v,e4,r4⟩:=J.rel i s S;rw[G]at e4;cases e4;obtain⟨q,eq,ow⟩:=(eP (kJ m)).mp r4;cases eq;obtain⟨o',ho,_,n1⟩:=ow.obj;rw[h]at ho;cases ho;exact n1 _ _ rfl
 have back:∀ (j:Nat) t,(lP rs as' 0 c)[j]? = some (some t)->∃ s,c[j]? = some (some s)/\t.m=s.m/\(t=s\/(s.m.mt=true/\∃ (k:Nat) (a:Sl),rs[k]? = some (.slot j)/\as'[k]? = some a/\t=⟨s.m,a.d⟩)):=λj t w=>by
  rw[mV,a9f]at w;cases q:c[j]? with
  | none=>rw[q]at w;cases w
  | some o=>
    rw[q]at w;cases o with
    | none=>cases w
    | some s=>
      have B:qG rs as' j (some s)=some t:=a0b w;unfold qG at B;refine⟨s,rfl,?_⟩;dsimp only at B;split at B;rename_i a ha;obtain⟨X,R,h2⟩:=jE ha;have N:=a0b B;by_cases hm:s.m.mt=true;rw[a4y hm]at N;subst N;exact⟨rfl,.inr ⟨hm,X,a,R,h2,rfl⟩⟩;rw[a4z hm]at N;subst N;exact⟨rfl,.inl rfl⟩;cases B;exact⟨rfl,.inl rfl⟩
 have fwd:∀ (j:Nat) s,c[j]? = some (some s)->∃ t,(lP rs as' 0 c)[j]? = some (some t)/\t.m=s.m/\(s.m.mt=false->t=s):=λj s w=>by
  rw[mV,a9f,w];show ∃ t,some (qG rs as' j (some s))=some (some t)/\_;unfold qG;dsimp only;split;refine⟨_,rfl,?_,λz=>?_⟩;split<;>rfl;rw[a4z (by rw[z];exact a0c)];exact⟨s,rfl,rfl,λ_=>rfl⟩
 -- a slot that is handed in by no argument that may change
 have quiet:∀ (j:Nat) s t p,c[j]? = some (some s)->(lP rs as' 0 c)[j]? = some (some t)->t=s->s.m≠.val->σV[j]? = some (some (.ref p))->(∀ k:Nat,s.m.mt=true->rs[k]? ≠ some (.slot j))->¬ cV7 as vs p:=by
  intro j s t p f _ _ hm G hno ⟨i,a,S,m,evi⟩;obtain⟨r,v,Q,A,U,M⟩:=P i a S;rw[evi]at U;cases U;cases r with
  | val d=>cases A;cases m
  | own d=>
    obtain⟨q,C,T,Z,q4⟩:=M;cases C;exact Z ⟨j,s,f,hm,G⟩
  | slot l=>
    obtain⟨s',I,rfl⟩:=g l a A;have hmt:s'.m.mt=true:=by
     by_cases h':s'.m.mt=true;exact h';simp only[h']at m;exact absurd m h'
    by_cases z:l=j;subst z;rw[f]at I;cases I;exact hno i hmt Q;exact x.dis l j s' s p z I f hmt hm M.1 G
 have okB:StOk Γ H2 (lP rs as' 0 c) σV:=by
  refine⟨λj t w=>?_,λj l t t' q n w el m m' eq eq'=>?_,λj t q w m eq=>?_,λj t q w m eq=>?_,λa o e n=>?_,λa e=>x.dom a (po.dom a e),by rw[sI];exact x.len⟩
  ·obtain⟨s,f,O,hc'⟩:=back j t w;obtain⟨w',ew,rw'⟩:=x.rel j s f;refine⟨w',ew,?_⟩;by_cases K:s.m.mt=true/\∃ X:Nat,rs[X]? = some (.slot j)
   ·obtain⟨hm,X,hk'⟩:=K;obtain⟨a,ha,hao⟩:=ga X _ hk';obtain⟨v',hv',rv'⟩:=gv X _ hk';have E:σV[j]? = some (some v'):=rv'.1;rw[ew]at E;cases E;obtain⟨s',I,Y⟩:=g j a hao;rw[f]at I;cases I;have am:a.m=.par:=by rw[Y,a4y hm]
    obtain⟨a2,w2,R,h2,h3,h4⟩:=po.rel X a ha (by rw[am];rfl);rw[hv']at h3;cases h3;have ht:t=⟨s.m,a2.d⟩:=by
     rw[mV,a9f,f]at w;have B:qG rs as' j (some s)=some t:=a0b w;unfold qG at B;dsimp only at B;split at B;rename_i b hb;obtain⟨k2,C,T⟩:=jE hb;obtain rfl:=rF hc k2 X j C hk';rw[R]at T;cases T;have:=a0b B;rw[a4y hm]at this;exact this.symm;rename_i hb
     -- no argument at all: the lists part in length
     exfalso;have:∀ {rs:List Res} {as:List Sl} {kk:Nat} {a:Sl},rs[kk]? = some (.slot j)->as[kk]? = some a->mU j rs as≠none:=by
      intro rs
      induction rs with
      | nil=>intro as kk a h;simp at h
      | cons r rs ih=>
        intro as kk a h h';cases as with
        | nil=>simp at h'
        | cons b as=>
          cases kk with
          | zero=>simp at h;subst h;simp[mU]
          | succ kk=>
            have:=ih (as:=as) (kk:=kk) (a:=a) (by simpa using h) (by simpa using h');cases r with
            | slot i=>simp only[mU];split;exact λz=>nomatch z;exact this
            | val d=>exact this
            | own d=>exact this
     exact this hk' R hb
    subst ht;have h5:=(eP (s:=a2) (by rw[h2,am];exact λz=>nomatch z)).mp h4;exact(eP (s:=⟨s.m,a2.d⟩) (kJ hm)).mpr h5
   ·have ht:t=s:=by
     rcases hc' with h | ⟨hm,X,a,R,_⟩;exact h;exact absurd ⟨hm,X,R⟩ K
    rw[ht];refine rw'.mono extA λp o ep m hp=>po.fr p o hp ?_;exact quiet j s t p f w ht m (by rw[ew,ep]) λX hm hk=>K ⟨hm,X,hk⟩
  ·obtain⟨s,f,O,_⟩:=back j t w;obtain⟨s',I,mm',_⟩:=back l t' el;exact x.dis j l s s' q n f I (by rw[← O];exact m) (by rw[← mm'];exact m') eq eq'
  ·obtain⟨s,f,O,_⟩:=back j t w;exact x.own j s q f (O.symm.trans m) eq
  ·obtain⟨s,f,O,_⟩:=back j t w;exact x.par j s q f (O.symm.trans m) eq
  ·refine po.fr a o (x.keep a o e n) λz=>?_;rcases L a z with⟨j,s,f,m,G⟩ | ⟨_,_,z0⟩
   ·cases hq:s.m with
    | own=>rw[x.own j s a f hq G]at e;cases e
    | par=>exact n (x.par j s a f hq G)
    | val=>rw[hq]at m;cases m
    | lent=>rw[hq]at m;cases m
   ·rw[z0]at e;cases e
 have stB:Step σ σV H (lP rs as' 0 c) σV H2:=by
  refine⟨λa o e n=>?_,λa e=>D.dom a (po.dom a e),λa ⟨j,t,w,m,A⟩=>?_,λa ⟨j,t,w,m,A⟩=>?_,λj t w=>?_,λj t w m=>?_,λj t w m=>?_⟩
  ·refine po.fr a o (D.fr a o e n) λz=>?_;rcases L a z with y | ⟨y,_⟩;rcases D.mu a y with y | y;exact n y;rw[e]at y;cases y;rw[e]at y;cases y
  ·obtain⟨s,f,O,_⟩:=back j t w;exact D.mu a ⟨j,s,f,by rw[← O];exact m,A⟩
  ·obtain⟨s,f,O,_⟩:=back j t w;exact D.nv a ⟨j,s,f,by rw[← O];exact m,A⟩
  ·obtain⟨s,f⟩:=D.kp j t w;obtain⟨t',R,_⟩:=fwd j s f;exact⟨t',R⟩
  ·obtain⟨s,f,C,T,Z⟩:=D.fix j t w m;obtain⟨t',R,h2,h3⟩:=fwd j s f;refine⟨t',R,h2.trans C,λz=>?_,Z⟩;rw[h3 (by rw[C,z];rfl)];exact T z
  ·obtain⟨s,f,O,_⟩:=back j t w;exact D.lt j s f (O.symm.trans m)
 refine⟨okB,?_,stB,nw.frh.back D⟩;cases r with
 | val d=>exact nw
 | own d=>
   obtain⟨p,C,T,Z⟩:=nw;refine⟨p,C,Z,λZ0=>?_,x.dom p T⟩;obtain⟨j,t,w,m,A⟩:=Z0;obtain⟨s,f,O,_⟩:=back j t w;obtain⟨o,ho,_⟩:=x.mutObj ⟨j,s,f,by rw[← O];exact m,A⟩;rw[T]at ho;cases ho
 | slot i=>exact nw.elim
def bS7{Γ:Gm}{n:Nat}{run:Run}{g:DA}{E:XK}{σV:St}{H:Hp}{Q:VK}(h:dTE Γ (aV n run g) σV H Q):bH3 (dsp n run) [] E (dTA Γ g) σV H Q:=by
 obtain⟨σ,ok,res,σ',e,k⟩:=h;obtain⟨⟨rs,a⟩,l,e⟩:=aE e;obtain⟨as,i,e⟩:=aE e;dsimp only at e;split at e
 case isFalse=>cases e
 case isTrue b=>
 obtain⟨⟨r,as'⟩,m,e⟩:=aE e;cases e;dsimp only at i b k;refine⟨σ,ok,rs,a,l,λvs o d p f q=>?_⟩;show dsp n run (vs++[]) o Q E;rw[a0g];obtain⟨s,c⟩:=aN5 i b.2 d p f q;refine⟨as,r,as',s,b.1,m,λv j po t=>?_⟩;obtain⟨u,w,x,y⟩:=c r as' v j po t;exact k v j u w x y
def aO{X:Cx}{e:Expr}{n:Nat}{run:Run}{a:DA}{E:XK}(h:∀ Γ,PE X e (bH3 (dsp n run) [] E (dTA Γ a))):GE X e (aV n run a):=.mk λΓ=>peW (h Γ) λ_ _ _=>bS7
section
variable{X:Cx}
def uD(i j:Int):Prop:=dC4 i j\/(Builtin.Int.intBits i<=2 ^ 20/\Builtin.Int.intBits j<=2 ^ 20)
theorem uD.ok{i j:Int}(h:uD i j):IntMulOk i j:=by
 rcases h with h | h;exact h.ok;exact IntMulOk.of_bits h.1 h.2
def cV8:OpR X (binaryOp .Mult) (rI uD λi j=>.int (i*j)):=opI λ_ _ _ _ _ _ _ a q=>PyProof.Rows.mul_int q a.ok
end
noncomputable section
open Classical
noncomputable def ii(f:Int->Int->D):F2:=λd e=>match d,e with
 | .int i,.int j=>some (.val (f i j))
 | _,_=>none
noncomputable def iiC(C:Int->Int->Prop)(f:Int->Int->D):F2:=λd e=>match d,e with
 | .int i,.int j=>if C i j then some (.val (f i j))else none
 | _,_=>none
noncomputable def iu(f:Int->D):F1:=λd=>match d with
 | .int i=>some (.val (f i))
 | _=>none
end
def bD2{g:Int->Int->V}{f:Int->Int->D}(h:∀ H i j,Rp H (f i j) (g i j)):aC4 (rI0 g) (ii f):=by
 intro H c d x y Q res a b e k;unfold ii at e;split at e;cases e;obtain rfl:=eZ a;obtain rfl:=eZ b;exact⟨_,_,rfl,rfl,k _ H (.refl _) (h H _ _)⟩;cases e
def aV6{C:Int->Int->Prop}{g:Int->Int->V}{f:Int->Int->D}(h:∀ H i j,Rp H (f i j) (g i j)):aC4 (rI C g) (iiC C f):=by
 intro H d l x y Q res a b e k;unfold iiC at e;split at e;split at e;rename_i c;cases e;obtain rfl:=eZ a;obtain rfl:=eZ b;exact⟨_,_,rfl,rfl,c,k _ H (.refl _) (h H _ _)⟩;cases e;cases e
def dL8{g:Int->V}{f:Int->D}(h:∀ H i,Rp H (f i) (g i)):dC6 (rU g) (iu f):=by
 intro H d x Q res a e k;unfold iu at e;split at e;cases e;obtain rfl:=eZ a;exact⟨_,rfl,k _ H (.refl _) (h H _)⟩;cases e
noncomputable def dL9:F2:=ii λi j=>.int (i-j)
noncomputable def bL8:F2:=iiC (λ_ j=>0 < j) λi j=>.int (i % j)
noncomputable def dY7:F2:=iiC dC3 λi j=>.int (i ^ j.toNat)
noncomputable def ltI:F2:=ii λi j=>.bl (decide (i < j))
noncomputable def leI:F2:=ii λi j=>.bl (decide (i<=j))
noncomputable def gtI:F2:=ii λi j=>.bl (decide (j < i))
noncomputable def geI:F2:=ii λi j=>.bl (decide (j<=i))
noncomputable def cO4:F1:=iu λi=>.int (-i)
def bS8:aC4 (rI0 λi j=>.int (i-j)) dL9:=bD2 λ_ _ _=>.int _
def jY:aC4 (rI (λ_ j=>0 < j) λi j=>.int (i % j)) bL8:=aV6 λ_ _ _=>.int _
def cV9:aC4 (rI dC3 λi j=>.int (i ^ j.toNat)) dY7:=aV6 λ_ _ _=>.int _
def aH2:aC4 (rI0 λi j=>.bl (decide (i < j))) ltI:=bD2 λ_ _ _=>.bl _
def rG:aC4 (rI0 λi j=>.bl (decide (j < i))) gtI:=bD2 λ_ _ _=>.bl _
def cW0:aC4 (rI0 λi j=>.bl (decide (j<=i))) geI:=bD2 λ_ _ _=>.bl _
def aH3:dC6 (rU λi=>.int (-i)) cO4:=dL8 λ_ _=>.int _
section
variable{X:Cx}{pins:List (Addr×Obj)}{σ:St}{H:Hp}{s:Shared}{l:Addr}{xs:List V}
def aH4(I:Inv X pins σ H s)(h:iI H l=some (true,xs)):xs.length<=sizeLine/\∃ (a:List Value) (n:Nat),dI xs a/\xs.length=a.length/\s.heap.get? l=some {cls:=.type "list",data:=.seq a.toArray n}:=by
 unfold iI at h;split at h;rename_i e;cases h;exact I.lstM e;cases h;rename_i o ys e;cases h;obtain⟨_,z,a,n,r,e⟩:=I.hok l _ e;exact⟨z,a,n,r,r.length,e⟩;cases h
end
def dM0:R2:=λx y H Q=>∃ l b xs zs,x=.ref l/\y=.ref b/\iI H l=some (true,xs)/\iI H b=some (true,zs)/\xs.length+zs.length<=sizeLine/\∀ p,H p=none->Q (.ref p) (upd H p (.lst (xs++zs)))
def cW1{X:Cx}:OpR X (binaryOp .Add) dM0:=by
 intro pins s σ H x y v u Q I d f h;obtain⟨l,b,xs,p,rfl,rfl,g,i,t,q⟩:=h;cases d;cases f;obtain⟨z,c,n,r,w,e⟩:=aH4 I g;obtain⟨A,a,n2,j,k,m⟩:=aH4 I i;refine PySem.P.add_list e m ?_ (by rw[a2b,a2b];lia);have o:c.toArray++a.toArray=(c++a).toArray:=by simp
 rw[o];exact⟨.ref _,_,I.lnew (t':=s.toks) (r.append j) (by rw[a5a];lia),rfl,q _ I.fresh⟩
def dM1:R2:=λx y H Q=>cD4 x y H Q\/dM0 x y H Q
def bG{X:Cx}:OpR X (binaryOp .Add) dM1:=bB7.or cW1
noncomputable def iC:F2:=λd e=>match d,e with
 | .int i,.int j=>some (.val (.int (i+j)))
 | .str a,.str b=>if a.length+b.length<=sizeLine then some (.val (.str (a++b)))else none
 | .lst l,.lst m=>if l.length+m.length<=sizeLine then some (.own (.lst (l++m)))else none
 | .tup l,.tup m=>if l.length+m.length<=sizeLine then some (.val (.tup (l++m)))else none
 | _,_=>none
def aH5{H:Hp}{p:Addr}{xs:List V}{l:List D}(a:H p=none)(r:Rps H l xs):aU9 H (upd H p (.lst xs)) (.own (.lst l)) (.ref p):=⟨p,rfl,a,xs,aY,r.mono (.same (cH a))⟩
def aV7{H:Hp}{p:Addr}{xs:List V}{l:List D}(a:H p=none)(r:Rps H l xs):aU9 H (upd H p (.tup xs)) (.val (.tup l)) (.ref p):=.tup aY (r.mono (.same (cH a)))
def bH:aC4 dM1 iC:=by
 intro H t u x y Q res d f e k;unfold iC at e;split at e;cases e;obtain rfl:=eZ d;obtain rfl:=eZ f;exact .inl (k _ H (.refl _) (.int _));split at e;rename_i i;cases e;obtain rfl:=lZ d;obtain rfl:=lZ f;exact .inl ⟨i,k _ H (.refl _) (.str _)⟩;cases e;split at e;rename_i l m i;cases e;obtain⟨p,xs,rfl,g,a⟩:=iZ d;obtain⟨q,ys,rfl,h,b⟩:=iZ f;have:=a.length;have:=b.length;exact .inr ⟨p,q,xs,ys,rfl,rfl,g,h,by lia,λr c=>k _ _ (cH c) (aH5 c (a.append b))⟩;cases e
 ·split at e;rename_i l m i;cases e;obtain⟨p,xs,rfl,g,a⟩:=gX d;obtain⟨q,ys,rfl,h,b⟩:=gX f;have o:=a.length;have s:=b.length;refine .inl (.inr ⟨xs,ys,eO g,eO h,by lia,λj=>?_,λj n=>?_,λj n r c=>k _ _ (cH c) (aV7 c (a.append b))⟩);subst j;have:l=[]:=List.eq_nil_of_length_eq_zero o;subst this;exact k _ H (.refl _) (.tup h b);subst n;have:m=[]:=List.eq_nil_of_length_eq_zero s;subst this;rw[a0g]at k;exact k _ H (.refl _) (.tup g a);cases e
 ·cases e
noncomputable section
open Classical
noncomputable def aV8:F2:=λd e=>match d,e with
 | .int i,.int j=>if uD i j then some (.val (.int (i*j)))else none
 | .str z,.int i=>if z.length<=1000/\0<=i/\i<=1000 then some (.val (.str (Txt.mul z i)))else none
 | _,_=>none
end
def dM2:R2:=λx y H Q=>rI uD (λi j=>.int (i*j)) x y H Q\/cU0 x y H Q
def jZ{X:Cx}:OpR X (binaryOp .Mult) dM2:=cV8.or dK2
def kA:aC4 dM2 aV8:=by
 intro H d f x y Q res b c e k;unfold aV8 at e;split at e;split at e;rename_i a;cases e;obtain rfl:=eZ b;obtain rfl:=eZ c;exact .inl ⟨_,_,rfl,rfl,a,k _ H (.refl _) (.int _)⟩;cases e;split at e;rename_i a;cases e;obtain rfl:=lZ b;obtain rfl:=eZ c;exact .inr ⟨a.1,a.2.1,a.2.2,λy _ e=>by subst e;exact k _ H (.refl _) (.str _)⟩;cases e;cases e
noncomputable def ixD:F2:=λd e=>match d,e with
 | .lst l,.int i=>(atI l i).map .val
 | .tup l,.int i=>(atI l i).map .val
 | .str z,.int i=>if z.length<=sizeLine then(atI z.cps.toList i).map λc=>.val (.str ⟨#[c]⟩)else none
 | _,_=>none
theorem Rps.atI{H:Hp}{l:List D}{xs:List V}{i:Int}{d:D}(r:Rps H l xs)(h:L2.atI l i=some d):∃ x,L2.atI xs i=some x/\Rp H d x:=by
 unfold L2.atI at h ⊢;obtain⟨j,a,b⟩:=aE h;rw[← r.length,a];exact r.get b
def dM3:aC4 eB7 ixD:=by
 intro H m n x y Q res f g e k;unfold ixD at e;split at e;obtain rfl:=eZ g;obtain⟨p,xs,rfl,h,i⟩:=iZ f;obtain⟨d,a,b⟩:=a9c.mp e;cases b;obtain⟨x,j,r⟩:=i.atI a;exact⟨x,bP7 h j,k _ H (.refl _) r⟩;obtain rfl:=eZ g;obtain⟨p,xs,rfl,h,i⟩:=gX f;obtain⟨d,a,b⟩:=a9c.mp e;cases b;obtain⟨x,j,r⟩:=i.atI a;exact⟨x,bP7 (eO h) j,k _ H (.refl _) r⟩;split at e;rename_i l;obtain rfl:=eZ g;obtain rfl:=lZ f;obtain⟨c,a,b⟩:=a9c.mp e;cases b;exact⟨_,cT5 l a,k _ H (.refl _) (.str _)⟩;cases e;cases e
def fN{X:Cx}{a b:Expr}{c d:DE}{pos:Pos}(ha:GE X a c)(e:GE X b d)(f:bO0 b):GE X (.Subscript a b pos) (aX ixD c d):=.mk λΓ=>peW (dX3 eE3 (ha.to Γ) (e.to Γ) f) λ_ _ _=>qC dM3
noncomputable def mD:FN:=λa=>match a with
 | [.lst l]=>some (.val (.int l.length))
 | [.tup l]=>some (.val (.int l.length))
 | [.str z]=>if z.length<=sizeLine then some (.val (.int z.length))else none
 | _=>none
def aV9{H:Hp}{d:D}{vs:List V}(h:Vws H [d] vs):∃ x,vs=[x]/\Vw H d x:=by
 cases h with
 | cons a t=>cases t;exact⟨_,rfl,a⟩
def eE7{H:Hp}{d e:D}{vs:List V}(h:Vws H [d,e] vs):∃ x y,vs=[x,y]/\Vw H d x/\Vw H e y:=by
 cases h with
 | cons a t=>
   obtain⟨y,rfl,b⟩:=aV9 t;exact⟨_,_,rfl,a,b⟩
def cQ:bL7 cC6 mD:=by
 intro H d vs Q res vw e k;unfold mD at e;split at e;cases e;obtain⟨x,rfl,v⟩:=aV9 vw;obtain⟨p,xs,rfl,a,b⟩:=iZ v;refine⟨_,_,rfl,aG0 a,?_⟩;rw[← b.length];exact k _ H (.refl _) (.int _);cases e;obtain⟨x,rfl,v⟩:=aV9 vw;obtain⟨p,xs,rfl,a,b⟩:=gX v;refine⟨_,_,rfl,aG0 (eO a),?_⟩;rw[← b.length];exact k _ H (.refl _) (.int _);split at e;rename_i c;cases e;obtain⟨x,rfl,v⟩:=aV9 vw;obtain rfl:=lZ v;exact⟨_,_,rfl,cC9 c,k _ H (.refl _) (.int _)⟩;cases e;cases e
noncomputable def aK8(l:List D)(lo hi:Option Int):List D:=(l.drop (HT.sIx l.length 0 lo)).take (HT.sIx l.length l.length hi-HT.sIx l.length 0 lo)
def Rps.cut{H:Hp}{l:List D}{xs:List V}(r:Rps H l xs)(lo hi:Option Int):Rps H (aK8 l lo hi) (aT8 xs lo hi):=by
 unfold aK8 aT8;rw[r.length];exact(r.drop _).take _
def bS9{xs:List V}{lo hi:Option Int}(h:HT.sIx xs.length 0 lo=0/\HT.sIx xs.length xs.length hi=xs.length):aT8 xs lo hi=xs:=by
 unfold aT8;rw[h.1,h.2];simp
end Dv
namespace HT
open PySem PySem.Spec PyProof.Rows
section
variable{prog:Program}{w:World}{A:Around}{E:Value->Shared->Prop}{s:Shared}
def getItem_tuple_all{t sl:Addr}{items:Array Value}{f g:Value}{lo hi:Option Int}{Q:Value->Shared->Prop}(a:IsTup s.heap t items)(i:s.heap.IsSliceOf sl f g .none)(k:IsPart f lo)(l:IsPart g hi)
  (j:sIx items.size 0 lo=0/\sIx items.size items.size hi=items.size) (h:Q (.ref t) s):wpAny (model prog w) A (getItem (.ref t) (.ref sl)) Q E s:=by
 obtain⟨os,c,d,m⟩:=id i;have e:s.TypeIs (.ref sl) "slice":=⟨os,c,d⟩;unfold getItem
 try with_reducible refine a4E ?_
 first | refine a4x (a4A ?_) | skip
 refine a4x (wpAny_sequenceKey a.typeIs (by decide) ?_);refine a4x (wpAny_callSpecial?_slot (name:=Str.ofString "__getitem__") a.typeIs a1f
  (a4P a1f a.typeIs entry_tuple_getitem ?_ (args_tuple_getitem _ _)))
 show wpAny _ _ (Builtin.Tuple.tupleItemsOf (.ref t) >>= _) _ _ s;refine a4x (tupleItemsOf_ a ?_);refine a4x (a4X e ?_);rw[a4y (by decide)];refine a4x (lY i k l ?_);have b:(((sIx items.size 0 lo:Nat):Int)==0&&(1:Int)==1&&(sIx items.size items.size hi-sIx items.size 0 lo)==items.size)=true:=by
  rw[j.1,j.2];simp
 show wpAny _ _ (if(((sIx items.size 0 lo:Nat):Int)==0&&(1:Int)==1&&(sIx items.size items.size hi-sIx items.size 0 lo)==items.size)=true then _ else _) _ _ s;rw[a4y b];refine a4x ?_;unfold Builtin.Tuple.tupleIsExact;refine a4x (a4X a.typeIs (a4A ?_));rw[a4y (by decide)];refine a4x (a4Z ?_);exact a4A ⟨_,rfl,a4A h⟩
end
end HT
namespace Dv
open PySem L2
def eC4:V->Option Int->Option Int->Hp->VK->Prop:=λx lo hi H Q=>match x with
 | .str z=>z.length<=sizeLine/\Q (.str (Txt.slice z lo hi)) H
 | .ref p=>(∃ xs,iI H p=some (true,xs)/\∀ r,H r=none->Q (.ref r) (upd H r (.lst (aT8 xs lo hi)))) \/
   ∃ xs,iI H p=some (false,xs)/\(aT8 xs lo hi=xs->Q (.ref p) H)/\∀ r,H r=none->Q (.ref r) (upd H r (.tup (aT8 xs lo hi)))
 | _=>False
def eE8{X:Cx}:SlR X eC4:=by
 intro pins s σ H x v f g lo hi sl Q I b c d e h;unfold eC4 at h;split at h;rename_i z;exact dX8 pins s σ H _ v f g lo hi sl Q I b c d e h
 ·rename_i p;rcases h with h | ⟨xs,k,m,n⟩;exact dX8 pins s σ H _ v f g lo hi sl Q I b c d e (.inl h);by_cases i:HT.sIx xs.length 0 lo=0/\HT.sIx xs.length xs.length hi=xs.length
  ·cases b;obtain⟨j,r,l,o⟩:=I.tuple (eY k);have a:j.toArray.size=xs.length:=by rw[a2b];exact r.length.symm
   refine⟨"tuple",_,a1f.lookup,l.typeIs,?_⟩;exact HT.getItem_tuple_all l c d e (by rw[a];exact i) ⟨.ref p,H,I,rfl,m (bS9 i)⟩
  ·exact dX8 pins s σ H _ v f g lo hi sl Q I b c d e (.inr ⟨xs,k,i,n⟩)
 ·exact h.elim
abbrev DO:=Sg->Option (Option Int×Sg)
def dTO(Γ:Gm)(r:DO):TO:=λσV H Q=>∃ σ,StOk Γ H σ σV/\∃ o σ',r σ=some (o,σ')/\∀ H',StOk Γ H' σ' σV->Step σ σV H σ' σV H'->Q o H'
structure GO(X:Cx)(e:Option Expr)(r:DO):Prop where
 to:∀ Γ,PO X e (dTO Γ r)
def poW{X:Cx}{e:Option Expr}{t t':TO}(h:PO X e t)(w:∀ σ H Q,t' σ H Q->t σ H Q):PO X e t':=λpins s σ H Q I q=>h pins s σ H Q I (w σ H Q q)
noncomputable def sZ:DO:=λσ=>some (none,σ)
noncomputable def dP(r:DE):DO:=λσ=>(r σ).bind λx=>(rd x.2 x.1).bind λd=>match d with
 | .int i=>some (some i,x.2)
 | _=>none
def eU{X:Cx}:GO X none sZ:=.mk λΓ=>poW cS3 λσV H Q Z1=>by obtain⟨σ,ok,o,σ',e,k⟩:=Z1;cases e;exact k H ok .refl
def eC{X:Cx}{e:Expr}{r:DE}(h:GE X e r):GO X (some e) (dP r):=.mk λΓ=>poW (cS4 (h.to Γ)) λσV H Q ⟨σ,ok,o,σ',e,k⟩=>by
 obtain⟨⟨x,c⟩,f,e⟩:=aE e;obtain⟨d,g,e⟩:=aE e;dsimp only at e;split at e;cases e;exact⟨σ,ok,x,_,f,λv i a j b _=>⟨_,eZ (j.vw a g),k i a b⟩⟩;cases e
noncomputable def slD(d:D)(lo hi:Option Int):Option Res:=match d with
 | .str z=>if z.length<=sizeLine then some (.val (.str (Txt.slice z lo hi)))else none
 | .lst l=>some (.own (.lst (aK8 l lo hi)))
 | .tup l=>some (.val (.tup (aK8 l lo hi)))
 | _=>none
noncomputable def dSl(r:DE)(a b:DO):DE:=λσ=>(r σ).bind λx=>(a x.2).bind λy=>(b y.2).bind λz=>(rd z.2 x.1).bind λd=>(slD d y.1 z.1).bind λw=>some (w,z.2)
def cY{X:Cx}{e:Expr}{lo hi:Option Expr}{B pos:Pos}{r:DE}{a b:DO}(C:GE X e r)(ha:GO X lo a)(D:GO X hi b):GE X (.Subscript e (.Slice lo hi none B) pos) (dSl r a b):=.mk λΓ=>peW (cB9 eE8 (C.to Γ) (ha.to Γ) (D.to Γ)) λσV H Q ⟨σ,ok,res,σ',e,k⟩=>by
 obtain⟨⟨x,i⟩,E,e⟩:=aE e;obtain⟨⟨lo,j⟩,F,e⟩:=aE e;obtain⟨⟨hi,y⟩,G,e⟩:=aE e;obtain⟨d,I,e⟩:=aE e;obtain⟨w,c,e⟩:=aE e;cases e;refine⟨σ,ok,x,i,E,λv M l J m _=>⟨i,l,lo,j,F,λN n f=>⟨j,n,hi,y,G,λs g h=>?_⟩⟩⟩;have vw:=((J.step l f).step n h).vw g I;have fin:∀ v H',aT2 s H'->aU9 s H' res v->Q v H':=λv H' z A=>k v H' (g.same z) (A.res g) (((m.trans f).trans h).trans (.same z)) (A.frh.back ((m.trans f).trans h));dsimp only at c;unfold slD at c;split at c;split at c;rename_i K;cases c;obtain rfl:=lZ vw;exact⟨K,fin _ s (.refl _) (.str _)⟩;cases c;cases c;obtain⟨p,xs,rfl,t,u⟩:=iZ vw;exact .inl ⟨xs,t,λq o=>fin _ _ (cH o) (aH5 o (u.cut lo hi))⟩;cases c;obtain⟨p,xs,rfl,t,u⟩:=gX vw;refine .inr ⟨xs,eO t,λL=>fin _ s (.refl _) ?_,λq o=>fin _ _ (cH o) (aV7 o (u.cut lo hi))⟩;have:=u.cut lo hi;rw[L]at this;exact .tup t this;cases c
def dM4(K:W.Frag):List V->Hp->VK->Prop:=λxs H Q=>∃ (a:Addr) (bs:List Bool),xs=[.ref a]/\SqL K H a (bs.map V.bl)/\Q (.bl (bs.all id)) H
noncomputable def aN6:List D->Option (List Bool)
 | []=>some []
 | .bl b::r=>(aN6 r).bind λbs=>some (b::bs)
 | _=>none
theorem aH6:∀ {l:List D} {bs:List Bool},aN6 l=some bs->l=bs.map D.bl
 | [],_,h=>by cases h;rfl
 | .bl b::r,_,h=>by
   obtain⟨bs,a,e⟩:=aE h;cases e;rw[aH6 a];rfl
 | .non::_,_,h=>by cases h
 | .int _::_,_,h=>by cases h
 | .str _::_,_,h=>by cases h
 | .tup _::_,_,h=>by cases h
 | .lst _::_,_,h=>by cases h
 | .dic _ _::_,_,h=>by cases h
def aN7(bs:List Bool):aN6 (bs.map D.bl)=some bs:=by
 induction bs with
 | nil=>rfl
 | cons b r a=>show(aN6 (r.map D.bl)).bind _=_;rw[a];rfl
noncomputable def dD1:FN:=λa=>match a with
 | [.lst l]=>(aN6 l).map λbs=>.val (.bl (bs.all id))
 | _=>none
def aW0{K:W.Frag}:bL7 (dM4 K) dD1:=by
 intro H f vs Q res vw e k;unfold dD1 at e;split at e;obtain⟨bs,c,d⟩:=a9c.mp e;cases d;obtain⟨x,rfl,v⟩:=aV9 vw;obtain⟨p,xs,rfl,a,b⟩:=iZ v;rw[aH6 c]at b;rw[b.bls_inv]at a;exact⟨p,bs,rfl,gP a,k _ H (.refl _) (.bl _)⟩;cases e
def uE{X:Cx}(K:W.Frag)(a:X.K=K)(b:X.calm=true):lE X (.builtin "all") (dM4 K):=by rw[← a];exact cC3 b
noncomputable def dY8:FN:=λa=>match a with
 | [.int i,.int j]=>some (.val (.int (if j > i then j else i)))
 | _=>none
noncomputable def bT0:FN:=λa=>match a with
 | [.int i,.int j]=>some (.val (.int (if j < i then j else i)))
 | _=>none
def bD3:bL7 (λxs H Q=>∃ i j,xs=[.int i,.int j]/\Q (.int (if j < i then j else i)) H) bT0:=by
 intro H c vs Q res vw e k;unfold bT0 at e;split at e;cases e;obtain⟨x,y,rfl,a,b⟩:=eE7 vw;obtain rfl:=eZ a;obtain rfl:=eZ b;exact⟨_,_,rfl,k _ H (.refl _) (.int _)⟩;cases e
noncomputable def dD2:FN:=λa=>match a with
 | [.int i]=>some (.val (.int i))
 | [.bl b]=>some (.val (.int (if b then 1 else 0)))
 | _=>none
def bT1:bL7 (λxs H Q=>(∃ i,xs=[.int i]/\Q (.int i) H)\/∃ k,xs=[.bl k]/\Q (.int (if k then 1 else 0)) H) dD2:=by
 intro H b vs Q res vw e k;unfold dD2 at e;split at e;cases e;obtain⟨x,rfl,a⟩:=aV9 vw;obtain rfl:=eZ a;exact .inl ⟨_,rfl,k _ H (.refl _) (.int _)⟩;cases e;obtain⟨x,rfl,a⟩:=aV9 vw;obtain rfl:=aM9 a;exact .inr ⟨_,rfl,k _ H (.refl _) (.int _)⟩;cases e
noncomputable def aH7:FN:=λa=>match a with
 | [.lst l]=>some (.own (.lst l))
 | [.tup l]=>some (.own (.lst l))
 | _=>none
def aH8:bL7 cN6 aH7:=by
 intro H f vs Q res vw e k;unfold aH7 at e;split at e;cases e;obtain⟨x,rfl,a⟩:=aV9 vw;obtain⟨p,xs,rfl,c,d⟩:=iZ a;exact⟨p,true,xs,rfl,c,λq b=>k _ _ (cH b) (aH5 b d)⟩;cases e;obtain⟨x,rfl,a⟩:=aV9 vw;obtain⟨p,xs,rfl,c,d⟩:=gX a;exact⟨p,false,xs,rfl,eO c,λq b=>k _ _ (cH b) (aH5 b d)⟩;cases e
noncomputable def aA6:FN:=λa=>match a with
 | [.lst l]=>some (.val (.tup l))
 | [.tup l]=>some (.val (.tup l))
 | _=>none
def iY:bL7 dK1 aA6:=by
 intro H f vs Q res vw e k;unfold aA6 at e;split at e;cases e;obtain⟨x,rfl,a⟩:=aV9 vw;obtain⟨p,xs,rfl,b,c⟩:=iZ a;exact⟨p,true,xs,rfl,b,λq d=>k _ _ (cH d) (aV7 d c)⟩;cases e;obtain⟨x,rfl,a⟩:=aV9 vw;obtain⟨p,xs,rfl,b,c⟩:=gX a;exact⟨p,false,xs,rfl,eO b,k _ H (.refl _) (.tup b c)⟩;cases e
noncomputable def dY9:D->String
 | .non=>"NoneType"
 | .bl _=>"bool"
 | .int _=>"int"
 | .str _=>"str"
 | .lst _=>"list"
 | .tup _=>"tuple"
 | .dic _ _=>"dict"
noncomputable def dM5(c:String):F1:=λd=>match d with
 | .dic _ _=>none
 | d=>some (.val (.bl (tV (dY9 d) c)))
noncomputable def aN8:FM:=λd a=>match d,a with
 | .lst l,[e]=>if l.length < sizeLine then some (.lst (l++[e]),.non)else none
 | _,_=>none
def rH{H:Hp}{l:List D}{p:Addr}(h:gK H (.lst l) p):∃ xs,H p=some (.lst xs)/\Rps H l xs:=h
def lQ:dY5 bO1 aN8:=by
 intro H d p i vs Q d' e c r b k;unfold aN8 at b;split at b
 ·split at b
  ·rename_i l x g;cases b;obtain⟨xs,h,f⟩:=rH c;cases r with
   | cons a t=>
     cases t;exact⟨p,xs,_,rfl,rfl,h,by rw[← f.length];exact g,k _ _ ⟨_,aY,(f.append (.cons a .nil)).mono (gK.ext c)⟩ .non⟩
  ·cases b
 ·cases b
noncomputable def bI4:FM:=λd a=>match d,a with
 | .lst l,[.lst m]=>if l.length+m.length<=sizeLine then some (.lst (l++m),.non)else none
 | _,_=>none
def dM6:V->List V->Hp->VK->Prop:=λx vs H Q=>∃ l b xs zs,x=.ref l/\vs=[.ref b]/\H l=some (.lst xs)/\iI H b=some (true,zs)/\xs.length+zs.length<=sizeLine/\Q .non (upd H l (.lst (xs++zs)))
def rJ{X:Cx}:MtM X "list.extend" dM6:=by
 intro pins s σ H x vs v us Q I i j h;obtain⟨l,b,xs,w,rfl,rfl,g,k,y,q⟩:=h;cases i;obtain⟨u,rfl,m⟩:=j.one;cases m;obtain⟨z,c,n,r,A,e⟩:=I.lstM g;obtain⟨B,a,n2,o,p,t⟩:=aH4 I k;have f:c.toArray.size+a.toArray.size<=sizeLine:=by rw[a2b,a2b];lia
 have d:¬ (!c.toArray.isEmpty&&Builtin.List.listTooLong (c.toArray.size+a.toArray.size))=true:=by
  rw[bA8 f,Bool.and_false];exact a0c
 refine a4Q F.slot_list_extend ⟨_,e,rfl⟩ F.entry_list_extend (F.args_list_extend_2 _ _)
  (AutoSeq1.list_extend_list_list_0 l c.toArray n b a.toArray n2 d (by rw[a2b];lia) (by lia)) ⟨e,t,?_⟩
 refine⟨.non,_,I.lset (its':=c++a) g e (by simp) (r.append o) ?_,rfl,q⟩;rw[a5a];lia
def rK:eC2 dM6 bI4:=by
 intro H d p j vs Q d' e c r b k;unfold bI4 at b;split at b;split at b;rename_i l m n;cases b;obtain⟨xs,h,f⟩:=rH c;obtain⟨x,rfl,a⟩:=aV9 r;obtain⟨q,ys,rfl,i,g⟩:=iZ a;have:=f.length;have:=g.length;exact⟨p,q,xs,ys,rfl,rfl,h,i,by lia,k _ _ ⟨_,aY,(f.append g).mono (gK.ext c)⟩ .non⟩;cases b;cases b
noncomputable def aN9:FM:=λd a=>match d,a with
 | .lst l,[.int i]=>if -(2 ^ 63)<=i/\i < 2 ^ 63 then(ixN l.length i).bind λj=>(l[j]?).map λy=>(.lst (l.eraseIdx j),y)else none
 | _,_=>none
def bT2:dY5 cL7 aN9:=by
 intro H d p q vs Q d' e c r b k;unfold aN9 at b;split at b
 ·split at b
  ·rename_i l i hi;obtain⟨j,g,b⟩:=aE b;obtain⟨y,h,m⟩:=a9c.mp b;cases m;obtain⟨xs,n,f⟩:=rH c;obtain⟨x,ex,o⟩:=f.get h;cases r with
   | cons a t=>
     cases t;cases a;exact⟨p,xs,i,j,x,rfl,rfl,n,hi.1,hi.2,by rw[← f.length];exact(aT9 g).1,ex,k _ _ ⟨_,aY,(f.eraseIdx j).mono (gK.ext c)⟩ (o.mono (gK.ext c))⟩
  ·cases b
 ·cases b
noncomputable def dV0(i:Int)(e:D):D->Option D
 | .lst l=>(ixN l.length i).map λj=>.lst (l.set j e)
 | _=>none
noncomputable def bI5(k:Nat)(ri c:DE):DS:=λσ=>(c σ).bind λx=>match x.1 with
 | .val d=>if aT3 "list" k x.2=true then(ri x.2).bind λy=>(rd y.2 y.1).bind λe=>match e with
   | .int i=>(cB0 (λa _=>(dV0 i d a).map λb=>(b,.non)) k [] y.2).bind λz=>some (.nx z.2)
   | _=>none else none
 | _=>none
def cO5{X:Cx}{E:Ex}{st:Stmt}{k:Nat}{ri I:DE}(h:∀ Γ,PS X st (cR6 (dTE Γ I) (dW2 (cB5 k) (dTE Γ ri) dH9))):GS E X st (bI5 k ri I):=.mk λΓ=>psW (h Γ) λD σV H ⟨σ,ok,o,e,N⟩=>by
 obtain⟨⟨x,f⟩,O,e⟩:=aE e;refine⟨σ,ok,x,f,O,λv H1 g P u f1=>?_⟩;cases x with
 | own d=>cases e
 | slot d=>cases e
 | val d=>
   have c:(if aT3 "list" k f=true then(ri f).bind λy=>(rd y.2 y.1).bind λJ=>match J with
    | .int i=>(cB0 (λa _=>(dV0 i d a).map λb=>(b,.non)) k [] y.2).bind λz=>some (.nx z.2)
    | _=>none else none)=some o:=e
   split at c
   ·rename_i hn;obtain⟨⟨y,w⟩,Q,c⟩:=aE c;obtain⟨J,R,c⟩:=aE c;obtain⟨s0,A,B,S⟩:=aG8 hn;obtain⟨p,C,ow⟩:=g.ownAt A B;dsimp only at c;split at c
    ·rename_i i;obtain⟨⟨z,T⟩,U,c⟩:=aE c;cases c;obtain⟨s,d',y',K,hm,V,rfl,rfl⟩:=lN U;obtain⟨b,L,W⟩:=a9c.mp V;cases W;refine⟨_,C,f,g,y,w,Q,λvi Y n Z q f2=>?_⟩;obtain rfl:=eZ (Z.vw n R);obtain⟨p',r,t⟩:=n.ownAt K (kJ hm);rw[C]at r;cases r;have rv:Rp Y d v:=Rp.mono (q.ext g) P;obtain⟨m,sd⟩:=s;cases sd with
     | lst l=>
       obtain⟨j,e8,e9⟩:=a9c.mp L;cases e9;obtain⟨xs,h1,M⟩:=rH t;refine⟨p,xs,i,j,rfl,rfl,h1,by rw[← M.length];exact e8,?_⟩;obtain⟨F,G⟩:=n.write (d':=.lst (l.set j d)) (o':=.lst (xs.set j v)) K hm C ⟨_,aY,(M.set j rv).mono (gK.ext t)⟩;exact N _ _ F ((u.trans q).trans G)
     | _=>cases L
    ·cases c
   ·cases c
noncomputable def isD(neg:Bool):F2:=λd e=>match e with
 | .non=>some (.val (.bl (if neg then !decide (d=.non)else decide (d=.non))))
 | .bl b=>(match d with | .bl a=>some (.val (.bl (if neg then !decide (a=b)else decide (a=b)))) | _=>none)
 | _=>none
def bI6{H:Hp}{d:D}{v:V}(h:Vw H d v):decide (v=.non)=decide (d=.non):=by
 rcases h with h | ⟨p,rfl,h⟩;cases h<;>simp;cases d<;>first | exact h.elim | simp
def cO6{neg:Bool}:aC4 (cU3 neg) (isD neg):=by
 intro H c d x y Q res a b e k;unfold isD at e;split at e;cases e;obtain rfl:=bR6 b;show Q (.bl (if neg then !decide (x=.non)else decide (x=.non))) H;rw[bI6 a];exact k _ H (.refl _) (.bl _);split at e;cases e;obtain rfl:=aM9 b;obtain rfl:=aM9 a;exact k _ H (.refl _) (.bl _);cases e;cases e
def bI7(i j:Int):Prop:=0 < j/\j < 18446744073709551616
def bD4{X:Cx}:OpR X (binaryOp .FloorDiv) (rI bI7 λi j=>.int (i / j)):=opI λi j _ _ _ _ _ a q=>by
 have c:(0:Int) < j:=a.1;have d:j < 18446744073709551616:=a.2;refine PyProof.Rows.floordiv_int (by lia) (by rw[Int.fdiv_eq_ediv_of_nonneg i (by lia)];exact q) (.inl (PyProof.noPylong_of_log2 ?_));have h0:j.natAbs≠0:=by lia
 have b:j.natAbs.log2 < 64:=(Nat.log2_lt h0).mpr (by lia);lia
noncomputable def dV1:F2:=iiC bI7 λi j=>.int (i / j)
def bT3:aC4 (rI bI7 λi j=>.int (i / j)) dV1:=aV6 λ_ _ _=>.int _
mutual
def nN:D->PyData
 | .non=>.none
 | .bl b=>.bool b
 | .int i=>.int i
 | .str x=>.str x
 | .tup l=>.tuple (toPys l)
 | .lst l=>.list (toPys l)
 | .dic _ _=>.dict []
def toPys:List D->List PyData
 | []=>[]
 | d::r=>nN d::toPys r
end
section
variable{X:Cx}{pins:List (Addr×Obj)}{σ:St}{H:Hp}{s:Shared}
mutual
theorem bD5(I:Inv X pins σ H s):∀ {d:D} {v:V} {u:Value},Rp H d v->gR v u->(nN d).canLay0=true->∃ as,Reads s.heap u (nN d) as
 | _,_,_,.non,r,_=>by cases r;exact⟨_,.none⟩
 | _,_,_,.bl b,r,_=>by cases r;exact⟨_,.bool b⟩
 | _,_,_,.int i,r,_=>by obtain⟨t,rfl⟩:=r;exact⟨_,.int i t⟩
 | _,_,_,.str x,r,_=>by obtain⟨t,rfl⟩:=r;exact⟨_,.str x t⟩
 | _,_,_,.tup h rs,r,a=>by
   cases r;obtain⟨_,c,f,⟨o,l,g,n,hd⟩,_⟩:=I.hok _ _ h;obtain⟨as,j⟩:=rps_reads I rs f a;exact⟨_,.tuple l g hd (by simpa using j)⟩
 | _,_,_,.lst h rs,r,a=>by
   cases r;obtain⟨_,_,c,n,f,e⟩:=I.hok _ _ h;obtain⟨as,j⟩:=rps_reads I rs f a;exact⟨_,.list e rfl rfl (by simpa using j)⟩
 | _,_,_,.dic h k rs,r,a=>nomatch a
theorem rps_reads(I:Inv X pins σ H s):∀ {l:List D} {vs:List V} {us:List Value},Rps H l vs->dI vs us->PyData.canLayAll0 (toPys l)=true->∃ as,ReadsAll s.heap us (toPys l) as
 | [],_,_,.nil,r,_=>by cases r;exact⟨_,.nil⟩
 | d::l,_,_,.cons a t,r,c=>by
   cases r with
   | cons e f=>
     have b:(nN d).canLay0=true/\PyData.canLayAll0 (toPys l)=true:=by simpa[toPys,PyData.canLayAll0]using c
     obtain⟨as,g⟩:=bD5 I a e b.1;obtain⟨bs,h⟩:=rps_reads I t f b.2;exact⟨_,.cons g h⟩
end
def jS(I:Inv X pins σ H s){d:D}{v:V}{u:Value}(h:Vw H d v)(r:gR v u)(a:(nN d).canLay0=true):∃ as,Reads s.heap u (nN d) as:=by
 rcases h with h | ⟨p,rfl,h⟩;exact bD5 I h r a;cases r;cases d with
 | lst l=>
   obtain⟨xs,b,c⟩:=rH h;obtain⟨_,f,n,g,e⟩:=I.hok _ _ b;obtain⟨as,i⟩:=rps_reads I c g a;exact⟨_,.list e rfl rfl (by simpa using i)⟩
 | dic ks vs=>exact nomatch a
 | _=>exact h.elim
end
noncomputable def tL(d e:D):Bool:=PyData.eqv (nN d) (nN e)
noncomputable def jR(d:D):Bool:=(nN d).canLay0&&decide ((nN d).depth<=60)
def dZ0(neg:Bool):R2:=λx y H Q=>∃ d e,Vw H d x/\Vw H e y/\jR d=true/\jR e=true/\Q (.bl (if neg then !tL d e else tL d e)) H
def iP{d:D}(h:jR d=true):(nN d).canLay0=true/\(nN d).depth<=60:=by
 unfold jR at h;rw[a2f,a4D]at h;exact h
def jJ{X:Cx}(n:X.A.units+64 < cLine):OpR X (compareOp .Eq) (dZ0 false):=by
 intro pins s σ H x y v u Q I c f h;obtain⟨d,e,g,i,j,k,q⟩:=h;obtain⟨a,o⟩:=iP j;obtain⟨b,p⟩:=iP k;obtain⟨as,l⟩:=jS I g c a;obtain⟨bs,m⟩:=jS I i f b;exact SeqAt.rcAt_reads l m a b (by lia) _ _ _ _ ⟨.bl _,H,I,rfl,q⟩
def mE{X:Cx}(n:X.A.units+64 < cLine):OpR X (compareOp .NotEq) (dZ0 true):=by
 intro pins s σ H x y v u Q I c f h;obtain⟨d,e,g,i,j,k,q⟩:=h;obtain⟨a,o⟩:=iP j;obtain⟨b,p⟩:=iP k;obtain⟨as,l⟩:=jS I g c a;obtain⟨bs,m⟩:=jS I i f b;exact SeqAt.rcNeAt_reads l m a b (by lia) _ _ _ _ ⟨.bl _,H,I,rfl,q⟩
noncomputable def eqD(neg:Bool):F2:=λd e=>if jR d=true/\jR e=true then some (.val (.bl (if neg then !tL d e else tL d e)))else none
def eE{neg:Bool}:aC4 (dZ0 neg) (eqD neg):=by
 intro H b c x y Q res d f e k;unfold eqD at e;split at e;rename_i a;cases e;exact⟨b,c,d,f,a.1,a.2,k _ H (.refl _) (.bl _)⟩;cases e
def dZ1(neg:Bool):R2:=λx y H Q=>(∃ i j,x=.str i/\y=.str j/\Q (.bl (if neg then(Builtin.Str.occurrences j i 0 j.length 1).isEmpty else !(Builtin.Str.occurrences j i 0 j.length 1).isEmpty)) H) \/
 ∃ d e b l,Vw H d x/\Vw H e y/\cV0 e=some (b,l)/\jR d=true/\jR e=true/\Q (.bl (if neg then !(l.any λy=>tL y d)else l.any λy=>tL y d)) H
theorem uF(d:D):∀ l:List D,(toPys l).any (λy=>PyData.eqv y (nN d))=l.any λy=>tL y d
 | []=>rfl
 | e::r=>by show(PyData.eqv (nN e) (nN d)||(toPys r).any _)=_;rw[uF d r];rfl
def aO0{e:D}{b:Bool}{l:List D}(h:cV0 e=some (b,l)):PyData.depthAll (toPys l)<=(nN e).depth/\((nN e).canLay0=true->PyData.canLayAll0 (toPys l)=true):=by
 cases e with
 | lst a=>cases h;exact⟨by show _<=PyData.depth (.list (toPys l));simp only[PyData.depth];lia,λz=>z⟩
 | tup a=>cases h;exact⟨by show _<=PyData.depth (.tuple (toPys l));simp only[PyData.depth];lia,λz=>z⟩
 | _=>cases h
def nS{X:Cx}(t:X.A.units+64 < cLine):OpR X (compareOp .In) (dZ1 false):=by
 intro pins s σ H x y v u Q I g k h;rcases h with⟨i,j,rfl,rfl,q⟩ | ⟨d,e,b,l,v1,v2,a,o,p,q⟩;exact bN2 pins s σ H _ _ v u Q I g k ⟨_,_,rfl,rfl,by simpa using q⟩;obtain⟨c,w⟩:=iP o;obtain⟨f,z⟩:=iP p;obtain⟨as,m⟩:=jS I v1 g c;obtain⟨bs,n⟩:=jS I v2 k f;obtain⟨dp,cl⟩:=aO0 a;have fin:EP X pins σ Q (.bool ((toPys l).any λy=>PyData.eqv y (nN d))) s:=⟨.bl _,H,I,by rw[uF];rfl,q⟩;cases e with
 | lst r=>cases a;exact SeqAt.in_list_reads n m (cl f) c (by lia) fin
 | tup r=>cases a;exact SeqAt.in_tuple_reads n m (cl f) c (by lia) fin
 | _=>cases a
def gZ{X:Cx}(t:X.A.units+64 < cLine):OpR X (compareOp .NotIn) (dZ1 true):=by
 intro pins s σ H x y v u Q I g k h;rcases h with⟨i,j,rfl,rfl,q⟩ | ⟨d,e,b,l,v1,v2,a,o,p,q⟩;exact aL1 pins s σ H _ _ v u Q I g k ⟨_,_,rfl,rfl,by simpa using q⟩;obtain⟨c,w⟩:=iP o;obtain⟨f,z⟩:=iP p;obtain⟨as,m⟩:=jS I v1 g c;obtain⟨bs,n⟩:=jS I v2 k f;obtain⟨dp,cl⟩:=aO0 a;have fin:EP X pins σ Q (.bool (!(toPys l).any λy=>PyData.eqv y (nN d))) s:=⟨.bl _,H,I,by rw[uF];rfl,q⟩;cases e with
 | lst r=>cases a;exact SeqAt.notIn_list_reads n m (cl f) c (by lia) fin
 | tup r=>cases a;exact SeqAt.notIn_tuple_reads n m (cl f) c (by lia) fin
 | _=>cases a
noncomputable def inD(neg:Bool):F2:=λd e=>match d,e with
 | .str i,.str j=>some (.val (.bl (if neg then(Builtin.Str.occurrences j i 0 j.length 1).isEmpty else !(Builtin.Str.occurrences j i 0 j.length 1).isEmpty)))
 | d,e=>match cV0 e with
   | some (_,l)=>if jR d=true/\jR e=true then some (.val (.bl (if neg then !(l.any λy=>tL y d)else l.any λy=>tL y d)))else none
   | none=>none
def hJ{neg:Bool}:aC4 (dZ1 neg) (inD neg):=by
 intro H f g x y Q res a c e k;unfold inD at e;split at e;cases e;obtain rfl:=lZ a;obtain rfl:=lZ c;exact .inl ⟨_,_,rfl,rfl,k _ H (.refl _) (.bl _)⟩;split at e;rename_i b l h;split at e;rename_i d;cases e;exact .inr ⟨f,g,b,l,a,c,h,d.1,d.2,k _ H (.refl _) (.bl _)⟩;cases e;cases e
def cW2(K:W.Frag):List V->Hp->VK->Prop:=λxs H Q=>∃ x c t,xs=[x,.ty c]/\TyOf K H x (.type t)/\(t="NoneType"\/t="int"\/t="bool"\/t="str"\/t="list"\/t="tuple") /\
 (c="int"\/c="bool"\/c="str"\/c="list"\/c="tuple")/\Q (.bl (tV t c)) H
def bT4{X:Cx}(K:W.Frag)(a:X.K=K):lE X (.builtin "isinstance") (cW2 K):=by
 subst a;intro pins s σ H xs us Q I r h;obtain⟨x,c,t,rfl,ty,b,d,q⟩:=h;exact aU3 pins s σ H _ us Q I r ⟨x,c,.type t,_,rfl,ty,cD5 b d,q⟩
def dM7{X:Cx}{e:Expr}{r:DE}{c:String}(K:W.Frag)(f:c="int"\/c="bool"\/c="str"\/c="list"\/c="tuple")(h:∀ Γ,PE X e (tCB (cW2 K) (cB7 (dTE Γ r) (cB7 (tC (.ty c)) dX0)))):GE X e (bC3 (dM5 c) r):=.mk λΓ=>peW (h Γ) λσV H Q j=>by
 have m:dC6 (λx H Q=>cW2 K [x,.ty c] H Q) (dM5 c):=by
  intro H d x Q res a e k;cases d with
  | non=>cases e;obtain rfl:=bR6 a;exact⟨_,_,_,rfl,.non,.inl rfl,f,k _ H (.refl _) (.bl _)⟩
  | bl b=>cases e;obtain rfl:=aM9 a;exact⟨_,_,_,rfl,.bl b,.inr (.inr (.inl rfl)),f,k _ H (.refl _) (.bl _)⟩
  | int i=>cases e;obtain rfl:=eZ a;exact⟨_,_,_,rfl,.int i,.inr (.inl rfl),f,k _ H (.refl _) (.bl _)⟩
  | str i=>cases e;obtain rfl:=lZ a;exact⟨_,_,_,rfl,.str i,.inr (.inr (.inr (.inl rfl))),f,k _ H (.refl _) (.bl _)⟩
  | tup l=>cases e;obtain⟨p,xs,rfl,g,_⟩:=gX a;exact⟨_,_,_,rfl,.tup g,.inr (.inr (.inr (.inr (.inr rfl)))),f,k _ H (.refl _) (.bl _)⟩
  | lst l=>
    cases e;rcases a with a | ⟨p,rfl,a⟩
    ·cases a with
     | lst g _=>exact⟨_,_,_,rfl,.frz g,.inr (.inr (.inr (.inr (.inl rfl)))),f,k _ H (.refl _) (.bl _)⟩
    ·obtain⟨xs,g,_⟩:=rH a;exact⟨_,_,_,rfl,.lst g,.inr (.inr (.inr (.inr (.inl rfl)))),f,k _ H (.refl _) (.bl _)⟩
  | dic ks vs=>cases e
 exact bC4 m j
def gE{X:Cx}{e:Expr}{r:DE}(h:GE X e r)(Γ:Gm):PE X e (dTE Γ r):=h.to Γ
def gA{X:Cx}{e:List Expr}{r:DA}(h:GA X e r)(Γ:Gm):PA X e (dTA Γ r):=h.to Γ
def gT{X:Cx}{e:Expr}{r:DT}(h:GT X e r)(Γ:Gm):PT X e (dTT Γ r):=h.to Γ
def gI{X:Cx}{tg e:Expr}{r:DI}(h:GI X tg e r)(Γ:Gm):PI X tg e (dTI Γ r):=h.to Γ
def gSs{X:Cx}{E:Ex}{e:List Stmt}{r:DS}(h:GSs E X e r)(Γ:Gm):PSs X e (dTS Γ E r):=h.to Γ
noncomputable def bT5(K:W.Frag):Bool:=K.all λp=>match p.2.cls with
 | .type n=>!(n=="list")
 | _=>true
def cW3{K:W.Frag}{H:Hp}{a:Addr}{ns:List Int}(c:bT5 K=true)(g:dI4 H)(b:SqL K H a (ns.map V.int)):ArgOk H [⟨.val,.lst (ns.map D.int)⟩] [.ref a]:=by
 have d:∃ o,H a=some (.frz o (.lst (ns.map V.int))):=by
  rcases b with b | ⟨o,k,n,q,u,_⟩
  ·rcases b with b | ⟨o,b⟩;rcases g a with z | ⟨o,xs,z⟩;rw[b]at z;cases z;rw[b]at z;cases z;exact⟨o,b⟩
  ·exfalso;unfold bT5 at c;rw[a3g]at c;have hm:(a,o)∈K:=by
    clear c g;have:∀ (l:List (Addr×Obj)),List.lookup a l=some o->(a,o)∈l:=by
     intro l
     induction l with
     | nil=>intro h;simp at h
     | cons p r v=>
       intro h;rw[a1h]at h;split at h
       ·rename_i e;have:a=p.1:=by simpa using e
        cases h;rw[this];exact a4a
       ·exact a6a _ (v h)
    exact this K q
   have:=c _ hm;rw[u]at this;simp at this
 obtain⟨o,d⟩:=d;refine⟨rfl,λi s e=>?_,λi j s t p n f w m=>?_,λi s e=>?_⟩
 ·cases i with
  | zero=>simp at e;subst e;exact⟨_,rfl,.lst d (lL ns)⟩
  | succ i=>simp at e
 ·cases i with
  | zero=>simp at f;subst f;cases m
  | succ i=>simp at f
 ·cases i with
  | zero=>simp at e;subst e;exact λz=>nomatch z
  | succ i=>simp at e
def OK1{α:Type}(o:Option α)(K:α->Prop):Prop:=match o with
 | some a=>K a
 | none=>False
def RE(r:DE)(σ:Sg)(Q:Res->Sg->Prop):Prop:=OK1 (r σ) λx=>Q x.1 x.2
def RT(r:DT)(σ:Sg)(Q:Bool->Sg->Prop):Prop:=OK1 (r σ) λx=>Q x.1 x.2
def RA(r:DA)(σ:Sg)(Q:List Res->Sg->Prop):Prop:=OK1 (r σ) λx=>Q x.1 x.2
def RS(r:DS)(σ:Sg)(Q:Out->Prop):Prop:=OK1 (r σ) Q
def RI(r:DI)(σ:Sg)(Q:List D->Option Nat->Sg->Prop):Prop:=OK1 (r σ) λx=>Q x.1 x.2.1 x.2.2
def RO(r:DO)(σ:Sg)(Q:Option Int->Sg->Prop):Prop:=OK1 (r σ) λx=>Q x.1 x.2
theorem aU{α b:Type}{o:Option α}{f:α->Option b}{K:b->Prop}:OK1 (o.bind f) K=OK1 o λa=>OK1 (f a) K:=by cases o<;>rfl
theorem cA{α:Type}{a:α}{K:α->Prop}:OK1 (some a) K=K a:=rfl
def aO1{α b:Type}{o:Option α}{f:α->b}{K:b->Prop}:OK1 (o.map f) K=OK1 o λa=>K (f a):=by cases o<;>rfl
theorem cF{α:Type}{c:Prop}[Decidable c]{o:Option α}{K:α->Prop}:OK1 (if c then o else none) K=(c/\OK1 o K):=by
 by_cases h:c;rw[a4y h];exact propext ⟨λq=>⟨h,q⟩,λq=>q.2⟩;rw[a4z h];exact propext ⟨λq=>q.elim,λq=>h q.1⟩
def jK{α:Type}{o:Option α}{K:α->Prop}:OK1 o K↔∃ a,o=some a/\K a:=by
 cases o with
 | none=>exact⟨λq=>q.elim,λ⟨_,e,_⟩=>nomatch e⟩
 | some a=>exact⟨λq=>⟨a,rfl,q⟩,λZ1=>by obtain⟨_,e,q⟩:=Z1;cases e;exact q⟩
def dF{α:Type}{o:Option α}{K b:α->Prop}(h:OK1 o K)(w:∀ a,K a->b a):OK1 o b:=by
 cases o with
 | none=>exact h
 | some a=>exact w a h
def VK:Nat->Sg->Nat->Sg->(Res->Sg->Prop)->Prop
 | 0,some s::_,i,σ,Q=>Q (if s.m=.val then .val s.d else .slot i) σ
 | n+1,_::r,i,σ,Q=>VK n r i σ Q
 | _,_,_,_,_=>False
theorem dM8:∀ (n:Nat) (r:Sg) (i:Nat) (σ:Sg) (Q:Res->Sg->Prop),VK n r i σ Q=OK1 (match r[n]? with | some (some s)=>some (if s.m=.val then Res.val s.d else Res.slot i,σ) | _=>none) λx=>Q x.1 x.2
 | 0,[],_,_,_=>rfl
 | 0,none::_,_,_,_=>rfl
 | 0,some s::_,_,_,_=>rfl
 | n+1,[],_,_,_=>rfl
 | n+1,_::r,i,σ,Q=>by
   show VK n r i σ Q=_;rw[dM8 n r i σ Q,a3d]
def GK:Nat->Sg->(D->Prop)->Prop
 | 0,some s::_,K=>K s.d
 | n+1,_::r,K=>GK n r K
 | _,_,_=>False
theorem dM9:∀ (n:Nat) (r:Sg) (K:D->Prop),GK n r K=OK1 (match r[n]? with | some (some s)=>some s.d | _=>none) K
 | 0,[],_=>rfl
 | 0,none::_,_=>rfl
 | 0,some s::_,_=>rfl
 | n+1,[],_=>rfl
 | n+1,_::r,K=>by
   show GK n r K=_;rw[dM9 n r K,a3d]
def RD(σ:Sg)(r:Res)(K:D->Prop):Prop:=OK1 (rd σ r) K
def PK:Nat->Sg->Sl->(Sg->Prop)->Prop
 | 0,none::r,s,K=>K (some s::r)
 | 0,some ⟨.val,_⟩::r,s,K=>K (some s::r)
 | 0,some ⟨.own,_⟩::r,s,K=>K (some s::r)
 | n+1,o::r,s,K=>PK n r s λa=>K (o::a)
 | _,_,_,_=>False
def bI8{n:Nat}{o:Option Sl}{r:Sg}:iE (o::r) (n+1)=iE r n:=by unfold iE;rw[a3d]
theorem cE5:∀ (n:Nat) (r:Sg) (s:Sl) (K:Sg->Prop),PK n r s K=OK1 (if iE r n=true then some (r.set n (some s))else none) K
 | 0,[],s,K=>rfl
 | 0,none::r,s,K=>rfl
 | 0,some ⟨.val,_⟩::r,s,K=>rfl
 | 0,some ⟨.own,_⟩::r,s,K=>rfl
 | 0,some ⟨.par,_⟩::r,s,K=>rfl
 | 0,some ⟨.lent,_⟩::r,s,K=>rfl
 | n+1,[],s,K=>by
   show False=_;rw[cF];unfold iE;simp
 | n+1,o::r,s,K=>by
   show PK n r s (λa=>K (o::a))=_;rw[cE5 n r s _,cF,cF,bI8,List.set_cons_succ];rfl
def MK:Nat->Sg->FM->List D->(D->Sg->Prop)->Prop
 | 0,some ⟨.own,d⟩::r,f,ds,K=>OK1 (f d ds) λy=>K y.2 (some ⟨.own,y.1⟩::r)
 | 0,some ⟨.par,d⟩::r,f,ds,K=>OK1 (f d ds) λy=>K y.2 (some ⟨.par,y.1⟩::r)
 | n+1,o::r,f,ds,K=>MK n r f ds λe a=>K e (o::a)
 | _,_,_,_,_=>False
theorem cW4:∀ (n:Nat) (r:Sg) (f:FM) (a:List D) (K:D->Sg->Prop),MK n r f a K=OK1 (cB0 f n a r) λx=>OK1 (match x.1 with | .val d=>some d | _=>none) λd=>K d x.2
 | 0,[],f,a,K=>rfl
 | 0,none::r,f,a,K=>rfl
 | 0,some ⟨.val,_⟩::r,f,a,K=>rfl
 | 0,some ⟨.lent,_⟩::r,f,a,K=>rfl
 | 0,some ⟨.own,d⟩::r,f,a,K=>by
   show OK1 (f d a) _=OK1 ((f d a).bind λy=>some (Res.val y.2,some (⟨.own,y.1⟩:Sl)::r)) _;rw[aU];rfl
 | 0,some ⟨.par,d⟩::r,f,a,K=>by
   show OK1 (f d a) _=OK1 ((f d a).bind λy=>some (Res.val y.2,some (⟨.par,y.1⟩:Sl)::r)) _;rw[aU];rfl
 | n+1,[],f,a,K=>rfl
 | n+1,o::r,f,a,K=>by
   show MK n r f a (λe b=>K e (o::b))=_;rw[cW4 n r f a _];unfold cB0;rw[a3d];cases q:r[n]? with
   | none=>rfl
   | some x=>cases x with
     | none=>rfl
     | some s=>
       dsimp only;by_cases hm:s.m.mt=true;rw[a4y hm,a4y hm,aU,aU];rfl;rw[a4z hm,a4z hm];rfl
def TK:String->Nat->Sg->Prop->Prop
 | T,0,some ⟨.own,d⟩::_,P=>tyD T d=true/\P
 | T,0,some ⟨.par,d⟩::_,P=>tyD T d=true/\P
 | T,0,some ⟨.lent,d⟩::_,P=>tyD T d=true/\P
 | T,n+1,_::r,P=>TK T n r P
 | _,_,_,_=>False
theorem bT6:∀ (T:String) (n:Nat) (r:Sg) (P:Prop),TK T n r P=(aT3 T n r=true/\P)
 | T,0,[],P=>by simp[TK,aT3]
 | T,0,none::r,P=>by simp[TK,aT3]
 | T,0,some ⟨.val,d⟩::r,P=>by simp[TK,aT3]
 | T,0,some ⟨.own,d⟩::r,P=>by simp[TK,aT3]
 | T,0,some ⟨.par,d⟩::r,P=>by simp[TK,aT3]
 | T,0,some ⟨.lent,d⟩::r,P=>by simp[TK,aT3]
 | T,n+1,[],P=>by simp[TK,aT3]
 | T,n+1,o::r,P=>by
   show TK T n r P=_;rw[bT6 T n r P];unfold aT3;rw[a3d]
section
variable{σ:Sg}{Q:Res->Sg->Prop}{QT:Bool->Sg->Prop}{QA:List Res->Sg->Prop}{QS:Out->Prop}{K:D->Prop}{KR:Res->Prop}{a b c:DE}{ra:DA}{t u:DT}{x y:DS}{d e:D}{f:F2}{f1:F1}{fn:FN}{i j n:Nat}{r:Sg}{o:Option Sl}
theorem cW5:RE (dC d) σ Q=Q (.val d) σ:=rfl
theorem uG:RE (aH i) σ Q=VK i σ i σ Q:=(dM8 i σ i σ Q).symm
theorem uH:VK (n+1) (o::r) i σ Q=VK n r i σ Q:=rfl
theorem uI:VK 0 (some ⟨.val,d⟩::r) i σ Q=Q (.val d) σ:=rfl
theorem uJ:VK 0 (some ⟨.own,d⟩::r) i σ Q=Q (.slot i) σ:=rfl
theorem uK:VK 0 (some ⟨.par,d⟩::r) i σ Q=Q (.slot i) σ:=rfl
theorem uL:VK 0 (some ⟨.lent,d⟩::r) i σ Q=Q (.slot i) σ:=rfl
theorem uM:RE (aX f a b) σ Q=RE a σ λx g=>RE b g λy c=>RD c x λd=>RD c y λe=>OK1 (f d e) λr=>Q r c:=by
 unfold RE aX RD;simp only[aU,cA]
theorem uN:RE (bC3 f1 a) σ Q=RE a σ λx b=>RD b x λd=>OK1 (f1 d) λr=>Q r b:=by
 unfold RE bC3 RD;simp only[aU,cA]
theorem uO:RD σ (.val d) K=K d:=rfl
theorem uP:RD σ (.own d) K=K d:=rfl
theorem uQ:RD σ (.slot i) K=GK i σ K:=(dM9 i σ K).symm
theorem uR{m:Md}:GK 0 (some ⟨m,d⟩::r) K=K d:=rfl
theorem uT:GK (n+1) (o::r) K=GK n r K:=rfl
theorem uU:RT (dX a) σ QT=RE a σ λx c=>RD c x λd=>OK1 (match d with | .bl b=>some b | _=>none) λb=>QT b c:=by
 unfold RT RE dX RD;simp only[aU];congr 1;funext x;congr 1;funext d;cases d<;>rfl
theorem uV{b:Bool}{K:Bool->Prop}:OK1 (match D.bl b with | .bl b=>some b | _=>none) K=K b:=rfl
theorem uW:RT (dU6 a) σ QT=RE a σ λx c=>RD c x λd=>OK1 (eC0 d) λb=>QT b c:=by
 unfold RT RE dU6 RD;simp only[aU,cA]
theorem uX:RT (dC7 t u) σ QT=RT t σ λb a=>if b=true then RT u a QT else QT false a:=by
 unfold RT dC7;simp only[aU];congr 1;funext x;by_cases h:x.1=true<;>simp[h,OK1]
theorem aW1:RT (dOr t u) σ QT=RT t σ λb a=>if b=true then QT true a else RT u a QT:=by
 unfold RT dOr;simp only[aU];congr 1;funext x;by_cases h:x.1=true<;>simp[h,OK1]
theorem uY:RT (cO2 t) σ QT=RT t σ λb a=>QT (!b) a:=by
 unfold RT cO2;simp only[aU,cA]
theorem mW:RT iB σ QT=QT true σ:=rfl
theorem oG:RE (aV0 a b) σ Q=RT (dX a) σ λt c=>if t=true then RE b c Q else Q (.val (.bl false)) c:=by
 unfold RT RE aV0;simp only[aU];congr 1;funext x;by_cases h:x.1=true<;>simp[h,OK1]
theorem bD6:RE (dU7 a b) σ Q=RT (dX a) σ λt c=>if t=true then Q (.val (.bl true)) c else RE b c Q:=by
 unfold RT RE dU7;simp only[aU];congr 1;funext x;by_cases h:x.1=true<;>simp[h,OK1]
theorem cW6:RE (dL0 a) σ Q=RT (dX a) σ λt b=>Q (.val (.bl (!t))) b:=by
 unfold RT RE dL0;simp only[aU,cA]
theorem dZ2:RE (dIf t a b) σ Q=RT t σ λt c=>if t=true then RE a c Q else RE b c Q:=by
 unfold RT RE dIf;simp only[aU];congr 1;funext x;by_cases h:x.1=true<;>simp[h]
theorem uZ{b:Bool}{K:Bool->Prop}:OK1 (match Res.val (D.bl b)with | .val (.bl t)=>some t | _=>none) K=K b:=rfl
theorem vA:RA aP σ QA=QA [] σ:=rfl
theorem oH:RA (aC a ra) σ QA=RE a σ λx b=>RA ra b λxs c=>QA (x::xs) c:=by
 unfold RA RE aC;simp only[aU,cA]
def RDs(σ:Sg)(rs:List Res)(K:List D->Prop):Prop:=OK1 (rds σ rs) K
def VLs(rs:List Res)(K:List D->Prop):Prop:=OK1 (vals rs) K
theorem oJ{K:List D->Prop}:RDs σ [] K=K []:=rfl
theorem oK{x:Res}{xs:List Res}{K:List D->Prop}:RDs σ (x::xs) K=RD σ x λd=>RDs σ xs λa=>K (d::a):=by
 show OK1 ((rd σ x).bind λd=>(rds σ xs).bind λa=>some (d::a)) K=_;unfold RDs RD;simp only[aU,cA]
theorem vB{K:List D->Prop}:VLs [] K=K []:=rfl
theorem vC{xs:List Res}{K:List D->Prop}:VLs (.val d::xs) K=VLs xs λa=>K (d::a):=by
 show OK1 ((vals xs).bind λa=>some (d::a)) K=_;unfold VLs;simp only[aU,cA]
theorem aW2:RE (dCB fn ra) σ Q=RA ra σ λxs a=>RDs a xs λb=>OK1 (fn b) λr=>Q r a:=by
 unfold RE RA RDs dCB;simp only[aU,cA]
theorem vD:RE (qY ra) σ Q=RA ra σ λxs a=>VLs xs λb=>b.length<=sizeLine/\Q (.val (.tup b)) a:=by
 unfold RE RA VLs qY;simp only[aU,cF,cA]
theorem vE:RE (kI ra) σ Q=RA ra σ λxs a=>VLs xs λb=>b.length<=sizeLine/\Q (.own (.lst b)) a:=by
 unfold RE RA VLs kI;simp only[aU,cF,cA]
def FK(r:Res)(σ:Sg)(K:D->Sg->Prop):Prop:=OK1 (eC1 σ r) λx=>K x.1 x.2
def ZK:Nat->Sg->(D->Sg->Prop)->Prop
 | 0,some ⟨.own,d⟩::r,K=>K d (some ⟨.val,d⟩::r)
 | 0,some ⟨.val,d⟩::r,K=>K d (some ⟨.val,d⟩::r)
 | n+1,o::r,K=>ZK n r λd a=>K d (o::a)
 | _,_,_=>False
theorem dN0:∀ (n:Nat) (r:Sg) (K:D->Sg->Prop),ZK n r K=FK (.slot n) r K
 | 0,[],K=>rfl
 | 0,none::r,K=>rfl
 | 0,some ⟨.val,_⟩::r,K=>rfl
 | 0,some ⟨.own,_⟩::r,K=>rfl
 | 0,some ⟨.par,_⟩::r,K=>rfl
 | 0,some ⟨.lent,_⟩::r,K=>rfl
 | n+1,[],K=>rfl
 | n+1,o::r,K=>by
   show ZK n r (λd c=>K d (o::c))=_;rw[dN0 n r _];show OK1 (match r[n]? with | some (some s)=>if s.m=.own then some (s.d,r.set n (some ⟨.val,s.d⟩))else if s.m=.val then some (s.d,r)else none | _=>none) _ =
    OK1 (match (o::r)[n+1]? with | some (some s)=>if s.m=.own then some (s.d,(o::r).set (n+1) (some ⟨.val,s.d⟩))else if s.m=.val then some (s.d,o::r)else none | _=>none) _
   rw[a3d];cases r[n]? with
   | none=>rfl
   | some x=>cases x with
     | none=>rfl
     | some s=>
       dsimp only;by_cases a:s.m=.own;rw[a4y a,a4y a];rfl;rw[a4z a,a4z a];by_cases b:s.m=.val;rw[a4y b,a4y b];rfl;rw[a4z b,a4z b];rfl
theorem aW3:RE (dFz a) σ Q=RE a σ λx b=>FK x b λd c=>Q (.val d) c:=by
 unfold RE dFz FK;simp only[aU,cA]
theorem vF{K:D->Sg->Prop}:FK (.val d) σ K=K d σ:=rfl
theorem vG{K:D->Sg->Prop}:FK (.own d) σ K=K d σ:=rfl
theorem vH{K:D->Sg->Prop}:FK (.slot i) σ K=ZK i σ K:=(dN0 i σ K).symm
theorem vI{K:D->Sg->Prop}:ZK 0 (some ⟨.own,d⟩::r) K=K d (some ⟨.val,d⟩::r):=rfl
theorem vJ{K:D->Sg->Prop}:ZK 0 (some ⟨.val,d⟩::r) K=K d (some ⟨.val,d⟩::r):=rfl
theorem vK{K:D->Sg->Prop}:ZK (n+1) (o::r) K=ZK n r λd a=>K d (o::a):=rfl
theorem oM:RS fM σ QS=QS (.nx σ):=rfl
theorem oN:RS (λσ=>some (.ct σ)) σ QS=QS (.ct σ):=rfl
def SqK(y:DS)(QS:Out->Prop):Out->Prop
 | .nx σ=>RS y σ QS
 | o=>QS o
theorem vL:RS (bL x y) σ QS=RS x σ (SqK y QS):=by
 unfold RS bL;rw[aU];congr 1;funext o;cases o<;>rfl
theorem vM:SqK y QS (.nx σ)=RS y σ QS:=rfl
theorem vN{v:Res}:SqK y QS (.rt v σ)=QS (.rt v σ):=rfl
theorem vO:SqK y QS (.bk σ)=QS (.bk σ):=rfl
theorem vP:SqK y QS (.ct σ)=QS (.ct σ):=rfl
theorem oO:RS (iM a) σ QS=RE a σ λ_ b=>QS (.nx b):=by unfold RS RE iM;simp only[aU,cA]
theorem vQ:RS (gQ a) σ QS=RE a σ λx b=>QS (.rt x b):=by unfold RS RE gQ;simp only[aU,cA]
theorem oP:RS dY6 σ QS=QS (.rt (.val .non) σ):=rfl
theorem vR:RS (mB t x y) σ QS=RT t σ λb a=>if b=true then RS x a QS else RS y a QS:=by
 unfold RS RT mB;simp only[aU];congr 1;funext z;by_cases h:z.1=true<;>simp[h]
def PtK(i:Nat)(r:Res)(σ:Sg)(K:Sg->Prop):Prop:=OK1 (dU8 i r σ) K
theorem vS:RS (cG i a) σ QS=RE a σ λx b=>PtK i x b λc=>QS (.nx c):=by unfold RS RE PtK cG;simp only[aU,cA]
theorem vT{K:Sg->Prop}:PtK i (.val d) σ K=PK i σ ⟨.val,d⟩ K:=(cE5 i σ _ K).symm
theorem vU{K:Sg->Prop}:PtK i (.own d) σ K=PK i σ ⟨.own,d⟩ K:=(cE5 i σ _ K).symm
theorem vV{s:Sl}{K:Sg->Prop}:PK 0 (none::r) s K=K (some s::r):=rfl
theorem vW{s:Sl}{K:Sg->Prop}:PK 0 (some ⟨.val,d⟩::r) s K=K (some s::r):=rfl
theorem vX{s:Sl}{K:Sg->Prop}:PK 0 (some ⟨.own,d⟩::r) s K=K (some s::r):=rfl
theorem vY{s:Sl}{K:Sg->Prop}:PK (n+1) (o::r) s K=PK n r s λa=>K (o::a):=rfl
theorem cW7{T:String}{b:FM}:RE (dL1 T i b) σ Q=TK T i σ (MK i σ b [] λd a=>Q (.val d) a):=by
 rw[bT6,cW4];unfold RE dL1;rw[cF];congr 1;apply propext;rw[jK,jK];constructor;rintro⟨⟨x,s⟩,e,q⟩;obtain⟨_,_,_,_,_,_,rfl,_⟩:=lN e;exact⟨_,e,q⟩;rintro⟨⟨x,s⟩,e,q⟩;obtain⟨_,_,_,_,_,_,rfl,_⟩:=lN e;exact⟨_,e,q⟩
theorem cW8{b:FM}{c:List D}{σ:Sg}:OK1 (cB0 b i c σ) (λx=>Q x.1 x.2)=MK i σ b c λd a=>Q (.val d) a:=by
 rw[cW4];apply propext;rw[jK,jK];constructor;rintro⟨⟨x,s⟩,e,q⟩;obtain⟨_,_,_,_,_,_,rfl,_⟩:=lN e;exact⟨_,e,q⟩;rintro⟨⟨x,s⟩,e,q⟩;obtain⟨_,_,_,_,_,_,rfl,_⟩:=lN e;exact⟨_,e,q⟩
theorem oQ{T:String}{c:FM}:RE (lM T i c ra) σ Q=TK T i σ (RA ra σ λxs a=>VLs xs λe=>MK i a c e λd b=>Q (.val d) b):=by
 rw[bT6];unfold RE lM RA VLs;rw[cF];simp only[aU,cW8]
theorem oR{T:String}{c:FM}:RE (rD T i c ra) σ Q=TK T i σ (RA ra σ λxs a=>RDs a xs λe=>MK i a c e λd b=>Q (.val d) b):=by
 rw[bT6];unfold RE rD RA RDs;rw[cF];simp only[aU,cW8]
theorem vZ{T:String}{P:Prop}:TK T 0 (some ⟨.own,d⟩::r) P=(tyD T d=true/\P):=rfl
theorem wA{T:String}{P:Prop}:TK T 0 (some ⟨.par,d⟩::r) P=(tyD T d=true/\P):=rfl
theorem wB{T:String}{P:Prop}:TK T (n+1) (o::r) P=TK T n r P:=rfl
theorem wC{a:FM}{b:List D}{K:D->Sg->Prop}:MK 0 (some ⟨.own,d⟩::r) a b K=OK1 (a d b) λy=>K y.2 (some ⟨.own,y.1⟩::r):=rfl
theorem wD{a:FM}{b:List D}{K:D->Sg->Prop}:MK 0 (some ⟨.par,d⟩::r) a b K=OK1 (a d b) λy=>K y.2 (some ⟨.par,y.1⟩::r):=rfl
theorem wE{a:FM}{b:List D}{K:D->Sg->Prop}:MK (n+1) (o::r) a b K=MK n r a b λe c=>K e (o::c):=rfl
theorem wF:RS (bI5 i a b) σ QS=RE b σ λx c=>OK1 (match x with | .val d=>some d | _=>none) λd=>TK "list" i c (RE a c λy f=>RD f y λg=>OK1 (match g with | .int k=>some k | _=>none) λk=>
  MK i f (λa _=>(dV0 k d a).map λb=>(b,.non)) [] λ_ e=>QS (.nx e)):=by
 unfold RS RE RD bI5;rw[aU];congr 1;funext x;obtain⟨x,c⟩:=x;cases x with
 | own d=>rfl
 | slot d=>rfl
 | val d=>
   show OK1 _ _=TK _ _ _ _;rw[bT6];dsimp only;rw[cF];simp only[aU];congr 1;congr 1;funext y;congr 1;funext g;cases g with
   | int k=>
     dsimp only;rw[aU];show _=MK _ _ _ _ _;rw[← cW8 (Q:=λ_ e=>QS (.nx e))];rfl
   | _=>rfl
theorem wG{K:D->Prop}:OK1 (match Res.val d with | .val d=>some d | _=>none) K=K d:=rfl
theorem wH{k:Int}{K:Int->Prop}:OK1 (match D.int k with | .int k=>some k | _=>none) K=K k:=rfl
theorem wI{g:DG}:RS (dL4 g a) σ QS=RE a σ λx b=>OK1 (match x with | .val d=>some d | _=>none) λd=>OK1 (g d b) λc=>QS (.nx c):=by
 unfold RS RE dL4;rw[aU];congr 1;funext x;obtain⟨x,b⟩:=x;cases x with
 | own d=>rfl
 | slot d=>rfl
 | val d=>
   show OK1 ((g d b).bind _) _=OK1 (g d b) _;rw[aU];rfl
theorem aW4{K:Sg->Prop}:OK1 (dgN i d σ) K=PK i σ ⟨.val,d⟩ K:=(cE5 i σ _ K).symm
theorem oS{a:DGs}{l:List D}{K:Sg->Prop}:OK1 (iF n a (.tup l) σ) K=(l.length=n/\OK1 (a l σ) K):=by
 show OK1 (if l.length=n then a l σ else none) K=_;rw[cF]
theorem lR{g:DG}{b:DGs}{l:List D}{K:Sg->Prop}:OK1 (bJ g b (d::l) σ) K=OK1 (g d σ) λa=>OK1 (b l a) K:=by
 show OK1 ((g d σ).bind λa=>b l a) K=_;rw[aU]
theorem oU{K:Sg->Prop}:OK1 (iA [] σ) K=K σ:=rfl
theorem wJ:RS (dU9 i j ra) σ QS=RA ra σ λxs a=>VLs xs λds=>OK1 (match ds with | [d,e]=>some (d,e) | _=>none) λp=>(iE a i=true/\iE a j=true/\i≠j)/\QS (.nx ((a.set i (some ⟨.val,p.1⟩)).set j (some ⟨.val,p.2⟩))):=by
 unfold RS RA VLs dU9;simp only[aU];congr 1;funext x;congr 1;funext ds
 match ds with
 | []=>rfl
 | [_]=>rfl
 | [d,e]=>show OK1 (if iE x.2 i=true/\iE x.2 j=true/\i≠j then _ else none) QS=_;rw[cF];rfl
 | _::_::_::_=>rfl
theorem wK{K:D×D->Prop}:OK1 (match [d,e]with | [d,e]=>some (d,e) | _=>none) K=K (d,e):=rfl
end
def CK(run:Run)(as:List Sl)(K:Res->List Sl->Prop):Prop:=OK1 (run as) λy=>K y.1 y.2
def AK(σ:Sg)(rs:List Res)(K:List Sl->Prop):Prop:=OK1 (uC σ rs) K
def A1(σ:Sg)(r:Res)(K:Sl->Prop):Prop:=OK1 (aV5 σ r) K
def HK:Nat->Sg->(Sl->Prop)->Prop
 | 0,some ⟨m,d⟩::_,K=>K ⟨if m.mt=true then .par else m,d⟩
 | n+1,_::r,K=>HK n r K
 | _,_,_=>False
theorem dN1:∀ (n:Nat) (r:Sg) (K:Sl->Prop),HK n r K=A1 r (.slot n) K
 | 0,[],_=>rfl
 | 0,none::_,_=>rfl
 | 0,some s::_,_=>rfl
 | n+1,[],_=>rfl
 | n+1,_::r,K=>by
   show HK n r K=_;rw[dN1 n r K];show OK1 (match r[n]? with | some (some s)=>some (⟨if s.m.mt=true then .par else s.m,s.d⟩:Sl) | _=>none) K=OK1 (match (_::r)[n+1]? with | some (some s)=>some (⟨if s.m.mt=true then .par else s.m,s.d⟩:Sl) | _=>none) K;rw[a3d]
def UK:Nat->Sg->D->(Sg->Prop)->Prop
 | 0,some ⟨.own,_⟩::r,d,K=>K (some ⟨.own,d⟩::r)
 | 0,some ⟨.par,_⟩::r,d,K=>K (some ⟨.par,d⟩::r)
 | 0,o::r,_,K=>K (o::r)
 | n+1,o::r,d,K=>UK n r d λa=>K (o::a)
 | _,[],_,K=>K []
noncomputable def uS(σ:Sg)(i:Nat)(d:D):Sg:=match σ[i]? with
 | some (some s)=>if s.m.mt=true then σ.set i (some ⟨s.m,d⟩)else σ
 | _=>σ
theorem dN2:∀ (n:Nat) (r:Sg) (d:D) (K:Sg->Prop),UK n r d K=K (uS r n d)
 | 0,[],_,_=>rfl
 | n+1,[],_,_=>rfl
 | 0,none::r,d,K=>rfl
 | 0,some ⟨.val,_⟩::r,d,K=>rfl
 | 0,some ⟨.own,_⟩::r,d,K=>rfl
 | 0,some ⟨.par,_⟩::r,d,K=>rfl
 | 0,some ⟨.lent,_⟩::r,d,K=>rfl
 | n+1,o::r,d,K=>by
   show UK n r d (λa=>K (o::a))=_;rw[dN2 n r d _];unfold uS;rw[a3d];cases r[n]? with
   | none=>rfl
   | some x=>cases x with
     | none=>rfl
     | some s=>
       dsimp only;by_cases h:s.m.mt=true;rw[a4y h,a4y h];rfl;rw[a4z h,a4z h]
noncomputable def sB:List Res->List Sl->Sg->Sg
 | .slot i::rs,a::as,σ=>sB rs as (uS σ i a.d)
 | _::rs,_::as,σ=>sB rs as σ
 | _,_,σ=>σ
def dN3{σ:Sg}{i j:Nat}{d:D}:(uS σ i d)[j]? = (σ[j]?).map λo=>if j=i then(match o with | some s=>some (if s.m.mt=true then⟨s.m,d⟩else s) | none=>none)else o:=by
 unfold uS;by_cases a:j=i
 ·subst a;cases h:σ[j]? with
  | none=>dsimp only;rw[h];rfl
  | some o=>
    cases o with
    | none=>dsimp only;rw[h];simp
    | some s=>
      dsimp only;by_cases hm:s.m.mt=true;rw[a4y hm,a8c (a2a.mp h).1];simp[hm];rw[a4z hm,h];simp[hm]
 ·have:∀ x:Option Sl,(σ.set i x)[j]? = σ[j]?:=λx=>a1b (a4e a);split;split;rw[this];cases σ[j]? <;> simp[a];cases σ[j]? <;> simp[a];cases σ[j]? <;> simp[a]
theorem bD7:∀ (rs:List Res) (as:List Sl) (σ:Sg) (j:Nat),fB rs=true->(sB rs as σ)[j]? = (σ[j]?).map (qG rs as j)
 | [],as,σ,j,_=>by cases as<;>(show σ[j]? = _;cases σ[j]? with | none=>rfl | some o=>cases o<;>simp[qG,mU])
 | r::rs,[],σ,j,_=>by cases r<;>(show σ[j]? = _;cases σ[j]? with | none=>rfl | some o=>cases o<;>simp[qG,mU])
 | .val d::rs,a::as,σ,j,h=>bD7 rs as σ j h
 | .own d::rs,a::as,σ,j,h=>bD7 rs as σ j h
 | .slot i::rs,a::as,σ,j,h=>by
   have h':fB rs=true/\bD1 i rs=false:=by
    unfold fB at h;rw[a2f]at h;exact⟨h.2,by simpa using h.1⟩
   show(sB rs as (uS σ i a.d))[j]? = _;rw[bD7 rs as _ j h'.1,dN3];cases σ[j]? with
   | none=>rfl
   | some o=>
     cases o with
     | none=>by_cases c:j=i<;>simp[qG,c]
     | some s=>
       by_cases c:j=i
       ·subst c;have e:mU j rs as=none:=by
         cases q:mU j rs as with
         | none=>rfl
         | some b=>
           obtain⟨k,f,_⟩:=jE q;rw[tK f]at h';cases h'.2
        simp[qG,e,mU]
       ·have:¬ i=j:=λz=>c z.symm;simp[qG,c,mU,this]
theorem cE6{rs:List Res}{as:List Sl}{σ:Sg}(h:fB rs=true):lP rs as 0 σ=sB rs as σ:=by
 apply List.ext_getElem?;intro j;rw[mV,bD7 rs as σ j h,a9f]
def BK(rs:List Res)(as:List Sl)(σ:Sg)(K:Sg->Prop):Prop:=K (sB rs as σ)
def bT7(as:List Sl)(K:Res->List Sl->Prop):Out->Prop
 | .nx σ=>K (.val .non) (uB as σ)
 | .rt r σ=>OK1 (dC9 σ r) λa=>K a (uB as σ)
 | _=>False
section
variable{σ:Sg}{Q:Res->Sg->Prop}{ra:DA}{d:D}{i n:Nat}{r:Sg}{o:Option Sl}
theorem oV{run:Run}:RE (aV n run ra) σ Q=RA ra σ λrs a=>AK a rs λas=>(as.length=n/\fB rs=true)/\CK run as λy as'=>BK rs as' a λb=>Q y b:=by
 unfold RE RA AK CK aV;simp only[aU,cF,cA];congr 1;funext x;congr 1;funext as;apply propext;constructor;rintro⟨h,q⟩;refine⟨h,dF q λy q=>?_⟩;unfold BK;rw[← cE6 h.2];exact q;rintro⟨h,q⟩;refine⟨h,dF q λy q=>?_⟩;unfold BK at q;rw[← cE6 h.2]at q;exact q
theorem wL{as:List Sl}{K:Sg->Prop}:BK [] as σ K=K σ:=by cases as<;>rfl
theorem wM{rs:List Res}{a:Sl}{as:List Sl}{K:Sg->Prop}:BK (.val d::rs) (a::as) σ K=BK rs as σ K:=rfl
theorem wN{rs:List Res}{a:Sl}{as:List Sl}{K:Sg->Prop}:BK (.own d::rs) (a::as) σ K=BK rs as σ K:=rfl
theorem wO{rs:List Res}{m:Md}{as:List Sl}{K:Sg->Prop}:BK (.slot i::rs) (⟨m,d⟩::as) σ K=UK i σ d λσ'=>BK rs as σ' K:=by
 rw[dN2];rfl
theorem wP{e:D}{K:Sg->Prop}:UK 0 (some ⟨.own,e⟩::r) d K=K (some ⟨.own,d⟩::r):=rfl
theorem wQ{e:D}{K:Sg->Prop}:UK 0 (some ⟨.par,e⟩::r) d K=K (some ⟨.par,d⟩::r):=rfl
theorem wR{e:D}{K:Sg->Prop}:UK 0 (some ⟨.val,e⟩::r) d K=K (some ⟨.val,e⟩::r):=rfl
theorem wS{e:D}{K:Sg->Prop}:UK 0 (some ⟨.lent,e⟩::r) d K=K (some ⟨.lent,e⟩::r):=rfl
theorem wT{K:Sg->Prop}:UK (n+1) (o::r) d K=UK n r d λa=>K (o::a):=rfl
def dA{len:Nat}{b:DS}{as:List Sl}{K:Res->List Sl->Prop}:CK (mM len b) as K=RS b (ini len as) (bT7 as K):=by
 unfold CK RS mM;rw[aU];congr 1;funext o;cases o with
 | rt x s=>show OK1 ((dC9 s x).bind _) _=OK1 (dC9 s x) _;rw[aU];rfl
 | _=>rfl
def FSK:Nat->Sg->(Res->Prop)->Prop
 | 0,some ⟨.own,d⟩::_,K=>K (.own d)
 | 0,some ⟨.val,d⟩::_,K=>K (.val d)
 | n+1,_::r,K=>FSK n r K
 | _,_,_=>False
theorem cO7:∀ (n:Nat) (r:Sg) (K:Res->Prop),FSK n r K=OK1 (dC9 r (.slot n)) K
 | 0,[],_=>rfl
 | 0,none::_,_=>rfl
 | 0,some ⟨.val,_⟩::r,K=>rfl
 | 0,some ⟨.own,_⟩::r,K=>rfl
 | 0,some ⟨.par,_⟩::r,K=>rfl
 | 0,some ⟨.lent,_⟩::r,K=>rfl
 | n+1,[],_=>rfl
 | n+1,o::r,K=>by
   show FSK n r K=_;rw[cO7 n r K];show OK1 (match r[n]? with | some (some s)=>if s.m=.own then some (Res.own s.d)else if s.m=.val then some (.val s.d)else none | _=>none) K=OK1 (match (o::r)[n+1]? with | some (some s)=>if s.m=.own then some (Res.own s.d)else if s.m=.val then some (.val s.d)else none | _=>none) K;rw[a3d]
section
variable{as:List Sl}{K:Res->List Sl->Prop}{KR:Res->Prop}
theorem oW:bT7 as K (.nx σ)=K (.val .non) (uB as σ):=rfl
theorem oX:bT7 as K (.rt (.val d) σ)=K (.val d) (uB as σ):=rfl
theorem oY:bT7 as K (.rt (.own d) σ)=K (.own d) (uB as σ):=rfl
theorem oZ:bT7 as K (.rt (.slot i) σ)=FSK i σ λr=>K r (uB as σ):=(cO7 i σ _).symm
theorem wU:FSK 0 (some ⟨.own,d⟩::r) KR=KR (.own d):=rfl
theorem wV:FSK 0 (some ⟨.val,d⟩::r) KR=KR (.val d):=rfl
theorem wW:FSK (n+1) (o::r) KR=FSK n r KR:=rfl
theorem pA:uB [] σ=[]:=rfl
theorem pB{s:Sl}:uB (⟨.val,d⟩::as) (some s::r)=⟨.val,d⟩::uB as r:=rfl
theorem pC{s:Sl}:uB (⟨.par,d⟩::as) (some s::r)=s::uB as r:=rfl
theorem pD{s:Sl}:uB (⟨.lent,d⟩::as) (some s::r)=s::uB as r:=rfl
end
theorem wX{K:List Sl->Prop}:AK σ [] K=K []:=rfl
theorem wY{x:Res}{xs:List Res}{K:List Sl->Prop}:AK σ (x::xs) K=A1 σ x λa=>AK σ xs λas=>K (a::as):=by
 show OK1 ((aV5 σ x).bind λa=>(uC σ xs).bind λas=>some (a::as)) K=_;unfold AK A1;simp only[aU,cA]
theorem wZ{K:Sl->Prop}:A1 σ (.val d) K=K ⟨.val,d⟩:=rfl
theorem xA{K:Sl->Prop}:A1 σ (.own d) K=K ⟨.par,d⟩:=rfl
theorem xB{K:Sl->Prop}:A1 σ (.slot i) K=HK i σ K:=(dN1 i σ K).symm
theorem xC{K:Sl->Prop}:HK 0 (some ⟨.own,d⟩::r) K=K ⟨.par,d⟩:=rfl
theorem xE{K:Sl->Prop}:HK 0 (some ⟨.par,d⟩::r) K=K ⟨.par,d⟩:=rfl
theorem xF{K:Sl->Prop}:HK 0 (some ⟨.lent,d⟩::r) K=K ⟨.lent,d⟩:=rfl
theorem xG{K:Sl->Prop}:HK (n+1) (o::r) K=HK n r K:=rfl
def dN4{run:Run}{as as':List Sl}{y:Res}{K:Res->List Sl->Prop}(h:run as=some (y,as'))(k:K y as'):CK run as K:=by unfold CK;rw[h];exact k
end
section
variable{σ:Sg}{QS:Out->Prop}{Q:Res->Sg->Prop}{ri:DI}{g:DG}{b:DS}{a:DE}{ra:DA}
def dN5:RS (pU ri g b) σ QS=RI ri σ λitems l a=>OK1 (bS4 g b items (lendO l a)) λo=>QS (aC7 l a o):=by
 unfold RS RI pU;simp only[aU,cA]
theorem aW5{K:List D->Option Nat->Sg->Prop}:RI (dIt a) σ K=RE a σ λx b=>RD b x λd=>OK1 (aN3 d) λl=>K l (match x with | .slot i=>some i | _=>none) b:=by
 unfold RI RE RD dIt;simp only[aU,cA];try rfl
noncomputable def dZ3:List D->Option (List D)
 | [.int j]=>if -(2 ^ 62)<=j/\j < 2 ^ 62 then some (sY 0 j.toNat)else none
 | [.int i,.int j]=>if(-(2 ^ 62)<=i/\i < 2 ^ 62) /\ -(2 ^ 62)<=j/\j < 2 ^ 62 then some (sY i (j-i).toNat)else none
 | _=>none
theorem xH{K:List D->Option Nat->Sg->Prop}:RI (aA5 ra) σ K=RA ra σ λxs a=>RDs a xs λds=>OK1 (dZ3 ds) λl=>K l none a:=by
 unfold RI RA RDs aA5;simp only[aU];congr 1;funext x;congr 1;funext ds
 match ds with
 | []=>rfl
 | [.int j]=>show OK1 (if -(2 ^ 62)<=j/\j < 2 ^ 62 then _ else none) _=OK1 (if -(2 ^ 62)<=j/\j < 2 ^ 62 then _ else none) _;rw[cF,cF];rfl
 | [.int i,.int j]=>show OK1 (if(-(2 ^ 62)<=i/\i < 2 ^ 62) /\ -(2 ^ 62)<=j/\j < 2 ^ 62 then _ else none) _=OK1 (if(-(2 ^ 62)<=i/\i < 2 ^ 62) /\ -(2 ^ 62)<=j/\j < 2 ^ 62 then _ else none) _;rw[cF,cF];rfl
 | [.non]=>rfl
 | [.bl _]=>rfl
 | [.str _]=>rfl
 | [.tup _]=>rfl
 | [.lst _]=>rfl
 | [.dic _ _]=>rfl
 | .non::_::_=>rfl
 | .bl _::_::_=>rfl
 | .str _::_::_=>rfl
 | .tup _::_::_=>rfl
 | .lst _::_::_=>rfl
 | .dic _ _::_::_=>rfl
 | .int _::.non::_=>rfl
 | .int _::.bl _::_=>rfl
 | .int _::.str _::_=>rfl
 | .int _::.tup _::_=>rfl
 | .int _::.lst _::_=>rfl
 | .int _::.dic _ _::_=>rfl
 | .int _::.int _::_::_=>rfl
theorem pE{j:Int}{K:List D->Prop}:OK1 (dZ3 [.int j]) K=((-(2 ^ 62)<=j/\j < 2 ^ 62)/\K (sY 0 j.toNat)):=by
 show OK1 (if -(2 ^ 62)<=j/\j < 2 ^ 62 then some (sY 0 j.toNat)else none) K=_;rw[cF];rfl
theorem pF{i j:Int}{K:List D->Prop}:OK1 (dZ3 [.int i,.int j]) K=(((-(2 ^ 62)<=i/\i < 2 ^ 62) /\ -(2 ^ 62)<=j/\j < 2 ^ 62)/\K (sY i (j-i).toNat)):=by
 show OK1 (if(-(2 ^ 62)<=i/\i < 2 ^ 62) /\ -(2 ^ 62)<=j/\j < 2 ^ 62 then some (sY i (j-i).toNat)else none) K=_;rw[cF];rfl
def cW9{items:List D}(P:Nat->Sg->Prop)(h0:P 0 σ)(f:∀ i d σ,items[i]? = some d->P i σ->OK1 (g d σ) λc=>RS b c λo=>∃ a,(o=.nx a\/o=.ct a)/\P (i+1) a){K:Out->Prop}(k:∀ σ',P items.length σ'->K (.nx σ')):OK1 (bS4 g b items σ) K:=by
 induction items generalizing P σ with
 | nil=>exact k σ h0
 | cons d r h=>
   show OK1 ((g d σ).bind _) K;rw[aU];refine dF (f 0 d σ rfl h0) λc j=>?_;rw[aU];refine dF j λo l=>?_;obtain⟨a,m,n⟩:=l;have go:OK1 (bS4 g b r a) K:=h (λi=>P (i+1)) n (λi d σ e p=>f (i+1) d σ (by simpa using e) p) λσ' p=>k σ' (by simpa using p);rcases m with rfl | rfl;exact go;exact go
def cX0{items:List D}(P:Nat->Sg->Prop){K:Out->Prop}(h0:P 0 σ)(f:∀ i d σ,items[i]? = some d->P i σ->OK1 (g d σ) λc=>RS b c λo=>(∃ a,(o=.nx a\/o=.ct a)/\P (i+1) a)\/(∃ x a,o=.rt x a/\K (.rt x a))\/(∃ a,o=.bk a/\K (.nx a)))(k:∀ σ',P items.length σ'->K (.nx σ')):OK1 (bS4 g b items σ) K:=by
 induction items generalizing P σ with
 | nil=>exact k σ h0
 | cons d r h=>
   show OK1 ((g d σ).bind _) K;rw[aU];refine dF (f 0 d σ rfl h0) λc j=>?_;rw[aU];refine dF j λo l=>?_;rcases l with⟨a,m,n⟩ | ⟨x,a,rfl,q⟩ | ⟨a,rfl,q⟩;have go:OK1 (bS4 g b r a) K:=h (λi=>P (i+1)) n (λi d σ e p=>f (i+1) d σ (by simpa using e) p) λσ' p=>k σ' (by simpa using p);rcases m with rfl | rfl;exact go;exact go;exact q;exact q
theorem aC9{c:DT}{K:Out->Prop}(P:Nat->Sg->Prop)(f:∀ m σ,P m σ->RT c σ λt d=>if t=true then RS b d λo=>(∃ a m',(o=.nx a\/o=.ct a)/\m' < m/\P m' a)\/(∃ x a,o=.rt x a/\K (.rt x a))\/(∃ a,o=.bk a/\K (.nx a))else K (.nx d)) :
  ∀ (n m:Nat) (σ:Sg),m < n->P m σ->OK1 (sG c b n σ) K
 | 0,m,σ,h,_=>by lia
 | n+1,m,σ,h,p=>by
   show OK1 ((c σ).bind _) K;rw[aU];refine dF (f m σ p) λx e=>?_;dsimp only at e;by_cases g:x.1=true
   ·rw[a4y g]at e ⊢;rw[aU];refine dF e λo i=>?_;rcases i with⟨a,m',j,hm,k⟩ | ⟨x,a,rfl,q⟩ | ⟨a,rfl,q⟩;have go:=aC9 P f n m' a (by lia) k;rcases j with rfl | rfl;exact go;exact go;exact q;exact q
   ·rw[a4z g]at e ⊢;exact e
def bT8{c:DT}(P:Nat->Sg->Prop)(m:Nat)(hm:m < 1000000)(h0:P m σ)(e:∀ m σ,P m σ->RT c σ λt d=>if t=true then RS b d λo=>(∃ a m',(o=.nx a\/o=.ct a)/\m' < m/\P m' a)\/(∃ x a,o=.rt x a/\QS (.rt x a))\/(∃ a,o=.bk a/\QS (.nx a))else QS (.nx d)):OK1 (sG c b dC8 σ) QS:=
 aC9 P e dC8 m σ (a5d hm cV5) h0
def cX1{ow:List Nat}{t:DT}{e:DE}:RE (cE ow ri g t e) σ Q=RI ri σ λitems l a=>items.length<=sizeLine/\OK1 (aV3 ow g t e items (cV ow (lendO l a))) λy=>Q (.own (.lst y.1)) (aC6 l a (oE ow (lendO l a) y.2)):=by
 unfold RE RI cE;simp only[aU,cF,cA]
theorem xI{ow:List Nat}{t:DT}{e:DE}{K:List D×Sg->Prop}:∀ (items:List D) (a:Sg) (P:Nat->List D->Sg->Prop),P 0 [] a ->
  (∀ i d acc a,items[i]? = some d->P i acc a->OK1 (g d a) λh=>RT t h λb j=>if b=true then RE e j λr m=>∃ v,r=.val v/\P (i+1) (acc++[v]) (cV ow m)else P (i+1) acc (cV ow j)) ->
  (∀ acc a,P items.length acc a->K (acc,a))->OK1 (aV3 ow g t e items a) K
 | [],a,P,h0,_,k=>k [] a h0
 | d::r,a,P,h0,n,k=>by
   show OK1 ((g d a).bind _) K;rw[aU];refine dF (n 0 d [] a rfl h0) λh s=>?_;rw[aU];refine dF s λx l=>?_;dsimp only at l;by_cases q:x.1=true;rw[a4y q]at l ⊢;rw[aU];refine dF l λy u=>?_;obtain⟨v,w,p⟩:=u;rw[w];dsimp only;rw[aU];exact xI r _ (λi acc a=>P (i+1) (v::acc) a) p (λi d' acc c o f=>by simpa using n (i+1) d' (v::acc) c (by simpa using o) f) λacc c f=>k (v::acc) c (by simpa using f);rw[a4z q]at l ⊢;exact xI r _ (λi acc a=>P (i+1) acc a) l (λi d' acc c o f=>n (i+1) d' acc c (by simpa using o) f) λacc c f=>k acc c (by simpa using f)
end
section
variable{i j:Int}{l m:List D}{K:Res->Prop}{d e:D}{σ:Sg}{Q:Res->Sg->Prop}
theorem xJ:OK1 (iC (.int i) (.int j)) K=K (.val (.int (i+j))):=rfl
theorem pG:OK1 (iC (.lst l) (.lst m)) K=(l.length+m.length<=sizeLine/\K (.own (.lst (l++m)))):=by
 show OK1 (if l.length+m.length<=sizeLine then some (Res.own (.lst (l++m)))else none) K=_;rw[cF];rfl
theorem pH:OK1 (iC (.tup l) (.tup m)) K=(l.length+m.length<=sizeLine/\K (.val (.tup (l++m)))):=by
 show OK1 (if l.length+m.length<=sizeLine then some (Res.val (.tup (l++m)))else none) K=_;rw[cF];rfl
theorem pI{x y:Str}:OK1 (iC (.str x) (.str y)) K=(x.length+y.length<=sizeLine/\K (.val (.str (x++y)))):=by
 show OK1 (if x.length+y.length<=sizeLine then some (Res.val (.str (x++y)))else none) K=_;rw[cF];rfl
theorem xK:OK1 (dL9 (.int i) (.int j)) K=K (.val (.int (i-j))):=rfl
theorem xL:OK1 (aV8 (.int i) (.int j)) K=(uD i j/\K (.val (.int (i*j)))):=@cF _ (uD i j) (Classical.propDecidable _) _ _
theorem xM:OK1 (dV1 (.int i) (.int j)) K=(bI7 i j/\K (.val (.int (i / j)))):=@cF _ (bI7 i j) (Classical.propDecidable _) _ _
theorem xN:OK1 (bL8 (.int i) (.int j)) K=(0 < j/\K (.val (.int (i % j)))):=@cF _ (0 < j) (Classical.propDecidable _) _ _
theorem xO:OK1 (dY7 (.int i) (.int j)) K=(dC3 i j/\K (.val (.int (i ^ j.toNat)))):=@cF _ (dC3 i j) (Classical.propDecidable _) _ _
theorem aW6:OK1 (ltI (.int i) (.int j)) K=K (.val (.bl (decide (i < j)))):=rfl
theorem aW7:OK1 (leI (.int i) (.int j)) K=K (.val (.bl (decide (i<=j)))):=rfl
theorem aW8:OK1 (gtI (.int i) (.int j)) K=K (.val (.bl (decide (j < i)))):=rfl
theorem aW9:OK1 (geI (.int i) (.int j)) K=K (.val (.bl (decide (j<=i)))):=rfl
theorem xP:OK1 (cO4 (.int i)) K=K (.val (.int (-i))):=rfl
theorem xQ:OK1 (ixD (.lst l) (.int i)) K=OK1 (atI l i) λd=>K (.val d):=by
 show OK1 ((atI l i).map Res.val) K=_;rw[aO1]
theorem xR:OK1 (ixD (.tup l) (.int i)) K=OK1 (atI l i) λd=>K (.val d):=by
 show OK1 ((atI l i).map Res.val) K=_;rw[aO1]
theorem pJ:OK1 (mD [.lst l]) K=K (.val (.int l.length)):=rfl
theorem pK:OK1 (mD [.tup l]) K=K (.val (.int l.length)):=rfl
theorem xS:OK1 (dD2 [.int i]) K=K (.val (.int i)):=rfl
theorem pL{b:Bool}:OK1 (dD2 [.bl b]) K=K (.val (.int (if b then 1 else 0))):=rfl
theorem xT:OK1 (dY8 [.int i,.int j]) K=K (.val (.int (if j > i then j else i))):=rfl
theorem xU:OK1 (bT0 [.int i,.int j]) K=K (.val (.int (if j < i then j else i))):=rfl
theorem pM:OK1 (aH7 [.lst l]) K=K (.own (.lst l)):=rfl
theorem lT:OK1 (aH7 [.tup l]) K=K (.own (.lst l)):=rfl
theorem xV:OK1 (aA6 [.lst l]) K=K (.val (.tup l)):=rfl
theorem pN:OK1 (aA6 [.tup l]) K=K (.val (.tup l)):=rfl
theorem aO2:OK1 (eqD false (.int i) (.int j)) K=K (.val (.bl (decide (i=j)))):=by
 have h:tL (.int i) (.int j)=decide (i=j):=by
  show(i==j)=_;rw[a3e];simp
 show OK1 (if jR (.int i)=true/\jR (.int j)=true then some (Res.val (.bl (if false then !tL (.int i) (.int j)else tL (.int i) (.int j))))else none) K=_;rw[a4y ⟨rfl,rfl⟩,h];rfl
theorem xW{c:String}:OK1 (dM5 c (.int i)) K=K (.val (.bl (tV "int" c))):=rfl
theorem xX{c:String}{b:Bool}:OK1 (dM5 c (.bl b)) K=K (.val (.bl (tV "bool" c))):=rfl
theorem xY{k:Int}{K:D×D->Prop}:OK1 ((dV0 k e (.lst l)).map λb=>(b,D.non)) K=OK1 (ixN l.length k) λj=>K (.lst (l.set j e),.non):=by
 show OK1 (((ixN l.length k).map λj=>D.lst (l.set j e)).map λb=>(b,D.non)) K=_;rw[aO1,aO1]
theorem xZ{K:D×D->Prop}:OK1 (aN8 (.lst l) [e]) K=(l.length < sizeLine/\K (.lst (l++[e]),.non)):=by
 show OK1 (if l.length < sizeLine then some (D.lst (l++[e]),D.non)else none) K=_;rw[cF];rfl
theorem mX{bs:List Bool}:OK1 (dD1 [.lst (bs.map D.bl)]) K=K (.val (.bl (bs.all id))):=by
 show OK1 ((aN6 (bs.map D.bl)).map λbs=>Res.val (.bl (bs.all id))) K=_;rw[aN7];rfl
def SK(d:D)(lo hi:Option Int)(K:Res->Prop):Prop:=OK1 (slD d lo hi) K
theorem aX0{a:DE}{x y:DO}:RE (dSl a x y) σ Q=RE a σ λr c=>RO x c λlo e=>RO y e λhi b=>RD b r λd=>SK d lo hi λv=>Q v b:=by
 unfold RE RO RD SK dSl;simp only[aU,cA]
theorem yA{K:Option Int->Sg->Prop}:RO sZ σ K=K none σ:=rfl
theorem cX2{a:DE}{K:Option Int->Sg->Prop}:RO (dP a) σ K=RE a σ λx b=>RD b x λd=>OK1 (match d with | .int k=>some k | _=>none) λk=>K (some k) b:=by
 unfold RO RE RD dP;simp only[aU];congr 1;funext x;congr 1;funext d;cases d<;>rfl
theorem yB{lo hi:Option Int}:SK (.lst l) lo hi K=K (.own (.lst (aK8 l lo hi))):=rfl
theorem yC{lo hi:Option Int}:SK (.tup l) lo hi K=K (.val (.tup (aK8 l lo hi))):=rfl
theorem yD{x:D}{K:D->Prop}:OK1 (atI (x::l) 0) K=K x:=by
 show OK1 ((ixN (x::l).length 0).bind λj=>(x::l)[j]?) K=_;unfold ixN;rw[a4y (Int.le_refl 0),a4y (by first | (simp;done) | (simp;lia))];rfl
theorem yE{x y:D}{K:D->Prop}:OK1 (atI (x::y::l) 1) K=K y:=by
 show OK1 ((ixN (x::y::l).length 1).bind λj=>(x::y::l)[j]?) K=_;unfold ixN;rw[a4y (by decide),a4y (by first | (simp;done) | (simp;lia))];rfl
theorem dN6{x y z:D}{K:D->Prop}:OK1 (atI (x::y::z::l) 2) K=K z:=by
 show OK1 ((ixN (x::y::z::l).length 2).bind λj=>(x::y::z::l)[j]?) K=_;unfold ixN;rw[a4y (by decide),a4y (by first | (simp;done) | (simp;lia))];rfl
theorem yF{x:D}{K:Nat->Prop}:OK1 (ixN (x::l).length 0) K=K 0:=by
 unfold ixN;rw[a4y (Int.le_refl 0),a4y (by first | (simp;done) | (simp;lia))];rfl
theorem yG{x y:D}{K:Nat->Prop}:OK1 (ixN (x::y::l).length 1) K=K 1:=by
 unfold ixN;rw[a4y (by decide),a4y (by first | (simp;done) | (simp;lia))];rfl
theorem yH{i j:Int}(a:-(2 ^ 64) < j)(b:j < 2 ^ 64):uD i j=True:=eq_true (.inl (.inr ⟨a,b⟩))
theorem yI{i j:Int}(a:-(2 ^ 64) < i)(b:i < 2 ^ 64):uD i j=True:=eq_true (.inl (.inl ⟨a,b⟩))
theorem dN7{i:Int}{b:Bool}:uD i (if b=true then 1 else 0)=True:=eq_true (.inl dK0)
theorem yJ{i:Int}{p:Prop}[Decidable p]:uD i (if p then 1 else 0)=True:=eq_true (.inl (.inr (by split<;>decide)))
theorem aO3{i j:Int}(a:0 < j)(b:j < 18446744073709551616):bI7 i j=True:=eq_true ⟨a,b⟩
theorem aX1{i j:Int}(a:0<=j)(b:j<=1000000)(c:-18446744073709551616 < i)(d:i < 18446744073709551616):dC3 i j=True:=eq_true ⟨a,b,by show i.natAbs < 18446744073709551616;lia⟩
theorem yK{σ:Sg}:lendO none σ=σ:=rfl
theorem aX2{σ:Sg}{o:Out}:aC7 none σ o=o:=by cases o<;>rfl
theorem yL{σ σ':Sg}:aC6 none σ σ'=σ':=rfl
theorem yM:(tyD "list" (.lst l)=true)=True:=by simp[tyD]
end
noncomputable def rL:List D->Option (List Str)
 | []=>some []
 | .str s::r=>(rL r).bind λl=>some (s::l)
 | _::_=>none
theorem qH:∀ {l:List D} {a:List Str},rL l=some a->l=a.map D.str
 | [],_,h=>by cases h;rfl
 | .str s::r,_,h=>by
   obtain⟨l,b,c⟩:=aE h;cases c;rw[qH b];rfl
 | .non::_,_,h=>by cases h
 | .int _::_,_,h=>by cases h
 | .bl _::_,_,h=>by cases h
 | .tup _::_,_,h=>by cases h
 | .lst _::_,_,h=>by cases h
 | .dic _ _::_,_,h=>by cases h
def mY(zs:List Str):rL (zs.map D.str)=some zs:=by
 induction zs with
 | nil=>rfl
 | cons b r a=>show(rL (r.map D.str)).bind _=_;rw[a];rfl
noncomputable def bT9(sep:Str):F1:=λd=>match d with
 | .lst l=>(rL l).bind λys=>if(ys.map (·.length)).sum+ys.length*sep.length<=16777216 then some (.val (.str (Txt.join sep ys)))else none
 | _=>none
def cX3{X:Cx}{e:Expr}{sep:Str}{r:DE}(K:W.Frag)(h:∀ Γ,PE X e (tBM K "str" (cC4 K) (tC (.str sep)) (dTA Γ (aC r aP)))):GE X e (bC3 (bT9 sep) r):=.mk λΓ=>peW (h Γ) λσV H Q m=>by
 have n:dC6 (λx H Q=>cC4 K (.str sep) [x] H Q) (bT9 sep):=by
  intro H d x Q res o e k;unfold bT9 at e;split at e;obtain⟨ys,f,e⟩:=aE e;split at e;rename_i q;cases e;obtain⟨p,xs,rfl,i,b⟩:=iZ o;rw[qH f]at b;rw[b.strs_inv]at i;exact⟨sep,p,ys,rfl,rfl,gP i,q,k _ H (.refl _) (.str _)⟩;cases e;cases e
 obtain⟨σ,ok,res,σ',e,k⟩:=m;obtain⟨⟨x,g⟩,f,e⟩:=aE e;obtain⟨s,u,e⟩:=aE e;obtain⟨r,w,e⟩:=aE e;cases e;refine⟨rfl,σ,ok,[x],g,?_,λvs y a b c _=>?_⟩;show((_:Option _).bind _)=_;rw[f];rfl;cases b with
 | cons b t=>
   cases t;refine n y s _ Q _ (b.vw a u) w λv H' j l=>?_;exact k v H' (a.same j) (l.res a) (c.trans (.same j)) (l.frh.back c)
def cX4{sep:Str}{zs:List Str}{K:Res->Prop}:OK1 (bT9 sep (.lst (zs.map D.str))) K=((zs.map (·.length)).sum+zs.length*sep.length<=16777216/\K (.val (.str (Txt.join sep zs)))):=by
 show OK1 ((rL (zs.map D.str)).bind _) K=_;rw[mY];show OK1 (if _ then _ else none) K=_;rw[cF];rfl
def cE7{X:Cx}(K:W.Frag)(a:X.K=K):MtR X "str.join" (cC4 K):=by rw[← a];exact cT2
theorem cO8{H:Hp}:∀ {l:List D} {xs:List V},l.length=xs.length->(∀ (j:Nat) d x,l[j]? = some d->xs[j]? = some x->Rp H d x)->Rps H l xs
 | [],[],_,_=>.nil
 | [],_::_,e,_=>by simp at e
 | _::_,[],e,_=>by simp at e
 | d::l,x::xs,e,h=>.cons (h 0 d x rfl rfl) (cO8 (by simpa using e) λj d' a b c=>h (j+1) d' a (by simpa using b) (by simpa using c))
section
variable{σ:Sg}{Q:Res->Sg->Prop}{ra:DA}
end
end Dv
namespace PySem
section
variable{prog:Program}{w:World}{A:Around}{E:Value->Shared->Prop}{s:Shared}
def cE8{it t:Addr}{i:Nat}{b:Array Value}{x:Value}{Q:Value->Shared->Prop}(a:s.heap.IsTupleIter it t i)(f:s.heap.IsTuple t b)(g:b[i]? = some x)
  (q:∀ h',h'.IsTupleIter it t (i+1)->Heap.SameBut it s.heap h'->Q x {s with heap:=h'}):wpAny (model prog w) A (Builtin.SmallTypes.nextOf (.ref it)) Q E s:=by
 obtain⟨o,c,h,hd⟩:=id a;obtain⟨j,d,_,nt,e⟩:=f;unfold Builtin.SmallTypes.nextOf;refine a4x (wpAny_callSpecial?_slot (name:=Str.ofString "__next__") a.typeIs a5g (a4P a5g a.typeIs F.entry_tuple_iterator_next ?_ (F.args_tuple_iterator_next_1 _)));show wpAny _ _ (field (.ref it) 0 >>= _) _ _ s;refine a4x (a4R c hd (x:=.ref t) rfl ?_);show wpAny _ _ (if(Value.ref t==Value.none)=true then _ else _) _ _ s;rw[a4z (show ¬ ((Value.ref t==Value.none)=true)from a0c)];show wpAny _ _ (field (.ref it) 1 >>= _) _ _ s;refine a4x (a4R c hd (x:=.int i 0) rfl ?_);show wpAny _ _ (seqItems? (.ref t) >>= _) _ _ s;refine a4x (wpAny_seqItems d e ?_);simp only[Int.toNat_natCast,g];refine a4x (wpAny_setField c hd (by simp) (wpAny_pure ⟨x,rfl,wpAny_pure (q _ ⟨_,Heap.get?_update_self _ c (Obj.isFreed_of_fields (Obj.data_mapFields hd _)),(Obj.cls_mapFields ..).trans h,by rw[Obj.data_mapFields hd];simp[rawInt]⟩ (Heap.SameBut.update ..))⟩))
def aO4{it t:Addr}{i:Nat}{c:Array Value}{Q:Value->Shared->Prop}(h:A.handled=none)(b:s.heap.IsTupleIter it t i)(j:s.heap.IsTuple t c)(k:c[i]? = none)
  (q:∀ h' e,Heap.ExtBut it s.heap h'->(∃ o,h'.get? e=some o/\o.cls=.type "StopIteration")->E (.ref e) {s with heap:=h'}):wpAny (model prog w) A (Builtin.SmallTypes.nextOf (.ref it)) Q E s:=by
 obtain⟨o,d,l,hd⟩:=id b;obtain⟨n,f,_,nt,g⟩:=j;unfold Builtin.SmallTypes.nextOf;refine a4x (wpAny_callSpecial?_slot (name:=Str.ofString "__next__") b.typeIs a5g (a4P a5g b.typeIs F.entry_tuple_iterator_next ?_ (F.args_tuple_iterator_next_1 _)));show wpAny _ _ (field (.ref it) 0 >>= _) _ _ s;refine a4x (a4R d hd (x:=.ref t) rfl ?_);show wpAny _ _ (if(Value.ref t==Value.none)=true then _ else _) _ _ s;rw[a4z (show ¬ ((Value.ref t==Value.none)=true)from a0c)];show wpAny _ _ (field (.ref it) 1 >>= _) _ _ s;refine a4x (a4R d hd (x:=.int i 0) rfl ?_);show wpAny _ _ (seqItems? (.ref t) >>= _) _ _ s;refine a4x (wpAny_seqItems f g ?_);simp only[Int.toNat_natCast,k];refine a4x (a4Z (a4x (wpAny_setField d hd (by simp) ?_)));show wpAny _ _ (newExc (.type "StopIteration") [] >>= _) _ _ _;refine a4x ?_;simp only[newExc,newTuple];refine a4x (a4G ?_ (by size_fits));refine a4x (m:=firstArgMember _ _) (wpAny_of_eq (a:=Value.none) (by first | rfl | (simp only[firstArgMember];rfl)) ?_);refine a4G ?_ (by size_fits);simp only[raiseNew];refine a4x (wpAny_handled ?_);rw[show A.in1.handled=none from h];refine a4x (a4A (wpAny_throw ?_));exact q _ _ (((Heap.SameBut.update ..).extBut.push _).push _) ⟨_,a2c _ rfl,rfl⟩
end
def Draws.tup{prog:Program}{w:World}{A:Around}(g:A.handled=none)(it t:Addr)(d:t≠it)(a:Array Value) :
  Draws prog w A it [it,t] a.size (λi v=>a[i]? = some v) (λi h=>h.IsTupleIter it t i/\h.IsTuple t a) where
 live:=λ_ _ st=>st.1.imp λ_ z=>z.1
 frame:=λ_ _ _ st f=>⟨st.1.at λo e=>f it (by simp) o e,st.2.at λo e=>f t (by simp) o e⟩
 item:=λi s Q E hi st j=>cE8 st.1 st.2 (x:=a[i]) (by simp[hi]) λh' b c=>j _ h' s.toks (by simp[hi]) ⟨b,st.2.at λo e=>(c.2 t d).trans e⟩ c
 done:=λs Q E st k=>aO4 g st.1 st.2 (by simp) k
end PySem
namespace L2
open PySem PyProof.Rows
section
variable{X:Cx}{pins:List (Addr×Obj)}{σ:St}{H:Hp}{s:Shared}{h':Heap}{ch:List Addr}
def Inv.spun{t':Nat}{a:Addr}{o:HO}(I:Inv X pins σ H s)(h:∀ b∈ch,bM5 X pins H b)(k:∀ b u,b∉ch->s.heap.get? b=some u->h'.get? b=some u)(j:s.heap.objs.size<=a)
  (i:eV X.prog X.w (upd H a o) h' a o):Inv X pins σ (upd H a o) {s with heap:=h',toks:=t'}:=by
 have ha:H a=none:=I.hok.fresh j;have f:∀ b u,H b=some u->b∉ch:=λb u e z=>by rw[(h b z).1]at e;cases e
 refine I.step (g':=s.gens) (d':=s.drawn) (ch:=ch) (λb g=>?_) (λb u _ _ d e _=>k b u d e) (λb u _ _ d e _=>⟨u.slots,k b u d e⟩) (λb u _ e n=>?_) (λb u d e=>⟨u,k b u d e⟩)
  (λb xs e=>by rw[aS (bK e ha)];exact e) (λb u v e=>by rw[aS (bK e ha)];exact e) (λb ps e=>⟨#[],by rw[aS (bK e ha),e];simp⟩) (λm hm=>?_) (λb u e=>?_) I.bare
 ·obtain⟨B,l,C,p,t,x⟩:=h b g;exact⟨p,l,t,x⟩
 ·rw[aS (a1d (a5d (a5b e) j))];exact n
 ·obtain⟨u,es,y,A,r⟩:=hm;exact⟨u,es,y,k _ u (λz=>(h _ z).2.1 rfl) A,r⟩
 ·by_cases g:b=a;subst g;rw[aY]at e;cases e;exact i;rw[aS g]at e;refine(I.hok b u e).stay (λc v d q=>k c v ?_ q) (λc q=>by rw[aS (bK q ha)];exact q) λc xs q=>by rw[aS (bK q ha)];exact q
  rcases d with z | z;rw[z];exact f b u e;exact f c _ z
def Inv.spun0{t':Nat}(I:Inv X pins σ H s)(f:∀ b∈ch,bM5 X pins H b)(k:∀ b u,b∉ch->s.heap.get? b=some u->h'.get? b=some u):Inv X pins σ H {s with heap:=h',toks:=t'}:=by
 have d:∀ b u,H b=some u->b∉ch:=λb u e z=>by rw[(f b z).1]at e;cases e
 refine I.step (g':=s.gens) (d':=s.drawn) (ch:=ch) (λb g=>?_) (λb u _ _ a e _=>k b u a e) (λb u _ _ a e _=>⟨u.slots,k b u a e⟩) (λb u _ e n=>n) (λb u a e=>⟨u,k b u a e⟩)
  (λb xs e=>e) (λb u v e=>e) (λb ps e=>⟨#[],by rw[e];simp⟩) (λm hm=>?_) (λb u e=>?_) I.bare
 ·obtain⟨t,h,w,i,j,l⟩:=f b g;exact⟨i,h,j,l⟩
 ·obtain⟨u,es,o,p,r⟩:=hm;exact⟨u,es,o,k _ u (λz=>(f _ z).2.1 rfl) p,r⟩
 ·refine(I.hok b u e).stay (λc v a q=>k c v ?_ q) (λc q=>q) λc xs q=>q;rcases a with z | z;rw[z];exact d b u e;exact d c _ z
end
noncomputable def dZ4(K:W.Frag)(a:Addr):It:=
 ⟨λi H=>∃ xs x,SqT K H a xs/\xs[i]? = some x,λi H v H'=>∃ T x,v=.ref T/\H T=none/\H'=upd H T (.tup [.int i,x])/\∀ xs,SqT K H a xs->xs[i]? = some x,λi H=>∃ xs,SqT K H a xs/\xs.length=i⟩
noncomputable def dZ5(K:W.Frag)(a:Addr):It:=
 ⟨λi H=>∃ xs x,SqL K H a xs/\xs[i]? = some x,λi H v H'=>∃ T x,v=.ref T/\H T=none/\H'=upd H T (.tup [.int i,x])/\∀ xs,SqL K H a xs->xs[i]? = some x,λi H=>∃ xs,SqL K H a xs/\xs.length=i⟩
def bD8{P:Program}{w:World}{H:Hp}{h b:Heap}{e it T:Addr}{i:Nat}{tk:Tok}{u:Value}{x:V}(c:h.get? T=some {cls:=.type "tuple",data:=.seq #[.int i tk,u]})(d:b.get? T=h.get? T)(f:gR x u):eV P w (upd H T (.tup [.int i,x])) b T (.tup [.int i,x]):=by
 have a:=d.trans c;exact⟨by show 2<=sizeLine;decide,[.int i tk,u],.cons ⟨tk,rfl⟩ (.cons f .nil),⟨_,a,rfl,_,rfl⟩,⟨_,a,rfl⟩⟩
def bI9{P:Program}{w:World}{K:W.Frag}{D:List Expr}{k:Nat}{pos:Pos}(a e it:Addr)(n:e≠it) :
  Turn P w K (.Tuple D k pos) (dZ4 K a) [e,it] e (λi h=>(∃ j,IsEnum h e it i j)/\h.IsTupleIter it a i) where
 mem:=by simp
 obj:=λi h st b g=>by
  obtain⟨⟨j,l⟩,o,F,c,d⟩:=st;rcases a3b.mp g with z | g;subst z;exact⟨_,l,λv z=>by cases z⟩;rw[a3a.mp g];exact⟨o,F,λv z=>by rw[d]at z;cases z⟩
 keep:=λi h h' st k=>by
  obtain⟨⟨j,l⟩,hi⟩:=st;exact⟨⟨j,k e (by simp) _ l⟩,hi.at λo q=>k it (by simp) o q⟩
 item:=by
  intro X N O Q R i pins s σ H E I J st S;subst N O Q;obtain⟨⟨j,l⟩,hi⟩:=st;obtain⟨xs,x,L,M⟩:=S;obtain⟨f,T,p,hz⟩:=I.tuple L;obtain⟨u,hu,ru⟩:=T.get M;have B:s.heap.IsTuple a f.toArray:=p;have r:a≠it:=λz=>by
   obtain⟨o,m,C,_⟩:=B;obtain⟨o',U,G,_⟩:=id hi;rw[z,U]at m;cases m;rw[C]at G;injection G with q;exact absurd q (by decide)
  have V:e≠a:=λz=>by
   obtain⟨o,m,C,_⟩:=B;rw[← z,l]at m;cases m;have Y:Value.type "enumerate"=Value.type "tuple":=C;injection Y with q;exact absurd q (by decide)
  have Z:i < f.toArray.size:=by
   have:=(a2a.mp hu).1;simpa using this
  refine wpAny_pyNext_enum_itemD (Draws.tup (A:=X.A.in1) (I.ok.hd R) it a r f.toArray) l ⟨hi,B⟩ Z n (by simp[n,V]) λy m tk hy F hs' hT hsz hk=>?_;obtain rfl:y=u:=by
   rw[List.getElem?_toArray,hu]at hy;exact(a0b hy).symm
  refine⟨_,rfl,wpAny_letOwnedTupleGo_enum F λC he2 t=>?_⟩;have hTe:s.heap.objs.size≠e:=λz=>absurd (a5b l) (by rw[← z];exact a6e _);have ha:H s.heap.objs.size=none:=I.hok.fresh (a9a _);refine⟨.ref s.heap.objs.size,upd H s.heap.objs.size (.tup [.int i,x]),?_,rfl,⟨_,x,rfl,ha,rfl,λys hys=>by rw[I.tuple_inj hys L];exact M⟩,⟨⟨_,he2⟩,hs'.1.at λo q=>(t.2 it n.symm).trans q⟩,λb g=>?_⟩;exact I.spun (ch:=[e,it]) (t':=tk+1) J (λb u g q=>(t.2 b λz=>g (by simp[z])).trans (hk b u (λz=>g (by simp[z])) (λz=>g (by simp[z])) q)) (a9a _) (bD8 (e:=e) (it:=it) hT (t.2 _ hTe) ru);rw[aS (λz=>?_)];exact(J b g).1;obtain⟨o,F⟩:∃ o,s.heap.get? b=some o:=by
   rcases a3b.mp g with z | g;rw[z];exact⟨_,l⟩;rw[a3a.mp g];exact hi.imp λ_ q=>q.1
  exact absurd (a5b F) (by rw[z];exact a6e _)
 done:=by
  intro X N O Q R i pins s σ H E I J st S;subst N O Q;obtain⟨⟨j,l⟩,hi⟩:=st;obtain⟨xs,L,M⟩:=S;obtain⟨f,T,p,hz⟩:=I.tuple L;have B:s.heap.IsTuple a f.toArray:=p;have r:a≠it:=λz=>by
   obtain⟨o,m,C,_⟩:=B;obtain⟨o',U,G,_⟩:=id hi;rw[z,U]at m;cases m;rw[C]at G;injection G with q;exact absurd q (by decide)
  have hl:f.toArray.size=i:=by rw[a2b,← T.length];exact M
  refine wpAny_pyNext_enum_endD (Draws.tup (A:=X.A.in1) (I.ok.hd R) it a r f.toArray) l ⟨by rw[hl];exact hi,B⟩ λh' hx'=>⟨rfl,I.spun0 (ch:=[e,it]) (t':=s.toks) J λb u g q=>hx' b u (λz=>g (by simp[z])) q⟩
 self:=λ_ _ _ _ _ st h=>wpAny_pyIter_enum st.1.choose_spec h
def bJ0{P:Program}{w:World}{K:W.Frag}{D:List Expr}{k:Nat}{pos:Pos}(a e it:Addr)(n:e≠it) :
  Turn P w K (.Tuple D k pos) (dZ5 K a) [e,it] e (λi h=>(∃ j,IsEnum h e it i j)/\h.IsListIter it a i) where
 mem:=by simp
 obj:=λi h st b g=>by
  obtain⟨⟨j,l⟩,o,F,c,d⟩:=st;rcases a3b.mp g with z | g;subst z;exact⟨_,l,λv z=>by cases z⟩;rw[a3a.mp g];exact⟨o,F,λv z=>by rw[d]at z;cases z⟩
 keep:=λi h h' st k=>by
  obtain⟨⟨j,l⟩,hi⟩:=st;exact⟨⟨j,k e (by simp) _ l⟩,hi.at λo q=>k it (by simp) o q⟩
 item:=by
  intro X N O Q R i pins s σ H E I J st S;subst N O Q;obtain⟨⟨j,l⟩,hi⟩:=st;obtain⟨xs,x,L,M⟩:=S;obtain⟨f,T,p,hz⟩:=I.list L;obtain⟨u,hu,ru⟩:=T.get M;have B:s.heap.IsList a f.toArray:=p.isList;have r:a≠it:=λz=>by
   obtain⟨o,m,C,_⟩:=B;obtain⟨o',U,G,_⟩:=id hi;rw[z,U]at m;cases m;rw[C]at G;injection G with q;exact absurd q (by decide)
  have V:e≠a:=λz=>by
   obtain⟨o,m,C,_⟩:=B;rw[← z,l]at m;cases m;have Y:Value.type "enumerate"=Value.type "list":=C;injection Y with q;exact absurd q (by decide)
  have Z:i < f.toArray.size:=by
   have:=(a2a.mp hu).1;simpa using this
  refine wpAny_pyNext_enum_itemD (Draws.list (A:=X.A.in1) (I.ok.hd R) it a r f.toArray) l ⟨hi,B⟩ Z n (by simp[n,V]) λy m tk hy F hs' hT hsz hk=>?_;obtain rfl:y=u:=by
   rw[List.getElem?_toArray,hu]at hy;exact(a0b hy).symm
  refine⟨_,rfl,wpAny_letOwnedTupleGo_enum F λC he2 t=>?_⟩;have hTe:s.heap.objs.size≠e:=λz=>absurd (a5b l) (by rw[← z];exact a6e _);have ha:H s.heap.objs.size=none:=I.hok.fresh (a9a _);refine⟨.ref s.heap.objs.size,upd H s.heap.objs.size (.tup [.int i,x]),?_,rfl,⟨_,x,rfl,ha,rfl,λys hys=>by rw[I.list_inj hys L];exact M⟩,⟨⟨_,he2⟩,hs'.1.at λo q=>(t.2 it n.symm).trans q⟩,λb g=>?_⟩;exact I.spun (ch:=[e,it]) (t':=tk+1) J (λb u g q=>(t.2 b λz=>g (by simp[z])).trans (hk b u (λz=>g (by simp[z])) (λz=>g (by simp[z])) q)) (a9a _) (bD8 (e:=e) (it:=it) hT (t.2 _ hTe) ru);rw[aS (λz=>?_)];exact(J b g).1;obtain⟨o,F⟩:∃ o,s.heap.get? b=some o:=by
   rcases a3b.mp g with z | g;rw[z];exact⟨_,l⟩;rw[a3a.mp g];exact hi.imp λ_ q=>q.1
  exact absurd (a5b F) (by rw[z];exact a6e _)
 done:=by
  intro X N O Q R i pins s σ H E I J st S;subst N O Q;obtain⟨⟨j,l⟩,hi⟩:=st;obtain⟨xs,L,M⟩:=S;obtain⟨f,T,p,hz⟩:=I.list L;have B:s.heap.IsList a f.toArray:=p.isList;have r:a≠it:=λz=>by
   obtain⟨o,m,C,_⟩:=B;obtain⟨o',U,G,_⟩:=id hi;rw[z,U]at m;cases m;rw[C]at G;injection G with q;exact absurd q (by decide)
  have hl:f.toArray.size=i:=by rw[a2b,← T.length];exact M
  refine wpAny_pyNext_enum_endD (Draws.list (A:=X.A.in1) (I.ok.hd R) it a r f.toArray) l ⟨by rw[hl];exact hi,B⟩ λh' hx'=>⟨rfl,I.spun0 (ch:=[e,it]) (t':=s.toks) J λb u g q=>hx' b u (λz=>g (by simp[z])) q⟩
 self:=λ_ _ _ _ _ st h=>wpAny_pyIter_enum st.1.choose_spec h
end L2
namespace PySem
open AutoSeq1 (wpAny_loadPart')
noncomputable abbrev dN8(l:Addr):Obj:={cls:=.type "tuple_iterator",data:=.fields #[.ref l,.int 0 0]}
noncomputable abbrev dZ6(it:Addr):Obj:={cls:=.type "enumerate",data:=.fields #[.none,.bool false,.ref it,rawInt 0,.none,.none]}
def cE9(l:Addr)(a:Array Value)(n:Nat)(e:Option Addr)(sl:Array (Option Value)) :
  Meets (Builtin.«enumerate.__new__» ⟨[.type "enumerate",.ref l],[]⟩) (λ_ R s=>s.heap.get? l=some {cls:=.type "tuple",dict:=e,data:=.seq a n,slots:=sl} /\
   R (.ok (.ret (.ref (s.heap.push (dN8 l)).objs.size))) {s with heap:=(s.heap.push (dN8 l)).push (dZ6 s.heap.objs.size)}):=
 .of_wp λprog w A R s h=>by
  obtain⟨j,g,d,tk,os⟩:=s;obtain⟨b,h⟩:=h;have f:=sub_enumerate;have i:Heap.IsTuple (Shared.heap ⟨j,g,d,tk,os⟩) l a:=⟨_,b,rfl,n,rfl⟩
  wp_walk using a4M b
  refine wpAny_stack_any λst=>a4A ?_;split;rename_i c _ _ _ _ _;cases (c==Value.type "enumerate")<;>(wp_walk using a4M b,a4N i;exact⟨_,rfl,h⟩)
  ·wp_walk using a4M b,a4N i;exact⟨_,rfl,h⟩
section
variable{prog:Program}{w:World}{A:Around}{E:Value->Shared->Prop}{s:Shared}
def bJ1{l:Addr}{a:Array Value}{Q:Value->Shared->Prop}(j:s.heap.IsTuple l a)
  (h:∀ h',IsEnum h' (s.heap.objs.size+1) s.heap.objs.size 0 .none->h'.IsTupleIter s.heap.objs.size l 0->h'.objs.size=s.heap.objs.size+2->(∀ b o,s.heap.get? b=some o->h'.get? b=some o)->Q (.ref (s.heap.objs.size+1)) {s with heap:=h'}) :
  wpAny (model prog w) A (call (.type "enumerate") [.ref l]) Q E s:=by
 obtain⟨⟨c,d,k,sl⟩,hl,m,n,hd⟩:=j;have e:c=.type "tuple":=m;have f:k=.seq a n:=hd;subst e f;refine callType_new F.called_enumerate (by decide) (F.typeCall_enumerate_1 _) (F.newCall_enumerate_1 _) (λobj=>F.args_object_init_2 obj _) F.entry_enumerate_new (cE9 l a n d sl) ⟨hl,?_⟩;have g:(s.heap.push (dN8 l)).objs.size=s.heap.objs.size+1:=a2h ..;show _/\_;rw[g];have i:IsEnum ((s.heap.push (dN8 l)).push (dZ6 s.heap.objs.size)) (s.heap.objs.size+1) s.heap.objs.size 0 .none:=by
  have:=a2c (s.heap.push (dN8 l)) (o:=dZ6 s.heap.objs.size) rfl;rw[g]at this;exact this
 exact⟨⟨_,i,rfl⟩,h _ i ⟨_,a7a _ (a2c _ rfl),rfl,rfl⟩ (by rw[a2h,g]) λb o x=>a7a _ (a7a _ x)⟩
end
end PySem
namespace L2
open PySem PyProof.Rows
section
variable{X:Cx}
def dN9(K:W.Frag)(b:TA):TI:=λσ H R=>b σ H λvs a=>∃ p,vs=[.ref p]/\((∃ xs,iI a p=some (true,xs)/\R (dZ5 K p) a)\/∃ xs,iI a p=some (false,xs)/\R (dZ4 K p) a)
def cX5(K:W.Frag)(y:X.K=K){g:List Expr}{k:Nat}{i:Pos}{a:Expr}{w:TA}{p pos:Pos}(A:Gl X "enumerate")(hm:X.mg "enumerate"=none)(m:bootBuiltins "enumerate"=some (.type "enumerate"))(ha:PA X [a] w)(B:starEach [a] X.env=[(false,eval a X.env)]:=by rfl):PI X (.Tuple g k i) (.Call (.Name "enumerate" p) [a] [] pos) (dN9 K w):=by
 subst y;intro pins s σ H R I h;refine Call_ (nR I A hm m (a9e (thn (ha pos pins s σ H _ I h) λus s1 Z0=>?_) B rfl));obtain⟨vs,x,f,C,n⟩:=Z0;obtain⟨b,rfl,n⟩:=n;obtain⟨u,rfl,D⟩:=C.one;cases D;have d:∀ c,c∈[s1.heap.objs.size+1,s1.heap.objs.size]->s1.heap.objs.size<=c:=λc e=>by
  rcases a3b.mp e with z | e;lia;rw[a3a.mp e];exact a9a _
 rcases n with⟨xs,o,q⟩ | ⟨xs,o,q⟩;obtain⟨j,E,r,F⟩:=f.list (gP o);refine call_enumerate_list r.isList λh' l hi t v=>wpAny_pyIter_enum l ?_;exact⟨_,[s1.heap.objs.size+1,s1.heap.objs.size],_,_,x,rfl,f.kept (t':=s1.toks) v,bJ0 b _ _ (Nat.succ_ne_self _),⟨⟨_,l⟩,hi⟩,λc e=>f.fpOk (d c e) (f.hok.fresh (d c e)),q⟩;obtain⟨j,E,r,F⟩:=f.tuple (eY o);refine bJ1 (show s1.heap.IsTuple b j.toArray from r) λh' l hi t v=>wpAny_pyIter_enum l ?_;exact⟨_,[s1.heap.objs.size+1,s1.heap.objs.size],_,_,x,rfl,f.kept (t':=s1.toks) v,bI9 b _ _ (Nat.succ_ne_self _),⟨⟨_,l⟩,hi⟩,λc e=>f.fpOk (d c e) (f.hok.fresh (d c e)),q⟩
end
end L2
namespace Dv
open PySem L2 Mr
section
variable{P:Program}{w:World}{K:W.Frag}{mg:Str->Option Value}{base:Heap}
end
section
variable{K:W.Frag}{H:Hp}{C fI:Addr}{E:XK}
end
section
variable{K:W.Frag}{H:Hp}{C fI:Addr}{E:XK}
end
end Dv
namespace Dv
open PySem L2
noncomputable def yN(n:Nat):List D->List D
 | []=>[]
 | d::r=>.tup [.int (n:Int),d]::yN (n+1) r
theorem jT:∀ (n:Nat) (l:List D),(yN n l).length=l.length
 | _,[]=>rfl
 | n,_::r=>by show(yN (n+1) r).length+1=r.length+1;rw[jT]
theorem kL:∀ {n:Nat} {l:List D} {i:Nat} {d:D},(yN n l)[i]? = some d->∃ y,l[i]? = some y/\d=.tup [.int ((n+i:Nat):Int),y]
 | _,[],_,_,h=>by simp[yN]at h
 | n,y::r,0,d,h=>by
   simp[yN]at h;exact⟨y,rfl,by rw[← h];rfl⟩
 | n,y::r,i+1,d,h=>by
   obtain⟨z,e,q⟩:=kL (n:=n+1) (l:=r) (i:=i) (d:=d) (by simpa[yN]using h);exact⟨z,by simpa using e,by rw[q,show n+1+i=n+(i+1) by lia]⟩
def bU0{K:W.Frag}{p:Addr}{xs:List V}{l:List D}:ItD (dZ5 K p) (yN 0 l) (λH=>SqL K H p xs/\Rps H l xs) where
 go:=λH i d ⟨h,r⟩ e=>by
  obtain⟨y,a,_⟩:=kL e;obtain⟨x,ex,_⟩:=r.get a;exact⟨xs,x,h,ex⟩
 yld:=λH i d v H' ⟨h,r⟩ e ⟨T,x,c,b,f,g⟩=>by
  obtain⟨y,a,rfl⟩:=kL e;obtain⟨k,ex,j⟩:=r.get a;have:=g xs h;rw[ex]at this;cases this;subst c f;refine⟨cH b,.tup aY (.cons ?_ (.cons (j.mono (Ext.same (cH b))) .nil))⟩;rw[a9f];exact .int _
 stop:=λH ⟨h,r⟩=>⟨xs,h,by rw[jT,r.length]⟩
def bU1{K:W.Frag}{p:Addr}{xs:List V}{l:List D}:ItD (dZ4 K p) (yN 0 l) (λH=>SqT K H p xs/\Rps H l xs) where
 go:=λH i d ⟨h,r⟩ e=>by
  obtain⟨y,a,_⟩:=kL e;obtain⟨x,ex,_⟩:=r.get a;exact⟨xs,x,h,ex⟩
 yld:=λH i d v H' ⟨h,r⟩ e ⟨T,x,c,b,f,g⟩=>by
  obtain⟨y,a,rfl⟩:=kL e;obtain⟨k,ex,j⟩:=r.get a;have:=g xs h;rw[ex]at this;cases this;subst c f;refine⟨cH b,.tup aY (.cons ?_ (.cons (j.mono (Ext.same (cH b))) .nil))⟩;rw[a9f];exact .int _
 stop:=λH ⟨h,r⟩=>⟨xs,h,by rw[jT,r.length]⟩
noncomputable def dV2:D->Option (List D)
 | .lst l=>some l
 | .tup l=>some l
 | _=>none
noncomputable def bU2(r:DE):DI:=λσ=>(r σ).bind λx=>(rd x.2 x.1).bind λd=>(dV2 d).bind λl=>some (yN 0 l,(match x.1 with | .slot i=>some i | _=>none),x.2)
def cX6{X:Cx}{tg e:Expr}{r:DE}(K:W.Frag)(h:∀ Γ,PI X tg e (dN9 K (dTA Γ (aC r aP)))):GI X tg e (bU2 r):=.mk λΓ=>piW (h Γ) λσV H R ⟨σ,ok,items,l,z,e,k⟩=>by
 obtain⟨⟨x,n⟩,A,e⟩:=aE e;obtain⟨d,o,e⟩:=aE e;obtain⟨g,q,e⟩:=aE e;cases e;refine⟨σ,ok,[x],n,?_,λvs y a i j C=>?_⟩;show((_:Option _).bind _)=_;rw[A];rfl
 cases i with
 | cons i t _=>
   cases t;have vw:=i.vw a o;cases d with
   | lst B=>
     cases q;obtain⟨p,xs,rfl,m,s⟩:=iZ vw;refine⟨p,rfl,.inl ⟨xs,m,k _ y _ a j (bU0 (xs:=xs)) λc b u f=>?_⟩⟩;obtain⟨v,w⟩:=tZ a i o (items:=g) rfl vw p true xs rfl m s c b u f;exact⟨gP v,w⟩
   | tup B=>
     cases q;obtain⟨p,xs,rfl,m,s⟩:=gX vw;refine⟨p,rfl,.inr ⟨xs,eO m,k _ y _ a j (bU1 (xs:=xs)) λc b u f=>?_⟩⟩;obtain⟨v,w⟩:=tZ a i o (items:=g) rfl vw p false xs rfl (eO m) s c b u f;exact⟨eY v,w⟩
   | _=>cases q
theorem pO{σ:Sg}{a:DE}{K:List D->Option Nat->Sg->Prop}:RI (bU2 a) σ K=RE a σ λx b=>RD b x λd=>OK1 (dV2 d) λl=>K (yN 0 l) (match x with | .slot i=>some i | _=>none) b:=by
 unfold RI RE RD bU2;simp only[aU,cA];try rfl
end Dv
namespace Mr
open PySem L2
noncomputable def top(i:Nat):Stmt:=PySem.Challenge.pw_mostrows_k49_whole_ears_or_a_ring.main.body.getD i (.Pass ⟨0,0,0,0⟩)
noncomputable abbrev aD0:Stmt:=top 26
noncomputable abbrev nT:Stmt:=top 28
noncomputable abbrev aD1:Stmt:=top 29
noncomputable abbrev mG:Stmt:=top 31
noncomputable abbrev mH:Stmt:=top 30
noncomputable abbrev yO:Stmt:=top 27
noncomputable abbrev nU:Stmt:=top 32
noncomputable abbrev aO5:Stmt:=top 25
noncomputable abbrev aO6:Stmt:=top 17
noncomputable abbrev sJ:Stmt:=top 1
noncomputable abbrev aO7:Stmt:=top 18
noncomputable abbrev sK:Stmt:=top 19
noncomputable abbrev aO8:Stmt:=top 20
noncomputable abbrev yP:Stmt:=top 21
noncomputable abbrev yQ:Stmt:=top 4
noncomputable abbrev mI:Stmt:=top 13
noncomputable abbrev bD9:Stmt:=top 14
noncomputable abbrev aO9:Stmt:=top 7
noncomputable abbrev qI:Stmt:=top 8
noncomputable abbrev qJ:Stmt:=top 9
noncomputable abbrev qK:Stmt:=top 11
noncomputable abbrev sL:Stmt:=top 10
noncomputable abbrev aP0:Stmt:=top 12
noncomputable abbrev aP1:Stmt:=top 15
noncomputable abbrev cO9:Stmt:=top 22
noncomputable abbrev yS:Stmt:=top 23
noncomputable abbrev qL:Stmt:=top 33
noncomputable abbrev qM:Stmt:=top 35
noncomputable abbrev mJ:Stmt:=top 36
noncomputable abbrev qN:Stmt:=top 37
noncomputable abbrev qO:Stmt:=top 34
noncomputable abbrev yT:Stmt:=top 38
noncomputable abbrev yU:Stmt:=top 40
noncomputable abbrev cP0:Stmt:=top 2
noncomputable abbrev yV:Stmt:=top 39
noncomputable abbrev dO0:Stmt:=top 41
structure Adr where
 a0O:Addr
 a0s:FuncData
 a0C:Addr
 a0t:FuncData
 a2F:Addr
 a0R:FuncData
 a0U:Addr
 a0G:FuncData
 a0Z:Addr
 a0E:FuncData
 a2R:Addr
 a1F:FuncData
 a1H:Addr
 a0K:FuncData
 a3E:Addr
 a2D:FuncData
 without:Addr
 a1z:FuncData
 a0r:Addr
 a0P:FuncData
 a1w:Addr
 a2E:FuncData
 a0u:Addr
 a1x:FuncData
 a0S:Addr
 a1S:FuncData
 a0z:Addr
 a1G:FuncData
 a0A:Addr
 a1D:FuncData
 a0m:Addr
 a0D:FuncData
 walked:Addr
 a2Q:FuncData
 a1n:Addr
 a2C:FuncData
 a0p:Addr
 a0Y:FuncData
 a0q:Addr
 a1i:FuncData
 a0o:Addr
 a0W:FuncData
 neighbours:Addr
 a1y:FuncData
 a0L:Addr
 a1A:FuncData
 a1v:Addr
 a2B:FuncData
 ears:Addr
 a3D:FuncData
 a0y:Addr
 a1J:FuncData
 a2r:Addr
 a0V:FuncData
 a2k:Addr
 a0X:FuncData
 a1k:Addr
 a0F:FuncData
 a2q:Addr
 a1j:FuncData
 a1B:Addr
 a0H:FuncData
 a2U:Addr
 a1E:FuncData
 a2S:Addr
 a1K:FuncData
 part:Addr
 a3C:FuncData
 a2W:Addr
 a1L:FuncData
 law:Addr
 a4l:FuncData
structure Txt(K:W.Frag)(mg:Str->Option Value)(a:Adr):Prop where
 a0k:mg "_law_take"=some (.ref a.a0O)
 a0j:Fun K "_law_take" "_law_take" aD0 a.a0O a.a0s
 a0v:mg "_law_shuffled"=some (.ref a.a0C)
 a0n:Fun K "_law_shuffled" "_law_shuffled" nT a.a0C a.a0t
 a1P:mg "_law_some"=some (.ref a.a2F)
 a0T:Fun K "_law_some" "_law_some" aD1 a.a2F a.a0R
 a3j:mg "_law_round_sets"=some (.ref a.a0U)
 a1p:Fun K "_law_round_sets" "_law_round_sets" mG a.a0U a.a0G
 a2Y:mg "_law_plain_sets"=some (.ref a.a0Z)
 a1q:Fun K "_law_plain_sets" "_law_plain_sets" mH a.a0Z a.a0E
 a3m:mg "_law_names"=some (.ref a.a2R)
 a1U:Fun K "_law_names" "_law_names" yO a.a2R a.a1F
 a3u:mg "_law_question"=some (.ref a.a1H)
 a1N:Fun K "_law_question" "_law_question" nU a.a1H a.a0K
 a2T:mg "_law_box"=some (.ref a.a3E)
 a1O:Fun K "_law_box" "_law_box" aO5 a.a3E a.a2D
 a3t:mg "without"=some (.ref a.without)
 a2x:Fun K "without" "without" aO6 a.without a.a1z
 a2X:mg "columns_of"=some (.ref a.a0r)
 a1I:Fun K "columns_of" "columns_of" sJ a.a0r a.a0P
 a3Z:mg "has_all"=some (.ref a.a1w)
 a3s:Fun K "has_all" "has_all" aO7 a.a1w a.a2E
 a3J:mg "holders_of"=some (.ref a.a0u)
 a2w:Fun K "holders_of" "holders_of" sK a.a0u a.a1x
 a3n:mg "ears_in"=some (.ref a.a0S)
 a2A:Fun K "ears_in" "ears_in" aO8 a.a0S a.a1S
 a3N:mg "taken_off"=some (.ref a.a0z)
 a2N:Fun K "taken_off" "taken_off" yP a.a0z a.a1G
 a3M:mg "all_parts"=some (.ref a.a0A)
 a2K:Fun K "all_parts" "all_parts" yQ a.a0A a.a1D
 a3i:mg "stand_together"=some (.ref a.a0m)
 a1s:Fun K "stand_together" "stand_together" mI a.a0m a.a0D
 a4i:mg "walked"=some (.ref a.walked)
 a3z:Fun K "walked" "walked" bD9 a.walked a.a2Q
 a3Y:mg "sets_in"=some (.ref a.a1n)
 a3l:Fun K "sets_in" "sets_in" aO9 a.a1n a.a2C
 a3G:mg "lies_within"=some (.ref a.a0p)
 a1Z:Fun K "lies_within" "lies_within" qI a.a0p a.a0Y
 a3F:mg "widest_sets"=some (.ref a.a0q)
 a2p:Fun K "widest_sets" "widest_sets" qJ a.a0q a.a1i
 a3w:mg "all_but_one"=some (.ref a.a0o)
 a1W:Fun K "all_but_one" "all_but_one" qK a.a0o a.a0W
 a3K:mg "neighbours"=some (.ref a.neighbours)
 a2y:Fun K "neighbours" "neighbours" sL a.neighbours a.a1y
 a2V:mg "is_ring"=some (.ref a.a0L)
 a1Q:Fun K "is_ring" "is_ring" aP0 a.a0L a.a1A
 a3X:mg "ring_of"=some (.ref a.a1v)
 a3k:Fun K "ring_of" "ring_of" aP1 a.a1v a.a2B
 a4k:mg "ears"=some (.ref a.ears)
 a3S:Fun K "ears" "ears" cO9 a.ears a.a3D
 a3q:mg "ears_show"=some (.ref a.a0y)
 a2m:Fun K "ears_show" "ears_show" yS a.a0y a.a1J
 a3B:mg "_law_columns"=some (.ref a.a2r)
 a2s:Fun K "_law_columns" "_law_columns" qL a.a2r a.a0V
 a3A:mg "_law_choices"=some (.ref a.a2k)
 a2j:Fun K "_law_choices" "_law_choices" qM a.a2k a.a0X
 a2Z:mg "_law_rows_round"=some (.ref a.a1k)
 a1t:Fun K "_law_rows_round" "_law_rows_round" mJ a.a1k a.a0F
 a3y:mg "_law_no_ring"=some (.ref a.a2q)
 a1Y:Fun K "_law_no_ring" "_law_no_ring" qN a.a2q a.a1j
 a2t:mg "_law_holders"=some (.ref a.a1B)
 a0N:Fun K "_law_holders" "_law_holders" qO a.a1B a.a0H
 a3P:mg "_law_stuck"=some (.ref a.a2U)
 a2M:Fun K "_law_stuck" "_law_stuck" yT a.a2U a.a1E
 a3Q:mg "_law_truth"=some (.ref a.a2S)
 a2G:Fun K "_law_truth" "_law_truth" yU a.a2S a.a1K
 a4s:mg "part"=some (.ref a.part)
 a3W:Fun K "part" "part" cP0 a.part a.a3C
 a3O:mg "_law_likes"=some (.ref a.a2W)
 a2L:Fun K "_law_likes" "_law_likes" yV a.a2W a.a1L
 a4u:mg "law"=some (.ref a.law)
 a4v:Fun K "law" "law" dO0 a.law a.a4l
 a4n:mg "all"=none
 a4o:mg "any"=none
 a4r:mg "bool"=none
 a4p:mg "dict"=none
 a3L:mg "enumerate"=none
 a4q:mg "int"=none
 a3I:mg "isinstance"=none
 a0Q:mg "len"=none
 a3v:mg "list"=none
 a4m:mg "min"=none
 a0B:mg "range"=none
 a4t:mg "set"=none
 a3x:mg "sorted"=none
 a1o:mg "tuple"=none
 a4j:∃ t,mg "FEWEST"=some (.int 3 t)
def aH9:bootBuiltins "all"=some (.builtin "all"):=by decide +kernel
def bE0:bootBuiltins "any"=some (.builtin "any"):=by decide +kernel
def bU3:bootBuiltins "bool"=some (.type "bool"):=by decide +kernel
def bU4:bootBuiltins "dict"=some (.type "dict"):=by decide +kernel
def aA7:bootBuiltins "enumerate"=some (.type "enumerate"):=by decide +kernel
def bE1:bootBuiltins "int"=some (.type "int"):=by decide +kernel
def yX:bootBuiltins "isinstance"=some (.builtin "isinstance"):=by decide +kernel
def bQ:bootBuiltins "len"=some (.builtin "len"):=by decide +kernel
def kM:bootBuiltins "list"=some (.type "list"):=by decide +kernel
def aI0:bootBuiltins "min"=some (.builtin "min"):=by decide +kernel
def boot_range:bootBuiltins "range"=some (.type "range"):=by decide +kernel
def cF0:bootBuiltins "set"=some (.type "set"):=by decide +kernel
def pP:bootBuiltins "sorted"=some (.builtin "sorted"):=by decide +kernel
def dL:bootBuiltins "tuple"=some (.type "tuple"):=by decide +kernel
def yY:FnScope ["_law_box_here","_law_many","_law_digit","_law_one"] ["_law_box_here","_law_many"] (aW aD0):=⟨rfl,rfl,rfl,by decide +kernel,rfl,by decide +kernel,by decide +kernel⟩
def mZ:FnScope ["_law_box_here","_law_things","_law_left","_law_found"] ["_law_box_here","_law_things"] (aW nT):=⟨rfl,rfl,rfl,by decide +kernel,rfl,by decide +kernel,by decide +kernel⟩
def yZ:FnScope ["_law_box_here","_law_things"] ["_law_box_here","_law_things"] (aW aD1):=⟨rfl,rfl,rfl,by decide +kernel,rfl,by decide +kernel,by decide +kernel⟩
def kN:FnScope ["_law_box_here","_law_many","_law_found","_law_own","_law_k","_law_j"] ["_law_box_here"] (aW mG):=⟨rfl,rfl,rfl,by decide +kernel,rfl,by decide +kernel,by decide +kernel⟩
def kO:FnScope ["_law_box_here","_law_many","_law_count","_law_found","_law_used","_law_k","_law_own","_law_fresh","_law_column"] ["_law_box_here"] (aW mH):=⟨rfl,rfl,rfl,by decide +kernel,rfl,by decide +kernel,by decide +kernel⟩
def sM:FnScope ["_law_box_here","_law_many","_law_letters","_law_x","_law_y","_law_common","_law_at","_law_first","_law_longer","_law_found","_law_k","_law_word"] ["_law_box_here","_law_many"] (aW yO):=⟨rfl,rfl,rfl,by decide +kernel,rfl,by decide +kernel,by decide +kernel⟩
def nA:FnScope ["_law_box_here","_law_way","_law_sets","_law_columns_here","_law_tables","_law_found","_law_k","_law_own","_law_at"] ["_law_box_here"] (aW nU):=⟨rfl,rfl,rfl,by decide +kernel,rfl,by decide +kernel,by decide +kernel⟩
def aD2:FnScope ["_law_script","_law_k","_law_cell","_law_seed"] ["_law_script","_law_k"] (aW aO5):=⟨rfl,rfl,rfl,by decide +kernel,rfl,by decide +kernel,by decide +kernel⟩
def aD3:FnScope ["question","name","pair"] ["question","name"] (aW aO6):=⟨rfl,rfl,rfl,by decide +kernel,rfl,by decide +kernel,by decide +kernel⟩
def qQ:FnScope ["question","found","name","columns","column"] ["question"] (aW sJ):=⟨rfl,rfl,rfl,by decide +kernel,rfl,by decide +kernel,by decide +kernel⟩
def aD4:FnScope ["columns","some","column"] ["columns","some"] (aW aO7):=⟨rfl,rfl,rfl,by decide +kernel,rfl,by decide +kernel,by decide +kernel⟩
def qR:FnScope ["left","name","columns","others","shared","column","other","held"] ["left","name","columns"] (aW sK):=⟨rfl,rfl,rfl,by decide +kernel,rfl,by decide +kernel,by decide +kernel⟩
def aD5:FnScope ["left","found","name","columns","holder"] ["left"] (aW aO8):=⟨rfl,rfl,rfl,by decide +kernel,rfl,by decide +kernel,by decide +kernel⟩
def sN:FnScope ["question","left","taken","found"] ["question"] (aW yP):=⟨rfl,rfl,rfl,by decide +kernel,rfl,by decide +kernel,by decide +kernel⟩
def sO:FnScope ["names","parts","name","ahead"] ["names"] (aW yQ):=⟨rfl,rfl,rfl,by decide +kernel,rfl,by decide +kernel,by decide +kernel⟩
def kP:FnScope ["question","one","other","name","columns"] ["question","one","other"] (aW mI):=⟨rfl,rfl,rfl,by decide +kernel,rfl,by decide +kernel,by decide +kernel⟩
def aP2:FnScope ["question","columns","way","step","ahead","column"] ["question","columns"] (aW bD9):=⟨rfl,rfl,rfl,by decide +kernel,rfl,by decide +kernel,by decide +kernel⟩
def aD6:FnScope ["question","columns","found","name","own","one","column"] ["question","columns"] (aW aO9):=⟨rfl,rfl,rfl,by decide +kernel,rfl,by decide +kernel,by decide +kernel⟩
def nV:FnScope ["one","other","column"] ["one","other"] (aW qI):=⟨rfl,rfl,rfl,by decide +kernel,rfl,by decide +kernel,by decide +kernel⟩
def nW:FnScope ["question","columns","found","one","other"] ["question","columns"] (aW qJ):=⟨rfl,rfl,rfl,by decide +kernel,rfl,by decide +kernel,by decide +kernel⟩
def nX:FnScope ["columns","at"] ["columns"] (aW qK):=⟨rfl,rfl,rfl,by decide +kernel,rfl,by decide +kernel,by decide +kernel⟩
def qS:FnScope ["columns","pairs","at"] ["columns"] (aW sL):=⟨rfl,rfl,rfl,by decide +kernel,rfl,by decide +kernel,by decide +kernel⟩
def aD7:FnScope ["question","columns","found"] ["question","columns"] (aW aP0):=⟨rfl,rfl,rfl,by decide +kernel,rfl,by decide +kernel,by decide +kernel⟩
def aD8:FnScope ["question","columns","way"] ["question"] (aW aP1):=⟨rfl,rfl,rfl,by decide +kernel,rfl,by decide +kernel,by decide +kernel⟩
def bU5:FnScope ["question","taken"] ["question"] (aW cO9):=⟨rfl,rfl,rfl,by decide +kernel,rfl,by decide +kernel,by decide +kernel⟩
def sP:FnScope ["question","some","left","name","holder"] ["question","some"] (aW yS):=⟨rfl,rfl,rfl,by decide +kernel,rfl,by decide +kernel,by decide +kernel⟩
def nY:FnScope ["_law_question_here","_law_found","_law_kt","_law_own","_law_column"] ["_law_question_here"] (aW qL):=⟨rfl,rfl,rfl,by decide +kernel,rfl,by decide +kernel,by decide +kernel⟩
def nZ:FnScope ["_law_things","_law_many","_law_found","_law_k","_law_longer","_law_one","_law_at","_law_thing"] ["_law_things","_law_many"] (aW qM):=⟨rfl,rfl,rfl,by decide +kernel,rfl,by decide +kernel,by decide +kernel⟩
def kQ:FnScope ["_law_things","_law_found","_law_thing","_law_longer","_law_row","_law_at"] ["_law_things"] (aW mJ):=⟨rfl,rfl,rfl,by decide +kernel,rfl,by decide +kernel,by decide +kernel⟩
def oA:FnScope ["_law_box_here","_law_question_here","_law_columns_here","_law_many","_law_some_here","_law_row","_law_k"] ["_law_box_here","_law_question_here"] (aW qN):=⟨rfl,rfl,rfl,by decide +kernel,rfl,by decide +kernel,by decide +kernel⟩
def oB:FnScope ["_law_left","_law_kt","_law_own","_law_others","_law_wanted","_law_other","_law_columns_here","_law_column"] ["_law_left","_law_kt"] (aW qO):=⟨rfl,rfl,rfl,by decide +kernel,rfl,by decide +kernel,by decide +kernel⟩
def sQ:FnScope ["_law_box_here","_law_question_here","_law_left","_law_found","_law_some_here","_law_kt","_law_keepers","_law_columns_here","_law_pair","_law_other"] ["_law_box_here","_law_question_here"] (aW yT):=⟨rfl,rfl,rfl,by decide +kernel,rfl,by decide +kernel,by decide +kernel⟩
def sR:FnScope ["_law_found","_law_due"] ["_law_found","_law_due"] (aW yU):=⟨rfl,rfl,rfl,by decide +kernel,rfl,by decide +kernel,by decide +kernel⟩
def bU6:FnScope ["question","tables","pair"] ["question","tables"] (aW cP0):=⟨rfl,rfl,rfl,by decide +kernel,rfl,by decide +kernel,by decide +kernel⟩
def sS:FnScope ["_law_box_here","_law_question_here","_law_names_here","_law_some_here","_law_found","_law_kt","_law_own","_law_columns_here","_law_other"] ["_law_box_here","_law_question_here"] (aW yV):=⟨rfl,rfl,rfl,by decide +kernel,rfl,by decide +kernel,by decide +kernel⟩
def cP1:FnScope ["_law_script","_law_question_here","_law_word","_law_told","_law_k","_law_found","_law_other"] ["_law_script"] (aW dO0):=⟨rfl,rfl,rfl,by decide +kernel,rfl,by decide +kernel,by decide +kernel⟩
section
variable{P:Program}{w:World}{K:W.Frag}{mg:Str->Option Value}{base:Heap}{a:Adr}
def bB(T:Txt K mg a):eM K a.a0s ["_law_box_here","_law_many"] []:=T.a0j.binds (ps:=["_law_box_here","_law_many"]) λ_ _ _ _ _ _ us b=>match us,b with | [_,_],_=>rfl
def dZ(T:Txt K mg a):eM K a.a0t ["_law_box_here","_law_things"] []:=T.a0n.binds (ps:=["_law_box_here","_law_things"]) λ_ _ _ _ _ _ us b=>match us,b with | [_,_],_=>rfl
def kR(T:Txt K mg a):eM K a.a0R ["_law_box_here","_law_things"] []:=T.a0T.binds (ps:=["_law_box_here","_law_things"]) λ_ _ _ _ _ _ us b=>match us,b with | [_,_],_=>rfl
def tD(T:Txt K mg a):eM K a.a0G ["_law_box_here"] []:=T.a1p.binds (ps:=["_law_box_here"]) λ_ _ _ _ _ _ us b=>match us,b with | [_],_=>rfl
def tE(T:Txt K mg a):eM K a.a0E ["_law_box_here"] []:=T.a1q.binds (ps:=["_law_box_here"]) λ_ _ _ _ _ _ us b=>match us,b with | [_],_=>rfl
def zA(T:Txt K mg a):eM K a.a1F ["_law_box_here","_law_many"] []:=T.a1U.binds (ps:=["_law_box_here","_law_many"]) λ_ _ _ _ _ _ us b=>match us,b with | [_,_],_=>rfl
def aA8(T:Txt K mg a):eM K a.a0K ["_law_box_here"] []:=T.a1N.binds (ps:=["_law_box_here"]) λ_ _ _ _ _ _ us b=>match us,b with | [_],_=>rfl
def qT(T:Txt K mg a):eM K a.a2D ["_law_script","_law_k"] []:=T.a1O.binds (ps:=["_law_script","_law_k"]) λ_ _ _ _ _ _ us b=>match us,b with | [_,_],_=>rfl
def zC(T:Txt K mg a):eM K a.a1z ["question","name"] []:=T.a2x.binds (ps:=["question","name"]) λ_ _ _ _ _ _ us b=>match us,b with | [_,_],_=>rfl
def sT(T:Txt K mg a):eM K a.a0P ["question"] []:=T.a1I.binds (ps:=["question"]) λ_ _ _ _ _ _ us b=>match us,b with | [_],_=>rfl
def bU7(T:Txt K mg a):eM K a.a2E ["columns","some"] []:=T.a3s.binds (ps:=["columns","some"]) λ_ _ _ _ _ _ us b=>match us,b with | [_,_],_=>rfl
def aP3(T:Txt K mg a):eM K a.a1x ["left","name","columns"] []:=T.a2w.binds (ps:=["left","name","columns"]) λ_ _ _ _ _ _ us b=>match us,b with | [_,_,_],_=>rfl
def zD(T:Txt K mg a):eM K a.a1S ["left"] []:=T.a2A.binds (ps:=["left"]) λ_ _ _ _ _ _ us b=>match us,b with | [_],_=>rfl
def aX3(T:Txt K mg a):eM K a.a1G ["question"] []:=T.a2N.binds (ps:=["question"]) λ_ _ _ _ _ _ us b=>match us,b with | [_],_=>rfl
def aX4(T:Txt K mg a):eM K a.a1D ["names"] []:=T.a2K.binds (ps:=["names"]) λ_ _ _ _ _ _ us b=>match us,b with | [_],_=>rfl
def tF(T:Txt K mg a):eM K a.a0D ["question","one","other"] []:=T.a1s.binds (ps:=["question","one","other"]) λ_ _ _ _ _ _ us b=>match us,b with | [_,_,_],_=>rfl
def cF1(T:Txt K mg a):eM K a.a2Q ["question","columns"] []:=T.a3z.binds (ps:=["question","columns"]) λ_ _ _ _ _ _ us b=>match us,b with | [_,_],_=>rfl
def bU8(T:Txt K mg a):eM K a.a2C ["question","columns"] []:=T.a3l.binds (ps:=["question","columns"]) λ_ _ _ _ _ _ us b=>match us,b with | [_,_],_=>rfl
def aI1(T:Txt K mg a):eM K a.a0Y ["one","other"] []:=T.a1Z.binds (ps:=["one","other"]) λ_ _ _ _ _ _ us b=>match us,b with | [_,_],_=>rfl
def aI2(T:Txt K mg a):eM K a.a1i ["question","columns"] []:=T.a2p.binds (ps:=["question","columns"]) λ_ _ _ _ _ _ us b=>match us,b with | [_,_],_=>rfl
def aI3(T:Txt K mg a):eM K a.a0W ["columns"] []:=T.a1W.binds (ps:=["columns"]) λ_ _ _ _ _ _ us b=>match us,b with | [_],_=>rfl
def aP4(T:Txt K mg a):eM K a.a1y ["columns"] []:=T.a2y.binds (ps:=["columns"]) λ_ _ _ _ _ _ us b=>match us,b with | [_],_=>rfl
def qU(T:Txt K mg a):eM K a.a1A ["question","columns"] []:=T.a1Q.binds (ps:=["question","columns"]) λ_ _ _ _ _ _ us b=>match us,b with | [_,_],_=>rfl
def bU9(T:Txt K mg a):eM K a.a2B ["question"] []:=T.a3k.binds (ps:=["question"]) λ_ _ _ _ _ _ us b=>match us,b with | [_],_=>rfl
def cP2(T:Txt K mg a):eM K a.a3D ["question"] []:=T.a3S.binds (ps:=["question"]) λ_ _ _ _ _ _ us b=>match us,b with | [_],_=>rfl
def zE(T:Txt K mg a):eM K a.a1J ["question","some"] []:=T.a2m.binds (ps:=["question","some"]) λ_ _ _ _ _ _ us b=>match us,b with | [_,_],_=>rfl
def aI4(T:Txt K mg a):eM K a.a0V ["_law_question_here"] []:=T.a2s.binds (ps:=["_law_question_here"]) λ_ _ _ _ _ _ us b=>match us,b with | [_],_=>rfl
def aI5(T:Txt K mg a):eM K a.a0X ["_law_things","_law_many"] []:=T.a2j.binds (ps:=["_law_things","_law_many"]) λ_ _ _ _ _ _ us b=>match us,b with | [_,_],_=>rfl
def tG(T:Txt K mg a):eM K a.a0F ["_law_things"] []:=T.a1t.binds (ps:=["_law_things"]) λ_ _ _ _ _ _ us b=>match us,b with | [_],_=>rfl
def aI6(T:Txt K mg a):eM K a.a1j ["_law_box_here","_law_question_here"] []:=T.a1Y.binds (ps:=["_law_box_here","_law_question_here"]) λ_ _ _ _ _ _ us b=>match us,b with | [_,_],_=>rfl
def lU(T:Txt K mg a):eM K a.a0H ["_law_left","_law_kt"] []:=T.a0N.binds (ps:=["_law_left","_law_kt"]) λ_ _ _ _ _ _ us b=>match us,b with | [_,_],_=>rfl
def aX5(T:Txt K mg a):eM K a.a1E ["_law_box_here","_law_question_here"] []:=T.a2M.binds (ps:=["_law_box_here","_law_question_here"]) λ_ _ _ _ _ _ us b=>match us,b with | [_,_],_=>rfl
def aX6(T:Txt K mg a):eM K a.a1K ["_law_found","_law_due"] []:=T.a2G.binds (ps:=["_law_found","_law_due"]) λ_ _ _ _ _ _ us b=>match us,b with | [_,_],_=>rfl
def dO1(T:Txt K mg a):eM K a.a3C ["question","tables"] []:=T.a3W.binds (ps:=["question","tables"]) λ_ _ _ _ _ _ us b=>match us,b with | [_,_],_=>rfl
def aX7(T:Txt K mg a):eM K a.a1L ["_law_box_here","_law_question_here"] []:=T.a2L.binds (ps:=["_law_box_here","_law_question_here"]) λ_ _ _ _ _ _ us b=>match us,b with | [_,_],_=>rfl
end
end Mr
namespace Dv
open PySem L2 Mr
open Classical in
noncomputable def aX8:FN:=λa=>match a with
 | [.int n]=>if 0<=n/\n<=1000 then some (.own (.lst (sY 0 n.toNat)))else none
 | _=>none
def cF2{H:Hp}(n:Nat):Rps H (sY 0 n) ((List.range n).map λ(i:Nat)=>V.int (i:Int)):=by
 refine cO8 (by unfold sY;rw[a0a,a0a]) λj d x a b=>?_;unfold sY at a;rw[a5c]at a b;obtain⟨k,c,rfl⟩:=a9c.mp a;rw[c]at b;cases b;rw[Int.zero_add];exact .int _
def bE2:bL7 bC1 aX8:=by
 intro H d vs Q res vw e k;unfold aX8 at e;split at e
 ·rename_i n;split at e
  ·rename_i hn;cases e;cases vw with
   | cons a t=>
     cases t;rcases a with a | ⟨p,_,c⟩;cases a;exact⟨n,rfl,hn.1,hn.2,λr b=>k _ _ (cH b) ⟨r,rfl,b,_,aY,cF2 _⟩⟩;exact c.elim
  ·cases e
 ·cases e
theorem pQ{n:Int}{K:Res->Prop}:OK1 (aX8 [.int n]) K=((0<=n/\n<=1000)/\K (.own (.lst (sY 0 n.toNat)))):=by
 show OK1 (if _ then _ else none) K=_;rw[cF];rfl
section
variable{Γ:Gm}{H H1:Hp}{σ σ1:Sg}{σV:St}{p:Addr}{o o':HO}
end
def aR{X:Cx}{E:Ex}{i:Nat}{x:Str}{e:Expr}{r:DE}{pos a:Pos}(b:X.N.Nodup)(hi:X.N[i]? = some x)(c:Loc X.env.scope x)(d:GE X e r)(f:swapsWith e (some (.Name x a)) pos.line X.env=pure false:=by rfl)(g:X.fn x=true\/X.env.scope.names.lookup x=some .local:=by first | exact .inl rfl | exact .inr rfl | assumption) :
  GS E X (.Assign [.Name x a] e pos) (cG i r):=dL3 λΓ=>aL0 b hi c (d.to Γ) f g
theorem zF{z:Str}{i:Int}{K:Res->Prop}:OK1 (ixD (.str z) (.int i)) K=(z.length<=sizeLine/\OK1 (atI z.cps.toList i) λc=>K (.val (.str ⟨#[c]⟩))):=by
 show OK1 (if _ then _ else none) K=_;rw[cF,aO1]
theorem nD{z:Str}{K:Res->Prop}(h:z.length<=sizeLine):OK1 (mD [.str z]) K=K (.val (.int z.length)):=by
 show OK1 (if _ then _ else none) K=_;rw[cF];exact propext ⟨λh=>h.2,λk=>⟨h,k⟩⟩
noncomputable def fo(x:Option (Bool×D)):Option Sl:=x.map λp=>⟨if p.1=true then .own else .val,p.2⟩
theorem zG{x:Option (Bool×D)}{r:Sg}{s:Sl}{K:Sg->Prop}:PK 0 (fo x::r) s K=K (some s::r):=by
 cases x with
 | none=>rfl
 | some p=>
   obtain⟨b,d⟩:=p;cases b<;>rfl
@[irreducible] noncomputable def aX9(ow:List Nat)(g:DG)(t:DT)(e:DE)(items:List D)(a:Sg):=aV3 ow g t e items a
@[irreducible] noncomputable def cF3(g:DG)(b:DS)(items:List D)(σ:Sg):=bS4 g b items σ
@[irreducible] noncomputable def bE3(c:DT)(b:DS)(σ:Sg):=sG c b dC8 σ
section
variable{σ:Sg}{QS:Out->Prop}{Q:Res->Sg->Prop}{ri:DI}{g:DG}{b:DS}{a:DE}{ra:DA}
theorem pR:RS (pU ri g b) σ QS=RI ri σ λitems l a=>OK1 (cF3 g b items (lendO l a)) λo=>QS (aC7 l a o):=by
 unfold cF3;exact dN5
theorem jL{c:DT}:RS (uA c b) σ QS=OK1 (bE3 c b σ) QS:=by unfold bE3;rfl
theorem lV{ow:List Nat}{t:DT}{e:DE}:RE (cE ow ri g t e) σ Q=RI ri σ λitems l a=>items.length<=sizeLine/\OK1 (aX9 ow g t e items (cV ow (lendO l a))) λy=>Q (.own (.lst y.1)) (aC6 l a (oE ow (lendO l a) y.2)):=by
 unfold aX9;exact cX1
def fS{items:List D}(P:Nat->Sg->Prop)(h0:P 0 σ)(e:∀ i d σ,items[i]? = some d->P i σ->OK1 (g d σ) λc=>RS b c λo=>∃ a,(o=.nx a\/o=.ct a)/\P (i+1) a){K:Out->Prop}(k:∀ σ',P items.length σ'->K (.nx σ')):OK1 (cF3 g b items σ) K:=by
 unfold cF3;exact cW9 P h0 e k
def bV0{items:List D}(P:Nat->Sg->Prop){K:Out->Prop}(h0:P 0 σ)(e:∀ i d σ,items[i]? = some d->P i σ->OK1 (g d σ) λc=>RS b c λo=>(∃ a,(o=.nx a\/o=.ct a)/\P (i+1) a)\/(∃ x a,o=.rt x a/\K (.rt x a))\/(∃ a,o=.bk a/\K (.nx a)))(k:∀ σ',P items.length σ'->K (.nx σ')):OK1 (cF3 g b items σ) K:=by
 unfold cF3;exact cX0 P h0 e k
def rM{c:DT}(P:Nat->Sg->Prop)(m:Nat)(hm:m < 1000000)(h0:P m σ)(e:∀ m σ,P m σ->RT c σ λt d=>if t=true then RS b d λo=>(∃ a m',(o=.nx a\/o=.ct a)/\m' < m/\P m' a)\/(∃ x a,o=.rt x a/\QS (.rt x a))\/(∃ a,o=.bk a/\QS (.nx a))else QS (.nx d)):OK1 (bE3 c b σ) QS:=by
 unfold bE3;exact bT8 P m hm h0 e
def iQ{ow:List Nat}{t:DT}{e:DE}{K:List D×Sg->Prop}(items:List D)(a:Sg)(P:Nat->List D->Sg->Prop)(h0:P 0 [] a)
  (j:∀ i d acc a,items[i]? = some d->P i acc a->OK1 (g d a) λf=>RT t f λb c=>if b=true then RE e c λr h=>∃ v,r=.val v/\P (i+1) (acc++[v]) (cV ow h)else P (i+1) acc (cV ow c))
  (k:∀ acc a,P items.length acc a->K (acc,a)):OK1 (aX9 ow g t e items a) K:=by
 unfold aX9;exact xI items a P h0 j k
end
end Dv
namespace PySem
structure Fill(prog:Program)(w:World)(A:Around)(S I:Addr)(n:Nat)(P:Nat->Value->Prop)(J:Nat->Heap->Prop):Prop where
 put:∀ i v (s:Shared) (Q:Bool->Shared->Prop) (E:Value->Shared->Prop),i < n->P i v->J i s.heap ->
  (∀ b h' tk,J (i+1) h'->(∀ c o,c≠S->s.heap.get? c=some o->h'.get? c=some o)->Q b {s with heap:=h',toks:=tk})->wpAny (model prog w) A (setAdd S v) Q E s
 stay:∀ i h h',J i h->(∀ c o,c≠I->h.get? c=some o->h'.get? c=some o)->J i h'
section
variable{prog:Program}{w:World}{A:Around}{E:Value->Shared->Prop}{R:Result->Shared->Prop}{S I:Addr}{fp:List Addr}{n:Nat}{P:Nat->Value->Prop}{St J:Nat->Heap->Prop}
theorem aP5(W:Walks prog w A.in1 I fp [I] n P St)(F:Fill prog w A.in1 S I n P J)(l:S∉fp) :
  ∀ (k i:Nat) (s:Shared),i+k=n->St i s.heap->J i s.heap ->
    (∀ h' tk,J n h'->(∀ c o,c≠S->c≠I->s.heap.get? c=some o->h'.get? c=some o)->R (.ok (.ret .none)) {s with heap:=h',toks:=tk}) ->
    codeAny (model prog w) A (.builtin "set.update.loop" ⟨[.ref S,.ref I],[]⟩) R s
 | 0,i,s,m,st,j,q=>by
   have hi:i=n:=m;subst hi;refine a4S PyProof.Rows.F.entry_set_update_loop ?_;rw[Around.under_plainId a4g _]
   (show wpAny _ A.in1 (pyNext (.ref I) >>= _) _ _ s;refine a4x (W.done s _ _ st λh' tk d=>?_))
   have p:∀ c o,c≠I->s.heap.get? c=some o->h'.get? c=some o:=λc o a e=>d c o (by simpa using a) e;exact a4A (q h' tk (F.stay _ _ _ j p) λc o _ a e=>p c o a e)
 | k+1,i,s,m,st,j,q=>by
   have hi:i < n:=by lia
   refine a4S PyProof.Rows.F.entry_set_update_loop ?_;rw[Around.under_plainId a4g _]
   (show wpAny _ A.in1 (pyNext (.ref I) >>= _) _ _ s;refine a4x (W.item i s _ _ hi st λv y B C f g=>?_))
   have r:∀ c o,c≠I->s.heap.get? c=some o->y.get? c=some o:=λc o a e=>g c o (by simpa using a) e
   (show wpAny _ A.in1 (holding [v] (setAdd S v) >>= _) _ _ _;refine a4x (a4E ?_))
   refine F.put i v _ _ _ hi C (F.stay _ _ _ j r) λb D E G t=>?_;refine a4A ⟨a4Y a4g _,?_⟩;have h:St (i+1) D:=W.frame _ _ _ f λc a o e=>t c o (λz=>l (z ▸ a)) e;exact aP5 W F l k (i+1) _ (by lia) h G λh' tk H K=>q h' tk H λc o u x e=>K c o u x (t c o u (r c o x e))
def cX7{T b a:String}{args:List Value}{Q Q₁:Value->Shared->Prop}{s:Shared}(k:TypeCalled T b a)(l:checkTypeCall T ⟨args,[]⟩=pure ())
  (g:codeAny (model prog w) A.in1 (.call (.builtin b) ⟨.type T::args,[]⟩) (wants Q₁ E) s)
  (h:∀ obj d,Q₁ obj d->d.TypeIs obj T/\codeAny (model prog w) A.in1 (.call (.builtin a) ⟨obj::args,[]⟩) (wants (λr i=>r=.none/\Q obj i) E) d) :
  wpAny (model prog w) A (call (.type T) args) Q E s:=by
 obtain⟨n1,n2,⟨c,n,n3⟩,o,p,q,j⟩:=k;have t:=j.lookup;refine wpAny_call (codeAny_of_tree (a4A ⟨Code.quiet_builtin _ (by decide +kernel),a4S F.entry_type_call ?_⟩));rw[Around.under_plain (weight_type_call_type T args []) rfl]
 repeat (any_goals (first | assumption | wp_step))
 refine a4T g λr s1 f=>?_
 match r,f with
 | .error e,f=>exact f
 | .ok (.ret obj),f=>
   obtain⟨u,hi⟩:=h obj s1 f;have v:=j.bind obj
   repeat (any_goals (first | assumption | wp_step))
   refine a4T hi λr s2 f=>?_
   match r,f with
   | .error e,f=>exact f
   | .ok (.ret x),⟨m,y⟩=>
     subst m
     repeat (any_goals (first | assumption | wp_step))
end
open Sem (wp)
def aP6:typeLookup (.type "list") "keys"=pure none:=by rw[typeLookup_type,builtinLookup_eq_fast];kernel_rfl
def aP7:entryFor table "dict.update.loop"=some Builtin.«dict.update.loop»:=entryFor_of_tree (by kernel_rfl)
def nE:plainId "dict.update.loop"=true:=by decide +kernel
section
variable{prog:Program}{w:World}{A:Around}{E:Value->Shared->Prop}
def bV1{s:Shared}{a:Addr}{o:Obj}{xs:Array Value}{k:Nat}{Q:Option Value->Shared->Prop}(l:s.heap.get? a=some o)(m:o.cls=.type "list")(f:o.data=.seq xs k)(hd:o.dict=none)(p:A.handled=none)
  (h:∀ h' tk,(∀ b o,s.heap.get? b=some o->h'.get? b=some o)->Q none {s with heap:=h',toks:=tk}):wpAny (model prog w) A (getAttr? (.ref a) "keys") Q E s:=by
 obtain⟨c,q,r,sl⟩:=o;simp only at m f hd;subst m f hd;obtain⟨t,g,d,tk,os⟩:=s;have n:∀ i,(⟨t,g,d,i,os⟩:Shared).TypeIs (.ref a) "list":=λ_=>⟨_,l,rfl⟩;have u:=sub_AttributeError;have v:=F.slot_list_getattribute.lookup;have x:=F.slot_list_getattribute.bind (.ref a);have y:=am_list_getattr_none;unfold getAttr? getAttrBy? getAttrBy
 repeat (any_goals (first | assumption | exact n _ | ((with_reducible show wpAny _ _ (call (Value.builtin "list.__getattribute__") _ _) _ _ _);refine a4Q F.slot_list_getattribute (n _) am_entry_list_getattribute (F.args_list_getattribute_2 _ _) (meets_getattribute_miss_list a xs k sl "keys" _ aP6 (by decide) (by size_fits)) ⟨l,p,λh' i e j=>?_⟩) | wp_step))
 obtain⟨z,B,C⟩:=j.there;show wpAny _ _ (getattributeRaised _ _ _ _ _ _ _) _ _ _;unfold getattributeRaised hookOrError attributeErrorLeaves
 repeat (any_goals (first | assumption | wp_step))
 exact h _ _ j.keeps
def bJ2{s:Shared}{a:Addr}{u x:Value}{Q:List Value->Shared->Prop}(f:s.heap.IsTuple a #[u,x])(h:Q [u,x] s):wpAny (model prog w) A (Builtin.Dict.pairItems (.ref a)) Q E s:=by
 obtain⟨⟨c,i,j,sl⟩,k,b,n,e⟩:=f;simp only at b e;subst b e;obtain⟨l,g,d,tk,os⟩:=s;have m:(⟨l,g,d,tk,os⟩:Shared).TypeIs (.ref a) "tuple":=⟨_,k,rfl⟩;unfold Builtin.Dict.pairItems
 repeat (any_goals (first | assumption | wp_step))
end
section
variable{prog:Program}{w:World}{A:Around}{E:Value->Shared->Prop}{R:Result->Shared->Prop}{d I:Addr}{fp:List Addr}{n:Nat}{P:Nat->Value->Prop}{St:Nat->Heap->Prop}{κ:Type}[DecidableEq κ]{knd:KeyKind prog w κ}
def bJ3{K:Type}[DecidableEq K](l:List (K×Value))(k:K)(v:Value):(stored l k v).length<=l.length+1:=by
 unfold stored;split<;>simp
theorem dul(W:Walks prog w A.in1 I fp [I] n P St)(hd:d∉fp)(x:I≠d){h₀:Heap}(h0:∀ b o,h₀.get? b=some o->b≠d/\b≠I)(prs:List (κ×Value))(hn:prs.length=n)(hsz:n < 4000)
  (M:∀ i v p,P i v->prs[i]? = some p->∃ a u,v=.ref a/\h₀.IsTuple a #[u,p.2]/\knd.is p.1 u=true) :
  ∀ (k i:Nat) (c:Tok) (s:Shared) (kvs:List (κ×Value)),i+k=n->St i s.heap->s.heap.DictOf knd d kvs->kvs.length<=i->(∀ b o,h₀.get? b=some o->s.heap.get? b=some o) ->
    (∀ h' tk,h'.DictOf knd d ((prs.drop i).foldl (λl p=>stored l p.1 p.2) kvs)->(∀ b o,h₀.get? b=some o->h'.get? b=some o)->R (.ok (.ret .none)) {s with heap:=h',toks:=tk}) ->
    codeAny (model prog w) A (.builtin "dict.update.loop" ⟨[.ref d,.ref I,.int i c,.none],[]⟩) R s
 | 0,i,c,s,kvs,N,st,y,hl,B,q=>by
   have hi:i=n:=N;subst hi;refine a4S aP7 ?_;rw[Around.under_plainId nE _]
   (show wpAny _ A.in1 (pyNext (.ref I) >>= _) _ _ s;refine a4x (W.done s _ _ st λh' tk C=>?_))
   have O:∀ c o,c≠I->s.heap.get? c=some o->h'.get? c=some o:=λc o f e=>C c o (by simpa using f) e;rw[List.drop_of_length_le (by lia)]at q;have D:h'.DictOf knd d kvs:=let ⟨o,es,g,h,r⟩:=y;⟨o,es,g,O d o (a4e x) h,r⟩
   exact a4x (a4A (a4A (q h' tk D λb o e=>O b o (h0 b o e).2 (B b o e))))
 | k+1,i,c,s,kvs,N,st,y,hl,B,q=>by
   have hi:i < n:=by lia
   refine a4S aP7 ?_;rw[Around.under_plainId nE _]
   (show wpAny _ A.in1 (pyNext (.ref I) >>= _) _ _ s;refine a4x (W.item i s _ _ hi st λv j E S F G=>?_))
   have Q:∀ c o,c≠I->s.heap.get? c=some o->j.get? c=some o:=λc o f e=>G c o (by simpa using f) e;have g:prs[i]? = some prs[i]:=a1a (by lia);obtain⟨a,u,rfl,T,U⟩:=M i v _ S g;have m:∀ b o,h₀.get? b=some o->j.get? b=some o:=λb o e=>Q b o (h0 b o e).2 (B b o e);have H:j.IsTuple a #[u,prs[i].2]:=let ⟨o,h,r⟩:=T;⟨o,m a o h,r⟩
   have J:j.DictOf knd d kvs:=let ⟨o,es,g,h,r⟩:=y;⟨o,es,g,Q d o (a4e x) h,r⟩
   refine a4x (a4E (a4x (wpAny_tryCatch (bJ2 (s:={s with heap:=j,toks:=E}) H ?_))));dsimp only;refine a4E (wpAny_dictSet_pairs (hsz:=by unfold sizeLine;lia) U J λV K t=>?_);refine a4A ⟨a4Y nE _,?_⟩;have L:St (i+1) V:=W.frame _ _ _ F λc f o e=>(t.2 c λz=>hd (z ▸ f)).trans e;have X:prs.drop i=prs[i]::prs.drop (i+1):=List.drop_eq_getElem_cons (by lia);refine dul W hd x h0 prs hn hsz M k (i+1) 0 _ _ (by lia) L K (a8b (bJ3 ..) (by lia)) (λb o e=>(t.2 b (h0 b o e).1).trans (m b o e)) λh' tk Y Z=>?_;refine q h' tk ?_ Z;rw[X];exact Y
end
end PySem
namespace PySem
noncomputable abbrev bJ4(es:Array (Int×Value))(a:Nat)(t:SetTable):Obj:={cls:=.type "set",dict:=none,data:=.set es a t}
noncomputable def rN(w:World):Bool:=!w.params.followText "set-order"
section
variable{prog:Program}{w:World}{A:Around}{E:Value->Shared->Prop}{s:Shared}
def cX8(a:Value){Q:Value->Shared->Prop}(h:Q (.ref s.heap.objs.size) {s with heap:=s.heap.push (bJ4 #[] 0 (.fresh 0 0 (rN w)))}) :
  codeAny (model prog w) A (.call (.builtin "set.__new__") ⟨[.type "set",a],[]⟩) (wants Q E) s:=by
 refine codeAny_call_builtin F.plain_set_new F.entry_set_new (wpAny_of_eq (F.newCall_set_1 a) ?_);have b:=sub_set_self;unfold Builtin.«set.__new__» Builtin.Frozenset.newClass;obtain⟨c,g,d,tk,os⟩:=s
 wp_walk
 refine wpAny_askSetting (a4A ?_);simp only[newObj];exact a4x (wpAny_alloc (a4A (a4A h)))
end
section
variable{prog:Program}{w:World}{A:Around}{E:Value->Shared->Prop}{n:Nat}{P:Nat->Value->Prop}{St J:Nat->Heap->Prop}
structure Src(prog:Program)(w:World)(A:Around)(h₀:Heap)(l:Addr)(n:Nat)(P:Nat->Value->Prop) where
 T:String
 St:Addr->Nat->Heap->Prop
 ob:Obj
 ty:∃ o,h₀.get? l=some o/\o.cls=.type T
 n1:isSubtype (.type T) (.type "set")=pure false
 n2:isSubtype (.type T) (.type "frozenset")=pure false
 n3:(Value.type T==Value.type "dict")=false
 iter:∀ (A:Around) (s:Shared) (Q:Value->Shared->Prop) (E:Value->Shared->Prop),(∀ b o,h₀.get? b=some o->s.heap.get? b=some o)->Q (.ref s.heap.objs.size) {s with heap:=s.heap.push ob}->wpAny (model prog w) A (pyIter (.ref l)) Q E s
 free:ob.isFreed=false
 walk:∀ (A':Around),A'.handled=A.handled->∀ I,l≠I->Walks prog w A' I [I,l] [I] n P (St I)
 lH:∀ h:Heap,(∀ b o,h₀.get? b=some o->h.get? b=some o)->St h.objs.size 0 (h.push ob)
def cF4{s:Shared}{l:Addr}{Q:Value->Shared->Prop}(c:Src prog w A s.heap l n P)
  (L:∀ A':Around,A'.handled=A.handled->A'.units<=A.units+8->Fill prog w A' s.heap.objs.size (s.heap.objs.size+1) n P J)
  (B:∀ (h':Heap),h'.get? s.heap.objs.size=some (bJ4 #[] 0 (.fresh 0 0 (rN w)))->(∀ b o,s.heap.get? b=some o->h'.get? b=some o)->J 0 h')
  (q:∀ h' tk,J n h'->(∀ b o,s.heap.get? b=some o->h'.get? b=some o)->Q (.ref s.heap.objs.size) {s with heap:=h',toks:=tk}) :
  wpAny (model prog w) A (call (.type "set") [.ref l]) Q E s:=by
 obtain⟨T,St,ob,⟨⟨t,k,m,j⟩,f,g⟩,n1,n2,n3,iter,free,walk,lH⟩:=c;simp only at g;subst g;have h:l < s.heap.objs.size:=a5b f;refine cX7 (Q₁:=λobj s₁=>obj=.ref s.heap.objs.size/\s₁={s with heap:=s.heap.push (bJ4 #[] 0 (.fresh 0 0 (rN w)))}) F.called_set (F.typeCall_set_1 _) (cX8 _ ⟨rfl,rfl⟩) λobj s₁ Z0=>?_;obtain⟨C,D⟩:=Z0;subst C D;have u:(s.heap.push (bJ4 #[] 0 (.fresh 0 0 (rN w)))).get? s.heap.objs.size=some (bJ4 #[] 0 (.fresh 0 0 (rN w))):=a2c _ rfl;have a:∀ b o,s.heap.get? b=some o->(s.heap.push (bJ4 #[] 0 (.fresh 0 0 (rN w)))).get? b=some o:=λb o e=>a7a _ e;have v:Shared.TypeIs {s with heap:=s.heap.push (bJ4 #[] 0 (.fresh 0 0 (rN w)))} (.ref s.heap.objs.size) "set":=⟨_,u,rfl⟩;have G:Shared.TypeIs {s with heap:=s.heap.push (bJ4 #[] 0 (.fresh 0 0 (rN w)))} (.ref l) T:=⟨_,a l _ f,rfl⟩;refine⟨v,codeAny_call_builtin F.called_set.init.plain F.entry_set_init (check_set_init_1 v ?_)⟩;have H:=a l _ f;unfold Builtin.«set.__init__» noKeywords Builtin.Frozenset.updateFrom;generalize p:pyIter=PI
 wp_walk
 subst p;refine iter _ _ _ _ a ?_;refine a4x (wpAny_runValue ?_);have x:(s.heap.push (bJ4 #[] 0 (.fresh 0 0 (rN w)))).objs.size=s.heap.objs.size+1:=a2h ..;have ne:l≠s.heap.objs.size+1:=λz=>absurd h (by rw[z];exact Nat.not_lt.mpr (Nat.le_succ _));have i:=lH _ a;rw[x]at i;have r:((s.heap.push (bJ4 #[] 0 (.fresh 0 0 (rN w)))).push ob).get? s.heap.objs.size=some (bJ4 #[] 0 (.fresh 0 0 (rN w))):=a7a _ u;have d:∀ b o,s.heap.get? b=some o->((s.heap.push (bJ4 #[] 0 (.fresh 0 0 (rN w)))).push ob).get? b=some o:=λb o e=>a7a _ (a b o e);show codeAny (model prog w) A.in1.in1 (.builtin "set.update.loop" ⟨[.ref s.heap.objs.size,.ref (s.heap.push (bJ4 #[] 0 (.fresh 0 0 (rN w)))).objs.size],[]⟩) _ _;rw[x];refine aP5 (walk A.in1.in1.in1 rfl (s.heap.objs.size+1) ne) (L A.in1.in1.in1 rfl (by show A.units+1+1+1<=A.units+8;lia)) ?_ n 0 _ (a9f n) i (B _ r d) λh' tk I K=>?_;simp only[List.mem_cons,List.not_mem_nil,or_false,not_or];exact⟨a1d (Nat.lt_succ_self _),a3h h⟩;refine a4A (a4A ⟨rfl,q h' tk I λb o e=>?_⟩);have y:=a5b e;exact K b o (a1d y) (a1d (Nat.lt_succ_of_lt y)) (d b o e)
noncomputable def Src.list{s:Shared}(d:A.handled=none){l:Addr}{items:Array Value}(a:s.heap.IsList l items):Src prog w A s.heap l items.size (λi v=>items[i]? = some v) where
 T:="list"
 St:=λI i h=>h.IsListIter I l i/\h.IsList l items
 ob:={cls:=.type "list_iterator",data:=.fields #[.ref l,.int 0 0]}
 ty:=by obtain⟨o,f,g,_⟩:=a;exact⟨o,f,g⟩
 n1:=F.sub_list_set
 n2:=F.sub_list_frozenset
 n3:=by decide
 iter:=λA' s' Q E b j=>wpAny_pyIter_list (a.at λo e=>b l o e) j
 free:=rfl
 walk:=λA' ha I c=>Walks.list (ha.trans d) I l c items
 lH:=λh b=>⟨⟨_,a2c _ rfl,rfl,rfl⟩,(a.at λo e=>b l o e).push _⟩
def aY0:isSubtype (.type "tuple") (.type "set")=pure false:=by rw[isSubtype_type];kernel_rfl
def aA9:isSubtype (.type "tuple") (.type "frozenset")=pure false:=by rw[isSubtype_type];kernel_rfl
noncomputable def Src.tup{s:Shared}(d:A.handled=none){l:Addr}{items:Array Value}(a:s.heap.IsTuple l items):Src prog w A s.heap l items.size (λi v=>items[i]? = some v) where
 T:="tuple"
 St:=λI i h=>h.IsTupleIter I l i/\h.IsTuple l items
 ob:={cls:=.type "tuple_iterator",data:=.fields #[.ref l,.int 0 0]}
 ty:=by obtain⟨o,f,g,_⟩:=a;exact⟨o,f,g⟩
 n1:=aY0
 n2:=aA9
 n3:=by decide
 iter:=λA' s' Q E b j=>a4N (a.at λo e=>b l o e) j
 free:=rfl
 walk:=λA' ha I c=>Walks.tuple (ha.trans d) I l c items
 lH:=λh b=>⟨⟨_,a2c _ rfl,rfl,rfl⟩,(a.at λo e=>a7a _ (b l o e))⟩
end
open Sem (wp)
section
variable{prog:Program}{w:World}{A:Around}{E:Value->Shared->Prop}{κ:Type}[DecidableEq κ]{knd:KeyKind prog w κ}
def bJ5{s:Shared}{l:Addr}{o:Obj}{c:List Value}{m:Nat}{prs:List (κ×Value)}{Q:Value->Shared->Prop}(I:A.handled=none)(x:s.heap.get? l=some o)(y:o.cls=.type "list")(g:o.data=.seq c.toArray m)(z:o.dict=none)
  (hn:prs.length=c.length) (hsz:prs.length < 4000) (K:∀ (i:Nat) v p,c[i]? = some v->prs[i]? = some p->∃ a u,v=.ref a/\s.heap.IsTuple a #[u,p.2]/\knd.is p.1 u=true)
  (q:∀ h' tk,h'.DictOf knd s.heap.objs.size (prs.foldl (λl p=>stored l p.1 p.2) [])->(∀ b o,s.heap.get? b=some o->h'.get? b=some o)->Q (.ref s.heap.objs.size) {s with heap:=h',toks:=tk}) :
  wpAny (model prog w) A (call (.type "dict") [.ref l]) Q E s:=by
 refine callType_codes (Q₁:=λobj s₁=>obj=.ref s.heap.objs.size/\s₁={s with heap:=s.heap.push {cls:=.type "dict",data:=.dict #[]}}) F.kt_called_dict (F.kt_typeCall_dict_1 _) F.entry_dict_init (kt_code_dict_new _ ⟨rfl,rfl⟩) ?_;rintro obj s₁ ⟨rfl,rfl⟩;have d:(s.heap.push {cls:=.type "dict",data:=.dict #[]}).DictOf knd s.heap.objs.size []:=Heap.DictOf.new s.heap;have f:∀ b o,s.heap.get? b=some o->(s.heap.push {cls:=.type "dict",data:=.dict #[]}).get? b=some o:=λb o e=>a7a _ e;have h:l < s.heap.objs.size:=a5b x;refine⟨d.typeIs,F.args_dict_init_2 _ _,?_⟩;have B:Shared.TypeIs {s with heap:=s.heap.push {cls:=.type "dict",data:=.dict #[]}} (.ref l) "list":=⟨_,f l _ x,y⟩;unfold Builtin.«dict.__init__» Builtin.Dict.selfAndRest;refine a4x (a4x (wpAny_notOrdered_dict d.typeIs (a4A ?_)));show wpAny _ _ (Builtin.Dict.updateFrom "dict.__init__" s.heap.objs.size (.ref l) [] .none) _ _ _;unfold Builtin.Dict.updateFrom;refine a4x (a4X B ?_);rw[a4y (by decide)];refine a4x (bV1 (f l _ x) y g z ?_ λj C D=>?_);exact I
 rw[a4y (by rfl)];refine a4x (a4Z ?_);have k:j.IsList l c.toArray:=⟨o,D l o (f l o x),y,m,g⟩;refine a4x (wpAny_pyIter_list (s:=⟨j,s.gens,s.drawn,C,s.os⟩) k ?_);refine a4A ⟨a4Y nE _,?_⟩;have t:j.DictOf knd s.heap.objs.size []:=let ⟨o,es,J,G,r⟩:=d;⟨o,es,J,D _ o G,r⟩
 have big:s.heap.objs.size < j.objs.size:=let ⟨o,es,J,G,r⟩:=t;a5b G
 have H:A.in1.in1.handled=none:=I;refine dul (h₀:=s.heap) (n:=c.toArray.size) (Walks.list H j.objs.size l (a1d (a7g h big)) c.toArray) ?_ (a3h big) (λb o e=>⟨a1d (a5b e),a1d (a7g (a5b e) big)⟩) prs (by simpa using hn) (by rw[List.size_toArray];lia) (λi v p L M=>K i v p (by simpa using L) M)
  c.toArray.size 0 0 _ [] (a9f _) ⟨⟨_,a2c _ rfl,rfl,rfl⟩,k.push _⟩ (t.push _) (a9a _) (λb o e=>a7a _ (D b o (f b o e))) λh' tk N O=>⟨rfl,q h' tk N O⟩
 simp only[List.mem_cons,List.not_mem_nil,or_false,not_or];exact⟨a1d big,a3h h⟩
end
def aI7:typeLookup (.type "tuple") "keys"=pure none:=by rw[typeLookup_type,builtinLookup_eq_fast];kernel_rfl
section
variable{prog:Program}{w:World}{A:Around}{E:Value->Shared->Prop}
def bJ6{s:Shared}{a:Addr}{o:Obj}{xs:Array Value}{k:Nat}{Q:Option Value->Shared->Prop}(l:s.heap.get? a=some o)(m:o.cls=.type "tuple")(f:o.data=.seq xs k)(hd:o.dict=none)(p:A.handled=none)
  (h:∀ h' tk,(∀ b o,s.heap.get? b=some o->h'.get? b=some o)->Q none {s with heap:=h',toks:=tk}):wpAny (model prog w) A (getAttr? (.ref a) "keys") Q E s:=by
 obtain⟨c,q,r,sl⟩:=o;simp only at m f hd;subst m f hd;obtain⟨t,g,d,tk,os⟩:=s;have n:∀ i,(⟨t,g,d,i,os⟩:Shared).TypeIs (.ref a) "tuple":=λ_=>⟨_,l,rfl⟩;have u:=sub_AttributeError;have v:=F.slot_tuple_getattribute.lookup;have x:=F.slot_tuple_getattribute.bind (.ref a);have y:=am_tuple_getattr_none;unfold getAttr? getAttrBy? getAttrBy
 repeat (any_goals (first | assumption | exact n _ | ((with_reducible show wpAny _ _ (call (Value.builtin "tuple.__getattribute__") _ _) _ _ _);refine a4Q F.slot_tuple_getattribute (n _) am_entry_tuple_getattribute (F.args_tuple_getattribute_2 _ _) (meets_getattribute_miss_tuple a xs k sl "keys" _ aI7 (by decide) (by size_fits)) ⟨l,p,λh' i e j=>?_⟩) | wp_step))
 obtain⟨z,B,C⟩:=j.there;show wpAny _ _ (getattributeRaised _ _ _ _ _ _ _) _ _ _;unfold getattributeRaised hookOrError attributeErrorLeaves
 repeat (any_goals (first | assumption | wp_step))
 exact h _ _ j.keeps
end
section
variable{prog:Program}{w:World}{A:Around}{E:Value->Shared->Prop}{κ:Type}[DecidableEq κ]{knd:KeyKind prog w κ}
def aY1{s:Shared}{l:Addr}{o:Obj}{c:List Value}{m:Nat}{prs:List (κ×Value)}{Q:Value->Shared->Prop}(I:A.handled=none)(x:s.heap.get? l=some o)(y:o.cls=.type "tuple")(g:o.data=.seq c.toArray m)(z:o.dict=none)
  (hn:prs.length=c.length) (hsz:prs.length < 4000) (K:∀ (i:Nat) v p,c[i]? = some v->prs[i]? = some p->∃ a u,v=.ref a/\s.heap.IsTuple a #[u,p.2]/\knd.is p.1 u=true)
  (q:∀ h' tk,h'.DictOf knd s.heap.objs.size (prs.foldl (λl p=>stored l p.1 p.2) [])->(∀ b o,s.heap.get? b=some o->h'.get? b=some o)->Q (.ref s.heap.objs.size) {s with heap:=h',toks:=tk}) :
  wpAny (model prog w) A (call (.type "dict") [.ref l]) Q E s:=by
 refine callType_codes (Q₁:=λobj s₁=>obj=.ref s.heap.objs.size/\s₁={s with heap:=s.heap.push {cls:=.type "dict",data:=.dict #[]}}) F.kt_called_dict (F.kt_typeCall_dict_1 _) F.entry_dict_init (kt_code_dict_new _ ⟨rfl,rfl⟩) ?_;rintro obj s₁ ⟨rfl,rfl⟩;have d:(s.heap.push {cls:=.type "dict",data:=.dict #[]}).DictOf knd s.heap.objs.size []:=Heap.DictOf.new s.heap;have f:∀ b o,s.heap.get? b=some o->(s.heap.push {cls:=.type "dict",data:=.dict #[]}).get? b=some o:=λb o e=>a7a _ e;have h:l < s.heap.objs.size:=a5b x;refine⟨d.typeIs,F.args_dict_init_2 _ _,?_⟩;have B:Shared.TypeIs {s with heap:=s.heap.push {cls:=.type "dict",data:=.dict #[]}} (.ref l) "tuple":=⟨_,f l _ x,y⟩;unfold Builtin.«dict.__init__» Builtin.Dict.selfAndRest;refine a4x (a4x (wpAny_notOrdered_dict d.typeIs (a4A ?_)));show wpAny _ _ (Builtin.Dict.updateFrom "dict.__init__" s.heap.objs.size (.ref l) [] .none) _ _ _;unfold Builtin.Dict.updateFrom;refine a4x (a4X B ?_);rw[a4y (by decide)];refine a4x (bJ6 (f l _ x) y g z ?_ λj C D=>?_);exact I
 rw[a4y (by rfl)];refine a4x (a4Z ?_);have k:j.IsTuple l c.toArray:=⟨o,D l o (f l o x),y,m,g⟩;refine a4x (a4N (s:=⟨j,s.gens,s.drawn,C,s.os⟩) k ?_);refine a4A ⟨a4Y nE _,?_⟩;have t:j.DictOf knd s.heap.objs.size []:=let ⟨o,es,J,G,r⟩:=d;⟨o,es,J,D _ o G,r⟩
 have big:s.heap.objs.size < j.objs.size:=let ⟨o,es,J,G,r⟩:=t;a5b G
 have H:A.in1.in1.handled=none:=I;refine dul (h₀:=s.heap) (n:=c.toArray.size) (Walks.tuple H j.objs.size l (a1d (a7g h big)) c.toArray) ?_ (a3h big) (λb o e=>⟨a1d (a5b e),a1d (a7g (a5b e) big)⟩) prs (by simpa using hn) (by rw[List.size_toArray];lia) (λi v p L M=>K i v p (by simpa using L) M)
  c.toArray.size 0 0 _ [] (a9f _) ⟨⟨_,a2c _ rfl,rfl,rfl⟩,k.push _⟩ (t.push _) (a9a _) (λb o e=>a7a _ (D b o (f b o e))) λh' tk N O=>⟨rfl,q h' tk N O⟩
 simp only[List.mem_cons,List.not_mem_nil,or_false,not_or];exact⟨a1d big,a3h h⟩
end
end PySem
namespace L2
open PySem PySem.Spec PyProof.Rows
inductive PrsAt(H:Hp):List V->List (Key×V)->Prop
 | nil:PrsAt H [] []
 | cons {a:Addr} {k:Key} {v:V} {xs:List V} {prs:List (Key×V)}:H a=some (.tup [kV k,v])->PrsAt H xs prs->PrsAt H (.ref a::xs) ((k,v)::prs)
theorem PrsAt.raw{X:Cx}{pins:List (Addr×Obj)}{σ:St}{H:Hp}{s:Shared}(I:Inv X pins σ H s):∀ {xs:List V} {prs:List (Key×V)} {b:List Value},PrsAt H xs prs->dI xs b->∃ rs:List (Key×Value),KV prs rs/\rs.length=b.length /\
  ∀ (i:Nat) v p,b[i]? = some v->rs[i]? = some p->∃ a u,v=.ref a/\s.heap.IsTuple a #[u,p.2]/\(gH X.prog X.w).is p.1 u=true
 | _,_,_,.nil,.nil=>⟨[],.nil,rfl,λi v p h=>by simp at h⟩
 | _,_,_,.cons (a:=a) (k:=k) e t,.cons f g=>by
   obtain⟨rs,j,l,m⟩:=PrsAt.raw I t g;cases f;obtain⟨_,us,r,q,_⟩:=(show eV X.prog X.w H s.heap a _ from I.hok a _ e);cases r with
   | cons n c=>cases c with
     | cons c rc=>
       cases rc;refine⟨(k,_)::rs,.cons ⟨rfl,c⟩ j,by simp[l],λi v p hi d=>?_⟩;cases i with
       | zero=>
         simp at hi d;subst hi d;exact⟨a,_,rfl,q,cU5 n⟩
       | succ i=>exact m i v p (by simpa using hi) (by simpa using d)
def cP3:List V->Hp->VK->Prop:=λvs H Q=>∃ p xs prs,vs=[.ref p]/\(iI H p=some (true,xs)\/H p=some (.tup xs))/\PrsAt H xs prs/\prs.length < 4000/\∀ d,H d=none->Q (.ref d) (upd H d (.dK (qA [] prs)))
def bJ7{X:Cx}(x:X.calm=true):lE X (.type "dict") cP3:=by
 intro pins s σ H xs us Q I r h;obtain⟨p,ys,prs,rfl,a,y,E,q⟩:=h;obtain⟨u,rfl,A⟩:=aA4 r;cases A;rcases a with a | a
 ·obtain⟨d,e,⟨o,n,c,f,g,i⟩,B⟩:=I.list (gP a);obtain⟨rs,b,j,k⟩:=PrsAt.raw I y e;have C:prs.length=rs.length:=Paired.length b;refine bJ5 (knd:=gH X.prog X.w) (prs:=rs) (I.ok.hd x) c f i g j (by lia) k λh' tk l m=>?_;have hm:(qA [] prs).length<=sizeLine:=by
   have t:=lK prs [];rw[a2g]at t;rw[a4U];lia
  refine⟨.ref s.heap.objs.size,_,I.laid (t':=tk) m (a9a _) (cO0 hm ?_ (b.merge .nil) l),rfl,q _ (I.hok.fresh (a9a _))⟩;have:=I.big;exact beq_eq_false_iff_ne.mpr (a3h this)
 ·obtain⟨B,d,e,⟨o,c,f,n,g⟩,v⟩:=(show eV X.prog X.w H s.heap p _ from I.hok p _ a);have i:o.dict=none:=by obtain⟨o',z,D⟩:=v;rw[c]at z;cases z;exact D
  obtain⟨rs,b,j,k⟩:=PrsAt.raw I y e;have C:prs.length=rs.length:=Paired.length b;refine aY1 (knd:=gH X.prog X.w) (prs:=rs) (I.ok.hd x) c f g i j (by lia) k λh' tk l m=>?_;have hm:(qA [] prs).length<=sizeLine:=by
   have t:=lK prs [];rw[a2g]at t;rw[a4U];lia
  refine⟨.ref s.heap.objs.size,_,I.laid (t':=tk) m (a9a _) (cO0 hm ?_ (b.merge .nil) l),rfl,q _ (I.hok.fresh (a9a _))⟩;have:=I.big;exact beq_eq_false_iff_ne.mpr (a3h this)
def dO2:R2:=λx y H Q=>∃ a v,x=.ref a/\dU4 H a y (some v)/\Q v H
def cF5{X:Cx}{o i:Expr}{pos:Pos}{a ty:TE}(b:X.A.units+1 < cLine)(c:PE X o a)(hi:PE X i ty)(d:dU5 i):PE X (.Subscript o i pos) (tOp dO2 a ty):=cU7 b c hi d
def cF6{κ:Type}[DecidableEq κ]{l:List (κ×V)}{k:κ}{v:V}(h:k∉l.map Prod.fst):bR1 l k v=l++[(k,v)]:=by
 unfold bR1;rw[a4z];simp only[List.any_eq_true,decide_eq_true_eq,not_exists,not_and];exact λp a e=>h (by rw[← e];exact List.mem_map_of_mem a)
theorem rO:∀ (prs acc:List (Key×V)),((acc++prs).map Prod.fst).Nodup->qA acc prs=acc++prs
 | [],acc,_=>by simp[qA]
 | p::prs,acc,h=>by
   show qA (bR1 acc p.1 p.2) prs=_;have h':((acc.map Prod.fst)++p.1::prs.map Prod.fst).Nodup:=by simpa using h
   rw[cF6 λz=>(List.nodup_append.mp h').2.2 _ z p.1 (by simp) rfl,rO prs (acc++[(p.1,p.2)]) (by simpa using h)];simp
end L2
namespace Dv
open PySem L2 Mr
noncomputable def cF7:List D->Option (List (Str×D))
 | []=>some []
 | .tup [.str z,v]::r=>(cF7 r).map λl=>(z,v)::l
 | _=>none
noncomputable def bV2:FN:=λa=>match a with
 | [.lst l]=>(cF7 l).bind λprs=>if prs.length < 4000/\(prs.map Prod.fst).Nodup then some (.own (.dic (prs.map λp=>.str p.1) (prs.map Prod.snd)))else none
 | [.tup l]=>(cF7 l).bind λprs=>if prs.length < 4000/\(prs.map Prod.fst).Nodup then some (.own (.dic (prs.map λp=>.str p.1) (prs.map Prod.snd)))else none
 | _=>none
theorem aY2{H:Hp}:∀ {l:List D} {xs:List V} {prs:List (Str×D)},cF7 l=some prs->Rps H l xs->∃ ps:List (Key×V),PrsAt H xs ps/\ps.length=prs.length/\ps.map Prod.fst=prs.map (λp=>.inr p.1)/\Rps H (prs.map Prod.snd) (ps.map Prod.snd)
 | [],_,_,e,.nil=>by cases e;exact⟨[],.nil,rfl,rfl,.nil⟩
 | d::l,_,_,e,.cons a t=>by
   unfold cF7 at e;split at e;rename_i b;cases b
   ·rename_i z v r b;cases b;obtain⟨prs,f,g⟩:=a9c.mp e;subst g;obtain⟨ps,h,i,j,k⟩:=aY2 f t;obtain⟨p,xs,rfl,m,n⟩:=gX (.inl a);cases n with
    | cons ga c=>cases c with
      | cons c o=>
        cases o;cases ga;exact⟨(.inr z,_)::ps,.cons m h,by simp[i],by simp[j],.cons c k⟩
   ·cases e
def cF8:bL7 cP3 bV2:=by
 intro H r vs Q res vw e k;unfold bV2 at e;split at e
 ·rename_i l;obtain⟨prs,f,e⟩:=aE e;split at e
  ·rename_i g;cases e;obtain⟨x,rfl,a⟩:=aV9 vw;obtain⟨p,xs,rfl,h,i⟩:=iZ a;obtain⟨ps,j,q,c,m⟩:=aY2 f i;refine⟨p,xs,ps,rfl,.inl h,j,by lia,λd hd=>k _ _ (cH hd) ⟨d,rfl,hd,?_⟩⟩;have nd:(ps.map Prod.fst).Nodup:=by
    rw[c,show prs.map (λp=>(Sum.inr p.1:Key))=(prs.map Prod.fst).map Sum.inr by simp];exact List.Pairwise.map _ (λa b n z=>n (by injection z)) g.2
   rw[rO ps [] (by simpa using nd),List.nil_append];refine⟨_,ps.map Prod.snd,aY,⟨?_,rfl⟩,m.mono (.same (cH hd))⟩;have:ps.map (λo=>cA8 o.1)=(ps.map Prod.fst).map cA8:=by simp
   rw[this,c];simp[cA8]
  ·cases e
 ·rename_i l;obtain⟨prs,f,e⟩:=aE e;split at e
  ·rename_i g;cases e;obtain⟨x,rfl,a⟩:=aV9 vw;obtain⟨p,xs,rfl,h,i⟩:=gX a;obtain⟨ps,j,q,c,m⟩:=aY2 f i;refine⟨p,xs,ps,rfl,.inr h,j,by lia,λd hd=>k _ _ (cH hd) ⟨d,rfl,hd,?_⟩⟩;have nd:(ps.map Prod.fst).Nodup:=by
    rw[c,show prs.map (λp=>(Sum.inr p.1:Key))=(prs.map Prod.fst).map Sum.inr by simp];exact List.Pairwise.map _ (λa b n z=>n (by injection z)) g.2
   rw[rO ps [] (by simpa using nd),List.nil_append];refine⟨_,ps.map Prod.snd,aY,⟨?_,rfl⟩,m.mono (.same (cH hd))⟩;have:ps.map (λo=>cA8 o.1)=(ps.map Prod.fst).map cA8:=by simp
   rw[this,c];simp[cA8]
  ·cases e
 ·cases e
noncomputable def aY3:List D->List D->Str->Option D
 | .str x::ks,v::vs,z=>if x=z then some v else aY3 ks vs z
 | _,_,_=>none
noncomputable def dO3:F2:=λd e=>match d,e with
 | .dic ks vs,.str z=>(aY3 ks vs z).map .val
 | _,_=>none
theorem bE4{H:Hp}{z:Str}{v:D}:∀ {kvs:List (Key×V)} {vs:List D},Rps H vs (kvs.map Prod.snd)->aY3 (kvs.map λc=>cA8 c.1) vs z=some v->∃ x,cA7 kvs (.inr z)=some x/\Rp H v x
 | [],_,_,h=>by cases h
 | (k,y)::kvs,_,.cons a t,h=>by
   cases k with
   | inl i=>cases h
   | inr x=>
     have h':(if x=z then some _ else aY3 (kvs.map λc=>cA8 c.1) _ z)=some v:=h;by_cases b:x=z;rw[a4y b]at h';cases h';subst b;exact⟨y,aG4 rfl,a⟩;rw[a4z b]at h';obtain⟨w,d,f⟩:=bE4 t h';exact⟨w,by rw[aG5 (λe=>b (by injection e))];exact d,f⟩
def cX9:aC4 dO2 dO3:=by
 intro H m n x y Q res g h e k;unfold dO3 at e;split at e
 ·rename_i ks vs z;obtain⟨v,f,rfl⟩:=a9c.mp e;obtain rfl:y=.str z:=by
   rcases h with r | ⟨p,_,o⟩;cases r;rfl;exact o.elim
  have i:∃ p u ws,x=.ref p/\Rd H p u/\cU9 u ks ws/\Rps H vs ws:=by
   rcases g with r | ⟨p,rfl,u,ws,c,b,d⟩
   ·cases r with
    | dic c b d=>exact⟨_,_,_,rfl,.inr ⟨_,c⟩,b,d⟩
   ·exact⟨p,u,ws,rfl,.inl c,b,d⟩
  obtain⟨p,u,ws,rfl,c,b,d⟩:=i;cases u with
  | dK kvs=>
    obtain⟨rfl,rfl⟩:=b;obtain⟨x,j,l⟩:=bE4 d f;exact⟨p,x,rfl,.inl ⟨kvs,.inr z,c,rfl,j.symm⟩,k _ _ (.refl _) l⟩
  | dT kvs=>
    obtain⟨rfl,rfl⟩:=b;cases kvs with
    | nil=>cases f
    | cons a t=>cases f
  | _=>exact b.elim
 ·cases e
def dO4{X:Cx}{a b:Expr}{c d:DE}{pos:Pos}(e:X.A.units+1 < cLine)(ha:GE X a c)(f:GE X b d)(g:dU5 b):GE X (.Subscript a b pos) (aX dO3 c d):=.mk λΓ=>peW (cF5 e (ha.to Γ) (f.to Γ) g) λ_ _ _=>qC cX9
end Dv
namespace L2
open PySem PySem.Spec PyProof.Rows
end L2
namespace Dv
open PySem L2 Mr
noncomputable def eE9:F2:=λd e=>match d,e with
 | .lst l,.int i=>if 0<=i/\i<=1000/\l.length<=1000 then some (.own (.lst (List.replicate i.toNat l).flatten))else none
 | _,_=>none
theorem cY0{l:List D}{i:Int}{K:Res->Prop}:OK1 (eE9 (.lst l) (.int i)) K=((0<=i/\i<=1000/\l.length<=1000)/\K (.own (.lst (List.replicate i.toNat l).flatten))):=by
 show OK1 (if _ then _ else none) K=_;rw[cF];rfl
end Dv
namespace Sx
open PySem PySem.W PyProof.Rows
structure Ord(c:Nat->Nat->Bool):Prop where
 ir:∀ a,c a a=false
 tr:∀ {a b d},c a b=true->c b d=true->c a d=true
 nt:∀ {a b d},c b a=false->c d b=false->c d a=false
noncomputable abbrev at0(p:Array Nat)(i:Nat):Nat:=p.getD i 0
def Up(c:Nat->Nat->Bool)(p:Array Nat)(k:Nat):Prop:=∀ i j,i<=j->j < k->c (at0 p j) (at0 p i)=false
def Dn(c:Nat->Nat->Bool)(p:Array Nat)(k:Nat):Prop:=∀ i j,i<=j->j < k->c (at0 p i) (at0 p j)=false
def Pm(N:Nat)(p:Array Nat):Prop:=p.toList.Perm (List.range N)
theorem Pm.size{N:Nat}{p:Array Nat}(h:Pm N p):p.size=N:=by have:=List.Perm.length_eq h;simpa using this
def Pm.lt{N:Nat}{p:Array Nat}(h:Pm N p){i:Nat}(hi:i < N):at0 p i < N:=by
 have b:=h.size;have a:i < p.size:=by lia
 have e:at0 p i=p[i]:=by simp[at0,Array.getD,a]
 rw[e];have:p[i]∈p.toList:=by simp
 exact a7d.mp (h.mem_iff.mp this)
def Pm.of{N:Nat}{p q:Array Nat}(h:Pm N p)(a:q.Perm p):Pm N q:=(Array.perm_iff_toList_perm.mp a).trans h
def aP8{p q:Array Nat}{i j:Nat}(h:p[i]? = q[j]?):at0 p i=at0 q j:=by simp[at0,Array.getD_eq_getD_getElem?,h]
def kB{p:Array Nat}{i j k:Nat}(a:j<=p.size):at0 (kas_rev p i j) k=if i<=k/\k < j then at0 p (i+j-1-k)else at0 p k:=by
 have e:=getElem?_mirror_all (xs:=p) (i:=i) (j:=j) a k;unfold kas_rev;by_cases h:i<=k/\k < j;rw[a4y h]at e ⊢;exact aP8 e;rw[a4z h]at e ⊢;exact aP8 e
def Pm.rev{N:Nat}{p:Array Nat}(h:Pm N p)(i j:Nat):Pm N (kas_rev p i j):=h.of (mirror_perm ..)
section
variable{N:Nat}{c:Nat->Nat->Bool}{cmp:Nat->Nat->(Bool->Shared->Prop)->Shared->Prop}{s:Shared}(O:Ord c)(hc:∀ i j C,i < N->j < N->C (c i j) s->cmp i j C s)
include O hc
theorem bV3{p:Array Nat}(e:Pm N p):∀ (f n:Nat) {G:Nat->Shared->Prop},1<=n->n+f<=N->Up c p n->(∀ m,n<=m->m<=n+f->Up c p m->(m=n+f\/c (at0 p m) (at0 p (m-1))=true)->G m s)->(kas_asc p f n).kasWp cmp G s
 | 0,n,G,l,o,a,q=>q n (a9a _) (a9a _) a (.inl rfl)
 | f+1,n,G,l,o,a,q=>by
   show cmp (at0 p n) (at0 p (n-1)) (λb s'=>(if b=true then KasT.ret n else kas_asc p f (n+1)).kasWp cmp G s') s;refine hc _ _ _ (e.lt (by lia)) (e.lt (by lia)) ?_;cases k:c (at0 p n) (at0 p (n-1))with
   | true=>rw[a4y rfl];exact q n (a9a _) (by lia) a (.inr k)
   | false=>
     rw[a4z a0c];refine bV3 e f (n+1) (by lia) (by lia) (λi j g u=>?_) λm v w r t=>q m (by lia) (by lia) r (by rcases t with z | z;exact .inl (by lia);exact .inr z);by_cases h:j < n;exact a i j g h
     ·have:j=n:=by lia
      subst this;by_cases d:i=j;subst d;exact O.ir _;exact O.nt (a i (j-1) (by lia) (by lia)) k
omit hc in
theorem Dn.turn{p:Array Nat}{n q:Nat}(hn:n<=p.size)(g:q+1<=n)(hd:Dn c p n)(e:∀ i j,n-(q+1)<=i->i < n->n-(q+1)<=j->j < n->c (at0 p i) (at0 p j)=false):Dn c (kas_rev p (n-(q+1)) n) n:=by
 intro i j a f;rw[kB hn,kB hn];by_cases b:n-(q+1)<=i/\i < n;rw[a4y b,a4y (by lia)];exact e _ _ (by lia) (by lia) (by lia) (by lia);rw[a4z b];by_cases d:n-(q+1)<=j/\j < n;rw[a4y d];exact hd i _ (by lia) (by lia);rw[a4z d];exact hd i j a f
omit hc in
theorem Dn.less{p:Array Nat}{n:Nat}(f:1<=n)(hd:Dn c p n)(d:c (at0 p n) (at0 p (n-1))=true):Dn c p (n+1):=by
 intro i j a g;by_cases b:j < n;exact hd i j a b;have:j=n:=by lia
 subst this;by_cases hi:i=j;subst hi;exact O.ir _;cases e:c (at0 p i) (at0 p j)with
 | false=>rfl
 | true=>
   have:=O.tr e d;rw[hd i (j-1) (by lia) (by lia)]at this;exact this.symm
theorem aI8:∀ (f:Nat) (p:Array Nat) (n q:Nat) {G:Array Nat×Nat×Nat->Shared->Prop},Pm N p->1<=n->n+f<=N->Dn c p n->q+1<=n->(∀ i j,n-(q+1)<=i->i < n->n-(q+1)<=j->j < n->c (at0 p i) (at0 p j)=false) ->
  (∀ a m g,Pm N a->n<=m->m<=n+f->Dn c a m->g+1<=m->(∀ i j,m-(g+1)<=i->i < m->m-(g+1)<=j->j < m->c (at0 a i) (at0 a j)=false)->G (a,m,g) s)->(kas_desc f p n q).kasWp cmp G s
 | 0,p,n,q,G,e,y,H,hd,v,he,k=>k p n q e (a9a _) (a9a _) hd v he
 | f+1,p,n,q,G,e,y,H,hd,v,he,k=>by
   have K:=e.size;show cmp (at0 p n) (at0 p (n-1)) (λb s'=>(if b=true then(if q > 0 then kas_desc f (kas_rev p (n-(q+1)) n) (n+1) 0 else kas_desc f p (n+1) 0)else KasT.ask (at0 p (n-1)) (at0 p n) λd=>if d=true then KasT.ret (p,n,q)else kas_desc f p (n+1) (q+1)).kasWp cmp G s') s;refine hc _ _ _ (e.lt (by lia)) (e.lt (by lia)) ?_;have one:∀ (a:Array Nat) i j,n+1-(0+1)<=i->i < n+1->n+1-(0+1)<=j->j < n+1->c (at0 a i) (at0 a j)=false:=λa i j h l w o=>by
    have:i=n:=by lia
    have:j=n:=by lia
    subst i;subst j;exact O.ir _
   cases hl:c (at0 p n) (at0 p (n-1))with
   | true=>
     rw[a4y rfl];by_cases r:q > 0
     ·rw[a4y r];have z:=Dn.turn O (by lia) v hd he;have A:at0 (kas_rev p (n-(q+1)) n) n=at0 p n:=by rw[kB (by lia),a4z (by lia)]
      have B:c (at0 (kas_rev p (n-(q+1)) n) n) (at0 (kas_rev p (n-(q+1)) n) (n-1))=true:=by
       rw[A,kB (by lia),a4y (by lia)]
       -- alike to I last one
       cases J:c (at0 p n) (at0 p (n-(q+1)+n-1-(n-1)))with
       | true=>rfl
       | false=>
         have:=O.nt (he (n-(q+1)+n-1-(n-1)) (n-1) (by lia) (by lia) (by lia) (by lia)) J;rw[hl]at this;exact this.symm
      refine aI8 f _ (n+1) 0 (e.rev _ _) (by lia) (by lia) (Dn.less O y z B) (by lia) (one _) λa m g h l w o t u=>k a m g h (by lia) (by lia) o t u
     ·rw[a4z r];exact aI8 f p (n+1) 0 e (by lia) (by lia) (Dn.less O y hd hl) (by lia) (one _) λa m g h l w o t u=>k a m g h (by lia) (by lia) o t u
   | false=>
     rw[a4z a0c];show cmp (at0 p (n-1)) (at0 p n) (λb s'=>(if b=true then KasT.ret (p,n,q)else kas_desc f p (n+1) (q+1)).kasWp cmp G s') s;refine hc _ _ _ (e.lt (by lia)) (e.lt (by lia)) ?_;cases E:c (at0 p (n-1)) (at0 p n)with
     | true=>rw[a4y rfl];exact k p n q e (a9a _) (by lia) hd v he
     | false=>
       rw[a4z a0c];have F:∀ i,n-(q+1)<=i->i < n->c (at0 p i) (at0 p n)=false/\c (at0 p n) (at0 p i)=false:=λi h l=>
        ⟨O.nt E (he i (n-1) h l (by lia) (by lia)),O.nt (he (n-1) i (by lia) (by lia) h l) hl⟩
       refine aI8 f p (n+1) (q+1) e (by lia) (by lia) (λi j C x=>?_) (by lia) (λi j h l w o=>?_) λa m g h l w o t u=>k a m g h (by lia) (by lia) o t u
       ·by_cases D:j < n;exact hd i j C D;have:j=n:=by lia
        subst this;by_cases hi:i=j;subst hi;exact O.ir _;exact O.nt E (hd i (j-1) (by lia) (by lia))
       ·by_cases hi:i=n;by_cases x:j=n;subst hi;subst x;exact O.ir _;subst hi;exact(F j (by lia) (by lia)).2;by_cases x:j=n;subst x;exact(F i (by lia) (by lia)).1;exact he i j (by lia) (by lia) (by lia) (by lia)
theorem bV4{p:Array Nat}{n:Nat}(a:Pm N p)(d:1<=n)(hn:n<=N)(hd:Dn c p n){G:Nat×Array Nat->Shared->Prop}(k:∀ m b,Pm N b->1<=m->m<=N->Up c b m->G (m,b) s):(kas_tail3 n N p).kasWp cmp G s:=by
 have g:=a.size;unfold kas_tail3;rw[KasT.kasWp_bind];refine bV3 O hc (a.rev 0 n) (N-n) n d (by lia) (λi j e h=>?_) λm l o f _=>k m _ (a.rev 0 n) (by lia) (by lia) f;rw[kB (by lia),kB (by lia),a4y (by lia),a4y (by lia)];exact hd _ _ (by lia) (by lia)
theorem zH{p:Array Nat}{n:Nat}(e:Pm N p)(h:1<=n)(hn:n+1<=N)(hd:Dn c p (n+1)){G:Nat×Array Nat->Shared->Prop}(k:∀ m a,Pm N a->1<=m->m<=N->Up c a m->G (m,a) s):(kas_descPart n N p).kasWp cmp G s:=by
 unfold kas_descPart;rw[KasT.kasWp_bind];refine aI8 O hc (N-(n+1)) p (n+1) 0 e (by lia) (by lia) hd (by lia) (λi j l o q r=>?_) λa m t b u v d f g=>?_
 ·have:i=n:=by lia
  have:j=n:=by lia
  subst i;subst j;exact O.ir _
 ·have w:=b.size;dsimp only;split;exact bV4 O hc (b.rev _ _) (by lia) (by lia) (Dn.turn O (by lia) f d g) k;exact bV4 O hc b (by lia) (by lia) d k
theorem cF9{p:Array Nat}(a:Pm N p)(y:1<=N){G:Nat×Array Nat->Shared->Prop}(k:∀ m l,Pm N l->1<=m->m<=N->Up c l m->G (m,l) s):(kas_count N p).kasWp cmp G s:=by
 have A:=a.size;unfold kas_count;rw[KasT.kasWp_bind];refine bV3 O hc a (N-1) 1 (a9a _) (by lia) (λi j d o=>?_) λn B C h t=>?_
 ·have:i=j:=by lia
  subst this;exact O.ir _
 ·by_cases e:n=N;subst e;rw[a4y (by simp)];exact k n p a (by lia) (a9a _) h;rw[a4z (by simpa using e)];have f:c (at0 p n) (at0 p (n-1))=true:=by rcases t with z | z;lia;exact z
  by_cases g:n > 1
  ·rw[a4y g];show cmp (at0 p 0) (at0 p (n-1)) (λb s'=>(if b=true then KasT.ret (n,p)else kas_descPart n N (kas_rev p 0 n)).kasWp cmp G s') s;refine hc _ _ _ (a.lt (by lia)) (a.lt (by lia)) ?_;cases u:c (at0 p 0) (at0 p (n-1))with
   | true=>rw[a4y rfl];exact k n p a (by lia) (by lia) h
   | false=>
     rw[a4z a0c]
     -- all of q are alike
     have r:∀ i j,i < n->j < n->c (at0 p i) (at0 p j)=false:=λi j hi o=>by
      have v:c (at0 p 0) (at0 p j)=false:=O.nt (h j (n-1) (by lia) (by lia)) u;have w:c (at0 p i) (at0 p 0)=false:=h 0 i (by lia) hi;exact O.nt v w
     refine zH O hc (a.rev 0 n) (by lia) (by lia) (Dn.less O (by lia) (λi j d o=>?_) ?_) k;rw[kB (by lia),kB (by lia),a4y (by lia),a4y (by lia)];exact r _ _ (by lia) (by lia)
     ·rw[kB (by lia),kB (by lia),a4z (by lia),a4y (by lia)];cases x:c (at0 p n) (at0 p (0+n-1-(n-1)))with
      | true=>rfl
      | false=>
        have:=O.nt (r (0+n-1-(n-1)) (n-1) (by lia) (by lia)) x;rw[f]at this;exact this.symm
  ·rw[a4z g];have:n=1:=by lia
   subst this;refine zH O hc a (a9a _) (by lia) (Dn.less O (a9a _) (λi j d o=>?_) f) k;have:i=j:=by lia
   subst this;exact O.ir _
theorem aI9{p:Array Nat}{k:Nat}(e:Pm N p)(j:k < N)(g:Up c p k):∀ (f l r:Nat) {G:Nat->Shared->Prop},l<=r->r<=k->r-l<=f->(∀ i,i < l->c (at0 p k) (at0 p i)=false)->(∀ i,r<=i->i < k->c (at0 p k) (at0 p i)=true) ->
  (∀ m,m<=k->(∀ i,i < m->c (at0 p k) (at0 p i)=false)->(∀ i,m<=i->i < k->c (at0 p k) (at0 p i)=true)->G m s)->(kas_place p k f l r).kasWp cmp G s
 | 0,l,r,G,u,h,v,a,b,q=>by
   have:l=r:=by lia
   subst this;exact q l h a b
 | f+1,l,r,G,u,h,v,a,b,q=>by
   unfold kas_place;split
   ·have:l=r:=by lia
    subst this;exact q l h a b
   ·show cmp (at0 p k) (at0 p ((l+r) / 2)) (λd s'=>(if d=true then kas_place p k f l ((l+r) / 2)else kas_place p k f ((l+r) / 2+1) r).kasWp cmp G s') s;refine hc _ _ _ (e.lt j) (e.lt (by lia)) ?_;cases t:c (at0 p k) (at0 p ((l+r) / 2))with
    | true=>
      rw[a4y rfl];refine aI9 e j g f l _ (by lia) (by lia) (by lia) a (λi n o=>?_) q;cases w:c (at0 p k) (at0 p i)with
      | true=>rfl
      | false=>
        have:=g ((l+r) / 2) i n o;have:=O.nt this w;rw[t]at this;exact this.symm
    | false=>
      rw[a4z a0c];refine aI9 e j g f _ r (by lia) h (by lia) (λi hi=>?_) b q;exact O.nt (g i ((l+r) / 2) (by lia) (by lia)) t
theorem cP4:∀ (f:Nat) (p:Array Nat) (k:Nat) {G:Array Nat->Shared->Prop},Pm N p->k+f=N->Up c p k->(∀ g,Pm N g->Up c g N->G g s)->(kas_bin f p k).kasWp cmp G s
 | 0,p,k,G,b,B,a,q=>by
   have:k=N:=by lia
   subst this;exact q p b a
 | f+1,p,k,G,b,B,a,q=>by
   have F:=b.size;unfold kas_bin;rw[KasT.kasWp_bind];refine aI9 O hc b (by lia) a k 0 k (a7c _) (a9a _) (by lia) (λi h=>absurd h (Nat.not_lt_zero _)) (λi o r=>by lia) λm hm o r=>?_;have t:∀ i,at0 (bubble p k (k-m)) i=if i=m then at0 p k else if m < i/\i<=k then at0 p (i-1)else at0 p i:=λi=>by
    have e:=getElem?_bubble (xs:=p) (src:=k) (by lia) (k-m) (by lia) i;have C:k-(k-m)=m:=by lia
    rw[C]at e;by_cases u:i=m;rw[a4y u]at e ⊢;exact aP8 e;rw[a4z u]at e ⊢;by_cases v:m < i/\i<=k;rw[a4y v]at e ⊢;exact aP8 e;rw[a4z v]at e ⊢;exact aP8 e
   refine cP4 f _ (k+1) (b.of (bubble_perm ..)) (by lia) (λi j l H=>?_) q;rw[t,t];by_cases w:j=m;rw[a4y w];by_cases d:i=m;rw[a4y d];exact O.ir _;rw[a4z d,a4z (by lia)];exact o i (by lia)
   ·rw[a4z w];by_cases d:i=m
    ·rw[a4y d,a4y (by lia)]
     -- D placed one is less y n behind it
     have x:=r (j-1) (by lia) (by lia);cases E:c (at0 p (j-1)) (at0 p k)with
     | false=>rfl
     | true=>have:=O.tr E x;rw[O.ir]at this;exact this.symm
    ·rw[a4z d];by_cases z:m < j/\j<=k;rw[a4y z];by_cases A:m < i/\i<=k;rw[a4y A];exact a _ _ (by lia) (by lia);rw[a4z A];exact a _ _ (by lia) (by lia);rw[a4z z,a4z (by lia)];exact a _ _ l (by lia)
theorem cY1(f:1<=N){G:Array Nat->Shared->Prop}(q:∀ p,Pm N p->Up c p N->G p s):(kas_sort N).kasWp cmp G s:=by
 unfold kas_sort;rw[KasT.kasWp_bind];refine cF9 O hc (p:=List.toArray (List.range N)) (.refl _) f λm a b g h d=>?_;dsimp only;split
 ·have e:max m 1=m:=by lia
  rw[e];exact cP4 O hc (N-m) a m b (by lia) d q
 ·have:m=N:=by lia
  subst this;exact q a b d
end
structure Lin{α:Type}(c:α->α->Bool):Prop where
 ir:∀ a,c a a=false
 tr:∀ {a b d},c a b=true->c b d=true->c a d=true
 tot:∀ {a b},c a b=false->c b a=false->a=b
def Lin.nt{α:Type}{c:α->α->Bool}(L:Lin c){a b d:α}(g:c b a=false)(e:c d b=false):c d a=false:=by
 cases h:c d a with
 | false=>rfl
 | true=>
   cases f:c a b with
   | true=>rw[L.tr h f]at e;cases e
   | false=>
     have:=L.tot f g;subst this;rw[h]at e;cases e
open Classical in
noncomputable def lx{α:Type}(c:α->α->Bool):List α->List α->Bool
 | _,[]=>false
 | [],_::_=>true
 | a::x,b::y=>if a=b then lx c x y else c a b
section
variable{α:Type}{c:α->α->Bool}
def dO5(a b:α)(x y:List α):lx c (a::x) (b::y)=(open Classical in if a=b then lx c x y else c a b):=by rw[lx]
theorem cY2:∀ x:List α,lx c x x=false
 | []=>by rw[lx]
 | a::x=>by rw[dO5,a4y rfl];exact cY2 x
theorem dO6(L:Lin c):∀ {x y z:List α},lx c x y=true->lx c y z=true->lx c x z=true
 | _,[],_,h,_=>by simp[lx]at h
 | _,_::_,[],_,h=>by simp[lx]at h
 | [],_::_,_::_,_,_=>by rw[lx]
 | a::x,b::y,d::z,f,e=>by
   rw[dO5]at f e ⊢;by_cases i:a=b;rw[a4y i]at f;subst i;by_cases g:a=d;rw[a4y g]at e ⊢;exact dO6 L f e;rw[a4z g]at e ⊢;exact e
   ·rw[a4z i]at f;by_cases g:b=d;rw[a4y g]at e;subst g;rw[a4z i];exact f;rw[a4z g]at e;have:=L.tr f e;rw[a4z λz=>?_];exact this;subst z;rw[L.ir]at this;cases this
theorem cP5(L:Lin c):∀ {x y:List α},lx c x y=false->lx c y x=false->x=y
 | [],[],_,_=>rfl
 | [],_::_,h,_=>by simp[lx]at h
 | _::_,[],_,h=>by simp[lx]at h
 | a::x,b::y,d,f=>by
   rw[dO5]at d f;by_cases e:a=b;rw[a4y e]at d;rw[a4y e.symm]at f;rw[e,cP5 L d f];rw[a4z e]at d;rw[a4z λz=>e z.symm]at f;exact absurd (L.tot d f) e
def cP6(L:Lin c):Lin (lx c):=⟨cY2,dO6 L,cP5 L⟩
end
def cY3:Lin (λa b:Nat=>decide (a < b)):=⟨λa=>by simp,λ{a b d} c e=>by simp at *;lia,λ{a b} c e=>by simp at *;lia⟩
theorem cP7:∀ (x y:List Nat),lx (λa b:Nat=>decide (a < b)) x y=decide (x < y)
 | [],[]=>by simp[lx]
 | _::_,[]=>by simp[lx]
 | [],_::_=>by simp[lx]
 | a::x,b::y=>by
   rw[dO5,cP7 x y];by_cases e:a=b;rw[a4y e];subst e;rw[decide_eq_decide,List.cons_lt_cons_iff];exact⟨λh=>.inr ⟨rfl,h⟩,λh=>h.elim (λz=>absurd z (a6e _)) λz=>z.2⟩;rw[a4z e,decide_eq_decide,List.cons_lt_cons_iff];exact⟨.inl,λh=>h.elim id λz=>absurd z.1 e⟩
noncomputable def slt(a b:Str):Bool:=decide (a.cps.toList < b.cps.toList)
def cY4:Lin slt:=by
 have L:=cP6 cY3;have e:∀ a b:Str,slt a b=lx (λa b:Nat=>decide (a < b)) a.cps.toList b.cps.toList:=λa b=>(cP7 _ _).symm;refine⟨λa=>by rw[e];exact L.ir _,λ{a b d} c f=>by rw[e]at *;exact L.tr c f,λ{a b} c f=>?_⟩;rw[e]at c f;have:=L.tot c f;cases a;cases b;exact a4F Str.mk (Array.toList_inj.mp this)
noncomputable abbrev tlS:List Str->List Str->Bool:=lx slt
def nF:Lin tlS:=cP6 cY4
def cY5(ks:List (List Str)):Ord λi j=>tlS (ks.getD i []) (ks.getD j []):=⟨λa=>nF.ir _,nF.tr,nF.nt⟩
section
variable{prog:Program}{w:World}{A:Around}{E:Value->Shared->Prop}{s:Shared}
abbrev dV3(prog:Program)(w:World)(h:Heap)(k:List Str)(a:Addr):Prop:=IsTupleKey (strKind prog w) h k a
def cP8(prog:Program)(w:World)(h:Heap)(ks:List (List Str))(vs:List Value):Prop:=ks.length=vs.length/\∀ (i:Nat) v,vs[i]? = some v->∃ k a,ks[i]? = some k/\v=.ref a/\dV3 prog w h k a
def cP8.stay{h h':Heap}{ks:List (List Str)}{vs:List Value}(X:cP8 prog w h ks vs)(c:∀ a o,Value.ref a∈vs->h.get? a=some o->h'.get? a=some o):cP8 prog w h' ks vs:=by
 refine⟨X.1,λi v e=>?_⟩;obtain⟨k,a,d,b,o,items,n,f,r⟩:=X.2 i v e;exact⟨k,a,d,b,o,items,n,c a o (by rw[← b];exact a6b e) f,r⟩
theorem bV5{b:Bool}{Q:Bool->Shared->Prop}:∀ {x y:List Str} {xs ys:List Value} (i:Nat) (fin:Bool),ItemsAre (strKind prog w) x xs->ItemsAre (strKind prog w) y ys->fin=decide (xs.length+i < ys.length+i)->Q (tlS x y) s->KatLex prog w A b (decide (xs.length < ys.length)) Q (xs.zip ys) i s
 | _,_,_,_,i,fin,.nil,.nil,_,q=>by rw[show tlS [] []=false from cY2 _]at q;exact q
 | _,_,_,_,i,fin,.nil,.cons _ _,_,q=>by
   show Q (decide (0 < _)) s;rw[a4C (by simp)];rwa[show tlS [] (_::_)=true by unfold tlS;rw[lx]]at q
 | _,_,_,_,i,fin,.cons _ _,.nil,_,q=>by
   show Q (decide (_ < 0)) s;rw[a4B (by simp)];rwa[show tlS (_::_) []=false by unfold tlS;rw[lx]]at q
 | _,_,_,_,i,fin,.cons (k:=a) (ks:=x) c f,.cons (k:=d) (ks:=y) g h,_,q=>by
   obtain⟨t,rfl⟩:=Value.isStrOf_shape c;obtain⟨u,rfl⟩:=Value.isStrOf_shape g;rw[List.zip_cons_cons];refine kat_cons (wpAny_eqBool_str ?_);rw[show tlS (a::x) (d::y)=_ from dO5 a d x y]at q;by_cases e:a=d;rw[a4y e]at q;rw[a4C e];refine kat_yes ?_;have:=bV5 (b:=b) (i+1) (decide (_+(i+1) < _+(i+1))) f h rfl q;simpa using this
   ·rw[a4z e]at q;rw[a4B e];refine kat_no ?_;cases (b&&i==0)with
    | true=>exact oneLt_str q
    | false=>exact kat_one _ _ (lt_str q)
def eF0{ks:List (List Str)}{vs:List Value}{b:Bool}{i j:Nat}{C:Bool->Shared->Prop}(T:cP8 prog w s.heap ks vs)(hi:i < vs.length)(a:j < vs.length)(q:C (tlS (ks.getD i []) (ks.getD j [])) s):kas_ask prog w A (tuples' b) vs i j C s:=by
 obtain⟨c,a1,d,e,z,f,n1,g,_,h,k⟩:=T.2 i vs[i] (a1a hi);obtain⟨l,a2,m,n,B,o,n2,p,_,r,t⟩:=T.2 j vs[j] (a1a a);have u:vs.getD i Value.none=.ref a1:=by rw[a3c,a1a hi,e];rfl
 have v:vs.getD j Value.none=.ref a2:=by rw[a3c,a1a a,n];rfl
 have x:ks.getD i []=c:=by rw[a3c,d];rfl
 have y:ks.getD j []=l:=by rw[a3c,m];rfl
 unfold kas_ask;rw[u,v];rw[x,y]at q;refine kat_lt g h p r ?_;have:=bV5 (b:=b) (A:=A) 0 (decide (f.toList.length+0 < o.toList.length+0)) k t rfl q;simpa using this
theorem aD9:∀ {k:List Str} {vs:List Value},ItemsAre (strKind prog w) k vs->∀ v∈vs,∃ i t,v=.str i t
 | _,_,.nil,v,a=>by simp at a
 | _,_,.cons b r,v,a=>by
   rcases a3b.mp a with rfl | a;obtain⟨t,e⟩:=Value.isStrOf_shape b;exact⟨_,t,e⟩;exact aD9 r v a
def dZ7{ks:List (List Str)}{vs:List Value}{Q:SortKind->Shared->Prop}(T:cP8 prog w s.heap ks vs)(y:0 < vs.length)(z:∀ k∈ks,k≠[])(q:Q (tuples' true) s):wpAny (model prog w) A (keyKind' vs.toArray) Q E s:=by
 have c:∀ (vs:List Value) (ks:List (List Str)),(∀ (i:Nat) v,vs[i]? = some v->∃ k a,ks[i]? = some k/\v=.ref a/\dV3 prog w s.heap k a)->(∀ k∈ks,k≠[])->∃ fs:List Value,KatTups s.heap vs fs/\fs.length=vs.length/\∀ v∈fs,∃ i t,v=.str i t:=by
  intro vs
  induction vs with
  | nil=>intro ks _ _;exact⟨[],KatTups.nil,rfl,by simp⟩
  | cons v r B=>
    intro ks l m;obtain⟨k,a,d,rfl,o,items,n,g,C,hd,hi⟩:=l 0 v rfl;cases ks with
    | nil=>simp at d
    | cons I ks=>
      simp at d;subst d;obtain⟨fs,e,p,h⟩:=B ks (λi u D=>l (i+1) u (by simpa using D)) λx b=>m x (a6a _ b);have j:=m _ a4a;cases hit:items.toList with
      | nil=>
        rw[hit]at hi;cases hi;exact absurd rfl j
      | cons f mL=>
        have F:items[0]? = some f:=by rw[← a6g,hit];rfl
        obtain⟨i,t,G⟩:=aD9 hi f (by rw[hit];exact a4a);refine⟨f::fs,KatTups.cons g C hd F e,by simp[p],λx b=>?_⟩;rcases a3b.mp b with rfl | b;exact⟨i,t,G⟩;exact h x b
 obtain⟨fs,e,p,h⟩:=c vs ks T.2 z;refine kat_kind (T:=.type "str") e (by lia) (λv H=>?_) (by decide) q;obtain⟨i,t,rfl⟩:=h v H;exact .now
def dO7{ks:List (List Str)}{vs:List Value}{D n:Nat}{P:PySem.Fin->Shared->Prop}(v:s.heap.get? D=some (seqObj "list" vs.toArray n))(K:Value.ref D∉vs)(T:cP8 prog w s.heap ks vs)(x:vs.length < 64)(L:2<=vs.length->∀ k∈ks,k≠[])
  (q:∀ h' p c,Pm vs.length p->Up (λi j=>tlS (ks.getD i []) (ks.getD j [])) p vs.length->h'.get? D=some (seqObj "list" (List.toArray (p.toList.map λi=>vs.getD i Value.none)) c)->(∀ b ob,b≠D->s.heap.get? b=some ob->h'.get? b=some ob)->P (.done (.ret .none)) {s with heap:=h'}) :
  wpAny (model prog w) A (Builtin.«list.sort» ⟨[.ref D],[]⟩) P E s:=by
 have M:D < s.heap.objs.size:=a5b v;have H:vs.length<=sizeLine:=by rw[a4U];lia
 rw[list_sort_plain];refine a4x (listItems_at v rfl (a4x (listUpdate_at v rfl ?_ (by simpa using H) (a7c _))));obtain⟨y,m⟩:∃ y,(s.heap.update D (Obj.mapSeq λ_=>(#[]:Array Value))).get? D=some (seqObj "list" #[] y):=⟨_,get?_update_seq v λ_=>#[]⟩;refine a4x (seqEpoch_at m rfl (a4x (wpAny_newTuple ?_ (by simpa using H))));refine a4x (wpAny_newList ?_ (a7c _));refine a4E ?_;have kept:∀ b ob,b≠D->s.heap.get? b=some ob->(((s.heap.update D (Obj.mapSeq λ_=>(#[]:Array Value))).push (seqObj "tuple" vs.toArray 0)).push (seqObj "list" #[] 0)).get? b=some ob:=λb ob g e=>a7a _ (a7a _ ((Heap.get?_update_other _ _ (a4e g)).trans e));have a:(((s.heap.update D (Obj.mapSeq λ_=>(#[]:Array Value))).push (seqObj "tuple" vs.toArray 0)).push (seqObj "list" #[] 0)).get? D=some (seqObj "list" #[] y):=a7a _ (a7a _ m);show wpAny (model prog w) A _ P E {s with heap:=((s.heap.update D (Obj.mapSeq λ_=>(#[]:Array Value))).push (seqObj "tuple" vs.toArray 0)).push (seqObj "list" #[] 0)};generalize ((s.heap.update D (Obj.mapSeq λ_=>(#[]:Array Value))).push (seqObj "tuple" vs.toArray 0)).push (seqObj "list" #[] 0)=f at kept a ⊢;have I:cP8 prog w f ks vs:=T.stay λb ob g e=>kept b ob (λz=>K (z ▸ g)) e;dsimp only;have fin:∀ (out:Array Value) (p:Array Nat),out=List.toArray (p.toList.map λi=>vs.getD i Value.none)->Pm vs.length p->Up (λi j=>tlS (ks.getD i []) (ks.getD j [])) p vs.length->out.size<=sizeLine+1 ->
   P (.done (.ret .none)) {s with heap:=f.update D (Obj.mapSeq λ_=>out)}:=λout p e h o _=>by
  obtain⟨B,F⟩:∃ B,(f.update D (Obj.mapSeq λ_=>out)).get? D=some (seqObj "list" out B):=⟨_,get?_update_seq a λ_=>out⟩;subst e;exact q _ p B h o F λb ob g e=>(Heap.get?_update_other _ _ (a4e g)).trans (kept b ob g e)
 by_cases l:vs.toArray.size < 2
 ·rw[a4y l,a4y l];refine a4x (a4A ?_);rw[StateT.run_pure];refine a4x (a4A ?_);dsimp only;refine a4x (seqEpoch_at a rfl ?_);have es:(arrOf (SortSt.mk' general' (vs.toArray.zip vs.toArray) #[] 7 none)).map (·.2)=vs.toArray:=by
   show(vs.toArray.zip vs.toArray).map (·.2)=vs.toArray;apply Array.toList_inj.mp;rw[Array.toList_map,Array.toList_zip,List.map_snd_zip (a9a _)]
  refine a4x (listUpdate_at a rfl ?_ (a7c _) (by rw[es];simp;lia));simp only[bne_self_eq_false,Bool.false_eq_true,if_false];rw[es];refine a4A (fin vs.toArray (List.toArray (List.range vs.length)) ?_ (.refl _) (λi j N J=>?_) (by simp;lia));apply Array.toList_inj.mp;show vs=(List.range vs.length).map λi=>vs.getD i Value.none;refine List.ext_getElem? λi=>?_;rw[a5c];by_cases hi:i < vs.length;rw[List.getElem?_range hi,a1a hi];simp[hi];rw[a4h (by lia),a4h (by simp;lia)];rfl;have:i=j:=by simp at l;lia
  subst this;exact nF.ir _
 ·rw[a4z l,a4z l];have r:2<=vs.length:=by simp at l;lia
  refine a4x (dZ7 (s:={s with heap:=f}) I (by lia) (L r) ?_);refine a4x (a4H (kat_run (s:={s with heap:=f}) (κ:=tuples' true) (Q:=λd s'=>s'={s with heap:=f}/\failedOf d=none/\∃ p:Array Nat,Pm vs.length p/\Up (λi j=>tlS (ks.getD i []) (ks.getD j [])) p vs.length/\(arrOf d).map (·.2)=List.toArray (p.toList.map λi=>vs.getD i Value.none))
   (G:=λp s'=>s'={s with heap:=f}/\Pm vs.length p/\Up (λi j=>tlS (ks.getD i []) (ks.getD j [])) p vs.length) rfl r x (λp d s' X O R ⟨S,U,V⟩=>⟨S,R,p,U,V,kat_snds rfl O⟩) ?_) ?_ λ_ _ e=>e)
  ·exact cY1 (cY5 ks) (λi j C hi J W=>eF0 (s:={s with heap:=f}) I hi J W) (by lia) λp h o=>⟨rfl,h,o⟩
  ·rintro⟨⟨⟩,d⟩ s' ⟨rfl,hf,p,h,o,t⟩;dsimp only;refine a4x (seqEpoch_at a rfl ?_);have u:(List.toArray (p.toList.map λi=>vs.getD i Value.none)).size=vs.length:=by rw[a2b,a0a,a0h,h.size]
   rw[t];refine a4x (listUpdate_at a rfl ?_ (a7c _) (by show(List.toArray _).size<=_;rw[u];lia));rw[hf];simp only[bne_self_eq_false,Bool.false_eq_true,if_false];exact a4A (fin _ p rfl h o (by rw[u];lia))
end
end Sx
namespace Sx
open PySem PySem.SetTable
section
variable{t:SetTable}{hs:List Int}
end
section
variable{t:SetTable}{hs:List Int}{h:Int}{M:Nat}
end
section
variable{mask:Nat}{ow:Array (Option Nat)}{hs:List Int}
end
section
variable{t:SetTable}{hs:List Int}
end
end Sx
namespace PySem
open Sx
section
variable{prog:Program}{w:World}{A:Around}{E:Value->Shared->Prop}{s:Shared}
end
section
variable{prog:Program}{w:World}{A:Around}{E:Value->Shared->Prop}{s:Shared}{S:Addr}{led:Bool}{N:Addr->Prop}{ks:List (List Int)}{o:Obj}{es:Array (Int×Value)}{ep:Nat}{t:SetTable}
end
end PySem
namespace Sx
open PySem PySem.SetTable
end Sx
namespace PySem
open Sx
section
variable{prog:Program}{w:World}{A:Around}{E:Value->Shared->Prop}{s:Shared}{S:Addr}{led:Bool}{N:Addr->Prop}{ks:List (List Int)}{o:Obj}{es:Array (Int×Value)}{ep:Nat}{t:SetTable}
end
section
variable{prog:Program}{w:World}{A:Around}{S I:Addr}{led:Bool}{N:Addr->Prop}
end
section
variable{prog:Program}{w:World}{A:Around}{E:Value->Shared->Prop}{s:Shared}{S I:Addr}{N:Addr->Prop}{ks:List (List Int)}{o:Obj}{es:Array (Int×Value)}{ep:Nat}{t:SetTable}
end
open L2
section
variable{prog:Program}{w:World}{A:Around}{E:Value->Shared->Prop}{s:Shared}{S I:Addr}{N:Addr->Prop}{ks:List (List Int)}{o:Obj}{es:Array (Int×Value)}{ep:Nat}{t:SetTable}
end
end PySem
namespace Sx
open PySem PySem.W PyProof.Rows
section
variable{prog:Program}{w:World}{A:Around}{E:Value->Shared->Prop}{s:Shared}
end
end Sx
namespace PySem
open Sx PySem.W PyProof.Rows
section
variable{prog:Program}{w:World}{A:Around}{E:Value->Shared->Prop}{s:Shared}{S:Addr}{N:Addr->Prop}{ks:List (List Int)}{o:Obj}{es:Array (Int×Value)}{ep:Nat}{t:SetTable}
end
end PySem
namespace Dv
open PySem L2 Mr
section
variable{Γ:Gm}{H H0:Hp}{σ σ0:Sg}{σV σV0:St}{i:Nat}{v:V}
end
section
variable{K:W.Frag}{H:Hp}{C fI:Addr}{f:Str}{E:XK}{Q:Addr->Hp->Prop}
end
end Dv
namespace L2
open PySem PySem.Spec PyProof.Rows
end L2
namespace PySem
noncomputable def nud{κ:Type}[DecidableEq κ]:List κ->List κ->Nat
 | _,[]=>0
 | seen,k::r=>if k∈seen then nud seen r else nud (k::seen) r+1
section
variable{κ:Type}[DecidableEq κ]
theorem qV:∀ (r:List κ) {a b:List κ},(∀ k,k∈a↔k∈b)->nud a r=nud b r
 | [],_,_,_=>rfl
 | k::r,a,b,h=>by
   show(if k∈a then nud a r else nud (k::a) r+1)=if k∈b then nud b r else nud (k::b) r+1
   by_cases c:k∈a;rw[a4y c,a4y ((h k).mp c),qV r h];rw[a4z c,a4z λz=>c ((h k).mpr z),qV r (a:=k::a) (b:=k::b) λx=>by simp only[List.mem_cons,h x]]
theorem bE5:∀ (r seen:List κ),nud seen r<=r.length
 | [],_=>a9a _
 | k::r,seen=>by
   show(if k∈seen then nud seen r else nud (k::seen) r+1)<=r.length+1;split;exact Nat.le_succ_of_le (bE5 r seen);exact Nat.succ_le_succ (bE5 r _)
theorem bV6:∀ (r seen:List κ),nud seen r=r.length↔r.Nodup/\∀ k∈r,k∉seen
 | [],_=>by simp[nud]
 | k::r,seen=>by
   show(if k∈seen then nud seen r else nud (k::seen) r+1)=r.length+1↔_;by_cases b:k∈seen;rw[a4y b];have:=bE5 r seen;constructor;intro h;lia;intro h;exact absurd b (h.2 k (by simp))
   ·rw[a4z b,Nat.add_right_cancel_iff,bV6 r (k::seen),a0f];constructor;rintro⟨d,c⟩;refine⟨⟨λz=>c k z (by simp),d⟩,λx a=>?_⟩;rcases a3b.mp a with rfl | a;exact b;exact λz=>c x a (a6a _ z);rintro⟨⟨d,c⟩,e⟩;refine⟨c,λx a z=>?_⟩;rcases a3b.mp z with rfl | z;exact d a;exact e x (a6a _ a) z
def bV7{r:List κ}:nud [] r=r.length↔r.Nodup:=by
 rw[bV6];simp
end
section
variable{prog:Program}{w:World}{A:Around}{κ:Type}[DecidableEq κ]{knd:KeyKind prog w κ}
def bV8{S I:Addr}{items:Array Value}{ks:List κ}(C:ks.length=items.size)(D:∀ (i:Nat) v,items[i]? = some v->∃ k,ks[i]? = some k/\knd.is k v=true/\v.scannable=true)(N:ks.length+1 < scanBound)(l:S≠I) :
  Fill prog w A S I items.size (λi v=>items[i]? = some v) (λi h=>∃ m,h.SetOf knd S (λk=>decide (k∈ks.take i)) m/\m<=i/\m+nud (ks.take i) (ks.drop i)=nud [] ks) where
 put:=λi v s Q E hi F ⟨m,G,hm,hn⟩ q=>by
  obtain⟨k,u,y,sc⟩:=D i v F;have n:i < ks.length:=by rw[C];exact hi
  have B:ks.take (i+1)=ks.take i++[k]:=by rw[a3f,u];rfl
  have H:ks.drop i=k::ks.drop (i+1):=by
   rw[List.drop_eq_getElem_cons n,(a2a.mp u).2]
  unfold setAdd;refine a4E (a4x (knd.pyHash y ?_));refine wpAny_setAddHashed_of (knd:=knd) y sc G (by lia) λh' p g=>?_;refine q _ h' _ ⟨if decide (k∈ks.take i)=true then m else m+1,?_,?_,?_⟩ λc o J e=>(p.2 c J).trans e
  ·have e:(λj=>decide (j∈ks.take i)||decide (j=k))=λj=>decide (j∈ks.take (i+1)):=by
    funext j;rw[B];simp[← Bool.decide_or]
   rw[e]at g;exact g
  ·split<;>lia
  ·rw[H]at hn;have f:m+(if k∈ks.take i then nud (ks.take i) (ks.drop (i+1))else nud (k::ks.take i) (ks.drop (i+1))+1)=nud [] ks:=hn;have K:nud (ks.take (i+1)) (ks.drop (i+1))=nud (k::ks.take i) (ks.drop (i+1)):=qV _ λx=>by rw[B];simp[or_comm]
   rw[K];by_cases d:k∈ks.take i
   ·rw[a4y d]at f;rw[show(decide (k∈ks.take i))=true from a4C d,a4y rfl,← qV (ks.drop (i+1)) (a:=ks.take i) (b:=k::ks.take i) λx=>⟨λz=>a6a _ z,λz=>by
     rcases a3b.mp z with rfl | z;exact d;exact z⟩]
    exact f
   ·rw[a4z d]at f;rw[show(decide (k∈ks.take i))=false from a4B d,a4z a0c];lia
 stay:=λi h h' ⟨m,⟨o,es,L,t,M,r⟩,hm⟩ k=>⟨m,⟨o,es,L,t,k S o l M,r⟩,hm⟩
end
end PySem
namespace L2
open PySem PySem.Spec PyProof.Rows
def cG0{X:Cx}{id U:String}{x y:Str}{p c pos a:Pos}{e:Expr}{es:List Expr}{t:TA}{r:List V->Hp->VK->Prop}
  (m:∀ pins s σ H vs us Q,Inv X pins σ H s->dI vs us->r vs H Q->wpAny (model X.prog X.w) X.A (call (.type U) us) (λu s1=>wpAny (model X.prog X.w) X.A (call (.builtin id) [u]) (EP X pins σ Q) X.xe s1) X.xe s)
  (n:Gl X x) (hm:X.mg x=none) (o:bootBuiltins x=some (.builtin id)) (d:Gl X y) (f:X.mg y=none) (g:bootBuiltins y=some (.type U)) (ha:PA X (e::es) t)
  (hn:x≠"__name__":=by decide) (i:(x==("__debug__":Str))=false:=by decide) (j:y≠"__name__":=by decide) (b:(y==("__debug__":Str))=false:=by decide)
  (q:starEach (e::es) X.env=(false,eval e X.env)::starEach es X.env:=by rfl) (k:(backTo a (starEach es X.env)).any (·.1)=false:=by rfl)
  (l:starEach [.Call (.Name y c) (e::es) [] a] X.env=(false,eval (.Call (.Name y c) (e::es) [] a) X.env)::starEach [] X.env:=by rfl) :
  PE X (.Call (.Name x p) [.Call (.Name y c) (e::es) [] a] [] pos) (tCB r t):=by
 intro pins s σ H Q I h;refine a4I (nR I n hm o (PyProof.Rows.callWith_builtin1 ?_ l (by rfl)) hn i);rw[l]
 (show wpAny _ _ (spliced ((false,eval (.Call (.Name y c) (e::es) [] a) X.env)::backTo pos (starEach [] X.env))) _ _ s;refine Calls.spliced_cons (a4I (nR I d f g (a9e ?_ q k) j b)))
 exact thn (ha a pins s σ H _ I h) λus s1 ⟨vs,v,z,B,C⟩=>thn (m pins s1 σ v vs us Q z B C) λu s2 D=>Calls.spliced_nil D
def cG1{X:Cx}{pins:List (Addr×Obj)}{σ:St}{H:Hp}{s:Shared}{p:Addr}{b:Bool}{xs:List V}(I:Inv X pins σ H s)(c:X.calm=true)(h:iI H p=some (b,xs)) :
  ∃ items:List Value,dI xs items/\Nonempty (Src X.prog X.w X.A s.heap p items.toArray.size λi v=>items.toArray[i]? = some v):=by
 cases b with
 | true=>
   obtain⟨a,r,⟨o,n,d,e,g,f⟩,_⟩:=I.list (gP h);exact⟨a,r,⟨Src.list (I.ok.hd c) ⟨o,d,e,n,f⟩⟩⟩
 | false=>
   obtain⟨a,r,q,_⟩:=I.tuple (eY h);exact⟨a,r,⟨Src.tup (I.ok.hd c) q⟩⟩
def bV9:List V->Hp->VK->Prop:=λvs H Q=>∃ p b zs,vs=[.ref p]/\iI H p=some (b,zs.map V.str)/\zs.length < 4000/\Q (.int (nud [] zs:Nat)) H
def aY4{X:Cx}(y:X.calm=true):∀ pins s σ H vs us Q,Inv X pins σ H s->dI vs us->bV9 vs H Q ->
  wpAny (model X.prog X.w) X.A (call (.type "set") us) (λu s1=>wpAny (model X.prog X.w) X.A (call (.builtin "len") [u]) (EP X pins σ Q) X.xe s1) X.xe s:=by
 intro pins s σ H vs us Q I B h;obtain⟨p,b,zs,rfl,C,N,q⟩:=h;obtain⟨u,rfl,f⟩:=B.one;cases f;obtain⟨c,r,⟨g⟩⟩:=cG1 I y C;have a:zs.length=c.toArray.size:=by simpa using r.length
 refine cF4 g (λA' _ _=>bV8 (knd:=strKind X.prog X.w) (ks:=zs) a (λi v d=>?_) (by unfold scanBound;lia) (a1d (Nat.lt_succ_self _))) (λh' j _=>?_) λh' tk ⟨m,j,_,hm⟩ D=>?_
 ·rw[List.getElem?_toArray]at d;have hi:i < zs.length:=by
   have:=(a2a.mp d).1;rw[a,a2b];exact this
  have l:zs[i]? = some zs[i]:=a1a hi;obtain⟨u,E,f⟩:=r.get (i:=i) (x:=.str zs[i]) (by rw[a5c,l];rfl);rw[E]at d;cases d;obtain⟨t,rfl⟩:=f;generalize zs[i]=z at l;exact⟨z,l,by simp[PySem.strKind,Value.isStrOf],rfl⟩
 ·exact⟨0,⟨_,#[],0,_,j,⟨rfl,rfl,rfl⟩,rfl,λe F=>by simp at F,λk=>by simp,by decide,by rfl,rfl⟩,a9a _,by simp⟩
 ·obtain⟨o,es,O,t,G,hex,hd,_,_,n,J,hn⟩:=j;have P:nud (zs.take c.toArray.size) (zs.drop c.toArray.size)=0:=by rw[← a,List.drop_length];rfl
  have K:es.size=nud [] zs:=by lia
  refine call_len_set G hex hd J (by unfold scanBound at n;lia) ?_;refine⟨.int (nud [] zs:Nat),H,?_,?_,q⟩;have L:Inv X pins σ H {s with heap:=h',toks:=tk}:=Inv.spun0 (ch:=[]) I (λb M=>by simp at M) λb o _ e=>D b o e;exact L.tok _;rw[K];exact⟨_,rfl⟩
end L2
namespace Dv
open PySem L2 Mr
noncomputable def zI:FN:=λb=>match b with
 | [d]=>(cV0 d).bind λx=>(rL x.2).bind λa=>if a.length < 4000 then some (.val (.int (nud [] a:Nat)))else none
 | _=>none
def bJ8:bL7 bV9 zI:=by
 intro H j vs Q res vw e k;unfold zI at e;split at e
 ·obtain⟨⟨b,l⟩,g,e⟩:=aE e;obtain⟨h,c,e⟩:=aE e;dsimp only at c;split at e
  ·rename_i i;cases e;cases vw with
   | cons a t=>
     cases t;obtain⟨p,xs,rfl,d,f⟩:=cO1 a g;rw[qH c]at f;rw[f.strs_inv]at d;exact⟨p,b,h,rfl,d,i,k _ _ (.refl _) (.int _)⟩
  ·cases e
 ·cases e
theorem bE6{a:List Str}{K:Res->Prop}:OK1 (zI [.tup (a.map D.str)]) K=(a.length < 4000/\K (.val (.int (nud [] a:Nat)))):=by
 show OK1 ((rL (a.map D.str)).bind _) K=_;rw[mY];show OK1 (if _ then _ else none) K=_;rw[cF];rfl
theorem dO8{a:List Str}{K:Res->Prop}:OK1 (zI [.lst (a.map D.str)]) K=(a.length < 4000/\K (.val (.int (nud [] a:Nat)))):=by
 show OK1 ((rL (a.map D.str)).bind _) K=_;rw[mY];show OK1 (if _ then _ else none) K=_;rw[cF];rfl
end Dv
namespace L2
open PySem PySem.Spec PyProof.Rows Sx
def eC5(r:V->List V->Hp->VK->Prop)(to:TE)(t:TA):TE:=λσ H Q=>to σ H λx H1=>(∃ p xs,x=.ref p/\H1 p=some (.tup xs))/\t σ H1 λxs a=>r x xs a Q
section
variable{X:Cx}{o e:Expr}{es:List Expr}{to:TE}{t:TA}{name:Str}{apos cpos:Pos}{id:String}{r:V->List V->Hp->VK->Prop}
def dO9(slot:Slot "tuple" name id)(g:typeOf (.builtin id)=pure (.type "method_descriptor"))(hm:MtR X id r)(n:PE X o to)(ha:PA X (e::es) t)
  (c:attributeBase o name X.env (eval o X.env)=eval o X.env:=by rfl)
  (f:((backTo cpos (starEach (e::es) X.env)).all (λx=>!x.1)&&(backToKw cpos (keywordEach [] X.env)).all (λx=>x.1.isSome)&&decide ((e::es).length+([]:List Keyword).length+(if([]:List Keyword).isEmpty then 0 else 1) < 30))=true:=by rfl)
  (d:(apos.endLine==cpos.line)=true:=by rfl) (q:starEach (e::es) X.env=(false,eval e X.env)::starEach es X.env:=by rfl) (b:(backTo cpos (starEach es X.env)).any (·.1)=false:=by rfl) :
  PE X (.Call (.Attribute o name apos) (e::es) [] cpos) (eC5 r to t):=by
 intro pins s σ H Q I h;refine wpAny_Call_method_late c f d rfl (thn (n pins s σ H _ I h) λv s1 Z0=>?_);obtain⟨x,j,k,l,⟨p,xs,ex,u⟩,y⟩:=Z0;subst ex;have z:v=.ref p:=l;subst z;obtain⟨_,A,_,⟨ob,B,C,_⟩,⟨i,D,E⟩⟩:=(show eV X.prog X.w j s1.heap p (.tup xs)from k.hok p _ u);refine⟨"tuple",id,F.plainAttrs_tuple,slot,g,⟨ob,B,C⟩,λa G=>?_,?_⟩;cases G;exact⟨i,D,E⟩;have m:=ha cpos pins s1 σ j _ k y;rw[q]at m ⊢;refine Calls.callWith_builtin (by show(false||(backTo cpos (starEach es X.env)).any (·.1))=false;rw[b]<;>rfl) (Calls.evalArgs_plain ?_);exact thn m λus s2 ⟨vs,J,K,L,M⟩=>hm pins s2 σ J (.ref p) vs _ us Q K l L M
end
end L2
namespace Dv
open PySem L2 Mr Sx
abbrev FT:=List D->D->Option D
def eC6(r:V->List V->Hp->L2.VK->Prop)(f:FT):Prop:=∀ H l xs e p y Q d,H p=some (.tup xs)->Rps H l xs->Vw H e y->f l e=some d->(∀ v,Rp H d v->Q v H)->r (.ref p) [y] H Q
noncomputable def dMT(f:FT)(a b:DE):DE:=λσ=>(a σ).bind λx=>match x.1 with
 | .val (.tup l)=>(b x.2).bind λy=>(rd y.2 y.1).bind λe=>(f l e).bind λd=>some (.val d,y.2)
 | _=>none
def dZ8{X:Cx}{e:Expr}{r:V->List V->Hp->L2.VK->Prop}{f:FT}{n o:DE}(B:eC6 r f)(h:∀ Γ,PE X e (eC5 r (dTE Γ n) (dTA Γ (aC o aP)))):GE X e (dMT f n o):=.mk λΓ=>peW (h Γ) λσV H Q ⟨σ,ok,res,σ',e,k⟩=>by
 have q:=e;clear e;obtain⟨⟨x,a⟩,C,f1⟩:=aE q;clear q;dsimp only at f1;have D:∃ l,x=.val (.tup l):=by
  cases x with
  | val E=>
    cases E with
    | tup l=>exact⟨l,rfl⟩
    | _=>cases f1
  | _=>cases f1
 obtain⟨l,rfl⟩:=D;refine⟨σ,ok,_,a,C,λv1 F b G i _=>?_⟩;obtain⟨⟨y,j⟩,s,f2⟩:=aE f1;obtain⟨I,u,J⟩:=aE f2;obtain⟨d,K,L⟩:=aE J;cases L;dsimp only at s u;have m:Rp F (.tup l) v1:=G;obtain⟨p,xs,rfl,w,M⟩:=gX (.inl m);refine⟨⟨p,xs,rfl,w⟩,a,b,[y],j,?_,λvs z c N g _=>?_⟩;show((_:Option _).bind _)=_;rw[s];rfl;cases N with
 | cons O t _=>
   cases t;have A:=g.ext b;refine B z l xs I p _ Q d (A.tup _ _ w) (M.mono A) (O.vw c u) K λv P=>?_;exact k v z c P (i.trans g) jF
theorem cG2{σ:Sg}{f:FT}{c g:DE}{Q:Res->Sg->Prop}:RE (dMT f c g) σ Q=RE c σ λx a=>OK1 (match x with | .val (.tup l)=>some l | _=>none) λl=>RE g a λy b=>RD b y λe=>OK1 (f l e) λd=>Q (.val d) b:=by
 unfold RE RD dMT;simp only[aU];congr 1;funext x;obtain⟨x,a⟩:=x;cases x with
 | val d=>
   cases d with
   | tup l=>simp only[aU];rfl
   | _=>rfl
 | _=>rfl
end Dv
namespace L2
end L2
namespace PySem.SeqAt
open PySem MeetsSeq MeetsSeq2 MeetsSeq3 SeqRoads2
def rP{M:Model}{A:Around}{E:Value->Shared->Prop}{s:Shared}{a:Type}(lo hi:Nat)(f:Nat->a->Sem (ForInStep a))(I:Nat->a->Shared->Prop)(Q:a->Shared->Prop)
  (turn:∀ i b s,lo<=i->i < hi->I i b s->wpAny M A (f i b) (λr s'=>match r with | .yield c=>I (i+1) c s' | .done c=>Q c s') E s)
  (fin:∀ b s,I (max lo hi) b s->Q b s) (b:a) (h:I lo b s):wpAny M A (forIn [lo:hi] b f) Q E s:=by
 rw[Std.Legacy.Range.forIn_eq_forIn_range'];refine wpAny_forIn_list f (λl b s=>∃ i,lo<=i/\i<=max lo hi/\l=List.range' i (max lo hi-i)/\I i b s) Q ?_ ?_ _ b ⟨lo,a9a _,by lia,?_,h⟩
 ·rintro x mL b s ⟨i,g,n,e,d⟩;cases j:max lo hi-i with
  | zero=>rw[j]at e;simp at e
  | succ m=>
    rw[j,List.range'_succ]at e;obtain⟨rfl,rfl⟩:=List.cons.inj e;refine L2.thn (turn x b s g (by lia) d) λr s' k=>?_;cases r with
    | yield c=>exact⟨x+1,by lia,by lia,by rw[show max lo hi-(x+1)=m by lia],k⟩
    | done c=>exact k
 ·rintro b s ⟨i,g,n,e,d⟩;have:i=max lo hi:=by
   have:=a4F List.length e;simp at this;lia
  subst this;exact fin b s d
 ·show List.range' lo ((hi-lo+1-1) / 1) 1=_;rw[Nat.div_one,show hi-lo+1-1=max lo hi-lo by lia]
def tuple_indexAt(l:Addr)(items:Array Value)(n:Nat)(k:Option Addr)(sl:Array (Option Value))(x:Value)(e:Value->Bool)(j:Nat)(r:j < items.size)(o:∀ m (hm:m < items.size),m < j->e items[m]=false)(ha:e items[j]=true) :
  Meets (Builtin.«tuple.index» ⟨[.ref l,x],[]⟩)
   (λA R s=>s.heap.get? l=some {cls:=.type "tuple",dict:=k,data:=.seq items n,slots:=sl}/\(∀ y,y∈items->EqAt A.in1 s y x (e y))/\R (.ok (.ret (.int j s.toks))) {s with toks:=s.toks+1}):=
 .of_wp λprog w A R s h=>by
  obtain⟨p,g,d,tk,os⟩:=s;obtain⟨f,q,h⟩:=h
  wp_walk using a4M f,rP _ _ _ (λi (b:Option (PySem.Fin)×PUnit) s'=>s'=⟨p,g,d,tk,os⟩/\b=(none,⟨⟩)/\i<=j) _
  case turn=>
   rintro i b s' _ hi ⟨rfl,rfl,c⟩;have a:i < items.size:=by lia
   rw[Array.getElem?_eq_getElem a];refine a4x (q _ (Array.getElem_mem a) prog w _ _ ?_);rcases Nat.lt_or_eq_of_le c with l | rfl
   ·rw[o i a l]
    wp_walk
    exact⟨rfl,rfl,l⟩
   ·rw[ha]
    wp_walk
    exact⟨_,rfl,h⟩
  case fin=>
   rintro b s' ⟨_,_,f⟩;lia
  case h=>exact⟨rfl,rfl,a7c _⟩
end PySem.SeqAt
namespace L2
open PySem PySem.Spec PyProof.Rows Sx
def qW(a b:Value):argsOk "tuple.index" ⟨[a,b],[]⟩:=by
 unfold argsOk;rw[signature?_of (id:="tuple.index") (n:=['x','e','d','n','i']) (o:=['e','l','p','u','t']) (by kernel_rfl) F.owner_tuple];kernel_rfl
def cG3{b:List V}{us:List Value}(h:dI b us){i:Nat}{x:V}(e:b[i]? = some x):∃ u,us[i]? = some u/\gR x u:=by
 induction h generalizing i with
 | nil=>simp at e
 | cons a t c=>
   cases i with
   | zero=>simp at e;subst e;exact⟨_,rfl,a⟩
   | succ i=>exact c (by simpa using e)
def bW0:V->List V->Hp->VK->Prop:=λx vs H Q=>∃ (l:Addr) (a:List Str) (z:Str),x=.ref l/\vs=[.str z]/\H l=some (.tup (a.map V.str))/\z∈a/\Q (.int (a.idxOf z:Nat)) H
def bW1{X:Cx}:MtR X "tuple.index" bW0:=by
 intro pins s σ H x vs v us Q I D G h;obtain⟨l,a,z,rfl,rfl,J,K,q⟩:=h;cases D;obtain⟨u,rfl,L⟩:=G.one;obtain⟨t,rfl⟩:=L;obtain⟨_,b,r,⟨⟨oc,od,M,sl⟩,e,c,n,d⟩,_⟩:=(show eV X.prog X.w H s.heap l (.tup (a.map V.str))from I.hok l _ J);dsimp only at c d;subst c d;have P:a.idxOf z < a.length:=List.idxOf_lt_length_iff.mpr K;have B:b.length=a.length:=by
  have:=r.length;simpa using this.symm
 have j:∀ m (hm:m < b.toArray.size),∃ (f:m < a.length) (g:Tok),b.toArray[m]=.str a[m] g:=λm hm=>by
  have k:m < b.length:=by simpa using hm
  have f:m < a.length:=by lia
  obtain⟨u,C,N⟩:=cG3 (i:=m) r (by rw[a5c,a1a f];rfl);obtain⟨g,rfl⟩:=N;rw[a1a k]at C;exact⟨f,g,by simpa using a0b C⟩
 refine a4Q F.slot_tuple_index ⟨_,e,rfl⟩ F.entry_tuple_index (qW _ _) (SeqAt.tuple_indexAt l b.toArray n od sl (.str z t) (isZ z) (a.idxOf z) (by simp;lia) (λm hm o=>?_) ?_) ⟨e,λy O=>?_,?_⟩;obtain⟨f,g,A⟩:=j m hm;rw[A];show(a[m]==z)=false;have h:=List.not_of_lt_findIdx (p:=(· == z)) (xs:=a) o;simpa using h;obtain⟨f,g,A⟩:=j (a.idxOf z) (by simp;lia);rw[A];show(a[a.idxOf z]==z)=true;simp;obtain⟨R,g,rfl⟩:=bQ9 r y (by simpa using O);exact λprog w E Q h=>eqBool_str h;exact⟨.int _,H,I.tok _,⟨_,rfl⟩,q⟩
end L2
namespace Dv
open PySem L2 Mr Sx
noncomputable def dP0:FT:=λl e=>match e with
 | .str z=>(rL l).bind λa=>if z∈a then some (.int (a.idxOf z:Nat))else none
 | _=>none
def cG4:eC6 bW0 dP0:=by
 intro H l xs e p y Q d b r c a k;unfold dP0 at a;split at a;obtain⟨f,g,a⟩:=aE a;split at a;rename_i h;cases a;rw[lZ c];rw[qH g]at r;rw[r.strs_inv]at b;exact⟨p,f,_,rfl,rfl,b,h,k _ (.int _)⟩;cases a;cases a
theorem aJ0{a:List Str}{z:Str}{K:D->Prop}:OK1 (dP0 (a.map D.str) (.str z)) K=(z∈a/\K (.int (a.idxOf z:Nat))):=by
 show OK1 ((rL (a.map D.str)).bind _) K=_;rw[mY];show OK1 (if _ then _ else none) K=_;rw[cF];rfl
end Dv
namespace Sx
open PySem
def SoS(l:List (List Str)):Prop:=l.Pairwise λx y=>tlS y x=false
theorem cP9:∀ {l m:List (List Str)},l.Perm m->SoS l->SoS m->l=m
 | [],m,p,_,_=>p.nil_eq
 | x::l,[],p,_,_=>absurd p.length_eq (by simp)
 | x::l,y::m,p,d,f=>by
   have b:=List.pairwise_cons.mp d;have c:=List.pairwise_cons.mp f;have e:x=y:=by
    rcases a3b.mp (p.mem_iff.mp (a4a (a:=x) (l:=l)))with e | g;exact e;rcases a3b.mp (p.mem_iff.mpr (a4a (a:=y) (l:=m)))with e | h;exact e.symm;exact(nF.tot (b.1 y h) (c.1 x g)).symm
   subst e;rw[cP9 (List.Perm.cons_inv p) b.2 c.2]
noncomputable def sX(ks:List (List Str)):List (List Str):=Classical.epsilon λl=>l.Perm ks/\SoS l
def dZ9{ks l:List (List Str)}(h:l.Perm ks)(s:SoS l):sX ks=l:=by
 have:=Classical.epsilon_spec (p:=λl:List (List Str)=>l.Perm ks/\SoS l) ⟨l,h,s⟩;exact cP9 (this.1.trans h.symm) this.2 s
def cY6(ks:List (List Str)):(sX ks).Perm ks/\SoS (sX ks):=by
 refine Classical.epsilon_spec (p:=λl:List (List Str)=>l.Perm ks/\SoS l) ⟨ks.mergeSort λx y=>!tlS y x,List.mergeSort_perm ..,?_⟩;have:=List.pairwise_mergeSort (le:=λx y=>!tlS y x) (λa b c e d=>by simp at *;exact nF.nt e d) (λa b=>by
  cases h:tlS b a with
  | false=>simp
  | true=>
    cases d:tlS a b with
    | false=>simp
    | true=>have:=nF.tr h d;rw[nF.ir]at this;cases this) ks
 exact this.imp λ{a b} h=>by simpa using h
def cY7{ks ls:List (List Str)}(h:ls.Perm ks):sX ls=sX ks:=by
 unfold sX;congr 1;funext x;exact propext ⟨λ⟨p,q⟩=>⟨p.trans h,q⟩,λ⟨p,q⟩=>⟨p.trans h.symm,q⟩⟩
end Sx
namespace L2
open PySem PySem.Spec PyProof.Rows Sx
def bW2:List V->Hp->VK->Prop:=λvs H Q=>∃ (p:Addr) (b:Bool) (ps:List Addr) (ks:List (List Str)),vs=[.ref p]/\iI H p=some (b,ps.map V.ref)/\ps.length=ks.length/\(∀ (i:Nat) a k,ps[i]? = some a->ks[i]? = some k->H a=some (.tup (k.map V.str))) /\
 ks.length < 64/\(2<=ks.length->∀ k∈ks,k≠[]) /\
 ∀ r (qs:List Addr),H r=none->qs.length=(sX ks).length->(∀ (i:Nat) a k,qs[i]? = some a->(sX ks)[i]? = some k->H a=some (.tup (k.map V.str)))->Q (.ref r) (upd H r (.lst (qs.map V.ref)))
theorem zJ{P:Program}{w:World}:∀ {k:List Str} {us:List Value},dI (k.map V.str) us->ItemsAre (strKind P w) k us
 | [],_,.nil=>.nil
 | x::k,_,.cons h t=>by
   obtain⟨tk,rfl⟩:=h;exact .cons (by show Value.isStrOf x (.str x tk)=true;simp[Value.isStrOf]) (zJ t)
def cY8{X:Cx}{pins:List (Addr×Obj)}{σ:St}{H:Hp}{s:Shared}{a:Addr}{k:List Str}(I:Inv X pins σ H s)(h:H a=some (.tup (k.map V.str))):dV3 X.prog X.w s.heap k a:=by
 obtain⟨b,r,⟨o,c,d,n,hd⟩,_⟩:=I.tuple (eY (eO h));exact⟨o,b.toArray,n,c,d,hd,by simpa using zJ r⟩
theorem aE0:∀ l:List Addr,dI (l.map V.ref) (l.map Value.ref)
 | []=>.nil
 | a::r=>.cons rfl (aE0 r)
section
variable{X:Cx}
def pS:lE X (.builtin "sorted") bW2:=by
 intro pins s σ H xs us Q I r h;obtain⟨p,b,ps,ks,rfl,hq,M,hk,h64,N,q⟩:=h;obtain⟨u,rfl,ru⟩:=aA4 r;cases ru;obtain⟨d,B,T,o,n,hT,g,C,hd,hsz⟩:∃ (d:List Value),dI (ps.map V.ref) d/\∃ (T:String) (o:Obj) (n:Nat),(T="list"\/T="tuple")/\s.heap.get? p=some o/\o.cls=.type T/\o.data=.seq d.toArray n/\ps.length<=sizeLine:=by
  cases b with
  | true=>
    obtain⟨d,B,y,O⟩:=I.list (gP hq);obtain⟨o,g,C,n,hd⟩:=y.isList;exact⟨d,B,"list",o,n,.inl rfl,g,C,hd,by simpa using O⟩
  | false=>
    obtain⟨d,B,y,O⟩:=I.tuple (eY hq);obtain⟨o,g,C,n,hd⟩:=y;exact⟨d,B,"tuple",o,n,.inr rfl,g,C,hd,by simpa using O⟩
 obtain rfl:=aM7 B;refine Calls.call_function_entry kind_sorted plain_sorted entry_sorted (args_sorted1 _) ?_;unfold Builtin.«sorted»;refine a4x (m:=checkCount "sorted" 1 1 _) (a4A ?_);refine a4x (wpAny_collect_seq p hT g C hd (λh' P=>?_) (by simp only[List.size_toArray,List.length_map];lia));have R:Inv X pins σ H {s with heap:=h'}:=I.kept (t':=s.toks) P;have l:∀ (i:Nat) (hi:i < ps.length),∃ k,ks[i]? = some k/\dV3 X.prog X.w h' k ps[i]/\H ps[i]=some (.tup (k.map V.str)):=λi hi=>by
  have f:i < ks.length:=by lia
  have hH:=hk i ps[i] ks[i] (a1a hi) (a1a f);exact⟨ks[i],a1a f,cY8 R hH,hH⟩
 have alive:∀ a∈ps,a < h'.objs.size:=λa ha=>by
  obtain⟨i,hi,rfl⟩:=a8d ha;obtain⟨k,_,⟨o,_,_,g,_⟩,_⟩:=l i hi;exact a5b g
 have T1:cP8 X.prog X.w h' ks (ps.map Value.ref):=by
  refine⟨by rw[a0a];lia,λi v e=>?_⟩;rw[a5c]at e;obtain⟨a,F,rfl⟩:=a9c.mp e;obtain⟨hi,rfl⟩:=a2a.mp F;obtain⟨k,A,G,_⟩:=l i hi;exact⟨k,ps[i],A,rfl,G⟩
 refine a4x (wpAny_newList ?_ (by simp;lia));have t:(h'.push (seqObj "list" (ps.map Value.ref).toArray.toList.toArray 0)).get? h'.objs.size=some (seqObj "list" (ps.map Value.ref).toArray 0):=by
  simpa using a2c (h:=h') (o:=seqObj "list" (ps.map Value.ref).toArray.toList.toArray 0) rfl
 have up1:∀ b ob,h'.get? b=some ob->(h'.push (seqObj "list" (ps.map Value.ref).toArray.toList.toArray 0)).get? b=some ob:=λb ob e=>a7a _ e;show wpAny _ _ _ _ _ {s with heap:=h'.push (seqObj "list" (ps.map Value.ref).toArray.toList.toArray 0)};have S:Value.ref h'.objs.size∉ps.map Value.ref:=λz=>by
  obtain⟨a,ha,e⟩:=a9b.mp z;injection e with e
  exact absurd (alive a ha) (by rw[e];exact a6e _)
 generalize h'.push (seqObj "list" (ps.map Value.ref).toArray.toList.toArray 0)=J at t up1;have vl:(ps.map Value.ref).length=ks.length:=by rw[a0a];exact M
 refine a4x (a4E (a4P slot_list_sort ⟨_,t,rfl⟩ entry_list_sort (dO7 (s:={s with heap:=J}) t S (T1.stay λb ob _ e=>up1 b ob e) (by lia) (λh=>N (by lia)) λU p c K hu D x=>⟨_,rfl,?_⟩) (args_list_sort _)));have keep:∀ b ob,h'.get? b=some ob->U.get? b=some ob:=λb ob e=>x b ob (λz=>absurd (a5b (z ▸ e)) (a6e _)) (up1 b ob e);rw[vl]at K hu
 -- what is told,in order
 have hps:=K.size;have y:∀ i,i < ks.length->p.toList[i]? = some (at0 p i):=λi hi=>by
  have f:i < p.size:=by lia
  rw[a6g,Array.getElem?_eq_getElem f];simp[at0,Array.getD,f]
 have E:(p.toList.map λi=>ks.getD i []).Perm ks:=by
  have J:=List.Perm.map (λi=>ks.getD i []) K;have U:(List.range ks.length).map (λi=>ks.getD i [])=ks:=by
   refine List.ext_getElem? λi=>?_;rw[a5c];by_cases hi:i < ks.length;rw[List.getElem?_range hi,a1a hi];simp[hi];rw[a4h (by simp;lia),a4h (by lia)];rfl
  rw[U]at J;exact J
 have W:sX ks=p.toList.map λi=>ks.getD i []:=by
  refine dZ9 ?_ (List.pairwise_iff_getElem.mpr λi j hi L ij=>?_);exact E;simp only[List.length_map,Array.length_toList]at hi L;have:=hu i j (by lia) (by lia);have A:=y i (by lia);have G:=y j (by lia);rw[List.getElem_map,List.getElem_map];rw[a1a (by rw[a0h];lia)]at A G;rw[a0b A,a0b G];exact this
 have Y:(sX ks).Perm ks:=by
  rw[W];exact E
 have lt:∀ i∈p.toList,i < ps.length:=λi hi=>by
  have:=a7d.mp (K.mem_iff.mp hi);lia
 have eo:(p.toList.map λi=>(ps.map Value.ref).getD i Value.none)=(p.toList.map λi=>ps.getD i 0).map Value.ref:=by
  rw[List.map_map];refine List.map_congr_left λi hi=>?_;have M:=lt i hi;simp[M]
 rw[eo]at D;have l1:(p.toList.map λi=>ps.getD i 0).length=(sX ks).length:=by rw[W,a0a,a0a]
 have l2:(sX ks).length=ks.length:=Y.length_eq;refine a4A ⟨_,rfl,.ref h'.objs.size,_,R.laid (t':=s.toks) (o:=.lst ((p.toList.map λi=>ps.getD i 0).map V.ref)) keep (a9a _) ⟨by rw[a0a,l1];lia,_,c,aE0 _,D⟩,rfl,q _ _ (R.hok.fresh (a9a _)) l1 λi a k F ek=>?_⟩;rw[a5c]at F;obtain⟨j,ej,rfl⟩:=a9c.mp F;rw[W,a5c,ej]at ek;have L:=lt j (a6b ej);obtain⟨k',A,_,e3⟩:=l j L;have:ks.getD j []=k':=by rw[a3c,A];rfl
 have Z:k=k':=by rw[← this];exact(a0b ek).symm
 subst Z;rw[a3c,a1a L];exact e3
end
end L2
namespace Dv
open PySem L2 Mr Sx
noncomputable abbrev tS(k:List Str):D:=.tup (k.map D.str)
noncomputable def bJ9:List D->Option (List (List Str))
 | []=>some []
 | .tup l::r=>(rL l).bind λk=>(bJ9 r).bind λks=>some (k::ks)
 | _=>none
theorem bE7:∀ {l:List D} {ks:List (List Str)},bJ9 l=some ks->l=ks.map tS
 | [],_,h=>by cases h;rfl
 | .tup l::r,_,h=>by
   obtain⟨k,a,h⟩:=aE h;obtain⟨ks,b,h⟩:=aE h;cases h;rw[qH a,bE7 b];rfl
 | .non::_,_,h=>by cases h
 | .int _::_,_,h=>by cases h
 | .str _::_,_,h=>by cases h
 | .bl _::_,_,h=>by cases h
 | .lst _::_,_,h=>by cases h
 | .dic _ _::_,_,h=>by cases h
def bW3(ks:List (List Str)):bJ9 (ks.map tS)=some ks:=by
 induction ks with
 | nil=>rfl
 | cons k r a=>show(rL (k.map D.str)).bind _=_;rw[mY];show(bJ9 (r.map tS)).bind _=_;rw[a];rfl
theorem cQ0{H:Hp}:∀ {ks:List (List Str)} {vs:List V},Rps H (ks.map tS) vs->∃ ps:List Addr,vs=ps.map V.ref/\ps.length=ks.length/\∀ (i:Nat) a k,ps[i]? = some a->ks[i]? = some k->H a=some (.tup (k.map V.str))
 | [],_,.nil=>⟨[],rfl,rfl,λi a k h=>by simp at h⟩
 | k::ks,_,.cons h t=>by
   obtain⟨ps,rfl,f,q⟩:=cQ0 t;obtain⟨p,xs,e,d,g⟩:=gX (.inl h);rw[g.strs_inv]at d;subst e;refine⟨p::ps,rfl,by simp[f],λi a j b c=>?_⟩;cases i with
   | zero=>simp at b c;subst b c;exact d
   | succ i=>exact q i a j (by simpa using b) (by simpa using c)
theorem bW4{H:Hp}:∀ {ks:List (List Str)} {ps:List Addr},ps.length=ks.length->(∀ (i:Nat) a k,ps[i]? = some a->ks[i]? = some k->H a=some (.tup (k.map V.str)))->Rps H (ks.map tS) (ps.map V.ref)
 | [],[],_,_=>.nil
 | k::ks,p::ps,hl,q=>.cons (.tup (q 0 p k rfl rfl) (bC2 k)) (bW4 (by simpa using hl) λi a b c d=>q (i+1) a b (by simpa using c) (by simpa using d))
open Classical in
noncomputable def aE1:FN:=λa=>match a with
 | [d]=>(cV0 d).bind λx=>(bJ9 x.2).bind λks=>if ks.length < 64/\(2<=ks.length->∀ k∈ks,k≠[])then some (.own (.lst ((sX ks).map tS)))else none
 | _=>none
def rQ:bL7 bW2 aE1:=by
 intro H x vs Q res vw e k;unfold aE1 at e;split at e
 ·obtain⟨⟨b,l⟩,j,e⟩:=aE e;obtain⟨ks,c,e⟩:=aE e;dsimp only at c;split at e
  ·rename_i d;cases e;cases vw with
   | cons a t=>
     cases t;obtain⟨p,xs,rfl,m,f⟩:=cO1 a j;rw[bE7 c]at f;obtain⟨ps,rfl,n,o⟩:=cQ0 f;refine⟨p,b,ps,ks,rfl,m,n,o,d.1,d.2,λr qs g q s=>?_⟩;have h:aT2 H (upd H r (.lst (qs.map V.ref))):=cH g;exact k _ _ h ⟨r,rfl,g,_,aY,bW4 q λi a u v w=>h _ _ (s i a u v w)⟩
  ·cases e
 ·cases e
def bW5{ks:List (List Str)}{K:Res->Prop}:OK1 (aE1 [.lst (ks.map tS)]) K=((ks.length < 64/\(2<=ks.length->∀ k∈ks,k≠[]))/\K (.own (.lst ((sX ks).map tS)))):=by
 show OK1 ((bJ9 (ks.map tS)).bind _) K=_;rw[bW3];show OK1 (if _ then _ else none) K=_;rw[cF];rfl
end Dv
namespace L2
open PySem PySem.Spec PyProof.Rows
section
variable{X:Cx}
def cG5(w:X.calm=true):lE X (.builtin "any") (λxs H Q=>∃ (a:Addr) (bs:List Bool),xs=[.ref a]/\SqL X.K H a (bs.map V.bl)/\Q (.bl (bs.any id)) H):=by
 intro pins s σ H xs us Q I r h;obtain⟨a,bs,rfl,ha,q⟩:=h;obtain⟨u,rfl,y⟩:=aA4 r;cases y;obtain⟨c,l,p,F⟩:=I.list ha;have k:a < s.heap.objs.size:=by obtain⟨_,e,_⟩:=p.isList;exact a5b e
 have B:X.A.in1.handled=none:=I.ok.hd w;have d:=l.length;rw[a0a]at d;refine call_any_walk (wpAny_pyIter_list p.isList ?_);refine⟨s.heap.objs.size,[s.heap.objs.size,a],[s.heap.objs.size],c.toArray.size,_,_,λi=>(bs[i]?).getD true,rfl,Walks.list (A:=X.A.in1) B _ a (a1d k) c.toArray,
  ⟨⟨_,a2c _ rfl,rfl,rfl⟩,p.isList.push _⟩,λi v s' G J C m=>?_,λh' tk D=>?_⟩
 ·have hi:c[i]? = some v:=by simpa using C
  have n:i < c.length:=(a2a.mp hi).1;have g:i < bs.length:=by lia
  obtain⟨u,t,E⟩:=l.get (i:=i) (x:=V.bl bs[i]) (by rw[a5c,a1a g];rfl);rw[hi]at t;cases t;have e:v=Value.bool bs[i]:=E;subst e;simp only[List.getElem?_eq_getElem g,Option.getD_some]at m;exact a4J m
 ·have e:((List.range c.toArray.size).any λi=>(bs[i]?).getD true)=bs.any id:=by
   rw[a2b,← d,a3e,List.any_eq_true,List.any_eq_true];constructor;rintro⟨i,hi,j⟩;have f:=a7d.mp hi;rw[a1a f]at j;exact⟨_,a7b f,j⟩;rintro⟨b,g,j⟩;obtain⟨i,hi,rfl⟩:=a8d g;exact⟨i,a7d.mpr hi,by rw[a1a hi];exact j⟩
  rw[e];exact⟨.bl _,H,I.kept (t':=tk) λb o q=>D b o (λhm=>by
   have z:b=s.heap.objs.size:=by simpa using hm
   rw[z]at q;exact a6e _ (a5b q)) (a7a _ q),rfl,q⟩
end
end L2
namespace Dv
open PySem L2
def dP1(K:W.Frag):List V->Hp->L2.VK->Prop:=λxs H Q=>∃ (a:Addr) (bs:List Bool),xs=[.ref a]/\SqL K H a (bs.map V.bl)/\Q (.bl (bs.any id)) H
noncomputable def dP2:FN:=λa=>match a with
 | [.lst l]=>(aN6 l).map λbs=>.val (.bl (bs.any id))
 | _=>none
def bW6{K:W.Frag}:bL7 (dP1 K) dP2:=by
 intro H f vs Q res vw e k;unfold dP2 at e;split at e;obtain⟨bs,c,d⟩:=a9c.mp e;cases d;obtain⟨x,rfl,v⟩:=aV9 vw;obtain⟨p,xs,rfl,a,b⟩:=iZ v;rw[aH6 c]at b;rw[b.bls_inv]at a;exact⟨p,bs,rfl,gP a,k _ H (.refl _) (.bl _)⟩;cases e
def aP9{X:Cx}(K:W.Frag)(a:X.K=K)(b:X.calm=true):lE X (.builtin "any") (dP1 K):=by rw[← a];exact cG5 b
theorem bE8{bs:List Bool}{K:Res->Prop}:OK1 (dP2 [.lst (bs.map D.bl)]) K=K (.val (.bl (bs.any id))):=by
 show OK1 ((aN6 (bs.map D.bl)).map λbs=>Res.val (.bl (bs.any id))) K=_;rw[aN7];rfl
open Mr
def dP3(C:MC):Prop:=∀ as (K a:Res->List Sl->Prop),(∀ r l,K r l->a r l)->C as K->C as a
structure GM1(E:Ex)(X:Cx)(st:Stmt)(m:MS):Prop where
 to:∀ Γ,PS X st (mTS Γ E m)
 mon:bD0 m
section
variable{X:Cx}{E:Ex}{st:Stmt}{ss mL:List Stmt}{r:DS}{a b m:MS}{pos:Pos}
def aE2:bD0 (RS r):=λ_ _ _ w q=>dF q w
def cQ1{Γ:Gm}{D:Ends}{σV:St}{H:Hp}(h:mTS Γ E (RS r) D σV H):dTS Γ E r D σV H:=by
 obtain⟨σ,ok,q⟩:=h;obtain⟨o,e,q⟩:=jK.mp q;exact⟨σ,ok,o,e,q⟩
def bW7(h:GSs E X ss r):GM E X ss (RS r):=⟨λΓ=>dK8 (h.to Γ) λ_ _ _=>cQ1,aE2⟩
def cY9(h:GS E X st r):GM1 E X st (RS r):=⟨λΓ=>psW (h.to Γ) λ_ _ _=>cQ1,aE2⟩
def dP4(h:GM1 E X st m):GM E X [st] m:=⟨λΓ=>mP (h.to Γ),h.mon⟩
def sqM(b:MS)(Q:Out->Prop)(o:Out):Prop:=match o with
 | .nx a=>b a Q
 | o=>Q o
def cB1(a b:MS):MS:=λσ Q=>a σ (sqM b Q)
def aJ1(e:bD0 a)(g:bD0 b):bD0 (cB1 a b):=λσ Q h w q=>e σ _ _ (λo q=>by
 cases o with
 | nx d=>exact g d _ _ w q
 | rt r σ'=>exact w _ q
 | bk σ'=>exact w _ q
 | ct σ'=>exact w _ q
 | ex c f σ'=>exact w _ q) q
def aY5(e:GM1 E X st a)(g:GM E X mL b):GM E X (st::mL) (cB1 a b) where
 to:=λΓ=>dK8 (jB (e.to Γ) (g.to Γ)) λD σV H ⟨σ,ok,q⟩=>⟨σ,ok,e.mon σ _ _ (λo q=>by
  cases o with
  | nx d=>exact λj k h i=>⟨d,h,g.mon d _ _ (λo q=>q.after i) q⟩
  | rt r σ'=>exact q
  | bk σ'=>exact q
  | ct σ'=>exact q
  | ex c f σ'=>exact q) q⟩
 mon:=aJ1 e.mon g.mon
def mIf(t:DT)(a b:MS):MS:=λσ Q=>RT t σ λx c=>if x=true then a c Q else b c Q
def eA0{c:Expr}{l k:List Stmt}{t:DT}(i:GT X c t)(ha:GM E X l a)(h:GM E X k b):GM1 E X (.If c l k pos) (mIf t a b) where
 to:=λΓ=>psW (bG6 (i.to Γ) (ha.to Γ) (h.to Γ)) λD σV H ⟨σ,ok,q⟩=>by
  obtain⟨⟨x,d⟩,j,q⟩:=jK.mp q;refine⟨σ,ok,x,d,j,λm f g=>?_⟩;dsimp only at q;split at q;rename_i e;rw[a4y e];exact⟨d,f,ha.mon _ _ _ (λo q=>q.after g) q⟩;rename_i e;rw[a4z e];exact⟨d,f,h.mon _ _ _ (λo q=>q.after g) q⟩
 mon:=λσ Q n w q=>dF q λx q=>by
  dsimp only at q ⊢;split at q;rename_i e;rw[a4y e];exact ha.mon _ _ _ w q;rename_i e;rw[a4z e];exact h.mon _ _ _ w q
def aQ0(i n:Nat)(C:MC)(b:DA):MS:=λσ Q=>OK1 (b σ) λx=>OK1 (uC x.2 x.1) λas=>(as.length=n/\fB x.1=true)/\C as λy as'=>OK1 (dU8 i y (lP x.1 as' 0 x.2)) λa=>Q (.nx a)
def cG6{Γ:Gm}{i:Nat}{x:Res}{σ a c:Sg}{σV:St}{H H1:Hp}{v:V}(f:StOk Γ H1 a σV)(l:mS Γ H1 a σV x v)(g:Step σ σV H a σV H1)(m:Frh H x v)(k:dU8 i x a=some c) :
  StOk Γ H1 c (σV.set i (some v))/\Step σ σV H c (σV.set i (some v)) H1:=by
 cases x with
 | val d=>
   have b:(if iE a i=true then some (a.set i (some ⟨.val,d⟩))else none)=some c:=k;split at b;rename_i h;cases b;exact⟨f.put h l,g.put h .val (.inl rfl)⟩;cases b
 | own d=>
   have b:(if iE a i=true then some (a.set i (some ⟨.own,d⟩))else none)=some c:=k;split at b;rename_i h;cases b;obtain⟨p,rfl,n,o,q⟩:=l;exact⟨f.putOwn h n o q,g.put h .own (.inr ⟨rfl,λp e=>m _ p rfl e⟩)⟩;cases b
 | slot j=>cases k
def aJ2{i n:Nat}{C:MC}{a:DA}(b:dP3 C):bD0 (aQ0 i n C a):=λσ Q d w q=>dF q λx q=>dF q λas q=>⟨q.1,b _ _ _ (λy as' q=>dF q λc q=>w _ q) q.2⟩
def bW8{i n:Nat}{C:MC}{e:DA}{f:XK}(g:dP3 C)(h:∀ Γ,PS X st (cR6 (bH3 (bS6 n C) [] f (dTA Γ e)) (aF4 i))):GM1 E X st (aQ0 i n C e) where
 to:=λΓ=>psW (h Γ) λD σV H ⟨σ,ok,q⟩=>by
  obtain⟨⟨rs,a⟩,j,q⟩:=jK.mp q;obtain⟨as,k,⟨l,hn⟩,q⟩:=jK.mp q;refine⟨σ,ok,rs,a,j,λvs m b o d p=>?_⟩;show bS6 n C (vs++[]) m _ f;rw[a0g];obtain⟨r,c⟩:=aN5 k hn b o d p;refine⟨as,r,l,g _ _ _ (λy as' q v s po t=>?_) q⟩;obtain⟨u,w,x,z⟩:=c y as' v s po t;obtain⟨A,B,q⟩:=jK.mp q;obtain⟨F,G⟩:=cG6 u w x z B;exact q _ _ F G
 mon:=aJ2 g
end
def aY6{len:Nat}{m:MS}(hm:bD0 m):dP3 (dD0 len m):=λas K b w q=>hm _ _ _ (λo q=>by
 cases o with
 | nx σ=>exact w _ _ q
 | rt r σ=>obtain⟨a,e,q⟩:=q;exact⟨a,e,w _ _ q⟩
 | bk σ=>exact q
 | ct σ=>exact q
 | ex c f σ=>exact q) q
def bK0{C:MC}{K:W.Frag}{H:Hp}{a:Addr}{ns:List Int}(b:dP3 C)(c:bT5 K=true)(d:dI4 H)(f:SqL K H a (ns.map V.int))(h:C [⟨.val,.lst (ns.map D.int)⟩] λy _=>y=.val (.bl true)) :
  bS6 1 C [.ref a] H (λv _=>v=.bl true) (λ_ _ _=>False):=
 ⟨_,cW3 c d f,rfl,b _ _ _ (λy as' e v H' po g=>by subst e;cases g;rfl) h⟩
noncomputable def eA1(k:Nat)(c f g:DE):DS:=λσ=>(g σ).bind λx=>match x.1 with
 | .val (.tup [d,e])=>(bI5 k c (dC d) x.2).bind λo=>match o with
   | .nx a=>(bI5 k f (dC e) a).bind λo=>match o with
     | .nx b=>some (.nx b)
     | _=>none
   | _=>none
 | _=>none
theorem cZ0{k:Nat}{f g c:DE}{σ:Sg}{Q:Out->Prop}:RS (eA1 k f g c) σ Q=RE c σ λx b=>OK1 (match x with | .val (.tup [d,e])=>some (d,e) | _=>none) λh=>
  RS (bI5 k f (dC h.1)) b λo=>OK1 (match o with | .nx a=>some a | _=>none) λa=>RS (bI5 k g (dC h.2)) a λo=>OK1 (match o with | .nx a=>some a | _=>none) λa=>Q (.nx a):=by
 unfold RS RE;show OK1 ((c σ).bind _) Q=_;rw[aU];congr 1;funext x;obtain⟨x,b⟩:=x;dsimp only;split
 ·show OK1 ((bI5 _ _ _ _).bind _) Q=OK1 (bI5 _ _ _ _) _;rw[aU];congr 1;funext o;cases o with
  | nx a=>
    show OK1 ((bI5 _ _ _ _).bind _) Q=OK1 (bI5 _ _ _ _) _;rw[aU];congr 1;funext o;cases o<;>rfl
  | _=>rfl
 ·rfl
end Dv
namespace L2
open PySem Dv
inductive FQ(Q:Hp->Prop):Hp->Prop
 | done {H:Hp}:Q H->FQ Q H
 | step {H:Hp} {p:Addr} {u:HO}:H p=some u->Fz u->(∀ o,FQ Q (upd H p (.frz o u)))->FQ Q H
def cZ1{P:Program}{w:World}{H₀ H:Hp}{fs ex:List Addr}{h₀ h:Heap}{p:Addr}{u:HO}(un:Un fs ex H₀ H h₀ h)(ok:HOk P w H h)(e:H p=some u)(c:Fz u):∃ o,Un fs ex H₀ (upd H p (.frz o u)) h₀ h/\HOk P w (upd H p (.frz o u)) h:=by
 have nt:∀ b xs,H b=some (.tup xs)->b≠p:=λb xs q z=>by subst z;rw[e]at q;cases q;exact c
 have f:∀ b o x,H b=some (.frz o x)->b≠p:=λb o x q z=>by subst z;rw[e]at q;cases q;exact c
 have no:∀ b x,H b=some (.own x)->b≠p:=λb x q z=>by subst z;rw[e]at q;cases q;exact c
 have g:∀ b x,H b=some (.tbl x)->b≠p:=λb x q z=>by subst z;rw[e]at q;cases q;exact c
 have i:∀ b,H b=none->b≠p:=λb q z=>by subst z;rw[e]at q;cases q
 obtain⟨o,j⟩:∃ o,h.get? p=some o:=by
  have:=ok p u e;cases u with
  | lst xs=>obtain⟨_,_,_,_,q⟩:=this;exact⟨_,q⟩
  | dK kvs=>obtain⟨_,_,_,_,ob,_,_,q,_⟩:=this;exact⟨_,q⟩
  | dT kvs=>obtain⟨_,_,_,_,ob,_,_,q,_⟩:=this;exact⟨_,q⟩
  | _=>exact c.elim
 have st:∀ a x,eV P w H h a x->eV P w (upd H p (.frz o u)) h a x:=λa x k=>
  k.stay (λ_ _ _ q=>q) (λb q=>by rw[aS (no b _ q)];exact q) λb xs q=>by rw[aS (nt b _ q)];exact q
 refine⟨o,⟨un.keep,un.slot,λb ob q n l=>?_,un.there,λb xs q=>?_,λb ob x q=>?_,λb ps q=>?_⟩,λa x q=>?_⟩;have:=un.free b ob q n l;rw[aS (i b this)];exact this;have:=un.tups b xs q;rw[aS (nt b _ this)];exact this;have:=un.frzs b ob x q;rw[aS (f b _ _ this)];exact this;obtain⟨m,d⟩:=un.tbls b ps q;exact⟨m,by rw[aS (g b _ d)];exact d⟩;by_cases ha:a=p;subst ha;rw[aY]at q;cases q;exact⟨j,st a u (ok a u e)⟩;rw[aS ha]at q;exact st a x (ok a x q)
def spF(sp:Sp):Sp:=λvs H Q E=>sp vs H (λv H'=>FQ (Q v) H') E
def FnOk.fz{P:Program}{w:World}{K:W.Frag}{mg:Str->Option Value}{base:Heap}{CX:CXT}{k:Nat}{f:Addr}{fd:FuncData}{ps:List Str}{sp:Sp}(F:FnOk P w K mg base CX k f fd ps sp):FnOk P w K mg base CX k f fd ps (spF sp):=
 ⟨λvs H Q E q=>F.len vs H _ E q,λA outer s H args us vs Q E g h i j l=>a4T (F.run A outer s H args us vs _ E g h i j l) λr s' q=>by
  cases r with
  | error e=>exact q
  | ok x=>
    cases x with
    | ret u=>
      obtain⟨v,H',m,n,c,d,p,t⟩:=(show CE outer P w H s _ u s' from q);show CE outer P w H s Q u s';clear q
      induction t with
      | done q=>exact⟨v,_,m,n,c,d,p,q⟩
      | step e y _ z=>
        obtain⟨o,a,b⟩:=cZ1 c d e y;exact z o a b
    | _=>exact q⟩
end L2
namespace Dv
open PySem L2 Mr
noncomputable abbrev qP(q:Str×List Str):D:=.tup [.str q.1,.tup (q.2.map D.str)]
noncomputable abbrev qD(qs:List (Str×List Str)):D:=.tup (qs.map qP)
def cZ2{H:Hp}{p:Addr}{i j m:Int}(b:H p=some (.lst [.int i,.int j])):ArgOk H [⟨.par,.lst [.int i,.int j]⟩,⟨.val,.int m⟩] [.ref p,.int m]:=by
 refine⟨rfl,λn s e=>?_,λn l s t q hn a c d g h f=>?_,λn s e=>?_⟩
 ·match n,e with
  | 0,e=>cases e;exact⟨_,rfl,p,rfl,_,b,lL [i,j]⟩
  | 1,e=>cases e;exact⟨_,rfl,.int m⟩
 ·match n,a,l,c with
  | 0,_,0,_=>exact hn rfl
  | 0,_,1,_=>cases f
  | 1,a,_,_=>cases a;cases d
 ·match n,e with
  | 0,e=>cases e;exact λz=>nomatch z
  | 1,e=>cases e;exact λz=>nomatch z
def cZ3{p c:Addr}{i j m:Int}(h:cV7 [⟨.par,.lst [.int i,.int j]⟩,⟨.val,.int m⟩] [.ref p,.int m] c):c=p:=by
 obtain⟨n,s,e,mt,a⟩:=h
 match n,e with
 | 0,_=>cases a;rfl
 | 1,_=>cases a
def cG7{H H':Hp}{p:Addr}{i j a b m:Int}(po:PostOk [⟨.par,.lst [.int i,.int j]⟩,⟨.val,.int m⟩] [.ref p,.int m] H [⟨.par,.lst [.int a,.int b]⟩,⟨.val,.int m⟩] H'):iK H' p/\SameBut p H H':=by
 refine⟨?_,λc o n e=>po.fr c o e λz=>n (cZ3 z)⟩;obtain⟨s',v,f,_,g,h⟩:=po.rel 0 _ rfl rfl;cases f;cases g;obtain⟨q,k,xs,d,l⟩:=(eP (s:=⟨.par,.lst [.int a,.int b]⟩) (λz=>nomatch z)).mp h;cases k;rw[Rps.ints_inv (ns:=[a,b]) l]at d;exact⟨a,b,d⟩
def dP5{t:DT}{a b:MS}(ha:bD0 a)(d:bD0 b):bD0 (mIf t a b):=λσ Q e w q=>dF q λx q=>by
 dsimp only at q ⊢;split at q;rename_i c;rw[a4y c];exact ha _ _ _ w q;rename_i c;rw[a4z c];exact d _ _ _ w q
def dV4(ls:List (List Int)):Prop:=1<=ls.length/\ls.length<=6/\∀ l∈ls,l.length<=6/\(∀ n∈l,0<=n/\n < 6)/\l.Nodup/\l≠[]
noncomputable abbrev aQ1(ls:List (List Int)):D:=.lst (ls.map λl=>.lst (l.map D.int))
def cRS:MC:=λas K=>∃ a b:Int,as=[⟨.par,.lst [.int a,.int b]⟩]/\∀ ls c d,dV4 ls->K (.own (aQ1 ls)) [⟨.par,.lst [.int c,.int d]⟩]
def bW9:dP3 cRS:=λas K f w ⟨a,b,e,q⟩=>⟨a,b,e,λls c d h=>w _ _ (q ls c d h)⟩
end Dv
namespace Mr
open PySem L2 Dv
noncomputable def jM:DS:=(bL (mB (dX (aX gtI (aX ixD (aH 0) (dC (.int 0))) (dC (.int 0)))) (bL (cG 2 (aX bL8 (aX ixD (aH 0) (dC (.int 0))) (aH 1)))
 (bL (bI5 0 (dC (.int 0)) (aX dV1 (aX ixD (aH 0) (dC (.int 0))) (aH 1)))
 (gQ (aH 2)))) fM)
 (bL (cG 3 (aX bL8 (aX aV8 (aX ixD (aH 0) (dC (.int 1))) (dC (.int 69623))) (dC (.int 2147483647))))
 (bL (bI5 0 (dC (.int 1)) (aX iC (aX bL8 (aX iC (aX aV8 (aH 3) (dC (.int 48271))) (dC (.int 30103))) (dC (.int 2147483629))) (dC (.int 1))))
 (gQ (aX bL8 (aX dV1 (aX iC (aX aV8 (aH 3) (dC (.int 2147483647))) (aX ixD (aH 0) (dC (.int 1)))) (dC (.int 8191))) (aH 1))))))
noncomputable def aI:Dv.Run:=mM 4 jM
noncomputable def fC:DS:=(bL (cG 2 (dCB aH7 (aC (aH 1) aP)))
 (bL (cG 3 (kI aP))
 (bL (uA (dX (aX gtI (dCB mD (aC (aH 2) aP)) (dC (.int 0))))
 (iM (lM "list" 3 aN8 (aC (dFz (lM "list" 2 aN9 (aC (dFz (aV 2 aI (aC (aH 0) (aC (dCB mD (aC (aH 2) aP)) aP)))) aP))) aP))))
 (gQ (aH 3)))))
noncomputable def aT:Dv.Run:=mM 4 fC
noncomputable def jN:DS:=(gQ (dSl (aV 2 aT (aC (aH 0) (aC (aH 1) aP))) sZ (dP (aX iC (dC (.int 1)) (aV 2 aI (aC (aH 0) (aC (dCB bT0 (aC (dC (.int 4)) (aC (dCB mD (aC (aH 1) aP)) aP))) aP)))))))
noncomputable def bR:Dv.Run:=mM 2 jN
noncomputable def eG:DS:=(bL (cG 1 (aX iC (dC (.int 1)) (aV 2 aI (aC (aH 0) (aC (dC (.int 6)) aP)))))
 (bL (cG 2 (aX iC (dC (.int 1)) (aV 2 aI (aC (aH 0) (aC (dC (.int 6)) aP)))))
 (bL (mB (dX (aX (eqD false) (aV 2 aI (aC (aH 0) (aC (dC (.int 3)) aP))) (dC (.int 0)))) (gQ (cE [5] (aA5 (aC (aH 2) aP)) (dgN 5) iB (dFz (aV 2 bR (aC (aH 0) (aC (dCB aX8 (aC (aH 1) aP)) aP)))))) fM)
 (bL (cG 3 (kI (aC (dFz (aV 2 bR (aC (aH 0) (aC (dCB aX8 (aC (aH 1) aP)) aP)))) aP)))
 (bL (cG 4 (dCB aH7 (aC (aX ixD (aH 3) (dC (.int 0))) aP)))
 (bL (pU (aA5 (aC (aX dL9 (aH 2) (dC (.int 1))) aP)) (dgN 5)
 (bL (cG 6 (aV 2 bR (aC (aH 0) (aC (aX ixD (aH 3) (aV 2 aI (aC (aH 0) (aC (dCB mD (aC (aH 3) aP)) aP)))) aP))))
 (bL (cG 7 (cE [8] (aA5 (aC (aH 1) aP)) (dgN 8) (dX (aX (inD true) (aH 8) (aH 4))) (dFz (aH 8))))
 (bL (cG 6 (aX iC (dSl (aH 6) sZ (dP (aV 2 aI (aC (aH 0) (aC (aX iC (dCB mD (aC (aH 6) aP)) (dC (.int 1))) aP))))) (dSl (aH 7) sZ (dP (aV 2 aI (aC (aH 0) (aC (dC (.int 3)) aP)))))))
 (bL (mB (dX (aX (eqD false) (aH 6) (kI aP))) (cG 6 (dSl (aH 4) sZ (dP (dC (.int 1))))) fM)
 (bL (iM (lM "list" 3 aN8 (aC (dFz (dSl (aH 6) sZ (dP (dC (.int 4))))) aP)))
 (iM (rD "list" 4 bI4 (aC (cE [8] (dIt (aX ixD (aH 3) (bC3 cO4 (dC (.int 1))))) (dgN 8) (dX (aX (inD true) (aH 8) (aH 4))) (dFz (aH 8))) aP)))))))))
 (gQ (aH 3))))))))
noncomputable def cO:Dv.Run:=mM 9 eG
noncomputable def iR:DS:=(bL (cG 2 (dC (.str "abcdefghijklmnopqrstuvwxyz")))
 (bL (mB (dX (aX (eqD false) (aV 2 aI (aC (aH 0) (aC (dC (.int 5)) aP))) (dC (.int 0)))) (bL (dU9 3 4 (aC (aX ixD (aH 2) (aV 2 aI (aC (aH 0) (aC (dC (.int 13)) aP)))) (aC (aX ixD (aH 2) (aX iC (dC (.int 13)) (aV 2 aI (aC (aH 0) (aC (dC (.int 13)) aP))))) aP)))
 (gQ (dSl (kI (aC (dFz (aH 3)) (aC (dFz (aX iC (aH 3) (aH 4))) (aC (dFz (aH 4)) (aC (dFz (aX iC (aH 4) (aH 3))) (aC (dFz (aX iC (aH 3) (aH 3))) (aC (dFz (aX iC (aX iC (aH 3) (aH 4)) (aH 3))) (aC (dFz (aX iC (aH 4) (aH 4))) (aC (dFz (aX iC (aX iC (aH 3) (aH 3)) (aH 4))) aP))))))))) sZ (dP (aH 1))))) fM)
 (bL (cG 5 (bC3 (bT9 "") (cE [10] (aA5 (aC (aV 2 aI (aC (aH 0) (aC (dC (.int 5)) aP))) aP)) (dgN 10) iB (aX ixD (aH 2) (aV 2 aI (aC (aH 0) (aC (dC (.int 26)) aP)))))))
 (bL (cG 6 (aV 2 aI (aC (aH 0) (aC (aX iC (dCB mD (aC (aH 5) aP)) (dC (.int 1))) aP))))
 (bL (cG 7 (aV 2 aI (aC (aH 0) (aC (dC (.int 26)) aP))))
 (bL (cG 8 (aV 2 aI (aC (aH 0) (aC (dC (.int 3)) aP))))
 (bL (cG 9 (kI aP))
 (bL (pU (aA5 (aC (aH 1) aP)) (dgN 10)
 (bL (cG 11 (aX iC (aX iC (dSl (aH 5) sZ (dP (aH 6))) (aX ixD (aH 2) (aX bL8 (aX iC (aH 7) (aX aV8 (dC (.int 5)) (aH 10))) (dC (.int 26))))) (dSl (aH 5) (dP (aH 6)) sZ)))
 (iM (lM "list" 9 aN8 (aC (dFz (aX iC (aH 11) (aX aV8 (dC (.str "z")) (dCB dD2 (aC (aV0 (aX (eqD false) (aH 8) (dC (.int 1))) (aX (eqD false) (aX bL8 (aH 10) (dC (.int 2))) (dC (.int 1)))) aP))))) aP)))))
 (gQ (aH 9))))))))))
noncomputable def dQ:Dv.Run:=mM 12 iR
def eI:MS:=(cB1 (RS (cG 1 (aV 2 aI (aC (aH 0) (aC (dC (.int 2)) aP)))))
 (cB1 (mIf (dX (aX (eqD false) (aH 1) (dC (.int 0)))) (aQ0 2 1 cRS (aC (aH 0) aP)) (RS (cG 2 (aV 1 cO (aC (aH 0) aP)))))
 (RS (bL (cG 3 (aV 2 aT (aC (aH 0) (aC (aV 2 dQ (aC (aH 0) (aC (dC (.int 6)) aP))) aP))))
 (bL (cG 4 (dFz (aH 3)))
 (bL (mB (dX (aX gtI (aV 2 aI (aC (aH 0) (aC (dC (.int 4)) aP))) (dC (.int 0)))) (cG 4 (aV 2 dQ (aC (aH 0) (aC (dC (.int 6)) aP)))) fM)
 (bL (cG 5 (kI aP))
 (bL (pU (bU2 (aV 2 aT (aC (aH 0) (aC (aH 2) aP)))) (iF 2 (bJ (dgN 6) (bJ (dgN 7) iA)))
 (iM (lM "list" 5 aN8 (aC (qY (aC (aX ixD (aH 4) (aH 6)) (aC (dCB aA6 (aC (cE [8] (dIt (aV 2 aT (aC (aH 0) (aC (aH 7) aP)))) (dgN 8) iB (aX ixD (aH 3) (aH 8))) aP)) aP))) aP))))
 (gQ (dCB aA6 (aC (aH 5) aP)))))))))))
def dM:MC:=dD0 9 eI
def gG:bD0 eI:=(aJ1 aE2 (aJ1 (dP5 (aJ2 bW9) aE2) aE2))
noncomputable def kS:DS:=(bL (cG 2 (aX iC (aX aV8 (dC (.int 7919)) (aH 1)) (dC (.int 11))))
 (bL (mB (dX (aX ltI (aH 1) (dCB mD (aC (aH 0) aP)))) (cG 2 (aX ixD (aH 0) (aH 1))) (mB (dX (aX gtI (dCB mD (aC (aH 0) aP)) (dC (.int 0)))) (cG 2 (aX iC (aH 2) (aX aV8 (aX bL8 (aX ixD (aH 0) (aX bL8 (aH 1) (dCB mD (aC (aH 0) aP)))) (dC (.int 2147483629))) (dC (.int 69623))))) fM))
 (bL (cG 3 (aX iC (aX bL8 (aX iC (aX aV8 (aX bL8 (aH 2) (dC (.int 2147483629))) (dC (.int 48271))) (aX aV8 (dC (.int 40692)) (aH 1))) (dC (.int 2147483629))) (dC (.int 1))))
 (gQ (kI (aC (dFz (aX aV8 (aH 2) (dCB dD2 (aC (aX geI (aH 2) (aX dY7 (dC (.int 10)) (dC (.int 18)))) aP)))) (aC (dFz (aH 3)) aP)))))))
noncomputable def cS:Dv.Run:=mM 4 kS
noncomputable def kU:DS:=(gQ (dCB aA6 (aC (cE [2] (dIt (aH 0)) (dgN 2) (dX (aX (eqD true) (aX ixD (aH 2) (dC (.int 0))) (aH 1))) (dFz (aH 2))) aP)))
noncomputable def eQ:Dv.Run:=mM 3 kU
noncomputable def hR:DS:=(bL (cG 1 (kI aP))
 (bL (pU (dIt (aH 0)) (iF 2 (bJ (dgN 2) (bJ (dgN 3) iA)))
 (iM (rD "list" 1 bI4 (aC (cE [4] (dIt (aH 3)) (dgN 4) (dX (aX (inD true) (aH 4) (aH 1))) (dFz (aH 4))) aP))))
 (gQ (dCB aA6 (aC (aH 1) aP)))))
noncomputable def dD:Dv.Run:=mM 5 hR
noncomputable def kW:DS:=(gQ (dCB dD1 (aC (cE [2] (dIt (aH 1)) (dgN 2) iB (aX (inD false) (aH 2) (aH 0))) aP)))
noncomputable def jO:Dv.Run:=mM 3 kW
noncomputable def hU:DS:=(bL (cG 3 (aV 2 eQ (aC (aH 0) (aC (aH 1) aP))))
 (bL (mB (dX (aX (eqD false) (dCB mD (aC (aH 3) aP)) (dC (.int 0)))) (gQ (kI (aC (dC .non) aP))) fM)
 (bL (cG 4 (cE [5] (dIt (aH 2)) (dgN 5) (dX (aX (inD false) (aH 5) (aV 1 dD (aC (aH 3) aP)))) (dFz (aH 5))))
 (gQ (cE [6,7] (dIt (aH 3)) (iF 2 (bJ (dgN 6) (bJ (dgN 7) iA))) (dX (aV 2 jO (aC (aH 7) (aC (aH 4) aP)))) (dFz (aH 6)))))))
noncomputable def fW:Dv.Run:=mM 8 hU
noncomputable def kX:DS:=(bL (cG 1 (kI aP))
 (bL (pU (dIt (aH 0)) (iF 2 (bJ (dgN 2) (bJ (dgN 3) iA)))
 (iM (rD "list" 1 bI4 (aC (cE [4] (dIt (aV 3 fW (aC (aH 0) (aC (aH 2) (aC (aH 3) aP))))) (dgN 4) iB (qY (aC (dFz (aH 2)) (aC (dFz (aH 4)) aP)))) aP))))
 (gQ (aH 1))))
noncomputable def fD:Dv.Run:=mM 5 kX
noncomputable def iS:DS:=(bL (cG 1 (dFz (aH 0)))
 (bL (cG 2 (kI aP))
 (bL (cG 3 (aV 1 fD (aC (aH 1) aP)))
 (bL (uA (dU6 (aH 3))
 (bL (iM (lM "list" 2 aN8 (aC (aX ixD (aH 3) (dC (.int 0))) aP)))
 (bL (cG 1 (aV 2 eQ (aC (aH 1) (aC (aX ixD (aX ixD (aH 3) (dC (.int 0))) (dC (.int 0))) aP))))
 (cG 3 (aV 1 fD (aC (aH 1) aP))))))
 (gQ (aH 2))))))
noncomputable def hV:Dv.Run:=mM 4 iS
noncomputable def iT:DS:=(bL (cG 1 (kI (aC (qY aP) aP)))
 (bL (pU (dIt (aH 0)) (dgN 2)
 (cG 1 (aX iC (aH 1) (cE [3] (dIt (aH 1)) (dgN 3) iB (dFz (aX iC (aH 3) (qY (aC (dFz (aH 2)) aP))))))))
 (gQ (aH 1))))
noncomputable def hX:Dv.Run:=mM 4 iT
noncomputable def eJ:DS:=(gQ (dCB dP2 (aC (cE [3,4] (dIt (aH 0)) (iF 2 (bJ (dgN 3) (bJ (dgN 4) iA))) iB (aV0 (aX (inD false) (aH 1) (aH 4)) (aX (inD false) (aH 2) (aH 4)))) aP)))
noncomputable def dS:Dv.Run:=mM 5 eJ
noncomputable def nG:DS:=(bL (cG 2 (dSl (aH 1) sZ (dP (dC (.int 1)))))
 (bL (pU (dIt (dSl (aH 1) (dP (dC (.int 1))) sZ)) (dgN 3)
 (bL (cG 4 (cE [5] (dIt (aH 1)) (dgN 5) (dC7 (dX (aX (inD true) (aH 5) (aH 2))) (dX (aV 3 dS (aC (aH 0) (aC (aX ixD (aH 2) (bC3 cO4 (dC (.int 1)))) (aC (aH 5) aP)))))) (dFz (aH 5))))
 (cG 2 (aX iC (aH 2) (dCB aA6 (aC (dSl (aH 4) sZ (dP (dC (.int 1)))) aP))))))
 (gQ (aH 2))))
noncomputable def kY:Dv.Run:=mM 6 nG
noncomputable def kZ:DS:=(bL (cG 2 (kI aP))
 (bL (pU (dIt (aH 0)) (iF 2 (bJ (dgN 3) (bJ (dgN 4) iA)))
 (bL (cG 5 (dCB aA6 (aC (cE [6] (dIt (aH 1)) (dgN 6) (dX (aX (inD false) (aH 6) (aH 4))) (dFz (aH 6))) aP)))
 (mB (dX (aX (inD true) (aH 5) (aH 2))) (iM (lM "list" 2 aN8 (aC (dFz (aH 5)) aP))) fM)))
 (gQ (aH 2))))
noncomputable def jP:Dv.Run:=mM 7 kZ
noncomputable def fX:DS:=(gQ (aV0 (aX (eqD true) (aH 0) (aH 1)) (dCB dD1 (aC (cE [2] (dIt (aH 0)) (dgN 2) iB (aX (inD false) (aH 2) (aH 1))) aP))))
noncomputable def fE:Dv.Run:=mM 3 fX
noncomputable def fY:DS:=(bL (cG 2 (aV 2 jP (aC (aH 0) (aC (aH 1) aP))))
 (gQ (cE [3] (dIt (aH 2)) (dgN 3) (cO2 (dX (dCB dP2 (aC (cE [4] (dIt (aH 2)) (dgN 4) iB (dFz (aV 2 fE (aC (aH 3) (aC (aH 4) aP))))) aP)))) (dFz (aH 3)))))
noncomputable def fF:Dv.Run:=mM 5 fY
noncomputable def fZ:DS:=(gQ (cE [1] (aA5 (aC (dCB mD (aC (aH 0) aP)) aP)) (dgN 1) iB (dFz (aX iC (dSl (aH 0) sZ (dP (aH 1))) (dSl (aH 0) (dP (aX iC (aH 1) (dC (.int 1)))) sZ)))))
noncomputable def cL:Dv.Run:=mM 2 fZ
noncomputable def hZ:DS:=(bL (cG 1 (cE [2] (aA5 (aC (aX dL9 (dCB mD (aC (aH 0) aP)) (dC (.int 1))) aP)) (dgN 2) iB (dFz (dSl (aH 0) (dP (aH 2)) (dP (aX iC (aH 2) (dC (.int 2))))))))
 (gQ (aX iC (aH 1) (kI (aC (qY (aC (aX ixD (aH 0) (dC (.int 0))) (aC (aX ixD (aH 0) (bC3 cO4 (dC (.int 1)))) aP))) aP)))))
noncomputable def gB:Dv.Run:=mM 3 hZ
noncomputable def lA:DS:=(bL (mB (dOr (dX (aX ltI (dCB mD (aC (aH 1) aP)) (dC (.int 3)))) (dX (aX ltI (dCB zI (aC (aH 1) aP)) (dCB mD (aC (aH 1) aP))))) (gQ (dC (.bl false))) fM)
 (bL (cG 2 (dCB aE1 (aC (aV 2 fF (aC (aH 0) (aC (aH 1) aP))) aP)))
 (gQ (dU7 (aX (eqD false) (aH 2) (dCB aE1 (aC (aV 1 cL (aC (aH 1) aP)) aP))) (aX (eqD false) (aH 2) (dCB aE1 (aC (aV 1 gB (aC (aH 1) aP)) aP)))))))
noncomputable def cT:Dv.Run:=mM 3 lA
noncomputable def lB:DS:=(bL (pU (dIt (aV 1 hX (aC (aV 1 dD (aC (aH 0) aP)) aP))) (dgN 1)
 (bL (cG 2 (aV 2 kY (aC (aH 0) (aC (aH 1) aP))))
 (mB (dX (aV 2 cT (aC (aH 0) (aC (aH 2) aP)))) (gQ (aH 2)) fM)))
 (gQ (dC .non)))
noncomputable def jQ:Dv.Run:=mM 3 lB
noncomputable def zK:DS:=(bL (cG 1 (aV 1 hV (aC (aH 0) aP)))
 (bL (mB (dX (aX (eqD false) (dCB mD (aC (aH 1) aP)) (dCB mD (aC (aH 0) aP)))) (gQ (qY (aC (dC (.str "ears")) (aC (dFz (aH 1)) aP)))) fM)
 (gQ (qY (aC (dC (.str "ring")) (aC (dFz (aV 1 jQ (aC (aH 0) aP))) aP))))))
noncomputable def jU:Dv.Run:=mM 2 zK
noncomputable def iU:DS:=(bL (cG 2 (dFz (aH 0)))
 (bL (pU (dIt (aH 1)) (iF 2 (bJ (dgN 3) (bJ (dgN 4) iA)))
 (bL (mB (dX (aX (inD true) (qY (aC (dFz (aH 3)) (aC (dFz (aH 4)) aP))) (aV 1 fD (aC (aH 2) aP)))) (gQ (dC (.bl false))) fM)
 (cG 2 (aV 2 eQ (aC (aH 2) (aC (aH 3) aP))))))
 (gQ (aX (eqD false) (dCB mD (aC (aH 2) aP)) (dC (.int 0))))))
noncomputable def dU:Dv.Run:=mM 5 iU
noncomputable def kD:DS:=(bL (cG 1 (kI aP))
 (bL (pU (dIt (aH 0)) (iF 2 (bJ (dgN 2) (bJ (dgN 3) iA)))
 (iM (rD "list" 1 bI4 (aC (cE [4] (dIt (aH 3)) (dgN 4) (dX (aX (inD true) (aH 4) (aH 1))) (dFz (aH 4))) aP))))
 (gQ (dCB aA6 (aC (aH 1) aP)))))
noncomputable def fG:Dv.Run:=mM 5 kD
noncomputable def gC:DS:=(bL (cG 2 (kI (aC (qY aP) aP)))
 (bL (pU (aA5 (aC (aH 1) aP)) (dgN 3)
 (bL (cG 4 (kI aP))
 (bL (pU (dIt (aH 2)) (dgN 5)
 (bL (cG 6 (dC (.int 0)))
 (bL (mB (dX (aX gtI (dCB mD (aC (aH 5) aP)) (dC (.int 0)))) (cG 6 (aX iC (dMT dP0 (aH 0) (aX ixD (aH 5) (bC3 cO4 (dC (.int 1))))) (dC (.int 1)))) fM)
 (iM (rD "list" 4 bI4 (aC (cE [7] (dIt (dSl (aH 0) (dP (aH 6)) sZ)) (dgN 7) iB (dFz (aX iC (aH 5) (qY (aC (dFz (aH 7)) aP))))) aP))))))
 (cG 2 (dFz (aH 4))))))
 (gQ (aH 2))))
noncomputable def dG:Dv.Run:=mM 8 gC
noncomputable def eK:DS:=(bL (cG 1 (kI (aC (dFz (dSl (aH 0) sZ (dP (dC (.int 1))))) aP)))
 (bL (pU (dIt (dSl (aH 0) (dP (dC (.int 1))) sZ)) (dgN 2)
 (bL (cG 3 (kI aP))
 (bL (pU (dIt (aH 1)) (dgN 4)
 (iM (rD "list" 3 bI4 (aC (cE [5] (aA5 (aC (dC (.int 1)) (aC (aX iC (dCB mD (aC (aH 4) aP)) (dC (.int 1))) aP))) (dgN 5) iB (dFz (aX iC (aX iC (dSl (aH 4) sZ (dP (aH 5))) (qY (aC (dFz (aH 2)) aP))) (dSl (aH 4) (dP (aH 5)) sZ)))) aP))))
 (cG 1 (dFz (aH 3))))))
 (gQ (aH 1))))
noncomputable def dW:Dv.Run:=mM 6 eK
noncomputable def gD:DS:=(bL (cG 2 (aV 1 fG (aC (aH 1) aP)))
 (bL (pU (aA5 (aC (dC (.int 3)) (aC (dCB bT0 (aC (dC (.int 6)) (aC (aX iC (dCB mD (aC (aH 2) aP)) (dC (.int 1))) aP))) aP))) (dgN 3)
 (pU (dIt (aV 2 dG (aC (aH 2) (aC (aH 3) aP)))) (dgN 4)
 (mB (dX (aX (inD false) (dC (.bl true)) (cE [5] (dIt (aV 1 dW (aC (aH 4) aP))) (dgN 5) iB (dFz (aV 2 cT (aC (aH 1) (aC (aH 5) aP))))))) (gQ (dC (.bl false))) fM)))
 (gQ (aX (inD true) (dC (.bl true)) (cE [6] (aA5 (aC (dC (.int 10)) aP)) (dgN 6) iB (dFz (aV 2 cT (aC (aH 1) (aC (dCB aA6 (aC (aV 2 aT (aC (aH 0) (aC (aH 2) aP))) aP)) aP)))))))))
noncomputable def eL:Dv.Run:=mM 7 gD
noncomputable def gF:DS:=(bL (cG 2 (aX dO3 (dCB bV2 (aC (aH 0) aP)) (aH 1)))
 (bL (cG 3 (cE [5,6] (dIt (aH 0)) (iF 2 (bJ (dgN 5) (bJ (dgN 6) iA))) (dX (aX (eqD true) (aH 5) (aH 1))) (qY (aC (dFz (aH 5)) (aC (dFz (aH 6)) aP)))))
 (bL (cG 4 (cE [7] (dIt (aH 2)) (dgN 7) (dX (aX (eqD true) (cE [5,6] (dIt (aH 3)) (iF 2 (bJ (dgN 5) (bJ (dgN 6) iA))) (dX (aX (inD false) (aH 7) (aH 6))) (dC (.int 1))) (kI aP))) (dFz (aH 7))))
 (gQ (cE [5,6] (dIt (aH 3)) (iF 2 (bJ (dgN 5) (bJ (dgN 6) iA))) (dX (dCB dD1 (aC (cE [7] (dIt (aH 4)) (dgN 7) iB (aX (inD false) (aH 7) (aH 6))) aP))) (dFz (aH 5)))))))
noncomputable def bT:Dv.Run:=mM 8 gF
noncomputable def iV:DS:=(bL (cG 2 (dCB aH7 (aC (aH 1) aP)))
 (bL (cG 3 (kI aP))
 (bL (uA (dX (aX gtI (dCB mD (aC (aH 2) aP)) (dC (.int 1))))
 (bL (cG 4 (cE [5,7] (dIt (aH 2)) (iF 2 (bJ (dgN 5) (bJ (dgN 7) iA))) (dX (aX (eqD true) (aV 2 bT (aC (aH 2) (aC (aH 5) aP))) (kI aP))) (dFz (aH 5))))
 (bL (mB (dX (aX (eqD false) (aH 4) (kI aP))) (cG 4 (cE [5,7] (dIt (aH 2)) (iF 2 (bJ (dgN 5) (bJ (dgN 7) iA))) iB (dFz (aH 5)))) fM)
 (bL (cG 5 (aX ixD (aH 4) (aV 2 aI (aC (aH 0) (aC (dCB mD (aC (aH 4) aP)) aP)))))
 (bL (cG 6 (aX iC (aV 2 bT (aC (aH 2) (aC (aH 5) aP))) (cE [9,7] (dIt (aH 2)) (iF 2 (bJ (dgN 9) (bJ (dgN 7) iA))) (dX (aX (eqD true) (aH 9) (aH 5))) (dFz (aH 9)))))
 (bL (iM (lM "list" 3 aN8 (aC (qY (aC (dFz (aH 5)) (aC (aX ixD (aH 6) (dC (.int 0))) aP))) aP)))
 (cG 2 (cE [8] (dIt (aH 2)) (dgN 8) (dX (aX (eqD true) (aX ixD (aH 8) (dC (.int 0))) (aH 5))) (dFz (aH 8))))))))))
 (gQ (aX iC (aH 3) (kI (aC (qY (aC (aX ixD (aX ixD (aH 2) (dC (.int 0))) (dC (.int 0))) (aC (dC .non) aP))) aP)))))))
noncomputable def fO:Dv.Run:=mM 10 iV
noncomputable def iW:DS:=(gQ (aV0 (bC3 (dM5 "bool") (aH 0)) (aX (eqD false) (aH 0) (aH 1))))
noncomputable def fP:Dv.Run:=mM 2 iW
noncomputable def zL:DS:=(gQ (dCB aA6 (aC (cE [2] (dIt (aH 0)) (dgN 2) (dX (aX (inD false) (aX ixD (aH 2) (dC (.int 0))) (aH 1))) (dFz (aH 2))) aP)))
noncomputable def nO:Dv.Run:=mM 3 zL
noncomputable def iX:DS:=(bL (cG 2 (cE [5,7] (dIt (aH 1)) (iF 2 (bJ (dgN 5) (bJ (dgN 7) iA))) iB (dFz (aH 5))))
 (bL (cG 3 (cE [5] (dIt (aH 2)) (dgN 5) (dX (aX (eqD true) (aV 2 bT (aC (aH 1) (aC (aH 5) aP))) (kI aP))) (dFz (aH 5))))
 (bL (cG 4 (kI (aC (dCB aA6 (aC (aV 2 aT (aC (aH 0) (aC (cE [5,6] (dIt (aH 1)) (iF 2 (bJ (dgN 5) (bJ (dgN 6) iA))) iB (qY (aC (dFz (aH 5)) (aC (dCB aA6 (aC (aV 2 aT (aC (aH 0) (aC (aH 6) aP))) aP)) aP)))) aP))) aP)) aP)))
 (bL (mB (dX (aX (eqD true) (aH 3) (kI aP))) (bL (cG 5 (aX ixD (aH 3) (aV 2 aI (aC (aH 0) (aC (dCB mD (aC (aH 3) aP)) aP)))))
 (iM (lM "list" 4 aN8 (aC (dFz (aV 2 nO (aC (aH 1) (aC (cE [8] (dIt (aH 2)) (dgN 8) (dX (aX (eqD true) (aH 8) (aH 5))) (dFz (aH 8))) aP)))) aP)))) fM)
 (bL (mB (dC7 (dX (aX ltI (dCB mD (aC (aH 1) aP)) (dC (.int 6)))) (dX (aX (inD true) (dC (.str "qqqqqq")) (aH 2)))) (bL (cG 6 (aX ixD (aX ixD (aH 1) (aV 2 aI (aC (aH 0) (aC (dCB mD (aC (aH 1) aP)) aP)))) (dC (.int 1))))
 (iM (lM "list" 4 aN8 (aC (dFz (aX iC (aH 1) (qY (aC (qY (aC (dC (.str "qqqqqq")) (aC (dCB aA6 (aC (aV 2 bR (aC (aH 0) (aC (aH 6) aP))) aP)) aP))) aP)))) aP)))) fM)
 (gQ (aH 4)))))))
noncomputable def fQ:Dv.Run:=mM 9 iX
def aE3:MS:=(cB1 (aQ0 1 1 dM (aC (aV 2 cS (aC (aH 0) (aC (dC (.int 0)) aP))) aP))
 (RS (bL (dL4 (iF 2 (bJ (dgN 2) (bJ (dgN 3) iA))) (dFz (aV 1 jU (aC (aH 1) aP))))
 (bL (mB (dX (aX (eqD false) (aH 2) (dC (.str "ears")))) (mB (dOr (dX (aX (isD true) (aV 2 dU (aC (aH 1) (aC (aH 3) aP))) (dC (.bl true)))) (cO2 (dX (aV 2 eL (aC (aV 2 cS (aC (aH 0) (aC (dC (.int 1)) aP))) (aC (aH 1) aP)))))) (gQ (dC (.bl false))) fM) (mB (dOr (dX (aX (eqD true) (aH 2) (dC (.str "ring")))) (dX (aX (isD true) (aV 2 cT (aC (aH 1) (aC (aH 3) aP))) (dC (.bl true))))) (gQ (dC (.bl false))) fM))
 (bL (pU (aA5 (aC (dC (.int 2)) (aC (dC (.int 6)) aP))) (dgN 4)
 (bL (cG 5 (aV 2 dU (aC (aH 1) (aC (aV 2 fO (aC (aV 2 cS (aC (aH 0) (aC (aH 4) aP))) (aC (aH 1) aP))) aP))))
 (mB (cO2 (dX (aV 2 fP (aC (aH 5) (aC (aX (eqD false) (aH 2) (dC (.str "ears"))) aP))))) (gQ (dC (.bl false))) fM)))
 (bL (pU (dIt (aV 2 fQ (aC (aV 2 cS (aC (aH 0) (aC (dC (.int 6)) aP))) (aC (aH 1) aP)))) (dgN 6)
 (mB (dX (aX (eqD true) (aX ixD (aV 1 jU (aC (aH 6) aP)) (dC (.int 0))) (aH 2))) (gQ (dC (.bl false))) fM))
 (gQ (dC (.bl true)))))))))
def zM:MC:=dD0 7 aE3
def aY7:bD0 aE3:=(aJ1 (aJ2 (aY6 gG)) aE2)
section
variable{P:Program}{w:World}{K:W.Frag}{mg:Str->Option Value}{base:Heap}{a:Adr}
def aY8(T:Txt K mg a):FnOk P w K mg base CX0 1 a.a0O a.a0s ["_law_box_here","_law_many"] (dsp 2 aI):=by
 refine bX T.a0j yY (by decide) jM (λcdv A outer s H E b=>?_);have nd:=yY.nd;unfold jM;exact(aG (jH (bY bH0 rG (fN (aA (pv 0)) ge_int (λ_ _=>rfl)) ge_int (bM _)) (aG (aR (i:=2) nd rfl (Or.inl rfl) (aZ mQ jY (fN (aA (pv 0)) ge_int (λ_ _=>rfl)) (aA (pv 1))))
  (aG (cO5 (k:=0) (λΓ=>bM3 (gE (aZ bD4 bT3 (fN (aA (pv 0)) ge_int (λ_ _=>rfl)) (aA (pv 1))) Γ) (cL2 (pv 0) (gE ge_int Γ) bA7)))
  (aK (bP (aA (pv 2)))))) dY)
  (aG (aR (i:=3) nd rfl (Or.inl rfl) (aZ mQ jY (aZ jZ kA (fN (aA (pv 0)) ge_int (λ_ _=>rfl)) ge_int) ge_int))
  (aG (cO5 (k:=0) (λΓ=>bM3 (gE (aZ bG bH (aZ mQ jY (aZ bG bH (aZ jZ kA (aA (pv 3)) ge_int) ge_int) ge_int) ge_int) Γ) (cL2 (pv 0) (gE ge_int Γ) bA7)))
  (aK (bP (aZ mQ jY (aZ bD4 bT3 (aZ bG bH (aZ jZ kA (aA (pv 3)) ge_int) (fN (aA (pv 0)) ge_int (λ_ _=>rfl))) ge_int) (aA (pv 1))))))))
def zN(T:Txt K mg a)(b:FnOk P w K mg base CX0 1 a.a0O a.a0s ["_law_box_here","_law_many"] (dsp 2 aI)):FnOk P w K mg base CX0 2 a.a0C a.a0t ["_law_box_here","_law_things"] (dsp 2 aT):=by
 refine bX T.a0n mZ (by decide) fC (λcdv A outer s H E c=>?_);have nd:=mZ.nd;unfold fC;exact(aG (aR (i:=2) nd rfl (Or.inl rfl) (cJ aH8 (λΓ=>cI rC (by rfl) T.a3v kM (gA (aB (aA (pv 1)) aF) Γ))))
  (aG (aR (i:=3) nd rfl (Or.inl rfl) (eB aF))
  (aG (aH1 (λΓ=>aF5 a6d (gT (bY bH0 rG (cJ cQ (λΓ=>bA bI (by rfl) T.a0Q bQ (gA (aB (aA (pv 2)) aF) Γ))) ge_int (bM _)) Γ)
  (gSs (aK (gL (jX lQ (λΓ=>gW K (by rfl) a4c a1e a2e eX (pv 3) (gA (aB (bW (jX bT2 (λΓ=>gW K (by rfl) a4c F.slot_list_pop F.type_list_pop cC0 (pv 2) (gA (aB (bW (aO (λΓ=>aJ b (c.mono (by decide)) (by rfl) T.a0k T.a0j.kp (bB T) .nil bD (gA (aB (aA (pv 0)) (aB (cJ cQ (λΓ=>bA bI (by rfl) T.a0Q bQ (gA (aB (aA (pv 2)) aF) Γ))) aF)) Γ)))) aF) Γ)))) aF) Γ))))) Γ)))
  (aK (bP (aA (pv 3)))))))
def aY9(T:Txt K mg a)(b:FnOk P w K mg base CX0 2 a.a0C a.a0t ["_law_box_here","_law_things"] (dsp 2 aT))(c:FnOk P w K mg base CX0 1 a.a0O a.a0s ["_law_box_here","_law_many"] (dsp 2 aI)):FnOk P w K mg base CX0 3 a.a2F a.a0R ["_law_box_here","_law_things"] (dsp 2 bR):=by
 refine bX T.a0T yZ (by decide) jN (λcdv A outer s H E d=>?_);have nd:=yZ.nd;unfold jN;exact(aK (bP (cY (aO (λΓ=>aJ b (d.mono (by decide)) (by rfl) T.a0v T.a0n.kp (dZ T) .nil bD (gA (aB (aA (pv 0)) (aB (aA (pv 1)) aF)) Γ))) eU (eC (aZ bG bH ge_int (aO (λΓ=>aJ c (d.mono (by decide)) (by rfl) T.a0k T.a0j.kp (bB T) .nil bD (gA (aB (aA (pv 0)) (aB (cJ bD3 (λΓ=>bA (tQ (by rfl)) (by rfl) T.a4m aI0 (gA (aB ge_int (aB (cJ cQ (λΓ=>bA bI (by rfl) T.a0Q bQ (gA (aB (aA (pv 1)) aF) Γ))) aF)) Γ))) aF)) Γ))))))))
def rR(T:Txt K mg a)(b:FnOk P w K mg base CX0 1 a.a0O a.a0s ["_law_box_here","_law_many"] (dsp 2 aI))(d:FnOk P w K mg base CX0 3 a.a2F a.a0R ["_law_box_here","_law_things"] (dsp 2 bR)):FnOk P w K mg base CX0 4 a.a0Z a.a0E ["_law_box_here"] (dsp 1 cO):=by
 refine bX T.a1q kO (by decide) eG (λcdv A outer s H E c=>?_);have nd:=kO.nd;unfold eG;exact(aG (aR (i:=1) nd rfl (Or.inr rfl) (aZ bG bH ge_int (aO (λΓ=>aJ b (c.mono (by decide)) (by rfl) T.a0k T.a0j.kp (bB T) .nil bD (gA (aB (aA (pv 0)) (aB ge_int aF)) Γ)))))
  (aG (aR (i:=2) nd rfl (Or.inl rfl) (aZ bG bH ge_int (aO (λΓ=>aJ b (c.mono (by decide)) (by rfl) T.a0k T.a0j.kp (bB T) .nil bD (gA (aB (aA (pv 0)) (aB ge_int aF)) Γ)))))
  (aG (jH (bY (jJ c.units) (eE (neg:=false)) (aO (λΓ=>aJ b (c.mono (by decide)) (by rfl) T.a0k T.a0j.kp (bB T) .nil bD (gA (aB (aA (pv 0)) (aB ge_int aF)) Γ))) ge_int (bM _)) (aK (bP (bZ (ow:=[5]) (aQ (by decide)) (λΓ=>bV (csc [5] (by kernel_rfl)) (gI (lO (λΓ=>eR (by rfl) T.a0B (gA (aB (aA (pv 2)) aF) Γ)) bC8) Γ) (λ_ _ _ _=>(aM (i:=5) nd rfl (Or.inl rfl) (.inr rfl))) (aN (by decide)) (λ_ _ _ _=>cX) (λ_ _ _ _=>gE (bW (aO (λΓ=>aJ d (c.mono (by decide)) (by rfl) T.a1P T.a0T.kp (kR T) .nil bD (gA (aB (aA (pv 0)) (aB (cJ bE2 (λΓ=>aU5 (T:="list") (U:="range") (aG6 rfl) (by rfl) T.a3v kM (by rfl) T.a0B boot_range (gA (aB (aA (pv 1)) aF) Γ))) aF)) Γ)))) Γ))))) dY)
  (aG (aR (i:=3) nd rfl (Or.inl rfl) (eB (aB (bW (aO (λΓ=>aJ d (c.mono (by decide)) (by rfl) T.a1P T.a0T.kp (kR T) .nil bD (gA (aB (aA (pv 0)) (aB (cJ bE2 (λΓ=>aU5 (T:="list") (U:="range") (aG6 rfl) (by rfl) T.a3v kM (by rfl) T.a0B boot_range (gA (aB (aA (pv 1)) aF) Γ))) aF)) Γ)))) aF)))
  (aG (aR (i:=4) nd rfl (Or.inr rfl) (cJ aH8 (λΓ=>cI rC (by rfl) T.a3v kM (gA (aB (fN (aA (pv 3)) ge_int (λ_ _=>rfl)) aF) Γ))))
  (aG (gY (own:=[5]) (aQ (by decide)) (λΓ=>gO a6d rfl (gI (lO (λΓ=>eR (by rfl) T.a0B (gA (aB (aZ bM9 bS8 (aA (pv 2)) ge_int) aF) Γ)) bC8) Γ) (aM (i:=5) nd rfl (Or.inl rfl))
  (gSs (aG (aR (i:=6) nd rfl (Or.inl rfl) (aO (λΓ=>aJ d (c.mono (by decide)) (by rfl) T.a1P T.a0T.kp (kR T) .nil bD (gA (aB (aA (pv 0)) (aB (fN (aA (pv 3)) (aO (λΓ=>aJ b (c.mono (by decide)) (by rfl) T.a0k T.a0j.kp (bB T) .nil bD (gA (aB (aA (pv 0)) (aB (cJ cQ (λΓ=>bA bI (by rfl) T.a0Q bQ (gA (aB (aA (pv 3)) aF) Γ))) aF)) Γ))) (λ_ _=>rfl)) aF)) Γ))))
  (aG (iG (ow:=[8]) (i:=7) (aQ (by decide)) (λΓ=>fL (i:=7) nd rfl rfl (csc [8] (by kernel_rfl)) (gI (lO (λΓ=>eR (by rfl) T.a0B (gA (aB (aA (pv 1)) aF) Γ)) bC8) Γ) (λ_ _ _ _=>(aM (i:=8) nd rfl (Or.inl rfl) (.inr rfl))) (aN (by decide)) (λ_ _ _ _=>(cN (bY (gZ c.units) (hJ (neg:=true)) (aA (pv 8)) (aA (pv 4)) (by with_unfolding_all rfl)))) (λ_ _ _ _=>gE (bW (aA (pv 8))) Γ) rfl))
  (aG (aR (i:=6) nd rfl (Or.inl rfl) (aZ bG bH (cY (aA (pv 6)) eU (eC (aO (λΓ=>aJ b (c.mono (by decide)) (by rfl) T.a0k T.a0j.kp (bB T) .nil bD (gA (aB (aA (pv 0)) (aB (aZ bG bH (cJ cQ (λΓ=>bA bI (by rfl) T.a0Q bQ (gA (aB (aA (pv 6)) aF) Γ))) ge_int) aF)) Γ))))) (cY (aA (pv 7)) eU (eC (aO (λΓ=>aJ b (c.mono (by decide)) (by rfl) T.a0k T.a0j.kp (bB T) .nil bD (gA (aB (aA (pv 0)) (aB ge_int aF)) Γ)))))))
  (aG (jH (bY (jJ c.units) (eE (neg:=false)) (aA (pv 6)) (eB aF) (bM _)) (aK (aR (i:=6) nd rfl (Or.inl rfl) (cY (aA (pv 4)) eU (eC ge_int)))) dY)
  (aG (gL (jX lQ (λΓ=>gW K (by rfl) a4c a1e a2e eX (pv 3) (gA (aB (bW (cY (aA (pv 6)) eU (eC ge_int))) aF) Γ))))
  (aK (gL (rE rK (λΓ=>gW K (by rfl) a4c F.slot_list_extend F.type_list_extend rJ (pv 4) (gA (aB (bZ (ow:=[8]) (aQ (by decide)) (λΓ=>bV (csc [8] (by kernel_rfl)) (gI (bU K (by rfl) (fN (aA (pv 3)) (cD8 bA5 aH3 ge_int) (λ_ _=>rfl))) Γ) (λ_ _ _ _=>(aM (i:=8) nd rfl (Or.inl rfl) (.inr rfl))) (aN (by decide)) (λ_ _ _ _=>(cN (bY (gZ c.units) (hJ (neg:=true)) (aA (pv 8)) (aA (pv 4)) (by with_unfolding_all rfl)))) (λ_ _ _ _=>gE (bW (aA (pv 8))) Γ))) aF) Γ)))))))))) Γ)))
  (aK (bP (aA (pv 3))))))))))
def aQ2(T:Txt K mg a)(b:FnOk P w K mg base CX0 1 a.a0O a.a0s ["_law_box_here","_law_many"] (dsp 2 aI)):FnOk P w K mg base CX0 2 a.a2R a.a1F ["_law_box_here","_law_many"] (dsp 2 dQ):=by
 refine bX T.a1U sM (by decide) iR (λcdv A outer s H E c=>?_);have nd:=sM.nd;unfold iR;exact(aG (aR (i:=2) nd rfl (Or.inr rfl) qB)
  (aG (jH (bY (jJ c.units) (eE (neg:=false)) (aO (λΓ=>aJ b (c.mono (by decide)) (by rfl) T.a0k T.a0j.kp (bB T) .nil bD (gA (aB (aA (pv 0)) (aB ge_int aF)) Γ))) ge_int (bM _)) (aG (dL6 (i:=3) (j:=4) (λΓ=>dG4 (i:=3) (j:=4) rfl nd rfl rfl (by decide) rfl rfl (gA (aB (fN (aA (pv 2)) (aO (λΓ=>aJ b (c.mono (by decide)) (by rfl) T.a0k T.a0j.kp (bB T) .nil bD (gA (aB (aA (pv 0)) (aB ge_int aF)) Γ))) (λ_ _=>rfl)) (aB (fN (aA (pv 2)) (aZ bG bH ge_int (aO (λΓ=>aJ b (c.mono (by decide)) (by rfl) T.a0k T.a0j.kp (bB T) .nil bD (gA (aB (aA (pv 0)) (aB ge_int aF)) Γ)))) (λ_ _=>rfl)) aF)) Γ) rfl))
  (aK (bP (cY (eB (aB (bW (aA (pv 3))) (aB (bW (aZ bG bH (aA (pv 3)) (aA (pv 4)))) (aB (bW (aA (pv 4))) (aB (bW (aZ bG bH (aA (pv 4)) (aA (pv 3)))) (aB (bW (aZ bG bH (aA (pv 3)) (aA (pv 3)))) (aB (bW (aZ bG bH (aZ bG bH (aA (pv 3)) (aA (pv 4))) (aA (pv 3)))) (aB (bW (aZ bG bH (aA (pv 4)) (aA (pv 4)))) (aB (bW (aZ bG bH (aZ bG bH (aA (pv 3)) (aA (pv 3))) (aA (pv 4)))) aF))))))))) eU (eC (aA (pv 1))))))) dY)
  (aG (aR (i:=5) nd rfl (Or.inl rfl) (cX3 (sep:="") K (λΓ=>gW K (by rfl) F.plainAttrs_str F.slot_str_join F.type_str_join (cE7 K (by rfl)) cL0 (gA (aB (bZ (ow:=[10]) (aQ (by decide)) (λΓ=>bV (csc [10] (by kernel_rfl)) (gI (lO (λΓ=>eR (by rfl) T.a0B (gA (aB (aO (λΓ=>aJ b (c.mono (by decide)) (by rfl) T.a0k T.a0j.kp (bB T) .nil bD (gA (aB (aA (pv 0)) (aB ge_int aF)) Γ))) aF) Γ)) bC8) Γ) (λ_ _ _ _=>(aM (i:=10) nd rfl (Or.inl rfl) (.inr rfl))) (aN (by decide)) (λ_ _ _ _=>cX) (λ_ _ _ _=>gE (fN (aA (pv 2)) (aO (λΓ=>aJ b (c.mono (by decide)) (by rfl) T.a0k T.a0j.kp (bB T) .nil bD (gA (aB (aA (pv 0)) (aB ge_int aF)) Γ))) (λ_ _=>rfl)) Γ))) aF) Γ))))
  (aG (aR (i:=6) nd rfl (Or.inl rfl) (aO (λΓ=>aJ b (c.mono (by decide)) (by rfl) T.a0k T.a0j.kp (bB T) .nil bD (gA (aB (aA (pv 0)) (aB (aZ bG bH (cJ cQ (λΓ=>bA bI (by rfl) T.a0Q bQ (gA (aB (aA (pv 5)) aF) Γ))) ge_int) aF)) Γ))))
  (aG (aR (i:=7) nd rfl (Or.inl rfl) (aO (λΓ=>aJ b (c.mono (by decide)) (by rfl) T.a0k T.a0j.kp (bB T) .nil bD (gA (aB (aA (pv 0)) (aB ge_int aF)) Γ))))
  (aG (aR (i:=8) nd rfl (Or.inl rfl) (aO (λΓ=>aJ b (c.mono (by decide)) (by rfl) T.a0k T.a0j.kp (bB T) .nil bD (gA (aB (aA (pv 0)) (aB ge_int aF)) Γ))))
  (aG (aR (i:=9) nd rfl (Or.inl rfl) (eB aF))
  (aG (gY (own:=[10]) (aQ (by decide)) (λΓ=>gO a6d rfl (gI (lO (λΓ=>eR (by rfl) T.a0B (gA (aB (aA (pv 1)) aF) Γ)) bC8) Γ) (aM (i:=10) nd rfl (Or.inl rfl))
  (gSs (aG (aR (i:=11) nd rfl (Or.inl rfl) (aZ bG bH (aZ bG bH (cY (aA (pv 5)) eU (eC (aA (pv 6)))) (fN (aA (pv 2)) (aZ mQ jY (aZ bG bH (aA (pv 7)) (aZ jZ kA ge_int (aA (pv 10)))) ge_int) (λ_ _=>rfl))) (cY (aA (pv 5)) (eC (aA (pv 6))) eU)))
  (aK (gL (jX lQ (λΓ=>gW K (by rfl) a4c a1e a2e eX (pv 9) (gA (aB (bW (aZ bG bH (aA (pv 11)) (aZ jZ kA qB (cJ bT1 (λΓ=>cI aL2 (by rfl) T.a4q bE1 (gA (aB (bC6 (jG (jJ c.units) (eE (neg:=false)) (aA (pv 8)) ge_int (bM _)) (aN0 (jG (jJ c.units) (eE (neg:=false)) (aZ mQ jY (aA (pv 10)) ge_int) ge_int (bM _)))) aF) Γ)))))) aF) Γ)))))) Γ)))
  (aK (bP (aA (pv 9))))))))))))
def zO(T:Txt K mg a)(d:FnOk P w K mg base CX0 1 a.a0O a.a0s ["_law_box_here","_law_many"] (dsp 2 aI))(f:FnOk P w K mg base CX0 4 a.a0U a.a0G ["_law_box_here"] (bS6 1 cRS))(g:FnOk P w K mg base CX0 4 a.a0Z a.a0E ["_law_box_here"] (dsp 1 cO))(c:FnOk P w K mg base CX0 2 a.a0C a.a0t ["_law_box_here","_law_things"] (dsp 2 aT))(e:FnOk P w K mg base CX0 2 a.a2R a.a1F ["_law_box_here","_law_many"] (dsp 2 dQ)):FnOk P w K mg base CX0 5 a.a1H a.a0K ["_law_box_here"] (bS6 1 dM):=by
 refine aV4 T.a1N nA (by decide) eI gG (λcdv A outer s H E b=>GM.to ?_);have nd:=nA.nd;unfold eI;exact(aY5 (cY9 (aR (i:=1) nd rfl (Or.inl rfl) (aO (λΓ=>aJ d (b.mono (by decide)) (by rfl) T.a0k T.a0j.kp (bB T) .nil bD (gA (aB (aA (pv 0)) (aB ge_int aF)) Γ)))))
  (aY5 (eA0 (bY (jJ b.units) (eE (neg:=false)) (aA (pv 1)) ge_int (bM _)) (dP4 (bW8 bW9 (λΓ=>aL0 (i:=2) nd rfl (Or.inl rfl) (aJ f (b.mono (by decide)) (by rfl) T.a3j T.a1p.kp (tD T) .nil bD (gA (aB (aA (pv 0)) aF) Γ))))) (bW7 (aK (aR (i:=2) nd rfl (Or.inl rfl) (aO (λΓ=>aJ g (b.mono (by decide)) (by rfl) T.a2Y T.a1q.kp (tE T) .nil bD (gA (aB (aA (pv 0)) aF) Γ)))))))
  (bW7 (aG (aR (i:=3) nd rfl (Or.inr rfl) (aO (λΓ=>aJ c (b.mono (by decide)) (by rfl) T.a0v T.a0n.kp (dZ T) .nil bD (gA (aB (aA (pv 0)) (aB (aO (λΓ=>aJ e (b.mono (by decide)) (by rfl) T.a3m T.a1U.kp (zA T) .nil bD (gA (aB (aA (pv 0)) (aB ge_int aF)) Γ))) aF)) Γ))))
  (aG (aR (i:=4) nd rfl (Or.inl rfl) (bW (aA (pv 3))))
  (aG (jH (bY bH0 rG (aO (λΓ=>aJ d (b.mono (by decide)) (by rfl) T.a0k T.a0j.kp (bB T) .nil bD (gA (aB (aA (pv 0)) (aB ge_int aF)) Γ))) ge_int (bM _)) (aK (aR (i:=4) nd rfl (Or.inl rfl) (aO (λΓ=>aJ e (b.mono (by decide)) (by rfl) T.a3m T.a1U.kp (zA T) .nil bD (gA (aB (aA (pv 0)) (aB ge_int aF)) Γ))))) dY)
  (aG (aR (i:=5) nd rfl (Or.inl rfl) (eB aF))
  (aG (gY (own:=[6,7]) (iN (bF (aQ (by decide)) (bF (aQ (by decide)) fA))) (λΓ=>gO a6d rfl (gI (cX6 K (λΓ=>cX5 K (by rfl) (by rfl) T.a3L aA7 (gA (aB (aO (λΓ=>aJ c (b.mono (by decide)) (by rfl) T.a0v T.a0n.kp (dZ T) .nil bD (gA (aB (aA (pv 0)) (aB (aA (pv 2)) aF)) Γ))) aF) Γ))) Γ) (dO (n:=2) K rfl rfl (bE (aM (i:=6) nd rfl (Or.inl rfl)) (bE (aM (i:=7) nd rfl (Or.inl rfl)) eW)))
  (gSs (aK (gL (jX lQ (λΓ=>gW K (by rfl) a4c a1e a2e eX (pv 5) (gA (aB (iL (aB (fN (aA (pv 4)) (aA (pv 6)) (λ_ _=>rfl)) (aB (cJ iY (λΓ=>cI eT (by rfl) T.a1o dL (gA (aB (bZ (ow:=[8]) (aQ (by decide)) (λΓ=>bV (csc [8] (by kernel_rfl)) (gI (bU K (by rfl) (aO (λΓ=>aJ c (b.mono (by decide)) (by rfl) T.a0v T.a0n.kp (dZ T) .nil bD (gA (aB (aA (pv 0)) (aB (aA (pv 7)) aF)) Γ)))) Γ) (λ_ _ _ _=>(aM (i:=8) nd rfl (Or.inl rfl) (.inr rfl))) (aN (by decide)) (λ_ _ _ _=>cX) (λ_ _ _ _=>gE (fN (aA (pv 3)) (aA (pv 8)) (λ_ _=>rfl)) Γ))) aF) Γ))) aF))) aF) Γ))))) Γ)))
  (aK (bP (cJ iY (λΓ=>cI eT (by rfl) T.a1o dL (gA (aB (aA (pv 5)) aF) Γ)))))))))))))
def bK1(T:Txt K mg a):FnOk P w K mg base CX0 1 a.a3E a.a2D ["_law_script","_law_k"] (dsp 2 cS):=by
 refine bX T.a1O aD2 (by decide) kS (λcdv A outer s H E b=>?_);have nd:=aD2.nd;unfold kS;exact(aG (aR (i:=2) nd rfl (Or.inl rfl) (aZ bG bH (aZ jZ kA ge_int (aA (pv 1))) ge_int))
  (aG (jH (bY aT7 aH2 (aA (pv 1)) (cJ cQ (λΓ=>bA bI (by rfl) T.a0Q bQ (gA (aB (aA (pv 0)) aF) Γ))) (bM _)) (aK (aR (i:=2) nd rfl (Or.inl rfl) (fN (aA (pv 0)) (aA (pv 1)) (λ_ _=>rfl)))) (aK (jH (bY bH0 rG (cJ cQ (λΓ=>bA bI (by rfl) T.a0Q bQ (gA (aB (aA (pv 0)) aF) Γ))) ge_int (bM _)) (aK (aR (i:=2) nd rfl (Or.inl rfl) (aZ bG bH (aA (pv 2)) (aZ jZ kA (aZ mQ jY (fN (aA (pv 0)) (aZ mQ jY (aA (pv 1)) (cJ cQ (λΓ=>bA bI (by rfl) T.a0Q bQ (gA (aB (aA (pv 0)) aF) Γ)))) (λ_ _=>rfl)) ge_int) ge_int)))) dY)))
  (aG (aR (i:=3) nd rfl (Or.inl rfl) (aZ bG bH (aZ mQ jY (aZ bG bH (aZ jZ kA (aZ mQ jY (aA (pv 2)) ge_int) ge_int) (aZ jZ kA ge_int (aA (pv 1)))) ge_int) ge_int))
  (aK (bP (eB (aB (bW (aZ jZ kA (aA (pv 2)) (cJ bT1 (λΓ=>cI aL2 (by rfl) T.a4q bE1 (gA (aB (jG dW9 cW0 (aA (pv 2)) (aZ dG7 cV9 ge_int ge_int) (bM _)) aF) Γ))))) (aB (bW (aA (pv 3))) aF))))))))
def bK2(T:Txt K mg a):FnOk P w K mg base CX0 1 a.without a.a1z ["question","name"] (dsp 2 eQ):=by
 refine bX T.a2x aD3 (by decide) kU (λcdv A outer s H E b=>?_);have nd:=aD3.nd;unfold kU;exact(aK (bP (cJ iY (λΓ=>cI eT (by rfl) T.a1o dL (gA (aB (bZ (ow:=[2]) (aQ (by decide)) (λΓ=>bV (csc [2] (by kernel_rfl)) (gI (bU K (by rfl) (aA (pv 0))) Γ) (λ_ _ _ _=>(aM (i:=2) nd rfl (Or.inl rfl) (.inr rfl))) (aN (by decide)) (λ_ _ _ _=>(cN (bY (mE b.units) (eE (neg:=true)) (fN (aA (pv 2)) ge_int (λ_ _=>rfl)) (aA (pv 1)) (bM _)))) (λ_ _ _ _=>gE (bW (aA (pv 2))) Γ))) aF) Γ)))))
def aJ3(T:Txt K mg a):FnOk P w K mg base CX0 1 a.a0r a.a0P ["question"] (dsp 1 dD):=by
 refine bX T.a1I qQ (by decide) hR (λcdv A outer s H E b=>?_);have nd:=qQ.nd;unfold hR;exact(aG (aR (i:=1) nd rfl (Or.inr rfl) (eB aF))
  (aG (gY (own:=[2,3]) (iN (bF (aQ (by decide)) (bF (aQ (by decide)) fA))) (λΓ=>gO a6d rfl (gI (bU K (by rfl) (aA (pv 0))) Γ) (dO (n:=2) K rfl rfl (bE (aM (i:=2) nd rfl (Or.inl rfl)) (bE (aM (i:=3) nd rfl (Or.inl rfl)) eW)))
  (gSs (aK (gL (rE rK (λΓ=>gW K (by rfl) a4c F.slot_list_extend F.type_list_extend rJ (pv 1) (gA (aB (bZ (ow:=[4]) (aQ (by decide)) (λΓ=>bV (csc [4] (by kernel_rfl)) (gI (bU K (by rfl) (aA (pv 3))) Γ) (λ_ _ _ _=>(aM (i:=4) nd rfl (Or.inl rfl) (.inr rfl))) (aN (by decide)) (λ_ _ _ _=>(cN (bY (gZ b.units) (hJ (neg:=true)) (aA (pv 4)) (aA (pv 1)) (by with_unfolding_all rfl)))) (λ_ _ _ _=>gE (bW (aA (pv 4))) Γ))) aF) Γ))))) Γ)))
  (aK (bP (cJ iY (λΓ=>cI eT (by rfl) T.a1o dL (gA (aB (aA (pv 1)) aF) Γ)))))))
def bK3(T:Txt K mg a):FnOk P w K mg base CX0 1 a.a1w a.a2E ["columns","some"] (dsp 2 jO):=by
 refine bX T.a3s aD4 (by decide) kW (λcdv A outer s H E b=>?_);have nd:=aD4.nd;unfold kW;exact(aK (bP (cJ aW0 (λΓ=>bA (uE K (by rfl) (by rfl)) (by rfl) T.a4n aH9 (gA (aB (bZ (ow:=[2]) (aQ (by decide)) (λΓ=>bV (csc [2] (by kernel_rfl)) (gI (bU K (by rfl) (aA (pv 1))) Γ) (λ_ _ _ _=>(aM (i:=2) nd rfl (Or.inl rfl) (.inr rfl))) (aN (by decide)) (λ_ _ _ _=>cX) (λ_ _ _ _=>gE (jG (nS b.units) (hJ (neg:=false)) (aA (pv 2)) (aA (pv 0)) (by with_unfolding_all rfl)) Γ))) aF) Γ)))))
def aJ4(T:Txt K mg a)(c:FnOk P w K mg base CX0 1 a.without a.a1z ["question","name"] (dsp 2 eQ))(d:FnOk P w K mg base CX0 1 a.a0r a.a0P ["question"] (dsp 1 dD))(e:FnOk P w K mg base CX0 1 a.a1w a.a2E ["columns","some"] (dsp 2 jO)):FnOk P w K mg base CX0 2 a.a0u a.a1x ["left","name","columns"] (dsp 3 fW):=by
 refine bX T.a2w qR (by decide) hU (λcdv A outer s H E b=>?_);have nd:=qR.nd;unfold hU;exact(aG (aR (i:=3) nd rfl (Or.inr rfl) (aO (λΓ=>aJ c (b.mono (by decide)) (by rfl) T.a3t T.a2x.kp (zC T) .nil bD (gA (aB (aA (pv 0)) (aB (aA (pv 1)) aF)) Γ))))
  (aG (jH (bY (jJ b.units) (eE (neg:=false)) (cJ cQ (λΓ=>bA bI (by rfl) T.a0Q bQ (gA (aB (aA (pv 3)) aF) Γ))) ge_int (bM _)) (aK (bP (eB (aB bR5 aF)))) dY)
  (aG (aR (i:=4) nd rfl (Or.inr rfl) (bZ (ow:=[5]) (aQ (by decide)) (λΓ=>bV (csc [5] (by kernel_rfl)) (gI (bU K (by rfl) (aA (pv 2))) Γ) (λ_ _ _ _=>(aM (i:=5) nd rfl (Or.inl rfl) (.inr rfl))) (aN (by decide)) (λ_ _ _ _=>(cN (bY (nS b.units) (hJ (neg:=false)) (aA (pv 5)) (aO (λΓ=>aJ d (b.mono (by decide)) (by rfl) T.a2X T.a1I.kp (sT T) .nil bD (gA (aB (aA (pv 3)) aF) Γ))) (by with_unfolding_all rfl)))) (λ_ _ _ _=>gE (bW (aA (pv 5))) Γ))))
  (aK (bP (bZ (ow:=[6,7]) (iN (bF (aQ (by decide)) (bF (aQ (by decide)) fA))) (λΓ=>bV (csc [6,7] (by kernel_rfl)) (gI (bU K (by rfl) (aA (pv 3))) Γ) (λ_ _ _ _=>(dO (n:=2) K rfl rfl (bE (aM (i:=6) nd rfl (Or.inl rfl) (.inr rfl)) (bE (aM (i:=7) nd rfl (Or.inl rfl) (.inr rfl)) eW)))) (fV (bN (aN (by decide)) (bN (aN (by decide)) fU bO) bO)) (λ_ _ _ _=>(cN (tX (aO (λΓ=>aJ e (b.mono (by decide)) (by rfl) T.a3Z T.a3s.kp (bU7 T) .nil bD (gA (aB (aA (pv 7)) (aB (aA (pv 4)) aF)) Γ)))))) (λ_ _ _ _=>gE (bW (aA (pv 6))) Γ))))))))
def bK4(T:Txt K mg a)(b:FnOk P w K mg base CX0 2 a.a0u a.a1x ["left","name","columns"] (dsp 3 fW)):FnOk P w K mg base CX0 3 a.a0S a.a1S ["left"] (dsp 1 fD):=by
 refine bX T.a2A aD5 (by decide) kX (λcdv A outer s H E c=>?_);have nd:=aD5.nd;unfold kX;exact(aG (aR (i:=1) nd rfl (Or.inl rfl) (eB aF))
  (aG (gY (own:=[2,3]) (iN (bF (aQ (by decide)) (bF (aQ (by decide)) fA))) (λΓ=>gO a6d rfl (gI (bU K (by rfl) (aA (pv 0))) Γ) (dO (n:=2) K rfl rfl (bE (aM (i:=2) nd rfl (Or.inr rfl)) (bE (aM (i:=3) nd rfl (Or.inl rfl)) eW)))
  (gSs (aK (gL (rE rK (λΓ=>gW K (by rfl) a4c F.slot_list_extend F.type_list_extend rJ (pv 1) (gA (aB (bZ (ow:=[4]) (aQ (by decide)) (λΓ=>bV (csc [4] (by kernel_rfl)) (gI (bU K (by rfl) (aO (λΓ=>aJ b (c.mono (by decide)) (by rfl) T.a3J T.a2w.kp (aP3 T) .nil bD (gA (aB (aA (pv 0)) (aB (aA (pv 2)) (aB (aA (pv 3)) aF))) Γ)))) Γ) (λ_ _ _ _=>(aM (i:=4) nd rfl (Or.inl rfl) (.inr rfl))) (aN (by decide)) (λ_ _ _ _=>cX) (λ_ _ _ _=>gE (iL (aB (bW (aA (pv 2))) (aB (bW (aA (pv 4))) aF))) Γ))) aF) Γ))))) Γ)))
  (aK (bP (aA (pv 1))))))
def aQ3(T:Txt K mg a)(b:FnOk P w K mg base CX0 3 a.a0S a.a1S ["left"] (dsp 1 fD))(c:FnOk P w K mg base CX0 1 a.without a.a1z ["question","name"] (dsp 2 eQ)):FnOk P w K mg base CX0 4 a.a0z a.a1G ["question"] (dsp 1 hV):=by
 refine bX T.a2N sN (by decide) iS (λcdv A outer s H E d=>?_);have nd:=sN.nd;unfold iS;exact(aG (aR (i:=1) nd rfl (Or.inl rfl) (bW (aA (pv 0))))
  (aG (aR (i:=2) nd rfl (Or.inl rfl) (eB aF))
  (aG (aR (i:=3) nd rfl (Or.inl rfl) (aO (λΓ=>aJ b (d.mono (by decide)) (by rfl) T.a3n T.a2A.kp (zD T) .nil bD (gA (aB (aA (pv 1)) aF) Γ))))
  (aG (aH1 (λΓ=>aF5 a6d (gT (cD9 (aA (pv 3)) (λ_=>rfl)) Γ)
  (gSs (aG (gL (jX lQ (λΓ=>gW K (by rfl) a4c a1e a2e eX (pv 2) (gA (aB (fN (aA (pv 3)) ge_int (λ_ _=>rfl)) aF) Γ))))
  (aG (aR (i:=1) nd rfl (Or.inl rfl) (aO (λΓ=>aJ c (d.mono (by decide)) (by rfl) T.a3t T.a2x.kp (zC T) .nil bD (gA (aB (aA (pv 1)) (aB (fN (fN (aA (pv 3)) ge_int (λ_ _=>rfl)) ge_int (λ_ _=>rfl)) aF)) Γ))))
  (aK (aR (i:=3) nd rfl (Or.inl rfl) (aO (λΓ=>aJ b (d.mono (by decide)) (by rfl) T.a3n T.a2A.kp (zD T) .nil bD (gA (aB (aA (pv 1)) aF) Γ))))))) Γ)))
  (aK (bP (aA (pv 2))))))))
def aQ4(T:Txt K mg a):FnOk P w K mg base CX0 1 a.a0A a.a1D ["names"] (dsp 1 hX):=by
 refine bX T.a2K sO (by decide) iT (λcdv A outer s H E b=>?_);have nd:=sO.nd;unfold iT;exact(aG (aR (i:=1) nd rfl (Or.inl rfl) (eB (aB (iL aF) aF)))
  (aG (gY (own:=[2]) (aQ (by decide)) (λΓ=>gO a6d rfl (gI (bU K (by rfl) (aA (pv 0))) Γ) (aM (i:=2) nd rfl (Or.inr rfl))
  (gSs (aK (aR (i:=1) nd rfl (Or.inl rfl) (aZ bG bH (aA (pv 1)) (bZ (ow:=[3]) (aQ (by decide)) (λΓ=>bV (csc [3] (by kernel_rfl)) (gI (bU K (by rfl) (aA (pv 1))) Γ) (λ_ _ _ _=>(aM (i:=3) nd rfl (Or.inl rfl) (.inr rfl))) (aN (by decide)) (λ_ _ _ _=>cX) (λ_ _ _ _=>gE (bW (aZ bG bH (aA (pv 3)) (iL (aB (bW (aA (pv 2))) aF)))) Γ)))))) Γ)))
  (aK (bP (aA (pv 1))))))
def rS(T:Txt K mg a):FnOk P w K mg base CX0 1 a.a0m a.a0D ["question","one","other"] (dsp 3 dS):=by
 refine bX T.a1s kP (by decide) eJ (λcdv A outer s H E b=>?_);have nd:=kP.nd;unfold eJ;exact(aK (bP (cJ bW6 (λΓ=>bA (aP9 K (by rfl) (by rfl)) (by rfl) T.a4o bE0 (gA (aB (bZ (ow:=[3,4]) (iN (bF (aQ (by decide)) (bF (aQ (by decide)) fA))) (λΓ=>bV (csc [3,4] (by kernel_rfl)) (gI (bU K (by rfl) (aA (pv 0))) Γ) (λ_ _ _ _=>(dO (n:=2) K rfl rfl (bE (aM (i:=3) nd rfl (Or.inl rfl) (.inr rfl)) (bE (aM (i:=4) nd rfl (Or.inl rfl) (.inr rfl)) eW)))) (fV (bN (aN (by decide)) (bN (aN (by decide)) fU bO) bO)) (λ_ _ _ _=>cX) (λ_ _ _ _=>gE (bC6 (jG (nS b.units) (hJ (neg:=false)) (aA (pv 1)) (aA (pv 4)) (by with_unfolding_all rfl)) (aN0 (jG (nS b.units) (hJ (neg:=false)) (aA (pv 2)) (aA (pv 4)) (by with_unfolding_all rfl)))) Γ))) aF) Γ)))))
def bX0(T:Txt K mg a)(b:FnOk P w K mg base CX0 1 a.a0m a.a0D ["question","one","other"] (dsp 3 dS)):FnOk P w K mg base CX0 2 a.walked a.a2Q ["question","columns"] (dsp 2 kY):=by
 refine bX T.a3z aP2 (by decide) nG (λcdv A outer s H E c=>?_);have nd:=aP2.nd;unfold nG;exact(aG (aR (i:=2) nd rfl (Or.inr rfl) (cY (aA (pv 1)) eU (eC ge_int)))
  (aG (gY (own:=[3]) (aQ (by decide)) (λΓ=>gO a6d rfl (gI (bU K (by rfl) (cY (aA (pv 1)) (eC ge_int) eU)) Γ) (aM (i:=3) nd rfl (Or.inl rfl))
  (gSs (aG (iG (ow:=[5]) (i:=4) (aQ (by decide)) (λΓ=>fL (i:=4) nd rfl rfl (csc [5] (by kernel_rfl)) (gI (bU K (by rfl) (aA (pv 1))) Γ) (λ_ _ _ _=>(aM (i:=5) nd rfl (Or.inl rfl) (.inr rfl))) (aN (by decide)) (λ_ _ _ _=>(cN (GW.gt (cO3 (bY (gZ c.units) (hJ (neg:=true)) (aA (pv 5)) (aA (pv 2)) (by with_unfolding_all rfl)) (bR7 (tX (aO (λΓ=>aJ b (c.mono (by decide)) (by rfl) T.a3i T.a1s.kp (tF T) .nil bD (gA (aB (aA (pv 0)) (aB (fN (aA (pv 2)) (cD8 bA5 aH3 ge_int) (λ_ _=>rfl)) (aB (aA (pv 5)) aF))) Γ))))))))) (λ_ _ _ _=>gE (bW (aA (pv 5))) Γ) rfl))
  (aK (aR (i:=2) nd rfl (Or.inr rfl) (aZ bG bH (aA (pv 2)) (cJ iY (λΓ=>cI eT (by rfl) T.a1o dL (gA (aB (cY (aA (pv 4)) eU (eC ge_int)) aF) Γ))))))) Γ)))
  (aK (bP (aA (pv 2))))))
def bK5(T:Txt K mg a):FnOk P w K mg base CX0 1 a.a1n a.a2C ["question","columns"] (dsp 2 jP):=by
 refine bX T.a3l aD6 (by decide) kZ (λcdv A outer s H E b=>?_);have nd:=aD6.nd;unfold kZ;exact(aG (aR (i:=2) nd rfl (Or.inl rfl) (eB aF))
  (aG (gY (own:=[3,4]) (iN (bF (aQ (by decide)) (bF (aQ (by decide)) fA))) (λΓ=>gO a6d rfl (gI (bU K (by rfl) (aA (pv 0))) Γ) (dO (n:=2) K rfl rfl (bE (aM (i:=3) nd rfl (Or.inl rfl)) (bE (aM (i:=4) nd rfl (Or.inr rfl)) eW)))
  (gSs (aG (aR (i:=5) nd rfl (Or.inl rfl) (cJ iY (λΓ=>cI eT (by rfl) T.a1o dL (gA (aB (bZ (ow:=[6]) (aQ (by decide)) (λΓ=>bV (csc [6] (by kernel_rfl)) (gI (bU K (by rfl) (aA (pv 1))) Γ) (λ_ _ _ _=>(aM (i:=6) nd rfl (Or.inl rfl) (.inr rfl))) (aN (by decide)) (λ_ _ _ _=>(cN (bY (nS b.units) (hJ (neg:=false)) (aA (pv 6)) (aA (pv 4)) (by with_unfolding_all rfl)))) (λ_ _ _ _=>gE (bW (aA (pv 6))) Γ))) aF) Γ))))
  (aK (jH (bY (gZ b.units) (hJ (neg:=true)) (aA (pv 5)) (aA (pv 2)) (by with_unfolding_all rfl)) (aK (gL (jX lQ (λΓ=>gW K (by rfl) a4c a1e a2e eX (pv 2) (gA (aB (bW (aA (pv 5))) aF) Γ))))) dY))) Γ)))
  (aK (bP (aA (pv 2))))))
def aB0(T:Txt K mg a):FnOk P w K mg base CX0 1 a.a0p a.a0Y ["one","other"] (dsp 2 fE):=by
 refine bX T.a1Z nV (by decide) fX (λcdv A outer s H E b=>?_);have nd:=nV.nd;unfold fX;exact(aK (bP (bC6 (jG (mE b.units) (eE (neg:=true)) (aA (pv 0)) (aA (pv 1)) (bM _)) (aN0 (cJ aW0 (λΓ=>bA (uE K (by rfl) (by rfl)) (by rfl) T.a4n aH9 (gA (aB (bZ (ow:=[2]) (aQ (by decide)) (λΓ=>bV (csc [2] (by kernel_rfl)) (gI (bU K (by rfl) (aA (pv 0))) Γ) (λ_ _ _ _=>(aM (i:=2) nd rfl (Or.inl rfl) (.inr rfl))) (aN (by decide)) (λ_ _ _ _=>cX) (λ_ _ _ _=>gE (jG (nS b.units) (hJ (neg:=false)) (aA (pv 2)) (aA (pv 1)) (by with_unfolding_all rfl)) Γ))) aF) Γ)))))))
def aB1(T:Txt K mg a)(b:FnOk P w K mg base CX0 1 a.a1n a.a2C ["question","columns"] (dsp 2 jP))(c:FnOk P w K mg base CX0 1 a.a0p a.a0Y ["one","other"] (dsp 2 fE)):FnOk P w K mg base CX0 2 a.a0q a.a1i ["question","columns"] (dsp 2 fF):=by
 refine bX T.a2p nW (by decide) fY (λcdv A outer s H E d=>?_);have nd:=nW.nd;unfold fY;exact(aG (aR (i:=2) nd rfl (Or.inr rfl) (aO (λΓ=>aJ b (d.mono (by decide)) (by rfl) T.a3Y T.a3l.kp (bU8 T) .nil bD (gA (aB (aA (pv 0)) (aB (aA (pv 1)) aF)) Γ))))
  (aK (bP (bZ (ow:=[3]) (aQ (by decide)) (λΓ=>bV (csc [3] (by kernel_rfl)) (gI (bU K (by rfl) (aA (pv 2))) Γ) (λ_ _ _ _=>(aM (i:=3) nd rfl (Or.inr rfl) (.inl rfl))) (aN (by decide)) (λ_ _ _ _=>(cN (bR9 (tX (cJ bW6 (λΓ=>bA (aP9 K (by rfl) (by rfl)) (by rfl) T.a4o bE0 (gA (aB (bZ (ow:=[4]) (aQ (by decide)) (λΓ=>bV (csc [4] (by kernel_rfl)) (gI (bU K (by rfl) (aA (pv 2))) Γ) (λ_ _ _ _=>(aM (i:=4) nd rfl (Or.inl rfl) (.inr rfl))) (aN (by decide)) (λ_ _ _ _=>cX) (λ_ _ _ _=>gE (bW (aO (λΓ=>aJ c (d.mono (by decide)) (by rfl) T.a3G T.a1Z.kp (aI1 T) .nil bD (gA (aB (aA (pv 3)) (aB (aA (pv 4)) aF)) Γ)))) Γ))) aF) Γ))))))) (λ_ _ _ _=>gE (bW (aA (pv 3))) Γ))))))
def aB2(T:Txt K mg a):FnOk P w K mg base CX0 1 a.a0o a.a0W ["columns"] (dsp 1 cL):=by
 refine bX T.a1W nX (by decide) fZ (λcdv A outer s H E b=>?_);have nd:=nX.nd;unfold fZ;exact(aK (bP (bZ (ow:=[1]) (aQ (by decide)) (λΓ=>bV (csc [1] (by kernel_rfl)) (gI (lO (λΓ=>eR (by rfl) T.a0B (gA (aB (cJ cQ (λΓ=>bA bI (by rfl) T.a0Q bQ (gA (aB (aA (pv 0)) aF) Γ))) aF) Γ)) bC8) Γ) (λ_ _ _ _=>(aM (i:=1) nd rfl (Or.inl rfl) (.inr rfl))) (aN (by decide)) (λ_ _ _ _=>cX) (λ_ _ _ _=>gE (bW (aZ bG bH (cY (aA (pv 0)) eU (eC (aA (pv 1)))) (cY (aA (pv 0)) (eC (aZ bG bH (aA (pv 1)) ge_int)) eU))) Γ)))))
def aJ5(T:Txt K mg a):FnOk P w K mg base CX0 1 a.neighbours a.a1y ["columns"] (dsp 1 gB):=by
 refine bX T.a2y qS (by decide) hZ (λcdv A outer s H E b=>?_);have nd:=qS.nd;unfold hZ;exact(aG (iG (ow:=[2]) (i:=1) (aQ (by decide)) (λΓ=>fL (i:=1) nd rfl rfl (csc [2] (by kernel_rfl)) (gI (lO (λΓ=>eR (by rfl) T.a0B (gA (aB (aZ bM9 bS8 (cJ cQ (λΓ=>bA bI (by rfl) T.a0Q bQ (gA (aB (aA (pv 0)) aF) Γ))) ge_int) aF) Γ)) bC8) Γ) (λ_ _ _ _=>(aM (i:=2) nd rfl (Or.inl rfl) (.inr rfl))) (aN (by decide)) (λ_ _ _ _=>cX) (λ_ _ _ _=>gE (bW (cY (aA (pv 0)) (eC (aA (pv 2))) (eC (aZ bG bH (aA (pv 2)) ge_int)))) Γ) rfl))
  (aK (bP (aZ bG bH (aA (pv 1)) (eB (aB (iL (aB (fN (aA (pv 0)) ge_int (λ_ _=>rfl)) (aB (fN (aA (pv 0)) (cD8 bA5 aH3 ge_int) (λ_ _=>rfl)) aF))) aF))))))
def bK6(T:Txt K mg a)(c:FnOk P w K mg base CX0 2 a.a0q a.a1i ["question","columns"] (dsp 2 fF))(d:FnOk P w K mg base CX0 1 a.a0o a.a0W ["columns"] (dsp 1 cL))(e:FnOk P w K mg base CX0 1 a.neighbours a.a1y ["columns"] (dsp 1 gB)):FnOk P w K mg base CX0 3 a.a0L a.a1A ["question","columns"] (dsp 2 cT):=by
 refine bX T.a1Q aD7 (by decide) lA (λcdv A outer s H E b=>?_);have nd:=aD7.nd;unfold lA;exact(aG (jH (GW.gt (cV1 (bY aT7 aH2 (cJ cQ (λΓ=>bA bI (by rfl) T.a0Q bQ (gA (aB (aA (pv 1)) aF) Γ))) (cD7 (by rfl) T.a4j) (bM _)) (bR8 (bY aT7 aH2 (cJ bJ8 (λΓ=>cG0 (id:="len") (U:="set") (aY4 rfl) (by rfl) T.a0Q bQ (by rfl) T.a4t cF0 (gA (aB (aA (pv 1)) aF) Γ))) (cJ cQ (λΓ=>bA bI (by rfl) T.a0Q bQ (gA (aB (aA (pv 1)) aF) Γ))) (bM _))))) (aK (bP sW)) dY)
  (aG (aR (i:=2) nd rfl (Or.inl rfl) (cJ rQ (λΓ=>bA pS (by rfl) T.a3x pP (gA (aB (aO (λΓ=>aJ c (b.mono (by decide)) (by rfl) T.a3F T.a2p.kp (aI2 T) .nil bD (gA (aB (aA (pv 0)) (aB (aA (pv 1)) aF)) Γ))) aF) Γ))))
  (aK (bP (dY3 (jG (jJ b.units) (eE (neg:=false)) (aA (pv 2)) (cJ rQ (λΓ=>bA pS (by rfl) T.a3x pP (gA (aB (aO (λΓ=>aJ d (b.mono (by decide)) (by rfl) T.a3w T.a1W.kp (aI3 T) .nil bD (gA (aB (aA (pv 1)) aF) Γ))) aF) Γ))) (bM _)) (aN0 (jG (jJ b.units) (eE (neg:=false)) (aA (pv 2)) (cJ rQ (λΓ=>bA pS (by rfl) T.a3x pP (gA (aB (aO (λΓ=>aJ e (b.mono (by decide)) (by rfl) T.a3K T.a2y.kp (aP4 T) .nil bD (gA (aB (aA (pv 1)) aF) Γ))) aF) Γ))) (bM _))))))))
def bK7(T:Txt K mg a)(c:FnOk P w K mg base CX0 1 a.a0A a.a1D ["names"] (dsp 1 hX))(d:FnOk P w K mg base CX0 1 a.a0r a.a0P ["question"] (dsp 1 dD))(e:FnOk P w K mg base CX0 2 a.walked a.a2Q ["question","columns"] (dsp 2 kY))(f:FnOk P w K mg base CX0 3 a.a0L a.a1A ["question","columns"] (dsp 2 cT)):FnOk P w K mg base CX0 4 a.a1v a.a2B ["question"] (dsp 1 jQ):=by
 refine bX T.a3k aD8 (by decide) lB (λcdv A outer s H E b=>?_);have nd:=aD8.nd;unfold lB;exact(aG (gY (own:=[1]) (aQ (by decide)) (λΓ=>gO a6d rfl (gI (bU K (by rfl) (aO (λΓ=>aJ c (b.mono (by decide)) (by rfl) T.a3M T.a2K.kp (aX4 T) .nil bD (gA (aB (aO (λΓ=>aJ d (b.mono (by decide)) (by rfl) T.a2X T.a1I.kp (sT T) .nil bD (gA (aB (aA (pv 0)) aF) Γ))) aF) Γ)))) Γ) (aM (i:=1) nd rfl (Or.inl rfl))
  (gSs (aG (aR (i:=2) nd rfl (Or.inl rfl) (aO (λΓ=>aJ e (b.mono (by decide)) (by rfl) T.a4i T.a3z.kp (cF1 T) .nil bD (gA (aB (aA (pv 0)) (aB (aA (pv 1)) aF)) Γ))))
  (aK (jH (tX (aO (λΓ=>aJ f (b.mono (by decide)) (by rfl) T.a2V T.a1Q.kp (qU T) .nil bD (gA (aB (aA (pv 0)) (aB (aA (pv 2)) aF)) Γ)))) (aK (bP (aA (pv 2)))) dY))) Γ)))
  (aK (bP bR5)))
def cZ4(T:Txt K mg a)(b:FnOk P w K mg base CX0 4 a.a0z a.a1G ["question"] (dsp 1 hV))(c:FnOk P w K mg base CX0 4 a.a1v a.a2B ["question"] (dsp 1 jQ)):FnOk P w K mg base CX0 5 a.ears a.a3D ["question"] (dsp 1 jU):=by
 refine bX T.a3S bU5 (by decide) zK (λcdv A outer s H E d=>?_);have nd:=bU5.nd;unfold zK;exact(aG (aR (i:=1) nd rfl (Or.inl rfl) (aO (λΓ=>aJ b (d.mono (by decide)) (by rfl) T.a3N T.a2N.kp (aX3 T) .nil bD (gA (aB (aA (pv 0)) aF) Γ))))
  (aG (jH (bY (jJ d.units) (eE (neg:=false)) (cJ cQ (λΓ=>bA bI (by rfl) T.a0Q bQ (gA (aB (aA (pv 1)) aF) Γ))) (cJ cQ (λΓ=>bA bI (by rfl) T.a0Q bQ (gA (aB (aA (pv 0)) aF) Γ))) (bM _)) (aK (bP (iL (aB qB (aB (bW (aA (pv 1))) aF))))) dY)
  (aK (bP (iL (aB qB (aB (bW (aO (λΓ=>aJ c (d.mono (by decide)) (by rfl) T.a3X T.a3k.kp (bU9 T) .nil bD (gA (aB (aA (pv 0)) aF) Γ)))) aF)))))))
def aQ5(T:Txt K mg a)(c:FnOk P w K mg base CX0 3 a.a0S a.a1S ["left"] (dsp 1 fD))(d:FnOk P w K mg base CX0 1 a.without a.a1z ["question","name"] (dsp 2 eQ)):FnOk P w K mg base CX0 4 a.a0y a.a1J ["question","some"] (dsp 2 dU):=by
 refine bX T.a2m sP (by decide) iU (λcdv A outer s H E b=>?_);have nd:=sP.nd;unfold iU;exact(aG (aR (i:=2) nd rfl (Or.inl rfl) (bW (aA (pv 0))))
  (aG (gY (own:=[3,4]) (iN (bF (aQ (by decide)) (bF (aQ (by decide)) fA))) (λΓ=>gO a6d rfl (gI (bU K (by rfl) (aA (pv 1))) Γ) (dO (n:=2) K rfl rfl (bE (aM (i:=3) nd rfl (Or.inl rfl)) (bE (aM (i:=4) nd rfl (Or.inl rfl)) eW)))
  (gSs (aG (jH (bY (gZ b.units) (hJ (neg:=true)) (iL (aB (bW (aA (pv 3))) (aB (bW (aA (pv 4))) aF))) (aO (λΓ=>aJ c (b.mono (by decide)) (by rfl) T.a3n T.a2A.kp (zD T) .nil bD (gA (aB (aA (pv 2)) aF) Γ))) (by with_unfolding_all rfl)) (aK (bP sW)) dY)
  (aK (aR (i:=2) nd rfl (Or.inl rfl) (aO (λΓ=>aJ d (b.mono (by decide)) (by rfl) T.a3t T.a2x.kp (zC T) .nil bD (gA (aB (aA (pv 2)) (aB (aA (pv 3)) aF)) Γ)))))) Γ)))
  (aK (bP (jG (jJ b.units) (eE (neg:=false)) (cJ cQ (λΓ=>bA bI (by rfl) T.a0Q bQ (gA (aB (aA (pv 2)) aF) Γ))) ge_int (bM _))))))
def aB3(T:Txt K mg a):FnOk P w K mg base CX0 1 a.a2r a.a0V ["_law_question_here"] (dsp 1 fG):=by
 refine bX T.a2s nY (by decide) kD (λcdv A outer s H E b=>?_);have nd:=nY.nd;unfold kD;exact(aG (aR (i:=1) nd rfl (Or.inr rfl) (eB aF))
  (aG (gY (own:=[2,3]) (iN (bF (aQ (by decide)) (bF (aQ (by decide)) fA))) (λΓ=>gO a6d rfl (gI (bU K (by rfl) (aA (pv 0))) Γ) (dO (n:=2) K rfl rfl (bE (aM (i:=2) nd rfl (Or.inl rfl)) (bE (aM (i:=3) nd rfl (Or.inl rfl)) eW)))
  (gSs (aK (gL (rE rK (λΓ=>gW K (by rfl) a4c F.slot_list_extend F.type_list_extend rJ (pv 1) (gA (aB (bZ (ow:=[4]) (aQ (by decide)) (λΓ=>bV (csc [4] (by kernel_rfl)) (gI (bU K (by rfl) (aA (pv 3))) Γ) (λ_ _ _ _=>(aM (i:=4) nd rfl (Or.inl rfl) (.inr rfl))) (aN (by decide)) (λ_ _ _ _=>(cN (bY (gZ b.units) (hJ (neg:=true)) (aA (pv 4)) (aA (pv 1)) (by with_unfolding_all rfl)))) (λ_ _ _ _=>gE (bW (aA (pv 4))) Γ))) aF) Γ))))) Γ)))
  (aK (bP (cJ iY (λΓ=>cI eT (by rfl) T.a1o dL (gA (aB (aA (pv 1)) aF) Γ)))))))
def aB4(T:Txt K mg a):FnOk P w K mg base CX0 1 a.a2k a.a0X ["_law_things","_law_many"] (dsp 2 dG):=by
 refine bX T.a2j nZ (by decide) gC (λcdv A outer s H E b=>?_);have nd:=nZ.nd;unfold gC;exact(aG (aR (i:=2) nd rfl (Or.inl rfl) (eB (aB (iL aF) aF)))
  (aG (gY (own:=[3]) (aQ (by decide)) (λΓ=>gO a6d rfl (gI (lO (λΓ=>eR (by rfl) T.a0B (gA (aB (aA (pv 1)) aF) Γ)) bC8) Γ) (aM (i:=3) nd rfl (Or.inl rfl))
  (gSs (aG (aR (i:=4) nd rfl (Or.inl rfl) (eB aF))
  (aG (gY (own:=[5]) (aQ (by decide)) (λΓ=>gO a6d rfl (gI (bU K (by rfl) (aA (pv 2))) Γ) (aM (i:=5) nd rfl (Or.inr rfl))
  (gSs (aG (aR (i:=6) nd rfl (Or.inl rfl) ge_int)
  (aG (jH (bY bH0 rG (cJ cQ (λΓ=>bA bI (by rfl) T.a0Q bQ (gA (aB (aA (pv 5)) aF) Γ))) ge_int (bM _)) (aK (aR (i:=6) nd rfl (Or.inl rfl) (aZ bG bH (dZ8 cG4 (λΓ=>dO9 F.slot_tuple_index F.type_tuple_index bW1 (gE (aA (pv 0)) Γ) (gA (aB (fN (aA (pv 5)) (cD8 bA5 aH3 ge_int) (λ_ _=>rfl)) aF) Γ))) ge_int))) dY)
  (aK (gL (rE rK (λΓ=>gW K (by rfl) a4c F.slot_list_extend F.type_list_extend rJ (pv 4) (gA (aB (bZ (ow:=[7]) (aQ (by decide)) (λΓ=>bV (csc [7] (by kernel_rfl)) (gI (bU K (by rfl) (cY (aA (pv 0)) (eC (aA (pv 6))) eU)) Γ) (λ_ _ _ _=>(aM (i:=7) nd rfl (Or.inl rfl) (.inr rfl))) (aN (by decide)) (λ_ _ _ _=>cX) (λ_ _ _ _=>gE (bW (aZ bG bH (aA (pv 5)) (iL (aB (bW (aA (pv 7))) aF)))) Γ))) aF) Γ))))))) Γ)))
  (aK (aR (i:=2) nd rfl (Or.inl rfl) (bW (aA (pv 4))))))) Γ)))
  (aK (bP (aA (pv 2))))))
def rT(T:Txt K mg a):FnOk P w K mg base CX0 1 a.a1k a.a0F ["_law_things"] (dsp 1 dW):=by
 refine bX T.a1t kQ (by decide) eK (λcdv A outer s H E b=>?_);have nd:=kQ.nd;unfold eK;exact(aG (aR (i:=1) nd rfl (Or.inl rfl) (eB (aB (bW (cY (aA (pv 0)) eU (eC ge_int))) aF)))
  (aG (gY (own:=[2]) (aQ (by decide)) (λΓ=>gO a6d rfl (gI (bU K (by rfl) (cY (aA (pv 0)) (eC ge_int) eU)) Γ) (aM (i:=2) nd rfl (Or.inr rfl))
  (gSs (aG (aR (i:=3) nd rfl (Or.inl rfl) (eB aF))
  (aG (gY (own:=[4]) (aQ (by decide)) (λΓ=>gO a6d rfl (gI (bU K (by rfl) (aA (pv 1))) Γ) (aM (i:=4) nd rfl (Or.inr rfl))
  (gSs (aK (gL (rE rK (λΓ=>gW K (by rfl) a4c F.slot_list_extend F.type_list_extend rJ (pv 3) (gA (aB (bZ (ow:=[5]) (aQ (by decide)) (λΓ=>bV (csc [5] (by kernel_rfl)) (gI (aV2 (λΓ=>tN (by rfl) T.a0B (gA (aB ge_int (aB (aZ bG bH (cJ cQ (λΓ=>bA bI (by rfl) T.a0Q bQ (gA (aB (aA (pv 4)) aF) Γ))) ge_int) aF)) Γ)) cV4) Γ) (λ_ _ _ _=>(aM (i:=5) nd rfl (Or.inl rfl) (.inr rfl))) (aN (by decide)) (λ_ _ _ _=>cX) (λ_ _ _ _=>gE (bW (aZ bG bH (aZ bG bH (cY (aA (pv 4)) eU (eC (aA (pv 5)))) (iL (aB (bW (aA (pv 2))) aF))) (cY (aA (pv 4)) (eC (aA (pv 5))) eU))) Γ))) aF) Γ))))) Γ)))
  (aK (aR (i:=1) nd rfl (Or.inl rfl) (bW (aA (pv 3))))))) Γ)))
  (aK (bP (aA (pv 1))))))
def aB5(T:Txt K mg a)(d:FnOk P w K mg base CX0 1 a.a2r a.a0V ["_law_question_here"] (dsp 1 fG))(e:FnOk P w K mg base CX0 1 a.a2k a.a0X ["_law_things","_law_many"] (dsp 2 dG))(f:FnOk P w K mg base CX0 1 a.a1k a.a0F ["_law_things"] (dsp 1 dW))(c:FnOk P w K mg base CX0 3 a.a0L a.a1A ["question","columns"] (dsp 2 cT))(g:FnOk P w K mg base CX0 2 a.a0C a.a0t ["_law_box_here","_law_things"] (dsp 2 aT)):FnOk P w K mg base CX0 4 a.a2q a.a1j ["_law_box_here","_law_question_here"] (dsp 2 eL):=by
 refine bX T.a1Y oA (by decide) gD (λcdv A outer s H E b=>?_);have nd:=oA.nd;unfold gD;exact(aG (aR (i:=2) nd rfl (Or.inr rfl) (aO (λΓ=>aJ d (b.mono (by decide)) (by rfl) T.a3B T.a2s.kp (aI4 T) .nil bD (gA (aB (aA (pv 1)) aF) Γ))))
  (aG (gY (own:=[3]) (aQ (by decide)) (λΓ=>gO a6d rfl (gI (aV2 (λΓ=>tN (by rfl) T.a0B (gA (aB ge_int (aB (cJ bD3 (λΓ=>bA (tQ (by rfl)) (by rfl) T.a4m aI0 (gA (aB ge_int (aB (aZ bG bH (cJ cQ (λΓ=>bA bI (by rfl) T.a0Q bQ (gA (aB (aA (pv 2)) aF) Γ))) ge_int) aF)) Γ))) aF)) Γ)) cV4) Γ) (aM (i:=3) nd rfl (Or.inl rfl))
  (gSs (aK (gY (own:=[4]) (aQ (by decide)) (λΓ=>gO a6d rfl (gI (bU K (by rfl) (aO (λΓ=>aJ e (b.mono (by decide)) (by rfl) T.a3A T.a2j.kp (aI5 T) .nil bD (gA (aB (aA (pv 2)) (aB (aA (pv 3)) aF)) Γ)))) Γ) (aM (i:=4) nd rfl (Or.inl rfl))
  (gSs (aK (jH (bY (nS b.units) (hJ (neg:=false)) sW (bZ (ow:=[5]) (aQ (by decide)) (λΓ=>bV (csc [5] (by kernel_rfl)) (gI (bU K (by rfl) (aO (λΓ=>aJ f (b.mono (by decide)) (by rfl) T.a2Z T.a1t.kp (tG T) .nil bD (gA (aB (aA (pv 4)) aF) Γ)))) Γ) (λ_ _ _ _=>(aM (i:=5) nd rfl (Or.inl rfl) (.inr rfl))) (aN (by decide)) (λ_ _ _ _=>cX) (λ_ _ _ _=>gE (bW (aO (λΓ=>aJ c (b.mono (by decide)) (by rfl) T.a2V T.a1Q.kp (qU T) .nil bD (gA (aB (aA (pv 1)) (aB (aA (pv 5)) aF)) Γ)))) Γ))) (by with_unfolding_all rfl)) (aK (bP sW)) dY)) Γ)))) Γ)))
  (aK (bP (jG (gZ b.units) (hJ (neg:=true)) sW (bZ (ow:=[6]) (aQ (by decide)) (λΓ=>bV (csc [6] (by kernel_rfl)) (gI (lO (λΓ=>eR (by rfl) T.a0B (gA (aB ge_int aF) Γ)) bC8) Γ) (λ_ _ _ _=>(aM (i:=6) nd rfl (Or.inl rfl) (.inr rfl))) (aN (by decide)) (λ_ _ _ _=>cX) (λ_ _ _ _=>gE (bW (aO (λΓ=>aJ c (b.mono (by decide)) (by rfl) T.a2V T.a1Q.kp (qU T) .nil bD (gA (aB (aA (pv 1)) (aB (cJ iY (λΓ=>cI eT (by rfl) T.a1o dL (gA (aB (aO (λΓ=>aJ g (b.mono (by decide)) (by rfl) T.a0v T.a0n.kp (dZ T) .nil bD (gA (aB (aA (pv 0)) (aB (aA (pv 2)) aF)) Γ))) aF) Γ))) aF)) Γ)))) Γ))) (by with_unfolding_all rfl))))))
def aB6(T:Txt K mg a):FnOk P w K mg base CX0 1 a.a1B a.a0H ["_law_left","_law_kt"] (dsp 2 bT):=by
 refine bX T.a0N oB (by decide) gF (λcdv A outer s H E b=>?_);have nd:=oB.nd;unfold gF;exact(aG (aR (i:=2) nd rfl (Or.inl rfl) (dO4 (dX6 b) (cJ cF8 (λΓ=>cI (bJ7 rfl) (by rfl) T.a4p bU4 (gA (aB (aA (pv 0)) aF) Γ))) (aA (pv 1)) (λ_ _=>rfl)))
  (aG (aR (i:=3) nd rfl (Or.inr rfl) (bZ (ow:=[5,6]) (iN (bF (aQ (by decide)) (bF (aQ (by decide)) fA))) (λΓ=>bV (csc [5,6] (by kernel_rfl)) (gI (bU K (by rfl) (aA (pv 0))) Γ) (λ_ _ _ _=>(dO (n:=2) K rfl rfl (bE (aM (i:=5) nd rfl (Or.inl rfl) (.inr rfl)) (bE (aM (i:=6) nd rfl (Or.inl rfl) (.inr rfl)) eW)))) (fV (bN (aN (by decide)) (bN (aN (by decide)) fU bO) bO)) (λ_ _ _ _=>(cN (bY (mE b.units) (eE (neg:=true)) (aA (pv 5)) (aA (pv 1)) (bM _)))) (λ_ _ _ _=>gE (iL (aB (bW (aA (pv 5))) (aB (bW (aA (pv 6))) aF))) Γ))))
  (aG (aR (i:=4) nd rfl (Or.inr rfl) (bZ (ow:=[7]) (aQ (by decide)) (λΓ=>bV (csc [7] (by kernel_rfl)) (gI (bU K (by rfl) (aA (pv 2))) Γ) (λ_ _ _ _=>(aM (i:=7) nd rfl (Or.inr rfl) (.inl rfl))) (aN (by decide)) (λ_ _ _ _=>(cN (bY (mE b.units) (eE (neg:=true)) (bZ (ow:=[5,6]) (iN (bF (aQ (by decide)) (bF (aQ (by decide)) fA))) (λΓ=>bV (csc [5,6] (by kernel_rfl)) (gI (bU K (by rfl) (aA (pv 3))) Γ) (λ_ _ _ _=>(dO (n:=2) K rfl rfl (bE (aM (i:=5) nd rfl (Or.inl rfl) (.inr rfl)) (bE (aM (i:=6) nd rfl (Or.inl rfl) (.inr rfl)) eW)))) (fV (bN (aN (by decide)) (bN (aN (by decide)) fU bO) bO)) (λ_ _ _ _=>(cN (bY (nS b.units) (hJ (neg:=false)) (aA (pv 7)) (aA (pv 6)) (by with_unfolding_all rfl)))) (λ_ _ _ _=>gE ge_int Γ))) (eB aF) (bM _)))) (λ_ _ _ _=>gE (bW (aA (pv 7))) Γ))))
  (aK (bP (bZ (ow:=[5,6]) (iN (bF (aQ (by decide)) (bF (aQ (by decide)) fA))) (λΓ=>bV (csc [5,6] (by kernel_rfl)) (gI (bU K (by rfl) (aA (pv 3))) Γ) (λ_ _ _ _=>(dO (n:=2) K rfl rfl (bE (aM (i:=5) nd rfl (Or.inl rfl) (.inr rfl)) (bE (aM (i:=6) nd rfl (Or.inr rfl) (.inl rfl)) eW)))) (fV (bN (aN (by decide)) (bN (aN (by decide)) fU bO) bO)) (λ_ _ _ _=>(cN (tX (cJ aW0 (λΓ=>bA (uE K (by rfl) (by rfl)) (by rfl) T.a4n aH9 (gA (aB (bZ (ow:=[7]) (aQ (by decide)) (λΓ=>bV (csc [7] (by kernel_rfl)) (gI (bU K (by rfl) (aA (pv 4))) Γ) (λ_ _ _ _=>(aM (i:=7) nd rfl (Or.inl rfl) (.inr rfl))) (aN (by decide)) (λ_ _ _ _=>cX) (λ_ _ _ _=>gE (jG (nS b.units) (hJ (neg:=false)) (aA (pv 7)) (aA (pv 6)) (by with_unfolding_all rfl)) Γ))) aF) Γ)))))) (λ_ _ _ _=>gE (bW (aA (pv 5))) Γ))))))))
def aQ6(T:Txt K mg a)(c:FnOk P w K mg base CX0 1 a.a1B a.a0H ["_law_left","_law_kt"] (dsp 2 bT))(d:FnOk P w K mg base CX0 1 a.a0O a.a0s ["_law_box_here","_law_many"] (dsp 2 aI)):FnOk P w K mg base CX0 2 a.a2U a.a1E ["_law_box_here","_law_question_here"] (dsp 2 fO):=by
 refine bX T.a2M sQ (by decide) iV (λcdv A outer s H E b=>?_);have nd:=sQ.nd;unfold iV;exact(aG (aR (i:=2) nd rfl (Or.inr rfl) (cJ aH8 (λΓ=>cI rC (by rfl) T.a3v kM (gA (aB (aA (pv 1)) aF) Γ))))
  (aG (aR (i:=3) nd rfl (Or.inl rfl) (eB aF))
  (aG (aH1 (λΓ=>aF5 a6d (gT (bY bH0 rG (cJ cQ (λΓ=>bA bI (by rfl) T.a0Q bQ (gA (aB (aA (pv 2)) aF) Γ))) ge_int (bM _)) Γ)
  (gSs (aG (iG (ow:=[5,7]) (i:=4) (iN (bF (aQ (by decide)) (bF (aQ (by decide)) fA))) (λΓ=>fL (i:=4) nd rfl rfl (csc [5,7] (by kernel_rfl)) (gI (bU K (by rfl) (aA (pv 2))) Γ) (λ_ _ _ _=>(dO (n:=2) K rfl rfl (bE (aM (i:=5) nd rfl (Or.inl rfl) (.inr rfl)) (bE (aM (i:=7) nd rfl (Or.inl rfl) (.inr rfl)) eW)))) (fV (bN (aN (by decide)) (bN (aN (by decide)) fU bO) bO)) (λ_ _ _ _=>(cN (bY (mE b.units) (eE (neg:=true)) (aO (λΓ=>aJ c (b.mono (by decide)) (by rfl) T.a2t T.a0N.kp (lU T) .nil bD (gA (aB (aA (pv 2)) (aB (aA (pv 5)) aF)) Γ))) (eB aF) (bM _)))) (λ_ _ _ _=>gE (bW (aA (pv 5))) Γ) rfl))
  (aG (jH (bY (jJ b.units) (eE (neg:=false)) (aA (pv 4)) (eB aF) (bM _)) (aK (iG (ow:=[5,7]) (i:=4) (iN (bF (aQ (by decide)) (bF (aQ (by decide)) fA))) (λΓ=>fL (i:=4) nd rfl rfl (csc [5,7] (by kernel_rfl)) (gI (bU K (by rfl) (aA (pv 2))) Γ) (λ_ _ _ _=>(dO (n:=2) K rfl rfl (bE (aM (i:=5) nd rfl (Or.inl rfl) (.inr rfl)) (bE (aM (i:=7) nd rfl (Or.inl rfl) (.inr rfl)) eW)))) (fV (bN (aN (by decide)) (bN (aN (by decide)) fU bO) bO)) (λ_ _ _ _=>cX) (λ_ _ _ _=>gE (bW (aA (pv 5))) Γ) rfl))) dY)
  (aG (aR (i:=5) nd rfl (Or.inr rfl) (fN (aA (pv 4)) (aO (λΓ=>aJ d (b.mono (by decide)) (by rfl) T.a0k T.a0j.kp (bB T) .nil bD (gA (aB (aA (pv 0)) (aB (cJ cQ (λΓ=>bA bI (by rfl) T.a0Q bQ (gA (aB (aA (pv 4)) aF) Γ))) aF)) Γ))) (λ_ _=>rfl)))
  (aG (aR (i:=6) nd rfl (Or.inl rfl) (aZ bG bH (aO (λΓ=>aJ c (b.mono (by decide)) (by rfl) T.a2t T.a0N.kp (lU T) .nil bD (gA (aB (aA (pv 2)) (aB (aA (pv 5)) aF)) Γ))) (bZ (ow:=[9,7]) (iN (bF (aQ (by decide)) (bF (aQ (by decide)) fA))) (λΓ=>bV (csc [9,7] (by kernel_rfl)) (gI (bU K (by rfl) (aA (pv 2))) Γ) (λ_ _ _ _=>(dO (n:=2) K rfl rfl (bE (aM (i:=9) nd rfl (Or.inl rfl) (.inr rfl)) (bE (aM (i:=7) nd rfl (Or.inl rfl) (.inr rfl)) eW)))) (fV (bN (aN (by decide)) (bN (aN (by decide)) fU bO) bO)) (λ_ _ _ _=>(cN (bY (mE b.units) (eE (neg:=true)) (aA (pv 9)) (aA (pv 5)) (bM _)))) (λ_ _ _ _=>gE (bW (aA (pv 9))) Γ)))))
  (aG (gL (jX lQ (λΓ=>gW K (by rfl) a4c a1e a2e eX (pv 3) (gA (aB (iL (aB (bW (aA (pv 5))) (aB (fN (aA (pv 6)) ge_int (λ_ _=>rfl)) aF))) aF) Γ))))
  (aK (aR (i:=2) nd rfl (Or.inr rfl) (bZ (ow:=[8]) (aQ (by decide)) (λΓ=>bV (csc [8] (by kernel_rfl)) (gI (bU K (by rfl) (aA (pv 2))) Γ) (λ_ _ _ _=>(aM (i:=8) nd rfl (Or.inl rfl) (.inr rfl))) (aN (by decide)) (λ_ _ _ _=>(cN (bY (mE b.units) (eE (neg:=true)) (fN (aA (pv 8)) ge_int (λ_ _=>rfl)) (aA (pv 5)) (bM _)))) (λ_ _ _ _=>gE (bW (aA (pv 8))) Γ)))))))))) Γ)))
  (aK (bP (aZ bG bH (aA (pv 3)) (eB (aB (iL (aB (fN (fN (aA (pv 2)) ge_int (λ_ _=>rfl)) ge_int (λ_ _=>rfl)) (aB bR5 aF))) aF))))))))
def aQ7(T:Txt K mg a):FnOk P w K mg base CX0 1 a.a2S a.a1K ["_law_found","_law_due"] (dsp 2 fP):=by
 refine bX T.a2G sR (by decide) iW (λcdv A outer s H E b=>?_);have nd:=sR.nd;unfold iW;exact(aK (bP (bC6 (dM7 (c:="bool") K (by decide) (λΓ=>bA (bT4 K (by rfl)) (by rfl) T.a3I yX (cD (gE (aA (pv 0)) Γ) (cD (cR4 (v:=.ty "bool") (by rfl) T.a4r bU3 rfl) gS)))) (aN0 (jG (jJ b.units) (eE (neg:=false)) (aA (pv 0)) (aA (pv 1)) (bM _))))))
def cZ5(T:Txt K mg a):FnOk P w K mg base CX0 1 a.part a.a3C ["question","tables"] (dsp 2 nO):=by
 refine bX T.a3W bU6 (by decide) zL (λcdv A outer s H E b=>?_);have nd:=bU6.nd;unfold zL;exact(aK (bP (cJ iY (λΓ=>cI eT (by rfl) T.a1o dL (gA (aB (bZ (ow:=[2]) (aQ (by decide)) (λΓ=>bV (csc [2] (by kernel_rfl)) (gI (bU K (by rfl) (aA (pv 0))) Γ) (λ_ _ _ _=>(aM (i:=2) nd rfl (Or.inl rfl) (.inr rfl))) (aN (by decide)) (λ_ _ _ _=>(cN (bY (nS b.units) (hJ (neg:=false)) (fN (aA (pv 2)) ge_int (λ_ _=>rfl)) (aA (pv 1)) (by with_unfolding_all rfl)))) (λ_ _ _ _=>gE (bW (aA (pv 2))) Γ))) aF) Γ)))))
def aQ8(T:Txt K mg a)(e:FnOk P w K mg base CX0 1 a.a1B a.a0H ["_law_left","_law_kt"] (dsp 2 bT))(c:FnOk P w K mg base CX0 2 a.a0C a.a0t ["_law_box_here","_law_things"] (dsp 2 aT))(d:FnOk P w K mg base CX0 1 a.a0O a.a0s ["_law_box_here","_law_many"] (dsp 2 aI))(f:FnOk P w K mg base CX0 1 a.part a.a3C ["question","tables"] (dsp 2 nO))(g:FnOk P w K mg base CX0 3 a.a2F a.a0R ["_law_box_here","_law_things"] (dsp 2 bR)):FnOk P w K mg base CX0 4 a.a2W a.a1L ["_law_box_here","_law_question_here"] (dsp 2 fQ):=by
 refine bX T.a2L sS (by decide) iX (λcdv A outer s H E b=>?_);have nd:=sS.nd;unfold iX;exact(aG (iG (ow:=[5,7]) (i:=2) (iN (bF (aQ (by decide)) (bF (aQ (by decide)) fA))) (λΓ=>fL (i:=2) nd rfl rfl (csc [5,7] (by kernel_rfl)) (gI (bU K (by rfl) (aA (pv 1))) Γ) (λ_ _ _ _=>(dO (n:=2) K rfl rfl (bE (aM (i:=5) nd rfl (Or.inl rfl) (.inr rfl)) (bE (aM (i:=7) nd rfl (Or.inl rfl) (.inr rfl)) eW)))) (fV (bN (aN (by decide)) (bN (aN (by decide)) fU bO) bO)) (λ_ _ _ _=>cX) (λ_ _ _ _=>gE (bW (aA (pv 5))) Γ) rfl))
  (aG (iG (ow:=[5]) (i:=3) (aQ (by decide)) (λΓ=>fL (i:=3) nd rfl rfl (csc [5] (by kernel_rfl)) (gI (bU K (by rfl) (aA (pv 2))) Γ) (λ_ _ _ _=>(aM (i:=5) nd rfl (Or.inl rfl) (.inr rfl))) (aN (by decide)) (λ_ _ _ _=>(cN (bY (mE b.units) (eE (neg:=true)) (aO (λΓ=>aJ e (b.mono (by decide)) (by rfl) T.a2t T.a0N.kp (lU T) .nil bD (gA (aB (aA (pv 1)) (aB (aA (pv 5)) aF)) Γ))) (eB aF) (bM _)))) (λ_ _ _ _=>gE (bW (aA (pv 5))) Γ) rfl))
  (aG (aR (i:=4) nd rfl (Or.inl rfl) (eB (aB (cJ iY (λΓ=>cI eT (by rfl) T.a1o dL (gA (aB (aO (λΓ=>aJ c (b.mono (by decide)) (by rfl) T.a0v T.a0n.kp (dZ T) .nil bD (gA (aB (aA (pv 0)) (aB (bZ (ow:=[5,6]) (iN (bF (aQ (by decide)) (bF (aQ (by decide)) fA))) (λΓ=>bV (csc [5,6] (by kernel_rfl)) (gI (bU K (by rfl) (aA (pv 1))) Γ) (λ_ _ _ _=>(dO (n:=2) K rfl rfl (bE (aM (i:=5) nd rfl (Or.inl rfl) (.inr rfl)) (bE (aM (i:=6) nd rfl (Or.inl rfl) (.inr rfl)) eW)))) (fV (bN (aN (by decide)) (bN (aN (by decide)) fU bO) bO)) (λ_ _ _ _=>cX) (λ_ _ _ _=>gE (iL (aB (bW (aA (pv 5))) (aB (cJ iY (λΓ=>cI eT (by rfl) T.a1o dL (gA (aB (aO (λΓ=>aJ c (b.mono (by decide)) (by rfl) T.a0v T.a0n.kp (dZ T) .nil bD (gA (aB (aA (pv 0)) (aB (aA (pv 6)) aF)) Γ))) aF) Γ))) aF))) Γ))) aF)) Γ))) aF) Γ))) aF)))
  (aG (jH (bY (mE b.units) (eE (neg:=true)) (aA (pv 3)) (eB aF) (bM _)) (aG (aR (i:=5) nd rfl (Or.inr rfl) (fN (aA (pv 3)) (aO (λΓ=>aJ d (b.mono (by decide)) (by rfl) T.a0k T.a0j.kp (bB T) .nil bD (gA (aB (aA (pv 0)) (aB (cJ cQ (λΓ=>bA bI (by rfl) T.a0Q bQ (gA (aB (aA (pv 3)) aF) Γ))) aF)) Γ))) (λ_ _=>rfl)))
  (aK (gL (jX lQ (λΓ=>gW K (by rfl) a4c a1e a2e eX (pv 4) (gA (aB (bW (aO (λΓ=>aJ f (b.mono (by decide)) (by rfl) T.a4s T.a3W.kp (dO1 T) .nil bD (gA (aB (aA (pv 1)) (aB (bZ (ow:=[8]) (aQ (by decide)) (λΓ=>bV (csc [8] (by kernel_rfl)) (gI (bU K (by rfl) (aA (pv 2))) Γ) (λ_ _ _ _=>(aM (i:=8) nd rfl (Or.inl rfl) (.inr rfl))) (aN (by decide)) (λ_ _ _ _=>(cN (bY (mE b.units) (eE (neg:=true)) (aA (pv 8)) (aA (pv 5)) (bM _)))) (λ_ _ _ _=>gE (bW (aA (pv 8))) Γ))) aF)) Γ)))) aF) Γ)))))) dY)
  (aG (jH (GW.gt (cO3 (bY aT7 aH2 (cJ cQ (λΓ=>bA bI (by rfl) T.a0Q bQ (gA (aB (aA (pv 1)) aF) Γ))) ge_int (bM _)) (bR7 (bY (gZ b.units) (hJ (neg:=true)) qB (aA (pv 2)) (by with_unfolding_all rfl))))) (aG (aR (i:=6) nd rfl (Or.inl rfl) (fN (fN (aA (pv 1)) (aO (λΓ=>aJ d (b.mono (by decide)) (by rfl) T.a0k T.a0j.kp (bB T) .nil bD (gA (aB (aA (pv 0)) (aB (cJ cQ (λΓ=>bA bI (by rfl) T.a0Q bQ (gA (aB (aA (pv 1)) aF) Γ))) aF)) Γ))) (λ_ _=>rfl)) ge_int (λ_ _=>rfl)))
  (aK (gL (jX lQ (λΓ=>gW K (by rfl) a4c a1e a2e eX (pv 4) (gA (aB (bW (aZ bG bH (aA (pv 1)) (iL (aB (iL (aB qB (aB (cJ iY (λΓ=>cI eT (by rfl) T.a1o dL (gA (aB (aO (λΓ=>aJ g (b.mono (by decide)) (by rfl) T.a1P T.a0T.kp (kR T) .nil bD (gA (aB (aA (pv 0)) (aB (aA (pv 6)) aF)) Γ))) aF) Γ))) aF))) aF)))) aF) Γ)))))) dY)
  (aK (bP (aA (pv 4)))))))))
def dP6(T:Txt K mg a)(f:FnOk P w K mg base CX0 5 a.a1H a.a0K ["_law_box_here"] (bS6 1 dM))(c:FnOk P w K mg base CX0 1 a.a3E a.a2D ["_law_script","_law_k"] (dsp 2 cS))(d:FnOk P w K mg base CX0 5 a.ears a.a3D ["question"] (dsp 1 jU))(e:FnOk P w K mg base CX0 4 a.a0y a.a1J ["question","some"] (dsp 2 dU))(g:FnOk P w K mg base CX0 4 a.a2q a.a1j ["_law_box_here","_law_question_here"] (dsp 2 eL))(h:FnOk P w K mg base CX0 3 a.a0L a.a1A ["question","columns"] (dsp 2 cT))(j:FnOk P w K mg base CX0 2 a.a2U a.a1E ["_law_box_here","_law_question_here"] (dsp 2 fO))(k:FnOk P w K mg base CX0 1 a.a2S a.a1K ["_law_found","_law_due"] (dsp 2 fP))(l:FnOk P w K mg base CX0 4 a.a2W a.a1L ["_law_box_here","_law_question_here"] (dsp 2 fQ)):FnOk P w K mg base CX0 6 a.law a.a4l ["_law_script"] (bS6 1 zM):=by
 refine aV4 T.a4v cP1 (by decide) aE3 aY7 (λcdv A outer s H E b=>GM.to ?_);have nd:=cP1.nd;unfold aE3;exact(aY5 (bW8 (aY6 gG) (λΓ=>aL0 (i:=1) nd rfl (Or.inl rfl) (aJ f (b.mono (by decide)) (by rfl) T.a3u T.a1N.kp (aA8 T) .nil bD (gA (aB (aO (λΓ=>aJ c (b.mono (by decide)) (by rfl) T.a2T T.a1O.kp (qT T) .nil bD (gA (aB (aA (pv 0)) (aB ge_int aF)) Γ))) aF) Γ))))
  (bW7 (aG (dL5 (own:=[2,3]) (iN (bF (aQ (by decide)) (bF (aQ (by decide)) fA))) (λΓ=>bM3 (gE (bW (aO (λΓ=>aJ d (b.mono (by decide)) (by rfl) T.a4k T.a3S.kp (cP2 T) .nil bD (gA (aB (aA (pv 1)) aF) Γ)))) Γ) (dO (n:=2) K rfl rfl (bE (aM (i:=2) nd rfl (Or.inl rfl)) (bE (aM (i:=3) nd rfl (Or.inl rfl)) eW)))))
  (aG (jH (bY (jJ b.units) (eE (neg:=false)) (aA (pv 2)) qB (bM _)) (aK (jH (GW.gt (cV1 (bY bQ6 (cO6 (neg:=true)) (aO (λΓ=>aJ e (b.mono (by decide)) (by rfl) T.a3q T.a2m.kp (zE T) .nil bD (gA (aB (aA (pv 1)) (aB (aA (pv 3)) aF)) Γ))) sW (bM _)) (bR8 (bR9 (tX (aO (λΓ=>aJ g (b.mono (by decide)) (by rfl) T.a3y T.a1Y.kp (aI6 T) .nil bD (gA (aB (aO (λΓ=>aJ c (b.mono (by decide)) (by rfl) T.a2T T.a1O.kp (qT T) .nil bD (gA (aB (aA (pv 0)) (aB ge_int aF)) Γ))) (aB (aA (pv 1)) aF)) Γ)))))))) (aK (bP sW)) dY)) (aK (jH (GW.gt (cV1 (bY (mE b.units) (eE (neg:=true)) (aA (pv 2)) qB (bM _)) (bR8 (bY bQ6 (cO6 (neg:=true)) (aO (λΓ=>aJ h (b.mono (by decide)) (by rfl) T.a2V T.a1Q.kp (qU T) .nil bD (gA (aB (aA (pv 1)) (aB (aA (pv 3)) aF)) Γ))) sW (bM _))))) (aK (bP sW)) dY)))
  (aG (gY (own:=[4]) (aQ (by decide)) (λΓ=>gO a6d rfl (gI (aV2 (λΓ=>tN (by rfl) T.a0B (gA (aB ge_int (aB ge_int aF)) Γ)) cV4) Γ) (aM (i:=4) nd rfl (Or.inl rfl))
  (gSs (aG (aR (i:=5) nd rfl (Or.inl rfl) (aO (λΓ=>aJ e (b.mono (by decide)) (by rfl) T.a3q T.a2m.kp (zE T) .nil bD (gA (aB (aA (pv 1)) (aB (aO (λΓ=>aJ j (b.mono (by decide)) (by rfl) T.a3P T.a2M.kp (aX5 T) .nil bD (gA (aB (aO (λΓ=>aJ c (b.mono (by decide)) (by rfl) T.a2T T.a1O.kp (qT T) .nil bD (gA (aB (aA (pv 0)) (aB (aA (pv 4)) aF)) Γ))) (aB (aA (pv 1)) aF)) Γ))) aF)) Γ))))
  (aK (jH (bR9 (tX (aO (λΓ=>aJ k (b.mono (by decide)) (by rfl) T.a3Q T.a2G.kp (aX6 T) .nil bD (gA (aB (aA (pv 5)) (aB (jG (jJ b.units) (eE (neg:=false)) (aA (pv 2)) qB (bM _)) aF)) Γ))))) (aK (bP sW)) dY))) Γ)))
  (aG (gY (own:=[6]) (aQ (by decide)) (λΓ=>gO a6d rfl (gI (bU K (by rfl) (aO (λΓ=>aJ l (b.mono (by decide)) (by rfl) T.a3O T.a2L.kp (aX7 T) .nil bD (gA (aB (aO (λΓ=>aJ c (b.mono (by decide)) (by rfl) T.a2T T.a1O.kp (qT T) .nil bD (gA (aB (aA (pv 0)) (aB ge_int aF)) Γ))) (aB (aA (pv 1)) aF)) Γ)))) Γ) (aM (i:=6) nd rfl (Or.inl rfl))
  (gSs (aK (jH (bY (mE b.units) (eE (neg:=true)) (fN (aO (λΓ=>aJ d (b.mono (by decide)) (by rfl) T.a4k T.a3S.kp (cP2 T) .nil bD (gA (aB (aA (pv 6)) aF) Γ))) ge_int (λ_ _=>rfl)) (aA (pv 2)) (bM _)) (aK (bP sW)) dY)) Γ)))
  (aK (bP sW))))))))
end
end Mr
namespace Dv
open PySem L2 Mr
mutual
def smp:D->Bool
 | .non=>true
 | .int _=>true
 | .str z=>PyData.strOk z
 | .tup l=>smps l
 | .lst l=>smps l
 | _=>false
def smps:List D->Bool
 | []=>true
 | d::r=>smp d&&smps r
end
mutual
theorem bX1:∀ {d:D},smp d=true->(nN d).canLay0=true
 | .non,_=>rfl
 | .int _,_=>rfl
 | .str z,h=>h
 | .tup l,h=>smps_lay (l:=l) h
 | .lst l,h=>smps_lay (l:=l) h
 | .bl _,h=>nomatch h
 | .dic _ _,h=>nomatch h
theorem smps_lay:∀ {l:List D},smps l=true->PyData.canLayAll0 (toPys l)=true
 | [],_=>rfl
 | d::r,h=>by
   have h':smp d=true/\smps r=true:=by simpa[smps]using h
   show((nN d).canLay0&&PyData.canLayAll0 (toPys r))=true;rw[bX1 h'.1,smps_lay h'.2];rfl
end
mutual
theorem bX2:∀ {d e:D},smp d=true->smp e=true->(PyData.eqv (nN d) (nN e)=true↔d=e)
 | .non,e,_,he=>by cases e<;>simp_all [nN,PyData.eqv,smp]
 | .str x,e,_,he=>by cases e<;>simp_all [nN,PyData.eqv,smp]
 | .int i,e,_,he=>by cases e<;>simp_all [nN,PyData.eqv,smp]
 | .tup l,e,hd,he=>by
   cases e with
   | tup m=>
     show PyData.eqvAll (toPys l) (toPys m)=true↔_;rw[eqvs_smp (l:=l) (m:=m) hd he,D.tup.injEq]
   | _=>simp_all [nN,PyData.eqv,smp]
 | .lst l,e,hd,he=>by
   cases e with
   | lst m=>
     show PyData.eqvAll (toPys l) (toPys m)=true↔_;rw[eqvs_smp (l:=l) (m:=m) hd he,D.lst.injEq]
   | _=>simp_all [nN,PyData.eqv,smp]
 | .bl _,_,h,_=>nomatch h
 | .dic _ _,_,h,_=>nomatch h
theorem eqvs_smp:∀ {l m:List D},smps l=true->smps m=true->(PyData.eqvAll (toPys l) (toPys m)=true↔l=m)
 | [],[],_,_=>by simp[toPys,PyData.eqvAll]
 | [],e::m,_,_=>by simp[toPys,PyData.eqvAll]
 | d::l,[],_,_=>by simp[toPys,PyData.eqvAll]
 | d::l,e::m,hd,he=>by
   have a:smp d=true/\smps l=true:=by simpa[smps]using hd
   have b:smp e=true/\smps m=true:=by simpa[smps]using he
   show((nN d).eqv (nN e)&&PyData.eqvAll (toPys l) (toPys m))=true↔_;rw[a2f,bX2 a.1 b.1,eqvs_smp a.2 b.2,List.cons.injEq]
end
structure Ok(n:Nat)(d:D):Prop where
 smp:Dv.smp d=true
 dep:(nN d).depth<=n
theorem aZ0:∀ {l:List D},(∀ d∈l,smp d=true)->smps l=true
 | [],_=>rfl
 | d::r,h=>by
   show(smp d&&smps r)=true;rw[h d a4a,aZ0 λx a=>h x (a6a _ a)];rfl
theorem aJ6{n:Nat}:∀ {l:List D},(∀ d∈l,(nN d).depth<=n)->PyData.depthAll (toPys l)<=n
 | [],_=>a7c _
 | d::r,h=>Nat.max_le.mpr ⟨h d a4a,aJ6 λx a=>h x (a6a _ a)⟩
theorem Ok.lst{n:Nat}{l:List D}(h:∀ d∈l,Ok n d):Ok (n+1) (.lst l):=⟨aZ0 λd hd=>(h d hd).smp,Nat.succ_le_succ (aJ6 λd hd=>(h d hd).dep)⟩
theorem Ok.tup{n:Nat}{l:List D}(h:∀ d∈l,Ok n d):Ok (n+1) (.tup l):=⟨aZ0 λd hd=>(h d hd).smp,Nat.succ_le_succ (aJ6 λd hd=>(h d hd).dep)⟩
theorem Ok.int{n:Nat}{i:Int}:Ok n (.int i):=⟨rfl,a7c _⟩
theorem Ok.non{n:Nat}:Ok n .non:=⟨rfl,a7c _⟩
theorem Ok.str{n:Nat}{z:Str}(h:∀ c∈z.cps.toList,c < 128):Ok n (.str z):=by
 refine⟨?_,a7c _⟩;show PyData.strOk z=true;unfold PyData.strOk;rw[← Array.all_toList,a3g];intro c a;have:=h c a;simp;lia
def Ok.cmp{n:Nat}{d:D}(h:Ok n d)(hn:n<=60):jR d=true:=by
 unfold jR;rw[bX1 h.smp,a4C (a8b h.dep hn)];rfl
def bX3{n m:Nat}{d e:D}(a:Ok n d)(b:Ok m e):tL d e=decide (d=e):=by
 rw[a3e,a4D];exact bX2 a.smp b.smp
def aQ9{neg:Bool}{n m:Nat}{d e:D}(a:Ok n d)(b:Ok m e)(hn:n<=60)(hm:m<=60){K:Res->Prop}(k:K (.val (.bl (if neg=true then !decide (d=e)else decide (d=e))))):OK1 (eqD neg d e) K:=by
 unfold eqD;rw[a4y ⟨a.cmp hn,b.cmp hm⟩,bX3 a b];exact k
def aE4{neg:Bool}{n:Nat}{l:List D}(h:∀ d∈l,Ok n d)(hn:n < 60){K:Res->Prop}(k:K (.val (.bl (if neg=true then !l.isEmpty else l.isEmpty)))):OK1 (eqD neg (.lst l) (.lst [])) K:=by
 refine aQ9 (n:=n+1) (m:=1) (.lst h) (.lst (n:=0) λ_ z=>absurd z List.not_mem_nil) (by lia) (by decide) ?_;rw[show decide (D.lst l=D.lst [])=l.isEmpty by rw[a3e,a4D,D.lst.injEq,List.isEmpty_iff]];exact k
theorem cQ2{n m:Nat}{d:D}(h:Ok n d):∀ {l:List D},(∀ x∈l,Ok m x)->(l.any λy=>tL y d)=decide (d∈l)
 | [],_=>by simp
 | x::r,hl=>by
   rw[List.any_cons,cQ2 h λy a=>hl y (a6a _ a),bX3 (hl x a4a) h,a3e,Bool.or_eq_true,a4D,a4D,a4D,a3b,eq_comm]
def cQ3{neg:Bool}{n m:Nat}{d:D}{l:List D}{b:Bool}(c:Ok n d)(a:∀ x∈l,Ok m x)(hn:n<=60)(hm:m < 60){K:Res->Prop}(k:K (.val (.bl (if neg=true then !decide (d∈l)else decide (d∈l))))):OK1 (inD neg d (if b=true then .lst l else .tup l)) K:=by
 have e:inD neg d (if b=true then .lst l else .tup l)=if jR d=true/\jR (if b=true then .lst l else .tup l)=true then some (.val (.bl (if neg then !(l.any λy=>tL y d)else l.any λy=>tL y d)))else none:=by
  cases b<;>cases d<;>rfl
 have f:jR (if b=true then .lst l else .tup l)=true:=by
  cases b;exact(Ok.tup a).cmp (by lia);exact(Ok.lst a).cmp (by lia)
 rw[e,a4y ⟨c.cmp hn,f⟩,cQ2 c a];exact k
def zP{neg:Bool}{n m:Nat}{d:D}{l:List D}(a:Ok n d)(c:∀ x∈l,Ok m x)(hn:n<=60)(hm:m < 60){K:Res->Prop}(k:K (.val (.bl (if neg=true then !decide (d∈l)else decide (d∈l))))):OK1 (inD neg d (.lst l)) K:=cQ3 (b:=true) a c hn hm k
def cZ6{neg:Bool}{n m:Nat}{d:D}{l:List D}(a:Ok n d)(c:∀ x∈l,Ok m x)(hn:n<=60)(hm:m < 60){K:Res->Prop}(k:K (.val (.bl (if neg=true then !decide (d∈l)else decide (d∈l))))):OK1 (inD neg d (.tup l)) K:=cQ3 (b:=false) a c hn hm k
end Dv
namespace Mr
open PySem L2 Dv
local macro_rules | `(tactic| walk_at "dx")=>do
 let l:=("cW5 uG uH uI uJ uK uL uM uN uO uP uQ uR uT uU uV uW uX aW1 uY mW oG uZ vA oH oJ oK vB vC aW2 vD vE aW3 vF vG vH vI vJ vK oM oN vL vM vN vO vP oO vQ oP vR vS vT vU vV zG vW vX vY oQ oR vZ wA wB wC wD wE wF wG wH wI aW4 oS lR oU wJ wK oV wX wY wZ xA xB xC xE xF xG pR aW5 xH pE pF lV jL zF nD pQ pO xJ pG pH pI xK xL xM xN xO aW6 aW7 aW8 aW9 xP xQ xR pJ pK xS pL xT xU pM lT xV pN aO2 xW xX xY xZ aX0 yA cX2 yB yC mX cA yD yE yF yG wL wM wN wO wP wQ wR wS wT oW oX oY oZ wU wV wW reduceIte".splitOn " ").toArray.map fun s=>Lean.mkIdent s.toName
 let m:=("yH yI yJ aO3 aX1 Int.reducePow Int.reduceNeg Int.reduceLT Int.reduceLE Nat.reducePow Nat.reduceLT Int.reduceToNat Nat.reduceLeDiff yM yK aX2 yL pA pB pC pD List.set_cons_zero List.set_cons_succ fB bD1 List.length_cons List.length_nil Nat.reduceAdd Nat.zero_add true_and and_true and_self Bool.not_false Bool.not_true Bool.false_eq_true Bool.true_and Bool.and_true Bool.or_false decide_eq_true_eq".splitOn " ").toArray.map fun s=>Lean.mkIdent s.toName
 `(tactic| simp only[$[↓$l:ident],*,$[$m:ident],*])
def sl2:(2<=sizeLine):=by decide
def dJ{a b m:Int}(h:0 < m)(c:m < 18446744073709551616){K:Res->List Sl->Prop}(k:∀ d e f,0<=d->d < m->K (.val (.int d)) [⟨.par,.lst [.int e,.int f]⟩,⟨.val,.int m⟩]):CK aI [⟨.par,.lst [.int a,.int b]⟩,⟨.val,.int m⟩] K:=by
 unfold aI;rw[dA];show RS jM [_,_,none,none] _;unfold jM;walk_at "dx";rw[aO3 h c];split;exact⟨h,True.intro,k _ _ _ (a7h _ (by lia)) (a8g _ h)⟩;exact⟨h,k _ _ _ (a7h _ (by lia)) (a8g _ h)⟩
def bX4{ns:List Int}{i:Int}(h0:0<=i)(a:i < (ns.length:Int)):∃ c,atI (ns.map D.int) i=some (.int c):=by
 obtain⟨c,b⟩:=bP8 (ys:=ns) h0 a;exact⟨c,by rw[bP9,b];rfl⟩
def bE9{ns:List Int}{n:Int}(h0:0<=n)(e:n < 1000){K:Res->List Sl->Prop}(k:∀ a b,K (.own (.lst [.int a,.int b])) [⟨.val,.lst (ns.map D.int)⟩,⟨.val,.int n⟩]):CK cS [⟨.val,.lst (ns.map D.int)⟩,⟨.val,.int n⟩] K:=by
 unfold cS;rw[dA];show RS kS [_,_,none,none] _;unfold kS;walk_at "dx";split;rename_i d;obtain⟨c,d⟩:=bX4 (ns:=ns) h0 (by simpa using d);rw[d];walk_at "dx";exact⟨sl2,k _ _⟩;split;rename_i d;refine⟨d,?_⟩;obtain⟨c,d⟩:=bX4 (ns:=ns) (i:=n % ((ns.map D.int).length:Int)) (a7h _ (by lia)) (by have:=a8g n d;simpa using this);rw[d];walk_at "dx";exact⟨sl2,k _ _⟩;exact⟨sl2,k _ _⟩
def jV{lo:Int}{n i:Nat}{d:D}(h:(sY lo n)[i]? = some d):i < n/\d=.int (lo+i):=by
 unfold sY at h;rw[a5c]at h;cases e:(List.range n)[i]? with
 | none=>rw[e]at h;cases h
 | some k=>
   rw[e]at h;obtain⟨hi,a⟩:=a2a.mp e;rw[a5f]at hi;rw[List.getElem_range]at a;subst a;exact⟨hi,(a0b h).symm⟩
def cK(lo:Int)(n:Nat):(sY lo n).length=n:=by simp[sY]
def bX5{α:Type}{l:List α}{i:Int}{c:α}(h:atI l i=some c):c∈l:=by
 unfold atI at h;obtain⟨j,_,a⟩:=aE h;exact a6b a
def dP7{l:List D}{d:Int}(h0:0<=d)(a:d < (l.length:Int))(b:d < 9223372036854775808){K:D×D->Prop}(k:∀ y r,(y::r).Perm l->r.length+1=l.length->K (.lst r,y)):OK1 (aN9 (.lst l) [.int d]) K:=by
 obtain⟨n,rfl⟩:∃ n:Nat,d=n:=⟨d.toNat,by lia⟩;have hn:n < l.length:=by lia
 unfold aN9;dsimp only;rw[a4y ⟨by lia,by lia⟩];have e:ixN l.length (n:Int)=some n:=by
  unfold ixN;rw[a4y (by lia),a4y (by lia)];simp
 rw[e];show OK1 ((l[n]?).map _) K;rw[a1a hn];exact k _ _ (aC2 l n hn) (by rw[List.length_eraseIdx_of_lt hn];lia)
def nH{a b:Int}{xs:List D}{m:Md}{t:D}(hm:m=.par/\t=.lst xs\/m=.val/\t=.lst xs\/m=.val/\t=.tup xs)(q:xs.length<=1000){K:Res->List Sl->Prop}(k:∀ ys e f,ys.Perm xs->K (.own (.lst ys)) [⟨.par,.lst [.int e,.int f]⟩,⟨m,t⟩]) :
  CK aT [⟨.par,.lst [.int a,.int b]⟩,⟨m,t⟩] K:=by
 unfold aT;rw[dA];show RS fC [_,_,none,none] _;unfold fC;rcases hm with⟨rfl,rfl⟩ | ⟨rfl,rfl⟩ | ⟨rfl,rfl⟩
 all_goals
  walk_at "dx";refine⟨a7c _,?_⟩;refine rM (λm τ=>∃ e f aL found,m=aL.length/\aL.length<=xs.length/\found.length+aL.length=xs.length/\(found++aL).Perm xs/\τ=[some ⟨.par,.lst [.int e,.int f]⟩,some _,some ⟨.own,.lst aL⟩,some ⟨.own,.lst found⟩]) xs.length (by lia) ⟨a,b,xs,[],rfl,a9a _,by simp,.refl _,rfl⟩ ?_;rintro m τ ⟨e,f,aL,found,rfl,i,j,h,rfl⟩;walk_at "dx";split;rename_i c;refine dJ (by simpa using c) (by lia) λd l n o p=>?_;walk_at "dx";refine dP7 o (by simpa using p) (by lia) λy r g s=>?_;refine⟨a5d (by lia:found.length < 1001) (by decide),.inl ⟨_,r.length,.inl rfl,by lia,l,n,r,found++[y],rfl,by lia,by rw[a5a];simp only[List.length_cons,List.length_nil];lia,?_,rfl⟩⟩;rw[List.append_assoc];exact(List.Perm.append_left found g).trans h;rename_i c;have:aL=[]:=List.eq_nil_of_length_eq_zero (by lia);subst this;exact k found e f (by simpa using h)
def aE5(l:List D){n:Int}(h:0<=n):aK8 l none (some n)=l.take n.toNat:=by
 obtain⟨k,rfl⟩:=Int.eq_ofNat_of_zero_le h;unfold aK8;rw[HT.sIx_none,HT.sIx_nat,List.drop_zero,Nat.sub_zero,a5h];by_cases h:k<=l.length;rw[Nat.min_eq_left h];rw[Nat.min_eq_right (by lia),List.take_length,List.take_of_length_le (by lia)]
def cG8(l:List D){n:Int}(h:0<=n):aK8 l (some n) none=l.drop n.toNat:=by
 obtain⟨k,rfl⟩:=Int.eq_ofNat_of_zero_le h;unfold aK8;rw[HT.sIx_none,HT.sIx_nat,a5h];by_cases h:k<=l.length;rw[Nat.min_eq_left h,List.take_of_length_le (by rw[a8e];lia)];rw[Nat.min_eq_right (by lia),List.drop_length,List.drop_of_length_le (by lia),List.take_nil]
def aJ7{a b:Int}{xs:List D}{m:Md}{t:D}(hm:m=.par/\t=.lst xs\/m=.val/\t=.lst xs\/m=.val/\t=.tup xs)(h0:xs≠[])(e:xs.length<=1000){K:Res->List Sl->Prop}
  (k:∀ ys f g,ys≠[]->ys.length<=4->(∀ y∈ys,y∈xs)->(xs.Nodup->ys.Nodup)->K (.own (.lst ys)) [⟨.par,.lst [.int f,.int g]⟩,⟨m,t⟩]):CK bR [⟨.par,.lst [.int a,.int b]⟩,⟨m,t⟩] K:=by
 have p:0 < xs.length:=List.length_pos_iff.mpr h0;have h:∃ n:Int,(if(xs.length:Int) < 4 then(xs.length:Int)else 4)=n/\1<=n/\n<=4:=⟨_,rfl,by split<;>lia,by split<;>lia⟩;obtain⟨n,i,n1,q⟩:=h;unfold bR;rw[dA];show RS jN [_,_] _;unfold jN;rcases hm with⟨rfl,rfl⟩ | ⟨rfl,rfl⟩ | ⟨rfl,rfl⟩
 all_goals
  walk_at "dx"
  first | refine⟨by decide,nH (xs:=xs) (by simp) e λys j l c=>?_⟩ | refine nH (xs:=xs) (by simp) e λys j l c=>?_
  walk_at "dx";rw[i];refine dJ (by lia) (by lia) λd r s u v=>?_;walk_at "dx";rw[aE5 _ (by lia)];have w:=c.length_eq;refine k _ _ _ (λz=>?_) ?_ (λy o=>c.mem_iff.mp (a9d o)) λnd=>(c.nodup_iff.mpr nd).sublist (List.take_sublist _ _);have:=a4F List.length z;rw[a0d,a2g]at this;lia;rw[a0d];lia
def Tx(z:Str):Prop:=z.length<=100/\∀ c∈z.cps.toList,c < 128
theorem aE6{z:Str}{lo hi:Option Int}{K:Res->Prop}:SK (.str z) lo hi K=(z.length<=sizeLine/\K (.val (.str (Txt.slice z lo hi)))):=by
 show OK1 (if _ then _ else none) K=_;rw[cF];rfl
theorem rV{z:Str}{i:Int}{K:Res->Prop}:OK1 (aV8 (.str z) (.int i)) K=((z.length<=1000/\0<=i/\i<=1000)/\K (.val (.str (Txt.mul z i)))):=by
 unfold aV8;dsimp only;rw[cF];rfl
theorem bK8{i:Nat}{σ a:Sg}:oE [i] σ a=a.set i (σ[i]?.getD none):=rfl
def cG9:(Str.ofString "abcdefghijklmnopqrstuvwxyz").cps.toList.length=26:=by decide
def aG2(z:Str):z.length=z.cps.toList.length:=by show z.cps.size=_;simp
def zQ(x y:Str):(x++y).cps.toList=x.cps.toList++y.cps.toList:=by show(x.cps++y.cps).toList=_;simp
theorem zR(x y:Str):(x++y).length=x.length+y.length:=by rw[aG2,aG2,aG2,zQ,a5a]
def As(z:Str):Prop:=∀ c∈z.cps.toList,c < 128
def bX6{x y:Str}(b:As x)(d:As y):As (x++y):=by
 intro c a;rw[zQ]at a;rcases a8a.mp a with h | h;exact b c h;exact d c h
def bF0{z:Str}(h:As z)(lo hi:Option Int):As (Txt.slice z lo hi):=by
 intro c a;unfold Txt.slice at a;split at a;exact h c a;simp only[List.mem_filterMap]at a;obtain⟨i,_,hi⟩:=a;exact h c (Array.mem_toList_iff.mpr (Array.mem_of_getElem? hi))
theorem slice_le(z:Str)(lo hi:Option Int):(Txt.slice z lo hi).length<=z.length:=Txt.slice_le z lo hi
local macro_rules | `(tactic| walk_at "dx")=>do
 let l:=("aE6 rV cW5 uG uH uI uJ uK uL uM uN uO uP uQ uR uT uU uV uW uX aW1 uY mW oG uZ vA oH oJ oK vB vC aW2 vD vE aW3 vF vG vH vI vJ vK oM oN vL vM vN vO vP oO vQ oP vR vS vT vU vV zG vW vX vY oQ oR vZ wA wB wC wD wE wF wG wH wI aW4 oS lR oU wJ wK oV wX wY wZ xA xB xC xE xF xG pR aW5 xH pE pF lV jL zF nD pQ pO xJ pG pH pI xK xL xM xN xO aW6 aW7 aW8 aW9 xP xQ xR pJ pK xS pL xT xU pM lT xV pN aO2 xW xX xY xZ aX0 yA cX2 yB yC mX cA yD yE yF yG wL wM wN wO wP wQ wR wS wT oW oX oY oZ wU wV wW reduceIte".splitOn " ").toArray.map fun s=>Lean.mkIdent s.toName
 let m:=("yH yI yJ aO3 aX1 Int.reducePow Int.reduceNeg Int.reduceLT Int.reduceLE Nat.reducePow Nat.reduceLT Int.reduceToNat Nat.reduceLeDiff yM yK aX2 yL pA pB pC pD bK8 List.getElem?_cons_succ List.getElem?_cons_zero Option.getD_some List.set_cons_zero List.set_cons_succ fB bD1 List.length_cons List.length_nil Nat.reduceAdd Nat.zero_add true_and and_true and_self Bool.not_false Bool.not_true Bool.false_eq_true Bool.true_and Bool.and_true Bool.or_false decide_eq_true_eq".splitOn " ").toArray.map fun s=>Lean.mkIdent s.toName
 `(tactic| simp only[$[↓$l:ident],*,$[$m:ident],*])
theorem bX7:∀ (a:List Str),(∀ z∈a,z.length<=1)->(a.map (·.length)).sum<=a.length
 | [],_=>by simp
 | z::r,h=>by
   have c:=h z a4a;have d:=bX7 r λy b=>h y (a6a _ b);simp only[List.map_cons,List.sum_cons,List.length_cons];lia
def cZ7{e:Int}(b:0<=e)(d:e < 26):∃ c,atI (Str.ofString "abcdefghijklmnopqrstuvwxyz").cps.toList e=some c/\c < 128:=by
 obtain⟨c,a⟩:=bP8 (ys:=(Str.ofString "abcdefghijklmnopqrstuvwxyz").cps.toList) b (by rw[cG9];exact d);exact⟨c,a,cU8 c (bX5 a)⟩
def bF1{c:Nat}(h:c < 128):As ⟨#[c]⟩:=by
 intro x a;have:x=c:=by simpa using a
 subst this;exact h
def tx1{c:Nat}(h:c < 128):Tx ⟨#[c]⟩:=⟨by show 1<=100;decide,bF1 h⟩
def aE7{x y:Str}{m n:Nat}(a:x.length<=m/\As x)(b:y.length<=n/\As y):(x++y).length<=m+n/\As (x++y):=⟨by rw[zR];lia,bX6 a.2 b.2⟩
theorem bC8(c:Nat):Str.length ⟨#[c]⟩=1:=rfl
def dP8{m:Int}(h:m=0\/m=1):(Txt.mul "z" m).length<=1/\As (Txt.mul "z" m):=by
 rcases h with rfl | rfl;exact⟨by decide,by unfold As;decide⟩;exact⟨by decide,by unfold As;decide⟩
def zm2(p:Prop)[Decidable p]:(if p then(1:Int)else 0)=0\/(if p then(1:Int)else 0)=1:=by
 split;exact .inr rfl;exact .inl rfl
def aZ1{e:Int}(a:0<=e)(b:e < 26):atI (Str.ofString "abcdefghijklmnopqrstuvwxyz").cps.toList e=some (97+e.toNat):=by
 have h:∀ n:Fin 26,atI (Str.ofString "abcdefghijklmnopqrstuvwxyz").cps.toList ((n:Nat):Int)=some (97+(n:Nat)):=by decide
 have:=h ⟨e.toNat,by lia⟩;rwa[show((e.toNat:Nat):Int)=e by lia]at this
def cH0{ys:List Str}(h:∀ (i j:Nat) y,i < j->ys[i]? = some y->ys[j]? = some y->False):ys.Nodup:=by
 rw[List.nodup_iff_pairwise_ne,List.pairwise_iff_getElem];intro i j hi b a z;exact h i j ys[i] a (a1a hi) (by rw[z];exact a1a b)
def bF2{a b:Int}{K:Res->List Sl->Prop}(k:∀ (zs:List Str) E F,zs.length=6->zs.Nodup->(∀ z∈zs,Tx z)->K (.own (.lst (zs.map D.str))) [⟨.par,.lst [.int E,.int F]⟩,⟨.val,.int 6⟩]) :
  CK dQ [⟨.par,.lst [.int a,.int b]⟩,⟨.val,.int 6⟩] K:=by
 unfold dQ;rw[dA];show RS iR [_,_,none,none,none,none,none,none,none,none,none,none] _;unfold iR;walk_at "dx";refine dJ (by decide) (by decide) λn Y Z n0 n5=>?_;walk_at "dx";split
 ·refine dJ (by decide) (by decide) λp M N p0 p1=>?_;walk_at "dx";rw[aZ1 p0 (by lia)];walk_at "dx";refine⟨by decide,dJ (by decide) (by decide) λq a3 b3 q0 q1=>?_⟩;walk_at "dx";rw[aZ1 (e:=13+q) (by lia) (by lia)];walk_at "dx";simp only[zR,bC8];have l1:∀ {c:Nat},c < 128->Str.length ⟨#[c]⟩<=1/\As ⟨#[c]⟩:=λh=>⟨a9a 1,bF1 h⟩;have G:∀ {x:Str} {n:Nat},n<=100->x.length<=n/\As x->Tx x:=λhn h=>⟨a8b h.1 hn,h.2⟩;have l:97+p.toNat < 128:=by lia
  have B:97+(13+q).toNat < 128:=by lia
  have ne:97+p.toNat≠97+(13+q).toNat:=by lia
  revert l B ne;generalize 97+p.toNat=u;generalize 97+(13+q).toNat=v;intro l B ne;have C:∀ x y:Nat,(⟨#[x]⟩:Str)++⟨#[y]⟩=⟨#[x,y]⟩:=λ_ _=>rfl;refine⟨by decide,⟨rfl,rfl,by decide⟩,by decide,by decide,by decide,by decide,by decide,by decide,by decide,by decide,by decide,?_⟩;refine k [⟨#[u]⟩,⟨#[u]⟩++⟨#[v]⟩,⟨#[v]⟩,⟨#[v]⟩++⟨#[u]⟩,⟨#[u]⟩++⟨#[u]⟩,⟨#[u]⟩++⟨#[v]⟩++⟨#[u]⟩] _ _ rfl ?_ ?_;rw[C,C,C,show(⟨#[u,v]⟩:Str)++⟨#[u]⟩=⟨#[u,v,u]⟩from rfl];simp[ne,Ne.symm ne];intro z o;simp only[List.mem_cons,List.not_mem_nil,or_false]at o;rcases o with rfl | rfl | rfl | rfl | rfl | rfl;exact tx1 l;exact G (by decide) (aE7 (l1 l) (l1 B));exact tx1 B;exact G (by decide) (aE7 (l1 B) (l1 l));exact G (by decide) (aE7 (l1 l) (l1 l));exact G (by decide) (aE7 (aE7 (l1 l) (l1 B)) (l1 l))
 ·refine dJ (by decide) (by decide) λn Y Z n0 n5=>?_;walk_at "dx";refine⟨by lia,by rw[cK];exact a8b (by lia:n.toNat<=5) (by decide),?_⟩;refine iQ _ _ (λi acc τ=>i<=5/\∃ (zs:List Str) (E F:Int),acc=zs.map D.str/\zs.length=i/\(∀ z∈zs,z.length<=1/\As z)/\τ=[some ⟨.par,.lst [.int E,.int F]⟩,some ⟨.val,.int 6⟩,some ⟨.val,.str "abcdefghijklmnopqrstuvwxyz"⟩,none,none,none,none,none,none,none,none,none]) ⟨by lia,[],Y,Z,rfl,rfl,by simp,rfl⟩ ?_ ?_;rintro i d acc τ hd ⟨_,zs,E,F,rfl,hl,o,rfl⟩;obtain⟨hi,rfl⟩:=jV hd;walk_at "dx";refine dJ (by decide) (by decide) λe M N e0 O=>?_;walk_at "dx";refine⟨by decide,?_⟩;obtain⟨c,P,Q⟩:=cZ7 e0 O;rw[P];walk_at "dx";refine⟨_,rfl,by lia,zs++[⟨#[c]⟩],M,N,by rw[a4b];rfl,by rw[a5a,hl];rfl,?_,rfl⟩;intro z R;rcases a8a.mp R with h | h;exact o z h;rw[a3a]at h;subst h;exact⟨a9a 1,bF1 Q⟩;rintro acc τ ⟨h5,zs,E,F,rfl,hl,o,rfl⟩;have hs:=bX7 zs λz h=>(o z h).1;rw[cX4];refine⟨by simp only[show(Str.ofString "").length=0 by decide];lia,?_⟩;have L:=aU8 (m:=128) (sep:=Str.ofString "") (by decide) zs λz h=>(o z h).2;have r:(Txt.join (Str.ofString "") zs).length<=5:=by
   refine a8b (cT8 _ _) ?_;simp only[show(Str.ofString "").length=0 by decide];lia
  revert L r;generalize Txt.join (Str.ofString "") zs=x;intro L r;have S:x.length<=sizeLine:=a8b r (by decide);walk_at "dx";rw[nD S];walk_at "dx";refine dJ (by lia) (by lia) λg M N k10 k11=>?_;walk_at "dx";refine dJ (by lia) (by lia) λs a3 b3 k20 k21=>?_;walk_at "dx";refine dJ (by lia) (by lia) λk3 a4 b4 k30 k31=>?_;walk_at "dx";refine⟨a7c _,?_⟩;refine fS (λi τ=>i<=6/\∃ (ys:List Str) (H o2:Option Sl),((H=none/\o2=none)\/∃ d e,H=some ⟨.val,d⟩/\o2=some ⟨.val,e⟩)/\ys.length=i/\(∀ (j:Nat) y,ys[j]? = some y->Tx y/\∃ t,y.cps.toList=(Txt.slice x none (some g)).cps.toList++(97+((s+5*(j:Int)) % 26).toNat)::t)/\τ=[some ⟨.par,.lst [.int a4,.int b4]⟩,some ⟨.val,.int 6⟩,some ⟨.val,.str "abcdefghijklmnopqrstuvwxyz"⟩,none,none,some ⟨.val,.str x⟩,some ⟨.val,.int g⟩,some ⟨.val,.int s⟩,some ⟨.val,.int k3⟩,some ⟨.own,.lst (ys.map D.str)⟩,H,o2]) ⟨by lia,[],none,none,.inl ⟨rfl,rfl⟩,rfl,(λj y h=>by simp at h),rfl⟩ ?_ ?_
  ·rintro i d τ hd ⟨_,ys,H,o2,T,A,f,rfl⟩;obtain⟨hi,rfl⟩:=jV hd;have P:=aZ1 (e:=(s+5*(0+(i:Int))) % 26) (a7h _ (by decide)) (a8g _ (by decide));have Q:97+((s+5*(0+(i:Int))) % 26).toNat < 128:=by
    have:=a8g (s+5*(0+(i:Int))) (b:=26) (by decide);lia
   have l1:=slice_le x none (some g);have l2:=slice_le x (some g) none;have g1:=bF0 (z:=x) L none (some g);have g2:=bF0 (z:=x) L (some g) none;have sl:100<=sizeLine:=by decide
   have done:∀ (w:Str) (t:Str) ,(w.length<=20/\As w)->(t.length<=1/\As t)->Tx (w++t):=λw t hw U=>by
    have:=aE7 hw U;exact⟨by lia,this.2⟩
   have fin:∀ t:Str,(t.length<=1/\As t)->∀ (j:Nat) y,(ys++[Txt.slice x none (some g)++⟨#[97+((s+5*(0+(i:Int))) % 26).toNat]⟩++Txt.slice x (some g) none++t])[j]? = some y->Tx y/\∃ t,y.cps.toList=(Txt.slice x none (some g)).cps.toList++(97+((s+5*(j:Int)) % 26).toNat)::t:=λt U j y h=>by
    by_cases I:j < ys.length;rw[a8f I]at h;exact f j y h;have V:j=i:=by
     have:=(a2a.mp h).1;rw[a5a,List.length_singleton]at this;lia
    subst V;rw[a6f (by lia),A,Nat.sub_self]at h;obtain rfl:=a0b h;refine⟨done _ _ ⟨?_,bX6 (bX6 g1 (bF1 Q)) g2⟩ U,(Txt.slice x (some g) none).cps.toList++t.cps.toList,?_⟩;rw[zR,zR,bC8];lia;rw[zQ,zQ,zQ,Int.zero_add];simp
   rcases T with⟨rfl,rfl⟩ | ⟨d,e,rfl,rfl⟩
   all_goals
    walk_at "dx";rw[P];walk_at "dx";have W:=dP8 (zm2 ((0+(i:Int)) % 2=1));have z0:=dP8 (m:=0) (.inl rfl);have zi:=zm2 ((0+(i:Int)) % 2=1);simp only[zR,bC8];revert zi W;generalize (if(0+(i:Int)) % 2=1 then(1:Int)else 0)=zz;intro W zi;refine⟨by lia,by decide,by lia,by lia,by lia,?_⟩;have J:(List.map D.str ys).length < sizeLine:=by rw[a0a];lia
    split;exact⟨⟨by decide,by lia,by lia⟩,by lia,J,_,.inl rfl,by lia,ys++[_],_,_,.inr ⟨_,_,rfl,rfl⟩,by rw[a5a,A];rfl,fin _ W,by rw[a4b];rfl⟩;exact⟨by decide,by lia,J,_,.inl rfl,by lia,ys++[_],_,_,.inr ⟨_,_,rfl,rfl⟩,by rw[a5a,A];rfl,fin _ z0,by rw[a4b];rfl⟩
  ·rintro τ ⟨_,ys,H,o2,T,A,f,rfl⟩;rw[cK]at A;have hn:ys.Nodup:=cH0 λi j y hij h1 h2=>by
    obtain⟨_,t1,O⟩:=f i y h1;obtain⟨_,G,C⟩:=f j y h2;rw[O]at C;have e3:=(List.cons.inj (List.append_cancel_left C)).1;have I:=(a2a.mp h2).1;rw[A]at I;have h6:j < 6:=by lia
    lia
   have X:∀ z∈ys,Tx z:=λz o=>by
    obtain⟨j,I⟩:=List.mem_iff_getElem?.mp o;exact(f j z I).1
   rcases T with⟨rfl,rfl⟩ | ⟨d,e,rfl,rfl⟩
   all_goals
    walk_at "dx";exact k _ _ _ A hn X
theorem aR0{l:List D}{K:List D->Prop}:OK1 (aN3 (.tup l)) K=K l:=rfl
theorem aR1{l:List D}{K:List D->Prop}:OK1 (aN3 (.lst l)) K=K l:=rfl
theorem aR2{l:List D}{K:List D->Prop}:OK1 (dV2 (.tup l)) K=K l:=rfl
theorem aR3{l:List D}{K:List D->Prop}:OK1 (dV2 (.lst l)) K=K l:=rfl
theorem aR4{i:Nat}{σ:Sg}:cV [i] σ=σ.set i none:=rfl
theorem aR5{i j:Nat}{σ:Sg}:cV [i,j] σ=(σ.set i none).set j none:=rfl
theorem bX8{i j:Nat}{σ a:Sg}:oE [i,j] σ a=(a.set i (σ[i]?.getD none)).set j (σ[j]?.getD none):=rfl
theorem dP9{i j:Int}{K:Res->Prop}:OK1 (eqD true (.int i) (.int j)) K=K (.val (.bl (!decide (i=j)))):=by
 have h:OK1 (eqD false (.int i) (.int j)) (λr=>r=.val (.bl (decide (i=j)))):=by rw[aO2]
 unfold eqD at h ⊢;split at h
 ·rename_i a;rw[a4y a];have h':Res.val (.bl (if false=true then !tL (.int i) (.int j)else tL (.int i) (.int j)))=.val (.bl (decide (i=j))):=h;have e:tL (.int i) (.int j)=decide (i=j):=by simpa using h'
  show K (.val (.bl (if true=true then !tL (.int i) (.int j)else tL (.int i) (.int j))))=_;rw[a4y rfl,e]
 ·exact h.elim
noncomputable def ov(b:Bool)(d:D):Option Sl:=if b=true then some ⟨.val,d⟩else none
theorem aR6{b:Bool}{d:D}{r:Sg}{s:Sl}{K:Sg->Prop}:Dv.PK 0 (ov b d::r) s K=K (some s::r):=by cases b<;>rfl
theorem zS{l m:List D}{K:D×D->Prop}:OK1 (bI4 (.lst l) [.lst m]) K=(l.length+m.length<=sizeLine/\K (.lst (l++m),.non)):=by
 unfold bI4;dsimp only[cV0];show OK1 (if _ then _ else none) K=_;rw[cF];rfl
theorem aR7{b:MS}{Q:Out->Prop}{σ:Sg}:sqM b Q (.nx σ)=b σ Q:=rfl
theorem dQ0{d:D}{r:Sg}:lendO (some 0) (some ⟨.own,d⟩::r)=some ⟨.lent,d⟩::r:=rfl
theorem dQ1{d:D}{r:Sg}:lendO (some 0) (some ⟨.par,d⟩::r)=some ⟨.lent,d⟩::r:=rfl
theorem dQ2{d:D}{r:Sg}:lendO (some 0) (some ⟨.val,d⟩::r)=some ⟨.val,d⟩::r:=rfl
theorem dQ3{d:D}{r:Sg}:lendO (some 0) (some ⟨.lent,d⟩::r)=some ⟨.lent,d⟩::r:=rfl
theorem dQ4{i:Nat}{o:Option Sl}{r:Sg}:lendO (some (i+1)) (o::r)=o::lendO (some i) r:=by
 show lend (i+1) (o::r)=o::lend i r;unfold lend;rw[a3d];generalize r[i]? = x
 match x with
 | none=>rfl
 | some none=>rfl
 | some (some ⟨.own,_⟩)=>rfl
 | some (some ⟨.par,_⟩)=>rfl
 | some (some ⟨.val,_⟩)=>rfl
 | some (some ⟨.lent,_⟩)=>rfl
theorem dQ5{d e:D}{m:Md}{a r:Sg}:aC6 (some 0) (some ⟨.own,e⟩::a) (some ⟨m,d⟩::r)=some ⟨.own,d⟩::r:=rfl
theorem dQ6{d e:D}{m:Md}{a r:Sg}:aC6 (some 0) (some ⟨.par,e⟩::a) (some ⟨m,d⟩::r)=some ⟨.par,d⟩::r:=rfl
theorem dQ7{d e:D}{m:Md}{a r:Sg}:aC6 (some 0) (some ⟨.val,e⟩::a) (some ⟨m,d⟩::r)=some ⟨m,d⟩::r:=rfl
theorem dQ8{d e:D}{m:Md}{a r:Sg}:aC6 (some 0) (some ⟨.lent,e⟩::a) (some ⟨m,d⟩::r)=some ⟨m,d⟩::r:=rfl
theorem dQ9{i:Nat}{o o':Option Sl}{a r:Sg}:aC6 (some (i+1)) (o::a) (o'::r)=o'::aC6 (some i) a r:=by
 show unl (i+1) (o::a) (o'::r)=o'::unl i a r;unfold unl;rw[a3d,a3d];generalize a[i]? = x;generalize r[i]? = y
 match x,y with
 | none,_=>rfl
 | some none,_=>rfl
 | some (some _),none=>rfl
 | some (some _),some none=>rfl
 | some (some ⟨.own,_⟩),some (some _)=>rfl
 | some (some ⟨.par,_⟩),some (some _)=>rfl
 | some (some ⟨.val,_⟩),some (some _)=>rfl
 | some (some ⟨.lent,_⟩),some (some _)=>rfl
theorem dR0{i:Nat}{σ a:Sg}:aC7 (some i) σ (.nx a)=.nx (aC6 (some i) σ a):=rfl
theorem dR1{i:Nat}{σ a:Sg}{x:Res}:aC7 (some i) σ (.rt x a)=.rt x (aC6 (some i) σ a):=rfl
local macro_rules | `(tactic| walk_at "dx")=>do
 let l:=("aR7 zS aR6 aR1 aR0 aR2 aR3 aE6 rV cW5 uG uH uI uJ uK uL uM uN uO uP uQ uR uT uU uV uW uX aW1 uY mW oG uZ vA oH oJ oK vB vC aW2 vD vE aW3 vF vG vH vI vJ vK oM oN vL vM vN vO vP oO vQ oP vR vS vT vU vV zG vW vX vY oQ oR vZ wA wB wC wD wE wF wG wH wI aW4 oS lR oU wJ wK oV wX wY wZ xA xB xC xE xF xG pR aW5 xH pE pF lV jL zF nD pQ pO xJ pG pH pI xK xL xM xN xO aW6 aW7 aW8 aW9 xP xQ xR pJ pK xS pL xT xU pM lT xV pN aO2 xW xX xY xZ aX0 yA cX2 yB yC mX cA yD yE yF yG wL wM wN wO wP wQ wR wS wT oW oX oY oZ wU wV wW reduceIte".splitOn " ").toArray.map fun s=>Lean.mkIdent s.toName
 let m:=("aR4 aR5 bX8 yH yI yJ aO3 aX1 Int.reducePow Int.reduceNeg Int.reduceLT Int.reduceLE Nat.reducePow Nat.reduceLT Int.reduceToNat Nat.reduceLeDiff yM dQ0 dQ1 dQ2 dQ3 dQ4 dQ5 dQ6 dQ7 dQ8 dQ9 dR0 dR1 yK aX2 yL pA pB pC pD bK8 List.getElem?_cons_succ List.getElem?_cons_zero Option.getD_some List.set_cons_zero List.set_cons_succ fB bD1 List.length_cons List.length_nil Nat.reduceAdd Nat.zero_add true_and and_true and_self Bool.not_false Bool.not_true Bool.false_eq_true Bool.true_and Bool.and_true Bool.or_false decide_eq_true_eq".splitOn " ").toArray.map fun s=>Lean.mkIdent s.toName
 `(tactic| simp only[$[↓$l:ident],*,$[$m:ident],*])
def bF3{α:Type}(f:α->D){l:List α}{i:Int}(h0:0<=i)(b:i < (l.length:Int)):∃ c,atI (l.map f) i=some (f c)/\c∈l:=by
 obtain⟨c,a⟩:=bP8 (ys:=l) h0 b;exact⟨c,by rw[bP9,a];rfl,bX5 a⟩
def bX9{r:DT}{σ:Sg}{Q a:Bool->Sg->Prop}(h:RT r σ Q)(w:∀ b c,Q b c->a b c):RT r σ a:=dF h λx=>w x.1 x.2
def bY0{r:DE}{σ:Sg}{Q a:Res->Sg->Prop}(h:RE r σ Q)(w:∀ b c,Q b c->a b c):RE r σ a:=dF h λx=>w x.1 x.2
def fH{α:Type}{g:D->Sg->Option Sg}{ow:List Nat}{t:DT}{e:DE}{K:List D×Sg->Prop}(f:α->D)(u:α->D)(xs:List α){a:Sg}(l:Sg)(p:a=l)
  (q:∀ x∈xs,OK1 (g (u x) l) λc=>RT t c λb h=>b=true/\RE e h λr j=>r=.val (f x)/\cV ow j=l) (k:K (xs.map f,l)):OK1 (aX9 ow g t e (xs.map u) a) K:=by
 subst p;refine iQ _ _ (λi acc τ'=>acc=(xs.take i).map f/\τ'=a) ⟨rfl,rfl⟩ ?_ ?_;rintro i d acc τ' hd ⟨rfl,rfl⟩;rw[a5c]at hd;obtain⟨x,n,rfl⟩:=a9c.mp hd;refine dF (q x (a6b n)) λc s=>bX9 s λb h m=>?_;obtain⟨rfl,m⟩:=m;rw[a4y rfl];refine bY0 m λr j o=>?_;exact⟨_,o.1,by rw[a3f,n,a4b];rfl,o.2⟩;rintro acc τ' ⟨rfl,rfl⟩;rw[a0a,List.take_length];exact k
def bC{α:Type}{g:D->Sg->Option Sg}{ow:List Nat}{t:DT}{e:DE}{K:List D×Sg->Prop}(p:α->Bool)(f:α->D)(u:α->D)(xs:List α){a:Sg}(j:Sg)(n:a=j)
  (w:∀ x∈xs,OK1 (g (u x) j) λl=>RT t l λb c=>b=p x/\cV ow c=j/\RE e c λr m=>r=.val (f x)/\cV ow m=j) (k:K ((xs.filter p).map f,j)):OK1 (aX9 ow g t e (xs.map u) a) K:=by
 subst n;refine iQ _ _ (λi acc τ'=>acc=((xs.take i).filter p).map f/\τ'=a) ⟨rfl,rfl⟩ ?_ ?_
 ·rintro i d acc τ' hd ⟨rfl,rfl⟩;rw[a5c]at hd;obtain⟨x,s,rfl⟩:=a9c.mp hd;refine dF (w x (a6b s)) λl y=>bX9 y λb c q=>?_;obtain⟨rfl,q,z⟩:=q;have n:(xs.take (i+1)).filter p=(xs.take i).filter p++(if p x=true then[x]else[]):=by
   rw[a3f,s,List.filter_append];cases h:p x<;>simp[h]
  by_cases o:p x=true;rw[a4y o];refine bY0 z λr m v=>?_;exact⟨_,v.1,by rw[n,a4y o,a4b];rfl,v.2⟩;rw[a4z o];exact⟨by rw[n,a4z o,a0g],q⟩
 ·rintro acc τ' ⟨rfl,rfl⟩;rw[a0a,List.take_length];exact k
def fT{α:Type}{f:α->D}{l:List α}{i:Nat}{d:D}(h:(l.map f)[i]? = some d):∃ y,l[i]? = some y/\d=f y:=by
 rw[a5c]at h;obtain⟨y,e,rfl⟩:=a9c.mp h;exact⟨y,e,rfl⟩
def aR8{α:Type}{l:List α}{i:Nat}{y:α}(h:l[i]? = some y):l.take i++[y]=l.take (i+1):=by
 rw[a3f,h];rfl
def cZ8{α:Type}(f:α->D)(p:α->Bool)(l:List α){ow:List Nat}{g:DG}{e:DE}{K:List D×Sg->Prop}{a:Sg}
  (n:∀ y∈l,OK1 (g (f y) a) λb=>RE e b λr c=>r=.val (.bl (p y))/\cV ow c=a) (k:K ((l.map p).map D.bl,a)):OK1 (aX9 ow g iB e (l.map f) a) K:=by
 refine iQ _ _ (λi acc τ'=>acc=((l.take i).map p).map D.bl/\τ'=a) ⟨rfl,rfl⟩ ?_ ?_;rintro i d acc τ' hd ⟨rfl,rfl⟩;obtain⟨y,j,rfl⟩:=fT hd;refine dF (n y (a6b j)) λb h=>?_;rw[mW,a4y rfl];refine dF h λr m=>⟨_,m.1,?_,m.2⟩;rw[← aR8 j,a4b,a4b];rfl;rintro acc τ' ⟨rfl,rfl⟩;rw[a0a,List.take_length];exact k
def bY1{α:Type}(p:α->Bool)(l:List α):(l.map p).all id=l.all p:=by rw[List.all_map];rfl
def aF6{x y:Str}:decide (D.str x=D.str y)=decide (x=y):=by rw[a3e,a4D,a4D,D.str.injEq]
def oC{neg:Bool}{x y:Str}(a:As x)(b:As y){K:Res->Prop}(k:K (.val (.bl (if neg=true then !decide (x=y)else decide (x=y))))):OK1 (eqD neg (.str x) (.str y)) K:=
 aQ9 (n:=0) (m:=0) (.str a) (.str b) (by decide) (by decide) (by rw[aF6];exact k)
def rW{α:Type}[DecidableEq α](f:α->D)(a:∀ x y,f x=f y->x=y){x:α}{l:List α}:decide (f x∈l.map f)=decide (x∈l):=by
 rw[a3e,a4D,a4D,a9b];exact⟨λ⟨y,b,c⟩=>a y x c ▸ b,λh=>⟨x,h,rfl⟩⟩
def rX(x y:Str)(h:D.str x=D.str y):x=y:=by injection h
def oks{n:Nat}{a:List Str}(h:∀ z∈a,As z):∀ d∈a.map D.str,Ok n d:=λd hd=>by
 obtain⟨z,b,rfl⟩:=a9b.mp hd;exact .str (h z b)
def aZ2{neg:Bool}{z:Str}{a:List Str}(b:As z)(h:∀ z∈a,As z){K:Res->Prop}(k:K (.val (.bl (if neg=true then !decide (z∈a)else decide (z∈a))))):OK1 (inD neg (.str z) (.lst (a.map D.str))) K:=
 zP (n:=0) (m:=0) (.str b) (oks h) (by decide) (by decide) (by rw[rW D.str rX];exact k)
def lW{neg:Bool}{z:Str}{a:List Str}(b:As z)(h:∀ z∈a,As z){K:Res->Prop}(k:K (.val (.bl (if neg=true then !decide (z∈a)else decide (z∈a))))):OK1 (inD neg (.str z) (.tup (a.map D.str))) K:=
 cZ6 (n:=0) (m:=0) (.str b) (oks h) (by decide) (by decide) (by rw[rW D.str rX];exact k)
noncomputable def cM(qs:List (Str×List Str)):List Str:=qs.foldl (λacc q=>acc++q.2.filter λc=>!decide (c∈acc)) []
def aE8(qs:List (Str×List Str))(q:Str×List Str):cM (qs++[q])=cM qs++q.2.filter λc=>!decide (c∈cM qs):=by
 unfold cM;rw[List.foldl_append];rfl
def Qn(qs:List (Str×List Str)):Prop:=qs.length<=100/\∀ q∈qs,Tx q.1/\q.2.length<=100/\∀ z∈q.2,Tx z
def lC{qs:List (Str×List Str)}{z:Str}(h:z∈cM qs):∃ q∈qs,z∈q.2:=by
 have a:∀ (l:List (Str×List Str)) (acc:List Str),z∈l.foldl (λacc q=>acc++q.2.filter λc=>!decide (c∈acc)) acc->z∈acc\/∃ q∈l,z∈q.2:=by
  intro l
  induction l with
  | nil=>intro acc h;exact .inl h
  | cons q r b=>
    intro acc h;rcases b _ h with h | ⟨d,e,f⟩;rcases a8a.mp h with h | h;exact .inl h;exact .inr ⟨q,a4a,(List.mem_filter.mp h).1⟩;exact .inr ⟨d,a6a _ e,f⟩
 rcases a qs [] h with h | h;cases h;exact h
def bY2{qs:List (Str×List Str)}{n:Nat}(h:∀ q∈qs,q.2.length<=n):(cM qs).length<=qs.length*n:=by
 have a:∀ (l:List (Str×List Str)) (acc:List Str),(∀ q∈l,q.2.length<=n)->(l.foldl (λacc q=>acc++q.2.filter λc=>!decide (c∈acc)) acc).length<=acc.length+l.length*n:=by
  intro l
  induction l with
  | nil=>intro acc _;simp
  | cons q r b=>
    intro acc h;have d:=b (acc++q.2.filter λc=>!decide (c∈acc)) λx e=>h x (a6a _ e);have f:=h q a4a;have g:=List.length_filter_le (λc=>!decide (c∈acc)) q.2;rw[a5a]at d;rw[List.foldl_cons,a4f,Nat.succ_mul];lia
 have:=a qs [] h;rw[a2g,a9f]at this;exact this
def rY{α:Type}{l:List α}{i:Nat}{y:α}(h:l[i]? = some y):l.take (i+1)=l.take i++[y]:=(aR8 h).symm
def aZ3{qs:List (Str×List Str)}(l:Qn qs){Q:Out->Prop}(k:∀ b e f g,Q (.nx [some ⟨.val,qD qs⟩,some ⟨.own,.lst ((cM qs).map D.str)⟩,ov b f,ov e g,none])) :
  OK1 (cF3 (iF 2 (bJ (dgN 2) (bJ (dgN 3) iA))) (iM (rD "list" 1 bI4 (aC (cE [4] (dIt (aH 3)) (dgN 4) (dX (aX (inD true) (aH 4) (aH 1))) (dFz (aH 4))) aP))) (qs.map qP) [some ⟨.val,qD qs⟩,some ⟨.own,.lst []⟩,none,none,none]) Q:=by
 have sl:20000<=sizeLine:=by decide
 have s:∀ i,∀ z∈cM (qs.take i),As z:=λi z t=>by
  obtain⟨q,m,o⟩:=lC t;exact((l.2 q (a9d m)).2.2 z o).2
 have u:∀ i,(cM (qs.take i)).length<=10000:=λi=>by
  have m:=bY2 (qs:=qs.take i) (n:=100) λq h=>(l.2 q (a9d h)).2.1;have o:=l.1;have r:(qs.take i).length<=100:=by rw[a0d];lia
  have w:=Nat.mul_le_mul_right 100 r;lia
 refine fS (λi p=>∃ b e f g,p=[_,some ⟨.own,.lst ((cM (qs.take i)).map D.str)⟩,ov b f,ov e g,none]) ⟨false,false,.non,.non,rfl⟩ ?_ ?_
 ·rintro i d p hd ⟨b,e,f,g,rfl⟩;obtain⟨q,j,rfl⟩:=fT hd;have a:=l.2 q (a6b j);walk_at "dx";refine⟨a8b (by rw[a0a];exact a.2.1) (by decide),bC (λc=>!decide (c∈cM (qs.take i))) D.str D.str q.2 [_,_,_,_,none] rfl (λc v=>?_) ?_⟩;walk_at "dx";refine aZ2 (a.2.2 c v).2 (s i) ?_;walk_at "dx";walk_at "dx";refine⟨by
   rw[a0a,a0a];have m:=u i;have o:=List.length_filter_le (λc=>!decide (c∈cM (qs.take i))) q.2;have r:=a.2.1;lia,_,.inl rfl,true,true,.str q.1,.tup (q.2.map D.str),?_⟩
  rw[rY j,aE8,a4b];rfl
 ·rintro p ⟨b,e,f,g,rfl⟩;rw[a0a,List.take_length];exact k b e f g
def rZ{qs:List (Str×List Str)}(a:Qn qs){K:Res->List Sl->Prop}(k:K (.val (.tup ((cM qs).map D.str))) [⟨.val,qD qs⟩]):CK dD [⟨.val,qD qs⟩] K:=by
 unfold dD;rw[dA];show RS hR [_,none,none,none,none] _;unfold hR;walk_at "dx";refine⟨a7c _,aZ3 a λb c d e=>?_⟩;walk_at "dx";exact k
def fJ{qs:List (Str×List Str)}{z:Str}:z∈cM qs↔∃ q∈qs,z∈q.2:=by
 refine⟨lC,λZ0=>?_⟩;obtain⟨q,a,b⟩:=Z0;have d:∀ (l:List (Str×List Str)) (acc:List Str),(z∈acc\/∃ q∈l,z∈q.2)->z∈l.foldl (λacc q=>acc++q.2.filter λc=>!decide (c∈acc)) acc:=by
  intro l
  induction l with
  | nil=>
    intro acc h;rcases h with h | ⟨q,h,_⟩;exact h;cases h
  | cons q r e=>
    intro acc h;refine e _ ?_;by_cases ha:z∈acc;exact .inl (a2d _ ha)
    ·rcases h with h | ⟨f,a,b⟩;exact absurd h ha;rcases a3b.mp a with rfl | a;exact .inl (a1c _ (List.mem_filter.mpr ⟨b,by simp[ha]⟩));exact .inr ⟨f,a,b⟩
 exact d qs [] (.inr ⟨q,a,b⟩)
noncomputable def wo(qs:List (Str×List Str))(z:Str):List (Str×List Str):=qs.filter λq=>!decide (q.1=z)
def nI{qs:List (Str×List Str)}{z:Str}{q:Str×List Str}(h:q∈wo qs z):q∈qs/\q.1≠z:=by
 have:=List.mem_filter.mp h;exact⟨this.1,by simpa using this.2⟩
theorem Qn.wo{qs:List (Str×List Str)}(h:Qn qs)(z:Str):Qn (wo qs z):=⟨a8b (List.length_filter_le _ _) h.1,λq a=>h.2 q (nI a).1⟩
def sA{qs:List (Str×List Str)}{z:Str}(a:Qn qs)(b:As z){K:Res->List Sl->Prop}(k:K (.val (qD (wo qs z))) [⟨.val,qD qs⟩,⟨.val,.str z⟩]):CK eQ [⟨.val,qD qs⟩,⟨.val,.str z⟩] K:=by
 have sl:1000<=sizeLine:=by decide
 have c:=a.1;unfold eQ;rw[dA];show RS kU [_,_,none] _;unfold kU;walk_at "dx";refine⟨by rw[a0a];lia,bC (λq=>!decide (q.1=z)) qP qP qs [_,_,none] rfl (λq h=>?_) ?_⟩;walk_at "dx";refine oC (a.2 q h).1.2 b ?_;walk_at "dx";walk_at "dx";exact k
def bK9{cs ss:List Str}{m:Md}(hm:m=.par\/m=.val)(a:∀ z∈cs,As z)(b:∀ z∈ss,As z)(e:ss.length<=1000){K:Res->List Sl->Prop}(k:K (.val (.bl (ss.all λc=>decide (c∈cs)))) [⟨.val,.tup (cs.map D.str)⟩,⟨m,.lst (ss.map D.str)⟩]) :
  CK jO [⟨.val,.tup (cs.map D.str)⟩,⟨m,.lst (ss.map D.str)⟩] K:=by
 have sl:1000<=sizeLine:=by decide
 unfold jO;rw[dA];show RS kW [_,_,none] _;unfold kW;rcases hm with rfl | rfl
 all_goals
  walk_at "dx";refine⟨by rw[a0a];lia,cZ8 D.str (λc=>decide (c∈cs)) ss (λy d=>?_) ?_⟩
  ·walk_at "dx";refine lW (b y d) a ?_;walk_at "dx"
   try rfl
  ·walk_at "dx";rw[bY1];exact k
noncomputable abbrev oD:Option Str->D
 | none=>.non
 | some z=>.str z
noncomputable abbrev eD(p:Str×Option Str):D:=.tup [.str p.1,oD p.2]
def dR2:∀ x y:Option Str,oD x=oD y->x=y
 | none,none,_=>rfl
 | some x,some y,h=>by injection h with h;rw[h]
def dR3(p q:Str×Option Str)(h:eD p=eD q):p=q:=by
 injection h with h
 injection h with b a
 injection a with a
 exact Prod.ext (rX _ _ b) (dR2 _ _ a)
noncomputable def shr(cs:List Str)(o:List (Str×List Str)):List Str:=cs.filter λc=>decide (c∈cM o)
noncomputable def aR9(aL:List (Str×List Str))(z:Str)(cs:List Str):List (Option Str):=
 if(wo aL z).length=0 then[none]else((wo aL z).filter λo=>(shr cs (wo aL z)).all λc=>decide (c∈o.2)).map λo=>some o.1
def cH1{aL:List (Str×List Str)}{z:Str}{cs:List Str}:(aR9 aL z cs).length<=aL.length+1:=by
 unfold aR9;split;show 1<=_;lia;rw[a0a];exact a8b (List.length_filter_le _ _) (a8b (List.length_filter_le _ _) (Nat.le_succ _))
def cH2{aL:List (Str×List Str)}{z:Str}{cs:List Str}{h:Option Str}(a:h∈aR9 aL z cs):∀ x,h=some x->∃ q∈aL,q.1=x:=by
 intro x e;unfold aR9 at a;split at a;rw[a3a]at a;rw[a]at e;cases e;obtain⟨q,b,rfl⟩:=a9b.mp a;cases e;exact⟨q,(nI (List.mem_filter.mp b).1).1,rfl⟩
def aJ8{qs:List (Str×List Str)}(h:Qn qs):∀ z∈cM qs,As z:=λz a=>by
 obtain⟨q,b,c⟩:=lC a;exact((h.2 q b).2.2 z c).2
def bL0{aL:List (Str×List Str)}{z:Str}{cs:List Str}(b:Qn aL)(e:As z)(d:∀ z∈cs,As z)(f:cs.length<=100){K:Res->List Sl->Prop}
  (k:K (.own (.lst ((aR9 aL z cs).map oD))) [⟨.val,qD aL⟩,⟨.val,.str z⟩,⟨.val,.tup (cs.map D.str)⟩]):CK fW [⟨.val,qD aL⟩,⟨.val,.str z⟩,⟨.val,.tup (cs.map D.str)⟩] K:=by
 have sl:1000<=sizeLine:=by decide
 unfold fW;rw[dA];show RS hU [_,_,_,none,none,none,none,none] _;unfold hU;walk_at "dx";refine sA b e ?_;have a:=b.wo z;walk_at "dx";unfold aR9 at k;split;rename_i h0;rw[a4y (by rw[a0a]at h0;lia)]at k;exact⟨by lia,k⟩;rename_i h0;rw[a4z (by rw[a0a]at h0;lia)]at k;have g:∀ c∈shr cs (wo aL z),As c:=λc h=>d c (List.mem_filter.mp h).1;have i:(shr cs (wo aL z)).length<=100:=a8b (List.length_filter_le _ _) f;refine⟨by rw[a0a];lia,bC (λc=>decide (c∈cM (wo aL z))) D.str D.str cs [_,_,_,_,none,none,none,none] rfl (λc h=>?_) ?_⟩;walk_at "dx";refine rZ a ?_;walk_at "dx";refine lW (d c h) (aJ8 a) ?_;walk_at "dx";walk_at "dx";have j:=a.1;refine⟨by rw[a0a];lia,bC (λo=>(shr cs (wo aL z)).all λc=>decide (c∈o.2)) (λo=>.str o.1) qP (wo aL z) [_,_,_,_,some ⟨.own,.lst ((shr cs (wo aL z)).map D.str)⟩,none,none,none] rfl (λq h=>?_) ?_⟩;walk_at "dx";refine bK9 (.inl rfl) (λc h'=>((a.2 q h).2.2 c h').2) g (by lia) ?_;walk_at "dx";walk_at "dx";rw[List.map_map]at k;exact k
noncomputable def ears(aL:List (Str×List Str)):List (Str×Option Str):=aL.flatMap λq=>(aR9 aL q.1 q.2).map λh=>(q.1,h)
def sC{aL:List (Str×List Str)}(c:Qn aL){K:Res->List Sl->Prop}(k:K (.own (.lst ((ears aL).map eD))) [⟨.val,qD aL⟩]):CK fD [⟨.val,qD aL⟩] K:=by
 have sl:20000<=sizeLine:=by decide
 unfold fD;rw[dA];show RS kX [_,none,none,none,none] _;unfold kX;walk_at "dx";refine⟨a7c _,fS (λi τ=>∃ e f g j,((aL.take i).flatMap λq=>(aR9 aL q.1 q.2).map λh=>(q.1,h)).length<=i*101/\τ=[_,some ⟨.own,.lst (((aL.take i).flatMap λq=>(aR9 aL q.1 q.2).map λh=>(q.1,h)).map eD)⟩,ov e g,ov f j,none]) ⟨false,false,.non,.non,a7c _,rfl⟩ ?_ ?_⟩;rintro i d τ hd ⟨e,f,g,j,hi,rfl⟩;obtain⟨q,a,rfl⟩:=fT hd;have l:i < aL.length:=(a2a.mp a).1;have b:=c.2 q (a6b a);have m:=c.1;have n:=cH1 (aL:=aL) (z:=q.1) (cs:=q.2);walk_at "dx";refine bL0 c b.1.2 (λz h=>(b.2.2 z h).2) b.2.1 ?_;walk_at "dx";refine⟨by rw[a0a];lia,fH (λh=>eD (q.1,h)) oD (aR9 aL q.1 q.2) [_,_,_,_,none] rfl (λh _=>?_) ?_⟩;walk_at "dx";exact sl2;walk_at "dx";refine⟨by simp only[List.length_map];lia,_,.inl rfl,true,true,.str q.1,.tup (q.2.map D.str),?_,?_⟩;rw[rY a,List.flatMap_append,a5a,List.flatMap_singleton,a0a];lia;rw[rY a,List.flatMap_append,List.flatMap_singleton,a4b,List.map_map];rfl;rintro τ ⟨e,f,g,j,_,rfl⟩;rw[a0a,List.take_length];walk_at "dx";exact k
def Eg(p:Str×Option Str):Prop:=Tx p.1/\∀ z,p.2=some z->Tx z
def dR4{p:Str×Option Str}(h:Eg p):Ok 1 (eD p):=.tup λd hd=>by
 simp only[List.mem_cons,List.not_mem_nil,or_false]at hd;rcases hd with rfl | rfl;exact .str h.1.2;cases e:p.2 with
 | none=>exact .non
 | some z=>exact .str (h.2 z e).2
def aZ4{aL:List (Str×List Str)}(a:Qn aL){p:Str×Option Str}(h:p∈ears aL):Eg p:=by
 obtain⟨q,b,c⟩:=List.mem_flatMap.mp h;obtain⟨o,d,rfl⟩:=a9b.mp c;refine⟨(a.2 q b).1,λz e=>?_⟩;obtain⟨f,g,rfl⟩:=cH2 d z e;exact(a.2 f g).1
noncomputable def lX:List (Str×List Str)->List (Str×Option Str)->Bool
 | aL,[]=>decide (aL.length=0)
 | aL,p::r=>decide (p∈ears aL)&&lX (wo aL p.1) r
def sU{qs:List (Str×List Str)}{es:List (Str×Option Str)}{m:Md}(hm:m=.par\/m=.val)(r:Qn qs)(s:∀ p∈es,Eg p){K:Res->List Sl->Prop}(k:K (.val (.bl (lX qs es))) [⟨.val,qD qs⟩,⟨m,.lst (es.map eD)⟩]) :
  CK dU [⟨.val,qD qs⟩,⟨m,.lst (es.map eD)⟩] K:=by
 unfold dU;rw[dA];show RS iU [_,_,none,none,none] _;unfold iU;rcases hm with rfl | rfl
 all_goals
  walk_at "dx";refine bV0 (λi τ=>∃ aL g h j l,Qn aL/\lX qs es=lX aL (es.drop i)/\τ=[some ⟨.val,qD qs⟩,_,some ⟨.val,qD aL⟩,ov g h,ov j l]) ⟨qs,false,.non,false,.non,r,rfl,rfl⟩ ?_ ?_
  ·rintro i d τ hd ⟨aL,g,h,j,l,e,c,rfl⟩;obtain⟨p,f,rfl⟩:=fT hd;have o:=s p (a6b f);have t:es.drop i=p::es.drop (i+1):=by
    obtain⟨a,u⟩:=a2a.mp f;rw[List.drop_eq_getElem_cons a,u]
   rw[t]at c;walk_at "dx";refine⟨by decide,sC e ?_⟩;walk_at "dx";refine zP (n:=1) (m:=1) (dR4 o) (λd hd=>?_) (by decide) (by decide) ?_;obtain⟨q,a,rfl⟩:=a9b.mp hd;exact dR4 (aZ4 e a)
   rw[rW eD dR3];walk_at "dx";split
   ·rename_i a;have b:p∉ears aL:=by simpa using a
    rw[c,show lX aL (p::es.drop (i+1))=false by simp[lX,b]]at k;exact .inr (.inl ⟨_,_,rfl,k⟩)
   ·rename_i a;have b:p∈ears aL:=by simpa using a
    refine sA e o.1.2 ?_;walk_at "dx";exact .inl ⟨_,.inl rfl,wo aL p.1,true,.str p.1,true,oD p.2,e.wo _,by rw[c];simp[lX,b],rfl⟩
  ·rintro τ ⟨aL,g,h,j,l,e,c,rfl⟩;rw[a0a,List.drop_length]at c;walk_at "dx";rw[c,show lX aL []=decide ((((aL.map qP).length:Nat):Int)=0) by rw[a0a];exact decide_eq_decide.mpr (by lia)]at k;exact k
theorem cZ9:∀ (l:List (Str×List Str)),cF7 (l.map qP)=some (l.map λq=>(q.1,.tup (q.2.map D.str)))
 | []=>rfl
 | q::r=>by
   show(cF7 (r.map qP)).map _=_;rw[cZ9 r];rfl
def dA0{l:List (Str×List Str)}(a:l.length < 4000)(hn:(l.map Prod.fst).Nodup){K:Res->Prop}(k:K (.own (.dic (l.map λq=>.str q.1) (l.map λq=>.tup (q.2.map D.str))))):OK1 (bV2 [.lst (l.map qP)]) K:=by
 show OK1 ((cF7 (l.map qP)).bind _) K;rw[cZ9];show OK1 (if _ then _ else none) K;rw[a4y ⟨by rw[a0a];exact a,by rw[List.map_map];exact hn⟩,List.map_map,List.map_map];exact k
def cH3{l:List (Str×List Str)}(a:l.length < 4000)(hn:(l.map Prod.fst).Nodup){K:Res->Prop}(k:K (.own (.dic (l.map λq=>.str q.1) (l.map λq=>.tup (q.2.map D.str))))):OK1 (bV2 [qD l]) K:=by
 show OK1 ((cF7 (l.map qP)).bind _) K;rw[cZ9];show OK1 (if _ then _ else none) K;rw[a4y ⟨by rw[a0a];exact a,by rw[List.map_map];exact hn⟩,List.map_map,List.map_map];exact k
noncomputable def jA(l:List (Str×List Str))(z:Str):List Str:=((l.find? λq=>decide (q.1=z)).map Prod.snd).getD []
theorem cQ4{z:Str}:∀ {l:List (Str×List Str)},(∃ q∈l,q.1=z)->aY3 (l.map λq=>.str q.1) (l.map λq=>.tup (q.2.map D.str)) z=some (.tup ((jA l z).map D.str))
 | [],⟨q,h,_⟩=>nomatch h
 | p::r,⟨q,h,e⟩=>by
   show(if p.1=z then some (D.tup (p.2.map D.str))else aY3 (r.map λq=>.str q.1) (r.map λq=>.tup (q.2.map D.str)) z)=_;by_cases a:p.1=z;rw[a4y a];unfold jA;rw[List.find?_cons_of_pos (by simpa using a)];rfl
   ·rw[a4z a,cQ4 ⟨q,by
     rcases a3b.mp h with rfl | h;exact absurd e a;exact h,e⟩]
    unfold jA;rw[List.find?_cons_of_neg (by simpa using a)]
def dR5{l:List (Str×List Str)}{z:Str}(h:∃ q∈l,q.1=z){K:Res->Prop}(k:K (.val (.tup ((jA l z).map D.str)))):OK1 (dO3 (.dic (l.map λq=>.str q.1) (l.map λq=>.tup (q.2.map D.str))) (.str z)) K:=by
 show OK1 ((aY3 _ _ z).map Res.val) K;rw[cQ4 h];exact k
def aE9{l:List (Str×List Str)}{z:Str}(h:∃ q∈l,q.1=z):∃ q∈l,q.1=z/\q.2=jA l z:=by
 unfold jA;cases e:l.find? λq=>decide (q.1=z)with
 | none=>
   obtain⟨q,a,b⟩:=h;have:=List.find?_eq_none.mp e q a;exact absurd b (by simpa using this)
 | some q=>exact⟨q,List.mem_of_find?_eq_some e,by simpa using List.find?_some e,rfl⟩
noncomputable def wnt(cs:List Str)(o:List (Str×List Str)):List Str:=cs.filter λc=>!(o.filter λq=>decide (c∈q.2)).isEmpty
noncomputable def gM(aL:List (Str×List Str))(z:Str):List Str:=((wo aL z).filter λo=>(wnt (jA aL z) (wo aL z)).all λc=>decide (c∈o.2)).map Prod.fst
def pT{aL:List (Str×List Str)}{z:Str}{m:Md}{t:D}(hm:(m=.par/\t=.lst (aL.map qP))\/(m=.lent/\t=.lst (aL.map qP))\/(m=.val/\t=qD aL))(a:Qn aL)(hn:(aL.map Prod.fst).Nodup)(g:∃ q∈aL,q.1=z){K:Res->List Sl->Prop}
  (k:K (.own (.lst ((gM aL z).map D.str))) [⟨m,t⟩,⟨.val,.str z⟩]):CK bT [⟨m,t⟩,⟨.val,.str z⟩] K:=by
 have sl:1000<=sizeLine:=by decide
 have i:As z:=by obtain⟨q,v,rfl⟩:=g;exact(a.2 q v).1.2
 obtain⟨u,b,w,e⟩:=aE9 g;have f:∀ c∈jA aL z,As c:=λc j=>((a.2 u b).2.2 c (e ▸ j)).2;have l:(jA aL z).length<=100:=e ▸ (a.2 u b).2.1;have p:=a.wo z;have A:=p.1;have r:∀ c∈wnt (jA aL z) (wo aL z),As c:=λc h=>f c (List.mem_filter.mp h).1;have B:(wnt (jA aL z) (wo aL z)).length<=100:=a8b (List.length_filter_le _ _) l;unfold bT;rw[dA];show RS gF [_,_,none,none,none,none,none,none] _;unfold gF;have C:=a.1;rcases hm with⟨rfl,rfl⟩ | ⟨rfl,rfl⟩ | ⟨rfl,rfl⟩
 all_goals
  walk_at "dx"
  first | refine dA0 (by lia) hn ?_ | refine cH3 (by lia) hn ?_
  walk_at "dx";refine dR5 g ?_;walk_at "dx";refine⟨by rw[a0a];lia,bC (λq=>!decide (q.1=z)) qP qP aL [_,_,_,none,none,none,none,none] rfl (λq h=>?_) ?_⟩;walk_at "dx";refine oC (a.2 q h).1.2 i ?_;walk_at "dx";exact sl2;walk_at "dx";refine⟨by rw[a0a];lia,bC (λc=>!((wo aL z).filter λq=>decide (c∈q.2)).isEmpty) D.str D.str (jA aL z) [_,_,_,some ⟨.own,.lst ((wo aL z).map qP)⟩,none,none,none,none] rfl (λc j=>?_) ?_⟩
  ·walk_at "dx";refine⟨by rw[a0a];lia,bC (λq=>decide (c∈q.2)) (λ_=>.int 1) qP (wo aL z) [_,_,_,_,none,none,none,_] rfl (λq h=>?_) ?_⟩;walk_at "dx";refine lW (f c j) (λx s=>((p.2 q h).2.2 x s).2) ?_;walk_at "dx";walk_at "dx";refine⟨a7c _,aE4 (n:=0) (λd hd=>?_) (by decide) ?_⟩;obtain⟨_,_,rfl⟩:=a9b.mp hd;exact .int
   rw[List.isEmpty_map];walk_at "dx"
  ·walk_at "dx";refine⟨by rw[a0a];lia,bC (λo=>(wnt (jA aL z) (wo aL z)).all λc=>decide (c∈o.2)) (λo=>.str o.1) qP (wo aL z) [_,_,_,some ⟨.lent,.lst ((wo aL z).map qP)⟩,some ⟨.own,.lst ((wnt (jA aL z) (wo aL z)).map D.str)⟩,none,none,none] rfl (λq h=>?_) ?_⟩
   ·walk_at "dx";refine⟨by rw[a0a];lia,cZ8 D.str (λc=>decide (c∈q.2)) (wnt (jA aL z) (wo aL z)) (λy E=>?_) ?_⟩
    ·walk_at "dx";refine lW (r y E) (λx s=>((p.2 q h).2.2 x s).2) ?_;walk_at "dx"
     try rfl
    ·walk_at "dx";rw[bY1]
   ·walk_at "dx";unfold gM at k;rw[List.map_map]at k;exact k
noncomputable def dR6(aL:List (Str×List Str))(z:Str):Bool:=decide (z∈aL.map Prod.fst)
def aJ9{aL:List (Str×List Str)}{z:Str}:dR6 aL z=true↔∃ q∈aL,q.1=z:=by
 unfold dR6;rw[a4D,a9b]
noncomputable def cH4(aL:List (Str×List Str))(p:Str×Option Str):Bool:=dR6 aL p.1&&(!(decide (aL.length=1)&&p.2.isSome) && !(decide (1 < aL.length) && !decide (p.2∈(gM aL p.1).map some)))
def dR7(aL:List (Str×List Str))(z:Str):((wo aL z).map Prod.fst).Sublist (aL.map Prod.fst):=(List.filter_sublist).map _
def aK0{aL:List (Str×List Str)}{z:Str}(a:Qn aL):∀ x∈gM aL z,Tx x:=λx b=>by
 obtain⟨q,c,rfl⟩:=a9b.mp b;exact(a.2 q (nI (List.mem_filter.mp c).1).1).1
def aS0{aL:List (Str×List Str)}{z:Str}:(gM aL z).length<=aL.length:=by
 unfold gM;rw[a0a];exact a8b (List.length_filter_le _ _) (List.length_filter_le _ _)
def dA1{z:Str}{r:List (Str×List Str)}(h:∀ q∈r,q.1≠z):wo r z=r:=List.filter_eq_self.mpr λq a=>by simpa using h q a
theorem nJ{z:Str}:∀ {aL:List (Str×List Str)},(aL.map Prod.fst).Nodup->(∃ q∈aL,q.1=z)->(wo aL z).length+1=aL.length
 | [],_,⟨q,h,_⟩=>nomatch h
 | p::r,hn,⟨q,h,e⟩=>by
   rw[a7e,a0f]at hn;by_cases a:p.1=z;have:wo (p::r) z=wo r z:=List.filter_cons_of_neg (by simpa using a);rw[this,dA1 λq b c=>hn.1 (by rw[a,← c];exact List.mem_map_of_mem b),a4f]
   ·have:wo (p::r) z=p::wo r z:=List.filter_cons_of_pos (by simpa using a);rw[this,a4f,a4f,nJ hn.2 ⟨q,by
     rcases a3b.mp h with rfl | h;exact absurd e a
     ·exact h,e⟩]
def dA2(cs:List Str)(o:List (Str×List Str)):shr cs o=wnt cs o:=by
 unfold shr wnt;congr 1;funext c;rw[a3e,a4D,fJ];simp only[Bool.not_eq_true',← Bool.not_eq_true,List.isEmpty_iff,List.filter_eq_nil_iff,decide_eq_true_eq];constructor;rintro⟨q,a,b⟩ h;exact h q a b;intro h;exact a0e λn=>h λq a b=>n ⟨q,a,b⟩
def cQ5{aL:List (Str×List Str)}(hn:(aL.map Prod.fst).Nodup){p q:Str×List Str}(d:p∈aL)(g:q∈aL)(e:p.1=q.1):p=q:=by
 induction aL with
 | nil=>cases d
 | cons a r h=>
   rw[a7e,a0f]at hn;rcases a3b.mp d with rfl | c;rcases a3b.mp g with rfl | b;rfl;exact absurd (List.mem_map_of_mem (f:=Prod.fst) b) (e ▸ hn.1);rcases a3b.mp g with rfl | b;exact absurd (List.mem_map_of_mem (f:=Prod.fst) c) (e ▸ hn.1);exact h hn.2 c b
def dA3{aL:List (Str×List Str)}(hn:(aL.map Prod.fst).Nodup)(p:Str×Option Str):decide (p∈ears aL)=cH4 aL p:=by
 obtain⟨z,h⟩:=p;by_cases b:∃ q∈aL,q.1=z
 ·obtain⟨j,k,c,l⟩:=aE9 b;have o:=nJ hn b;have d:dR6 aL z=true:=aJ9.mpr b;have e:(z,h)∈ears aL↔h∈aR9 aL z (jA aL z):=by
   unfold ears;rw[List.mem_flatMap];constructor
   ·rintro⟨q,f,i⟩;obtain⟨h',m,a⟩:=a9b.mp i;injection a with a n
    subst n;have:q=j:=cQ5 hn f k (a.trans c.symm);rw[← l,← this,← a];exact m
   ·intro g;exact⟨j,k,a9b.mpr ⟨h,by rw[c,l];exact g,by rw[c]⟩⟩
  rw[a3e,a4D,e];unfold cH4 aR9;rw[d];by_cases h0:(wo aL z).length=0;rw[a4y h0,a4C (by lia:aL.length=1),a4B (by lia:¬ 1 < aL.length)];cases h<;>simp;rw[a4z h0,a4B (by lia:¬ aL.length=1),a4C (by lia:1 < aL.length),dA2];unfold gM;rw[List.map_map];simp[Function.comp_def]
 ·have d:dR6 aL z=false:=Bool.eq_false_iff.mpr λz=>b (aJ9.mp z);unfold cH4;rw[d,Bool.false_and];refine a4B λg=>b ?_;obtain⟨q,f,i⟩:=List.mem_flatMap.mp g;obtain⟨h',_,a⟩:=a9b.mp i;injection a with a _
  exact⟨q,f,a⟩
theorem zT{P:Int->Prop}:∀ {ys:List D},(∀ y∈ys,∃ n,P n/\y=.int n)->∃ l:List Int,ys=l.map D.int/\l.length=ys.length/\∀ n∈l,P n
 | [],_=>⟨[],rfl,rfl,λ_ h=>absurd h List.not_mem_nil⟩
 | y::r,h=>by
   obtain⟨n,hn,rfl⟩:=h y a4a;obtain⟨l,rfl,d,b⟩:=zT λy c=>h y (a6a _ c);exact⟨n::l,rfl,by simp,λx a=>by
    rcases a3b.mp a with rfl | a;exact hn
    ·exact b x a⟩
def dA4{n:Nat}{y:D}(h:y∈sY 0 n):∃ i:Int,(0<=i/\i < n)/\y=.int i:=by
 obtain⟨j,a⟩:=List.mem_iff_getElem?.mp h;obtain⟨c,b⟩:=jV a;exact⟨0+j,by lia,b⟩
def dR8{n:Nat}(h:0 < n):sY 0 n≠[]:=λz=>by have:=a4F List.length z;rw[cK]at this;simp at this;lia
def okI{n:Nat}{l:List Int}:∀ d∈l.map D.int,Ok n d:=λd hd=>by
 obtain⟨i,_,rfl⟩:=a9b.mp hd;exact .int
def dA5{n:Nat}{k:Int}(h0:0<=k)(a:k < n):ixN n k=some k.toNat:=by
 unfold ixN;rw[a4y h0,a4y (by lia)]
def cH5:∀ l:List Int,(l.take 1).Nodup
 | []=>.nil
 | [a]=>by simp
 | a::b::r=>by simp
def bY3{l:List Int}(h:(l.map D.int).Nodup):l.Nodup:=(List.pairwise_map.mp h).imp λ{a b} q e=>q (by rw[e])
def cQ6{l:List Int}(h:l.Nodup):(l.map D.int).Nodup:=List.pairwise_map.mpr (h.imp λ{a b} q e=>q (by injection e))
def dR9(lo:Int)(n:Nat):(sY lo n).Nodup:=by
 unfold sY;exact List.pairwise_map.mpr (List.nodup_range.imp λ{a b} q e=>q (by injection e with e;lia))
def dS0{a b m:Int}(o:1<=m)(p:m<=6){K:Res->List Sl->Prop}(k:∀ (l:List Int) c d,l≠[]->l.length<=4->((∀ n∈l,0<=n/\n < m)/\l.Nodup)->K (.own (.lst (l.map D.int))) [⟨.par,.lst [.int c,.int d]⟩,⟨.par,.lst (sY 0 m.toNat)⟩]) :
  CK bR [⟨.par,.lst [.int a,.int b]⟩,⟨.par,.lst (sY 0 m.toNat)⟩] K:=by
 refine aJ7 (.inl ⟨rfl,rfl⟩) (dR8 (by lia)) (by rw[cK];lia) λys c d e q f g=>?_;obtain⟨l,rfl,r,h⟩:=zT (P:=λn=>0<=n/\n < m) λy j=>by
  obtain⟨i,hi,rfl⟩:=dA4 (f y j);exact⟨i,by lia,rfl⟩
 exact k l c d (λz=>e (by rw[z];rfl)) (by lia) ⟨h,bY3 (g (dR9 _ _))⟩
noncomputable def dA6:DS:=bL (iM (lM "list" 3 aN8 (aC (dFz (dSl (aH 6) sZ (dP (dC (.int 4))))) aP)))
 (iM (rD "list" 4 bI4 (aC (cE [8] (dIt (aX ixD (aH 3) (bC3 cO4 (dC (.int 1))))) (dgN 8) (dX (aX (inD true) (aH 8) (aH 4))) (dFz (aH 8))) aP)))
noncomputable abbrev plS(a b m c:Int)(ls:List (List Int))(us:List Int)(d e f:Option Sl):Sg:=[some ⟨.par,.lst [.int a,.int b]⟩,some ⟨.val,.int m⟩,some ⟨.val,.int c⟩,some ⟨.own,aQ1 ls⟩,some ⟨.own,.lst (us.map D.int)⟩,d,e,f,none]
structure PlI(m:Int)(ls:List (List Int))(us:List Int):Prop where
 le:∀ l∈ls,l≠[]/\l.length<=4/\(∀ n∈l,0<=n/\n < m)/\l.Nodup/\∀ n∈l,n∈us
 un:us≠[]
 ul:us.length<=4*ls.length
 um:∀ n∈us,0<=n/\n < m
def bY4{α:Type}(l:List α)(x:α):atI (l++[x]) (-1)=some x:=by
 unfold atI ixN;rw[a4z (by decide),a4y (by rw[a5a,List.length_singleton];lia)];show(l++[x])[(-1+((l++[x]).length:Int)).toNat]? = _;rw[show(-1+((l++[x]).length:Int)).toNat=l.length by rw[a5a,List.length_singleton];lia,a6f (a9a _),Nat.sub_self];rfl
def dS1{a b m c:Int}{ls:List (List Int)}{us l:List Int}{f g:Option Sl}(e:PlI m ls us)(B:ls.length<=6)(j:l≠[])(hm:(∀ n∈l,0<=n/\n < m)/\l.Nodup){Q:Out->Prop}
  (k:∀ d,PlI m (ls++[l.take 4]) d->Q (.nx (plS a b m c (ls++[l.take 4]) d f (some ⟨.own,.lst (l.map D.int)⟩) g))):RS dA6 (plS a b m c ls us f (some ⟨.own,.lst (l.map D.int)⟩) g) Q:=by
 have sl:10000<=sizeLine:=by decide
 have o:=e.ul;have p:(l.take 4).length<=4:=by rw[a0d];lia
 have q:aK8 (l.map D.int) none (some 4)=(l.take 4).map D.int:=by rw[aE5 _ (by decide),a8h];rfl
 have r:ls.map (λl=>D.lst (l.map D.int))++[D.lst ((l.take 4).map D.int)]=(ls++[l.take 4]).map (λl=>D.lst (l.map D.int)):=by rw[a4b];rfl
 unfold dA6 plS aQ1;walk_at "dx";rw[q];refine⟨by rw[a0a];lia,?_⟩;rw[bY4];walk_at "dx";refine⟨by rw[a0a];lia,bC (λn=>!decide (n∈us)) D.int D.int (l.take 4) [_,_,_,_,_,_,_,_,none] rfl (λn hn=>?_) ?_⟩;walk_at "dx";refine zP (n:=0) (m:=0) .int okI (by decide) (by decide) ?_;rw[rW D.int λx y h=>by injection h];walk_at "dx";walk_at "dx";have C:=List.length_filter_le (λn=>!decide (n∈us)) (l.take 4);refine⟨by rw[a0a,a0a];lia,?_⟩;rw[r,← a4b];refine k _ ⟨λx s=>?_,λz=>e.un (List.append_eq_nil_iff.mp z).1,by rw[a5a,a5a,List.length_singleton];lia,λn hn=>?_⟩
 ·rcases a8a.mp s with h | h;obtain⟨t,u,v,w,A⟩:=e.le x h;exact⟨t,u,v,w,λn hn=>a2d _ (A n hn)⟩;rw[a3a.mp h];refine⟨λz=>?_,p,λn hn=>hm.1 n (a9d hn),hm.2.sublist (List.take_sublist _ _),λn hn=>?_⟩
  rotate_left
  ·by_cases i:n∈us;exact a2d _ i;exact a1c _ (List.mem_filter.mpr ⟨hn,by simp[i]⟩)
  rw[List.take_eq_nil_iff]at z;rcases z with z | z;lia;exact j z
 ·rcases a8a.mp hn with h | h;exact e.um n h;exact hm.1 n (a9d (List.mem_filter.mp h).1)
def cH6{a b:Int}{K:Res->List Sl->Prop}(k:∀ ls g r,dV4 ls->K (.own (aQ1 ls)) [⟨.par,.lst [.int g,.int r]⟩]):CK cO [⟨.par,.lst [.int a,.int b]⟩] K:=by
 have sl:10000<=sizeLine:=by decide
 unfold cO;rw[dA];show RS eG [_,none,none,none,none,none,none,none,none] _;rw[show eG=bL (cG 1 (aX iC (dC (.int 1)) (aV 2 aI (aC (aH 0) (aC (dC (.int 6)) aP)))))
  (bL (cG 2 (aX iC (dC (.int 1)) (aV 2 aI (aC (aH 0) (aC (dC (.int 6)) aP)))))
  (bL (mB (dX (aX (eqD false) (aV 2 aI (aC (aH 0) (aC (dC (.int 3)) aP))) (dC (.int 0)))) (gQ (cE [5] (aA5 (aC (aH 2) aP)) (dgN 5) iB (dFz (aV 2 bR (aC (aH 0) (aC (dCB aX8 (aC (aH 1) aP)) aP)))))) fM)
  (bL (cG 3 (kI (aC (dFz (aV 2 bR (aC (aH 0) (aC (dCB aX8 (aC (aH 1) aP)) aP)))) aP)))
  (bL (cG 4 (dCB aH7 (aC (aX ixD (aH 3) (dC (.int 0))) aP)))
  (bL (pU (aA5 (aC (aX dL9 (aH 2) (dC (.int 1))) aP)) (dgN 5)
  (bL (cG 6 (aV 2 bR (aC (aH 0) (aC (aX ixD (aH 3) (aV 2 aI (aC (aH 0) (aC (dCB mD (aC (aH 3) aP)) aP)))) aP))))
  (bL (cG 7 (cE [8] (aA5 (aC (aH 1) aP)) (dgN 8) (dX (aX (inD true) (aH 8) (aH 4))) (dFz (aH 8))))
  (bL (cG 6 (aX iC (dSl (aH 6) sZ (dP (aV 2 aI (aC (aH 0) (aC (aX iC (dCB mD (aC (aH 6) aP)) (dC (.int 1))) aP))))) (dSl (aH 7) sZ (dP (aV 2 aI (aC (aH 0) (aC (dC (.int 3)) aP)))))))
  (bL (mB (dX (aX (eqD false) (aH 6) (kI aP))) (cG 6 (dSl (aH 4) sZ (dP (dC (.int 1))))) fM) dA6)))))
  (gQ (aH 3)))))))from rfl]
 walk_at "dx";refine dJ (by decide) (by decide) λm0 a1 b1 m00 m01=>?_;walk_at "dx";refine dJ (by decide) (by decide) λc0 a2 b2 c00 c01=>?_;walk_at "dx";refine dJ (by decide) (by decide) λw a3 b3 w0 w1=>?_;walk_at "dx";generalize hm:1+m0=m;generalize hc:1+c0=c;split
 ·refine⟨by lia,by rw[cK];lia,iQ _ _ (λi acc τ=>∃ (ls:List (List Int)) (g r:Int),acc=ls.map (λl=>.lst (l.map D.int))/\ls.length=i/\(∀ l∈ls,l.length<=6/\(∀ n∈l,0<=n/\n < 6)/\l.Nodup/\l≠[])/\τ=[some ⟨.par,.lst [.int g,.int r]⟩,some ⟨.val,.int m⟩,some ⟨.val,.int c⟩,none,none,none,none,none,none]) ⟨[],a3,b3,rfl,rfl,λ_ h=>absurd h List.not_mem_nil,rfl⟩ ?_ ?_⟩;rintro i d acc τ hd ⟨ls,g,r,rfl,s,f,rfl⟩;walk_at "dx";refine⟨by lia,dS0 (by lia) (by lia) λl H I B G u=>?_⟩;walk_at "dx";refine⟨_,rfl,ls++[l],H,I,by rw[a4b];rfl,by rw[a5a,s];rfl,λx C=>?_,rfl⟩;rcases a8a.mp C with h | h;exact f x h;rw[a3a.mp h];exact⟨by lia,λn hn=>by have:=u.1 n hn;lia,u.2,B⟩;rintro acc τ ⟨ls,g,r,rfl,s,f,rfl⟩;rw[cK]at s;walk_at "dx";exact k ls g r ⟨by lia,by lia,f⟩
 ·refine⟨by lia,dS0 (by lia) (by lia) λl H I B G u=>?_⟩;walk_at "dx";refine⟨by lia,by lia,fS (λi τ=>∃ g r ls us J L M N,ls.length=i+1/\PlI m ls us/\τ=plS g r m c ls us (ov J L) (fo M) (fo N)) ⟨H,I,[l],l,false,.non,none,none,rfl,⟨λx C=>by rw[a3a.mp C];exact⟨B,G,u.1,u.2,λ_ h=>h⟩,B,by simpa using G,u.1⟩,rfl⟩ ?_ ?_⟩
  ·rintro i d τ hd ⟨g,r,ls,us,J,L,M,N,f,t,rfl⟩;obtain⟨hi,rfl⟩:=jV hd;have lsl:(ls.map λl=>D.lst (l.map D.int)).length=ls.length:=a0a _;unfold plS aQ1;walk_at "dx";refine dJ (by lia) (by lia) λj a5 b5 j0 O=>?_;obtain⟨l,el,s⟩:=bF3 (λl:List Int=>D.lst (l.map D.int)) (l:=ls) (i:=j) j0 (by lia);obtain⟨B,G,u,Q,R⟩:=t.le l s;walk_at "dx";rw[el];walk_at "dx";refine aJ7 (.inr (.inl ⟨rfl,rfl⟩)) (λz=>B (List.map_eq_nil_iff.mp z)) (by rw[a0a];lia) λys a6 b6 y0 y4 ym yn=>?_;obtain⟨o,rfl,ho,E⟩:=zT (P:=λn=>(0<=n/\n < m)/\n∈us) (ys:=ys) λy hy=>by
    obtain⟨n,hn,rfl⟩:=a9b.mp (ym y hy);exact⟨n,⟨u n hn,R n hn⟩,rfl⟩
   have S:o.Nodup:=bY3 (yn (cQ6 Q));walk_at "dx";refine⟨by lia,by rw[cK];lia,bC (λn:Nat=>!decide ((0+(n:Int))∈us)) (λn=>.int (0+(n:Int))) (λn=>.int (0+(n:Int))) (List.range m.toNat) [_,_,_,_,_,_,_,_,none] rfl (λn hn=>?_) ?_⟩;walk_at "dx";refine zP (n:=0) (m:=0) .int okI (by decide) (by decide) ?_;rw[rW D.int λx y h=>by injection h];walk_at "dx"
   obtain⟨fs,ef,hf1,F,T⟩:∃ fs:List Int,((List.range m.toNat).filter λn:Nat=>!decide ((0+(n:Int))∈us)).map (λn:Nat=>D.int (0+(n:Int)))=fs.map D.int/\fs.length<=6/\(∀ n∈fs,(0<=n/\n < m)/\n∉us)/\fs.Nodup:=by
    refine⟨((List.range m.toNat).filter λn:Nat=>!decide ((0+(n:Int))∈us)).map λn:Nat=>0+(n:Int),by rw[List.map_map];rfl,?_,λn hn=>?_,List.pairwise_map.mpr ((List.nodup_range.sublist List.filter_sublist).imp λ{a b} q e=>q (by lia))⟩;rw[a0a];have:=List.length_filter_le (λn:Nat=>!decide ((0+(n:Int))∈us)) (List.range m.toNat);rw[a5f]at this;lia;obtain⟨x,C,rfl⟩:=a9b.mp hn;have h1:=a7d.mp (List.mem_filter.mp C).1;have h2:=(List.mem_filter.mp C).2;exact⟨by lia,by simpa using h2⟩
   walk_at "dx";rw[ef];have lo:(o.map D.int).length<=4:=y4;refine dJ (by lia) (by lia) λO a7 b7 U j11=>?_;walk_at "dx";refine dJ (by decide) (by decide) λY Z b8 V j21=>?_;walk_at "dx";obtain⟨p,ep,hp1,W⟩:∃ p:List Int,aK8 (o.map D.int) none (some O)++aK8 (fs.map D.int) none (some Y)=p.map D.int/\p.length<=10/\(∀ n∈p,0<=n/\n < m)/\p.Nodup:=by
    refine⟨o.take O.toNat++fs.take Y.toNat,by rw[aE5 _ U,aE5 _ V,a4b,a8h,a8h],?_,λn hn=>?_,List.nodup_append.mpr ⟨S.sublist (List.take_sublist _ _),T.sublist (List.take_sublist _ _),λa ha b hb e=>(F b (a9d hb)).2 (by rw[← e];exact(E a (a9d ha)).2)⟩⟩;rw[a5a,a0d,a0d];rw[a0a]at lo;lia;rcases a8a.mp hn with h | h;exact(E n (a9d h)).1;exact(F n (a9d h)).1
   have X:=a4F List.length ep;rw[a5a,a0a]at X;rw[ep];refine⟨by lia,a7c _,aE4 (n:=0) okI (by decide) ?_⟩;rw[List.isEmpty_map];walk_at "dx";split
   ·have e1:aK8 (us.map D.int) none (some 1)=(us.take 1).map D.int:=by rw[aE5 _ (by decide),a8h];rfl
    rw[e1];refine dS1 t (by lia) (λz=>?_) ⟨λn hn=>t.um n (a9d hn),cH5 us⟩ λv A=>?_;rw[List.take_eq_nil_iff]at z;rcases z with z | z;lia;exact t.un z;exact⟨_,.inl rfl,Z,b8,_,v,true,_,some (true,_),some (true,_),by rw[a5a,f];rfl,A,rfl⟩
   ·rename_i h0;refine dS1 t (by lia) (λz=>h0 (by rw[z];rfl)) W λv A=>?_;exact⟨_,.inl rfl,Z,b8,_,v,true,_,some (true,_),some (true,_),by rw[a5a,f];rfl,A,rfl⟩
  ·rintro τ ⟨g,r,ls,us,J,L,M,N,f,t,rfl⟩;rw[cK]at f;unfold plS;walk_at "dx";exact k ls g r ⟨by lia,by lia,λl s=>⟨by have:=(t.le l s).2.1;lia,λn hn=>by have:=(t.le l s).2.2.1 n hn;lia,(t.le l s).2.2.2.1,(t.le l s).1⟩⟩
def bY5{as:List Sl}{K:Res->List Sl->Prop}{o:Out}(h:bT7 as K o):eC3 as K o:=by
 cases o with
 | nx σ=>exact h
 | rt r σ=>exact jK.mp h
 | bk σ=>exact h
 | ct σ=>exact h
 | ex c f σ=>exact h
noncomputable def dA7:DS:=bL (cG 5 (kI aP))
 (bL (pU (bU2 (aV 2 aT (aC (aH 0) (aC (aH 2) aP)))) (iF 2 (bJ (dgN 6) (bJ (dgN 7) iA)))
 (iM (lM "list" 5 aN8 (aC (qY (aC (aX ixD (aH 4) (aH 6)) (aC (dCB aA6 (aC (cE [8] (dIt (aV 2 aT (aC (aH 0) (aC (aH 7) aP)))) (dgN 8) iB (aX ixD (aH 3) (aH 8))) aP)) aP))) aP))))
 (gQ (dCB aA6 (aC (aH 5) aP))))
noncomputable def dA8:DS:=bL (cG 3 (aV 2 aT (aC (aH 0) (aC (aV 2 dQ (aC (aH 0) (aC (dC (.int 6)) aP))) aP))))
 (bL (cG 4 (dFz (aH 3)))
 (bL (mB (dX (aX gtI (aV 2 aI (aC (aH 0) (aC (dC (.int 4)) aP))) (dC (.int 0)))) (cG 4 (aV 2 dQ (aC (aH 0) (aC (dC (.int 6)) aP)))) fM) dA7))
structure Qw(qs:List (Str×List Str)):Prop where
 l1:1<=qs.length
 l6:qs.length<=6
 qn:Qn qs
 nd:(qs.map Prod.fst).Nodup
 cd:∀ q∈qs,q.2.Nodup
 ne:∀ q∈qs,q.2≠[]
 cs:∃ cs:List Str,cs.length=6/\∀ q∈qs,∀ z∈q.2,z∈cs
theorem bF4{P:List Int->Prop}:∀ {ys:List D},(∀ y∈ys,∃ l,P l/\y=.lst (l.map D.int))->∃ ls:List (List Int),ys=ls.map (λl=>.lst (l.map D.int))/\ls.length=ys.length/\∀ l∈ls,P l
 | [],_=>⟨[],rfl,rfl,λ_ h=>absurd h List.not_mem_nil⟩
 | y::r,h=>by
   obtain⟨n,hn,rfl⟩:=h y a4a;obtain⟨l,rfl,d,b⟩:=bF4 λy c=>h y (a6a _ c);exact⟨n::l,rfl,by simp,λx a=>by
    rcases a3b.mp a with rfl | a;exact hn
    ·exact b x a⟩
theorem aK1{P:Str->Prop}:∀ {ys:List D},(∀ y∈ys,∃ z,P z/\y=.str z)->∃ l:List Str,ys=l.map D.str/\∀ z∈l,P z
 | [],_=>⟨[],rfl,by simp⟩
 | y::r,h=>by
   obtain⟨z,b,rfl⟩:=h y a4a;obtain⟨l,rfl,c⟩:=aK1 λy d=>h y (a6a _ d);exact⟨z::l,rfl,λx a=>by
    rcases a3b.mp a with rfl | a;exact b
    ·exact c x a⟩
def dA9{cs:List Str}{n:Int}(h0:0<=n)(a:n < (cs.length:Int)):∃ c,atI (cs.map D.str) n=some (.str c)/\c∈cs/\cs.getD n.toNat default=c:=by
 have hn:n.toNat < cs.length:=by lia
 refine⟨cs[n.toNat],?_,a7b hn,by rw[a3c,a1a hn];rfl⟩;unfold atI;rw[dA5 h0 (by rw[a0a];exact a)];show(cs.map D.str)[n.toNat]? = _;rw[a5c,a1a hn];rfl
def dS2{a b a0 b0 w:Int}{ls:List (List Int)}{cs o:List Str}{m:Md}(hm:m=.val\/m=.own)(hs:dV4 ls)(L:cs.Nodup)(hc:cs.length=6)(M:∀ z∈cs,Tx z)(ht:o.length=6)(N:∀ z∈o,Tx z)(O:o.Nodup){K:Res->List Sl->Prop}
  (k:∀ qs x A,Qw qs->K (.val (qD qs)) [⟨.par,.lst [.int x,.int A]⟩]) :
  RS dA7 [some ⟨.par,.lst [.int a,.int b]⟩,some ⟨.val,.int w⟩,some ⟨.own,aQ1 ls⟩,some ⟨.val,.lst (cs.map D.str)⟩,some ⟨m,.lst (o.map D.str)⟩,none,none,none,none] (bT7 [⟨.par,.lst [.int a0,.int b0]⟩] K):=by
 have sl:10000<=sizeLine:=by decide
 obtain⟨s1,s6,sm⟩:=hs;unfold dA7 aQ1;rcases hm with rfl | rfl
 all_goals
  walk_at "dx";refine⟨a7c _,by decide,nH (xs:=ls.map λl=>D.lst (l.map D.int)) (.inl ⟨rfl,rfl⟩) (by rw[a0a];lia) λys a1 b1 hp=>?_⟩;obtain⟨Q,rfl,hml,R⟩:=bF4 (P:=λl=>l.length<=6/\(∀ n∈l,0<=n/\n < 6)/\l.Nodup/\l≠[]) (ys:=ys) λy B=>by
   obtain⟨l,hl,rfl⟩:=a9b.mp (hp.mem_iff.mp B);exact⟨l,sm l hl,rfl⟩
  have S:=hp.length_eq;rw[a0a,a0a]at S;walk_at "dx";refine fS (λi τ=>i<=6/\∃ x A T d6 U V,∃ qs:List (Str×List Str),qs.map Prod.fst=o.take i/\(∀ q∈qs,q.2.length<=6/\(∀ z∈q.2,Tx z/\z∈cs)/\q.2.Nodup/\q.2≠[])/\τ=[some ⟨.par,.lst [.int x,.int A]⟩,_,_,_,_,some ⟨.own,.lst (qs.map qP)⟩,ov T d6,ov U V,none]) ⟨by lia,a1,b1,false,.non,false,.non,[],rfl,λ_ h=>absurd h List.not_mem_nil,rfl⟩ ?_ ?_
  ·rintro i d τ hd ⟨hi6,x,A,T,d6,U,V,qs,f,g,rfl⟩;obtain⟨y,B,rfl⟩:=kL hd;obtain⟨l,C,rfl⟩:=fT B;have him:i < Q.length:=(a2a.mp C).1;obtain⟨hl6',W,E,F⟩:=R l (a6b C);have X:qs.length=i:=by
    have:=a4F List.length f;rw[a0a,a0d]at this;lia
   have G:o[i]? = some o[i]:=a1a (by lia);have H:atI (o.map D.str) (((0+i:Nat):Int))=some (.str o[i]):=by
    unfold atI;rw[dA5 (by lia) (by rw[a0a];lia)];show(o.map D.str)[((0+i:Nat):Int).toNat]? = _;rw[a5h,a9f,a5c,G];rfl
   walk_at "dx";simp only[Nat.zero_add]at H ⊢;rw[H];walk_at "dx";refine nH (xs:=l.map D.int) (.inr (.inl ⟨rfl,rfl⟩)) (by rw[a0a];lia) λzs a2 b2 s=>?_;obtain⟨js,rfl,hjl,t⟩:=zT (P:=λn=>0<=n/\n < 6) (ys:=zs) λy B=>by
    obtain⟨n,hn,rfl⟩:=a9b.mp (s.mem_iff.mp B);exact⟨n,W n hn,rfl⟩
   have Y:=s.length_eq;rw[a0a,a0a]at Y;walk_at "dx";refine⟨by rw[a0a];lia,iQ _ _ (λj acc τ=>∃ us:List Str,acc=us.map D.str/\us.length=j/\(∀ z∈us,Tx z/\z∈cs)/\us=(js.take j).map (λn=>cs.getD n.toNat default)/\τ=[some ⟨.par,.lst [.int a2,.int b2]⟩,_,_,_,_,_,_,_,none]) ⟨[],rfl,rfl,λ_ h=>absurd h List.not_mem_nil,rfl,rfl⟩ ?_ ?_⟩;rintro j d acc τ hd ⟨us,rfl,u,v,r,rfl⟩;obtain⟨n,hn,rfl⟩:=fT hd;have Z:=t n (a6b hn);obtain⟨c,ec,I,hce⟩:=dA9 (cs:=cs) (n:=n) Z.1 (by lia);walk_at "dx";rw[ec];walk_at "dx";refine⟨_,rfl,us++[c],by rw[a4b];rfl,by rw[a5a,u];rfl,λz J=>?_,by rw[r,a3f,hn,a4b,← hce];rfl⟩;rcases a8a.mp J with h | h;exact v z h;rw[a3a.mp h];exact⟨M c I,I⟩;rintro acc τ ⟨us,rfl,u,v,r,rfl⟩;rw[a0a]at u;rw[a0a,List.take_length]at r;have jnd:js.Nodup:=bY3 (s.nodup_iff.mpr (cQ6 E));have und:us.Nodup:=by
    rw[r];exact List.pairwise_map.mpr (jnd.imp_of_mem λ{a b} ha hb q e=>q (by
     have h1:=t a ha;have h2:=t b hb;have i1:a.toNat < cs.length:=by lia
     have i2:b.toNat < cs.length:=by lia
     rw[a3c,a3c,a1a i1,a1a i2]at e;have e':cs[a.toNat]=cs[b.toNat]:=e;have:=(List.getElem?_inj i1 L).mp (show cs[a.toNat]? = cs[b.toNat]? by rw[a1a i1,a1a i2,e']);lia))
   walk_at "dx";refine⟨by lia,by rw[a0a];lia,_,.inl rfl,by lia,a2,b2,true,_,true,_,qs++[(o[i],us)],by rw[a4b,f,a3f,G];rfl,λq p=>?_,by rw[a4b];rfl⟩;rcases a8a.mp p with h | h;exact g q h;rw[a3a.mp h];exact⟨by show us.length<=6;lia,v,und,λz=>F (List.length_eq_zero_iff.mp (by have e:us.length=0:=(List.length_eq_zero_iff.mpr z);lia))⟩
  ·rintro τ ⟨_,x,A,T,d6,U,V,qs,f,g,rfl⟩;rw[jT,a0a]at f;have X:qs.length=Q.length:=by
    have:=a4F List.length f;rw[a0a,a0d]at this;lia
   walk_at "dx";refine k qs x A ⟨by lia,by lia,⟨by lia,λq p=>⟨N _ ?_,by have:=(g q p).1;lia,λz J=>((g q p).2.1 z J).1⟩⟩,by rw[f];exact O.sublist (List.take_sublist _ _),λq p=>(g q p).2.2.1,λq p=>(g q p).2.2.2,cs,hc,λq p z J=>((g q p).2.1 z J).2⟩;have:q.1∈o.take Q.length:=by rw[← f];exact List.mem_map_of_mem p
   exact a9d this
def dS3{a b a0 b0 w:Int}{ls:List (List Int)}(g:dV4 ls){K:Res->List Sl->Prop}(k:∀ qs i j,Qw qs->K (.val (qD qs)) [⟨.par,.lst [.int i,.int j]⟩]) :
  RS dA8 [some ⟨.par,.lst [.int a,.int b]⟩,some ⟨.val,.int w⟩,some ⟨.own,aQ1 ls⟩,none,none,none,none,none,none] (bT7 [⟨.par,.lst [.int a0,.int b0]⟩] K):=by
 unfold dA8;walk_at "dx";refine bF2 λh t u l m o=>?_;walk_at "dx";refine nH (xs:=h.map D.str) (.inl ⟨rfl,rfl⟩) (by rw[a0a];lia) λys x A f=>?_;obtain⟨cs,rfl,d⟩:=aK1 (P:=Tx) (ys:=ys) λy p=>by
  obtain⟨z,q,rfl⟩:=a9b.mp (f.mem_iff.mp p);exact⟨z,o z q,rfl⟩
 have c:=f.length_eq;rw[a0a,a0a,l]at c;have e:cs.Nodup:=by
  have:(h.map D.str).Nodup:=List.Pairwise.map _ (λa b n z=>n (rX _ _ z)) m;have:=f.nodup_iff.mpr this;exact List.Pairwise.of_map D.str (λa b n z=>n (by rw[z])) this
 walk_at "dx";refine dJ (by decide) (by decide) λv B C E F=>?_;walk_at "dx";split;refine bF2 λG H I r tn s=>?_;walk_at "dx";exact dS2 (.inr rfl) g e c d r s tn k;exact dS2 (.inl rfl) g e c d c d e k
def aZ5{a b:Int}{K:Res->List Sl->Prop}(k:∀ qs c d,Qw qs->K (.val (qD qs)) [⟨.par,.lst [.int c,.int d]⟩]):dM [⟨.par,.lst [.int a,.int b]⟩] K:=by
 unfold dM dD0;refine gG _ _ _ (λo h=>bY5 h) ?_;show eI [_,none,none,none,none,none,none,none,none] _;rw[show eI=cB1 (RS (cG 1 (aV 2 aI (aC (aH 0) (aC (dC (.int 2)) aP))))) (cB1 (mIf (dX (aX (eqD false) (aH 1) (dC (.int 0)))) (aQ0 2 1 cRS (aC (aH 0) aP)) (RS (cG 2 (aV 1 cO (aC (aH 0) aP))))) (RS dA8))from rfl];show RS _ _ (sqM _ _);walk_at "dx";refine dJ (by decide) (by decide) λw f g i j=>?_;walk_at "dx";unfold cB1 mIf;walk_at "dx";split;show _/\cRS _ _;exact⟨⟨rfl,rfl⟩,f,g,rfl,λls c d e=>dS3 e k⟩;refine cH6 λls c d e=>?_;walk_at "dx";exact dS3 e k
end Mr
namespace Hy
open Classical
section
variable{α:Type}{E E':List (List α)}{S S' l:List α}{v:α}
def Top(E:List (List α))(S:List α)(v:α):Prop:=∃ e∈E,∀ f∈E,v∈f->∀ x∈S,x∈f->x∈e
def El(E:List (List α)):List α->Prop
 | []=>True
 | v::b=>Top E (v::b) v/\El E b
def Acy(E:List (List α))(S:List α):Prop:=∃ l,(∀ x,x∈l↔x∈S)/\El E l
def Top.mono(h:Top E S v)(w:∀ x∈S',x∈S):Top E S' v:=by
 obtain⟨e,a,q⟩:=h;exact⟨e,a,λf b c x d=>q f b c x (w x d)⟩
theorem El.filter(p:α->Bool):∀ {l:List α},El E l->El E (l.filter p)
 | [],_=>True.intro
 | v::b,⟨t,q⟩=>by
   by_cases c:p v=true;rw[List.filter_cons_of_pos c];refine⟨t.mono λx a=>?_,q.filter p⟩;rcases a3b.mp a with e | a;rw[e];exact a4a;exact a6a _ (List.mem_filter.mp a).1;rw[List.filter_cons_of_neg c];exact q.filter p
def Acy.sub(h:Acy E S)(w:∀ x∈S',x∈S):Acy E S':=by
 obtain⟨l,m,q⟩:=h;refine⟨l.filter λx=>decide (x∈S'),λx=>?_,q.filter _⟩;rw[List.mem_filter,a4D];exact⟨λh=>h.2,λh=>⟨(m x).mpr (w x h),h⟩⟩
def Acy.cons(t:Top E S v)(c:v∈S)(h:Acy E (S.filter λx=>decide (x≠v))):Acy E S:=by
 obtain⟨l,m,q⟩:=h;have b:∀ x,x∈v::l↔x∈S:=λx=>by
  rw[a3b,m,List.mem_filter,a4D];constructor;rintro(rfl | h);exact c;exact h.1;intro a;by_cases e:x=v;exact .inl e;exact .inr ⟨a,e⟩
 exact⟨v::l,b,t.mono λx a=>(b x).mp a,q⟩
theorem El.ear{e f:List α}(c:∀ g,g∈E↔g=e\/g∈E')(k:f∈E')(m:∀ x∈e,(∃ g∈E',x∈g)->x∈f):∀ {l:List α},El E l->El E' l
 | [],_=>True.intro
 | v::b,⟨⟨t,n,q⟩,r⟩=>by
   refine⟨?_,r.ear c k m⟩;rcases(c t).mp n with rfl | h;exact⟨f,k,λg d i x j a=>m x (q g ((c g).mpr (.inr d)) i x j a) ⟨g,d,a⟩⟩;exact⟨t,h,λg d i x j a=>q g ((c g).mpr (.inr d)) i x j a⟩
theorem El.pre{e:List α}(d:e∈E){b:List α}(f:El E b):∀ {a:List α},(∀ v∈a,∀ g∈E,v∈g->g=e)->El E (a++b)
 | [],_=>f
 | v::a,h=>⟨⟨e,d,λg i c x _ j=>by rw[← h v a4a g i c];exact j⟩,f.pre d λv c=>h v (a6a _ c)⟩
theorem El.back{e f:List α}(d:∀ g,g∈E↔g=e\/g∈E')(k:f∈E')(h:∀ x∈e,(∃ g∈E',x∈g)->x∈f):∀ {l:List α},El E' l->(∀ x∈l,x∈e->∃ g∈E',x∈g)->El E l
 | [],_,_=>True.intro
 | v::b,⟨⟨t,m,q⟩,r⟩,np=>by
   refine⟨⟨t,(d t).mpr (.inr m),λg n i x c a=>?_⟩,r.back d k h λx c=>np x (a6a _ c)⟩;rcases(d g).mp n with rfl | j;exact q f k (h v i (np v a4a i)) x c (h x a (np x c a));exact q g j i x c a
def bY6{e f:List α}(a:∀ g,g∈E↔g=e\/g∈E')(d:f∈E')(i:∀ x∈e,(∃ g∈E',x∈g)->x∈f):Acy E S↔Acy E' S:=by
 constructor;rintro⟨l,m,q⟩;exact⟨l,m,q.ear a d i⟩;rintro⟨l,m,q⟩;refine⟨l.filter (λx=>decide (x∈e/\¬ ∃ g∈E',x∈g))++l.filter (λx=>!decide (x∈e/\¬ ∃ g∈E',x∈g)),λx=>?_,?_⟩;rw[← m x,a8a,List.mem_filter,List.mem_filter];constructor;rintro(h | h)<;>exact h.1;intro h;by_cases j:x∈e/\¬ ∃ g∈E',x∈g;exact .inl ⟨h,a4C j⟩;exact .inr ⟨h,by rw[a4B j];rfl⟩;refine El.pre ((a e).mpr (.inl rfl)) (El.back a d i (q.filter _) λx k b=>?_) λv n g o c=>?_;have:=(List.mem_filter.mp k).2;by_cases h:∃ g∈E',x∈g;exact h;rw[a4C (p:=x∈e/\¬ ∃ g∈E',x∈g) ⟨b,h⟩]at this;cases this;have:=of_decide_eq_true (List.mem_filter.mp n).2;rcases(a g).mp o with h | h;exact h;exact absurd ⟨g,h,c⟩ this.2
theorem El.has_ear(w:2<=E.length):∀ {l:List α},El E l->∃ i j,i < E.length/\j < E.length/\i≠j/\∀ x∈l,x∈E[i]?.getD []->(∃ k,k≠i/\k < E.length/\x∈E[k]?.getD [])->x∈E[j]?.getD []
 | [],_=>⟨0,1,by lia,by lia,by decide,λ_ h=>nomatch h⟩
 | v::b,⟨⟨t,y,q⟩,r⟩=>by
   obtain⟨i,j,hi,A,B,h⟩:=r.has_ear w;obtain⟨n,c,rfl⟩:=a8d y;have m:∀ {k:Nat} (f:k < E.length),E[k]?.getD []=E[k]:=λf=>by rw[a1a f];rfl
   by_cases p:v∈E[i]?.getD []/\(∃ k,k≠i/\k < E.length/\v∈E[k]?.getD [])/\v∉E[j]?.getD [];obtain⟨s,⟨k,C,o,u⟩,D⟩:=p;by_cases e:n=i;subst e;refine⟨k,n,o,c,C,λx d g _=>?_⟩;rw[m o]at g u;rw[m c];exact q _ (a7b o) u x d g;refine⟨i,n,hi,c,λz=>e z.symm,λx d a _=>?_⟩;rw[m hi]at a s;rw[m c];exact q _ (a7b hi) s x d a
   ·refine⟨i,j,hi,A,B,λx d a f=>?_⟩;rcases a3b.mp d with rfl | d;by_cases z:x∈E[j]?.getD [];exact z;exact absurd ⟨a,f,z⟩ p;exact h x d a f
def Tg(E:List (List α))(x y:α):Prop:=∃ f∈E,x∈f/\y∈f
theorem Tg.symm{x y:α}(h:Tg E x y):Tg E y x:=by obtain⟨f,a,b,c⟩:=h;exact⟨f,a,c,b⟩
def Clq(E:List (List α))(C:List α):Prop:=∀ x∈C,∀ y∈C,Tg E x y
theorem El.conf(d:E≠[]):∀ {l:List α},El E l->∀ {C:List α},(∀ x∈C,x∈l)->Clq E C->∃ e∈E,∀ x∈C,x∈e
 | [],_,C,s,_=>by
   obtain⟨e,i⟩:=List.exists_mem_of_ne_nil E d;exact⟨e,i,λx a=>absurd (s x a) List.not_mem_nil⟩
 | v::b,⟨⟨t,j,q⟩,r⟩,C,s,c=>by
   by_cases g:v∈C
   ·exact⟨t,j,λx a=>by
     obtain⟨f,k,m,n⟩:=c v g x a;exact q f k m x (s x a) n⟩
   ·exact r.conf d (λx a=>by
     rcases a3b.mp (s x a)with e | h;rw[e]at a;exact absurd a g
     ·exact h) c
theorem Acy.conf(a:E≠[])(h:Acy E S){C:List α}(s:∀ x∈C,x∈S)(c:Clq E C):∃ e∈E,∀ x∈C,x∈e:=by
 obtain⟨l,m,q⟩:=h;exact q.conf a (λx b=>(m x).mpr (s x b)) c
theorem El.out:∀ {l:List α},El E l->∀ {B:List α},Clq E B->∀ {z:α},z∈l->z∉B->∃ d∈l,d∉B/\Top E l d
 | v::b,⟨u,r⟩,B,c,z,C,D=>by
   by_cases o:v∈B
   ·obtain⟨t,w,q⟩:=u;obtain⟨f,F,A,_⟩:=c v o v o;have G:v∈t:=q f F A v a4a A;by_cases ha:∀ x∈b,x∈t
    ·have k:∀ x∈v::b,x∈t:=λx a=>by
      rcases a3b.mp a with e | h;rw[e];exact G;exact ha x h
     exact⟨z,C,D,t,w,λg _ _ x a _=>k x a⟩
    ·obtain⟨y,m⟩:=Classical.not_forall.mp ha;obtain⟨m,H⟩:=Classical.not_imp.mp m;obtain⟨d,hd,I,e,J,K⟩:=r.out (B:=b.filter λx=>decide (x∈t)) (λx a y m=>⟨t,w,of_decide_eq_true (List.mem_filter.mp a).2,of_decide_eq_true (List.mem_filter.mp m).2⟩) m λh=>H (of_decide_eq_true (List.mem_filter.mp h).2);have L:d∉t:=λh=>I (List.mem_filter.mpr ⟨hd,a4C h⟩);have no:∀ g∈E,d∈g->v∉g:=λg j p s=>L (q g j s d (a6a _ hd) p);refine⟨d,a6a _ hd,λh=>?_,e,J,λg j n x a i=>?_⟩;obtain⟨g,j,p,s⟩:=c d h v o;exact no g j p s;rcases a3b.mp a with z | h;rw[z]at i;exact absurd i (no g j n);exact K g j n x h i
   ·exact⟨v,a4a,o,u⟩
theorem Acy.out(h:Acy E S){B:List α}(c:Clq E B){z:α}(a:z∈S)(b:z∉B):∃ d∈S,d∉B/\Top E S d:=by
 obtain⟨l,m,q⟩:=h;obtain⟨d,e,f,g⟩:=q.out c ((m z).mpr a) b;exact⟨d,(m d).mp e,f,g.mono λx i=>(m x).mpr i⟩
def Acy.top(h:Acy E S)(a:S≠[]):∃ d∈S,Top E S d:=by
 obtain⟨z,b⟩:=List.exists_mem_of_ne_nil S a;obtain⟨d,c,_,e⟩:=h.out (B:=[]) (λx f=>nomatch f) b List.not_mem_nil;exact⟨d,c,e⟩
end
section
variable{α:Type}{A:α->α->Prop}{W:α->Prop}
def Ch(A:α->α->Prop):List α->Prop
 | a::b::r=>A a b/\Ch A (b::r)
 | _=>True
theorem bF5{b:α}{r:List α}:∀ {l:List α},Ch A (l++[b])->Ch A (b::r)->Ch A (l++b::r)
 | [],_,h=>h
 | [a],d,h=>⟨d.1,h⟩
 | a::c::l,d,h=>⟨d.1,bF5 (l:=c::l) d.2 h⟩
theorem bY7{b:α}{r:List α}:∀ {l:List α},Ch A (l++b::r)->Ch A (l++[b])
 | [],_=>True.intro
 | [a],h=>⟨h.1,True.intro⟩
 | a::c::l,h=>⟨h.1,bY7 (l:=c::l) h.2⟩
theorem bF6{b:α}{r:List α}:∀ {l:List α},Ch A (l++b::r)->Ch A (b::r)
 | [],h=>h
 | [a],h=>h.2
 | a::c::l,h=>bF6 (l:=c::l) h.2
def aZ6{a b:α}{l:List α}(h:Ch A (l++[a]))(q:A a b):Ch A (l++[a,b]):=bF5 h ⟨q,True.intro⟩
theorem cQ7(sy:∀ x y,A x y->A y x):∀ {l:List α},Ch A l->Ch A l.reverse
 | [],_=>True.intro
 | [a],_=>True.intro
 | a::b::r,h=>by
   have:=cQ7 sy (l:=b::r) h.2;rw[List.reverse_cons]at this ⊢;rw[List.reverse_cons,List.append_assoc];exact aZ6 this (sy _ _ h.1)
def Cl(A:α->α->Prop)(l:List α):Prop:=∀ (p q r:List α) (a b:α),l=p++a::q++b::r->q≠[]->¬ A a b
theorem bF7:∀ {l:List α},Ch A l->∀ {i:Nat} {a b:α},l[i]? = some a->l[i+1]? = some b->A a b
 | [],_,i,a,b,h,_=>by simp at h
 | [c],_,i,a,b,_,h=>by simp at h
 | c::d::r,h,0,a,b,e,f=>by
   simp at e f;rw[← e,← f];exact h.1
 | c::d::r,h,i+1,a,b,e,f=>bF7 (l:=d::r) h.2 (by simpa using e) (by simpa using f)
def bY8{l:List α}(h:Cl A l){i j:Nat}{a b:α}(ha:l[i]? = some a)(e:l[j]? = some b)(p:i+1 < j):¬ A a b:=by
 have hi:=(a2a.mp ha);have d:=(a2a.mp e);obtain⟨hi,f⟩:=hi;obtain⟨d,g⟩:=d;refine h (l.take i) ((l.drop (i+1)).take (j-i-1)) (l.drop (j+1)) a b ?_ ?_
 ·have k:l=l.take i++a::l.drop (i+1):=by
   rw[← f,← List.drop_eq_getElem_cons hi,List.take_append_drop]
  have m:l.drop (i+1)=(l.drop (i+1)).take (j-i-1)++b::l.drop (j+1):=by
   have c:j-i-1 < (l.drop (i+1)).length:=by rw[a8e];lia
   have n:(l.drop (i+1))[j-i-1]=b:=by rw[List.getElem_drop,← g];congr 1;lia
   have o:(l.drop (i+1)).drop (j-i-1+1)=l.drop (j+1):=by rw[List.drop_drop];congr 1;lia
   conv=>lhs;rw[← List.take_append_drop (j-i-1) (l.drop (i+1)),List.drop_eq_getElem_cons c,n,o]
  conv=>lhs;rw[k,m]
  simp
 ·intro z;have:=a4F List.length z;rw[a0d,a8e,a2g]at this;lia
theorem cH7{x y:α}(g:¬ A x y):∀ (n:Nat) (p:List α),p.length<=n->Ch A (x::(p++[y]))->(∀ c∈p,W c)->∃ q,Ch A (x::(q++[y]))/\(∀ c∈q,W c)/\Cl A (x::(q++[y]))
 | n,p,hn,t,hw=>by
   by_cases h:Cl A (x::(p++[y]));exact⟨p,t,hw,h⟩
   ·obtain⟨l,q,r,a,b,e,D,j⟩:∃ l q r a b,x::(p++[y])=l++a::q++b::r/\q≠[]/\A a b:=by
     unfold Cl at h;simp only[Classical.not_forall,Classical.not_not]at h;obtain⟨l,q,r,a,b,w,z,E⟩:=h;exact⟨l,q,r,a,b,w,z,E⟩
    have F:0 < q.length:=List.length_pos_iff.mpr D;have k:Ch A (l++a::b::r):=by
     rw[e]at t;have w:Ch A (l++[a]):=by rw[List.append_assoc]at t;exact bY7 t
     have z:Ch A (b::r):=bF6 (l:=l++a::q) t;exact bF5 w ⟨j,z⟩
    -- G eA5 stay
    have H:=a4F List.length e;simp at H;rcases List.eq_nil_or_concat r with v | ⟨m,s,v⟩
    ·subst v;have I:b=y:=by
      have B:(x::p)++[y]=(l++a::q)++[b]:=by simpa using e
      have:=(List.append_inj' B rfl).2;injection this with h _;exact h.symm
     subst I;cases l with
     | nil=>
       injection (show x::(p++[b])=a::(q++[b]) by simpa using e)with o _
       rw[← o]at j;exact absurd j g
     | cons C i=>
       injection (show x::(p++[b])=C::(i++a::(q++[b])) by simpa using e)with o u
       subst o;have d:p=i++a::q:=by
        have:p++[b]=(i++a::q)++[b]:=by rw[u];simp
        exact List.append_cancel_right this
       refine match n with
        | 0=>by rw[d]at hn;simp at hn
        | n+1=>cH7 g n (i++[a]) (by rw[d]at hn;simp at hn ⊢;lia) (by simpa using k) λc f=>hw c (by rw[d];rcases a8a.mp f with h | h;exact a2d _ h;rw[a3a.mp h];simp)
    ·rw[List.concat_eq_append]at v;subst v;have J:s=y:=by
      have B:(x::p)++[y]=(l++a::(q++b::m))++[s]:=by simpa using e
      have:=(List.append_inj' B rfl).2;injection this with h _;exact h.symm
     subst J;cases l with
     | nil=>
       injection (show x::(p++[s])=a::((q++b::m)++[s]) by simpa using e)with o u
       subst o;have d:p=q++b::m:=List.append_cancel_right u;refine match n with
        | 0=>by rw[d]at hn;simp at hn
        | n+1=>cH7 g n (b::m) (by rw[d]at hn;simp at hn ⊢;lia) (by simpa using k) λc f=>hw c (by rw[d];exact a1c _ f)
     | cons C i=>
       injection (show x::(p++[s])=C::((i++a::(q++b::m))++[s]) by simpa using e)with o u
       subst o;have d:p=i++a::(q++b::m):=List.append_cancel_right u;refine match n with
        | 0=>by rw[d]at hn;simp at hn
        | n + 1=>cH7 g n (i++a::b::m) (by rw[d]at hn;simp at hn ⊢;lia) (by simpa using k) λc f=>hw c (by
            rw[d];rcases a8a.mp f with h | h;exact a2d _ h
            ·rcases a3b.mp h with h | h;rw[h];simp
             ·simp;exact .inr (.inr (.inr (by simpa using h))))
 termination_by n=>n
inductive Rc(A:α->α->Prop)(W:α->Prop)(y:α):α->Prop
 | refl:W y->Rc A W y y
 | step {c d:α}:Rc A W y c->A c d->W d->Rc A W y d
def Rc.w{y c:α}(h:Rc A W y c):W c:=by
 cases h with
 | refl h=>exact h
 | step _ _ h=>exact h
def Rc.way{y c:α}(h:Rc A W y c):∃ t u,y::t=u++[c]/\Ch A (y::t)/\∀ d∈y::t,W d:=by
 induction h with
 | refl h=>exact⟨[],[],rfl,True.intro,λd hd=>by rw[a3a.mp hd];exact h⟩
 | @step c d _ a w g=>
   obtain⟨t,u,e,b,i⟩:=g;refine⟨t++[d],y::t,rfl,?_,λx f=>?_⟩
   ·have:y::(t++[d])=u++[c,d]:=by
     rw[← List.cons_append,e];simp
    rw[this];rw[e]at b;exact aZ6 b a
   ·rw[← List.cons_append]at f;rcases a8a.mp f with h | h;exact i x h;rw[a3a.mp h];exact w
def dB0(sy:∀ x y,A x y->A y x){y c d b a:α}(m:Rc A W y c)(n:Rc A W y d)(o:A b c)(q:A d a):∃ p:List α,Ch A (b::(p++[a]))/\∀ z∈p,W z:=by
 obtain⟨t,u,e,r,s⟩:=m.way;obtain⟨f,v,j,g,i⟩:=n.way;have w:t.reverse++[y]=c::u.reverse:=by
  have:=a4F List.reverse e;simpa using this
 have B:Ch A (t.reverse++[y]):=by
  have:=cQ7 sy r;rwa[List.reverse_cons]at this
 have C:Ch A (y::(f++[a])):=by
  have:y::(f++[a])=v++[d,a]:=by rw[← List.cons_append,j];simp
  rw[this];rw[j]at g;exact aZ6 g q
 have k:=bF5 B C;refine⟨t.reverse++y::f,?_,λz D=>?_⟩
 ·have l:(t.reverse++y::f)++[a]=c::(u.reverse++(f++[a])):=by
   have:(t.reverse++y::f)++[a]=(t.reverse++[y])++(f++[a]):=by simp
   rw[this,w];rfl
  have E:t.reverse++y::(f++[a])=c::(u.reverse++(f++[a])):=by rw[← l];simp
  rw[E]at k;rw[l];exact⟨o,k⟩
 ·rcases a8a.mp D with h | h;exact s z (a6a _ (List.mem_reverse.mp h));exact i z h
end
section
variable{α:Type}{E:List (List α)}{S Z:List α}
structure RingA(E:List (List α))(Z:List α):Prop where
 nd:Z.Nodup
 n:3<=Z.length
 one:∀ u∈Z,∃ e∈E,∀ x∈Z,x∈e↔x≠u
 no:∀ e∈E,∃ u∈Z,u∉e
structure RingB(E:List (List α))(Z:List α):Prop where
 nd:Z.Nodup
 n:4<=Z.length
 tg:∀ (i j:Nat) x y,i < j->Z[i]? = some x->Z[j]? = some y->(Tg E x y↔j=i+1\/i=0/\j+1=Z.length)
def RingA.clq(h:RingA E Z):Clq E Z:=λx i y j=>by
 obtain⟨u,k,l,m⟩:∃ u∈Z,u≠x/\u≠y:=by
  have hn:=h.n;have nd:=h.nd
  match Z,hn,nd with
  | a::b::c::r,_,nd=>
    simp only[List.nodup_cons,List.mem_cons,not_or]at nd;by_cases f:a≠x/\a≠y;exact⟨a,by simp,f⟩
    ·by_cases g:b≠x/\b≠y;exact⟨b,by simp,g⟩
     ·refine⟨c,by simp,λe=>?_,λe=>?_⟩;subst e;by_cases d:a=y;exact g ⟨λz=>nd.2.1.1 z,λz=>nd.1.1 (d.trans z.symm)⟩;exact f ⟨λz=>nd.1.2.1 z,d⟩;subst e;by_cases d:a=x;exact g ⟨λz=>nd.1.1 (d.trans z.symm),λz=>nd.2.1.1 z⟩;exact f ⟨d,λz=>nd.1.2.1 z⟩
 obtain⟨e,o,q⟩:=h.one u k;exact⟨e,o,(q x i).mpr (a4e l),(q y j).mpr (a4e m)⟩
def aZ7{z a b:α}(ha:a∈Z)(c:b∈Z)(d:Tg E z a)(h:Tg E z b)(i:¬ Tg E a b):¬ Top E Z z:=λ⟨e,he,q⟩=>by
 obtain⟨f,j,k,l⟩:=d;obtain⟨g,m,n,o⟩:=h;exact i ⟨e,he,q f j k a ha l,q g m n b c o⟩
def RingB.not(h:RingB E Z):¬ Acy E Z:=λa=>by
 have hn:=h.n;obtain⟨d,hd,t⟩:=a.top (λz=>by rw[z]at hn;simp at hn);obtain⟨i,hi,rfl⟩:=a8d hd;have g:∀ (j:Nat) (b:j < Z.length),Z[j]? = some Z[j]:=λj b=>a1a b;have m:∀ (j:Nat) (b:j < Z.length),Z[j]∈Z:=λj b=>a7b b;have T:=λ(i j:Nat) (hi:i < Z.length) (b:j < Z.length) (c:i < j)=>h.tg i j _ _ c (g i hi) (g j b);by_cases h0:i=0;subst h0;refine aZ7 (m 1 (by lia)) (m (Z.length-1) (by lia)) ((T 0 1 hi (by lia) (by lia)).mpr (.inl rfl)) ((T 0 (Z.length-1) hi (by lia) (by lia)).mpr (.inr ⟨rfl,by lia⟩)) (λz=>?_) t;have:=(T 1 (Z.length-1) (by lia) (by lia) (by lia)).mp z;lia;by_cases e:i+1=Z.length;refine aZ7 (m (i-1) (by lia)) (m 0 (by lia)) ((T (i-1) i (by lia) hi (by lia)).mpr (.inl (by lia))).symm ((T 0 i (by lia) hi (by lia)).mpr (.inr ⟨rfl,e⟩)).symm (λz=>?_) t;have:=(T 0 (i-1) (by lia) (by lia) (by lia)).mp z.symm;lia;refine aZ7 (m (i-1) (by lia)) (m (i+1) (by lia)) ((T (i-1) i (by lia) hi (by lia)).mpr (.inl (by lia))).symm ((T i (i+1) hi (by lia) (by lia)).mpr (.inl rfl)) (λz=>?_) t;have:=(T (i-1) (i+1) (by lia) (by lia) (by lia)).mp z;lia
structure Mn(E:List (List α))(S:List α):Prop where
 ne:E≠[]
 nd:S.Nodup
 no:¬ Acy E S
 one:∀ v∈S,Acy E (S.filter λx=>decide (x≠v))
def Mn.top(h:Mn E S){v:α}(a:v∈S):¬ Top E S v:=λt=>h.no (Acy.cons t a (h.one v a))
def Mn.self(h:Mn E S){v:α}(c:v∈S):Tg E v v:=by
 by_cases b:∃ f∈E,v∈f;obtain⟨f,a,q⟩:=b;exact⟨f,a,q,q⟩;obtain⟨e,d⟩:=List.exists_mem_of_ne_nil E h.ne;exact absurd ⟨e,d,λf a q=>absurd ⟨f,a,q⟩ b⟩ (h.top c)
theorem Mn.sub(h:Mn E S){T:List α}(w:∀ x∈T,x∈S){v:α}(b:v∈S)(nv:v∉T):Acy E T:=
 (h.one v b).sub λx a=>List.mem_filter.mpr ⟨w x a,a4C λe=>nv (by rw[← e];exact a)⟩
def Mn.all(h:Mn E S)(c:Clq E S):RingA E S:=by
 have big:∀ e∈E,¬ ∀ x∈S,x∈e:=λe g q=>by
  have m:S≠[]:=λz=>by subst z;exact h.no ⟨[],λ_=>Iff.rfl,True.intro⟩
  obtain⟨v,o⟩:=List.exists_mem_of_ne_nil S m;exact h.top o ⟨e,g,λ_ _ _ x f _=>q x f⟩
 refine⟨h.nd,?_,λu i=>?_,λe g=>?_⟩
 ·match S,h,c,big with
  | [],h,_,_=>exact absurd ⟨[],λ_=>Iff.rfl,True.intro⟩ h.no
  | [a],h,c,big=>
    obtain⟨e,g,q,_⟩:=c a (by simp) a (by simp);exact absurd (λx f=>by rw[a3a.mp f];exact q) (big e g)
  | [a,b],h,c,big=>
    obtain⟨e,g,p,s⟩:=c a (by simp) b (by simp);refine absurd (λx f=>?_) (big e g);rcases a3b.mp f with e | f;rw[e];exact p;rw[a3a.mp f];exact s
  | a::b::d::r,_,_,_=>simp
 ·obtain⟨e,g,q⟩:=(h.one u i).conf h.ne (λ_ h=>h) λx f y j=>c x (List.mem_filter.mp f).1 y (List.mem_filter.mp j).1;have l:∀ x∈S,x≠u->x∈e:=λx f n=>q x (List.mem_filter.mpr ⟨f,a4C n⟩);refine⟨e,g,λx f=>⟨λk z=>?_,l x f⟩⟩;subst z;refine big e g λy j=>?_;by_cases z:y=x;rw[z];exact k;exact l y j z
 ·obtain⟨u,i⟩:=Classical.not_forall.mp (big e g);obtain⟨t,w⟩:=Classical.not_imp.mp i;exact⟨u,t,w⟩
def Ad(E:List (List α))(x y:α):Prop:=x≠y/\Tg E x y
def Ad.sy(x y:α)(h:Ad E x y):Ad E y x:=⟨h.1.symm,h.2.symm⟩
def cH8{b a:α}{q:List α}(hn:b≠a)(f:Ch (Ad E) (b::(q++[a])))(l:Cl (Ad E) (b::(q++[a]))):(b::(q++[a])).Nodup:=by
 refine List.pairwise_iff_getElem.mpr λi j hi c p e=>?_;have g:∀ (k:Nat) (m:k < (b::(q++[a])).length),(b::(q++[a]))[k]? = some (b::(q++[a]))[k]:=λk m=>a1a m;by_cases h:j+1 < (b::(q++[a])).length;have:=bF7 f (g j c) (g (j+1) h);rw[← e]at this;exact bY8 l (g i hi) (g (j+1) h) (by lia) this;have d:j+1=(b::(q++[a])).length:=by lia
 by_cases h0:i=0
 ·subst h0;refine hn ?_;have o:(b::(q++[a]))[0]=b:=rfl;have n:(b::(q++[a]))[j]? = some a:=by
   have:j=q.length+1:=by simp at d;lia
   subst this;simp
  rw[g j c,← e,o]at n;exact a0b n
 ·have:=bF7 f (g (i-1) (by lia)) (by rw[show i-1+1=i by lia];exact g i hi);rw[e]at this;exact bY8 l (g (i-1) (by lia)) (g j c) (by lia) this
def rnd{x b a:α}{q:List α}(A:Tg E x b)(l:Tg E x a)(B:∀ c∈q,¬ Tg E x c)(C:x≠b)(m:x≠a)(D:x∉q)(hn:b≠a)(H:∀ z∈b::(q++[a]),Tg E z z)(F:¬ Tg E b a)(n:Ch (Ad E) (b::(q++[a])))(v:Cl (Ad E) (b::(q++[a]))):RingB E (x::b::(q++[a])):=by
 have nd:=cH8 hn n v;have G:q≠[]:=λz=>by subst z;exact F n.1.2
 have I:0 < q.length:=List.length_pos_iff.mpr G;have len:(x::b::(q++[a])).length=q.length+3:=by simp
 refine⟨a0f.mpr ⟨λh=>?_,nd⟩,by lia,λi j u w J g d=>?_⟩;rcases a3b.mp h with h | h;exact C h;rcases a8a.mp h with h | h;exact D h;exact m (a3a.mp h);rw[len];obtain⟨f,rfl⟩:∃ f,j=f+1:=⟨j-1,by lia⟩;rw[a3d]at d;have o:=(a2a.mp d).1;have y:f < q.length+2:=by simpa using o
 by_cases h0:i=0
 ·subst h0;cases g;by_cases p:f=0;subst p;cases d;exact⟨λ_=>.inl rfl,λ_=>A⟩;by_cases r:f=q.length+1
  ·subst r;have:w=a:=by
    have:(b::(q++[a]))[q.length+1]? = some a:=by simp
    rw[this]at d;exact(a0b d).symm
   subst this;exact⟨λ_=>.inr ⟨rfl,by lia⟩,λ_=>l⟩
  ·obtain⟨k,rfl⟩:∃ k,f=k+1:=⟨f-1,by lia⟩;rw[a3d,a8f (by lia)]at d;exact⟨λz=>absurd z (B w (a6b d)),λz=>by lia⟩
 ·obtain⟨s,rfl⟩:∃ s,i=s+1:=⟨i-1,by lia⟩;rw[a3d]at g;by_cases t:f=s+1;subst t;exact⟨λ_=>.inl rfl,λ_=>(bF7 n g d).2⟩;have:=bY8 v g d (by lia);refine⟨λz=>absurd ⟨λe=>?_,z⟩ this,λz=>by lia⟩;subst e;have:=(List.getElem?_inj (a2a.mp g).1 nd).mp (g.trans d.symm);lia
def Mn.round(h:Mn E S)(c:¬ Clq E S):∃ Z,RingB E Z/\∀ z,z∈Z↔z∈S:=by
 obtain⟨x,j,y,n,o⟩:∃ x∈S,∃ y∈S,¬ Tg E x y:=by
  unfold Clq at c;simp only[Classical.not_forall]at c;obtain⟨x,j,y,n,q⟩:=c;exact⟨x,j,y,n,q⟩
 let W:α->Prop:=λc=>c∈S/\¬ Tg E x c
 let R:α->Prop:=Rc (Ad E) W y
 let P:α->Prop:=λb=>b≠x/\Tg E x b/\∃ c,R c/\Tg E b c
 let B:List α:=S.filter λb=>decide (P b)
 have i:∀ {b},b∈B↔b∈S/\P b:=λ{b}=>by
  show b∈S.filter _↔_;rw[List.mem_filter,a4D]
 let D:List α:=S.filter λb=>decide (R b\/P b)
 have a:∀ {b},b∈D↔b∈S/\(R b\/P b):=λ{b}=>by
  show b∈S.filter _↔_;rw[List.mem_filter,a4D]
 have L:=h.self j;have u:∀ {c},R c->W c:=λr=>Rc.w r;have xD:x∉D:=λz=>by
  rcases(a.mp z).2 with r | r;exact(u r).2 L;exact r.1 rfl
 have aD:Acy E D:=h.sub (λz g=>(a.mp g).1) j xD;have yR:R y:=.refl ⟨n,o⟩;have C:¬ Clq E B:=λcB=>by
  obtain⟨d,hd,dB,e,he,q⟩:=aD.out cB (a.mpr ⟨n,.inl yR⟩) λz=>o (i.mp z).2.2.1;have v:R d:=by
   rcases(a.mp hd).2 with r | r;exact r;exact absurd (i.mpr ⟨(a.mp hd).1,r⟩) dB
  refine h.top (a.mp hd).1 ⟨e,he,λf M N w hw O=>q f M N w (a.mpr ⟨hw,?_⟩) O⟩;have k:Tg E d w:=⟨f,M,N,O⟩;by_cases Q:Tg E x w;refine .inr ⟨λz=>?_,Q,d,v,k.symm⟩;subst z;exact(u v).2 k.symm;by_cases T:d=w;rw[← T];exact .inl v;exact .inl (.step v ⟨T,k⟩ ⟨hw,Q⟩)
 obtain⟨b,hb,l,F,m⟩:∃ b∈B,∃ l∈B,¬ Tg E b l:=by
  unfold Clq at C;simp only[Classical.not_forall]at C;obtain⟨x,j,y,n,q⟩:=C;exact⟨x,j,y,n,q⟩
 obtain⟨U,bx,V,c,X,bc⟩:=i.mp hb;obtain⟨G,H,s,c',t,I⟩:=i.mp F;have nb:b≠l:=λz=>m (z ▸ h.self U);have ab:Ad E b c:=⟨λz=>(u X).2 (z ▸ V),bc⟩;have J:Ad E c' l:=⟨λz=>(u t).2 (z ▸ s),I.symm⟩;obtain⟨p,p1,p2⟩:=dB0 Ad.sy X t ab J;obtain⟨q,q1,K,q3⟩:=cH7 (A:=Ad E) (W:=W) (x:=b) (y:=l) (λz=>m z.2) p.length p (a9a _) p1 p2;have inS:∀ z∈b::(q++[l]),z∈S:=λz g=>by
  rcases a3b.mp g with e | g;rw[e];exact U;rcases a8a.mp g with g | g;exact(K z g).1;rw[a3a.mp g];exact G
 have Y:=rnd (E:=E) (x:=x) V s (λc hc=>(K c hc).2) (a4e bx) (a4e H) (λz=>(K x z).2 L) nb (λz g=>h.self (inS z g)) m q1 q3;refine⟨_,Y,λz=>⟨λg=>?_,λg=>?_⟩⟩;rcases a3b.mp g with e | g;rw[e];exact j;exact inS z g;by_cases hh:z∈x::b::(q++[l]);exact hh;refine absurd (h.sub (λw hw=>?_) g hh) Y.not;rcases a3b.mp hw with e | hw;rw[e];exact j;exact inS w hw
theorem dS4(c:E≠[]):∀ (n:Nat) (S:List α),S.length<=n->S.Nodup->¬ Acy E S->∃ T,T.Sublist S/\Mn E T
 | n,S,hn,nd,h=>by
   by_cases d:∃ v∈S,¬ Acy E (S.filter λx=>decide (x≠v))
   ·obtain⟨v,a,q⟩:=d;have sl:(S.filter λx=>decide (x≠v)).length < S.length:=by
     have b:=List.length_filter_le (λx=>decide (x≠v)) S;refine Nat.lt_of_le_of_ne b λe=>?_;have:=List.length_filter_eq_length_iff.mp e v a;exact absurd rfl (of_decide_eq_true this)
    match n with
    | 0=>lia
    | n+1=>
      obtain⟨T,f,g⟩:=dS4 c n _ (by lia) (nd.sublist List.filter_sublist) q;exact⟨T,f.trans List.filter_sublist,g⟩
   ·refine⟨S,List.Sublist.refl _,c,nd,h,λv a=>?_⟩;by_cases z:Acy E (S.filter λx=>decide (x≠v));exact z;exact absurd ⟨v,a,z⟩ d
def dB1(b:E≠[])(nd:S.Nodup)(h:¬ Acy E S):∃ T,T.Sublist S/\Mn E T/\(RingA E T\/∃ Z,RingB E Z/\∀ z,z∈Z↔z∈T):=by
 obtain⟨T,d,a⟩:=dS4 b S.length S (a9a _) nd h;refine⟨T,d,a,?_⟩;by_cases c:Clq E T;exact .inl (a.all c);exact .inr (a.round c)
end
end Hy
namespace Mr
open PySem Sx
noncomputable def inS(cs own:List Str):List Str:=cs.filter λc=>decide (c∈own)
noncomputable def gN(qs:List (Str×List Str))(cs:List Str):List (List Str):=qs.foldl (λacc q=>if inS cs q.2∈acc then acc else acc++[inS cs q.2]) []
noncomputable def bY9(a b:List Str):Bool:=!decide (a=b)&&a.all λc=>decide (c∈b)
noncomputable def dH(qs:List (Str×List Str))(cs:List Str):List (List Str):=(gN qs cs).filter λa=>!((gN qs cs).any λb=>bY9 a b)
noncomputable def abo(cs:List Str):List (List Str):=(List.range cs.length).map λi=>cs.take i++cs.drop (i+1)
noncomputable def nbr(cs:List Str):List (List Str):=((List.range (cs.length-1)).map λi=>(cs.drop i).take 2)++[[cs.getD 0 default,cs.getD (cs.length-1) default]]
def cU{cs own:List Str}{c:Str}:c∈inS cs own↔c∈cs/\c∈own:=by
 unfold inS;rw[List.mem_filter,a4D]
def cQ8{cs e f:List Str}(h:∀ c∈cs,c∈e↔c∈f):inS cs e=inS cs f:=List.filter_congr λc a=>decide_eq_decide.mpr (h c a)
def nP(qs:List (Str×List Str))(q:Str×List Str)(cs:List Str):gN (qs++[q]) cs=if inS cs q.2∈gN qs cs then gN qs cs else gN qs cs++[inS cs q.2]:=by
 unfold gN;rw[List.foldl_append];rfl
def fR(qs:List (Str×List Str))(cs:List Str):(gN qs cs).Nodup/\∀ x,x∈gN qs cs↔∃ q∈qs,x=inS cs q.2:=by
 have g:∀ n,∀ qs:List (Str×List Str),qs.length=n->(gN qs cs).Nodup/\∀ x,x∈gN qs cs↔∃ q∈qs,x=inS cs q.2:=by
  intro n
  induction n with
  | zero=>
    intro qs h;rw[List.length_eq_zero_iff.mp h];exact⟨.nil,λx=>by simp[gN]⟩
  | succ n o=>
    intro qs h;rcases List.eq_nil_or_concat qs with e | ⟨l,q,e⟩;rw[e]at h;cases h
    ·rw[List.concat_eq_append]at e;subst e;obtain⟨k,i⟩:=o l (by simpa using h);rw[nP];split;rename_i hm;refine⟨k,λx=>⟨λp=>?_,λ⟨c,j,e⟩=>?_⟩⟩;obtain⟨c,f,d⟩:=(i x).mp p;exact⟨c,a2d _ f,d⟩;rcases a8a.mp j with h | h;exact(i x).mpr ⟨c,h,e⟩;rw[a3a.mp h]at e;rw[e];exact hm
     ·rename_i hm;refine⟨List.nodup_append.mpr ⟨k,by simp,λa ha b m z=>hm (by rw[List.mem_singleton]at m;rw[← m,← z];exact ha)⟩,λx=>?_⟩;rw[a8a,i,a3a];constructor;rintro(⟨c,f,d⟩ | h);exact⟨c,a2d _ f,d⟩;exact⟨q,by simp,h⟩;rintro⟨c,f,d⟩;rcases a8a.mp f with h | h;exact .inl ⟨c,h,d⟩;rw[a3a.mp h]at d;exact .inr d
 exact g _ qs rfl
def zU(qs:List (Str×List Str))(cs:List Str):(gN qs cs).length<=qs.length:=by
 have a:∀ n,∀ qs:List (Str×List Str),qs.length=n->(gN qs cs).length<=n:=by
  intro n
  induction n with
  | zero=>intro qs h;rw[List.length_eq_zero_iff.mp h];exact a9a _
  | succ n b=>
    intro qs h;rcases List.eq_nil_or_concat qs with e | ⟨l,q,e⟩;rw[e]at h;cases h;rw[List.concat_eq_append]at e;subst e;have:=b l (by simpa using h);rw[nP];split;lia;rw[a5a,List.length_singleton];lia
 exact a _ qs rfl
def bF8{a b:List Str}:bY9 a b=true↔a≠b/\∀ c∈a,c∈b:=by
 unfold bY9;simp[List.all_eq_true]
def dN{qs:List (Str×List Str)}{cs a:List Str}:a∈dH qs cs↔a∈gN qs cs/\∀ b∈gN qs cs,(∀ c∈a,c∈b)->a=b:=by
 unfold dH;rw[List.mem_filter,Bool.not_eq_true',List.any_eq_false];refine and_congr_right λ_=>⟨λh b d f=>?_,λh b d z=>?_⟩;by_cases e:a=b;exact e;exact absurd (bF8.mpr ⟨e,f⟩) (h b d);obtain⟨g,i⟩:=bF8.mp z;exact g (h b d i)
def zV(qs:List (Str×List Str))(cs:List Str):(dH qs cs).Nodup:=(fR qs cs).1.sublist List.filter_sublist
def bL1(qs:List (Str×List Str))(cs:List Str):(dH qs cs).length<=qs.length:=a8b (List.length_filter_le _ _) (zU qs cs)
def zX{cs e f:List Str}(nd:cs.Nodup)(h:∀ c∈inS cs e,c∈inS cs f):(inS cs e).length<=(inS cs f).length:=nd_le (nd.sublist List.filter_sublist) h where
 nd_le {l m:List Str} (g:l.Nodup) (h:∀ x∈l,x∈m):l.length<=m.length:=by
  induction l generalizing m with
  | nil=>exact a7c _
  | cons x l i=>
    obtain⟨n1,n2⟩:=a0f.mp g;have:=i (m:=m.erase x) n2 λy d=>(List.mem_erase_of_ne (a:=y) (b:=x) (λz=>n1 (by rw[← z];exact d))).mpr (h y (a6a _ d));have e:=List.length_erase_of_mem (h x a4a);have p:0 < m.length:=List.length_pos_of_mem (h x a4a);rw[a4f];lia
theorem aS1{qs:List (Str×List Str)}{cs:List Str}(nd:cs.Nodup):∀ (n:Nat) (q:Str×List Str),q∈qs->cs.length-(inS cs q.2).length<=n->∃ a∈dH qs cs,∀ c∈inS cs q.2,c∈a
 | n,q,p,hn=>by
   have hm:inS cs q.2∈gN qs cs:=((fR qs cs).2 _).mpr ⟨q,p,rfl⟩;by_cases h:∀ b∈gN qs cs,(∀ c∈inS cs q.2,c∈b)->inS cs q.2=b;exact⟨_,dN.mpr ⟨hm,h⟩,λ_ h=>h⟩
   ·obtain⟨b,k,g,d⟩:∃ b∈gN qs cs,(∀ c∈inS cs q.2,c∈b)/\inS cs q.2≠b:=by
     apply a0e;intro z;exact h λb k g=>a0e λd=>z ⟨b,k,g,d⟩
    obtain⟨f,l,rfl⟩:=((fR qs cs).2 b).mp k;have u:(inS cs f.2).length<=cs.length:=List.length_filter_le _ _;have r:(inS cs q.2).length < (inS cs f.2).length:=by
     refine Nat.lt_of_le_of_ne (zX nd g) λe=>d ?_;refine cQ8 λc j=>⟨λh=>(cU.mp (g c (cU.mpr ⟨j,h⟩))).2,λh=>?_⟩;apply a0e;intro z;have s:∀ x∈inS cs q.2,x∈(inS cs f.2).erase c:=λx o=>(List.mem_erase_of_ne (λe=>z (by rw[← e];exact(cU.mp o).2))).mpr (g x o);have t:=zX.nd_le (nd.sublist List.filter_sublist) s;have i:c∈inS cs f.2:=cU.mpr ⟨j,h⟩;rw[List.length_erase_of_mem i]at t;have:0 < (inS cs f.2).length:=List.length_pos_of_mem i;have v:(inS cs q.2).length=(inS cs f.2).length:=e;unfold inS at *;lia
    match n with
    | 0=>lia
    | n+1=>
      obtain⟨a,ha,m⟩:=aS1 nd n f l (by lia);exact⟨a,ha,λc j=>m c (g c j)⟩
def aK2{cs a:List Str}(nd:cs.Nodup):a∈abo cs↔∃ u∈cs,a=cs.filter λc=>decide (c≠u):=by
 have b:∀ (i:Nat) (hi:i < cs.length),cs.take i++cs.drop (i+1)=cs.filter λc=>decide (c≠cs[i]):=λi hi=>by
  have e:cs=cs.take i++cs[i]::cs.drop (i+1):=by rw[← List.drop_eq_getElem_cons hi,List.take_append_drop]
  have d:=nd;rw[e]at d;obtain⟨n1,n2,n3⟩:=List.nodup_append.mp d;generalize j:cs[i]=x at *
  conv=>rhs;rw[e]
  rw[List.filter_append,List.filter_cons_of_neg (by simp),List.filter_eq_self.mpr,List.filter_eq_self.mpr];intro c g;exact a4C λz=>(a0f.mp n2).1 (by rw[← z];exact g);intro c g;exact a4C λz=>n3 c g x a4a z
 unfold abo;rw[a9b];constructor;rintro⟨i,hi,rfl⟩;have f:=a7d.mp hi;exact⟨cs[i],a7b f,b i f⟩;rintro⟨u,h,rfl⟩;obtain⟨i,hi,rfl⟩:=a8d h;exact⟨i,a7d.mpr hi,b i hi⟩
def aK3{cs a:List Str}(n2:2<=cs.length):a∈nbr cs↔∃ i j x y,i < j/\cs[i]? = some x/\cs[j]? = some y/\(j=i+1\/i=0/\j+1=cs.length)/\a=[x,y]:=by
 have two:∀ i (hi:i+1 < cs.length),(cs.drop i).take 2=[cs[i],cs[i+1]]:=λi hi=>by
  rw[List.drop_eq_getElem_cons (by lia),List.drop_eq_getElem_cons hi];rfl
 unfold nbr;rw[a8a,a9b,a3a];constructor;rintro(⟨i,hi,rfl⟩ | rfl);have b:=a7d.mp hi;exact⟨i,i+1,cs[i],cs[i+1],by lia,a1a (by lia),a1a (by lia),.inl rfl,two i (by lia)⟩;refine⟨0,cs.length-1,cs[0],cs[cs.length-1],by lia,a1a (by lia),a1a (by lia),.inr ⟨rfl,by lia⟩,?_⟩;rw[a3c,a3c,a1a (by lia),a1a (by lia)];rfl;rintro⟨i,j,x,y,f,c,d,h,rfl⟩;obtain⟨hi,rfl⟩:=a2a.mp c;obtain⟨e,rfl⟩:=a2a.mp d;rcases h with rfl | ⟨rfl,h⟩;exact .inl ⟨i,a7d.mpr (by lia),two i e⟩;refine .inr ?_;have:j=cs.length-1:=by lia
 subst this;rw[a3c,a3c,a1a (by lia),a1a (by lia)];rfl
open Hy
noncomputable abbrev edg(qs:List (Str×List Str)):List (List Str):=qs.map Prod.snd
def cZ{qs:List (Str×List Str)}{e:List Str}:e∈edg qs↔∃ q∈qs,q.2=e:=a9b
open Classical in
noncomputable def isR(qs:List (Str×List Str))(cs:List Str):Bool:=decide (3<=cs.length)&&(decide cs.Nodup&&(decide (sX (dH qs cs)=sX (abo cs))||decide (sX (dH qs cs)=sX (nbr cs))))
def cQ9{a b:List (List Str)}(h:sX a=sX b):∀ x,x∈a↔x∈b:=λx=>by
 rw[← (cY6 a).1.mem_iff,h,(cY6 b).1.mem_iff]
def bZ0{a b:List (List Str)}(ha:a.Nodup)(c:b.Nodup)(h:∀ x,x∈a↔x∈b):sX a=sX b:=cY7 ((List.perm_ext_iff_of_nodup ha c).mpr h)
def aS2{qs:List (Str×List Str)}{cs:List Str}(h:isR qs cs=true):3<=cs.length/\cs.Nodup/\((∀ x,x∈dH qs cs↔x∈abo cs)\/∀ x,x∈dH qs cs↔x∈nbr cs):=by
 unfold isR at h;simp only[Bool.and_eq_true,Bool.or_eq_true,decide_eq_true_eq]at h;exact⟨h.1,h.2.1,h.2.2.imp cQ9 cQ9⟩
def mK{cs:List Str}(nd:cs.Nodup){i j:Nat}{x y:Str}(a:cs[i]? = some x)(b:cs[j]? = some y)(n:i≠j):x≠y:=λe=>by
 subst e;exact n ((List.getElem?_inj (a2a.mp a).1 nd).mp (a.trans b.symm))
def bZ1{qs:List (Str×List Str)}{cs a:List Str}(h:a∈dH qs cs){x y:Str}(b:x∈a)(c:y∈a):Tg (edg qs) x y:=by
 obtain⟨q,d,rfl⟩:=((fR qs cs).2 a).mp (dN.mp h).1;exact⟨q.2,cZ.mpr ⟨q,d,rfl⟩,(cU.mp b).2,(cU.mp c).2⟩
def bZ2{qs:List (Str×List Str)}{cs:List Str}(h:isR qs cs=true):¬ Acy (edg qs) cs/\∀ c∈cs,∃ q∈qs,c∈q.2:=by
 obtain⟨n3,nd,hw⟩:=aS2 h;have g:∀ (j:Nat) (l:j < cs.length),cs[j]? = some cs[j]:=λj l=>a1a l
 -- L a set has of F bY9 in a dH one
 have within:∀ e∈edg qs,∃ a∈dH qs cs,∀ c∈cs,c∈e->c∈a:=λe t=>by
  obtain⟨q,n,rfl⟩:=cZ.mp t;obtain⟨a,ha,s⟩:=aS1 nd cs.length q n (Nat.sub_le _ _);exact⟨a,ha,λc r n=>s c (cU.mpr ⟨r,n⟩)⟩
 rcases hw with hw | hw
 ·have o:∀ x∈cs,∀ y∈cs,∃ u∈cs,u≠x/\u≠y:=λx _ y _=>by
   have M:=mK nd (g 0 (by lia)) (g 1 (by lia)) (by decide);have N:=mK nd (g 0 (by lia)) (g 2 (by lia)) (by decide);have O:=mK nd (g 1 (by lia)) (g 2 (by lia)) (by decide);by_cases p:cs[0]≠x/\cs[0]≠y;exact⟨_,a7b _,p⟩;by_cases G:cs[1]≠x/\cs[1]≠y;exact⟨_,a7b _,G⟩;refine⟨cs[2],a7b _,λe=>?_,λe=>?_⟩;by_cases w:cs[0]=y;exact G ⟨λz=>O (z.trans e.symm),λz=>M (w.trans z.symm)⟩;exact p ⟨λz=>N (z.trans e.symm),w⟩;by_cases w:cs[0]=x;exact G ⟨λz=>M (w.trans z.symm),λz=>O (z.trans e.symm)⟩;exact p ⟨w,λz=>N (z.trans e.symm)⟩
  have tg:∀ x∈cs,∀ y∈cs,Tg (edg qs) x y:=λx C y D=>by
   obtain⟨u,E,P,Q⟩:=o x C y D;have ha:=(hw _).mpr ((aK2 nd).mpr ⟨u,E,rfl⟩);exact bZ1 ha (List.mem_filter.mpr ⟨C,a4C (a4e P)⟩) (List.mem_filter.mpr ⟨D,a4C (a4e Q)⟩)
  refine⟨λa=>?_,λc r=>?_⟩;obtain⟨f,m,_⟩:=tg cs[0] (a7b _) cs[0] (a7b _);obtain⟨e,t,q⟩:=a.conf (List.ne_nil_of_mem m) (λ_ h=>h) tg;obtain⟨b,H,s⟩:=within e t;obtain⟨u,E,rfl⟩:=(aK2 nd).mp ((hw b).mp H);exact of_decide_eq_true (List.mem_filter.mp (s u E (q u E))).2 rfl;obtain⟨f,m,p,_⟩:=tg c r c r;obtain⟨q,n,rfl⟩:=cZ.mp m;exact⟨q,n,p⟩
 ·have d:∀ (i j:Nat) x y,i < j->cs[i]? = some x->cs[j]? = some y->(j=i+1\/i=0/\j+1=cs.length)->Tg (edg qs) x y:=λi j x y R C D h=>by
   have ha:=(hw [x,y]).mpr ((aK3 (by lia)).mpr ⟨i,j,x,y,R,C,D,h,rfl⟩);exact bZ1 ha (by simp) (by simp)
  -- each one has two neighbours
  have two:∀ (i:Nat) (hi:i < cs.length),∃ j k,∃ (l:j < cs.length) (A:k < cs.length),j≠k/\j≠i/\k≠i/\Tg (edg qs) cs[i] cs[j]/\Tg (edg qs) cs[i] cs[k]:=λi hi=>by
   by_cases h0:i=0;subst h0;exact⟨1,cs.length-1,by lia,by lia,by lia,by lia,by lia,d 0 1 _ _ (by lia) (g _ _) (g _ _) (.inl rfl),d 0 (cs.length-1) _ _ (by lia) (g _ _) (g _ _) (.inr ⟨rfl,by lia⟩)⟩;by_cases p:i+1=cs.length;exact⟨i-1,0,by lia,by lia,by lia,by lia,by lia,(d (i-1) i _ _ (by lia) (g _ _) (g _ _) (.inl (by lia))).symm,(d 0 i _ _ (by lia) (g _ _) (g _ _) (.inr ⟨rfl,p⟩)).symm⟩;exact⟨i-1,i+1,by lia,by lia,by lia,by lia,by lia,(d (i-1) i _ _ (by lia) (g _ _) (g _ _) (.inl (by lia))).symm,d i (i+1) _ _ (by lia) (g _ _) (g _ _) (.inl rfl)⟩
  refine⟨λa=>?_,λc r=>?_⟩
  ·obtain⟨v,S,e,t,q⟩:=a.top (λz=>by rw[z]at n3;simp at n3);obtain⟨i,hi,rfl⟩:=a8d S;obtain⟨j,k,l,A,T,U,V,⟨f,m,B,W⟩,⟨X,I,J,K⟩⟩:=two i hi;have Y:=q f m B _ (a7b l) W;have Z:=q X I J _ (a7b A) K;have m3:=q f m B _ (a7b hi) B;obtain⟨b,H,s⟩:=within e t;obtain⟨_,_,x,y,_,_,_,_,rfl⟩:=(aK3 (by lia)).mp ((hw b).mp H);have s1:=s _ (a7b l) Y;have s2:=s _ (a7b A) Z;have s3:=s _ (a7b hi) m3;have d1:=mK nd (g j l) (g k A) T;have d2:=mK nd (g j l) (g i hi) U;have d3:=mK nd (g k A) (g i hi) V;simp only[List.mem_cons,List.not_mem_nil,or_false]at s1 s2 s3;rcases s1 with s1 | s1<;>rcases s2 with s2 | s2<;>rcases s3 with s3 | s3<;>first
    | exact d1 (s1.trans s2.symm)
    | exact d2 (s1.trans s3.symm)
    | exact d3 (s2.trans s3.symm)
  ·obtain⟨i,hi,rfl⟩:=a8d r;obtain⟨j,k,_,_,_,_,_,⟨f,m,B,_⟩,_⟩:=two i hi;obtain⟨q,n,rfl⟩:=cZ.mp m;exact⟨q,n,B⟩
def dS5{cs:List Str}(nd:cs.Nodup):(abo cs).Nodup:=by
 unfold abo;refine List.pairwise_map.mpr ((List.nodup_range).imp_of_mem λ{i j} hi d n e=>n ?_);have a:=a7d.mp hi;have f:=a7d.mp d;apply a0e;intro z;have g:cs[i]∉cs.take i++cs.drop (i+1):=λh=>by
  have e:cs=cs.take i++cs[i]::cs.drop (i+1):=by rw[← List.drop_eq_getElem_cons a,List.take_append_drop]
  have b:=nd;rw[e]at b;obtain⟨n1,n2,n3⟩:=List.nodup_append.mp b;rcases a8a.mp h with h | h;exact n3 _ h _ a4a rfl;exact(a0f.mp n2).1 h
 have c:cs[i]∈cs.take j++cs.drop (j+1):=by
  rcases Nat.lt_or_ge i j with h | h;exact a2d _ (a6b (i:=i) (by rw[List.getElem?_take_of_lt h];exact a1a a));refine a1c _ (a6b (i:=i-(j+1)) ?_);rw[List.getElem?_drop,show j+1+(i-(j+1))=i by lia];exact a1a a
 rw[← e]at c;exact g c
def dS6{cs:List Str}(nd:cs.Nodup)(n3:3<=cs.length):(nbr cs).Nodup:=by
 have g:∀ (j:Nat) (c:j < cs.length),cs[j]? = some cs[j]:=λj c=>a1a c;have two:∀ i (hi:i+1 < cs.length),(cs.drop i).take 2=[cs[i],cs[i+1]]:=λi hi=>by
  rw[List.drop_eq_getElem_cons (by lia),List.drop_eq_getElem_cons hi];rfl
 unfold nbr;refine List.nodup_append.mpr ⟨List.pairwise_map.mpr ((List.nodup_range).imp_of_mem λ{i j} hi c n e=>n ?_),by simp,λa ha b m e=>?_⟩
 ·obtain⟨i,hi,rfl⟩:=a9b.mp ha;have d:=a7d.mp hi;rw[a3a.mp m,two i (by lia),a3c,a3c,g 0 (by lia),g (cs.length-1) (by lia)]at e;injection e with f h
  injection h with h _
  have k:cs[i]=cs[0]:=f;have l:cs[i+1]=cs[cs.length-1]:=h;by_cases h0:i=0;subst h0;exact mK nd (g 1 (by lia)) (g (cs.length-1) (by lia)) (by lia) l;exact mK nd (g i (by lia)) (g 0 (by lia)) h0 k
 ·have d:=a7d.mp hi;have o:=a7d.mp c;rw[two i (by lia),two j (by lia)]at e;injection e with f _
  apply a0e;intro z;exact mK nd (g i (by lia)) (g j (by lia)) z f
def bZ3{qs:List (Str×List Str)}{cs:List Str}(h:RingA (edg qs) cs):isR qs cs=true:=by
 have g:∀ x,x∈dH qs cs↔x∈abo cs:=λx=>by
  rw[aK2 h.nd];have k:∀ u∈cs,(cs.filter λc=>decide (c≠u))∈dH qs cs:=λu f=>by
   obtain⟨e,r,q⟩:=h.one u f;obtain⟨t,i,rfl⟩:=cZ.mp r;have s:(cs.filter λc=>decide (c≠u))=inS cs t.2:=List.filter_congr λc a=>decide_eq_decide.mpr (q c a).symm;rw[s];refine dN.mpr ⟨((fR qs cs).2 _).mpr ⟨t,i,rfl⟩,λb v l=>?_⟩;obtain⟨m,j,rfl⟩:=((fR qs cs).2 b).mp v;refine cQ8 λc a=>⟨λd=>(cU.mp (l c (cU.mpr ⟨a,d⟩))).2,λd=>?_⟩;rw[q c a];intro z;subst z;obtain⟨w,o,y⟩:=h.no m.2 (cZ.mpr ⟨m,j,rfl⟩);refine y ?_;by_cases p:w=c;rw[p];exact d;exact(cU.mp (l w (cU.mpr ⟨o,(q w o).mpr p⟩))).2
  constructor;intro A;obtain⟨B,C⟩:=dN.mp A;obtain⟨t,i,rfl⟩:=((fR qs cs).2 x).mp B;obtain⟨u,f,D⟩:=h.no t.2 (cZ.mpr ⟨t,i,rfl⟩);exact⟨u,f,C _ (dN.mp (k u f)).1 λc a=>List.mem_filter.mpr ⟨(cU.mp a).1,a4C λz=>D (by rw[← z];exact(cU.mp a).2)⟩⟩;rintro⟨u,f,rfl⟩;exact k u f
 unfold isR;rw[a4C h.n,a4C h.nd,a4C (bZ0 (zV qs cs) (dS5 h.nd) g)];rfl
def bZ4{qs:List (Str×List Str)}{cs:List Str}(h:RingB (edg qs) cs):isR qs cs=true:=by
 have hn:=h.n;have nd:=h.nd;have g:∀ (j:Nat) (f:j < cs.length),cs[j]? = some cs[j]:=λj f=>a1a f;have T:=λ(i j:Nat) (hi:i < cs.length) (f:j < cs.length) (l:i < j)=>h.tg i j _ _ l (g i hi) (g j f)
 -- three never I in one
 have v:∀ (i j k:Nat) (hi:i < cs.length) (f:j < cs.length) (s:k < cs.length),i < j->j < k->∀ e∈edg qs,cs[i]∈e->cs[j]∈e->cs[k]∈e->False:=λi j k hi f s l Z e t o p V=>by
  have a1:=(T i j hi f l).mp ⟨e,t,o,p⟩;have a2:=(T j k f s Z).mp ⟨e,t,p,V⟩;have a3:=(T i k hi s (by lia)).mp ⟨e,t,o,V⟩;lia
 have two:∀ (i j:Nat) (hi:i < cs.length) (f:j < cs.length),i < j->∀ q∈qs,cs[i]∈q.2->cs[j]∈q.2->inS cs q.2=[cs[i],cs[j]]:=λi j hi f l q u o p=>by
  have F:∀ c∈inS cs q.2,c=cs[i]\/c=cs[j]:=λc r=>by
   obtain⟨C,w⟩:=cU.mp r;obtain⟨k,s,rfl⟩:=a8d C;have t:q.2∈edg qs:=cZ.mpr ⟨q,u,rfl⟩;by_cases J:k=i;subst J;exact .inl rfl;by_cases e2:k=j;subst e2;exact .inr rfl;exfalso;rcases Nat.lt_or_ge k i with h | h;exact v k i j s hi f h l q.2 t w o p;rcases Nat.lt_or_ge k j with h' | h';exact v i k j hi s f (by lia) h' q.2 t o w p;exact v i j k hi f s l (by lia) q.2 t o p w
  have J:inS cs q.2=cs.filter λc=>decide (c=cs[i]\/c=cs[j]):=List.filter_congr λc r=>decide_eq_decide.mpr ⟨λhm=>F c (cU.mpr ⟨r,hm⟩),λz=>by
   rcases z with z | z<;>rw[z];exact o;exact p⟩
  rw[J];have e:cs=cs.take i++cs[i]::((cs.drop (i+1)).take (j-i-1)++cs[j]::cs.drop (j+1)):=by
   have C:cs=cs.take i++cs[i]::cs.drop (i+1):=by rw[← List.drop_eq_getElem_cons hi,List.take_append_drop]
   have K:j-i-1 < (cs.drop (i+1)).length:=by rw[a8e];lia
   have h3:(cs.drop (i+1))[j-i-1]=cs[j]:=by rw[List.getElem_drop];congr 1;lia
   have h4:(cs.drop (i+1)).drop (j-i-1+1)=cs.drop (j+1):=by rw[List.drop_drop];congr 1;lia
   have w:cs.drop (i+1)=(cs.drop (i+1)).take (j-i-1)++cs[j]::cs.drop (j+1):=by
    conv=>lhs;rw[← List.take_append_drop (j-i-1) (cs.drop (i+1)),List.drop_eq_getElem_cons K,h3,h4]
   conv=>lhs;rw[C,w]
  have D:=nd;rw[e]at D;obtain⟨_,n2,n3⟩:=List.nodup_append.mp D;obtain⟨W,n5⟩:=a0f.mp n2;obtain⟨_,n6,n7⟩:=List.nodup_append.mp n5;have n8:=(a0f.mp n6).1;generalize G:cs[i]=x at *;generalize X:cs[j]=y at *
  conv=>lhs;rw[e]
  have f0:(cs.take i).filter (λc=>decide (c=x\/c=y))=[]:=List.filter_eq_nil_iff.mpr λc r z=>by
   rcases of_decide_eq_true z with z | z;exact n3 c r x (by simp) z;exact n3 c r y (by simp) z
  have f1:((cs.drop (i+1)).take (j-i-1)).filter (λc=>decide (c=x\/c=y))=[]:=List.filter_eq_nil_iff.mpr λc r z=>by
   rcases of_decide_eq_true z with z | z;exact W (by rw[← z];exact a2d _ r);exact n7 c r y (by simp) z
  have f2:(cs.drop (j+1)).filter (λc=>decide (c=x\/c=y))=[]:=List.filter_eq_nil_iff.mpr λc r z=>by
   rcases of_decide_eq_true z with z | z;exact W (by rw[← z];exact a1c _ (a6a _ r));exact n8 (by rw[← z];exact r)
  rw[List.filter_append,f0,List.filter_cons_of_pos (by simp),List.filter_append,f1,List.filter_cons_of_pos (by simp),f2];rfl
 have E:∀ (i j:Nat) (hi:i < cs.length) (f:j < cs.length),i < j->(j=i+1\/i=0/\j+1=cs.length)->[cs[i],cs[j]]∈dH qs cs:=λi j hi f l L=>by
  obtain⟨e,t,o,p⟩:=(T i j hi f l).mpr L;obtain⟨q,u,rfl⟩:=cZ.mp t;rw[← two i j hi f l q u o p];refine dN.mpr ⟨((fR qs cs).2 _).mpr ⟨q,u,rfl⟩,λb hb F=>?_⟩;obtain⟨q',M,rfl⟩:=((fR qs cs).2 b).mp hb;have k1:=(cU.mp (F _ (cU.mpr ⟨a7b hi,o⟩))).2;have k2:=(cU.mp (F _ (cU.mpr ⟨a7b f,p⟩))).2;rw[two i j hi f l q u o p,two i j hi f l q' M k1 k2]
 have N:∀ x,x∈dH qs cs↔x∈nbr cs:=λx=>by
  rw[aK3 (by lia)];constructor
  ·intro G;obtain⟨C,w⟩:=dN.mp G;obtain⟨q,u,rfl⟩:=((fR qs cs).2 x).mp C
   -- a A of one in it
   have nb:∀ (i:Nat) (hi:i < cs.length),∃ a∈dH qs cs,cs[i]∈a:=λi hi=>by
    by_cases O:i+1=cs.length;exact⟨_,E 0 i (by lia) hi (by lia) (.inr ⟨rfl,O⟩),by simp⟩;exact⟨_,E i (i+1) hi (by lia) (by lia) (.inl rfl),by simp⟩
   have cV4:∀ a∈dH qs cs,∀ c∈a,(∀ d∈inS cs q.2,d=c)->inS cs q.2=a:=λa ha c r hd=>w a (dN.mp ha).1 λd P=>by rw[hd d P];exact r
   by_cases Q:∃ i j,∃ (hi:i < cs.length) (f:j < cs.length),i < j/\cs[i]∈q.2/\cs[j]∈q.2;obtain⟨i,j,hi,f,l,o,p⟩:=Q;exact⟨i,j,_,_,l,g i hi,g j f,(T i j hi f l).mp ⟨q.2,cZ.mpr ⟨q,u,rfl⟩,o,p⟩,two i j hi f l q u o p⟩;have one:∃ (i:Nat) (hi:i < cs.length),∀ d∈inS cs q.2,d=cs[i]:=by
    by_cases h0:∃ (i:Nat) (hi:i < cs.length),cs[i]∈q.2;obtain⟨i,hi,m⟩:=h0;refine⟨i,hi,λd hd=>?_⟩;obtain⟨R,H⟩:=cU.mp hd;obtain⟨k,s,rfl⟩:=a8d R;rcases Nat.lt_trichotomy i k with z | z | z;exact absurd ⟨i,k,hi,s,z,m,H⟩ Q;subst z;rfl;exact absurd ⟨k,i,s,hi,z,H,m⟩ Q;refine⟨0,by lia,λd hd=>?_⟩;obtain⟨R,H⟩:=cU.mp hd;obtain⟨k,s,rfl⟩:=a8d R;exact absurd ⟨k,s,H⟩ h0
   obtain⟨i,hi,hd⟩:=one
   -- then a pair with Y one is S
   obtain⟨a,ha,U⟩:=nb i hi;have ea:=cV4 a ha _ U hd;exfalso;by_cases O:i+1=cs.length;have B:=E 0 i (by lia) hi (by lia) (.inr ⟨rfl,O⟩);have:=cV4 _ B cs[i] (by simp) hd;have:=hd cs[0] (by rw[this];simp);exact mK nd (g 0 (by lia)) (g i hi) (by lia) this;have B:=E i (i+1) hi (by lia) (by lia) (.inl rfl);have:=cV4 _ B cs[i] (by simp) hd;have:=hd cs[i+1] (by rw[this];simp);exact mK nd (g (i+1) (by lia)) (g i hi) (by lia) this
  ·rintro⟨i,j,x,y,l,G,X,L,rfl⟩;obtain⟨hi,rfl⟩:=a2a.mp G;obtain⟨f,rfl⟩:=a2a.mp X;exact E i j hi f l L
 unfold isR;rw[a4C (show 3<=cs.length by lia),a4C nd,a4C (bZ0 (zV qs cs) (dS6 nd (by lia)) N),Bool.or_true];rfl
end Mr
namespace Hy
open Classical
section
variable{α:Type}{E:List (List α)}{T Z W:List α}
structure Rn(E:List (List α))(T:List α):Prop where
 few:∀ z∈T,∀ x∈T,∀ y∈T,∀ w∈T,x≠z->y≠z->w≠z->Tg E z x->Tg E z y->Tg E z w->x≠y->w=x\/w=y
 two:∀ z∈T,∀ x∈T,∃ y∈T,y≠z/\y≠x/\Tg E z y
 all:∀ P:α->Prop,(∃ z∈T,P z)->(∀ z∈T,∀ w∈T,P z->w≠z->Tg E z w->P w)->∀ z∈T,P z
def RingB.ad(h:RingB E Z){i j:Nat}(hi:i < Z.length)(b:j < Z.length)(n:i≠j):Tg E Z[i] Z[j]↔(j=i+1\/i=j+1\/i=0/\j+1=Z.length\/j=0/\i+1=Z.length):=by
 have g:∀ (j:Nat) (b:j < Z.length),Z[j]? = some Z[j]:=λj b=>a1a b;rcases Nat.lt_or_ge i j with c | c
 ·rw[h.tg i j _ _ c (g i hi) (g j b)];constructor;rintro(a | a);exact .inl a;exact .inr (.inr (.inl a));intro a;lia
 ·have:=h.tg j i _ _ (by lia) (g j b) (g i hi);rw[show Tg E Z[i] Z[j]↔Tg E Z[j] Z[i]from⟨Tg.symm,Tg.symm⟩,this];constructor;rintro(a | a);exact .inr (.inl a);exact .inr (.inr (.inr a));intro a;lia
theorem RingB.ne(h:RingB E Z){i j:Nat}(hi:i < Z.length)(a:j < Z.length):Z[i]=Z[j]↔i=j:=⟨λe=>(List.getElem?_inj hi h.nd).mp (by rw[a1a hi,a1a a,e]),λe=>by subst e;rfl⟩
def RingB.rn(h:RingB E Z)(m:∀ z,z∈Z↔z∈T):Rn E T:=by
 have hn:=h.n;have d:∀ z∈T,∃ (i:Nat) (hi:i < Z.length),Z[i]=z:=λz l=>a8d ((m z).mpr l);have mem:∀ (i:Nat) (hi:i < Z.length),Z[i]∈T:=λi hi=>(m _).mp (a7b hi);refine⟨λz l x q y C w r t u v D F G H=>?_,λz l x q=>?_,λP I o=>?_⟩;obtain⟨i,hi,rfl⟩:=d z l;obtain⟨a,ha,rfl⟩:=d x q;obtain⟨b,J,rfl⟩:=d y C;obtain⟨c,o,rfl⟩:=d w r;rw[Ne,h.ne]at t u v H;rw[h.ad hi ha (a4e t)]at D;rw[h.ad hi J (a4e u)]at F;rw[h.ad hi o (a4e v)]at G;rw[h.ne,h.ne];lia
 ·obtain⟨i,hi,rfl⟩:=d z l;obtain⟨a,ha,rfl⟩:=d x q;have f:∀ (j:Nat) (p:j < Z.length),j≠i->j≠a->(j=i+1\/i=j+1\/i=0/\j+1=Z.length\/j=0/\i+1=Z.length)->∃ y∈T,y≠Z[i]/\y≠Z[a]/\Tg E Z[i] y:=λj p A K L=>
   ⟨Z[j],mem j p,λe=>A ((h.ne p hi).mp e),λe=>K ((h.ne p ha).mp e),(h.ad hi p (a4e A)).mpr L⟩
  by_cases h0:i=0;by_cases B:a=1;exact f (Z.length-1) (by lia) (by lia) (by lia) (by lia);exact f 1 (by lia) (by lia) (by lia) (by lia);by_cases O:i+1=Z.length;by_cases B:a=0;exact f (i-1) (by lia) (by lia) (by lia) (by lia);exact f 0 (by lia) (by lia) (by lia) (by lia);by_cases B:a=i+1;exact f (i-1) (by lia) (by lia) (by lia) (by lia);exact f (i+1) (by lia) (by lia) (by lia) (by lia)
 ·obtain⟨z,l,M⟩:=I;obtain⟨i,hi,rfl⟩:=d z l;have up:∀ k (g:i+k < Z.length),P Z[i+k]:=by
   intro k
   induction k with
   | zero=>intro g;exact M
   | succ k s=>
     intro g;exact o Z[i+k] (mem _ _) Z[i+(k+1)] (mem _ _) (s (by lia)) (λe=>by have:=(h.ne g (by lia)).mp e;lia) ((h.ad (by lia) g (by lia)).mpr (.inl (by lia)))
  have N:P Z[0]:=by
   have:=up (Z.length-1-i) (by lia);have e:i+(Z.length-1-i)=Z.length-1:=by lia
   simp only[e]at this;exact o Z[Z.length-1] (mem _ _) Z[0] (mem _ _) this (λe=>by have:=(h.ne (by lia) (by lia)).mp e;lia) ((h.ad (by lia) (by lia) (by lia)).mpr (.inr (.inr (.inr ⟨rfl,by lia⟩))))
  have all:∀ k (g:k < Z.length),P Z[k]:=by
   intro k
   induction k with
   | zero=>intro g;exact N
   | succ k s=>
     intro g;exact o Z[k] (mem _ _) Z[k+1] (mem _ _) (s (by lia)) (λe=>by have:=(h.ne g (by lia)).mp e;lia) ((h.ad (by lia) g (by lia)).mpr (.inl rfl))
  intro w r;obtain⟨k,g,rfl⟩:=d w r;exact all k g
structure Wy(E:List (List α))(T W:List α):Prop where
 nd:W.Nodup
 sub:∀ w∈W,w∈T
 ch:∀ (i:Nat) (h:i+1 < W.length),Tg E W[i] W[i+1]
theorem Wy.ne(h:Wy E T W){i j:Nat}(hi:i < W.length)(a:j < W.length):W[i]=W[j]↔i=j:=⟨λe=>(List.getElem?_inj hi h.nd).mp (by rw[a1a hi,a1a a,e]),λe=>by subst e;rfl⟩
def Wy.mid(h:Wy E T W)(r:Rn E T){i:Nat}(h0:0 < i)(hi:i+1 < W.length){w:α}(b:w∈T)(d:w≠W[i])(t:Tg E W[i] w):w=W[i-1]\/w=W[i+1]:=by
 have m:∀ (j:Nat) (a:j < W.length),W[j]∈T:=λj a=>h.sub _ (a7b a);have c:=h.ch (i-1) (by lia);have e:i-1+1=i:=by lia
 simp only[e]at c;refine r.few W[i] (m _ _) W[i-1] (m _ _) W[i+1] (m _ _) w b (λz=>by have:=(h.ne (by lia) (by lia)).mp z;lia) (λz=>by have:=(h.ne hi (by lia)).mp z;lia) d c.symm (h.ch i hi) t λz=>by have:=(h.ne (by lia) hi).mp z;lia
def Wy.on(h:Wy E T W)(r:Rn E T)(o:0 < W.length)(out:∃ z∈T,z∉W):∃ c∈T,c∉W/\Tg E (W[W.length-1]'(by lia)) c:=by
 apply a0e;intro st;have m:∀ (j:Nat) (f:j < W.length),W[j]∈T:=λj f=>h.sub _ (a7b f);have b:∀ w∈T,Tg E (W[W.length-1]'(by lia)) w->w∈W:=λw e t=>a0e λz=>st ⟨w,e,z,t⟩;obtain⟨z,s,u⟩:=out;refine u (r.all (· ∈ W) ⟨W[0],m 0 o,a7b o⟩ (λa ha w e g p t=>?_) z s);obtain⟨i,hi,rfl⟩:=a8d g;by_cases D:i+1=W.length
 ·have:i=W.length-1:=by lia
  subst this;exact b w e t
 ·by_cases h0:i=0
  ·subst h0
   -- k b l other d is k first one
   have v:2<=W.length:=by lia
   obtain⟨y,x,A,B,ty⟩:=r.two (W[W.length-1]'(by lia)) (m _ _) (W[W.length-2]'(by lia)) (m _ _);have C:=b y x ty;obtain⟨j,f,rfl⟩:=a8d C;have q:j≠W.length-1:=λz=>A (by subst z;rfl);have F:j≠W.length-2:=λz=>B (by subst z;rfl);by_cases n:j=0;subst n;rcases r.few W[0] (m _ _) W[1] (m _ _) (W[W.length-1]'(by lia)) (m _ _) w e (λz=>by have:=(h.ne (by lia) (by lia)).mp z;lia) (λz=>q ((h.ne (by lia) (by lia)).mp z).symm) p (h.ch 0 (by lia)) ty.symm t (λz=>by have:=(h.ne (by lia) (by lia)).mp z;lia)with z | z;rw[z];exact a7b _;rw[z];exact a7b _;have:=h.mid r (i:=j) (by lia) (by lia) (m (W.length-1) (by lia)) (λz=>q ((h.ne (by lia) (by lia)).mp z).symm) ty.symm;rcases this with z | z;have:=(h.ne (by lia) (by lia)).mp z;lia;have:=(h.ne (by lia) (by lia)).mp z;lia
  ·rcases h.mid r (i:=i) (by lia) (by lia) e p t with z | z;rw[z];exact a7b _;rw[z];exact a7b _
def Wy.ring(h:Wy E T W)(r:Rn E T)(n:4<=W.length)(d:∀ z∈T,z∈W):RingB E W:=by
 have m:∀ (j:Nat) (a:j < W.length),W[j]∈T:=λj a=>h.sub _ (a7b a);refine⟨h.nd,n,λi j x y q e b=>?_⟩;obtain⟨hi,rfl⟩:=a2a.mp e;obtain⟨a,rfl⟩:=a2a.mp b;constructor
 ·intro t;by_cases f:j=i+1;exact .inl f;by_cases h0:i=0;subst h0;by_cases c:j+1=W.length;exact .inr ⟨rfl,c⟩;rcases h.mid r (i:=j) (by lia) (by lia) (m 0 hi) (λz=>by have:=(h.ne hi a).mp z;lia) t.symm with z | z;have:=(h.ne hi (by lia)).mp z;lia;have:=(h.ne hi (by lia)).mp z;lia;rcases h.mid r (i:=i) (by lia) (by lia) (m j a) (λz=>by have:=(h.ne a hi).mp z;lia) t with z | z;have:=(h.ne a (by lia)).mp z;lia;have:=(h.ne a (by lia)).mp z;lia
 ·rintro(rfl | ⟨rfl,c⟩);exact h.ch i a;obtain⟨y,b,g,l,ty⟩:=r.two W[0] (m _ _) W[1] (m _ _);obtain⟨k,o,rfl⟩:=a8d (d y b);have s:k≠0:=λz=>g (by subst z;rfl);have u:k≠1:=λz=>l (by subst z;rfl);by_cases p:k+1=W.length
  ·have:k=j:=by lia
   subst this;exact ty
  ·rcases h.mid r (i:=k) (by lia) (by lia) (m 0 hi) (λz=>by have:=(h.ne hi o).mp z;lia) ty.symm with z | z;have:=(h.ne hi (by lia)).mp z;lia;have:=(h.ne hi (by lia)).mp z;lia
end
end Hy
namespace Mr
open PySem Sx Hy
noncomputable def aF0(qs:List (Str×List Str))(x y:Str):Bool:=qs.any λq=>decide (x∈q.2)&&decide (y∈q.2)
def aF1{qs:List (Str×List Str)}{x y:Str}:aF0 qs x y=true↔Tg (edg qs) x y:=by
 unfold aF0;rw[List.any_eq_true];constructor;rintro⟨q,a,h⟩;simp only[Bool.and_eq_true,decide_eq_true_eq]at h;exact⟨q.2,cZ.mpr ⟨q,a,rfl⟩,h.1,h.2⟩;rintro⟨e,he,b,c⟩;obtain⟨q,a,rfl⟩:=cZ.mp he;exact⟨q,a,by simp[b,c]⟩
noncomputable def ahd(qs:List (Str×List Str))(cs way:List Str):List Str:=cs.filter λc=>!decide (c∈way)&&aF0 qs (way.getLast?.getD default) c
noncomputable def zY(qs:List (Str×List Str))(cs way:List Str):List Str:=way++(ahd qs cs way).take 1
noncomputable def wlk(qs:List (Str×List Str))(cs:List Str):List Str:=(cs.drop 1).foldl (λw _=>zY qs cs w) (cs.take 1)
def cR0{qs:List (Str×List Str)}{T:List Str}(nd:T.Nodup)(on:∀ W,Wy (edg qs) T W->∀ h:0 < W.length,(∃ z∈T,z∉W)->∃ c∈T,c∉W/\Tg (edg qs) (W[W.length-1]'(by lia)) c) :
  Wy (edg qs) T (wlk qs T)/\(wlk qs T).length=T.length:=by
 cases T with
 | nil=>exact⟨⟨.nil,(λ_ h=>nomatch h),(λi h=>absurd (show i+1 < 0 from h) (by lia))⟩,rfl⟩
 | cons t r=>
   have k:∀ (l:List Str) (W:List Str),Wy (edg qs) (t::r) W->0 < W.length->W.length+l.length<=(t::r).length->Wy (edg qs) (t::r) (l.foldl (λw _=>zY qs (t::r) w) W)/\(l.foldl (λw _=>zY qs (t::r) w) W).length=W.length+l.length:=by
    intro l
    induction l with
    | nil=>intro W h _ _;exact⟨h,rfl⟩
    | cons x l v=>
      intro W h h0 A;rw[a4f]at A;have out:∃ z∈t::r,z∉W:=by
       apply a0e;intro z;have:=zX.nd_le nd (m:=W) λy B=>a0e λn=>z ⟨y,B,n⟩;lia
      obtain⟨c,C,D,ct⟩:=on W h h0 out;have p:W.getLast?.getD default=W[W.length-1]'(by lia):=by rw[List.getLast?_eq_getElem?,a1a (by lia)];rfl
      have q:c∈ahd qs (t::r) W:=by
       unfold ahd;rw[List.mem_filter,p];exact⟨C,by rw[aF1.mpr ct];simp[D]⟩
      obtain⟨f,s,e⟩:∃ f s,ahd qs (t::r) W=f::s:=by
       cases he:ahd qs (t::r) W with
       | nil=>rw[he]at q;cases q
       | cons a b=>exact⟨a,b,rfl⟩
      have d:f∈ahd qs (t::r) W:=by rw[e];exact a4a
      unfold ahd at d;rw[List.mem_filter,p]at d;obtain⟨o,g⟩:=d;simp only[Bool.and_eq_true,Bool.not_eq_true',decide_eq_false_iff_not]at g;have E:zY qs (t::r) W=W++[f]:=by unfold zY;rw[e];rfl
      have F:Wy (edg qs) (t::r) (W++[f]):=by
       refine⟨List.nodup_append.mpr ⟨h.nd,by simp,λa ha b u z=>g.1 (by rw[List.mem_singleton]at u;rw[← u,← z];exact ha)⟩,λw hw=>?_,λi hi=>?_⟩;rcases a8a.mp hw with hw | hw;exact h.sub w hw;rw[a3a.mp hw];exact o;rw[a5a,List.length_singleton]at hi;by_cases j:i+1 < W.length;rw[List.getElem_append_left (by lia),List.getElem_append_left j];exact h.ch i j;have:i=W.length-1:=by lia
       subst this;rw[List.getElem_append_left (by lia),List.getElem_append_right (by lia)];simp only[List.getElem_singleton];exact aF1.mp g.2
      rw[List.foldl_cons,E];obtain⟨G,H⟩:=v (W++[f]) F (by rw[a5a];lia) (by rw[a5a,List.length_singleton];lia);exact⟨G,by rw[H,a5a,List.length_singleton,a4f];lia⟩
   obtain⟨o,g⟩:=k r [t] ⟨by simp,λw hw=>by rw[List.mem_singleton.mp hw];exact a4a,λi h=>absurd h (by simp)⟩ (by simp) (by simp;lia);exact⟨o,by show(r.foldl _ [t]).length=_;rw[g];simp;lia⟩
def cH9{qs:List (Str×List Str)}{T:List Str}(h:Mn (edg qs) T)(r:RingA (edg qs) T\/∃ Z,RingB (edg qs) Z/\∀ z,z∈Z↔z∈T):isR qs (wlk qs T)=true:=by
 have same:∀ {W:List Str},Wy (edg qs) T W->W.length=T.length->∀ z∈T,z∈W:=λ{W} w hl z c=>by
  apply a0e;intro n;have o:=zX.nd_le w.nd (m:=T.erase z) λy l=>(List.mem_erase_of_ne (a:=y) (b:=z) (λe=>n (by rw[← e];exact l))).mpr (w.sub y l);rw[List.length_erase_of_mem c]at o;have:=List.length_pos_of_mem c;lia
 rcases r with r | ⟨Z,f,m⟩;obtain⟨w,d⟩:=cR0 (qs:=qs) h.nd λW w h0 ⟨z,c,p⟩=>⟨z,c,p,r.clq _ (w.sub _ (a7b _)) z c⟩;have g:=same w d;refine bZ3 ⟨w.nd,by rw[d];exact r.n,λu i=>?_,λe j=>?_⟩;obtain⟨e,j,q⟩:=r.one u (w.sub u i);exact⟨e,j,λx k=>q x (w.sub x k)⟩;obtain⟨u,i,s⟩:=r.no e j;exact⟨u,g u i,s⟩;have rn:=f.rn m;obtain⟨w,d⟩:=cR0 (qs:=qs) h.nd λW w h0 out=>w.on rn h0 out;have g:=same w d;refine bZ4 (w.ring rn ?_ g);have:Z.length<=T.length:=zX.nd_le f.nd λx k=>(m x).mp k;have:=f.n;lia
noncomputable def aA3(cs:List Str):List (List Str):=cs.foldl (λps c=>ps++ps.map λa=>a++[c]) [[]]
def aS3(cs:List Str)(c:Str):aA3 (cs++[c])=aA3 cs++(aA3 cs).map λa=>a++[c]:=by unfold aA3;rw[List.foldl_append];rfl
def aK4(cs:List Str):(aA3 cs).length=2 ^ cs.length/\(∀ T,T.Sublist cs->T∈aA3 cs)/\∀ T∈aA3 cs,T.Sublist cs:=by
 have f:∀ n,∀ cs:List Str,cs.length=n->(aA3 cs).length=2 ^ n/\(∀ T,T.Sublist cs->T∈aA3 cs)/\∀ T∈aA3 cs,T.Sublist cs:=by
  intro n
  induction n with
  | zero=>
    intro cs h;rw[List.length_eq_zero_iff.mp h];refine⟨rfl,λT d=>?_,λT d=>?_⟩;rw[List.sublist_nil.mp d];exact a3a.mpr rfl;rw[a3a.mp d];exact List.Sublist.refl _
  | succ n k=>
    intro cs h;rcases List.eq_nil_or_concat cs with e | ⟨l,c,e⟩;rw[e]at h;cases h
    ·rw[List.concat_eq_append]at e;subst e;obtain⟨m,g,i⟩:=k l (by simpa using h);rw[aS3];refine⟨by rw[a5a,a0a,m,Nat.pow_succ];lia,λT d=>?_,λT d=>?_⟩
     ·obtain⟨a,b,rfl,j,o⟩:=List.sublist_append_iff.mp d;have p:b=[]\/b=[c]:=by
       cases o with
       | cons _ h=>exact .inl (List.sublist_nil.mp h)
       | cons_cons _ h=>right;rw[List.sublist_nil.mp h]
      rcases p with rfl | rfl;rw[a0g];exact a2d _ (g a j);exact a1c _ (a9b.mpr ⟨a,g a j,rfl⟩)
     ·rcases a8a.mp d with d | d;exact(i T d).trans (List.sublist_append_left _ _);obtain⟨a,ha,rfl⟩:=a9b.mp d;exact(i a ha).append (List.Sublist.refl _)
 exact f _ cs rfl
noncomputable def aZ8(qs:List (Str×List Str)):Option (List Str):=((aA3 (cM qs)).map (wlk qs)).find? (isR qs)
def bL2{qs:List (Str×List Str)}(h0:qs≠[])(nd:(cM qs).Nodup)(h:¬ Acy (edg qs) (cM qs)):∃ w,aZ8 qs=some w/\isR qs w=true:=by
 obtain⟨T,a,b,c⟩:=dB1 (E:=edg qs) (λz=>h0 (List.map_eq_nil_iff.mp z)) nd h;have d:=cH9 b c;unfold aZ8;cases e:((aA3 (cM qs)).map (wlk qs)).find? (isR qs)with
 | none=>exact absurd d (by simpa using List.find?_eq_none.mp e (wlk qs T) (List.mem_map_of_mem ((aK4 _).2.1 T a)))
 | some w=>exact⟨w,rfl,List.find?_some e⟩
noncomputable def kH:Nat->List (Str×List Str)->List (Str×Option Str)
 | 0,_=>[]
 | n+1,aL=>match ears aL with
   | []=>[]
   | p::_=>p::kH n (wo aL p.1)
def Cov(qs:List (Str×List Str))(S:List Str):Prop:=∀ q∈qs,∀ z∈q.2,z∈S
theorem Cov.wo{qs:List (Str×List Str)}{S:List Str}(h:Cov qs S)(z:Str):Cov (wo qs z) S:=λq a=>h q (nI a).1
def dS7{qs:List (Str×List Str)}{z:Str}{q:Str×List Str}(h:q∈qs)(n:q.1≠z):q∈wo qs z:=List.mem_filter.mpr ⟨h,by simpa using n⟩
def bZ5{qs:List (Str×List Str)}(h:(qs.map Prod.fst).Nodup)(z:Str):((wo qs z).map Prod.fst).Nodup:=h.sublist (dR7 qs z)
def jW{aL:List (Str×List Str)}{p:Str×Option Str}:p∈ears aL↔∃ q∈aL,q.1=p.1/\p.2∈aR9 aL q.1 q.2:=by
 unfold ears;rw[List.mem_flatMap];constructor;rintro⟨q,a,h⟩;obtain⟨x,b,rfl⟩:=a9b.mp h;exact⟨q,a,rfl,b⟩;rintro⟨q,a,e,h⟩;exact⟨q,a,a9b.mpr ⟨p.2,h,by rw[e]⟩⟩
def dB2{aL:List (Str×List Str)}(hn:(aL.map Prod.fst).Nodup)(b:2<=aL.length){q:Str×List Str}(a:q∈aL):(wo aL q.1).length≠0:=by
 have:=nJ hn ⟨q,a,rfl⟩;lia
def dS8{aL:List (Str×List Str)}(hn:(aL.map Prod.fst).Nodup){q:Str×List Str}(b:q∈aL)(g:List Str):g∈edg aL↔g=q.2\/g∈edg (wo aL q.1):=by
 rw[cZ,cZ];constructor;rintro⟨t,a,rfl⟩;by_cases e:t.1=q.1;rw[cQ5 hn a b e];exact .inl rfl;exact .inr ⟨t,dS7 a e,rfl⟩;rintro(rfl | ⟨t,a,rfl⟩);exact⟨q,b,rfl⟩;exact⟨t,(nI a).1,rfl⟩
def aZ9{aL:List (Str×List Str)}{S:List Str}(hn:(aL.map Prod.fst).Nodup)(h:2<=aL.length){p:Str×Option Str}(i:p∈ears aL):Acy (edg aL) S↔Acy (edg (wo aL p.1)) S:=by
 obtain⟨q,d,e,a⟩:=jW.mp i;unfold aR9 at a;rw[a4z (dB2 hn h d)]at a;obtain⟨f,b,_⟩:=a9b.mp a;obtain⟨b,ha⟩:=List.mem_filter.mp b;rw[← e];refine bY6 (e:=q.2) (f:=f.2) (dS8 hn d) (cZ.mpr ⟨f,b,rfl⟩) λx j Z0=>?_;obtain⟨g,k,c⟩:=Z0;obtain⟨t,l,rfl⟩:=cZ.mp k;have:=a3g.mp ha x (List.mem_filter.mpr ⟨j,a4C (fJ.mpr ⟨t,l,c⟩)⟩);exact of_decide_eq_true this
def bZ6{aL:List (Str×List Str)}{S:List Str}(hn:(aL.map Prod.fst).Nodup)(f:2<=aL.length)(cv:Cov aL S)(h:Acy (edg aL) S):ears aL≠[]:=λz=>by
 obtain⟨l,m,q⟩:=h;obtain⟨i,j,hi,b,n,o⟩:=q.has_ear (by rw[a0a];exact f);rw[a0a]at hi b;have d:∀ {k:Nat} (a:k < aL.length),(edg aL)[k]?.getD []=aL[k].2:=λa=>by rw[a5c,a1a a];rfl
 have ne:aL[j].1≠aL[i].1:=λe=>n ((List.getElem?_inj (l:=aL.map Prod.fst) (by rw[a0a];exact hi) hn).mp (by rw[a5c,a5c,a1a hi,a1a b];exact a4F some e.symm));have:(aL[i].1,some aL[j].1)∈ears aL:=by
  refine jW.mpr ⟨aL[i],a7b hi,rfl,?_⟩;unfold aR9;rw[a4z (dB2 hn f (a7b hi))];refine a9b.mpr ⟨aL[j],List.mem_filter.mpr ⟨dS7 (a7b b) ne,a3g.mpr λc p=>a4C ?_⟩,rfl⟩;obtain⟨g,r⟩:=List.mem_filter.mp p;obtain⟨t,s,ct⟩:=fJ.mp (of_decide_eq_true r);obtain⟨u,v⟩:=nI s;obtain⟨k,a,rfl⟩:=a8d u;have:=o c ((m c).mpr (cv _ (a7b hi) c g)) (by rw[d hi];exact g) ⟨k,λz=>v (by subst z;rfl),by rw[a0a];exact a,by rw[d a];exact ct⟩;rwa[d b]at this
 rw[z]at this;cases this
def bZ7(q:Str×List Str)(S:List Str):Acy (edg [q]) S:=by
 refine⟨S,λ_=>Iff.rfl,?_⟩
 induction S with
 | nil=>trivial
 | cons v b c=>exact⟨⟨q.2,by simp,λf d _ x _ a=>by rw[show f=q.2 by simpa using d]at a;exact a⟩,c⟩
def bF9(q:Str×List Str):ears [q]=[(q.1,none)]:=by
 have:wo [q] q.1=[]:=List.filter_eq_nil_iff.mpr λx a=>by rw[a3a.mp a];simp
 unfold ears aR9;rw[List.flatMap_cons,this];rfl
theorem aS4{S:List Str}:∀ (n:Nat) (aL:List (Str×List Str)),aL.length=n->(aL.map Prod.fst).Nodup->Cov aL S->1<=n->((kH n aL).length=n↔Acy (edg aL) S)
 | 0,_,_,_,_,h=>absurd h (by decide)
 | 1,aL,hl,hn,cv,_=>by
   obtain⟨q,rfl⟩:=List.length_eq_one_iff.mp hl;unfold kH;rw[bF9];exact⟨λ_=>bZ7 q S,λ_=>rfl⟩
 | n+2,aL,hl,hn,cv,_=>by
   unfold kH;cases e:ears aL with
   | nil=>exact⟨λh=>by simp at h,λh=>absurd e (bZ6 hn (by lia) cv h)⟩
   | cons p r=>
     have a:p∈ears aL:=by rw[e];exact a4a
     obtain⟨q,b,c,_⟩:=jW.mp a;have f:=nJ hn ⟨q,b,c⟩;have d:=aS4 (S:=S) (n+1) (wo aL p.1) (by lia) (bZ5 hn _) (cv.wo _) (by lia);rw[aZ9 hn (by lia) a,← d,a4f];lia
theorem aF2:∀ (n:Nat) (aL:List (Str×List Str)),aL.length=n->(aL.map Prod.fst).Nodup->(kH n aL).length=n->lX aL (kH n aL)=true
 | 0,aL,hl,_,_=>by unfold kH lX;exact a4C hl
 | n+1,aL,hl,hn,a=>by
   unfold kH at a ⊢;cases e:ears aL with
   | nil=>rw[e]at a;simp at a
   | cons p r=>
     rw[e]at a;have b:p∈ears aL:=by rw[e];exact a4a
     obtain⟨q,c,d,_⟩:=jW.mp b;have f:=nJ hn ⟨q,c,d⟩;unfold lX;rw[a4C b,aF2 n (wo aL p.1) (by lia) (bZ5 hn _) (by simpa using a)];rfl
open L2 Dv
local macro_rules | `(tactic| walk_at "dx")=>do
 let l:=("aR7 bE8 mX bD6 bE6 cG2 aJ0 zS aR6 aR1 aR0 aR2 aR3 aE6 rV cW5 uG uH uI uJ uK uL uM uN uO uP uQ uR uT uU uV uW uX aW1 uY mW oG uZ vA oH oJ oK vB vC aW2 vD vE aW3 vF vG vH vI vJ vK oM oN vL vM vN vO vP oO vQ oP vR vS vT vU vV zG vW vX vY oQ oR vZ wA wB wC wD wE wF wG wH wI aW4 oS lR oU wJ wK oV wX wY wZ xA xB xC xE xF xG pR aW5 xH pE pF lV jL zF nD pQ pO xJ pG pH pI xK xL xM xN xO aW6 aW7 aW8 aW9 xP xQ xR pJ pK xS pL xT xU pM lT xV pN aO2 xW xX xY xZ aX0 yA cX2 yB yC mX cA yD yE yF yG wL wM wN wO wP wQ wR wS wT oW oX oY oZ wU wV wW reduceIte".splitOn " ").toArray.map fun s=>Lean.mkIdent s.toName
 let m:=("aR4 aR5 bX8 yH yI yJ aO3 aX1 Int.reducePow Int.reduceNeg Int.reduceLT Int.reduceLE Nat.reducePow Nat.reduceLT Int.reduceToNat Nat.reduceLeDiff yM dQ0 dQ1 dQ2 dQ3 dQ4 dQ5 dQ6 dQ7 dQ8 dQ9 dR0 dR1 yK aX2 yL pA pB pC pD bK8 List.getElem?_cons_succ List.getElem?_cons_zero Option.getD_some List.set_cons_zero List.set_cons_succ fB bD1 List.length_cons List.length_nil Nat.reduceAdd Nat.zero_add true_and and_true and_self Bool.not_false Bool.not_true Bool.false_eq_true Bool.true_and Bool.and_true Bool.or_false decide_eq_true_eq".splitOn " ").toArray.map fun s=>Lean.mkIdent s.toName
 `(tactic| simp only[$[↓$l:ident],*,$[$m:ident],*])
def sl4:10000<=sizeLine:=by decide
def bZ8{k:List Str}(h:∀ z∈k,As z):Ok 1 (tS k):=.tup (oks h)
def bZ9(x y:List Str)(h:tS x=tS y):x=y:=by
 injection h with h
 exact(List.map_inj_right rX).mp h
def aS5{cs:List Str}(j:cs.length<=6){K:Res->List Sl->Prop}(k:K (.own (.lst ((aA3 cs).map tS))) [⟨.val,tS cs⟩]):CK hX [⟨.val,tS cs⟩] K:=by
 have sl:=sl4;unfold hX;rw[dA];show RS iT [_,none,none,none] _;unfold iT;walk_at "dx";refine⟨a7c _,by decide,fS (λi a=>i<=6/\∃ b d,a=[some ⟨.val,tS cs⟩,some ⟨.own,.lst ((aA3 (cs.take i)).map tS)⟩,ov b d,none]) ⟨by decide,false,.non,rfl⟩ ?_ ?_⟩
 ·rintro i d a hd ⟨hi,b,d',rfl⟩;obtain⟨c,f,rfl⟩:=fT hd;have l:(aA3 (cs.take i)).length<=64:=by
   rw[(aK4 _).1,a0d];exact a8b (Nat.pow_le_pow_right (by decide) (by lia:min i cs.length<=6)) (by decide)
  have g:=(a2a.mp f).1;have h:∀ T∈aA3 (cs.take i),T.length<=6:=λT e=>by have:=((aK4 _).2.2 T e).length_le;rw[a0d]at this;lia
  walk_at "dx";refine⟨by rw[a0a];lia,fH (λT=>tS (T++[c])) tS (aA3 (cs.take i)) [_,_,_,none] rfl (λT e=>?_) ?_⟩;have:=h T e;walk_at "dx";exact⟨by decide,by rw[a0a];lia,by show Res.val (.tup _)=.val (.tup ((T++[c]).map D.str));rw[a4b];rfl⟩;walk_at "dx";refine⟨by rw[a0a,a0a];lia,_,.inl rfl,by lia,true,.str c,?_⟩;rw[show cs.take (i+1)=cs.take i++[c] by rw[a3f,f];rfl,aS3,a4b,List.map_map];rfl
 ·rintro a ⟨_,b,d,rfl⟩;walk_at "dx";rw[a0a,List.take_length];exact k
def bA0{qs:List (Str×List Str)}{x y:Str}(b:Qn qs)(c:As x)(d:As y){K:Res->List Sl->Prop}(k:K (.val (.bl (aF0 qs x y))) [⟨.val,qD qs⟩,⟨.val,.str x⟩,⟨.val,.str y⟩]):CK dS [⟨.val,qD qs⟩,⟨.val,.str x⟩,⟨.val,.str y⟩] K:=by
 have sl:=sl4;unfold dS;rw[dA];show RS eJ [_,_,_,none,none] _;unfold eJ;walk_at "dx";refine⟨by rw[a0a];have:=b.1;lia,fH (λq=>.bl (decide (x∈q.2)&&decide (y∈q.2))) qP qs [_,_,_,none,none] rfl (λq a=>?_) ?_⟩;have ha:∀ z∈q.2,As z:=λz e=>((b.2 q a).2.2 z e).2;walk_at "dx";refine lW c ha ?_;walk_at "dx";split;rename_i h;refine lW d ha ?_;walk_at "dx";rw[a4C h];rfl;rename_i h;rw[a4B h];rfl;rw[show(qs.map λq=>D.bl (decide (x∈q.2)&&decide (y∈q.2)))=(qs.map λq=>decide (x∈q.2)&&decide (y∈q.2)).map D.bl by rw[List.map_map];rfl];walk_at "dx";rw[List.any_map];exact k
def zZ(l:List Str){n:Int}(h:0<=n):aK8 (l.map D.str) none (some n)=(l.take n.toNat).map D.str:=by rw[aE5 _ h,a8h]
def nK(l:List Str){n:Int}(h:0<=n):aK8 (l.map D.str) (some n) none=(l.drop n.toNat).map D.str:=by rw[cG8 _ h,List.map_drop]
def dB3{l:List D}{i:Nat}(h:0<=(0+(i:Int)))(hi:i+2<=l.length):aK8 l (some (0+(i:Int))) (some (0+(i:Int)+2))=(l.drop i).take 2:=by
 unfold aK8;have a:HT.sIx l.length 0 (some (0+(i:Int)))=i:=by rw[show(0+(i:Int))=((i:Nat):Int) by lia,HT.sIx_nat];lia
 have b:HT.sIx l.length l.length (some (0+(i:Int)+2))=i+2:=by rw[show(0+(i:Int)+2)=((i+2:Nat):Int) by lia,HT.sIx_nat];lia
 rw[a,b,show i+2-i=2 by lia]
def aB7{α:Type}{o:Option α}{x:α}{K:α->Prop}(e:o=some x)(k:K x):OK1 o K:=jK.mpr ⟨x,e,k⟩
def aK5{l:List Str}(h:l≠[]):atI (l.map D.str) (-1)=some (.str (l.getLast?.getD default)):=by
 rcases List.eq_nil_or_concat l with e | ⟨r,c,e⟩;exact absurd e h;rw[List.concat_eq_append]at e;subst e;rw[a4b];show atI (r.map D.str++[D.str c]) (-1)=_;rw[bY4];simp
def cA0{qs:List (Str×List Str)}{cs:List Str}(s:Qn qs)(n:∀ z∈cs,As z)(v:cs.length<=100){K:Res->List Sl->Prop}(k:(∀ z∈wlk qs cs,z∈cs)->(wlk qs cs).length<=cs.length->K (.val (tS (wlk qs cs))) [⟨.val,qD qs⟩,⟨.val,tS cs⟩]):CK kY [⟨.val,qD qs⟩,⟨.val,tS cs⟩] K:=by
 have sl:=sl4;unfold kY;rw[dA];show RS nG [_,_,none,none,none,none] _;unfold nG;walk_at "dx";rw[zZ _ (by decide),nK _ (by decide)];show OK1 (cF3 _ _ ((cs.drop 1).map D.str) _) _;refine fS (λi o=>∃ W b d p,o=[some ⟨.val,qD qs⟩,some ⟨.val,tS cs⟩,some ⟨.val,tS W⟩,ov b d,fo p,none]/\W=((cs.drop 1).take i).foldl (λw _=>zY qs cs w) (cs.take 1)/\(∀ z∈W,z∈cs)/\W.length<=min 1 cs.length+i/\(i < (cs.drop 1).length->W≠[])) ⟨cs.take 1,false,.non,none,rfl,rfl,λz a=>a9d a,by rw[a0d];lia,λh z=>?_⟩ ?_ ?_;rw[a8e]at h;have:=a4F List.length z;rw[a0d,a2g]at this;lia
 ·rintro i d o hd ⟨W,b,d',p,rfl,m,f,j,q⟩;obtain⟨c,l,rfl⟩:=fT hd;have hi:=(a2a.mp l).1;have g:=q hi;rw[a8e]at hi;have r:∀ z∈W,As z:=λz a=>n z (f z a);have t:As (W.getLast?.getD default):=by
   rw[List.getLast?_eq_some_getLast g];exact r _ (List.getLast_mem g)
  walk_at "dx";refine⟨by rw[a0a];lia,bC (λc=>!decide (c∈W)&&aF0 qs (W.getLast?.getD default) c) D.str D.str cs [_,_,_,_,_,none] rfl (λz a=>?_) ?_⟩;walk_at "dx";refine lW (n z a) r ?_;walk_at "dx";by_cases h:z∈W;simp only[decide_eq_true h,Bool.not_true];walk_at "dx";rfl;simp only[decide_eq_false h,Bool.not_false];walk_at "dx";rw[aK5 g];walk_at "dx";refine bA0 s t (n z a) ?_;walk_at "dx";walk_at "dx";rw[zZ _ (by decide)];have u:((cs.filter λc=>!decide (c∈W)&&aF0 qs (W.getLast?.getD default) c).take (1:Int).toNat)=(ahd qs cs W).take 1:=rfl;rw[u];have x:((ahd qs cs W).take 1).length<=1:=by rw[a0d];lia
  refine⟨by rw[a0a,a0a];lia,_,.inl rfl,zY qs cs W,true,_,some (true,_),by unfold zY;rw[← a4b];rfl,by rw[show(cs.drop 1).take (i+1)=(cs.drop 1).take i++[c] by rw[a3f,l];rfl,List.foldl_append,← m];rfl,λz a=>?_,by unfold zY;rw[a5a];lia,λ_ z=>?_⟩;unfold zY at a;rcases a8a.mp a with h | h;exact f z h;exact(List.mem_filter.mp (a9d h)).1;unfold zY at z;exact g (List.append_eq_nil_iff.mp z).1
 ·rintro o ⟨W,b,d,p,rfl,m,f,j,_⟩;rw[a0a,List.take_length]at m;rw[a0a,a8e]at j;have e:W=wlk qs cs:=m;subst e;walk_at "dx";exact k f (by lia)
def bL3{qs:List (Str×List Str)}{cs:List Str}(u:Qn qs)(e:∀ z∈cs,As z)(y:cs.length<=100){K:Res->List Sl->Prop}(k:K (.own (.lst ((gN qs cs).map tS))) [⟨.val,qD qs⟩,⟨.val,tS cs⟩]):CK jP [⟨.val,qD qs⟩,⟨.val,tS cs⟩] K:=by
 have sl:=sl4;have w:=u.1;unfold jP;rw[dA];show RS kZ [_,_,none,none,none,none,none] _;unfold kZ;walk_at "dx";refine⟨a7c _,fS (λi f=>∃ g j l m n o,f=[some ⟨.val,qD qs⟩,some ⟨.val,tS cs⟩,some ⟨.own,.lst ((gN (qs.take i) cs).map tS)⟩,ov g j,ov l m,ov n o,none]) ⟨false,.non,false,.non,false,.non,rfl⟩ ?_ ?_⟩
 ·rintro i d f hd ⟨g,j,l,m,n,o,rfl⟩;obtain⟨q,b,rfl⟩:=fT hd;have p:=a6b b;have ha:∀ z∈q.2,As z:=λz a=>((u.2 q p).2.2 z a).2;have sa:∀ k∈gN (qs.take i) cs,∀ z∈k,As z:=λk r z a=>by
   obtain⟨t,_,rfl⟩:=((fR _ _).2 k).mp r;exact e z (cU.mp a).1
  have x:=zU (qs.take i) cs;rw[a0d]at x;walk_at "dx";refine⟨by rw[a0a];lia,bC (λc=>decide (c∈q.2)) D.str D.str cs [_,_,_,_,_,_,none] rfl (λz a=>?_) ?_⟩;walk_at "dx";refine lW (e z a) ha ?_;walk_at "dx";walk_at "dx";show OK1 (inD true (tS (inS cs q.2)) (.lst ((gN (qs.take i) cs).map tS))) _;refine zP (bZ8 λz a=>e z (cU.mp a).1) (λd hd=>by obtain⟨k,r,rfl⟩:=a9b.mp hd;exact bZ8 (sa k r)) (by decide) (by decide) ?_;rw[rW tS bZ9];walk_at "dx";have v:qs.take (i+1)=qs.take i++[q]:=by rw[a3f,b];rfl
  split
  ·rename_i s;have h:¬ inS cs q.2∈gN (qs.take i) cs:=by simpa using s
   refine⟨by rw[a0a];lia,_,.inl rfl,true,.str q.1,true,tS q.2,true,tS (inS cs q.2),?_⟩;rw[v,nP,a4z h,a4b];rfl
  ·rename_i s;have h:inS cs q.2∈gN (qs.take i) cs:=by simpa using s
   refine⟨_,.inl rfl,true,.str q.1,true,tS q.2,true,tS (inS cs q.2),?_⟩;rw[v,nP,a4y h];rfl
 ·rintro f ⟨g,j,l,m,n,o,rfl⟩;walk_at "dx";rw[a0a,List.take_length];exact k
def dB4{a b:List Str}(ha:∀ z∈a,As z)(d:∀ z∈b,As z)(g:a.length<=100){K:Res->List Sl->Prop}(k:K (.val (.bl (bY9 a b))) [⟨.val,tS a⟩,⟨.val,tS b⟩]):CK fE [⟨.val,tS a⟩,⟨.val,tS b⟩] K:=by
 have sl:=sl4;unfold fE;rw[dA];show RS fX [_,_,none] _;unfold fX;walk_at "dx";refine aQ9 (bZ8 ha) (bZ8 d) (by decide) (by decide) ?_;rw[show decide (tS a=tS b)=decide (a=b)from decide_eq_decide.mpr ⟨bZ9 a b,λe=>by rw[e]⟩];walk_at "dx";by_cases h:a=b;rw[a4C h,a4z (by decide)];unfold bY9 at k;rw[a4C h]at k;exact k;rw[a4B h,a4y (by decide)];refine⟨by rw[a0a];lia,cZ8 D.str (λc=>decide (c∈b)) a ?_ ?_⟩;intro y f;walk_at "dx";refine lW (ha y f) d ?_;walk_at "dx";walk_at "dx";rw[bY1];unfold bY9 at k;rw[a4B h]at k;exact k
def cA1{qs:List (Str×List Str)}{cs:List Str}(c:Qn qs)(d:∀ z∈cs,As z)(e:cs.length<=100){K:Res->List Sl->Prop}(k:K (.own (.lst ((dH qs cs).map tS))) [⟨.val,qD qs⟩,⟨.val,tS cs⟩]):CK fF [⟨.val,qD qs⟩,⟨.val,tS cs⟩] K:=by
 have sl:=sl4;have f:=c.1;have sa:∀ k∈gN qs cs,(∀ z∈k,As z)/\k.length<=100:=λk g=>by
  obtain⟨t,_,rfl⟩:=((fR _ _).2 k).mp g;exact⟨λz h=>d z (cU.mp h).1,a8b (List.length_filter_le _ _) e⟩
 have j:=zU qs cs;unfold fF;rw[dA];show RS fY [_,_,none,none,none] _;unfold fY;walk_at "dx";refine bL3 c d e ?_;walk_at "dx";refine⟨by rw[a0a];lia,bC (λa=>!((gN qs cs).any λb=>bY9 a b)) tS tS (gN qs cs) [_,_,_,none,none] rfl (λa ha=>?_) ?_⟩;walk_at "dx";refine⟨by rw[a0a];lia,fH (λb=>.bl (bY9 a b)) tS (gN qs cs) [_,_,_,_,none] rfl (λb i=>?_) ?_⟩;walk_at "dx";refine dB4 (sa a ha).1 (sa b i).1 (sa a ha).2 ?_;walk_at "dx";rw[show((gN qs cs).map λb=>D.bl (bY9 a b))=((gN qs cs).map λb=>bY9 a b).map D.bl by rw[List.map_map];rfl];walk_at "dx";rw[List.any_map];rfl;walk_at "dx";exact k
local macro_rules | `(tactic| walk_at "dy")=>`(tactic| simp -implicitDefEqProofs only[↓aR7,↓bE8,↓mX,↓bD6,↓cW6,↓bE6,↓dO8,↓cG2,↓aJ0,↓zS,↓aR6,↓aR1,↓aR0,↓aR2,↓aR3,↓dP9,aR4,aR5,bX8,↓aE6,↓rV,↓cW5,↓uG,↓uH,↓uI,↓uJ,↓uK,↓uL,↓uM,↓uN,↓uO,↓uP,↓uQ,↓uR,↓uT,↓uU,↓uV,↓uW,↓uX,↓aW1,↓uY,↓mW,↓oG,↓dZ2,↓uZ,↓vA,↓oH,↓oJ,↓oK,↓vB,↓vC,↓aW2,↓vD,↓vE,↓aW3,↓vF,↓vG,↓vH,↓vI,↓vJ,↓vK,↓oM,↓oN,↓vL,↓vM,↓vN,↓vO,↓vP,↓oO,↓vQ,↓oP,↓vR,↓vS,↓vT,↓vU,↓vV,↓zG,↓vW,↓vX,↓vY,↓cW7,↓oQ,↓oR,↓vZ,↓wA,↓wB,↓wC,↓wD,↓wE,↓wF,↓cZ0,↓cY0,↓wG,↓wH,↓wI,↓aW4,↓oS,↓lR,↓oU,↓wJ,↓wK,↓oV,↓wX,↓wY,↓wZ,↓xA,↓xB,↓xC,↓xE,↓xF,↓xG,↓pR,↓aW5,↓xH,↓pE,↓pF,↓lV,↓jL,
 ↓zF,↓nD,↓pQ,↓pO,↓xJ,↓pG,↓pH,↓pI,↓xK,↓xL,↓xM,↓xN,↓xO,↓aW6,↓aW7,↓aW8,↓aW9,↓xP,↓xQ,↓xR,↓pJ,↓pK,↓xS,↓pL,↓xT,↓xU,↓pM,↓lT,↓xV,↓pN,↓aO2,↓xW,↓xX,↓xY,↓xZ,↓aX0,↓yA,↓cX2,↓yB,↓yC,↓mX,↓cA,yH,yI,dN7,yJ,aO3,aX1,Int.reducePow,Int.reduceNeg,Int.reduceLT,Int.reduceLE,Nat.reducePow,Nat.reduceLT,Int.reduceToNat,Nat.reduceLeDiff,↓yD,↓yE,↓dN6,↓yF,↓yG,yM,dQ0,dQ1,dQ2,dQ3,dQ4,dQ5,dQ6,dQ7,dQ8,dQ9,dR0,dR1,yK,aX2,yL,↓wL,↓wM,↓wN,↓wO,↓wP,↓wQ,↓wR,↓wS,↓wT,↓oW,↓oX,↓oY,↓oZ,↓wU,↓wV,↓wW,pA,pB,pC,pD,bK8,a3d,List.getElem?_cons_zero,Option.getD_some,List.set_cons_zero,List.set_cons_succ,fB,bD1,a4f,a2g,Nat.reduceAdd,a9f,true_and,and_true,and_self,Bool.not_false,Bool.not_true,Bool.false_eq_true,Bool.true_and,Bool.and_true,Bool.or_false,↓reduceIte,a4D])
def dS9{cs:List Str}(f:cs.length<=100):cL [⟨.val,tS cs⟩]=some (.own (.lst ((abo cs).map tS)),[⟨.val,tS cs⟩]):=by
 have sl:=sl4;have a:∀ K:Res->List Sl->Prop,K (.own (.lst ((abo cs).map tS))) [⟨.val,tS cs⟩]->∃ x,cL [⟨.val,tS cs⟩]=some x/\K x.1 x.2:=by
  intro K k;apply jK.mp;show CK cL [⟨.val,tS cs⟩] K;unfold cL;rw[dA];show RS fZ [_,none] _;unfold fZ;walk_at "dy";refine⟨by rw[a0a];lia,by rw[cK,a0a];lia,?_⟩;rw[a0a,a5h];refine fH (λi:Nat=>tS (cs.take i++cs.drop (i+1))) (λi:Nat=>.int (0+(i:Int))) (List.range cs.length) [_,none] rfl (λi hi=>?_) ?_;have b:=a7d.mp hi;walk_at "dx";rw[zZ _ (by lia),nK _ (by lia),show(0+(i:Int)).toNat=i by lia,show(0+(i:Int)+1).toNat=i+1 by lia];refine⟨by rw[a0a,a0a,a0d,a8e];lia,?_⟩;show Res.val (.tup _)=.val (.tup ((cs.take i++cs.drop (i+1)).map D.str));rw[a4b];walk_at "dx";unfold abo at k;rw[List.map_map]at k;exact k
 obtain⟨x,e,c,d⟩:=a (λr as'=>r=.own (.lst ((abo cs).map tS))/\as'=[⟨.val,tS cs⟩]) ⟨rfl,rfl⟩;rw[e];exact a4F some (Prod.ext c d)
def dT0{cs:List Str}(a:cs.length<=100){K:Res->List Sl->Prop}:CK cL [⟨.val,tS cs⟩] K=K (.own (.lst ((abo cs).map tS))) [⟨.val,tS cs⟩]:=by
 unfold CK;rw[dS9 a,cA]
def dT1{cs:List Str}(a:3<=cs.length)(c:cs.length<=100){K:Res->List Sl->Prop}(k:K (.own (.lst ((nbr cs).map tS))) [⟨.val,tS cs⟩]):CK gB [⟨.val,tS cs⟩] K:=by
 have sl:=sl4;unfold gB;rw[dA];show RS hZ [_,none,none] _;unfold hZ;walk_at "dx";refine⟨by rw[a0a];lia,by rw[cK,a0a];lia,?_⟩;rw[a0a,show((cs.length:Int)-1).toNat=cs.length-1 by lia];refine fH (λi:Nat=>tS ((cs.drop i).take 2)) (λi:Nat=>.int (0+(i:Int))) (List.range (cs.length-1)) [_,none,none] rfl (λi hi=>?_) ?_;have b:=a7d.mp hi;walk_at "dx";show Res.val (.tup _)=.val (.tup (((cs.drop i).take 2).map D.str));rw[dB3 (by lia) (by rw[a0a];lia),← List.map_drop,← a8h];walk_at "dx";refine aB7 (x:=.str (cs.getD 0 default)) ?_ (aB7 (x:=.str (cs.getD (cs.length-1) default)) ?_ ⟨by decide,by decide,by rw[a0a,a5f];lia,?_⟩)
 ·have h0:0 < cs.length:=by lia
  unfold atI;rw[dA5 (by decide) (by rw[a0a];lia)];show(cs.map D.str)[0]? = _;rw[a5c,a1a h0,a3c,a1a h0];rfl
 ·rw[aK5 (λz=>by rw[z]at a;simp at a),List.getLast?_eq_getElem?,a3c]
 ·unfold nbr at k;rw[a4b,List.map_map]at k;exact k
def dT2{cs:List Str}:(nud [] cs < cs.length)↔¬ cs.Nodup:=by
 have h:=bV6 cs [];have l:=bE5 cs [];constructor;intro z nd;have:=h.mpr ⟨nd,λ_ _=>List.not_mem_nil⟩;lia;intro nd;refine Nat.lt_of_le_of_ne l λe=>nd (h.mp e).1
def bG0{ks:List (List Str)}(h:∀ k∈ks,∀ z∈k,As z):Ok 2 (.lst (ks.map tS)):=.lst λd hd=>by obtain⟨k,a,rfl⟩:=a9b.mp hd;exact bZ8 (h k a)
def cA2{a b:List (List Str)}:(D.lst (a.map tS)=D.lst (b.map tS))↔a=b:=⟨λh=>by injection h with h;exact(List.map_inj_right bZ9).mp h,λe=>by rw[e]⟩
def nQ{qs:List (Str×List Str)}{cs:List Str}(A:Qn qs)(M:qs.length<=60)(f:∀ z∈cs,As z)(B:cs.length<=60){K:Res->List Sl->Prop}(k:K (.val (.bl (isR qs cs))) [⟨.val,qD qs⟩,⟨.val,tS cs⟩]):CK cT [⟨.val,qD qs⟩,⟨.val,tS cs⟩] K:=by
 have sl:=sl4;unfold cT;rw[dA];show RS lA [_,_,none] _;unfold lA;walk_at "dx";rw[a0a];by_cases N:cs.length < 3
 ·rw[a4y (by lia)];have:isR qs cs=false:=by unfold isR;rw[a4B (by lia)];rfl
  rw[this]at k;exact k
 ·rw[a4z (by lia)];refine⟨by lia,?_⟩;by_cases e:cs.Nodup
  ·have C:nud [] cs=cs.length:=bV7.mpr e;rw[a4z (by lia)];have p:∀ k∈dH qs cs,∀ z∈k,As z:=λk d z m=>by
    obtain⟨t,_,rfl⟩:=((fR _ _).2 k).mp (dN.mp d).1;exact f z (cU.mp m).1
   have O:=bL1 qs cs
   -- of two unlike ones none is empty
   have E:2<=(dH qs cs).length->∀ k∈dH qs cs,k≠[]:=λF k d z=>by
    subst z;obtain⟨_,h0⟩:=dN.mp d
    match hw:dH qs cs,F with
    | a::b::r,_=>
      have nd:=zV qs cs;have ha:a∈dH qs cs:=by rw[hw];simp
      have G:b∈dH qs cs:=by rw[hw];simp
      have H:=h0 a (dN.mp ha).1 λc f=>absurd f List.not_mem_nil;have I:=h0 b (dN.mp G).1 λc f=>absurd f List.not_mem_nil;rw[hw,← H,← I]at nd;simp at nd
   have q:∀ k∈abo cs,(∀ z∈k,As z)/\k≠[]:=λk d=>by
    obtain⟨u,P,rfl⟩:=(aK2 e).mp d;refine⟨λz m=>f z (List.mem_filter.mp m).1,λz=>?_⟩;have g:∀ (j:Nat) (s:j < cs.length),cs[j]? = some cs[j]:=λj s=>a1a s;have h0:=List.filter_eq_nil_iff.mp z cs[0] (a7b _);have v:=List.filter_eq_nil_iff.mp z cs[1] (a7b _);simp only[decide_eq_true_eq,Classical.not_not]at h0 v;exact mK e (g 0 (by lia)) (g 1 (by lia)) (by decide) (h0.trans v.symm)
   have w:∀ k∈nbr cs,(∀ z∈k,As z)/\k≠[]:=λk d=>by
    obtain⟨i,j,x,y,_,J,L,_,rfl⟩:=(aK3 (by lia)).mp d;refine⟨λz m=>?_,by simp⟩;simp only[List.mem_cons,List.not_mem_nil,or_false]at m;rcases m with rfl | rfl;exact f _ (a6b J);exact f _ (a6b L)
   have Q:(abo cs).length=cs.length:=by unfold abo;rw[a0a,a5f]
   have R:(nbr cs).length=cs.length:=by unfold nbr;rw[a5a,a0a,a5f,List.length_singleton];lia
   have sa:∀ {l:List (List Str)},(∀ k∈l,∀ z∈k,As z)->∀ k∈sX l,∀ z∈k,As z:=λ{l} h k d=>h k ((cY6 l).1.mem_iff.mp d);refine cA1 A f (by lia) ?_;walk_at "dx";rw[bW5];refine⟨⟨by lia,E⟩,?_⟩;walk_at "dx";have n:cs.length<=100:=a8b B (by decide);rw[dT0 n];walk_at "dx";rw[bW5];refine⟨⟨by lia,λ_ k d=>(q k d).2⟩,?_⟩;walk_at "dx";refine aQ9 (bG0 (sa p)) (bG0 (sa λk d=>(q k d).1)) (by decide) (by decide) ?_;rw[show decide (D.lst ((sX (dH qs cs)).map tS)=D.lst ((sX (abo cs)).map tS))=decide (sX (dH qs cs)=sX (abo cs))from decide_eq_decide.mpr cA2];walk_at "dx";by_cases o:sX (dH qs cs)=sX (abo cs)
   ·rw[a4y o];have:isR qs cs=true:=by unfold isR;rw[a4C (by lia:3<=cs.length),a4C e,a4C o];rfl
    rw[this]at k;exact k
   ·rw[a4z o];refine dT1 (by lia) (by lia) ?_;walk_at "dx";rw[bW5];refine⟨⟨by lia,λ_ k d=>(w k d).2⟩,?_⟩;walk_at "dx";refine aQ9 (bG0 (sa p)) (bG0 (sa λk d=>(w k d).1)) (by decide) (by decide) ?_;rw[show decide (D.lst ((sX (dH qs cs)).map tS)=D.lst ((sX (nbr cs)).map tS))=decide (sX (dH qs cs)=sX (nbr cs))from decide_eq_decide.mpr cA2];have:isR qs cs=decide (sX (dH qs cs)=sX (nbr cs)):=by unfold isR;rw[a4C (by lia:3<=cs.length),a4C e,a4B o,Bool.true_and,Bool.true_and,Bool.false_or]
    rw[this]at k;walk_at "dx";exact k
  ·have:=dT2.mpr e;rw[a4y (by lia)];have:isR qs cs=false:=by unfold isR;rw[a4B e,Bool.false_and,Bool.and_false]
   rw[this]at k;exact k
def bL4{qs:List (Str×List Str)}(c:Qn qs)(o:qs.length<=60)(p:(cM qs).length<=6){K:Res->List Sl->Prop}(k:K (.val (match aZ8 qs with | some w=>tS w | none=>.non)) [⟨.val,qD qs⟩]):CK jQ [⟨.val,qD qs⟩] K:=by
 have sl:=sl4;have q:=aJ8 c;unfold jQ;rw[dA];show RS lB [_,none,none] _;unfold lB;walk_at "dx";refine rZ c ?_;walk_at "dx";refine aS5 p ?_;walk_at "dx";refine bV0 (λi h=>(((aA3 (cM qs)).take i).map (wlk qs)).find? (isR qs)=none/\∃ b d j d',h=[some ⟨.val,qD qs⟩,ov b d,ov j d']) ⟨rfl,false,.non,false,.non,rfl⟩ ?_ ?_
 ·rintro i d h hd ⟨a,b,s,j,t,rfl⟩;obtain⟨T,f,rfl⟩:=fT hd;have m:=(aK4 _).2.2 T (a6b f);have u:=m.length_le;have n:∀ z∈T,As z:=λz l=>q z (m.subset l);walk_at "dx";refine cA0 c n (by lia) λr v=>?_;walk_at "dx";refine nQ c o (λz l=>n z (r z l)) (by lia) ?_;walk_at "dx";have hi:=(a2a.mp f).1;by_cases g:isR qs (wlk qs T)=true
  ·rw[a4y g];refine .inr (.inl ⟨_,_,rfl,?_⟩);have:aZ8 qs=some (wlk qs T):=by
    unfold aZ8;have e:aA3 (cM qs)=(aA3 (cM qs)).take i++T::(aA3 (cM qs)).drop (i+1):=by
     conv=>lhs;rw[← List.take_append_drop i (aA3 (cM qs)),List.drop_eq_getElem_cons hi,(a2a.mp f).2]
    rw[e,a4b,List.find?_append,a,a7e,List.find?_cons_of_pos g];rfl
   rw[this]at k;walk_at "dx";exact k
  ·rw[a4z g];refine .inl ⟨_,.inl rfl,?_,true,_,true,_,rfl⟩;rw[a3f,f,a4b,List.find?_append,a];show[wlk qs T].find? (isR qs)=none;rw[List.find?_cons_of_neg g];rfl
 ·rintro h ⟨a,b,d,j,d',rfl⟩;rw[a0a,List.take_length]at a;walk_at "dx";rw[show aZ8 qs=none from a]at k;exact k
def aS6{qs:List (Str×List Str)}(c:Qn qs)(hn:(qs.map Prod.fst).Nodup){K:Res->List Sl->Prop}(k:K (.own (.lst ((kH qs.length qs).map eD))) [⟨.val,qD qs⟩]):CK hV [⟨.val,qD qs⟩] K:=by
 have sl:=sl4;have h:=c.1;unfold hV;rw[dA];show RS iS [_,none,none,none] _;unfold iS;walk_at "dx";refine⟨a7c _,sC c ?_⟩;walk_at "dx";refine rM (λm τ=>∃ aL done,m=aL.length/\Qn aL/\(aL.map Prod.fst).Nodup/\done++kH aL.length aL=kH qs.length qs/\done.length+aL.length=qs.length/\τ=[some ⟨.val,qD qs⟩,some ⟨.val,qD aL⟩,some ⟨.own,.lst (done.map eD)⟩,some ⟨.own,.lst ((ears aL).map eD)⟩]) qs.length (by lia) ⟨qs,[],rfl,c,hn,rfl,by simp,rfl⟩ ?_;rintro m τ ⟨aL,done,rfl,a,b,d,i,rfl⟩;walk_at "dx";cases e:ears aL with
 | nil=>
   refine aB7 (x:=false) rfl ?_;rw[a4z (by decide)];have:kH aL.length aL=[]:=by
    cases aL.length with
    | zero=>rfl
    | succ n=>unfold kH;rw[e]
   rw[this,a0g]at d;subst d;exact k
 | cons p r=>
   have g:p∈ears aL:=by rw[e];exact a4a
   obtain⟨q,f,j,_⟩:=jW.mp g;have o:=nJ b ⟨q,f,j⟩;have eg:=aZ4 a g;refine aB7 (x:=true) rfl ?_;rw[a4y rfl];refine aB7 (x:=eD p) (by rw[a7e];exact dY1) ⟨by rw[a0a];lia,aB7 (x:=eD p) (by rw[a7e];exact dY1) ?_⟩;walk_at "dx";refine sA a eg.1.2 ?_;walk_at "dx";refine sC (a.wo _) ?_;walk_at "dx";refine .inl ⟨_,_,.inl rfl,by lia,wo aL p.1,done++[p],rfl,a.wo _,bZ5 b _,?_,by rw[a5a,List.length_singleton];lia,by rw[a4b];rfl⟩;rw[← d];have l:aL.length=(wo aL p.1).length+1:=by lia
   rw[l];rw[List.append_assoc]
   conv=>rhs;unfold kH
   rw[e];rfl
def cI0:∀ {qs:List (Str×List Str)},(∀ q∈qs,q.2.Nodup)->(cM qs).Nodup:=by
 intro qs;have c:∀ n,∀ qs:List (Str×List Str),qs.length=n->(∀ q∈qs,q.2.Nodup)->(cM qs).Nodup:=by
  intro n
  induction n with
  | zero=>intro qs h _;rw[List.length_eq_zero_iff.mp h];exact .nil
  | succ n d=>
    intro qs h hd;rcases List.eq_nil_or_concat qs with e | ⟨l,q,e⟩;rw[e]at h;cases h;rw[List.concat_eq_append]at e;subst e;rw[aE8];refine List.nodup_append.mpr ⟨d l (by simpa using h) λq f=>hd q (a2d _ f),(hd q (by simp)).sublist List.filter_sublist,λa ha b g e=>?_⟩;have:=(List.mem_filter.mp g).2;rw[← e]at this;simp[ha]at this
 exact c _ qs rfl
def Qw.cn{qs:List (Str×List Str)}(h:Qw qs):(cM qs).Nodup/\(cM qs).length<=6:=by
 have nd:=cI0 h.cd;obtain⟨cs,b,c⟩:=h.cs;refine⟨nd,?_⟩;rw[← b];exact zX.nd_le nd λz a=>by
  obtain⟨q,d,a⟩:=lC a;exact c q d z a
abbrev nL(qs:List (Str×List Str)):Prop:=Acy (edg qs) (cM qs)
def bG1(qs:List (Str×List Str)):Cov qs (cM qs):=λq a z b=>fJ.mpr ⟨q,a,b⟩
def Qw.tk{qs:List (Str×List Str)}(h:Qw qs):(kH qs.length qs).length=qs.length↔nL qs:=aS4 qs.length qs rfl h.nd (bG1 qs) h.l1
open Classical in
noncomputable def aS7(qs:List (Str×List Str)):D:=if nL qs then .tup [.str "ears",.lst ((kH qs.length qs).map eD)]else .tup [.str "ring",match aZ8 qs with | some w=>tS w | none=>.non]
def cA3{qs:List (Str×List Str)}(h:Qw qs){K:Res->List Sl->Prop}(k:K (.val (aS7 qs)) [⟨.val,qD qs⟩]):CK jU [⟨.val,qD qs⟩] K:=by
 have sl:=sl4;have l6:=h.l6;unfold jU;rw[dA];show RS zK [_,none] _;unfold zK;walk_at "dx";refine aS6 h.qn h.nd ?_;walk_at "dx";unfold aS7 at k;by_cases a:nL qs;have:=h.tk.mpr a;rw[a4y a]at k;rw[a4y (by rw[a0a,a0a,this])];exact⟨by decide,k⟩;have:(kH qs.length qs).length≠qs.length:=λz=>a (h.tk.mp z);rw[a4z a]at k;rw[a4z (by rw[a0a,a0a];lia)];refine bL4 h.qn (by lia) h.cn.2 ?_;walk_at "dx";exact⟨by decide,k⟩
def aB8{qs:List (Str×List Str)}(a:Qn qs){K:Res->List Sl->Prop}(k:K (.val (tS (cM qs))) [⟨.val,qD qs⟩]):CK fG [⟨.val,qD qs⟩] K:=by
 have:fG=dD:=rfl;rw[this];exact rZ a k
def Rw(cs:List Str)(n:Nat)(l:List Str):Prop:=(∀ z∈l,z∈cs)/\l.length<=n
noncomputable def dB5:DS:=(iM (rD "list" 4 bI4 (aC (cE [7] (dIt (dSl (aH 0) (dP (aH 6)) sZ)) (dgN 7) iB (dFz (aX iC (aH 5) (qY (aC (dFz (aH 7)) aP))))) aP)))
def dT3{cs l:List Str}{ks:List (List Str)}{m a:Int}{i j:Nat}{s2 h:Option Sl}{Q:Out->Prop}(cl:cs.length<=6)(f:Rw cs i l)(o:i<=4)(g:∀ l∈ks,Rw cs (i+1) l)(n:ks.length<=6*j)(p:j<=1296)(a0:0<=a)
  (q:∀ b:List (List Str),(∀ l∈b,Rw cs (i+1) l)->b.length<=6*(j+1)->Q (.nx [some ⟨.val,tS cs⟩,some ⟨.val,.int m⟩,s2,h,some ⟨.own,.lst (b.map tS)⟩,some ⟨.val,tS l⟩,some ⟨.val,.int a⟩,none])) :
  RS dB5 [some ⟨.val,tS cs⟩,some ⟨.val,.int m⟩,s2,h,some ⟨.own,.lst (ks.map tS)⟩,some ⟨.val,tS l⟩,some ⟨.val,.int a⟩,none] Q:=by
 have sl:1000000<=sizeLine:=by decide
 obtain⟨f,r⟩:=f;unfold dB5;walk_at "dx";rw[nK _ a0];have dl:(cs.drop a.toNat).length<=6:=by rw[a8e];lia
 refine⟨by rw[a0a];lia,fH (λc=>tS (l++[c])) D.str (cs.drop a.toNat) [_,_,_,_,_,_,_,none] rfl (λc k=>?_) ?_⟩;walk_at "dx";exact⟨by decide,by rw[a0a];lia,by show Res.val (.tup _)=.val (.tup ((l++[c]).map D.str));rw[a4b];rfl⟩;walk_at "dx";refine⟨by rw[a0a,a0a];lia,?_⟩;rw[show(List.map (λc=>tS (l++[c])) (cs.drop a.toNat))=((cs.drop a.toNat).map λc=>l++[c]).map tS by rw[List.map_map];rfl,← a4b];refine q _ (λt d=>?_) (by rw[a5a,a0a];lia);rcases a8a.mp d with d | d;exact g t d;obtain⟨c,k,rfl⟩:=a9b.mp d;refine⟨λz e=>?_,by rw[a5a,List.length_singleton];lia⟩;rcases a8a.mp e with e | e;exact f z e;rw[a3a.mp e];exact List.mem_of_mem_drop k
def bL5{cs:List Str}{m:Int}(O:1<=m)(P:m<=5)(Q:∀ z∈cs,As z)(cl:cs.length<=6):∃ ls:List (List Str),(∀ l∈ls,Rw cs 5 l)/\ls.length<=7776/\dG [⟨.val,tS cs⟩,⟨.val,.int m⟩]=some (.val (.lst (ls.map tS)),[⟨.val,tS cs⟩,⟨.val,.int m⟩]):=by
 have y:∀ K:Res->List Sl->Prop,(∀ ls:List (List Str),(∀ l∈ls,Rw cs 5 l)->ls.length<=7776->K (.val (.lst (ls.map tS))) [⟨.val,tS cs⟩,⟨.val,.int m⟩])->∃ x,dG [⟨.val,tS cs⟩,⟨.val,.int m⟩]=some x/\K x.1 x.2:=by
  intro K k;apply jK.mp;show CK dG [⟨.val,tS cs⟩,⟨.val,.int m⟩] K;have sl:1000000<=sizeLine:=by decide
  unfold dG;rw[dA];show RS gC [_,_,none,none,none,none,none,none] _;rw[show gC=(bL (cG 2 (kI (aC (qY aP) aP)))
  (bL (pU (aA5 (aC (aH 1) aP)) (dgN 3)
  (bL (cG 4 (kI aP))
  (bL (pU (dIt (aH 2)) (dgN 5)
  (bL (cG 6 (dC (.int 0)))
  (bL (mB (dX (aX gtI (dCB mD (aC (aH 5) aP)) (dC (.int 0)))) (cG 6 (aX iC (dMT dP0 (aH 0) (aX ixD (aH 5) (bC3 cO4 (dC (.int 1))))) (dC (.int 1)))) fM)
  dB5)))
  (cG 2 (dFz (aH 4))))))
  (gQ (aH 2))))from rfl]
  walk_at "dx";refine⟨a7c _,by decide,⟨by lia,by lia⟩,?_⟩;refine fS (λi τ=>i<=5/\∃ (md:Md) (ls:List (List Str)) (A:Bool) (B:D) (C:Option (Bool×D)) (c:Bool) (f:D) (g:Bool) (d6:D),((i=0/\md=.own)\/(0 < i/\md=.val))/\(∀ l∈ls,Rw cs i l)/\ls.length<=6 ^ i/\τ=[some ⟨.val,tS cs⟩,some ⟨.val,.int m⟩,some ⟨md,.lst (ls.map tS)⟩,ov A B,fo C,ov c f,ov g d6,none]) ⟨by lia,.own,[[]],false,.non,none,false,.non,false,.non,.inl ⟨rfl,rfl⟩,λl s=>by rw[a3a.mp s];exact⟨(λ_ h=>nomatch h),a9a _⟩,by decide,rfl⟩ ?_ ?_
  ·rintro i d τ hd ⟨n,md,ls,A,B,C,c,f,g,d6,o,a,p,rfl⟩;obtain⟨hi,rfl⟩:=jV hd;have t:i<=4:=by lia
   have R:6 ^ i<=1296:=a8b (Nat.pow_le_pow_right (by decide) t) (by decide);have I:6 ^ (i+1)=6*6 ^ i:=by rw[Nat.pow_succ,Nat.mul_comm]
   rcases o with⟨E,rfl⟩ | ⟨E,rfl⟩
   all_goals
    walk_at "dx";refine⟨a7c _,fS (λj τ=>∃ (ks:List (List Str)) (c:Bool) (f:D) (g:Bool) (d6:D),(∀ l∈ks,Rw cs (i+1) l)/\ks.length<=6*j/\j<=ls.length/\τ=[_,_,_,_,some ⟨.own,.lst (ks.map tS)⟩,ov c f,ov g d6,none]) ⟨[],c,f,g,d6,(λ_ h=>nomatch h),a9a _,a7c _,rfl⟩ ?_ ?_⟩
    ·rintro j d τ hd ⟨ks,c,f,g,d6,q,b,G,rfl⟩;obtain⟨l,s,rfl⟩:=fT hd;have J:=(a2a.mp s).1;obtain⟨F,H⟩:=a l (a6b s);walk_at "dx";by_cases h0:l=[];subst h0;rw[a4z (by simp)];refine dT3 cl ⟨F,H⟩ t q b (by lia) (Int.le_refl _) λu v w=>?_;exact⟨_,.inl rfl,u,true,_,true,_,v,w,by lia,rfl⟩;have S:0 < l.length:=List.length_pos_iff.mpr h0;rw[a4y (by rw[a0a];lia),aK5 h0];have L:l.getLast?.getD default∈cs:=by
      rw[List.getLast?_eq_some_getLast h0];exact F _ (List.getLast_mem h0)
     walk_at "dx";refine⟨L,?_⟩;refine dT3 cl ⟨F,H⟩ t q b (by lia) (by lia) λu v w=>?_;exact⟨_,.inl rfl,u,true,_,true,_,v,w,by lia,rfl⟩
    ·rintro τ ⟨ks,c,f,g,d6,q,b,G,rfl⟩;rw[a0a]at b G;walk_at "dx";refine⟨_,.inl rfl,by lia,.val,ks,true,_,some (false,_),c,f,g,d6,.inr ⟨by lia,rfl⟩,q,by rw[I];exact a8b b (Nat.mul_le_mul_left _ p),rfl⟩
  ·rintro τ ⟨n,md,ls,A,B,C,c,f,g,d6,o,a,p,rfl⟩;rw[cK]at o a p n;obtain⟨_,rfl⟩:0 < m.toNat/\md=.val:=by
    rcases o with⟨h,_⟩ | h;lia;exact h
   walk_at "dx";exact k ls (λl s=>⟨(a l s).1,a8b (a l s).2 n⟩) (a8b p (a8b (Nat.pow_le_pow_right (by decide) n) (by decide)))
 obtain⟨x,e,ls,v,w,M,N⟩:=y (λr as'=>∃ ls:List (List Str),(∀ l∈ls,Rw cs 5 l)/\ls.length<=7776/\r=.val (.lst (ls.map tS))/\as'=[⟨.val,tS cs⟩,⟨.val,.int m⟩]) λls v w=>⟨ls,v,w,rfl,rfl⟩;exact⟨ls,v,w,by rw[e];exact a4F some (Prod.ext M N)⟩
def dN4{run:Dv.Run}{as as':List Sl}{r:Res}{K:Res->List Sl->Prop}(e:run as=some (r,as')):CK run as K=K r as':=by
 unfold CK;rw[e,cA]
def cI1{cs:List Str}(cl:cs.length<=5){K:Res->List Sl->Prop}(k:∀ (ls:List (List Str)) res,(∀ l∈ls,Rw cs 5 l)->ls.length<=625->(res=.val (.lst (ls.map tS))\/res=.own (.lst (ls.map tS)))->K res [⟨.val,tS cs⟩]):CK dW [⟨.val,tS cs⟩] K:=by
 have sl:1000000<=sizeLine:=by decide
 unfold dW;rw[dA];show RS eK [_,none,none,none,none,none] _;unfold eK;walk_at "dx";rw[zZ _ (by decide),nK _ (by decide)];refine⟨by decide,?_⟩;show OK1 (cF3 _ _ ((cs.drop 1).map D.str) _) _;refine fS (λi τ=>i<=4/\∃ (v:Md) (ls:List (List Str)) (x:Bool) (y:D) (A:Option (Bool×D)) (e:Bool) (f:D),(v=.own\/v=.val)/\(∀ l∈ls,Rw cs (i+1) l)/\ls.length<=5 ^ i/\τ=[some ⟨.val,tS cs⟩,some ⟨v,.lst (ls.map tS)⟩,ov x y,fo A,ov e f,none]) ⟨by lia,.own,[cs.take 1],false,.non,none,false,.non,.inl rfl,λl o=>by rw[a3a.mp o];exact⟨λz a=>a9d a,by rw[a0d];lia⟩,a9a _,rfl⟩ ?_ ?_
 ·rintro i d τ hd ⟨p,v,ls,x,y,A,e,f,q,b,g,rfl⟩;obtain⟨c,G,rfl⟩:=fT hd;have hi:=(a2a.mp G).1;rw[a8e]at hi;have B:c∈cs:=List.mem_of_mem_drop (a6b G);have C:i<=3:=by lia
  have M:5 ^ i<=125:=a8b (Nat.pow_le_pow_right (by decide) C) (by decide);have J:5 ^ (i+1)=5*5 ^ i:=by rw[Nat.pow_succ,Nat.mul_comm]
  rcases q with rfl | rfl
  all_goals
   walk_at "dx";refine⟨a7c _,fS (λj τ=>∃ (ks:List (List Str)) (e:Bool) (f:D),(∀ l∈ks,Rw cs (i+2) l)/\ks.length<=5*j/\j<=ls.length/\τ=[_,_,_,some ⟨.own,.lst (ks.map tS)⟩,ov e f,none]) ⟨[],e,f,(λ_ h=>nomatch h),a9a _,a7c _,rfl⟩ ?_ ?_⟩
   ·rintro j d τ hd ⟨ks,e,f,s,u,H,rfl⟩;obtain⟨l,o,rfl⟩:=fT hd;have L:=(a2a.mp o).1;obtain⟨I,N⟩:=b l (a6b o);walk_at "dy";refine⟨by rw[a0a];lia,by rw[cK,a0a];lia,?_⟩;rw[a0a,show((l.length:Int)+1-1).toNat=l.length by lia];refine fH (λt:Nat=>tS (l.take (1+t)++[c]++l.drop (1+t))) (λt:Nat=>.int (1+(t:Int))) (List.range l.length) [_,_,_,_,_,none] rfl (λt E=>?_) ?_;have F:=a7d.mp E;walk_at "dx";rw[zZ _ (by lia),nK _ (by lia),show(1+(t:Int)).toNat=1+t by lia];refine⟨by decide,by rw[a0a,a0d];lia,by rw[a5a,a0a,a0a,a0d,a8e,List.length_singleton];lia,?_⟩;show Res.val (.tup _)=.val (.tup ((l.take (1+t)++[c]++l.drop (1+t)).map D.str));rw[a4b,a4b];rfl;walk_at "dx";refine⟨by rw[a0a,a0a,a5f];lia,_,.inl rfl,ks++(List.range l.length).map (λt=>l.take (1+t)++[c]++l.drop (1+t)),true,_,λr w=>?_,by rw[a5a,a0a,a5f];lia,by lia,by rw[a4b,List.map_map];rfl⟩;rcases a8a.mp w with w | w;exact s r w;obtain⟨t,E,rfl⟩:=a9b.mp w;have F:=a7d.mp E;refine⟨λz a=>?_,by rw[a5a,a5a,a0d,a8e,List.length_singleton];lia⟩;rcases a8a.mp a with a | a;rcases a8a.mp a with a | a;exact I z (a9d a);rw[a3a.mp a];exact B;exact I z (List.mem_of_mem_drop a)
   ·rintro τ ⟨ks,e,f,s,u,H,rfl⟩;rw[a0a]at u H;walk_at "dx";refine⟨_,.inl rfl,by lia,.val,ks,true,_,some (false,_),e,f,.inr rfl,s,by rw[J];exact a8b u (Nat.mul_le_mul_left _ g),rfl⟩
 ·rintro τ ⟨p,v,ls,x,y,A,e,f,q,b,g,rfl⟩;rw[a0a]at b g p;have m:∀ l∈ls,Rw cs 5 l:=λl o=>⟨(b l o).1,a8b (b l o).2 (by lia)⟩;have n:ls.length<=625:=a8b g (a8b (Nat.pow_le_pow_right (by decide) p) (by decide));rcases q with rfl | rfl;walk_at "dx";exact k ls _ m n (.inr rfl);walk_at "dx";exact k ls _ m n (.inl rfl)
def cI2{b:Bool}{K:Res->List Sl->Prop}(k:K (.val (.bl true)) [⟨.val,.bl b⟩,⟨.val,.bl b⟩]):CK fP [⟨.val,.bl b⟩,⟨.val,.bl b⟩] K:=by
 unfold fP;rw[dA];show RS iW [_,_] _;unfold iW;walk_at "dx";have e:eqD false (.bl b) (.bl b)=some (.val (.bl true)):=by cases b<;>rfl
 rw[a4y (by decide),e];exact k
def dB6{i n:Nat}{C:MC}{d:DA}{σ:Sg}{Q:Out->Prop}:aQ0 i n C d σ Q=RA d σ λrs a=>AK a rs λas=>(as.length=n/\fB rs=true)/\C as λy as'=>BK rs as' a λb=>PtK i y b λc=>Q (.nx c):=by
 unfold aQ0 RA AK BK PtK;congr 1;funext x;congr 1;funext as;apply propext;constructor;rintro⟨h,q⟩;simp only[cE6 h.2]at q;exact⟨h,q⟩;rintro⟨h,q⟩;simp only[← cE6 h.2]at q;exact⟨h,q⟩
theorem dT4{α:Type}:∀ l:List α,PyData.canLayAll0 (toPys (l.map λ_=>D.bl false))=true
 | []=>rfl
 | _::r=>by
   show(_&&PyData.canLayAll0 (toPys (r.map λ_=>D.bl false)))=true;rw[dT4 r];rfl
def aS8{α:Type}{neg:Bool}(l:List α){K:Res->Prop}(k:K (.val (.bl neg))):OK1 (inD neg (.bl true) (.lst (l.map λ_=>.bl false))) K:=by
 have b:jR (.bl true)=true:=rfl;have c:jR (.lst (l.map λ_=>D.bl false))=true:=by
  have dp:(nN (.lst (l.map λ_=>D.bl false))).depth<=60:=by
   have:PyData.depthAll (toPys (l.map λ_=>D.bl false))<=0:=aJ6 λd hd=>by
    obtain⟨_,_,rfl⟩:=a9b.mp hd;exact a9a 0
   exact a8b (Nat.succ_le_succ this) (by decide)
  unfold jR;rw[show(nN (.lst (l.map λ_=>D.bl false))).canLay0=true from dT4 l,a4C dp];rfl
 have e:inD neg (.bl true) (.lst (l.map λ_=>D.bl false))=if jR (.bl true)=true/\jR (.lst (l.map λ_=>D.bl false))=true then some (.val (.bl (if neg then !((l.map λ_=>D.bl false).any λy=>tL y (.bl true))else(l.map λ_=>D.bl false).any λy=>tL y (.bl true))))else none:=rfl
 have a:((l.map λ_=>D.bl false).any λy=>tL y (.bl true))=false:=by
  rw[List.any_eq_false];intro d hd;obtain⟨_,_,rfl⟩:=a9b.mp hd;show ¬ (false=true);decide
 rw[e,a4y ⟨b,c⟩,a];cases neg<;>exact k
def aS9{qs:List (Str×List Str)}(a:nL qs)(cs:List Str):isR qs cs=false:=by
 cases h:isR qs cs with
 | false=>rfl
 | true=>
   obtain⟨b,d⟩:=bZ2 h;exact absurd (a.sub λc e=>fJ.mpr (d c e)) b
def bL6{qs:List (Str×List Str)}{a b:Int}(h:Qw qs)(p:nL qs){K:Res->List Sl->Prop}(k:∀ m o,K (.val (.bl true)) [⟨.par,.lst [.int m,.int o]⟩,⟨.val,qD qs⟩]):CK eL [⟨.par,.lst [.int a,.int b]⟩,⟨.val,qD qs⟩] K:=by
 have sl:1000000<=sizeLine:=by decide
 have B:=aJ8 h.qn;have I:=h.cn.2;have l6:=h.l6;unfold eL;rw[dA];show RS gD [_,_,none,none,none,none,none] _;unfold gD;walk_at "dx";refine aB8 h.qn ?_;walk_at "dx";rw[a0a];obtain⟨n,J,R⟩:∃ n:Int,(if((cM qs).length:Int)+1 < 6 then((cM qs).length:Int)+1 else 6)=n/\(0<=n/\n<=6):=⟨_,rfl,by split<;>lia⟩;rw[J];refine⟨⟨by lia,by lia⟩,?_⟩;have q:∀ l:List Str,Rw (cM qs) 5 l->∀ {K:Res->List Sl->Prop},K (.val (.bl false)) [⟨.val,qD qs⟩,⟨.val,tS l⟩]->CK cT [⟨.val,qD qs⟩,⟨.val,tS l⟩] K:=λl v {K} k=>by
  refine nQ h.qn (by lia) (λz f=>B z (v.1 z f)) (a8b v.2 (by decide)) ?_;rw[aS9 p];exact k
 refine fS (λi τ=>∃ w x c e,τ=[some ⟨.par,.lst [.int a,.int b]⟩,some ⟨.val,qD qs⟩,some ⟨.val,tS (cM qs)⟩,ov w x,ov c e,none,none]) ⟨false,.non,false,.non,rfl⟩ ?_ ?_
 ·rintro i d τ hd ⟨w,x,c,e,rfl⟩;obtain⟨hi,rfl⟩:=jV hd;walk_at "dx";have C:=@bL5 (cM qs) (3+(i:Int)) (by lia) (by lia) B I;have g:=Classical.choose_spec C;generalize Classical.choose C=ls at g;have E:=g.1;have L:=g.2.1;rw[dN4 g.2.2];clear g C;walk_at "dx";refine fS (λj τ=>∃ c e,τ=[some ⟨.par,.lst [.int a,.int b]⟩,some ⟨.val,qD qs⟩,some ⟨.val,tS (cM qs)⟩,some ⟨.val,.int (3+(i:Int))⟩,ov c e,none,none]) ⟨c,e,rfl⟩ ?_ ?_
  ·rintro j d τ hd ⟨c,e,rfl⟩;obtain⟨l,v,rfl⟩:=fT hd;have s:=E l (a6b v);walk_at "dx";refine cI1 s.2 λrs res t M u=>?_;have F:∀ r∈rs,Rw (cM qs) 5 r:=λr A=>⟨λz f=>s.1 z ((t r A).1 z f),(t r A).2⟩;rcases u with rfl | rfl
   all_goals
    walk_at "dx";refine⟨by rw[a0a];lia,fH (λ_=>.bl false) tS rs [_,_,_,_,_,none,none] rfl (λr A=>?_) ?_⟩;walk_at "dx";refine q r (F r A) ?_;walk_at "dx";walk_at "dx";refine aS8 rs ?_;walk_at "dx";exact⟨_,.inl rfl,true,_,rfl⟩
  ·rintro τ ⟨c,e,rfl⟩;exact⟨_,.inl rfl,true,_,c,e,rfl⟩
 ·rintro τ ⟨w,x,c,e,rfl⟩;walk_at "dx";refine⟨by rw[cK];lia,iQ _ _ (λj acc τ=>∃ m o,acc=(List.range j).map (λ_=>.bl false)/\τ=[some ⟨.par,.lst [.int m,.int o]⟩,some ⟨.val,qD qs⟩,some ⟨.val,tS (cM qs)⟩,ov w x,ov c e,none,none]) ⟨a,b,rfl,rfl⟩ ?_ ?_⟩
  ·rintro j d acc τ hd ⟨m,o,rfl,rfl⟩;obtain⟨S,rfl⟩:=jV hd;walk_at "dx";refine nH (xs:=(cM qs).map D.str) (.inr (.inr ⟨rfl,rfl⟩)) (by rw[a0a];lia) λys N O H=>?_;obtain⟨l,rfl,G⟩:=aK1 (P:=λz=>z∈cM qs) (ys:=ys) λy g=>by
    obtain⟨z,f,rfl⟩:=a9b.mp (H.mem_iff.mp g);exact⟨z,f,rfl⟩
   have Q:=H.length_eq;rw[a0a,a0a]at Q;walk_at "dx";refine nQ h.qn (by lia) (λz f=>B z (G z f)) (by lia) ?_;rw[aS9 p];walk_at "dx";exact⟨_,rfl,N,O,by rw[List.range_succ,a4b];rfl,rfl⟩
  ·rintro acc τ ⟨m,o,rfl,rfl⟩;walk_at "dx";refine aS8 _ ?_;walk_at "dx";exact k m o
def aA0{aL:List (Str×List Str)}(hn:(aL.map Prod.fst).Nodup)(b:2<=aL.length){z:Str}(a:∃ q∈aL,q.1=z){h:Str}:(z,some h)∈ears aL↔h∈gM aL z:=by
 have:=dA3 hn (z,some h);rw[← decide_eq_true_iff (p:=(z,some h)∈ears aL),this];unfold cH4;rw[aJ9.mpr a,a4B (by lia:¬ aL.length=1),a4C (by lia:1 < aL.length)];simp
def cI3{aL:List (Str×List Str)}(hn:(aL.map Prod.fst).Nodup)(c:2<=aL.length)(h:∀ q∈aL,gM aL q.1=[]):ears aL=[]:=by
 refine List.eq_nil_iff_forall_not_mem.mpr λp g=>?_;obtain⟨q,b,e,d⟩:=jW.mp g;have a:=d;unfold aR9 at a;rw[a4z (dB2 hn c b)]at a;obtain⟨f,_,i⟩:=a9b.mp a;have:(q.1,some f.1)∈ears aL:=jW.mpr ⟨q,b,rfl,by rw[i];exact d⟩;have:=(aA0 hn c ⟨q,b,rfl⟩).mp this;rw[h q b]at this;cases this
structure StQ(qs aL:List (Str×List Str))(found:List (Str×Option Str)):Prop where
 l1:1<=aL.length
 ln:found.length+aL.length=qs.length
 q:Qn aL
 nd:(aL.map Prod.fst).Nodup
 cv:Cov aL (cM qs)
 eg:∀ p∈found,Eg p
 or:((∀ t,lX qs (found++t)=lX aL t)/\(nL qs↔Acy (edg aL) (cM qs)))\/((∀ t,lX qs (found++t)=false)/\¬ nL qs)
def StQ.step{qs aL:List (Str×List Str)}{found:List (Str×Option Str)}(s:StQ qs aL found)(f:2<=aL.length){z h:Str}(g:∃ q∈aL,q.1=z)(i:Tx h)(ok:(z,some h)∈ears aL\/ears aL=[]):StQ qs (wo aL z) (found++[(z,some h)]):=by
 have l:=nJ s.nd g;have j:Tx z:=by obtain⟨q,k,rfl⟩:=g;exact(s.q.2 q k).1
 refine⟨by lia,by rw[a5a,List.length_singleton];have:=s.ln;lia,s.q.wo _,bZ5 s.nd _,s.cv.wo _,λp b=>?_,?_⟩;rcases a8a.mp b with b | b;exact s.eg p b;rw[a3a.mp b];exact⟨j,λx e=>by cases e;exact i⟩;rcases s.or with⟨c,d⟩ | ⟨c,d⟩;rcases ok with ok | ok;refine .inl ⟨λt=>?_,d.trans (aZ9 s.nd f ok)⟩;rw[List.append_assoc,c];show(decide ((z,some h)∈ears aL)&&lX (wo aL z) t)=_;rw[a4C ok,Bool.true_and];refine .inr ⟨λt=>?_,λa=>bZ6 s.nd f s.cv (d.mp a) ok⟩;rw[List.append_assoc,c];show(decide ((z,some h)∈ears aL)&&lX (wo aL z) t)=_;rw[a4B (by rw[ok];exact List.not_mem_nil),Bool.false_and];exact .inr ⟨λt=>by rw[List.append_assoc];exact c _,d⟩
def StQ.fin{qs:List (Str×List Str)}{q:Str×List Str}{found:List (Str×Option Str)}(s:StQ qs [q] found):(lX qs (found++[(q.1,none)])=true↔nL qs)/\∀ p∈found++[(q.1,none)],Eg p:=by
 constructor
 ·rcases s.or with⟨c,d⟩ | ⟨c,d⟩
  ·rw[c,d];refine⟨λ_=>bZ7 _ _,λ_=>?_⟩;have:wo [q] q.1=[]:=List.filter_eq_nil_iff.mpr λx f=>by rw[a3a.mp f];simp
   unfold lX;rw[bF9,a4C (a3a.mpr rfl),this];rfl
  ·rw[c];exact⟨(λz=>nomatch z),λa=>absurd a d⟩
 ·intro p b;rcases a8a.mp b with b | b;exact s.eg p b;rw[a3a.mp b];exact⟨(s.q.2 q (by simp)).1,λx e=>nomatch e⟩
noncomputable def cI4:DS:=(bL (cG 5 (aX ixD (aH 4) (aV 2 aI (aC (aH 0) (aC (dCB mD (aC (aH 4) aP)) aP)))))
 (bL (cG 6 (aX iC (aV 2 bT (aC (aH 2) (aC (aH 5) aP))) (cE [9,7] (dIt (aH 2)) (iF 2 (bJ (dgN 9) (bJ (dgN 7) iA))) (dX (aX (eqD true) (aH 9) (aH 5))) (dFz (aH 9)))))
 (bL (iM (lM "list" 3 aN8 (aC (qY (aC (dFz (aH 5)) (aC (aX ixD (aH 6) (dC (.int 0))) aP))) aP)))
 (cG 2 (cE [8] (dIt (aH 2)) (dgN 8) (dX (aX (eqD true) (aX ixD (aH 8) (dC (.int 0))) (aH 5))) (dFz (aH 8)))))))
noncomputable abbrev stS(a b:Int)(qs aL:List (Str×List Str))(found:List (Str×Option Str))(c d e:Option Sl):Sg:=[some ⟨.par,.lst [.int a,.int b]⟩,some ⟨.val,qD qs⟩,some ⟨.own,.lst (aL.map qP)⟩,some ⟨.own,.lst (found.map eD)⟩,c,d,e,none,none,none]
def eA2{a b:Int}{qs aL:List (Str×List Str)}{found:List (Str×Option Str)}{S:List Str}{x5:Bool}{d5:D}{B:Option (Bool×D)}(s:StQ qs aL found)(T:qs.length<=6)(u:2<=aL.length)(C:S≠[])(E:S.length<=6)(j:∀ z∈S,(∃ q∈aL,q.1=z)/\(gM aL z≠[]\/ears aL=[])){Q:Out->Prop}
  (k:∀ F G z h d6,StQ qs (wo aL z) (found++[(z,some h)])->(wo aL z).length < aL.length->Q (.nx (stS F G qs (wo aL z) (found++[(z,some h)]) (some ⟨.own,.lst (S.map D.str)⟩) (some ⟨.val,.str z⟩) (some ⟨.own,d6⟩)))):RS cI4 (stS a b qs aL found (some ⟨.own,.lst (S.map D.str)⟩) (ov x5 d5) (fo B)) Q:=by
 have sl:10000<=sizeLine:=by decide
 have H:=List.length_pos_iff.mpr C;have g:=s.q;have hn:=s.nd;have I:=s.ln;have U:(S.map D.str).length=S.length:=a0a _;unfold cI4 stS;walk_at "dx";refine dJ (by lia) (by lia) λd J K L V=>?_;obtain⟨z,M,hm⟩:=bF3 D.str (l:=S) (i:=d) L (by lia);obtain⟨f,n⟩:=j z hm;have v:Tx z:=by obtain⟨q,N,rfl⟩:=f;exact(g.2 q N).1
 have O:=nJ hn f;walk_at "dx";rw[M];walk_at "dx";refine pT (.inl ⟨rfl,rfl⟩) g hn f ?_;walk_at "dx";have W:=aS0 (aL:=aL) (z:=z);refine⟨by rw[a0a];lia,bC (λq:Str×List Str=>!decide (q.1=z)) (λq=>.str q.1) qP aL [_,_,some ⟨.lent,.lst (aL.map qP)⟩,_,_,_,_,none,none,none] rfl (λq h=>?_) ?_⟩;walk_at "dx";refine oC (g.2 q h).1.2 v.2 ?_;walk_at "dx";walk_at "dx";obtain⟨ks,w,c⟩:∃ ks:List Str,(gM aL z).map D.str++(aL.filter λq=>!decide (q.1=z)).map (λq=>D.str q.1)=ks.map D.str/\ks=gM aL z++(wo aL z).map Prod.fst:=⟨_,by rw[a4b,List.map_map];rfl,rfl⟩;rw[w];obtain⟨h,r,o⟩:∃ h r,ks=h::r:=by
  cases e:ks with
  | nil=>
    rw[e]at c;have:=a4F List.length c;rw[a5a,a0a,a2g]at this;lia
  | cons h r=>exact⟨h,r,rfl⟩
 have p:Tx h:=by
  have:h∈gM aL z++(wo aL z).map Prod.fst:=by rw[← c,o];exact a4a
  rcases a8a.mp this with m | m;exact aK0 g h m;obtain⟨q,P,rfl⟩:=a9b.mp m;exact(g.2 q (nI P).1).1
 have hok:(z,some h)∈ears aL\/ears aL=[]:=by
  rcases n with e | e
  ·refine .inl ?_;rw[aA0 hn u f];cases A:gM aL z with
   | nil=>exact absurd A e
   | cons x y=>
     rw[A,o]at c;injection c with R _
     rw[R];exact a4a
  ·exact .inr e
 refine⟨by rw[← a5a,w,a0a,c,a5a,a0a];lia,aB7 (x:=.str h) (by rw[o,a7e];exact dY1) ⟨sl2,by rw[a0a];lia,by rw[a0a];lia,bC (λq:Str×List Str=>!decide (q.1=z)) qP qP aL [_,_,some ⟨.lent,.lst (aL.map qP)⟩,_,_,_,_,none,none,none] rfl (λq t=>?_) ?_⟩⟩;walk_at "dx";refine oC (g.2 q t).1.2 v.2 ?_;walk_at "dx";walk_at "dx";have:=k J K z h (.lst (ks.map D.str)) (s.step u f p hok) (by lia);unfold stS at this;rw[show(found++[(z,some h)]).map eD=found.map eD++[D.tup [.str z,.str h]] by rw[a4b];rfl]at this;exact this
def cI5{a b:Int}{qs:List (Str×List Str)}(h:Qw qs){K:Res->List Sl->Prop}(k:∀ (es:List (Str×Option Str)) v w,(lX qs es=true↔nL qs)->(∀ p∈es,Eg p)->K (.own (.lst (es.map eD))) [⟨.par,.lst [.int v,.int w]⟩,⟨.val,qD qs⟩]):CK fO [⟨.par,.lst [.int a,.int b]⟩,⟨.val,qD qs⟩] K:=by
 have sl:10000<=sizeLine:=by decide
 have J:=h.l6;have L:=h.l1;unfold fO;rw[dA];show RS iV [_,_,none,none,none,none,none,none,none,none] _;rw[show iV=(bL (cG 2 (dCB aH7 (aC (aH 1) aP)))
 (bL (cG 3 (kI aP))
 (bL (uA (dX (aX gtI (dCB mD (aC (aH 2) aP)) (dC (.int 1))))
 (bL (cG 4 (cE [5,7] (dIt (aH 2)) (iF 2 (bJ (dgN 5) (bJ (dgN 7) iA))) (dX (aX (eqD true) (aV 2 bT (aC (aH 2) (aC (aH 5) aP))) (kI aP))) (dFz (aH 5))))
 (bL (mB (dX (aX (eqD false) (aH 4) (kI aP))) (cG 4 (cE [5,7] (dIt (aH 2)) (iF 2 (bJ (dgN 5) (bJ (dgN 7) iA))) iB (dFz (aH 5)))) fM)
 cI4)))
 (gQ (aX iC (aH 3) (kI (aC (qY (aC (aX ixD (aX ixD (aH 2) (dC (.int 0))) (dC (.int 0))) (aC (dC .non) aP))) aP)))))))from rfl]
 walk_at "dx";refine⟨a7c _,?_⟩;refine rM (λm τ=>∃ aL found v w G g i A,m=aL.length/\StQ qs aL found/\τ=stS v w qs aL found (fo G) (ov g i) (fo A)) qs.length (by lia) ⟨qs,[],a,b,none,false,.non,none,rfl,⟨L,by simp,h.qn,h.nd,bG1 qs,(λ_ h=>nomatch h),.inl ⟨λt=>rfl,Iff.rfl⟩⟩,rfl⟩ ?_;rintro m τ ⟨aL,found,v,w,G,g,i,A,rfl,s,rfl⟩;have M:=s.ln;have H:=s.q;unfold stS;walk_at "dx";rw[a0a];by_cases E:2<=aL.length
 ·rw[a4y (by lia)];have N:=λz=>aS0 (aL:=aL) (z:=z);have B:∀ S:List Str,S≠[]->S.length<=6->(∀ z∈S,(∃ q∈aL,q.1=z)/\(gM aL z≠[]\/ears aL=[]))->∀ {Q:Out->Prop},(∀ o u d c g i d6,StQ qs d c->d.length < aL.length->Q (.nx (stS o u qs d c (some ⟨.own,.lst (S.map D.str)⟩) (ov g i) (some ⟨.own,d6⟩))))->RS cI4 (stS v w qs aL found (some ⟨.own,.lst (S.map D.str)⟩) (ov g i) (fo A)) Q:=λS j O hm {Q} k=>eA2 s J E j O hm λo u z h d6 s2 C=>k o u _ _ true (.str z) d6 s2 C;refine⟨by lia,bC (λq:Str×List Str=>!(gM aL q.1).isEmpty) (λq=>.str q.1) qP aL [_,_,some ⟨.lent,.lst (aL.map qP)⟩,_,fo G,none,fo A,none,none,none] rfl (λq l=>?_) ?_⟩;walk_at "dx";refine pT (.inr (.inl ⟨rfl,rfl⟩)) H s.nd ⟨q,l,rfl⟩ ?_;walk_at "dx";refine⟨a7c _,aE4 (n:=0) (oks λz f=>(aK0 H z f).2) (by decide) ?_⟩;walk_at "dx";cases gM aL q.1<;>rfl;walk_at "dx";have P:(aL.filter λq=>!(gM aL q.1).isEmpty).map (λq=>D.str q.1)=((aL.filter λq=>!(gM aL q.1).isEmpty).map Prod.fst).map D.str:=by rw[List.map_map];rfl
  have R:aL.map (λq=>D.str q.1)=(aL.map Prod.fst).map D.str:=by rw[List.map_map];rfl
  have T:((aL.filter λq=>!(gM aL q.1).isEmpty).map Prod.fst).length<=aL.length:=by rw[a0a];exact List.length_filter_le _ _
  have F:∀ z∈(aL.filter λq=>!(gM aL q.1).isEmpty).map Prod.fst,(∃ q∈aL,q.1=z)/\gM aL z≠[]:=λz f=>by
   obtain⟨q,j,rfl⟩:=a9b.mp f;obtain⟨j,I⟩:=List.mem_filter.mp j;exact⟨⟨q,j,rfl⟩,λe=>by rw[e]at I;cases I⟩
  rw[P];generalize U:(aL.filter λq=>!(gM aL q.1).isEmpty).map Prod.fst=S at T F;refine⟨a7c _,aE4 (n:=0) (oks λz f=>by obtain⟨⟨q,j,e⟩,_⟩:=F z f;rw[← e];exact(H.2 q j).1.2) (by decide) ?_⟩;walk_at "dx";cases S with
  | nil=>
    have V:ears aL=[]:=cI3 s.nd E λq l=>by
     cases e:gM aL q.1 with
     | nil=>rfl
     | cons x y=>
       have:q.1∈(aL.filter λq=>!(gM aL q.1).isEmpty).map Prod.fst:=a9b.mpr ⟨q,List.mem_filter.mpr ⟨l,by rw[e];rfl⟩,rfl⟩;rw[U]at this;cases this
    rw[a4y (show(List.map D.str []).isEmpty=true from rfl)];refine⟨by rw[a0a];lia,fH (λq=>.str q.1) qP aL [_,_,some ⟨.lent,.lst (aL.map qP)⟩,_,_,none,fo A,none,none,none] rfl (λq l=>?_) ?_⟩;walk_at "dx";rw[R];walk_at "dx";refine B (aL.map Prod.fst) (λe=>?_) (by rw[a0a];lia) (λz f=>?_) λo u d c g i d6 s2 C=>?_;rw[List.map_eq_nil_iff.mp e]at E;exact absurd E (by decide);obtain⟨q,j,rfl⟩:=a9b.mp f;exact⟨⟨q,j,rfl⟩,.inr V⟩;exact .inl ⟨_,_,.inl rfl,C,d,c,o,u,some (true,.lst ((aL.map Prod.fst).map D.str)),g,i,some (true,d6),rfl,s2,rfl⟩
  | cons z r=>
    rw[a4z (λz=>nomatch z)];refine B (z::r) (λe=>nomatch e) (by lia) (λz f=>⟨(F z f).1,.inl (F z f).2⟩) λo u d c g i d6 s2 C=>?_;exact .inl ⟨_,_,.inl rfl,C,d,c,o,u,some (true,.lst ((z::r).map D.str)),g,i,some (true,d6),rfl,s2,rfl⟩
 ·rw[a4z (by lia)];obtain⟨q,rfl⟩:=List.length_eq_one_iff.mp (by have:=s.l1;lia:aL.length=1);obtain⟨W,X⟩:=s.fin;refine aB7 (x:=qP q) rfl ?_;have:=k (found++[(q.1,none)]) v w W X;have e:(found++[(q.1,none)]).map eD=found.map eD++[D.tup [.str q.1,.non]]:=by rw[a4b];rfl
  rw[e]at this;walk_at "dx";exact⟨sl2,a8b (by decide) sl2,by rw[a0a];lia,this⟩
end Mr
namespace Hy
section
variable{α:Type}{E E':List (List α)}{S S':List α}
theorem El.same(h:∀ e∈E,∃ a∈E',∀ x,x∈e↔x∈a)(h':∀ a∈E',∃ e∈E,∀ x,x∈a↔x∈e):∀ {l:List α},El E l->El E' l
 | [],_=>True.intro
 | v::b,⟨⟨t,j,q⟩,r⟩=>by
   obtain⟨k,c,m⟩:=h t j;refine⟨⟨k,c,λg n o x p d=>?_⟩,r.same h h'⟩;obtain⟨f,s,i⟩:=h' g n;exact(m x).mp (q f s ((i v).mp o) x p ((i x).mp d))
theorem Acy.same(h:∀ e∈E,∃ b∈E',∀ x,x∈e↔x∈b)(h':∀ b∈E',∃ e∈E,∀ x,x∈b↔x∈e)(a:Acy E S):Acy E' S:=by
 obtain⟨l,m,q⟩:=a;exact⟨l,m,q.same h h'⟩
open Classical in
def Acy.wide(d:E≠[])(f:∀ e∈E,∀ x∈e,x∈S')(a:Acy E S'):Acy E S:=by
 obtain⟨l,m,q⟩:=a.sub (S':=S.filter λx=>decide (x∈S')) λx b=>by simpa using(List.mem_filter.mp b).2
 obtain⟨e,h⟩:=List.exists_mem_of_ne_nil _ d;refine⟨(S.filter λx=>!decide (x∈S'))++l,λx=>?_,El.pre h q λv i g j c=>?_⟩;rw[a8a,m,List.mem_filter,List.mem_filter];by_cases b:x∈S'<;>simp[b];have:=(List.mem_filter.mp i).2;simp[f g j v c]at this
end
end Hy
namespace Mr
open PySem L2 Dv Sx Hy
local macro_rules | `(tactic| walk_at "dx")=>do
 let l:=("aR7 bE8 mX bD6 bE6 cG2 aJ0 zS aR6 aR1 aR0 aR2 aR3 aE6 rV cW5 uG uH uI uJ uK uL uM uN uO uP uQ uR uT uU uV uW uX aW1 uY mW oG uZ vA oH oJ oK vB vC aW2 vD vE aW3 vF vG vH vI vJ vK oM oN vL vM vN vO vP oO vQ oP vR vS vT vU vV zG vW vX vY oQ oR vZ wA wB wC wD wE wF wG wH wI aW4 oS lR oU wJ wK oV wX wY wZ xA xB xC xE xF xG pR aW5 xH pE pF lV jL zF nD pQ pO xJ pG pH pI xK xL xM xN xO aW6 aW7 aW8 aW9 xP xQ xR pJ pK xS pL xT xU pM lT xV pN aO2 xW xX xY xZ aX0 yA cX2 yB yC mX cA yD yE yF yG wL wM wN wO wP wQ wR wS wT oW oX oY oZ wU wV wW reduceIte".splitOn " ").toArray.map fun s=>Lean.mkIdent s.toName
 let m:=("aR4 aR5 bX8 yH yI yJ aO3 aX1 Int.reducePow Int.reduceNeg Int.reduceLT Int.reduceLE Nat.reducePow Nat.reduceLT Int.reduceToNat Nat.reduceLeDiff yM dQ0 dQ1 dQ2 dQ3 dQ4 dQ5 dQ6 dQ7 dQ8 dQ9 dR0 dR1 yK aX2 yL pA pB pC pD bK8 List.getElem?_cons_succ List.getElem?_cons_zero Option.getD_some List.set_cons_zero List.set_cons_succ fB bD1 List.length_cons List.length_nil Nat.reduceAdd Nat.zero_add true_and and_true and_self Bool.not_false Bool.not_true Bool.false_eq_true Bool.true_and Bool.and_true Bool.or_false decide_eq_true_eq".splitOn " ").toArray.map fun s=>Lean.mkIdent s.toName
 `(tactic| simp only[$[↓$l:ident],*,$[$m:ident],*])
def bG2{α i:Type}(f:α->i){ys m:List i}(h:ys.Perm m):∀ {l:List α},m=l.map f->∃ l':List α,ys=l'.map f/\l'.Perm l:=by
 induction h with
 | nil=>intro l e;exact⟨[],rfl,by rw[List.map_eq_nil_iff.mp e.symm]⟩
 | cons x _ j=>
   intro l e;obtain⟨a,r,rfl,rfl,c⟩:=List.map_eq_cons_iff.mp e.symm;obtain⟨l',rfl,p⟩:=j c.symm;exact⟨a::l',rfl,p.cons a⟩
 | swap x y _=>
   intro l e;obtain⟨a,r,rfl,rfl,c⟩:=List.map_eq_cons_iff.mp e.symm;obtain⟨b,s,rfl,rfl,rfl⟩:=List.map_eq_cons_iff.mp c;exact⟨b::a::s,rfl,.swap _ _ _⟩
 | trans _ _ d g=>
   intro l e;obtain⟨q,c,k⟩:=g e;obtain⟨l1,n,o⟩:=d c;exact⟨l1,n,o.trans k⟩
def dT5{qs:List (Str×List Str)}(h:1<=qs.length):edg qs≠[]:=λz=>by
 have:=a4F List.length z;rw[show edg qs=qs.map Prod.snd from rfl,a0a,a2g]at this;lia
def cA4{qs os:List (Str×List Str)}(h:∀ q∈qs,∃ o∈os,∀ x,x∈q.2↔x∈o.2)(h':∀ o∈os,∃ q∈qs,∀ x,x∈o.2↔x∈q.2)(a:nL qs):nL os:=by
 have g:Acy (edg os) (cM qs):=a.same (λe d=>by
  obtain⟨q,b,rfl⟩:=cZ.mp d;obtain⟨o,c,e⟩:=h q b;exact⟨o.2,cZ.mpr ⟨o,c,rfl⟩,e⟩) λe d=>by
  obtain⟨o,c,rfl⟩:=cZ.mp d;obtain⟨q,b,e⟩:=h' o c;exact⟨q.2,cZ.mpr ⟨q,b,rfl⟩,e⟩
 exact g.sub λx f=>by
  obtain⟨o,c,f⟩:=lC f;obtain⟨q,b,e⟩:=h' o c;exact fJ.mpr ⟨q,b,(e x).mp f⟩
def cI6{qs:List (Str×List Str)}(hn:(qs.map Prod.fst).Nodup)(f:2<=qs.length){p:Str×Option Str}(d:p∈ears qs):nL (wo qs p.1)↔nL qs:=by
 obtain⟨q,g,e,_⟩:=jW.mp d;have i:=nJ hn ⟨q,g,e⟩;refine Iff.trans ⟨λa=>?_,λa=>?_⟩ (aZ9 (S:=cM qs) hn f d).symm
 ·exact a.wide (dT5 (by lia)) λe h x b=>by
   obtain⟨o,c,rfl⟩:=cZ.mp h;exact fJ.mpr ⟨o,c,b⟩
 ·exact a.sub λx b=>by
   obtain⟨o,c,b⟩:=lC b;exact fJ.mpr ⟨o,(nI c).1,b⟩
def cI7{qs:List (Str×List Str)}{z:Str}{cs:List Str}{q:Str×List Str}(j:q∈qs)(k:∀ c∈cs,c∈q.2):nL (qs++[(z,cs)])↔nL qs:=by
 have i:=bY6 (E:=edg (qs++[(z,cs)])) (E':=edg qs) (S:=cM qs) (e:=cs) (f:=q.2) (λg=>by
  rw[cZ,cZ];constructor;rintro⟨o,d,rfl⟩;rcases a8a.mp d with h | h;exact .inr ⟨o,h,rfl⟩;rw[a3a.mp h];exact .inl rfl;rintro(rfl | ⟨o,d,rfl⟩);exact⟨(z,g),by simp,rfl⟩;exact⟨o,a2d _ d,rfl⟩) (cZ.mpr ⟨q,j,rfl⟩) λx b _=>k x b
 have m:∀ x,x∈cM (qs++[(z,cs)])↔x∈cM qs:=λx=>by
  rw[fJ,fJ];constructor;rintro⟨o,d,b⟩;rcases a8a.mp d with h | h;exact⟨o,h,b⟩;rw[a3a.mp h]at b;exact⟨q,j,k x b⟩;rintro⟨o,d,b⟩;exact⟨o,a2d _ d,b⟩
 refine Iff.trans ⟨λa=>a.sub λx b=>(m x).mpr b,λa=>a.sub λx b=>(m x).mp b⟩ i
def dB7{qs:List (Str×List Str)}{a:List Str}(b:Qn qs)(c:∀ z∈a,As z){K:Res->List Sl->Prop}(k:K (.val (qD (qs.filter λq=>decide (q.1∈a)))) [⟨.val,qD qs⟩,⟨.par,.lst (a.map D.str)⟩]):CK nO [⟨.val,qD qs⟩,⟨.par,.lst (a.map D.str)⟩] K:=by
 have sl:1000<=sizeLine:=by decide
 have d:=b.1;unfold nO;rw[dA];show RS zL [_,_,none] _;unfold zL;walk_at "dx";refine⟨by rw[a0a];lia,bC (λq=>decide (q.1∈a)) qP qP qs [_,_,none] rfl (λq h=>?_) ?_⟩;walk_at "dx";refine aZ2 (b.2 q h).1.2 c ?_;walk_at "dx";walk_at "dx";exact k
end Mr
namespace Mr
open PySem L2
def aT0(H0 H:Hp)(es:List V):Prop:=∀ e∈es,∃ (w:Addr) (ns:List Int),e=.ref w/\H w=some (.lst (ns.map V.int))/\ns.length<=5/\((∀ n∈ns,0<=n/\n < 6)/\ns.Nodup/\ns≠[])/\H0 w=none
def LoI(m:Int)(H:Hp)(e:V):Prop:=∃ (w:Addr) (ns:List Int),e=.ref w/\H w=some (.lst (ns.map V.int))/\∀ n∈ns,n < m
def LoI.mono{m:Int}{H H':Hp}{e:V}(h:LoI m H e)(k:∀ w o,e=.ref w->H w=some o->H' w=some o):LoI m H' e:=by
 obtain⟨w,ns,a,b,c⟩:=h;exact⟨w,ns,a,k w _ a b,c⟩
theorem LoI.ne{m:Int}{H:Hp}{e:V}{l:Addr}(h:LoI m H e)(c:H l=none):e≠.ref l:=λz=>by
 obtain⟨w,ns,a,b,d⟩:=h;rw[z]at a;cases a;rw[c]at b;cases b
def aA1{α:Type}{l:List α}{x:α}(h:l.Nodup)(d:x∉l):(l++[x]).Nodup:=List.nodup_append.mpr ⟨h,by simp,λa ha b c z=>d (by rw[List.mem_singleton]at c;subst c;rw[← z];exact ha)⟩
noncomputable abbrev i6:List V:=(List.range 6).map λ(i:Nat)=>V.int (i:Int)
def aA2:Sps:=λ_ vs H Q _=>∃ p q:Addr,vs=[.ref p,.ref q]/\iK H p/\H q=some (.lst i6) /\
 ∀ (r:Addr) (ns:List Int) H',H r=none->H' r=some (.lst (ns.map V.int))->ns.length<=5->((∀ n∈ns,0<=n/\n < 6)/\ns.Nodup/\ns≠[])->iK H' p->SameBut p H H'->Q (.ref r) H'
def lD:Sps:=λ_ vs H Q _=>∃ p:Addr,vs=[.ref p]/\iK H p /\
 ∀ (r:Addr) (es:List V) H',H r=none->H' r=some (.lst es)->1<=es.length->es.length<=6->aT0 H H' es->iK H' p->SameBut p H H'->Q (.ref r) H'
def aK6{H:Hp}{w s:Addr}{ns:List Int}{es:List V}(h:H w=some (.lst (ns.map V.int)))(h':H s=some (.lst es))(a:V.ref w∈es):w≠s:=λz=>by
 subst z;rw[h]at h';injection h' with h'
 injection h' with h'
 rw[← h']at a;obtain⟨n,_,e⟩:=a9b.mp a;cases e
open Dv Sx Hy
local macro_rules | `(tactic| walk_at "dx")=>do
 let l:=("aR7 bE8 mX bD6 bE6 cG2 aJ0 zS aR6 aR1 aR0 aR2 aR3 aE6 rV cW5 uG uH uI uJ uK uL uM uN uO uP uQ uR uT uU uV uW uX aW1 uY mW oG uZ vA oH oJ oK vB vC aW2 vD vE aW3 vF vG vH vI vJ vK oM oN vL vM vN vO vP oO vQ oP vR vS vT vU vV zG vW vX vY oQ oR vZ wA wB wC wD wE wF wG wH wI aW4 oS lR oU wJ wK oV wX wY wZ xA xB xC xE xF xG pR aW5 xH pE pF lV jL zF nD pQ pO xJ pG pH pI xK xL xM xN xO aW6 aW7 aW8 aW9 xP xQ xR pJ pK xS pL xT xU pM lT xV pN aO2 xW xX xY xZ aX0 yA cX2 yB yC mX cA yD yE yF yG wL wM wN wO wP wQ wR wS wT oW oX oY oZ wU wV wW reduceIte".splitOn " ").toArray.map fun s=>Lean.mkIdent s.toName
 let m:=("aR4 aR5 bX8 yH yI yJ aO3 aX1 Int.reducePow Int.reduceNeg Int.reduceLT Int.reduceLE Nat.reducePow Nat.reduceLT Int.reduceToNat Nat.reduceLeDiff yM dQ0 dQ1 dQ2 dQ3 dQ4 dQ5 dQ6 dQ7 dQ8 dQ9 dR0 dR1 yK aX2 yL pA pB pC pD bK8 List.getElem?_cons_succ List.getElem?_cons_zero Option.getD_some List.set_cons_zero List.set_cons_succ fB bD1 List.length_cons List.length_nil Nat.reduceAdd Nat.zero_add true_and and_true and_self Bool.not_false Bool.not_true Bool.false_eq_true Bool.true_and Bool.and_true Bool.or_false decide_eq_true_eq".splitOn " ").toArray.map fun s=>Lean.mkIdent s.toName
 `(tactic| simp only[$[↓$l:ident],*,$[$m:ident],*])
noncomputable abbrev lkS(a b:Int)(qs:List (Str×List Str))(S:List Str)(os:List (List (Str×List Str)))(c d:Option Sl):Sg:=[some ⟨.par,.lst [.int a,.int b]⟩,some ⟨.val,qD qs⟩,some ⟨.own,.lst ((qs.map Prod.fst).map D.str)⟩,some ⟨.own,.lst (S.map D.str)⟩,some ⟨.own,.lst (os.map qD)⟩,c,d,none,none]
noncomputable def dB8:DS:=(bL (mB (dC7 (dX (aX ltI (dCB mD (aC (aH 1) aP)) (dC (.int 6)))) (dX (aX (inD true) (dC (.str "qqqqqq")) (aH 2)))) (bL (cG 6 (aX ixD (aX ixD (aH 1) (aV 2 aI (aC (aH 0) (aC (dCB mD (aC (aH 1) aP)) aP)))) (dC (.int 1))))
 (iM (lM "list" 4 aN8 (aC (dFz (aX iC (aH 1) (qY (aC (qY (aC (dC (.str "qqqqqq")) (aC (dCB aA6 (aC (aV 2 bR (aC (aH 0) (aC (aH 6) aP))) aP)) aP))) aP)))) aP)))) fM)
 (gQ (aH 4)))
noncomputable def dB9:DS:=(bL (mB (dX (aX (eqD true) (aH 3) (kI aP))) (bL (cG 5 (aX ixD (aH 3) (aV 2 aI (aC (aH 0) (aC (dCB mD (aC (aH 3) aP)) aP)))))
 (iM (lM "list" 4 aN8 (aC (dFz (aV 2 nO (aC (aH 1) (aC (cE [8] (dIt (aH 2)) (dgN 8) (dX (aX (eqD true) (aH 8) (aH 5))) (dFz (aH 8))) aP)))) aP)))) fM)
 dB8)
def eC7:Tx (Str.ofString "qqqqqq"):=⟨by decide,by decide⟩
def Qw.more{qs:List (Str×List Str)}(h:Qw qs){z:Str}{cs:List Str}{q:Str×List Str}(e:q∈qs)(f:∀ c∈cs,c∈q.2)(hn:cs.Nodup)(h0:cs≠[])(k:cs.length<=4)(l:qs.length<=5)(g:Tx z)(d:z∉qs.map Prod.fst):Qw (qs++[(z,cs)]):=by
 have m:∀ {P:Str×List Str->Prop},(∀ q∈qs,P q)->P (z,cs)->∀ q∈qs++[(z,cs)],P q:=λa i o b=>by
  rcases a8a.mp b with b | b;exact a o b;rw[a3a.mp b];exact i
 obtain⟨j,d6,hd⟩:=h.cs;refine⟨by rw[a5a,List.length_singleton];lia,by rw[a5a,List.length_singleton];lia,⟨by rw[a5a,List.length_singleton];lia,m h.qn.2 ⟨g,by show cs.length<=100;lia,λc a=>(h.qn.2 q e).2.2 c (f c a)⟩⟩,by rw[a4b];exact aA1 h.nd d,m h.cd hn,m h.ne h0,j,d6,m hd λc a=>hd q e c (f c a)⟩
theorem Qw.wo{qs:List (Str×List Str)}(h:Qw qs){z:Str}(b:∃ q∈qs,q.1=z)(d:2<=qs.length):Qw (wo qs z):=by
 have e:=nJ h.nd b;have f:=h.l6;obtain⟨c,d6,hd⟩:=h.cs;exact⟨by lia,by lia,h.qn.wo z,bZ5 h.nd z,λq a=>h.cd q (nI a).1,λq a=>h.ne q (nI a).1,c,d6,λq a=>hd q (nI a).1⟩
def dT6{a b a0 b0:Int}{qs:List (Str×List Str)}{S:List Str}{os:List (List (Str×List Str))}{x5:Bool}{d5:D}(h:Qw qs)(N:os.length<=2)(j:∀ o∈os,Qw o/\(nL o↔nL qs)){K:Res->List Sl->Prop}(k:∀ (os:List (List (Str×List Str))) w x,os.length<=3->(∀ o∈os,Qw o/\(nL o↔nL qs))->K (.own (.lst (os.map qD))) [⟨.par,.lst [.int w,.int x]⟩,⟨.val,qD qs⟩]):RS dB8 (lkS a b qs S os (ov x5 d5) none) (bT7 [⟨.par,.lst [.int a0,.int b0]⟩,⟨.val,qD qs⟩] K):=by
 have sl:1000<=sizeLine:=by decide
 have u:=h.qn;have l1:=h.l1;unfold dB8 lkS;walk_at "dx";rw[a0a];split
 ·rename_i O;have m:∀ z∈qs.map Prod.fst,As z:=λz p=>by obtain⟨q,A,rfl⟩:=a9b.mp p;exact(u.2 q A).1.2
  refine aZ2 eC7.2 m ?_;walk_at "dx";split
  ·rename_i hn;refine dJ (by lia) (by lia) λd Q R B C=>?_;obtain⟨q,E,c⟩:=bF3 qP (l:=qs) (i:=d) B C;walk_at "dx";rw[E];walk_at "dx";have F:=(u.2 q c).2.1;refine aJ7 (xs:=q.2.map D.str) (.inr (.inr ⟨rfl,rfl⟩)) (λz=>h.ne q c (List.map_eq_nil_iff.mp z)) (by rw[a0a];lia) λys G H I v J L=>?_;obtain⟨cs,rfl,g⟩:=aK1 (P:=λz=>z∈q.2) (ys:=ys) λy M=>by
    obtain⟨z,p,rfl⟩:=a9b.mp (J y M);exact⟨z,p,rfl⟩
   rw[a0a]at v;have r:cs.Nodup:=(List.pairwise_map.mp (L (List.Pairwise.map _ (λa b n z=>n (rX _ _ z)) (h.cd q c)))).imp λ{a b} n e=>n (by rw[e]);have s:Str.ofString "qqqqqq"∉qs.map Prod.fst:=by simpa using hn
   have t:=v;have:=k (os++[qs++[(Str.ofString "qqqqqq",cs)]]) G H (by rw[a5a,List.length_singleton];lia) λo f=>by
    rcases a8a.mp f with f | f;exact j o f;rw[a3a.mp f];exact⟨h.more c g r (λz=>I (by rw[z];rfl)) t (by lia) eC7 s,cI7 c g⟩
   rw[a4b,List.map_singleton,show qD (qs++[(Str.ofString "qqqqqq",cs)])=D.tup (qs.map qP++[D.tup [D.str (Str.ofString "qqqqqq"),D.tup (cs.map D.str)]]) by unfold qD;rw[a4b];rfl]at this;walk_at "dx";exact⟨sl2,a8b (by decide) sl2,by rw[a0a];lia,by rw[a0a];lia,this⟩
  ·exact k os a b (by lia) j
 ·exact k os a b (by lia) j
def eA3{a b a0 b0:Int}{qs:List (Str×List Str)}{S:List Str}{os:List (List (Str×List Str))}(h:Qw qs)(R:os.length<=1)(C:∀ o∈os,Qw o/\(nL o↔nL qs))(T:S.length<=6)(E:∀ z∈S,(∃ q∈qs,q.1=z)/\gM qs z≠[]){K:Res->List Sl->Prop}(k:∀ (os:List (List (Str×List Str))) G H,os.length<=3->(∀ o∈os,Qw o/\(nL o↔nL qs))->K (.own (.lst (os.map qD))) [⟨.par,.lst [.int G,.int H]⟩,⟨.val,qD qs⟩]):RS dB9 (lkS a b qs S os none none) (bT7 [⟨.par,.lst [.int a0,.int b0]⟩,⟨.val,qD qs⟩] K):=by
 have sl:1000<=sizeLine:=by decide
 have s:=h.qn;have l1:=h.l1;have l6:=h.l6;have g:∀ z∈qs.map Prod.fst,As z:=λz t=>by obtain⟨q,u,rfl⟩:=a9b.mp t;exact(s.2 q u).1.2
 have j:∀ z∈S,As z:=λz t=>by obtain⟨⟨q,u,e⟩,_⟩:=E z t;rw[← e];exact(s.2 q u).1.2
 unfold dB9 lkS;walk_at "dx";refine⟨a7c _,aE4 (n:=0) (oks j) (by decide) ?_⟩;walk_at "dx";split
 ·rename_i v;have I:0 < S.length:=by cases S with
   | nil=>cases v
   | cons=>exact Nat.zero_lt_succ _
  refine dJ (by rw[a0a];lia) (by rw[a0a];lia) λd J L M F=>?_;obtain⟨z,N,m⟩:=bF3 D.str (l:=S) (i:=d) M (by rw[a0a]at F;exact F);walk_at "dx";rw[N];obtain⟨f,p⟩:=E z m;walk_at "dx";refine⟨by rw[a0a,a0a];lia,bC (λo=>!decide (o=z)) D.str D.str (qs.map Prod.fst) [_,_,_,_,_,_,_,_,none] rfl (λo c=>?_) ?_⟩;walk_at "dx";refine oC (g o c) (j z m) ?_;walk_at "dx";walk_at "dx";refine dB7 s (λy O=>g y (List.mem_filter.mp O).1) ?_;have P:(qs.filter λq=>decide (q.1∈(qs.map Prod.fst).filter λo=>!decide (o=z)))=wo qs z:=List.filter_congr λq w=>by
   rw[a3e,a4D,List.mem_filter];exact⟨λh=>h.2,λh=>⟨List.mem_map_of_mem w,h⟩⟩
  rw[P];walk_at "dx";have Q:=nJ h.nd f;have A:2<=qs.length:=by
   cases e:wo qs z with
   | nil=>exact absurd (by unfold gM;rw[e];rfl) p
   | cons x y=>rw[e,a4f]at Q;lia
  obtain⟨U,B⟩:=List.exists_mem_of_ne_nil _ p;have r:=(aA0 h.nd A f).mpr B;have:=dT6 (a:=J) (b:=L) (a0:=a0) (b0:=b0) (S:=S) (os:=os++[wo qs z]) (x5:=true) (d5:=.str z) h (by rw[a5a,List.length_singleton];lia) (λo c=>by
   rcases a8a.mp c with c | c;exact C o c;rw[a3a.mp c];exact⟨h.wo f A,cI6 h.nd A r⟩) k
  unfold lkS at this;rw[a4b,List.map_singleton]at this;exact⟨by rw[a0a];lia,this⟩
 ·exact dT6 (x5:=false) (d5:=.non) h (by lia) C k
def cI8{a b:Int}{qs:List (Str×List Str)}(h:Qw qs){K:Res->List Sl->Prop}(k:∀ (os:List (List (Str×List Str))) w y,os.length<=3->(∀ o∈os,Qw o/\(nL o↔nL qs))->K (.own (.lst (os.map qD))) [⟨.par,.lst [.int w,.int y]⟩,⟨.val,qD qs⟩]):CK fQ [⟨.par,.lst [.int a,.int b]⟩,⟨.val,qD qs⟩] K:=by
 have sl:1000<=sizeLine:=by decide
 have v:=h.qn;have l1:=h.l1;have l6:=h.l6;have P:∀ z∈qs.map Prod.fst,As z:=λz r=>by obtain⟨q,f,rfl⟩:=a9b.mp r;exact(v.2 q f).1.2
 unfold fQ;rw[dA];show RS iX [_,_,none,none,none,none,none,none,none] _;rw[show iX=(bL (cG 2 (cE [5,7] (dIt (aH 1)) (iF 2 (bJ (dgN 5) (bJ (dgN 7) iA))) iB (dFz (aH 5))))
 (bL (cG 3 (cE [5] (dIt (aH 2)) (dgN 5) (dX (aX (eqD true) (aV 2 bT (aC (aH 1) (aC (aH 5) aP))) (kI aP))) (dFz (aH 5))))
 (bL (cG 4 (kI (aC (dCB aA6 (aC (aV 2 aT (aC (aH 0) (aC (cE [5,6] (dIt (aH 1)) (iF 2 (bJ (dgN 5) (bJ (dgN 6) iA))) iB (qY (aC (dFz (aH 5)) (aC (dCB aA6 (aC (aV 2 aT (aC (aH 0) (aC (aH 6) aP))) aP)) aP)))) aP))) aP)) aP)))
 dB9)))from rfl]
 walk_at "dx";refine⟨by rw[a0a];lia,fH (λq=>.str q.1) qP qs [_,_,none,none,none,none,none,none,none] rfl (λq l=>?_) ?_⟩;walk_at "dx"
 have Q:qs.map (λq=>D.str q.1)=(qs.map Prod.fst).map D.str:=by rw[List.map_map];rfl
 rw[Q];walk_at "dx";refine⟨by rw[a0a,a0a];lia,bC (λz=>!(gM qs z).isEmpty) D.str D.str (qs.map Prod.fst) [_,_,some ⟨.lent,.lst ((qs.map Prod.fst).map D.str)⟩,none,none,none,none,none,none] rfl (λz B=>?_) ?_⟩;have r:∃ q∈qs,q.1=z:=a9b.mp B;walk_at "dx";refine pT (.inr (.inr ⟨rfl,rfl⟩)) v h.nd r ?_;walk_at "dx";refine⟨a7c _,aE4 (n:=0) (oks λz r=>(aK0 v z r).2) (by decide) ?_⟩;walk_at "dx";cases gM qs z<;>rfl
 walk_at "dx";generalize J:(qs.map Prod.fst).filter (λz=>!(gM qs z).isEmpty)=S;have R:S.length<=6:=by rw[← J];exact a8b (List.length_filter_le _ _) (by rw[a0a];lia)
 have T:∀ z∈S,(∃ q∈qs,q.1=z)/\gM qs z≠[]:=λz r=>by
  rw[← J]at r;obtain⟨f,g⟩:=List.mem_filter.mp r;exact⟨a9b.mp f,λe=>by rw[e]at g;cases g⟩
 refine⟨by rw[a0a];lia,iQ _ _ (λj acc τ=>∃ (os:List (Str×List Str)) (w y:Int),acc=os.map qP/\os.map Prod.fst=(qs.take j).map Prod.fst/\(∀ (i:Nat) o,os[i]? = some o->∃ q,qs[i]? = some q/\o.2.Perm q.2)/\τ=[some ⟨.par,.lst [.int w,.int y]⟩,_,_,_,_,none,none,none,none]) ⟨[],a,b,rfl,rfl,λi o e=>by simp at e,rfl⟩ ?_ ?_⟩
 ·rintro j d acc τ hd ⟨os,w,y,rfl,m,t,rfl⟩;obtain⟨q,u,rfl⟩:=fT hd;have l:=a6b u;have U:=(v.2 q l).2.1;have C:os.length=j:=by
   have:=a4F List.length m;have hj:=(a2a.mp u).1;rw[a0a,a0a,a0d]at this;lia
  walk_at "dx";refine nH (xs:=q.2.map D.str) (.inr (.inr ⟨rfl,rfl⟩)) (by rw[a0a];lia) λys L M E=>?_;obtain⟨cs,rfl,F⟩:=bG2 D.str E rfl;walk_at "dx";refine⟨sl2,_,rfl,os++[(q.1,cs)],L,M,by rw[a4b];rfl,by rw[a4b,m,a3f,u,a4b];rfl,λi o e=>?_,rfl⟩;by_cases hi:i < os.length;rw[a8f hi]at e;exact t i o e;rw[a6f (by lia)]at e;cases N:i-os.length with
  | succ n=>rw[N]at e;simp at e
  | zero=>
    rw[N]at e;cases e;have:i=j:=by lia
    subst this;exact⟨q,u,F⟩
 ·rintro acc τ ⟨os,w,y,rfl,m,t,rfl⟩;rw[a0a,List.take_length]at m;have C:os.length=qs.length:=by
   have:=a4F List.length m;rw[a0a,a0a]at this;exact this
  walk_at "dx";refine nH (xs:=os.map qP) (.inl ⟨rfl,rfl⟩) (by rw[a0a];lia) λys L M E=>?_;obtain⟨ps,rfl,s⟩:=bG2 qP E rfl;have V:=s.length_eq;have p:∀ o∈ps,∃ q∈qs,o.2.Perm q.2:=λo c=>by
   obtain⟨i,hi⟩:=List.getElem?_of_mem (s.mem_iff.mp c);obtain⟨q,f,g⟩:=t i o hi;exact⟨q,a6b f,g⟩
  have A:∀ q∈qs,∃ o∈ps,q.2.Perm o.2:=λq l=>by
   obtain⟨i,hi⟩:=List.getElem?_of_mem l;have W:=(a2a.mp hi).1;obtain⟨O,f,g⟩:=t i os[i] (a1a (by lia));rw[hi]at f;cases f;exact⟨os[i],s.mem_iff.mpr (a7b _),g.symm⟩
  have G:∀ o∈ps,o.1∈qs.map Prod.fst:=λo c=>by rw[← m];exact List.mem_map_of_mem (s.mem_iff.mp c)
  obtain⟨X,d6,H⟩:=h.cs;have Y:Qw ps:=⟨by lia,by lia,⟨by lia,λo c=>by
    obtain⟨q,f,g⟩:=p o c;obtain⟨O,Z,h4⟩:=a9b.mp (G o c);exact⟨by rw[← h4];exact(v.2 O Z).1,by rw[g.length_eq];exact(v.2 q f).2.1,λz r=>(v.2 q f).2.2 z (g.mem_iff.mp r)⟩⟩,by
    have:=(s.map Prod.fst).nodup_iff.mpr (by rw[m];exact h.nd);exact this,λo c=>by
    obtain⟨q,f,g⟩:=p o c;exact g.nodup_iff.mpr (h.cd q f),λo c e=>by
    obtain⟨q,f,g⟩:=p o c;rw[e]at g;exact h.ne q f g.symm.eq_nil,X,d6,λo c z r=>by
    obtain⟨q,f,g⟩:=p o c;exact H q f z (g.mem_iff.mp r)⟩
  have I:nL ps↔nL qs:=⟨cA4 (λo c=>by
    obtain⟨q,f,g⟩:=p o c;exact⟨q,f,λx=>g.mem_iff⟩) λq l=>by
    obtain⟨o,f,g⟩:=A q l;exact⟨o,f,λx=>g.mem_iff⟩,cA4 (λq l=>by
    obtain⟨o,f,g⟩:=A q l;exact⟨o,f,λx=>g.mem_iff⟩) λo c=>by
    obtain⟨q,f,g⟩:=p o c;exact⟨q,f,λx=>g.mem_iff⟩⟩
  walk_at "dx";exact⟨a8b (by decide) sl2,eA3 (os:=[ps]) h (a9a _) (λo c=>by rw[a3a.mp c];exact⟨Y,I⟩) R T k⟩
open Classical in
noncomputable def wrd(qs:List (Str×List Str)):Str:=if nL qs then Str.ofString "ears" else Str.ofString "ring"
def dT7(qs:List (Str×List Str)):As (wrd qs):=by
 unfold wrd;split<;>exact(show ∀ c∈_,c < 128 by decide)
def dT8(qs:List (Str×List Str)):∃ t,aS7 qs=.tup [.str (wrd qs),t]:=by
 unfold aS7 wrd;by_cases a:nL qs;rw[a4y a,a4y a];exact⟨_,rfl⟩;rw[a4z a,a4z a];exact⟨_,rfl⟩
def dT9{qs os:List (Str×List Str)}(h:nL os↔nL qs):wrd os=wrd qs:=by
 unfold wrd;by_cases a:nL qs;rw[a4y a,a4y (h.mpr a)];rw[a4z a,a4z λz=>a (h.mp z)]
def dC0{qs:List (Str×List Str)}{b:Bool}(h:b=true↔nL qs):decide (wrd qs=Str.ofString "ears")=b:=by
 unfold wrd;by_cases a:nL qs;rw[a4y a,h.mpr a];rfl;rw[a4z a,Bool.eq_false_iff.mpr λz=>a (h.mp z)];decide
theorem bG3:∀ (n:Nat) {aL:List (Str×List Str)},Qn aL->∀ p∈kH n aL,Eg p
 | 0,_,_,_,h=>by simp[kH]at h
 | n+1,aL,a,p,h=>by
   unfold kH at h;cases e:ears aL with
   | nil=>rw[e]at h;cases h
   | cons x r=>
     rw[e]at h;rcases a3b.mp h with rfl | h;exact aZ4 a (by rw[e];exact a4a);exact bG3 n (a.wo _) p h
noncomputable def dC1:DS:=(bL (pU (aA5 (aC (dC (.int 2)) (aC (dC (.int 6)) aP))) (dgN 4)
 (bL (cG 5 (aV 2 dU (aC (aH 1) (aC (aV 2 fO (aC (aV 2 cS (aC (aH 0) (aC (aH 4) aP))) (aC (aH 1) aP))) aP))))
 (mB (cO2 (dX (aV 2 fP (aC (aH 5) (aC (aX (eqD false) (aH 2) (dC (.str "ears"))) aP))))) (gQ (dC (.bl false))) fM)))
 (bL (pU (dIt (aV 2 fQ (aC (aV 2 cS (aC (aH 0) (aC (dC (.int 6)) aP))) (aC (aH 1) aP)))) (dgN 6)
 (mB (dX (aX (eqD true) (aX ixD (aV 1 jU (aC (aH 6) aP)) (dC (.int 0))) (aH 2))) (gQ (dC (.bl false))) fM))
 (gQ (dC (.bl true)))))
def eA4{ns:List Int}{qs:List (Str×List Str)}{t:D}(h:Qw qs) :
  RS dC1 [some ⟨.val,.lst (ns.map D.int)⟩,some ⟨.val,qD qs⟩,some ⟨.val,.str (wrd qs)⟩,some ⟨.val,t⟩,none,none,none] (bT7 [⟨.val,.lst (ns.map D.int)⟩] λy _=>y=.val (.bl true)):=by
 have sl:1000<=sizeLine:=by decide
 have l:=dT7 qs;unfold dC1;walk_at "dx";refine fS (λi e=>∃ f g j k,e=[some ⟨.val,.lst (ns.map D.int)⟩,some ⟨.val,qD qs⟩,some ⟨.val,.str (wrd qs)⟩,some ⟨.val,t⟩,ov f g,ov j k,none]) ⟨false,.non,false,.non,rfl⟩ ?_ ?_;rintro i d e hd ⟨f,g,j,k,rfl⟩;obtain⟨hi,rfl⟩:=jV hd;have r:i < 4:=hi;walk_at "dx";refine bE9 (by lia) (by lia) λa b=>?_;walk_at "dx";refine cI5 h λes s u v w=>?_;walk_at "dx";refine sU (.inl rfl) h.qn w ?_;walk_at "dx";refine oC l (show ∀ c∈_,c < 128 by decide) ?_;rw[dC0 v];walk_at "dx";refine cI2 ?_;walk_at "dx";exact⟨_,.inl rfl,true,_,true,_,rfl⟩;rintro e ⟨f,g,j,k,rfl⟩;walk_at "dx";refine bE9 (by decide) (by decide) λa b=>?_;walk_at "dx";refine cI8 h λos s u A x=>?_;walk_at "dx";refine fS (λi e=>∃ m d6,e=[some ⟨.val,.lst (ns.map D.int)⟩,some ⟨.val,qD qs⟩,some ⟨.val,.str (wrd qs)⟩,some ⟨.val,t⟩,ov f g,ov j k,ov m d6]) ⟨false,.non,rfl⟩ ?_ ?_;rintro i d e hd ⟨m,d6,rfl⟩;obtain⟨o,n,rfl⟩:=fT hd;obtain⟨p,q⟩:=x o (a6b n);walk_at "dx";refine cA3 p ?_;obtain⟨B,z⟩:=dT8 o;rw[z,dT9 q];walk_at "dx";refine oC l l ?_;rw[a4C rfl];walk_at "dx";exact⟨_,.inl rfl,true,_,rfl⟩;rintro e ⟨m,d6,rfl⟩;walk_at "dx"
def cI9(ns:List Int)(hn:ns.length<=63):zM [⟨.val,.lst (ns.map D.int)⟩] λy _=>y=.val (.bl true):=by
 have sl:10000<=sizeLine:=by decide
 unfold zM dD0;refine aY7 _ _ _ (λo h=>bY5 h) ?_;show aE3 [_,none,none,none,none,none,none] _;rw[show aE3=(cB1 (aQ0 1 1 dM (aC (aV 2 cS (aC (aH 0) (aC (dC (.int 0)) aP))) aP))
 (RS (bL (dL4 (iF 2 (bJ (dgN 2) (bJ (dgN 3) iA))) (dFz (aV 1 jU (aC (aH 1) aP))))
 (bL (mB (dX (aX (eqD false) (aH 2) (dC (.str "ears")))) (mB (dOr (dX (aX (isD true) (aV 2 dU (aC (aH 1) (aC (aH 3) aP))) (dC (.bl true)))) (cO2 (dX (aV 2 eL (aC (aV 2 cS (aC (aH 0) (aC (dC (.int 1)) aP))) (aC (aH 1) aP)))))) (gQ (dC (.bl false))) fM) (mB (dOr (dX (aX (eqD true) (aH 2) (dC (.str "ring")))) (dX (aX (isD true) (aV 2 cT (aC (aH 1) (aC (aH 3) aP))) (dC (.bl true))))) (gQ (dC (.bl false))) fM))
 dC1))))from rfl]
 unfold cB1;rw[dB6];walk_at "dx";refine bE9 (by decide) (by decide) λa b=>?_;walk_at "dx";refine aZ5 λqs p q h=>?_;have l:=h.l6;walk_at "dx";refine cA3 h ?_;have f:=λt=>eA4 (ns:=ns) (qs:=qs) (t:=t) h;have g:∀ c∈(Str.ofString "ears").cps.toList,c < 128:=by decide
 have i:∀ c∈(Str.ofString "ring").cps.toList,c < 128:=by decide
 by_cases d:nL qs;rw[show aS7 qs=.tup [.str (Str.ofString "ears"),.lst ((kH qs.length qs).map eD)] by unfold aS7;rw[a4y d]];rw[show wrd qs=Str.ofString "ears" by unfold wrd;rw[a4y d]]at f;walk_at "dx";refine oC g g ?_;rw[a4C rfl];walk_at "dx";refine sU (.inr rfl) h.qn (bG3 _ h.qn) ?_;rw[aF2 _ _ rfl h.nd (h.tk.mpr d)];walk_at "dx";refine aB7 (x:=.val (.bl false)) rfl ?_;walk_at "dx";refine bE9 (by decide) (by decide) λr s=>?_;walk_at "dx";refine bL6 h d λu v=>?_;walk_at "dx";exact f _;obtain⟨w,m,j⟩:=bL2 (λz=>by have:=h.l1;rw[z]at this;exact absurd this (by decide)) h.cn.1 d;have e:∀ z∈w,z∈cM qs:=λz k=>fJ.mpr ((bZ2 j).2 z k);have n:w.length<=6:=a8b (zX.nd_le (aS2 j).2.1 e) h.cn.2;rw[show aS7 qs=.tup [.str (Str.ofString "ring"),tS w] by unfold aS7;rw[a4z d,m]];rw[show wrd qs=Str.ofString "ring" by unfold wrd;rw[a4z d]]at f;walk_at "dx";refine oC i g ?_;rw[a4B (by decide)];walk_at "dx";refine oC i i ?_;rw[a4C rfl];walk_at "dx";refine nQ h.qn (by lia) (λz k=>aJ8 h.qn z (e z k)) (by lia) ?_;rw[j];walk_at "dx";refine aB7 (x:=.val (.bl false)) rfl ?_;walk_at "dx";exact f _
end Mr
namespace Mr
open PySem L2
local macro_rules | `(tactic| walk_at "sx")=>do
 let l:=("cM7 bO9 cM8 bP1 cM9 cN0 bP0 bB2 bP2 bO4 bO5 eB6 dI7 dI8 cM2 cT3 dI9 bO6 dJ0 cM3 dJ1 cM4 bO7 cM5 bO8 bB1 cM6 cN1 bP3 bP4 dJ2 dJ3 aM2 bP5 bP6 bB8 cN3 cN4 cN8 dJ9 cN7 bQ0 cN5 bQ1 bB3 bQ2 bQ3 reduceIte aM4 aM5 bQ4 bQ5 bQ7 bB9 bQ8 bC0 dK4".splitOn " ").toArray.map fun s=>Lean.mkIdent s.toName
 let m:=("eB9 List.set_cons_zero List.set_cons_succ Int.reducePow Int.reduceNeg Int.reduceLT Int.reduceLE Int.reduceAdd".splitOn " ").toArray.map fun s=>Lean.mkIdent s.toName
 `(tactic| simp only[$[↓$l:ident],*,$[$m:ident],*])
local macro_rules | `(tactic| walk_at "sy")=>do
 let l:=("bO9 cM8 bP1 cM9 cN0 bP0 bB2 bP2 bO4 bO5 eB6 dI7 dI8 cM2 cT3 dI9 bO6 dJ0 cM3 dJ1 cM4 bO7 cM5 bO8 bB1 cM6 cN1 bP3 bP4 dJ2 dJ3 aM2 bP5 bP6 bB8 cN3 cN4 cN8 dJ9 cN7 bQ0 cN5 bQ1 bB3 bQ2 bQ3 reduceIte aM4 aM5 bQ4 bQ5 bQ7 bB9 bQ8 bC0 dK4".splitOn " ").toArray.map fun s=>Lean.mkIdent s.toName
 let m:=("eB9 List.set_cons_zero List.set_cons_succ Int.reducePow Int.reduceNeg Int.reduceLT Int.reduceLE Int.reduceAdd".splitOn " ").toArray.map fun s=>Lean.mkIdent s.toName
 `(tactic| simp only[$[↓$l:ident],*,$[$m:ident],*])
section
variable{P:Program}{w:World}{K:W.Frag}{mg:Str->Option Value}{base:Heap}{a:Adr}
def qX(T:Txt K mg a)(Z:FnOk P w K mg base CX0 1 a.a0O a.a0s ["_law_box_here","_law_many"] (tW K))(a0w:FnOk P w K mg base CX0 3 a.a2F a.a0R ["_law_box_here","_law_things"] (aA2 K)):FnOk P w K mg base CX0 4 a.a0U a.a0G ["_law_box_here"] (lD K):=by
 refine T.a1p.ok kN (λvs H Q E h=>?_) (λcdv A outer s H vs Q E S h=>?_);obtain⟨p,rfl,_⟩:=h;rfl;obtain⟨p,rfl,hb,k⟩:=h;have nd:=kN.nd;refine⟨_,(jB (aL0 (i:=1) nd rfl (Or.inr rfl) (bG9 bB7 iD (aJ Z (S.mono (by decide)) rfl T.a0k T.a0j.kp (bB T) .nil bD (cD (pv 0) (cD iD gS)))))
  (jB (fL (i:=2) nd rfl rfl (csc [4] (by kernel_rfl)) (eR rfl T.a0B (cD (pv 1) gS)) (λ_ _ _ _=>(aM (i:=4) nd rfl (Or.inl rfl) (.inr rfl))) (aN (by decide)) (λ_ _ _ _=>aF9) (λ_ _ _ _=>(cL4 (cD (pv 4) (cD (bG9 mQ (bG9 bB7 (pv 4) iD) (pv 1)) gS)))) rfl)
  (jB (bG6 (lG (bB6 S.units) (aJ Z (S.mono (by decide)) rfl T.a0k T.a0j.kp (bB T) .nil bD (cD (pv 0) (cD iD gS))) iD (bM _)) (jB (aL0 (i:=1) nd rfl (Or.inr rfl) (bA (tQ rfl) (by rfl) T.a4m (aI0) (cD (pv 1) (cD iD gS))))
  (mP (fL (i:=2) nd rfl rfl (csc [5] (by kernel_rfl)) (eR rfl T.a0B (cD (pv 1) gS)) (λ_ _ _ _=>(aM (i:=5) nd rfl (Or.inr rfl) (.inl rfl))) (aN (by decide)) (λ_ _ _ _=>aF9) (λ_ _ _ _=>(bV (csc [4] (by kernel_rfl)) (eR rfl T.a0B (cD (pv 1) gS)) (λ_ _ _ _=>(aM (i:=4) nd rfl (Or.inl rfl) (.inr rfl))) (aN (by decide)) (λ_ _ _ _=>(bA9 (lG (dK3 S.units) (pv 4) (pv 5) (bM _)))) (λ_ _ _ _=>(pv 4)))) rfl))) tM)
  (jB (gO a6d rfl (bR0 K rfl (pv 2)) (aM (i:=3) nd rfl (Or.inl rfl))
  (mP (bG6 (PW.pt (bA3 (lG aT7 (pv 1) iD (bM _)) (bA3 (lG aT7 (bA bI (by rfl) T.a0Q (bQ) (cD (pv 3) gS)) iD (bM _)) (aT6 (lG (bB6 S.units) (aJ Z (S.mono (by decide)) rfl T.a0k T.a0j.kp (bB T) .nil bD (cD (pv 0) (cD iD gS))) iD (bM _)))))) (mP (aF3 (gW K rfl a4c a1e a2e eX (pv 3) (cD (bG9 bB7 (pv 1) (aJ Z (S.mono (by decide)) rfl T.a0k T.a0j.kp (bB T) .nil bD (cD (pv 0) (cD (bG9 bM9 iD (pv 1)) gS)))) gS)))) tM)))
  (jB (bG6 (PW.pt (bA3 (lG aT7 (bA bI (by rfl) T.a0Q (bQ) (cD (pv 2) gS)) iD (bM _)) (aT6 (lG (bB6 S.units) (aJ Z (S.mono (by decide)) rfl T.a0k T.a0j.kp (bB T) .nil bD (cD (pv 0) (cD iD gS))) iD (bM _))))) (mP (aF3 (gW K rfl a4c a1e a2e eX (pv 2) (cD (aJ a0w (S.mono (by decide)) rfl T.a1P T.a0T.kp (kR T) .nil bD (cD (pv 0) (cD (aU5 (T:="list") (U:="range") (aG6 rfl) (by rfl) T.a3v kM (by rfl) T.a0B boot_range (cD iD gS)) gS))) gS)))) tM)
  (jB (bG6 (lG (bB6 S.units) (aJ Z (S.mono (by decide)) rfl T.a0k T.a0j.kp (bB T) .nil bD (cD (pv 0) (cD iD gS))) iD (bM _)) (mP (aF3 (cU4 K rfl a4c F.slot_list_pop F.type_list_pop dI2 (pv 2)))) tM)
  (mP (cL1 (pv 2))))))))),?_⟩
 rw[show lH ["_law_box_here","_law_many","_law_found","_law_own","_law_k","_law_j"] [.ref p]=([some (.ref p),none,none,none,none,none]:St)from rfl];have b:∀ {w:Addr},H w=none->w≠p:=λhw z=>by subst z;obtain⟨i',j',e'⟩:=hb;rw[hw]at e';cases e'
 have mono:∀ {H' H'':Hp} {es:List V},aT0 H H' es->(∀ w,H w=none->∀ o,H' w=some o->H'' w=some o)->aT0 H H'' es:=λho hk e c=>by
  obtain⟨w,ns,e1,v,e3,e4,e5⟩:=ho e c;exact⟨w,ns,e1,hk w e5 _ v,e3,e4,e5⟩
 have u:∀ {H' H'':Hp} {es:List V},aT0 H H' es->SameBut p H' H''->aT0 H H'' es:=λho hs=>mono ho λw hw o e=>hs w o (b hw) e;have G:∀ {H':Hp} {es:List V} {l:Addr} {o:HO},aT0 H H' es->H' l=none->aT0 H (upd H' l o) es:=λho t=>mono ho λw _ o e=>by rw[aS (bK e t)];exact e
 try walk_at "sy"
 rw[cM7]
 try walk_at "sy"
 refine cT6 ⟨p,4,rfl,hb,by decide,by decide,λd1 H1 d10 d11 hb1 hs1=>?_⟩
 try walk_at "sy"
 have m0:3<=3+d1:=by lia
 have m6:3+d1<=6:=by lia
 generalize hmm:(3+d1:Int)=m at m0 m6 ⊢;clear hmm d10 d11 d1;refine aM6 (λσ' H'=>∃ (s:Addr) (es:List V),σ'=[some (V.ref p),some (V.int m),some (V.ref s),none,none,none]/\H s=none/\H' s=some (.lst es)/\es.length=m.toNat/\aT0 H H' es/\iK H' p/\SameBut p H H'/\es.Nodup/\∀ e∈es,LoI m H' e) ?_ ?_
 ·clear hb1 hs1;rintro σ' H2 ⟨s,es,rfl,d,f,hel,g,hb2,hs2,hen,hlo⟩;refine aM6 (λσ' H'=>∃ (m':Int) (s':Addr) (es':List V),σ'=[some (V.ref p),some (V.int m'),some (V.ref s'),none,none,none]/\3<=m'/\m'<=6/\H s'=none/\H' s'=some (.lst es')/\es'.length=m'.toNat/\aT0 H H' es'/\iK H' p/\SameBut p H H'/\es'.Nodup/\∀ e∈es',LoI m' H' e) ?_ ?_
  ·clear d f hel g hb2 hs2 m0 m6 hen hlo;rintro σ' H3 ⟨m,s,es,rfl,m0,m6,d,f,hel,g,hb3,L,hen,hlo⟩;refine aM6 (λσ' H'=>∃ o3:Option V,σ'=[some (V.ref p),some (V.int m),some (V.ref s),o3,none,none]/\H' s=some (.lst es)/\aT0 H H' es/\iK H' p/\SameBut p H H') ?_ ?_
   ·clear f g hb3 L;rintro σ' H4 ⟨o3,rfl,f,g,hb4,hs4⟩;refine aM6 (λσ' H'=>∃ es':List V,σ'=[some (V.ref p),some (V.int m),some (V.ref s),o3,none,none]/\H' s=some (.lst es')/\3<=es'.length/\es'.length<=6/\aT0 H H' es'/\iK H' p/\SameBut p H H') ?_ ?_
    ·clear f g hb4 hs4 hel;rintro σ' H5 ⟨es,rfl,f,hl3,hl6,g,hb5,M⟩;refine aM6 (λσ' H'=>∃ es':List V,σ'=[some (V.ref p),some (V.int m),some (V.ref s),o3,none,none]/\H' s=some (.lst es')/\1<=es'.length/\es'.length<=6/\aT0 H H' es'/\iK H' p/\SameBut p H H') ?_ ?_
     ·clear f hl3 hl6 g hb5 M;rintro σ' H6 ⟨es,rfl,f,hl1,hl6,g,hb6,I⟩
      try walk_at "sx"
      exact k s es H6 d f hl1 hl6 g hb6 I
     ·intro C hC
      try walk_at "sx"
      refine cT6 ⟨p,4,rfl,hb5,by decide,by decide,λd6 H6 d60 d61 hb6 I=>?_⟩
      try walk_at "sx"
      have D:=I s _ (b d) f;refine cL8 (λ_=>?_) (λ_=>hC _ _ ⟨es,rfl,D,by lia,hl6,u g I,hb6,M.trans I⟩);refine⟨tyL D,s,es,es[es.length-1],rfl,rfl,D,a1a (by lia),?_⟩;refine hC _ _ ⟨es.dropLast,rfl,aY,by rw[List.length_dropLast];lia,by rw[List.length_dropLast];lia,?_,hb6.put (b d),(M.trans I).put d⟩;intro e c;have he':=List.dropLast_subset _ c;obtain⟨B,W,f1,f2,f3,f4,f5⟩:=(u g I) e he';have hne:B≠s:=aK6 f2 D (by rw[← f1];exact he');exact⟨B,W,f1,by rw[aS hne];exact f2,f3,f4,f5⟩
    ·intro C hC;have skip:∀ H',iK H' p->SameBut p H4 H'->C [some (V.ref p),some (V.int m),some (V.ref s),o3,none,none] H':=λH' hb' O=>
      hC _ _ ⟨es,rfl,O s _ (b d) f,by lia,by lia,u g O,hb',hs4.trans O⟩
     try walk_at "sx"
     rw[aC1 (tI f)]
     try walk_at "sx"
     refine cL8 (λt=>?_) (λ_=>?_)
     ·have hl6:(es.length:Int) < 6:=by simpa using t
      refine cT6 ⟨p,3,rfl,hb4,by decide,by decide,λd5 H5 d50 d51 hb5 M=>?_⟩
      try walk_at "sx"
      refine cL8 (λ_=>?_) (λ_=>skip _ hb5 M);have hse5:=M s _ (b d) f;refine⟨tyL hse5,6,rfl,by decide,by decide,λq hq=>?_⟩;have hsq:SameBut p H5 (upd H5 q (.lst i6)):=SameBut.refl.upd hq;refine cT6 ⟨p,q,rfl,hb5.upd hq,aY,λr ns H6 S e6 n5 nm hb6 I=>?_⟩;have hs56:=hsq.trans I;have D:=hs56 s _ (b d) hse5;have hs45:=hs4.trans M;refine⟨s,es,_,rfl,rfl,D,Nat.lt_of_le_of_lt (by lia:es.length<=6) (by decide),?_⟩;refine hC _ _ ⟨es++[.ref r],rfl,aY,by simp;lia,by simp;lia,?_,hb6.put (b d),(hs45.trans hs56).put d⟩;intro e c;rcases a8a.mp c with h | h;obtain⟨B,W,f1,f2,f3,f4,f5⟩:=(u g (M.trans hs56)) e h;have hne:B≠s:=aK6 f2 D (by rw[← f1];exact h);exact⟨B,W,f1,by rw[aS hne];exact f2,f3,f4,f5⟩;rw[a3a.mp h];have hrs:r≠s:=(bK (hsq s _ (b d) hse5) S).symm;exact⟨r,ns,rfl,by rw[aS hrs];exact e6,n5,nm,(hs45.trans hsq).none (hb5.upd hq) S⟩
     ·try refine dX7 ?_
      exact skip _ hb4 SameBut.refl
   ·intro C hC
    try walk_at "sx"
    refine up (cD1 (tI f)) ?_;refine dJ6 (aM3 (xs:=es)) (λi σ H'=>∃ o3:Option V,σ=[some (V.ref p),some (V.int m),some (V.ref s),o3,none,none]/\H' s=some (.lst es)/\aT0 H H' es/\iK H' p/\SameBut p H H'/\∀ (j:Nat) e,i<=j->es[j]? = some e->LoI m H' e) ⟨none,rfl,f,g,hb3,L,λj e _ c=>hlo e (a6b c)⟩ ?_ ?_ ?_;rintro i σ H' ⟨o3,_,X,_⟩;exact SqL.of X
    ·rintro i x σ H' hx ⟨o3,rfl,X,J,R,h6,h7⟩;have hxm:=a6b hx;obtain⟨w,ns,rfl,ww,wl,⟨wn,wd⟩,w0⟩:=J x hxm;have wlo:∀ n∈ns,n < m:=by
      obtain⟨B,W,e1,v,e3⟩:=h7 i _ (a9a _) hx;cases e1;rw[ww]at v;injection v with v;injection v with v
      intro n hn;have:V.int n∈W.map V.int:=by rw[← v];exact List.mem_map_of_mem hn
      obtain⟨n',hn',e⟩:=a9b.mp this;cases e;exact e3 n hn'
     have h7':∀ {H'':Hp},(∀ B o,B≠w->H B=none->H' B=some o->H'' B=some o)->∀ (j:Nat) e,i+1<=j->es[j]? = some e->LoI m H'' e:=λ{H''} hk j e hj c=>by
      have hem:=a6b c;refine(h7 j e (by lia) c).mono λB o e1 v=>hk B o (λz=>?_) ?_ v;subst z e1;have:=(List.getElem?_inj (a2a.mp hx).1 hen).mp (hx.trans c.symm);lia;obtain⟨w'',_,f1,_,_,_,f5⟩:=J e hem;rw[e1]at f1;cases f1;exact f5
     have hws:w≠s:=aK6 ww X hxm;have skip:∀ H'',iK H'' p->SameBut p H' H''->∃ o3:Option V,[some (V.ref p),some (V.int m),some (V.ref s),some (V.ref w),none,none]=[some (V.ref p),some (V.int m),some (V.ref s),o3,none,none]/\H'' s=some (.lst es)/\aT0 H H'' es/\iK H'' p/\SameBut p H H''/\∀ (j:Nat) e,i+1<=j->es[j]? = some e->LoI m H'' e:=λH'' hb' O=>
      ⟨_,rfl,O s _ (b d) X,u J O,hb',h6.trans O,h7' λB o _ hw e=>O B o (b hw) e⟩
     try walk_at "sx"
     refine cL8 (λhm=>?_) (λ_=>?_)
     ·have hm6:m < 6:=by simpa using hm
      rw[aC1 (tI ww)]
      try walk_at "sx"
      refine cL8 (λt=>?_) (λ_=>?_)
      ·rw[a0a]at t;have hl4:(ns.length:Int) < 4:=by simpa using t
       refine cT6 ⟨p,3,rfl,R,by decide,by decide,λd7 H7 d70 d71 hb7 hs7=>?_⟩
       try walk_at "sx"
       refine cL8 (λ_=>?_) (λ_=>skip _ hb7 hs7);have ww7:=hs7 w _ (b w0) ww;refine⟨tyL ww7,?_⟩;refine cT6 ⟨p,6-m,rfl,hb7,by lia,by lia,λd8 H8 d80 d81 hb8 hs8=>?_⟩;have ww8:=hs8 w _ (b w0) ww7
       try walk_at "sx"
       have Y:=hs7.trans hs8;refine⟨w,_,_,rfl,rfl,ww8,by rw[a0a];exact Nat.lt_of_le_of_lt (by lia:ns.length<=10) (by decide),?_⟩;refine⟨_,rfl,by rw[aS hws.symm];exact Y s _ (b d) X,?_,hb8.put (b w0),(h6.trans Y).put w0,h7' λB o hw hw0 e=>by rw[aS hw];exact Y B o (b hw0) e⟩;intro e c;obtain⟨B,W,e1,v,e3,e4,e5⟩:=(u J Y) e c;by_cases hww:B=w;subst hww;rw[ww8]at v;refine⟨B,ns++[m+d8],e1,by rw[aY];simp,by simp;lia,⟨?_,aA1 wd.1 λhm'=>(by have:=wlo _ hm';lia),λz=>by simp at z⟩,e5⟩;intro n hn;rcases a8a.mp hn with h | h;exact wn n h;rw[a3a.mp h];lia;exact⟨B,W,e1,by rw[aS hww];exact v,e3,e4,e5⟩
      ·try refine dX7 ?_
       exact skip _ R SameBut.refl
     ·try refine dX7 ?_
      exact skip _ R SameBut.refl
    ·rintro σ H' ⟨o3,rfl,X,J,R,h6,_⟩;exact hC _ _ ⟨o3,rfl,X,J,R,h6⟩
  ·intro C hC
   try walk_at "sx"
   refine cT6 ⟨p,2,rfl,hb2,by decide,by decide,λd3 H3 d30 d31 hb3 L=>?_⟩
   try walk_at "sx"
   refine cL8 (λ_=>?_) (λ_=>hC _ _ ⟨m,s,es,rfl,m0,m6,d,L s _ (b d) f,hel,u g L,hb3,hs2.trans L,hen,λe c=>(hlo e c).mono λB o e1 v=>L B o (b (by obtain⟨w'',_,f1,_,_,_,f5⟩:=g e c;rw[e1]at f1;cases f1;exact f5)) v⟩);obtain⟨m',hm',m0',m5'⟩:∃ m',min m 5=m'/\3<=m'/\m'<=5:=⟨_,rfl,by lia,by lia⟩;rw[hm'];have hs3':=hs2.trans L;refine⟨m',rfl,by lia,by lia,?_⟩;refine aU4 (P:=λ_=>True) pY (λi ys H'=>ys.length=i/\aT0 H H' ys/\iK H' p/\SameBut p H H'/\ys.Nodup/\∀ e∈ys,LoI m' H' e) ⟨rfl,(λe c=>nomatch c),hb3,hs3',.nil,(λe c=>nomatch c)⟩ ?_ (by rw[gJ];exact a8b (by lia:m'.toNat<=6) (by decide)) ?_ ?_;rintro i ys H' ⟨h1,_⟩;exact⟨trivial,by lia⟩
   ·rintro i x ys H' N hx ⟨h1,X,J,R,h6,h7⟩ hN;obtain⟨hi,rfl⟩:=pX hx
    try walk_at "sx"
    refine⟨m',rfl,by lia,by lia,?_⟩;refine aU4 (P:=λ_=>True) pY (λj us H''=>j<=5/\∃ ws:List Int,us=ws.map V.int/\ws.length<=j/\(∀ n∈ws,0<=n/\n < 6)/\H''=H'/\ws.Nodup/\(∀ n∈ws,n < j)/\(j<=m'.toNat/\(j<=i->j<=ws.length)/\j<=ws.length+1)) ⟨by lia,[],rfl,a9a _,(λz hz=>nomatch hz),rfl,.nil,(λz hz=>nomatch hz),a7c _,λ_=>a7c _,a7c _⟩ ?_ (by rw[gJ];exact a8b (by lia:m'.toNat<=6) (by decide)) ?_ ?_;rintro j us H'' ⟨_,ws,rfl,h,_,rfl,_⟩;exact⟨trivial,by rw[a0a];exact h⟩
    ·rintro j y us H'' N2 hy ⟨_,ws,rfl,g1,g2,rfl,g3,g4,g5⟩ hN2;obtain⟨hj,rfl⟩:=pX hy
     try walk_at "sx"
     refine cL8 (λ_=>?_) (λhne=>?_)
     ·refine hN2 _ _ ⟨by lia,ws++[0+(j:Int)],by simp,by simp;lia,?_,rfl,aA1 g3 (λhm'=>by have:=g4 _ hm';lia),(λn hn=>by
       rcases a8a.mp hn with h | h;have:=g4 n h;lia;rw[a3a.mp h];lia),by lia,by rw[a5a,List.length_singleton];lia,by rw[a5a,List.length_singleton];lia⟩
      intro n hn;rcases a8a.mp hn with h | h;exact g2 n h;rw[a3a.mp h];lia
     ·have hji:j=i:=by simp at hne;lia
      exact hN2 _ _ ⟨by lia,ws,rfl,by lia,g2,rfl,g3,(λn hn=>by have:=g4 n hn;lia),by lia,by lia,by lia⟩
    ·rintro us H'' ⟨gj,ws,rfl,g1,g2,rfl,g3,g4,g5⟩ l t;have hws:ws≠[]:=λz=>by have:=g5.2.2;rw[z,gJ]at this;simp at this;lia
     refine hN _ _ ⟨by simp[h1],?_,J.upd t,R.upd t,aA1 h6 (λz=>(h7 _ z).ne t rfl),λe c=>?_⟩
     rotate_left
     ·rcases a8a.mp c with h | h
      ·exact(h7 e h).mono λB o _ v=>by rw[aS (bK v t)];exact v
      ·rw[a3a.mp h];exact⟨l,ws,rfl,aY,λn hn=>by have:=g4 n hn;lia⟩
     intro e c;rcases a8a.mp c with h | h;exact(G X t) e h;rw[a3a.mp h];exact⟨l,ws,rfl,aY,by lia,⟨g2,g3,hws⟩,R.none J t⟩
   ·rintro ys H' ⟨h1,X,J,R,h6,h7⟩ l t
    try walk_at "sx"
    rw[gJ]at h1;exact hC _ _ ⟨m',l,ys,rfl,m0',by lia,R.none J t,aY,h1,G X t,J.upd t,R.upd t,h6,λe c=>(h7 e c).mono λB o _ v=>by rw[aS (bK v t)];exact v⟩
 ·intro C hC
  try walk_at "sx"
  refine⟨m,rfl,by lia,by lia,?_⟩;refine aU4 (P:=λ_=>True) pY (λi ys H'=>ys.length=i/\aT0 H H' ys/\iK H' p/\SameBut p H H'/\ys.Nodup/\∀ e∈ys,LoI m H' e) ⟨rfl,(λe c=>nomatch c),hb1,hs1,.nil,(λe c=>nomatch c)⟩ ?_ (by rw[gJ];exact a8b (by lia:m.toNat<=6) (by decide)) ?_ ?_;rintro i ys H' ⟨h1,_⟩;exact⟨trivial,by lia⟩
  ·rintro i x ys H' N hx ⟨h1,X,J,R,h6,h7⟩ hN;obtain⟨hi,rfl⟩:=pX hx
   try walk_at "sx"
   rw[dJ8 (by lia)];have hmod0:0<=(0+(i:Int)+1) % m:=a7h _ (by lia);have hmod1:(0+(i:Int)+1) % m < m:=a8g _ (by lia);have hmod2:(0+(i:Int))≠(0+(i:Int)+1) % m:=λz=>by
    by_cases h:(0+(i:Int)+1) < m;rw[Int.emod_eq_of_lt (by lia) h]at z;lia;have:(0+(i:Int)+1)=m:=by lia
    rw[this,Int.emod_self]at z;lia
   refine⟨by show 2<=sizeLine;decide,λl t=>?_⟩;refine hN _ _ ⟨by simp[h1],?_,J.upd t,R.upd t,aA1 h6 (λz=>(h7 _ z).ne t rfl),λe c=>?_⟩
   rotate_left
   ·rcases a8a.mp c with h | h
    ·exact(h7 e h).mono λB o _ v=>by rw[aS (bK v t)];exact v
    ·rw[a3a.mp h];refine⟨l,[0+(i:Int),(0+(i:Int)+1) % m],rfl,aY,λn hn=>?_⟩;simp only[List.mem_cons,List.not_mem_nil,or_false]at hn;rcases hn with rfl | rfl<;>lia
   intro e c;rcases a8a.mp c with h | h;exact(G X t) e h;rw[a3a.mp h];refine⟨l,[0+(i:Int),(0+(i:Int)+1) % m],rfl,aY,by show 2<=5;decide,⟨?_,a0f.mpr ⟨λz=>hmod2 (a3a.mp z),by simp⟩,λz=>nomatch z⟩,R.none J t⟩;intro n hn;simp only[List.mem_cons,List.not_mem_nil,or_false]at hn;rcases hn with rfl | rfl<;>lia
  ·rintro ys H' ⟨h1,X,J,R,h6,h7⟩ l t
   try walk_at "sx"
   rw[gJ]at h1;exact hC _ _ ⟨l,ys,rfl,R.none J t,aY,h1,G X t,J.upd t,R.upd t,h6,λe c=>(h7 e c).mono λB o _ v=>by rw[aS (bK v t)];exact v⟩
end
open Dv
def cA5{K:W.Frag}(vs:List V)(H:Hp)(Q:L2.VK)(E:XK)(h:tW K vs H Q E):dsp 2 aI vs H Q E:=by
 obtain⟨p,m,rfl,⟨i,j,n⟩,m0,w,k⟩:=h;have r:=dJ (a:=i) (b:=j) (m:=m) m0 (by lia) (K:=λres as'=>∃ d c f,0<=d/\d < m/\res=.val (.int d)/\as'=[⟨.par,.lst [.int c,.int f]⟩,⟨.val,.int m⟩]) λd c f g l=>⟨d,c,f,g,l,rfl,rfl⟩;obtain⟨⟨res,as'⟩,e,d,c,f,g,l,o,q⟩:=jK.mp r;cases o;cases q;refine⟨_,_,_,cZ2 n,rfl,e,λv H' po s=>?_⟩;cases s;obtain⟨t,u⟩:=cG7 po;exact k d H' g l t u
noncomputable abbrev d6:List D:=(List.range 6).map λ(i:Nat)=>D.int (i:Int)
def cA6{K:W.Frag}(vs:List V)(H:Hp)(Q:L2.VK)(E:XK)(h:aA2 K vs H Q E):dsp 2 bR vs H Q E:=by
 obtain⟨p,q,rfl,⟨i,j,I⟩,w,k⟩:=h;have g:p≠q:=λz=>by
  subst z;rw[I]at w;cases w
 have O:∀ {H':Hp} {xs:List V},Rps H' d6 xs->xs=i6:=λr=>Rps.ints_inv (ns:=(List.range 6).map λ(i:Nat)=>(i:Int)) r;have R:Rps H d6 i6:=lL ((List.range 6).map λ(i:Nat)=>(i:Int));have r:=aJ7 (a:=i) (b:=j) (xs:=d6) (m:=.par) (t:=.lst d6) (.inl ⟨rfl,rfl⟩) (by decide) (by decide) (K:=λres as'=>∃ ys d f,(ys.length<=4/\ys≠[])/\((∀ y∈ys,y∈d6)/\ys.Nodup)/\res=.own (.lst ys)/\as'=[⟨.par,.lst [.int d,.int f]⟩,⟨.par,.lst d6⟩]) λys d f h0 A S T=>⟨ys,d,f,⟨A,h0⟩,⟨S,T (List.pairwise_map.mpr (List.nodup_range.imp λ{a b} q e=>q (by injection e with e;lia)))⟩,rfl,rfl⟩;obtain⟨⟨res,as'⟩,e,ys,d,f,J,A,U,X⟩:=jK.mp r;cases U;cases X;refine⟨[⟨.par,.lst [.int i,.int j]⟩,⟨.par,.lst d6⟩],_,_,⟨rfl,λn s es=>?_,λn l s t c hn es Y m1 m2 C L=>?_,λn s es=>?_⟩,rfl,e,λv H' po Z=>?_⟩
 ·match n,es with
  | 0,es=>cases es;exact⟨_,rfl,p,rfl,_,I,lL [i,j]⟩
  | 1,es=>cases es;exact⟨_,rfl,q,rfl,_,w,R⟩
 ·match n,es,l,Y with
  | 0,_,0,_=>exact hn rfl
  | 0,_,1,_=>cases C;cases L;exact g rfl
  | 1,_,0,_=>cases C;cases L;exact g rfl
  | 1,_,1,_=>exact hn rfl
 ·match n,es with
  | 0,es=>cases es;exact λz=>nomatch z
  | 1,es=>cases es;exact λz=>nomatch z
 ·obtain⟨r,rfl,hr,xs,B,D⟩:=Z;obtain⟨ns,rfl,hnl,F⟩:=zT (P:=λn=>0<=n/\n < 6) (ys:=ys) λy hy=>by
   obtain⟨x,B,rfl⟩:=a9b.mp (A.1 y hy);have:=a7d.mp B;exact⟨x,by lia,rfl⟩
  rw[D.ints_inv]at B;obtain⟨s0,v0,f1,f2,f3,f4⟩:=po.rel 0 _ rfl rfl;cases f1;cases f3;obtain⟨_,g0,xs0,M,g2⟩:=(eP (s:=⟨.par,.lst [.int d,.int f]⟩) (λz=>nomatch z)).mp f4;cases g0;rw[Rps.ints_inv (ns:=[d,f]) g2]at M;obtain⟨s1,C,u1,u2,u3,u4⟩:=po.rel 1 _ rfl rfl;cases u1;cases u3;obtain⟨_,w0,xs1,N,w2⟩:=(eP (s:=⟨.par,.lst d6⟩) (λz=>nomatch z)).mp u4;cases w0;rw[O w2]at N;refine k r ns H' hr B (by have:=J.1;lia) ⟨F,(List.pairwise_map.mp A.2).imp λ{a b} q e=>q (by rw[e]),λz=>J.2 (by rw[z];rfl)⟩ ⟨d,f,M⟩ λc o hc G=>?_;by_cases u:c=q;subst u;rw[w]at G;cases G;exact N;refine po.fr c o G λ⟨n,s,es,mt,ev⟩=>?_
  match n,es with
  | 0,_=>cases ev;exact hc rfl
  | 1,_=>cases ev;exact u rfl
theorem aK7{H0:Hp}{r:Addr}{In:Hp->Prop}(e:∀ H w o u,In H->H0 w=none->w≠r->In (upd H w (.frz o u))){Q:Hp->Prop}:∀ (todo done:List (V×List Int)) (H:Hp),In H ->
  (∀ x∈todo,∃ w,x.1=.ref w/\(H w=some (.lst (x.2.map V.int))\/∃ o,H w=some (.frz o (.lst (x.2.map V.int))))/\H0 w=none/\w≠r) ->
  (∀ x∈done,∃ w o,x.1=.ref w/\H w=some (.frz o (.lst (x.2.map V.int)))) ->
  (∀ H',In H'->(∀ x∈done++todo,∃ w o,x.1=.ref w/\H' w=some (.frz o (.lst (x.2.map V.int))))->Q H')->FQ Q H
 | [],done,H,hi,_,hd,k=>.done (k H hi (by rw[a0g];exact hd))
 | x::todo,done,H,hi,l,hd,k=>by
   obtain⟨w,m,d,p,q⟩:=l x a4a;have g:=λy f=>l y (a6a _ f);have n:∀ H',In H'->(∀ y∈(done++[x])++todo,∃ w o,y.1=.ref w/\H' w=some (.frz o (.lst (y.2.map V.int))))->Q H':=λH' a b=>k H' a (by rw[List.append_assoc]at b;exact b);rcases d with d | ⟨o,d⟩
   ·refine .step d True.intro λo=>aK7 e todo (done++[x]) _ (e _ _ _ _ hi p q) (λy f=>?_) (λy f=>?_) n
    ·obtain⟨u,j,c,s,t⟩:=g y f;refine⟨u,j,?_,s,t⟩;by_cases i:u=w
     ·subst i;rw[aY];rcases c with c | ⟨o',c⟩
      ·rw[d]at c;injection c with c
       rw[c];exact .inr ⟨o,rfl⟩
      ·rw[d]at c;cases c
     ·rw[aS i];exact c
    ·rcases a8a.mp f with h | h;obtain⟨u,o',j,c⟩:=hd y h;exact⟨u,o',j,by rw[aS (λz=>by subst z;rw[d]at c;cases c)];exact c⟩;rw[a3a.mp h];exact⟨w,o,m,aY⟩
   ·refine aK7 e todo (done++[x]) H hi g (λy f=>?_) n;rcases a8a.mp f with h | h;exact hd y h;rw[a3a.mp h];exact⟨w,o,m,d⟩
theorem bG4{H0 H:Hp}{r:Addr}{es:List V}(b:∀ w (ns:List Int),H w=some (.lst (ns.map V.int))->V.ref w∈es->w≠r):∀ {l:List V},(∀ e∈l,e∈es)->aT0 H0 H l->∃ ps:List (V×List Int),ps.map Prod.fst=l/\(∀ x∈ps,x.2.length<=5/\(∀ n∈x.2,0<=n/\n < 6)/\x.2.Nodup/\x.2≠[]) /\
  ∀ x∈ps,∃ w,x.1=.ref w/\(H w=some (.lst (x.2.map V.int))\/∃ o,H w=some (.frz o (.lst (x.2.map V.int))))/\H0 w=none/\w≠r
 | [],_,_=>⟨[],rfl,λ_ h=>absurd h List.not_mem_nil,λ_ h=>absurd h List.not_mem_nil⟩
 | e::l,hm,c=>by
   obtain⟨ps,g,i,j⟩:=bG4 b (λx a=>hm x (a6a _ a)) λx a=>c x (a6a _ a);obtain⟨w,ns,d,f,k,m,p⟩:=c e a4a;refine⟨(e,ns)::ps,by rw[a7e,g],λx a=>?_,λx a=>?_⟩;rcases a3b.mp a with rfl | a;exact⟨k,m⟩;exact i x a;rcases a3b.mp a with rfl | a;exact⟨w,d,.inl f,p,b w ns f (by rw[← d];exact hm e a4a)⟩;exact j x a
theorem aT1{H:Hp}:∀ {ps:List (V×List Int)},(∀ x∈ps,∃ w o,x.1=.ref w/\H w=some (.frz o (.lst (x.2.map V.int))))->Rps H (ps.map λx=>.lst (x.2.map D.int)) (ps.map Prod.fst)
 | [],_=>.nil
 | x::r,h=>by
   obtain⟨w,o,a,b⟩:=h x a4a;rw[a7e,a7e,a];exact .cons (.lst b (lL _)) (aT1 λy c=>h y (a6a _ c))
def dC2{K:W.Frag}(vs:List V)(H:Hp)(Q:L2.VK)(E:XK)(h:bS6 1 cRS vs H Q E):spF (lD K) vs H Q E:=by
 obtain⟨as,v,f,a,b,rfl,q⟩:=h;obtain⟨Y,I,J⟩:=v.rel 0 _ rfl;obtain⟨p,rfl,xs,j,k⟩:=(eP (s:=⟨.par,.lst [.int a,.int b]⟩) (λz=>nomatch z)).mp J;rw[Rps.ints_inv (ns:=[a,b]) k]at j;have L:vs=[.ref p]:=by
  have f:=v.len
  match vs,f with
  | [x],_=>cases I;rfl
 subst L;refine⟨p,rfl,⟨a,b,j⟩,λr es H' k y l1 l6 M N O=>?_⟩;obtain⟨ps,A,B,P⟩:=bG4 (r:=r) (es:=es) (λw ns R hm=>aK6 R y hm) (λe h=>h) M;refine aK7 (H0:=H) (r:=r) (In:=λd=>d r=some (.lst es)/\iK d p/\SameBut p H d) (λd w o u ⟨m,g,i⟩ t S=>⟨by rw[aS S.symm];exact m,g.put (λz=>by subst z;rw[j]at t;cases t),i.put t⟩) ps [] H' ⟨y,N,O⟩ P (λ_ h=>absurd h List.not_mem_nil) λd ⟨m,⟨C,D,g⟩,i⟩ T=>?_;have U:ps.length=es.length:=by rw[← A,a0a]
 have F:=aT1 (ps:=ps) T;rw[A]at F;refine q (ps.map Prod.snd) C D ⟨by rw[a0a];lia,by rw[a0a];lia,λl f=>?_⟩ (.ref r) d ⟨λn s e mt=>?_,λc o e n=>i c o (λz=>n ⟨0,_,rfl,rfl,by rw[z];rfl⟩) e,λc e=>?_⟩ ⟨r,rfl,k,es,m,by rw[List.map_map];exact F⟩;obtain⟨x,G,rfl⟩:=a9b.mp f;exact⟨by have:=(B x G).1;lia,(B x G).2⟩
 ·match n,e with
  | 0,e=>cases e;exact⟨_,_,rfl,rfl,rfl,p,rfl,_,g,lL [C,D]⟩
 ·cases X:H c with
  | none=>rfl
  | some o=>
    by_cases z:c=p;subst z;rw[g]at e;cases e;rw[i c o z X]at e;cases e
noncomputable def adr:Adr:=⟨133,Hd.cJ5,145,Hd.cJ7,152,Hd.cJ8,162,Hd.cK0,157,Hd.cJ9,138,Hd.cJ6,167,Hd.cK1,126,Hd.cJ4,83,Hd.dE5,19,Hd.dD3,88,Hd.dE6,93,Hd.dE7,98,Hd.dE8,105,Hd.cJ1,29,Hd.dD5,66,Hd.dE2,71,Hd.dE3,34,Hd.dD6,39,Hd.dD7,44,Hd.dD8,54,Hd.dE0,49,Hd.dD9,61,Hd.dE1,78,Hd.dE4,112,Hd.cJ2,119,Hd.cJ3,172,Hd.cK2,182,Hd.cK4,187,Hd.cK5,192,Hd.cK6,177,Hd.cK3,197,Hd.cK7,209,Hd.cK9,24,Hd.dD4,202,Hd.cK8,216,Hd.bA1⟩
def mO{K:W.Frag}{x q:Str}{s:Stmt}{f:Addr}{fd:FuncData}(m:Value)(c:Addr)(e:fd=W.fnOf x q (aU1 s) (qZ s) (aW s) .none .none .none m none (.ref c) .none)(l:K.lookup f=some ⟨.type "function",none,.func fd,#[]⟩)(d:W.codeIn K (.ref c) q=true)(k:W.keepIn K (.ref f)=true):Fun K x q s f fd:=⟨⟨_,_,_,_,_,_,_,_,_,e,l,d⟩,k⟩
def txt{P:Params}{h:Heap}{mg:Str->Option Value}(X:(Hd.KF P).In h)(G:h.Ns mainGlobals mg):Txt (Hd.KF P) mg adr:=⟨a6c X G (by kernel_rfl),
mO (.str "law_mostrows_k49_whole_ears_or_a_ring" 328) 132 (by kernel_rfl) (by kernel_rfl) (by kernel_rfl) (by kernel_rfl),
a6c X G (by kernel_rfl),
mO (.str "law_mostrows_k49_whole_ears_or_a_ring" 328) 144 (by kernel_rfl) (by kernel_rfl) (by kernel_rfl) (by kernel_rfl),
a6c X G (by kernel_rfl),
mO (.str "law_mostrows_k49_whole_ears_or_a_ring" 328) 151 (by kernel_rfl) (by kernel_rfl) (by kernel_rfl) (by kernel_rfl),
a6c X G (by kernel_rfl),
mO (.str "law_mostrows_k49_whole_ears_or_a_ring" 328) 161 (by kernel_rfl) (by kernel_rfl) (by kernel_rfl) (by kernel_rfl),
a6c X G (by kernel_rfl),
mO (.str "law_mostrows_k49_whole_ears_or_a_ring" 328) 156 (by kernel_rfl) (by kernel_rfl) (by kernel_rfl) (by kernel_rfl),
a6c X G (by kernel_rfl),
mO (.str "law_mostrows_k49_whole_ears_or_a_ring" 328) 137 (by kernel_rfl) (by kernel_rfl) (by kernel_rfl) (by kernel_rfl),
a6c X G (by kernel_rfl),
mO (.str "law_mostrows_k49_whole_ears_or_a_ring" 328) 166 (by kernel_rfl) (by kernel_rfl) (by kernel_rfl) (by kernel_rfl),
a6c X G (by kernel_rfl),
mO (.str "law_mostrows_k49_whole_ears_or_a_ring" 328) 125 (by kernel_rfl) (by kernel_rfl) (by kernel_rfl) (by kernel_rfl),
a6c X G (by kernel_rfl),
mO (.str "mostrows.ears" 273) 82 (by kernel_rfl) (by kernel_rfl) (by kernel_rfl) (by kernel_rfl),
a6c X G (by kernel_rfl),
mO (.str "mostrows.questions" 187) 18 (by kernel_rfl) (by kernel_rfl) (by kernel_rfl) (by kernel_rfl),
a6c X G (by kernel_rfl),
mO (.str "mostrows.ears" 273) 87 (by kernel_rfl) (by kernel_rfl) (by kernel_rfl) (by kernel_rfl),
a6c X G (by kernel_rfl),
mO (.str "mostrows.ears" 273) 92 (by kernel_rfl) (by kernel_rfl) (by kernel_rfl) (by kernel_rfl),
a6c X G (by kernel_rfl),
mO (.str "mostrows.ears" 273) 97 (by kernel_rfl) (by kernel_rfl) (by kernel_rfl) (by kernel_rfl),
a6c X G (by kernel_rfl),
mO (.str "mostrows.ears" 273) 104 (by kernel_rfl) (by kernel_rfl) (by kernel_rfl) (by kernel_rfl),
a6c X G (by kernel_rfl),
mO (.str "mostrows.parts" 201) 28 (by kernel_rfl) (by kernel_rfl) (by kernel_rfl) (by kernel_rfl),
a6c X G (by kernel_rfl),
mO (.str "mostrows.rings" 209) 65 (by kernel_rfl) (by kernel_rfl) (by kernel_rfl) (by kernel_rfl),
a6c X G (by kernel_rfl),
mO (.str "mostrows.rings" 209) 70 (by kernel_rfl) (by kernel_rfl) (by kernel_rfl) (by kernel_rfl),
a6c X G (by kernel_rfl),
mO (.str "mostrows.rings" 209) 33 (by kernel_rfl) (by kernel_rfl) (by kernel_rfl) (by kernel_rfl),
a6c X G (by kernel_rfl),
mO (.str "mostrows.rings" 209) 38 (by kernel_rfl) (by kernel_rfl) (by kernel_rfl) (by kernel_rfl),
a6c X G (by kernel_rfl),
mO (.str "mostrows.rings" 209) 43 (by kernel_rfl) (by kernel_rfl) (by kernel_rfl) (by kernel_rfl),
a6c X G (by kernel_rfl),
mO (.str "mostrows.rings" 209) 53 (by kernel_rfl) (by kernel_rfl) (by kernel_rfl) (by kernel_rfl),
a6c X G (by kernel_rfl),
mO (.str "mostrows.rings" 209) 48 (by kernel_rfl) (by kernel_rfl) (by kernel_rfl) (by kernel_rfl),
a6c X G (by kernel_rfl),
mO (.str "mostrows.rings" 209) 60 (by kernel_rfl) (by kernel_rfl) (by kernel_rfl) (by kernel_rfl),
a6c X G (by kernel_rfl),
mO (.str "mostrows.rings" 209) 77 (by kernel_rfl) (by kernel_rfl) (by kernel_rfl) (by kernel_rfl),
a6c X G (by kernel_rfl),
mO (.str "mostrows.ears" 273) 111 (by kernel_rfl) (by kernel_rfl) (by kernel_rfl) (by kernel_rfl),
a6c X G (by kernel_rfl),
mO (.str "mostrows.ears" 273) 118 (by kernel_rfl) (by kernel_rfl) (by kernel_rfl) (by kernel_rfl),
a6c X G (by kernel_rfl),
mO (.str "law_mostrows_k49_whole_ears_or_a_ring" 328) 171 (by kernel_rfl) (by kernel_rfl) (by kernel_rfl) (by kernel_rfl),
a6c X G (by kernel_rfl),
mO (.str "law_mostrows_k49_whole_ears_or_a_ring" 328) 181 (by kernel_rfl) (by kernel_rfl) (by kernel_rfl) (by kernel_rfl),
a6c X G (by kernel_rfl),
mO (.str "law_mostrows_k49_whole_ears_or_a_ring" 328) 186 (by kernel_rfl) (by kernel_rfl) (by kernel_rfl) (by kernel_rfl),
a6c X G (by kernel_rfl),
mO (.str "law_mostrows_k49_whole_ears_or_a_ring" 328) 191 (by kernel_rfl) (by kernel_rfl) (by kernel_rfl) (by kernel_rfl),
a6c X G (by kernel_rfl),
mO (.str "law_mostrows_k49_whole_ears_or_a_ring" 328) 176 (by kernel_rfl) (by kernel_rfl) (by kernel_rfl) (by kernel_rfl),
a6c X G (by kernel_rfl),
mO (.str "law_mostrows_k49_whole_ears_or_a_ring" 328) 196 (by kernel_rfl) (by kernel_rfl) (by kernel_rfl) (by kernel_rfl),
a6c X G (by kernel_rfl),
mO (.str "law_mostrows_k49_whole_ears_or_a_ring" 328) 208 (by kernel_rfl) (by kernel_rfl) (by kernel_rfl) (by kernel_rfl),
a6c X G (by kernel_rfl),
mO (.str "mostrows.questions" 187) 23 (by kernel_rfl) (by kernel_rfl) (by kernel_rfl) (by kernel_rfl),
a6c X G (by kernel_rfl),
mO (.str "law_mostrows_k49_whole_ears_or_a_ring" 328) 201 (by kernel_rfl) (by kernel_rfl) (by kernel_rfl) (by kernel_rfl),
a6c X G (by kernel_rfl),
mO (.str "law_mostrows_k49_whole_ears_or_a_ring" 328) 215 (by kernel_rfl) (by kernel_rfl) (by kernel_rfl) (by kernel_rfl),
a5e X G (by kernel_rfl),
a5e X G (by kernel_rfl),
a5e X G (by kernel_rfl),
a5e X G (by kernel_rfl),
a5e X G (by kernel_rfl),
a5e X G (by kernel_rfl),
a5e X G (by kernel_rfl),
a5e X G (by kernel_rfl),
a5e X G (by kernel_rfl),
a5e X G (by kernel_rfl),
a5e X G (by kernel_rfl),
a5e X G (by kernel_rfl),
a5e X G (by kernel_rfl),
a5e X G (by kernel_rfl),
⟨211,a6c X G (by kernel_rfl)⟩⟩
def dU0{P:Program}{w:World}{mg:Str->Option Value}{base:Heap}(T:Txt (Hd.KF w.params) mg adr):FnOk P w (Hd.KF w.params) mg base CX0 6 216 Hd.bA1 ["_law_script"] (bS6 1 zM):=by
 have a:=aY8 (P:=P) (w:=w) (base:=base) T;have b:=zN (P:=P) (w:=w) (base:=base) T a;have c:=aY9 (P:=P) (w:=w) (base:=base) T b a;have i:=a.imp (cA5 (K:=Hd.KF w.params));have j:=c.imp (cA6 (K:=Hd.KF w.params));have k:=(qX (P:=P) (w:=w) (base:=base) T i j).fz.imp (dC2 (K:=Hd.KF w.params));have l:=rR (P:=P) (w:=w) (base:=base) T a c;have m:=aQ2 (P:=P) (w:=w) (base:=base) T a;have n:=zO (P:=P) (w:=w) (base:=base) T a k l b m;have o:=bK1 (P:=P) (w:=w) (base:=base) T;have d:=bK2 (P:=P) (w:=w) (base:=base) T;have f:=aJ3 (P:=P) (w:=w) (base:=base) T;have p:=bK3 (P:=P) (w:=w) (base:=base) T;have q:=aJ4 (P:=P) (w:=w) (base:=base) T d f p;have g:=bK4 (P:=P) (w:=w) (base:=base) T q;have r:=aQ3 (P:=P) (w:=w) (base:=base) T g d;have s:=aQ4 (P:=P) (w:=w) (base:=base) T;have t:=rS (P:=P) (w:=w) (base:=base) T;have u:=bX0 (P:=P) (w:=w) (base:=base) T t;have v:=bK5 (P:=P) (w:=w) (base:=base) T;have x:=aB0 (P:=P) (w:=w) (base:=base) T;have y:=aB1 (P:=P) (w:=w) (base:=base) T v x;have z:=aB2 (P:=P) (w:=w) (base:=base) T;have A:=aJ5 (P:=P) (w:=w) (base:=base) T;have e:=bK6 (P:=P) (w:=w) (base:=base) T y z A;have B:=bK7 (P:=P) (w:=w) (base:=base) T s f u e;have C:=cZ4 (P:=P) (w:=w) (base:=base) T r B;have D:=aQ5 (P:=P) (w:=w) (base:=base) T g d;have E:=aB3 (P:=P) (w:=w) (base:=base) T;have F:=aB4 (P:=P) (w:=w) (base:=base) T;have G:=rT (P:=P) (w:=w) (base:=base) T;have H:=aB5 (P:=P) (w:=w) (base:=base) T E F G e b;have h:=aB6 (P:=P) (w:=w) (base:=base) T;have I:=aQ6 (P:=P) (w:=w) (base:=base) T h a;have J:=aQ7 (P:=P) (w:=w) (base:=base) T;have L:=cZ5 (P:=P) (w:=w) (base:=base) T;have M:=aQ8 (P:=P) (w:=w) (base:=base) T h b a L c;have N:=dP6 (P:=P) (w:=w) (base:=base) T n o C D H e I J M;exact N
def cJ0:W.WalkO Hd.Vw [] (W.XL Hd.Vw []) (W.InK Hd.KF) PySem.Challenge.rw_mostrows_k49_whole_ears_or_a_ring.row.toRowW Hd.dV5 [] (λf vs=>PySem.call f vs):=by
 refine L2.cS9 (l:=PySem.Challenge.rw_mostrows_k49_whole_ears_or_a_ring) (K:=Hd.KF) (n:=63) (k:=6) (x:="_law_script") (CX:=λ_=>CX0) (sp:=λw=>bS6 1 zM) rfl (by decide) (by kernel_rfl) ⟨rfl,by decide,by decide⟩ (λw h Y=>Y) (λw mg i h X G e=>?_) (λw _ a ns b c d=>bK0 (aY6 aY7) (by kernel_rfl) c d (cI9 ns b)) λ_ _ _ _ _ z=>z;have T:=txt X G;have g:=T.a4u.symm.trans e;cases g;exact⟨Hd.bA1,λs v=>.of_eq (by kernel_rfl),λbase _ _=>dU0 T⟩
end Mr
open PySem PySem.W PyProof.Rows
theorem PySem.Challenge.cw_mostrows_k49_whole_ears_or_a_ring_holds : PySem.Challenge.rw_mostrows_k49_whole_ears_or_a_ring.Holds :=
 Hd.eA5 Mr.cJ0
#print axioms PySem.Challenge.cw_mostrows_k49_whole_ears_or_a_ring_holds
