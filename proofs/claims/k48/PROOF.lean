import PyProof.Rows.All
import Wide.All
import OpenK.AllK
import Wide.FinOn
import Lean
import PyProof.EqAt
import PyProof.EqKinds
import PyProof.TupleCall
import PyProof.StationsW
import PyProof.RulesAs
import PyProof.ExcClass2
import PyProof.Rows.Exc
import OpenK.KMake
import PyProof.InstStoreFacts
import OpenK.KCls
import PyProof.ExcArgsOwn
import PyProof.ExcAttrAll.ValueError
import PyProof.FitsInt
import PyProof.FString
import PyProof.FString4
import PyProof.StrLawsRepr
import PyProof.NsDelKeeps
import PyProof.NoPylong
import PyProof.FitsBits
import PyProof.Rows.RuleM_int
import PyProof.P3In
import PyProof.NeData
import PyProof.Draws
import PyProof.ZipIter
import PyProof.EnumMake
import PyProof.WalksMore
import PyProof.SetNew
import PyProof.SetKind
import PyProof.Rows.SetFrom
import PyProof.AttrMissHeap
import PyProof.ListMulAny
import PyProof.Rows.SortKeyStr
import PyProof.DictKinds
import PySem.SetOps
import PyProof.SetScanFacts
import PyProof.TupleKey
import PyProof.IsRules
import PyProof.SetRoads
import PyProof.AutoListH
import PyProof.FactsAll.list_3
import PySem.Challenge.RW_mostrows_k48_rings_looked_at
set_option compiler.extract_closed false
set_option Elab.async false
set_option linter.all false
set_option maxRecDepth 100000
set_option maxHeartbeats 4000000
def a3N:=@PySem.wpAny_bind
def a3O:=@if_pos
def a3P:=@if_neg
def a3Q:=@decide_eq_false
def a3R:=@decide_eq_true_eq
def a3S:=@PySem.wpAny_pure
def a3T:=@decide_eq_true
def a3U:=@PySem.wpAny_loadPart'
def a3V:=@PySem.wpAny_holding
def a3W:=@congrArg
def a3X:=@PySem.wpAny_newObj_type
def a3Y:=@PySem.wpAny_mono
def a3Z:=@PySem.wpAny_Call_Name_kw
def a4i:=@PySem.wpAny_truthy_bool
def a4j:=@PySem.wpAny_passesOwn
def a4k:=@PySem.codeAny_builtin
def a4l:=@PySem.wpAny_getItem_str_slice
def a4m:=@if_true
def a4n:=@PySem.call_meets
def a4o:=@PySem.wpAny_pyIter_tuple
def a4p:=@PySem.wpAny_call_entry
def a4q:=@PySem.plainId_quiet
def a4r:=@PySem.wpAny_field
def a4s:=@PySem.codeAny_mono
def a4t:=@if_false
def a4u:=@PySem.wpAny_typeOf
def a4v:=@PySem.wpAny_standAt
def a4w:=@beq_iff_eq
def a4x:=@PySem.sizeLine_eq
def a4y:=@PySem.wpAny_rule
def a0a:=@List.getElem?_eq_getElem
def a1a:=@List.length_map
def a2a:=@List.getElem?_eq_some_iff
def a3a:=@List.mem_cons_self
def a4a:=@List.mem_cons_of_mem
def a5a:=@PySem.Heap.get?_push_of_some
def a6a:=@List.getD_eq_getElem?_getD
def a7a:=@Nat.le_refl
def a8a:=@List.length_append
def a9a:=@List.getElem?_set_ne
def a0b:=@Option.some.inj
def a1b:=@List.mem_singleton
def a2b:=@List.size_toArray
def a3b:=@List.mem_append
def a4b:=@List.mem_cons
def a5b:=@List.getElem_mem
def a6b:=@PySem.Heap.lt_size
def a7b:=@Bool.false_ne_true
def a8b:=@PySem.Heap.get?_push_size
def a9b:=@List.mem_append_right
def a0c:=@List.mem_of_getElem?
def a1c:=@List.map_append
def a2c:=@List.mem_map
def a3c:=@List.getElem?_map
def a4c:=@Option.map_eq_some_iff
def a5c:=@PySem.F.plainAttrs_list
def a6c:=@Nat.le_trans
def a7c:=@List.getElem?_set_self
def a8c:=@List.mem_range
def a9c:=@List.length_take
def a0d:=@Nat.zero_le
def a1d:=@Nat.ne_of_lt
def a2d:=@List.getElem?_cons_succ
def a3d:=@PySem.W.mg_of
def a4d:=@List.getElem?_eq_none_iff
def a5d:=@Classical.byContradiction
def a6d:=@Nat.lt_of_lt_of_le
def a7d:=@List.mem_append_left
def a8d:=@List.mem_of_mem_take
def a9d:=@List.getElem_of_mem
def a0e:=@Bool.eq_iff_iff
def a1e:=@PySem.PassesOwn.never
def a2e:=@PySem.W.mg_none_of
def a3e:=@Ne.symm
def a4e:=@List.map_cons
def a5e:=@List.take_add_one
def a6e:=@PySem.F.slot_list_append
def a7e:=@PySem.F.type_list_append
def a8e:=@List.nodup_cons
def a9e:=@List.length_set
def a0f:=@Nat.lt_irrefl
def a1f:=@List.length_drop
def a2f:=@PyProof.Rows.callWith_type1
def a3f:=@PyProof.Rows.slot_tuple_getitem
def a4f:=@List.length_range
def a5f:=@Bool.and_eq_true
def a6f:=@List.length_cons
def a7f:=@List.getElem?_eq_none
def a8f:=@PySem.W.kia_one
def a9f:=@Nat.zero_add
def a0g:=@List.getElem?_append_right
def a1g:=@Array.length_toList
def a2g:=@List.getElem?_append_left
def a3g:=@List.append_nil
def a4g:=@Array.getElem?_toList
def a5g:=@List.length_nil
def a6g:=@List.all_eq_true
def a7g:=@PySem.Around.under_plainId
def a8g:=@PyProof.Rows.F.plain_set_update_loop
def a9g:=@PySem.F.slot_tuple_iterator_next
def a0h:=@Nat.lt_trans
def a1h:=@Int.emod_lt_of_pos
def a2h:=@List.ext_getElem?
def a3h:=@PySem.mem_of_lookup
def a4h:=@List.lookup_cons
def a5h:=@PySem.Heap.size_push
def a6h:=@List.take_of_length_le
def a7h:=@Nat.ne_of_gt
def a8h:=@List.getElem?_toArray
def a9h:=@Int.toNat_natCast
def a0i:=@List.map_take
def a1i:=@Nat.le_of_lt
def a2i:=@Int.emod_nonneg
namespace Hd
open PySem PySem.W
noncomputable def top(i:Nat):Stmt:=PySem.Challenge.pw_mostrows_k48_rings_looked_at.main.body.getD i (.Pass ⟨0,0,0,0⟩)
noncomputable def kG(x q:Str)(s:Stmt)(m:Value)(c:Addr):FuncData:=match s with
 | .FunctionDef _ a b _ _ _ e _ _ _=>fnOf x q a b e .none .none .none m none (.ref c) .none
 | _=>default
noncomputable def dW0:DefRec:=match top 33 with
 | .FunctionDef n a b _ _ _ e _ _ p=>⟨n,a,b,e,p⟩
 | _=>⟨"",default,[],default,default⟩
noncomputable def kE(P:Params)(x:Str)(t:Tok)(v:Value):DictEntry:=⟨PyData.keyHash P x,.str x t,v⟩
noncomputable def kT(l:List Value):Obj:=⟨.type "tuple",none,.seq l.toArray 0,#[]⟩
noncomputable def kF(f:FuncData):Obj:=⟨.type "function",none,.func f,#[]⟩
noncomputable def dE3:=kG "all_parts" "all_parts" (top 1) (.str "mostrows.parts" 187) 18
noncomputable def dE4:=kG "columns_of" "columns_of" (top 3) (.str "mostrows.questions" 195) 23
noncomputable def dE5:=kG "sets_in" "sets_in" (top 6) (.str "mostrows.rings" 203) 28
noncomputable def dE6:=kG "lies_within" "lies_within" (top 7) (.str "mostrows.rings" 203) 33
noncomputable def dE7:=kG "widest_sets" "widest_sets" (top 8) (.str "mostrows.rings" 203) 38
noncomputable def dE8:=kG "neighbours" "neighbours" (top 9) (.str "mostrows.rings" 203) 43
noncomputable def dE9:=kG "all_but_one" "all_but_one" (top 10) (.str "mostrows.rings" 203) 48
noncomputable def dF0:=kG "is_ring" "is_ring" (top 11) (.str "mostrows.rings" 203) 55
noncomputable def dF1:=kG "stand_together" "stand_together" (top 12) (.str "mostrows.rings" 203) 60
noncomputable def dF2:=kG "walked" "walked" (top 13) (.str "mostrows.rings" 203) 65
noncomputable def dF3:=kG "ring_of" "ring_of" (top 14) (.str "mostrows.rings" 203) 72
noncomputable def dF4:=kG "_law_box" "_law_box" (top 16) (.str "law_mostrows_k48_rings_looked_at" 267) 79
noncomputable def dF5:=kG "_law_take" "_law_take" (top 17) (.str "law_mostrows_k48_rings_looked_at" 267) 86
noncomputable def dF6:=kG "_law_names" "_law_names" (top 18) (.str "law_mostrows_k48_rings_looked_at" 267) 91
noncomputable def dF7:=kG "_law_shuffled" "_law_shuffled" (top 19) (.str "law_mostrows_k48_rings_looked_at" 267) 98
noncomputable def cJ1:=kG "_law_some" "_law_some" (top 20) (.str "law_mostrows_k48_rings_looked_at" 267) 105
noncomputable def cJ2:=kG "_law_plain_sets" "_law_plain_sets" (top 21) (.str "law_mostrows_k48_rings_looked_at" 267) 110
noncomputable def cJ3:=kG "_law_round_sets" "_law_round_sets" (top 22) (.str "law_mostrows_k48_rings_looked_at" 267) 115
noncomputable def cJ4:=kG "_law_question" "_law_question" (top 23) (.str "law_mostrows_k48_rings_looked_at" 267) 120
noncomputable def cJ5:=kG "_law_columns" "_law_columns" (top 24) (.str "law_mostrows_k48_rings_looked_at" 267) 125
noncomputable def cJ6:=kG "_law_holders" "_law_holders" (top 25) (.str "law_mostrows_k48_rings_looked_at" 267) 130
noncomputable def cJ7:=kG "_law_cut_down" "_law_cut_down" (top 26) (.str "law_mostrows_k48_rings_looked_at" 267) 135
noncomputable def cJ8:=kG "_law_can" "_law_can" (top 27) (.str "law_mostrows_k48_rings_looked_at" 267) 140
noncomputable def cJ9:=kG "_law_least_ring" "_law_least_ring" (top 28) (.str "law_mostrows_k48_rings_looked_at" 267) 145
noncomputable def cK0:=kG "_law_is_ring" "_law_is_ring" (top 29) (.str "law_mostrows_k48_rings_looked_at" 267) 150
noncomputable def cK1:=kG "_law_changed" "_law_changed" (top 30) (.str "law_mostrows_k48_rings_looked_at" 267) 157
noncomputable def cK2:=kG "_law_told_right" "_law_told_right" (top 31) (.str "law_mostrows_k48_rings_looked_at" 267) 164
noncomputable def cK3:=kG "_law_truth" "_law_truth" (top 32) (.str "law_mostrows_k48_rings_looked_at" 267) 171
noncomputable def aZ2:=kG "law" "law" (top 33) (.str "law_mostrows_k48_rings_looked_at" 267) 178
noncomputable def kC(x:Str)(a:Tok)(q:Str)(b c:Tok)(d e f:Int)(g:Addr)(h:Int)(i j k l:Addr)(m n:Int)(o:Tok):Obj:=⟨.type "code",none,.fields #[.str x a,.str q b,.str "/claim/cut.py" c,.int d 0,.int e 0,.int 0 0,.int 0 0,.int f 0,.ref g,.bool true,.int h 0,.ref i,.none,.ref j,.ref k,.ref l,.int m 0,.int n 0,.str "/claim/cut.py" o],#[]⟩
noncomputable def KF(P:Params):W.Frag:=[
(2,⟨.none,none,(.dict #[] 0),#[]⟩),
(3,⟨(.type "dict"),none,(.dict #[kE P "__name__" 165 (.str "law_mostrows_k48_rings_looked_at" 267),kE P "__doc__" 166 .none,kE P "__package__" 167 .none,kE P "__loader__" 168 (.builtin "__main__.__loader__#opaque"),kE P "__spec__" 169 .none,kE P "__annotations__" 170 (.ref 6),kE P "__builtins__" 171 (.ref 4),kE P "__file__" 173 (.str "/claim/cut.py" 172),kE P "__cached__" 174 .none,kE P "all_parts" 194 (.ref 19),kE P "columns_of" 202 (.ref 24),kE P "FEWEST" 206 (.int 3 205),kE P "sets_in" 212 (.ref 29),kE P "lies_within" 218 (.ref 34),kE P "widest_sets" 224 (.ref 39),kE P "neighbours" 230 (.ref 44),kE P "all_but_one" 236 (.ref 49),kE P "is_ring" 245 (.ref 56),kE P "stand_together" 251 (.ref 61),kE P "walked" 257 (.ref 66),kE P "ring_of" 266 (.ref 73),kE P "_law_box" 278 (.ref 80),kE P "_law_take" 288 (.ref 87),kE P "_law_names" 294 (.ref 92),kE P "_law_shuffled" 304 (.ref 99),kE P "_law_some" 312 (.ref 106),kE P "_law_plain_sets" 318 (.ref 111),kE P "_law_round_sets" 324 (.ref 116),kE P "_law_question" 330 (.ref 121),kE P "_law_columns" 336 (.ref 126),kE P "_law_holders" 342 (.ref 131),kE P "_law_cut_down" 348 (.ref 136),kE P "_law_can" 354 (.ref 141),kE P "_law_least_ring" 360 (.ref 146),kE P "_law_is_ring" 366 (.ref 151),kE P "_law_changed" 379 (.ref 158),kE P "_law_told_right" 387 (.ref 165),kE P "_law_truth" 395 (.ref 172),kE P "law" 408 (.ref 179)] 39),#[]⟩),
(15,kT []),
(18,⟨(.type "code"),none,(.fields #[(.str "all_parts" 189),(.str "all_parts" 190),(.str "/claim/cut.py" 191),(.int 2 0),(.int 1 0),(.int 0 0),(.int 0 0),(.int 3 0),(.ref 15),(.bool true),(.int 181 0),(.ref 16),.none,.none,.none,(.ref 17),(.int 192 0),(.int 2 0),(.str "/claim/cut.py" 193)]),#[]⟩),
(19,kF dE3),
(20,kT []),
(23,⟨(.type "code"),none,(.fields #[(.str "columns_of" 197),(.str "columns_of" 198),(.str "/claim/cut.py" 199),(.int 8 0),(.int 1 0),(.int 0 0),(.int 0 0),(.int 3 0),(.ref 20),(.bool true),(.int 181 0),(.ref 21),.none,.none,.none,(.ref 22),(.int 200 0),(.int 8 0),(.str "/claim/cut.py" 201)]),#[]⟩),
(24,kF dE4),
(25,kT []),
(28,⟨(.type "code"),none,(.fields #[(.str "sets_in" 207),(.str "sets_in" 208),(.str "/claim/cut.py" 209),(.int 15 0),(.int 2 0),(.int 0 0),(.int 0 0),(.int 3 0),(.ref 25),(.bool true),(.int 181 0),(.ref 26),.none,.none,.none,(.ref 27),(.int 210 0),(.int 15 0),(.str "/claim/cut.py" 211)]),#[]⟩),
(29,kF dE5),
(30,kT []),
(33,⟨(.type "code"),none,(.fields #[(.str "lies_within" 213),(.str "lies_within" 214),(.str "/claim/cut.py" 215),(.int 22 0),(.int 2 0),(.int 0 0),(.int 0 0),(.int 3 0),(.ref 30),(.bool true),(.int 181 0),(.ref 31),.none,.none,.none,(.ref 32),(.int 216 0),(.int 22 0),(.str "/claim/cut.py" 217)]),#[]⟩),
(34,kF dE6),
(35,kT []),
(38,⟨(.type "code"),none,(.fields #[(.str "widest_sets" 219),(.str "widest_sets" 220),(.str "/claim/cut.py" 221),(.int 24 0),(.int 2 0),(.int 0 0),(.int 0 0),(.int 3 0),(.ref 35),(.bool true),(.int 181 0),(.ref 36),.none,.none,.none,(.ref 37),(.int 222 0),(.int 24 0),(.str "/claim/cut.py" 223)]),#[]⟩),
(39,kF dE7),
(40,kT []),
(43,⟨(.type "code"),none,(.fields #[(.str "neighbours" 225),(.str "neighbours" 226),(.str "/claim/cut.py" 227),(.int 27 0),(.int 1 0),(.int 0 0),(.int 0 0),(.int 3 0),(.ref 40),(.bool true),(.int 181 0),(.ref 41),.none,.none,.none,(.ref 42),(.int 228 0),(.int 27 0),(.str "/claim/cut.py" 229)]),#[]⟩),
(44,kF dE8),
(45,kT []),
(48,⟨(.type "code"),none,(.fields #[(.str "all_but_one" 231),(.str "all_but_one" 232),(.str "/claim/cut.py" 233),(.int 30 0),(.int 1 0),(.int 0 0),(.int 0 0),(.int 3 0),(.ref 45),(.bool true),(.int 181 0),(.ref 46),.none,.none,.none,(.ref 47),(.int 234 0),(.int 30 0),(.str "/claim/cut.py" 235)]),#[]⟩),
(49,kF dE9),
(50,kT []),
(52,kT [(.str "question" 240),(.str "columns" 241),(.str "found" 242)]),
(53,kT []),
(55,kC "is_ring" 237 "is_ring" 238 239 32 2 3 50 181 51 52 53 54 243 32 244),
(56,kF dF0),
(57,kT []),
(60,⟨(.type "code"),none,(.fields #[(.str "stand_together" 246),(.str "stand_together" 247),(.str "/claim/cut.py" 248),(.int 37 0),(.int 3 0),(.int 0 0),(.int 0 0),(.int 3 0),(.ref 57),(.bool true),(.int 181 0),(.ref 58),.none,.none,.none,(.ref 59),(.int 249 0),(.int 37 0),(.str "/claim/cut.py" 250)]),#[]⟩),
(61,kF dF1),
(62,kT []),
(65,⟨(.type "code"),none,(.fields #[(.str "walked" 252),(.str "walked" 253),(.str "/claim/cut.py" 254),(.int 39 0),(.int 2 0),(.int 0 0),(.int 0 0),(.int 3 0),(.ref 62),(.bool true),(.int 181 0),(.ref 63),.none,.none,.none,(.ref 64),(.int 255 0),(.int 39 0),(.str "/claim/cut.py" 256)]),#[]⟩),
(66,kF dF2),
(67,kT []),
(69,kT [(.str "question" 261),(.str "columns" 262),(.str "way" 263)]),
(70,kT []),
(72,kC "ring_of" 258 "ring_of" 259 260 45 1 3 67 181 68 69 70 71 264 45 265),
(73,kF dF3),
(74,kT []),
(76,kT [(.str "_law_script" 272),(.str "_law_k" 273),(.str "_law_cell" 274),(.str "_law_seed" 275)]),
(77,kT []),
(79,kC "_law_box" 269 "_law_box" 270 271 52 2 3 74 181 75 76 77 78 276 52 277),
(80,kF dF4),
(81,kT []),
(83,kT [(.str "_law_box_here" 282),(.str "_law_many" 283),(.str "_law_digit" 284),(.str "_law_one" 285)]),
(84,kT []),
(86,kC "_law_take" 279 "_law_take" 280 281 60 2 3 81 181 82 83 84 85 286 60 287),
(87,kF dF5),
(88,kT []),
(91,⟨(.type "code"),none,(.fields #[(.str "_law_names" 289),(.str "_law_names" 290),(.str "/claim/cut.py" 291),(.int 68 0),(.int 2 0),(.int 0 0),(.int 0 0),(.int 3 0),(.ref 88),(.bool true),(.int 181 0),(.ref 89),.none,.none,.none,(.ref 90),(.int 292 0),(.int 68 0),(.str "/claim/cut.py" 293)]),#[]⟩),
(92,kF dF6),
(93,kT []),
(95,kT [(.str "_law_box_here" 298),(.str "_law_things" 299),(.str "_law_left" 300),(.str "_law_found" 301)]),
(96,kT []),
(98,kC "_law_shuffled" 295 "_law_shuffled" 296 297 82 2 3 93 181 94 95 96 97 302 82 303),
(99,kF dF7),
(100,kT []),
(102,kT [(.str "_law_box_here" 308),(.str "_law_things" 309)]),
(103,kT []),
(105,kC "_law_some" 305 "_law_some" 306 307 88 2 3 100 181 101 102 103 104 310 88 311),
(106,kF cJ1),
(107,kT []),
(110,⟨(.type "code"),none,(.fields #[(.str "_law_plain_sets" 313),(.str "_law_plain_sets" 314),(.str "/claim/cut.py" 315),(.int 90 0),(.int 1 0),(.int 0 0),(.int 0 0),(.int 3 0),(.ref 107),(.bool true),(.int 181 0),(.ref 108),.none,.none,.none,(.ref 109),(.int 316 0),(.int 90 0),(.str "/claim/cut.py" 317)]),#[]⟩),
(111,kF cJ2),
(112,kT []),
(115,⟨(.type "code"),none,(.fields #[(.str "_law_round_sets" 319),(.str "_law_round_sets" 320),(.str "/claim/cut.py" 321),(.int 106 0),(.int 1 0),(.int 0 0),(.int 0 0),(.int 3 0),(.ref 112),(.bool true),(.int 181 0),(.ref 113),.none,.none,.none,(.ref 114),(.int 322 0),(.int 106 0),(.str "/claim/cut.py" 323)]),#[]⟩),
(116,kF cJ3),
(117,kT []),
(120,⟨(.type "code"),none,(.fields #[(.str "_law_question" 325),(.str "_law_question" 326),(.str "/claim/cut.py" 327),(.int 120 0),(.int 1 0),(.int 0 0),(.int 0 0),(.int 3 0),(.ref 117),(.bool true),(.int 181 0),(.ref 118),.none,.none,.none,(.ref 119),(.int 328 0),(.int 120 0),(.str "/claim/cut.py" 329)]),#[]⟩),
(121,kF cJ4),
(122,kT []),
(125,⟨(.type "code"),none,(.fields #[(.str "_law_columns" 331),(.str "_law_columns" 332),(.str "/claim/cut.py" 333),(.int 134 0),(.int 1 0),(.int 0 0),(.int 0 0),(.int 3 0),(.ref 122),(.bool true),(.int 181 0),(.ref 123),.none,.none,.none,(.ref 124),(.int 334 0),(.int 134 0),(.str "/claim/cut.py" 335)]),#[]⟩),
(126,kF cJ5),
(127,kT []),
(130,⟨(.type "code"),none,(.fields #[(.str "_law_holders" 337),(.str "_law_holders" 338),(.str "/claim/cut.py" 339),(.int 139 0),(.int 2 0),(.int 0 0),(.int 0 0),(.int 3 0),(.ref 127),(.bool true),(.int 181 0),(.ref 128),.none,.none,.none,(.ref 129),(.int 340 0),(.int 139 0),(.str "/claim/cut.py" 341)]),#[]⟩),
(131,kF cJ6),
(132,kT []),
(135,⟨(.type "code"),none,(.fields #[(.str "_law_cut_down" 343),(.str "_law_cut_down" 344),(.str "/claim/cut.py" 345),(.int 144 0),(.int 2 0),(.int 0 0),(.int 0 0),(.int 3 0),(.ref 132),(.bool true),(.int 181 0),(.ref 133),.none,.none,.none,(.ref 134),(.int 346 0),(.int 144 0),(.str "/claim/cut.py" 347)]),#[]⟩),
(136,kF cJ7),
(137,kT []),
(140,⟨(.type "code"),none,(.fields #[(.str "_law_can" 349),(.str "_law_can" 350),(.str "/claim/cut.py" 351),(.int 146 0),(.int 1 0),(.int 0 0),(.int 0 0),(.int 3 0),(.ref 137),(.bool true),(.int 181 0),(.ref 138),.none,.none,.none,(.ref 139),(.int 352 0),(.int 146 0),(.str "/claim/cut.py" 353)]),#[]⟩),
(141,kF cJ8),
(142,kT []),
(145,⟨(.type "code"),none,(.fields #[(.str "_law_least_ring" 355),(.str "_law_least_ring" 356),(.str "/claim/cut.py" 357),(.int 154 0),(.int 2 0),(.int 0 0),(.int 0 0),(.int 3 0),(.ref 142),(.bool true),(.int 181 0),(.ref 143),.none,.none,.none,(.ref 144),(.int 358 0),(.int 154 0),(.str "/claim/cut.py" 359)]),#[]⟩),
(146,kF cJ9),
(147,kT []),
(150,⟨(.type "code"),none,(.fields #[(.str "_law_is_ring" 361),(.str "_law_is_ring" 362),(.str "/claim/cut.py" 363),(.int 170 0),(.int 2 0),(.int 0 0),(.int 0 0),(.int 3 0),(.ref 147),(.bool true),(.int 181 0),(.ref 148),.none,.none,.none,(.ref 149),(.int 364 0),(.int 170 0),(.str "/claim/cut.py" 365)]),#[]⟩),
(151,kF cK0),
(152,kT []),
(154,kT [(.str "_law_box_here" 370),(.str "_law_question_here" 371),(.str "_law_columns_here" 372),(.str "_law_some_here" 373),(.str "_law_at" 374),(.str "_law_other" 375),(.str "_law_way" 376)]),
(155,kT []),
(157,kC "_law_changed" 367 "_law_changed" 368 369 189 3 3 152 181 153 154 155 156 377 189 378),
(158,kF cK1),
(159,kT []),
(161,kT [(.str "_law_question_here" 383),(.str "_law_told" 384)]),
(162,kT []),
(164,kC "_law_told_right" 380 "_law_told_right" 381 382 209 1 3 159 181 160 161 162 163 385 209 386),
(165,kF cK2),
(166,kT []),
(168,kT [(.str "_law_found" 391),(.str "_law_due" 392)]),
(169,kT []),
(171,kC "_law_truth" 388 "_law_truth" 389 390 214 2 3 166 181 167 168 169 170 393 214 394),
(172,kF cK3),
(173,kT []),
(175,kT [(.str "_law_script" 399),(.str "_law_first" 400),(.str "_law_second" 401),(.str "_law_question_here" 402),(.str "_law_good" 403),(.str "_law_k" 404),(.str "_law_some_here" 405)]),
(176,kT []),
(178,kC "law" 396 "law" 397 398 216 1 3 173 181 174 175 176 177 406 216 407),
(179,kF aZ2)]
noncomputable def Vw:Program:=view PySem.Challenge.pw_mostrows_k48_rings_looked_at [1,3,5,6,7,8,9,10,11,12,13,14,16,17,18,19,20,21,22,23,24,25,26,27,28,29,30,31,32,33]
def eD5:PySem.Challenge.rw_mostrows_k48_rings_looked_at.wellSaid=true:=by kernel_rfl
def bD:LeftO PySem.Challenge.rw_mostrows_k48_rings_looked_at.row.prog Vw [] (λs=>xlAt Vw [] s&&recOk (RowW.records PySem.Challenge.rw_mostrows_k48_rings_looked_at.row.toRowW) s) (λs=>[2,3,15,18,19,20,23,24,25,28,29,30,33,34,35,38,39,40,43,44,45,48,49,50,52,53,55,56,57,60,61,62,65,66,67,69,70,72,73,74,76,77,79,80,81,83,84,86,87,88,91,92,93,95,96,98,99,100,102,103,105,106,107,110,111,112,115,116,117,120,121,122,125,126,127,130,131,132,135,136,137,140,141,142,145,146,147,150,151,152,154,155,157,158,159,161,162,164,165,166,168,169,171,172,173,175,176,178,179].map s.heap.get?) (λw=>(KF w.params).map λp=>some p.2) 1840:=λw=>by kernel_rfl
def eB2(h:WalkO Vw [] (XL Vw []) (InK KF) PySem.Challenge.rw_mostrows_k48_rings_looked_at.row.toRowW dW0 [] (λf vs=>PySem.call f vs)):PySem.Challenge.rw_mostrows_k48_rings_looked_at.Holds:=
 holds_law eD5 λe=>holds_open (d:=dW0) (kwd:=[]) bD (InK.of λ_=>by kernel_rfl) InK.keeps (λs e=>xl_of s (Bool.and_eq_true_iff.mp e).1) XL.keeps (by kernel_rfl) (by kernel_rfl) (by kernel_rfl) (λs e=>recFacts_of (Bool.and_eq_true_iff.mp e).2) (by kernel_rfl) e (by kernel_rfl) ⟨rfl,rfl,rfl,rfl,rfl,by decide +kernel⟩ (by w_witness2) h
end Hd
namespace L2
open PySem PySem.Spec PyProof.Rows
abbrev Key:=Sum Int Str
noncomputable def bG1:Key->Value->Bool
 | .inl k,v=>Value.isInt k v
 | .inr x,v=>Value.isStrOf x v
noncomputable def eD6(w:World):Key->Int
 | .inl k=>hashInt k
 | .inr x=>hashStr w x
def eL:∀ {k:Key} {v:Value},bG1 k v=true->(∃ i t,k=Sum.inl i/\v=Value.int i t)\/(∃ x t,k=Sum.inr x/\v=Value.str x t)
 | .inl i,v,h=>by
   obtain⟨t,e⟩:=Value.isInt_shape (k:=i) (v:=v) h;exact .inl ⟨i,t,rfl,e⟩
 | .inr x,v,h=>by
   obtain⟨t,e⟩:=Value.isStrOf_shape (x:=x) (v:=v) h;exact .inr ⟨x,t,rfl,e⟩
def bL2(i:Int)(t:Tok):bG1 (.inl i) (.int i t)=true:=by simp[bG1,Value.isInt]
def bL3(x:Str)(t:Tok):bG1 (.inr x) (.str x t)=true:=by simp[bG1,Value.isStrOf]
def dF8(a b:Int):decide ((Sum.inl a:Key)=Sum.inl b)=(a==b):=by
 by_cases e:a=b;subst e;simp;have h:¬ (Sum.inl a:Key)=Sum.inl b:=λq=>e (Sum.inl.inj q);rw[a3Q h];exact(beq_eq_false_iff_ne.mpr e).symm
def dF9(a b:Str):decide ((Sum.inr a:Key)=Sum.inr b)=decide (a=b):=by
 by_cases e:a=b;subst e;simp;have h:¬ (Sum.inr a:Key)=Sum.inr b:=λq=>e (Sum.inr.inj q);rw[a3Q h,a3Q e]
def dG0(a:Int)(b:Str):decide ((Sum.inl a:Key)=Sum.inr b)=false:=a3Q (λq=>nomatch q)
def dG1(a:Str)(b:Int):decide ((Sum.inr a:Key)=Sum.inl b)=false:=a3Q (λq=>nomatch q)
noncomputable def gG(prog:Program)(w:World):PySem.KeyKind prog w Key where
 is:=bG1
 hash:=eD6 w
 inj:=λv a b ha f=>by
  rcases eL ha with⟨i,t,rfl,rfl⟩ | ⟨x,t,rfl,rfl⟩
  ·rcases eL f with⟨j,u,rfl,e⟩ | ⟨y,u,rfl,e⟩
   ·injection e with c _;rw[c]
   ·exact nomatch e
  ·rcases eL f with⟨j,u,rfl,e⟩ | ⟨y,u,rfl,e⟩;exact nomatch e;injection e with c _;rw[c]
 byValue:=λk v h=>by
  rcases eL h with⟨i,t,rfl,rfl⟩ | ⟨x,t,rfl,rfl⟩<;>rfl
 pyHash:=λd h=>by
  rcases eL d with⟨i,t,rfl,rfl⟩ | ⟨x,t,rfl,rfl⟩;exact wpAny_pyHash_int h;exact wpAny_pyHash_str h
 eqBool:=λg d h=>by
  rcases eL g with⟨i,t,rfl,rfl⟩ | ⟨x,t,rfl,rfl⟩;rcases eL d with⟨j,u,rfl,rfl⟩ | ⟨y,u,rfl,rfl⟩;rw[dF8]at h;exact wpAny_eqBool_int h;rw[dG0]at h;exact SeqAt.EqAt.int_str i t y u _ _ _ _ h;rcases eL d with⟨j,u,rfl,rfl⟩ | ⟨y,u,rfl,rfl⟩;rw[dG1]at h;exact SeqAt.EqAt.str_int x t j u _ _ _ _ h;rw[dF9]at h;exact wpAny_eqBool_str h
 «strs»:=λk x t v h=>by
  rcases eL h with⟨i,u,rfl,e⟩ | ⟨y,u,rfl,e⟩;exact nomatch e;injection e with c _
  subst c;cases v<;>rfl
def aS7(prog:Program)(w:World)(i:Int)(t:Tok):(gG prog w).is (.inl i) (.int i t)=true:=bL2 i t
def aS8(prog:Program)(w:World)(x:Str)(t:Tok):(gG prog w).is (.inr x) (.str x t)=true:=bL3 x t
inductive V where
 | non | bl (b:Bool) | int (i:Int) | str (x:Str) | byt (b:Array UInt8) | flt (b:UInt64) | ref (a:Addr) | ty (n:String)
 deriving DecidableEq
def gC:V->Value->Prop
 | .non,u=>u=Value.none
 | .bl b,u=>u=Value.bool b
 | .int i,u=>∃ t,u=Value.int i t
 | .str x,u=>∃ t,u=Value.str x t
 | .byt b,u=>∃ t,u=Value.bytes b t
 | .flt b,u=>∃ t,u=Value.float b t
 | .ref a,u=>u=Value.ref a
 | .ty n,u=>u=Value.type n
abbrev dD:List V->List Value->Prop:=Paired gC
theorem dD.length{xs:List V}{us:List Value}(r:dD xs us):xs.length=us.length:=Paired.length r
theorem dD.get:∀ {xs:List V} {us:List Value} {i:Nat} {x:V},dD xs us->xs[i]? = some x->∃ u,us[i]? = some u/\gC x u
 | _,_,_,_,.nil,e=>by simp at e
 | _,_,0,_,.cons r _,e=>by simp at e;subst e;exact⟨_,rfl,r⟩
 | _,_,i+1,x,.cons _ t,e=>by
   obtain⟨u,a,b⟩:=dD.get (i:=i) (x:=x) t (by simpa using e);exact⟨u,by simpa using a,b⟩
theorem dD.set{x:V}{u:Value}(r:gC x u):∀ {xs:List V} {us:List Value} (i:Nat),dD xs us->dD (xs.set i x) (us.set i u)
 | _,_,_,.nil=>.nil
 | _,_,0,.cons _ t=>.cons r t
 | _,_,i+1,.cons q t=>.cons q (dD.set r i t)
theorem dD.append:∀ {xs ys:List V} {us ws:List Value},dD xs us->dD ys ws->dD (xs++ys) (us++ws)
 | _,_,_,_,.nil,s=>s
 | _,_,_,_,.cons r t,s=>.cons r (dD.append t s)
theorem dD.take:∀ {xs:List V} {us:List Value} (n:Nat),dD xs us->dD (xs.take n) (us.take n)
 | _,_,0,_=>.nil
 | _,_,_+1,.nil=>.nil
 | _,_,n+1,.cons r t=>.cons r (dD.take n t)
theorem dD.drop:∀ {xs:List V} {us:List Value} (n:Nat),dD xs us->dD (xs.drop n) (us.drop n)
 | _,_,0,r=>r
 | _,_,_+1,.nil=>.nil
 | _,_,n+1,.cons _ t=>dD.drop n t
def cA9:Option V->Option Value->Prop
 | some v,some u=>gC v u
 | none,none=>True
 | _,_=>False
def KV{κ:Type}:List (κ×V)->List (κ×Value)->Prop:=Paired λ(p:κ×V) (q:κ×Value)=>p.1=q.1/\gC p.2 q.2
noncomputable def kV:Key->V
 | .inl i=>.int i
 | .inr x=>.str x
inductive HO where
 | lst (xs:List V)
 | tup (xs:List V)
 | dK (kvs:List (Key×V)) | dT (kvs:List (List Key×V))
 | set (S:Int->Bool) (n:Nat)
 | ins (C dx:Addr) (fs:List (Str×V))
 | own (x:Addr)
 | xd (fs:List (Str×V))
 | met (f x:Addr)
 | rng (lo hi:Int)
 | frz (o:Obj) (u:HO)
 | tbl (ps:Array Value)
 | ext (φ:Heap->Prop)
abbrev Hp:=Addr->Option HO
noncomputable def upd(H:Hp)(a:Addr)(o:HO):Hp:=λb=>if b=a then some o else H b
def aW{H:Hp}{a:Addr}{o:HO}:upd H a o a=some o:=by unfold upd;rw[a3O rfl]
def aO{H:Hp}{a b:Addr}{o:HO}(h:b≠a):upd H a o b=H b:=by unfold upd;rw[a3P h]
def bH{H:Hp}{a b:Addr}{o:HO}(h:H a=some o)(h':H b=none):a≠b:=by
 intro e;subst e;rw[h]at h';cases h'
def eD7(h:Heap)(a:Addr):Prop:=∃ o,h.get? a=some o/\o.dict=none
section
variable(P:Program)(w:World)
def fE(H:Hp)(h:Heap)(a:Addr):HO->Prop
 | .lst xs=>xs.length<=sizeLine/\∃ (b:List Value) (n:Nat),dD xs b/\h.get? a=some {cls:=.type "list",data:=.seq b.toArray n}
 | .tup xs=>xs.length<=sizeLine/\∃ b:List Value,dD xs b/\IsTup h a b.toArray/\eD7 h a
 | .dK kvs=>kvs.length<=sizeLine/\(a==sysModules)=false/\∃ vs,KV kvs vs/\h.DictOf (gG P w) a vs
 | .dT kvs=>kvs.length<=sizeLine/\(a==sysModules)=false/\∃ xs:List (List Key×Addr×Value),
   Paired (λ(p:List Key×V) (q:List Key×Addr×Value)=>p.1=q.1/\H q.2.1=some (.tup (p.1.map kV))/\gC p.2 q.2.2) kvs xs /\
   ∃ o es e,h.get? a=some o/\o.ExactDict/\o.data=.dict es e/\es.toList=xs.map (entryOfKey (tupleKind (gG P w)))/\(xs.map (·.1)).Nodup
 | .set S n=>h.SetOf (intKind P w) a S n
 | .ins C dx fs=>H dx=some (.own a)/\fs.length<=1000/\dx≠a/\h.get? a=some (W.instObj C dx) /\
   ∃ mA,h.Ns1 dx mA/\(∀ f,cA9 (fs.lookup f) (mA f))/\Within mA (fs.map (·.1))
 | .own _=>∃ o,h.get? a=some o
 | .xd fs=>∃ mA,h.Ns1 a mA/\∀ f,cA9 (fs.lookup f) (mA f)
 | .rng lo hi=>∃ t u v,h.get? a=some {cls:=.type "range",data:=.fields #[.int lo t,.int hi u,.int 1 v]}
 | .frz o u=>h.get? a=some o/\fE H h a u
 | .tbl ps=>h.get? a=some {cls:=.none,data:=.fields ps}
 | .met f x=>h.get? a=some (W.methodObj (.ref f) (.ref x))
 | .ext φ=>φ h/\(∃ o,h.get? a=some o)/\∀ c d:Heap,φ c->(∀ o,c.get? a=some o->d.get? a=some o)->φ d
def HOk(H:Hp)(h:Heap):Prop:=∀ a o,H a=some o->fE P w H h a o
end
section
variable{P:Program}{w:World}{H H':Hp}{h h':Heap}{a:Addr}{o:HO}
theorem fE.lt(x:fE P w H h a o):a < h.objs.size:=by
 cases o with
 | lst xs=>obtain⟨_,_,_,_,e⟩:=x;exact a6b e
 | tup xs=>obtain⟨_,_,_,p,_⟩:=x;exact p.lt
 | dK kvs=>obtain⟨_,_,_,_,o,_,_,e,_⟩:=x;exact a6b e
 | dT kvs=>obtain⟨_,_,_,_,o,_,_,e,_⟩:=x;exact a6b e
 | set S n=>obtain⟨o,_,_,_,e,_⟩:=x;exact a6b e
 | ins C dx fs=>obtain⟨_,_,_,e,_⟩:=x;exact a6b e
 | own y=>obtain⟨_,e⟩:=x;exact a6b e
 | xd fs=>obtain⟨_,⟨_,_,_,e,_⟩,_⟩:=x;exact a6b e
 | rng lo hi=>obtain⟨_,_,_,e⟩:=x;exact a6b e
 | frz ob u=>obtain⟨e,_⟩:=x;exact a6b e
 | tbl ps=>exact a6b (show h.get? a=some _ from x)
 | met f y=>exact a6b (show h.get? a=some _ from x)
 | ext φ=>obtain⟨_,⟨_,e⟩,_⟩:=x;exact a6b e
theorem Paired.mapP{α e:Type}{F G:α->e->Prop}:∀ {c:List α} {d:List e},Paired F c d->(∀ a b,F a b->G a b)->Paired G c d
 | _,_,.nil,_=>.nil
 | _,_,.cons r t,f=>.cons (f _ _ r) (Paired.mapP t f)
def fE.stay(x:fE P w H h a o)(k:∀ b u,(b=a\/H b=some (.own a))->h.get? b=some u->h'.get? b=some u)
  (m:∀ b,H b=some (.own a)->H' b=some (.own a)) (s:∀ b xs,H b=some (.tup xs)->H' b=some (.tup xs)):fE P w H' h' a o:=by
 induction o with
 | lst xs=>obtain⟨z,i,n,r,e⟩:=x;exact⟨z,i,n,r,k _ _ (.inl rfl) e⟩
 | tup xs=>obtain⟨z,i,r,⟨ob,e,c⟩,⟨j,l,A⟩⟩:=x;exact⟨z,i,r,⟨ob,k _ _ (.inl rfl) e,c⟩,⟨j,k _ _ (.inl rfl) l,A⟩⟩
 | dK kvs=>obtain⟨z,y,vs,r,ob,es,g,e,c⟩:=x;exact⟨z,y,vs,r,ob,es,g,k _ _ (.inl rfl) e,c⟩
 | dT kvs=>
   obtain⟨z,y,xs,r,ob,es,g,e,c⟩:=x;exact⟨z,y,xs,Paired.mapP r λp q z=>⟨z.1,s _ _ z.2.1,z.2.2⟩,ob,es,g,k _ _ (.inl rfl) e,c⟩
 | set S n=>obtain⟨ob,es,g,t,e,c⟩:=x;exact⟨ob,es,g,t,k _ _ (.inl rfl) e,c⟩
 | ins C dx fs=>
   obtain⟨d,z,ne,e,mA,⟨od,es,g,l,c⟩,r⟩:=x;exact⟨m _ d,z,ne,k _ _ (.inl rfl) e,mA,⟨od,es,g,k _ _ (.inr d) l,c⟩,r⟩
 | own y=>obtain⟨ob,e⟩:=x;exact⟨ob,k _ _ (.inl rfl) e⟩
 | xd fs=>obtain⟨mA,⟨od,es,g,e,c⟩,r⟩:=x;exact⟨mA,⟨od,es,g,k _ _ (.inl rfl) e,c⟩,r⟩
 | rng lo hi=>obtain⟨t,u,v,e⟩:=x;exact⟨t,u,v,k _ _ (.inl rfl) e⟩
 | frz ob u B=>obtain⟨e,q⟩:=x;exact⟨k _ _ (.inl rfl) e,B q⟩
 | tbl ps=>
   have e:h.get? a=some {cls:=.none,data:=.fields ps}:=x;show h'.get? a=some {cls:=.none,data:=.fields ps};exact k a _ (.inl rfl) e
 | met f y=>
   have e:h.get? a=some (W.methodObj (.ref f) (.ref y)):=x;show h'.get? a=some (W.methodObj (.ref f) (.ref y));exact k a _ (.inl rfl) e
 | ext φ=>obtain⟨p,⟨o,e⟩,st⟩:=x;exact⟨st _ _ p λo q=>k _ _ (.inl rfl) q,⟨o,k _ _ (.inl rfl) e⟩,st⟩
theorem HOk.lt(x:HOk P w H h)(e:H a=some o):a < h.objs.size:=(x a o e).lt
def HOk.fresh(x:HOk P w H h)(e:h.objs.size<=a):H a=none:=by
 cases q:H a with
 | none=>rfl
 | some u=>exact absurd (a6d (x.lt q) e) (a0f _)
def HOk.kept(x:HOk P w H h)(k:∀ b u,h.get? b=some u->h'.get? b=some u):HOk P w H h':=λa o e=>
 (x a o e).stay (λb u _ q=>k b u q) (λ_ q=>q) λ_ _ q=>q
def HOk.laid(x:HOk P w H h)(k:∀ b u,h.get? b=some u->h'.get? b=some u)(g:h.objs.size<=a)(d:fE P w (upd H a o) h' a o):HOk P w (upd H a o) h':=λb u e=>by
 have hn:=x.fresh g;by_cases f:b=a;subst f;rw[aW]at e;cases e;exact d;rw[aO f]at e;exact(x b u e).stay (λc v _ q=>k c v q) (λc q=>by rw[aO (bH q hn)];exact q) λc xs q=>by rw[aO (bH q hn)];exact q
end
def Rd(H:Hp)(a:Addr)(u:HO):Prop:=H a=some u\/∃ o,H a=some (.frz o u)
theorem Rd.ok{P:Program}{w:World}{H:Hp}{h:Heap}{a:Addr}{u:HO}(r:Rd H a u)(x:HOk P w H h):fE P w H h a u:=by
 rcases r with r | ⟨o,r⟩;exact x a u r;obtain⟨_,q⟩:=x a _ r;exact q
def Mut:Option HO->Prop
 | some (.lst _)=>True
 | some (.dK _)=>True
 | some (.dT _)=>True
 | some (.set _ _)=>True
 | some (.ins _ _ _)=>True
 | some (.ext _)=>True
 | _=>False
section
variable{P:Program}{w:World}{H:Hp}{h h':Heap}{x e:Addr}{o':HO}
def HOk.write(ok:HOk P w H h)(mu:Mut (H x))(m:e=x\/H e=some (.own x))(k:∀ b u,b≠e->h.get? b=some u->h'.get? b=some u)(j:∃ u,h'.get? e=some u)
  (l:fE P w (upd H x o') h' x o'):HOk P w (upd H x o') h':=λb u q=>by
 have d:∀ c y,H c=some (.own y)->c≠x:=λc y r z=>by subst z;rw[r]at mu;exact mu
 have f:∀ c xs,H c=some (.tup xs)->c≠x:=λc xs r z=>by subst z;rw[r]at mu;exact mu
 by_cases g:b=x;subst g;rw[aW]at q;cases q;exact l;rw[aO g]at q;by_cases a:b=e
 ·have n:H b=some (.own x):=by
   rcases m with z | z;exact absurd (a.trans z) g;rw[a];exact z
  rw[q]at n;cases n;obtain⟨v,o⟩:=j;exact⟨v,by rw[a];exact o⟩
 ·refine(ok b u q).stay (λc v i r=>k c v ?_ r) (λc r=>by rw[aO (d c b r)];exact r) λc xs r=>by rw[aO (f c xs r)];exact r
  rcases i with rfl | i;exact a;rintro rfl;rcases m with z | z;exact d c b i z;rw[i]at z;cases z;exact g rfl
end
structure Un(fs ex:List Addr)(H H':Hp)(h h':Heap):Prop where
 keep:∀ b o,h.get? b=some o->H b=none->b∉fs->b∉ex->h'.get? b=some o
 slot:∀ b o,h.get? b=some o->H b=none->b∈fs->b∉ex->∃ sl,h'.get? b=some {o with slots:=sl}
 free:∀ b o,h.get? b=some o->H b=none->b∉ex->H' b=none
 there:∀ b o,h.get? b=some o->b∉ex->∃ o',h'.get? b=some o'
 tups:∀ b xs,H b=some (.tup xs)->H' b=some (.tup xs)
 frzs:∀ b o u,H b=some (.frz o u)->H' b=some (.frz o u)
 tbls:∀ b ps,H b=some (.tbl ps)->∃ more,H' b=some (.tbl (ps++more))
section
variable{fs fs' ex ex':List Addr}{H H1 H2:Hp}{h h1 h2 h':Heap}{a x e:Addr}{o:HO}
def Un.any(u:Un fs ex H H1 h h1){b:Addr}{ob:Obj}(q:h.get? b=some ob)(n:H b=none)(a:b∉ex):∃ sl,h1.get? b=some {ob with slots:=sl}:=by
 by_cases c:b∈fs;exact u.slot b ob q n c a;exact⟨ob.slots,u.keep b ob q n c a⟩
def Un.kept(k:∀ b u,h.get? b=some u->h'.get? b=some u):Un fs ex H H h h':=
 ⟨λb ob q _ _ _=>k b ob q,λb ob q _ _ _=>⟨ob.slots,k b ob q⟩,λ_ _ _ n _=>n,λb ob q _=>⟨ob,k b ob q⟩,λ_ _ q=>q,λ_ _ _ q=>q,λ_ ps q=>⟨#[],by rw[q];simp⟩⟩
def Un.refl:Un fs ex H H h h:=Un.kept λ_ _ q=>q
def Un.laid(k:∀ b u,h.get? b=some u->h'.get? b=some u)(c:h.objs.size<=a)(hn:H a=none):Un fs ex H (upd H a o) h h' where
 keep:=λb u q _ _ _=>k b u q
 slot:=λb u q _ _ _=>⟨u.slots,k b u q⟩
 free:=λb u q n _=>by rw[aO (a1d (a6d (a6b q) c))];exact n
 there:=λb u q _=>⟨u,k b u q⟩
 tups:=λb xs q=>by rw[aO (bH q hn)];exact q
 frzs:=λb u xs q=>by rw[aO (bH q hn)];exact q
 tbls:=λb ps q=>⟨#[],by rw[aO (bH q hn),q];simp⟩
def Un.write(mu:Mut (H x))(g:e=x\/H e=some (.own x))(k:∀ b u,b≠e->h.get? b=some u->h'.get? b=some u)(c:∃ u,h'.get? e=some u):Un fs ex H (upd H x o) h h':=by
 have d:∀ b,H b=none->b≠x:=λb n z=>by subst z;rw[n]at mu;exact mu
 have f:∀ b,H b=none->b≠e:=λb n z=>by
  subst z;rcases g with r | r;exact d b n r;rw[n]at r;cases r
 have hm:∀ b u,H b=some u->¬ Mut (some u)->b≠x:=λb u q i z=>by subst z;rw[q]at mu;exact i mu
 refine⟨λb u q n _ _=>k b u (f b n) q,λb u q n _ _=>⟨u.slots,k b u (f b n) q⟩,λb u q n _=>by rw[aO (d b n)];exact n,λb u q _=>?_,
  λb xs q=>by rw[aO (hm b _ q λz=>z)];exact q,λb u xs q=>by rw[aO (hm b _ q λz=>z)];exact q,λb ps q=>⟨#[],by rw[aO (hm b _ q λz=>z),q];simp⟩⟩
 by_cases a:b=e;subst a;exact c;exact⟨u,k b u a q⟩
end
noncomputable def trk(h:Heap)(H:Hp):List Addr:=(List.range h.objs.size).filter λa=>(H a).isSome
noncomputable def cB0(h:Heap)(H:Hp):Heap:=W.hideAll h (trk h H)
def bL4(h:Heap)(H:Hp):(cB0 h H).objs.size=h.objs.size:=W.hideAll_size _ _
def cB1{h:Heap}{H:Hp}{b:Addr}{o:Obj}(e:h.get? b=some o)(n:H b=none):(cB0 h H).get? b=some o:=
 W.hideAll_get _ e λhm=>by
  have q:(H b).isSome=true:=(List.mem_filter.mp hm).2;rw[n]at q;simp at q
def cR3{h:Heap}{H:Hp}{b:Addr}{o:Obj}(e:(cB0 h H).get? b=some o):h.get? b=some o/\H b=none:=by
 have a:h.get? b=some o:=W.of_hideAll (trk h H) e;refine⟨a,?_⟩;cases q:H b with
 | none=>rfl
 | some x=>
   have hm:b∈trk h H:=List.mem_filter.mpr ⟨a8c.mpr (a6b a),by simp[q]⟩;have z:(cB0 h H).get? b=none:=W.hideAll_none (trk h H) hm;rw[z]at e;cases e
noncomputable def cR4(g h:Heap)(L:Addr):List (Addr×Obj):=(List.range h.objs.size).filterMap λa=>if a=L\/(g.get? a).isSome=true then none else(h.get? a).map λo=>(a,o)
noncomputable def lS(g h:Heap)(L d:Addr):List (Addr×Obj):=(cR4 g h L).filter λp=>decide (p.1≠d)
structure Mod(K:W.Frag)(mg:Str->Option Value)(base:Heap):Prop where
 kin:K.In base
 glob:base.Ns mainGlobals mg
 blt:∃ mb,base.Ns builtinsNs mb/\∀ x:Str,x≠"__name__"->mb x=bootBuiltins x
 nolimit:base.NoLimit
structure Cx where
 prog:Program
 w:World
 K:W.Frag
 mg:Str->Option Value
 base:Heap
 A:Around
 N:List Str
 s₀:Shared
 H₀:Hp
 env:Env
 outer:List Env
 stack:List Env
 ex:List Addr
 fn:Str->Bool
 calm:Bool
 pn:List (Addr×Obj)
 xe:Value->Shared->Prop
noncomputable def frs(l:List Env):List Addr:=l.filterMap (·.frame)
noncomputable abbrev Cx.fs(X:Cx):List Addr:=frs X.outer
def Vis(sc:Scope)(x:Str):Prop:=sc.names.lookup x=some .local\/sc.names.lookup x=some .cell\/sc.names.lookup x=some .free
def Loc(sc:Scope)(x:Str):Prop:=sc.names.lookup x=some .local\/sc.names.lookup x=some .cell
def eD8(env:Env)(h:Heap)(m:Str->Option Value)(x:Str)(u:Value):Prop:=
 (env.kindOf x=some .local/\m x=some u)\/((env.kindOf x=some .cell\/env.kindOf x=some .free)/\∃ c,env.cells.lookup x=some c/\h.IsCell c (some u))
structure Cx.Ok(X:Cx):Prop where
 mod:Mod X.K X.mg X.base
 kind:X.env.scope.kind=.function
 glob:X.env.globals=mainGlobals
 blt:X.env.builtins=builtinsNs
 above:X.s₀.heap.objs.size<=X.env.locals
 inj:∀ x y c,X.env.cells.lookup x=some c->X.env.cells.lookup y=some c->x=y
 has:∀ x,(X.env.kindOf x=some .cell\/X.env.kindOf x=some .free)->∃ c,X.env.cells.lookup x=some c
 cab:∀ x c,X.fn x=true->X.env.cells.lookup x=some c->X.s₀.heap.objs.size<=c
 hd:X.calm=true->X.A.handled=none
 frames:X.A.frames=some X.stack
 stk:X.stack=X.outer\/(X.stack=X.env::X.outer/\X.env.frame=some X.env.locals)
 exf:∀ b∈X.ex,b≠X.env.locals/\∀ x c,X.env.cells.lookup x=some c->c≠b
 bs:∀ b o,X.base.get? b=some o->X.s₀.heap.get? b=some o/\X.H₀ b=none
 bsz:X.base.objs.size<=X.s₀.heap.objs.size
 noex:∀ b o,X.base.get? b=some o->b∉X.ex
 exfs:∀ b∈X.ex,b∉X.fs
 funs:X.s₀.heap.FunFrames X.base X.outer
 frf:∀ b∈X.fs,X.H₀ b=none
structure Inv(X:Cx)(pins:List (Addr×Obj))(σ:List (Option V))(H:Hp)(s:Shared):Prop where
 ok:X.Ok
 os:s.os=X.s₀.os
 bare:AllBare s.gens
 base:Un X.fs X.ex X.H₀ H X.s₀.heap s.heap
 loc:∃ m,s.heap.Ns X.env.locals m/\∀ (i:Nat) (x:Str) (v:V),X.N[i]? = some x->σ[i]? = some (some v)->Vis X.env.scope x->∃ u,gC v u/\eD8 X.env s.heap m x u
 cell:∀ x c,X.env.cells.lookup x=some c->∃ v,s.heap.IsCell c v
 free:H X.env.locals=none
 freeC:∀ x c,X.env.cells.lookup x=some c->H c=none
 pin:∀ p∈X.pn++pins,s.heap.get? p.1=some p.2/\H p.1=none/\p.1≠X.env.locals/\p.1∉X.fs/\∀ v,p.2.data≠.cell v
 hok:HOk X.prog X.w H s.heap
 len:σ.length=X.N.length
section
variable{X:Cx}{pins:List (Addr×Obj)}{σ:List (Option V)}{H H':Hp}{s:Shared}{h':Heap}
def Cx.Ok.nofr(ok:X.Ok){b:Addr}{o:Obj}(e:X.base.get? b=some o):b∉X.fs:=λa=>by
 have:=(ok.funs.mem a).1;rw[e]at this;cases this
theorem Inv.bs(I:Inv X pins σ H s):∀ b o,X.base.get? b=some o->s.heap.get? b=some o/\H b=none:=λb o e=>
 ⟨I.base.keep b o (I.ok.bs b o e).1 (I.ok.bs b o e).2 (I.ok.nofr e) (I.ok.noex b o e),I.base.free b o (I.ok.bs b o e).1 (I.ok.bs b o e).2 (I.ok.noex b o e)⟩
def Inv.bk(I:Inv X pins σ H s):∀ b o,X.base.get? b=some o->s.heap.get? b=some o:=λb o e=>(I.bs b o e).1
theorem Inv.mod(I:Inv X pins σ H s):Mod X.K X.mg X.base:=I.ok.mod
def Inv.kIn(I:Inv X pins σ H s):X.K.In s.heap:=I.ok.mod.kin.keeps I.bk
theorem Inv.lt(I:Inv X pins σ H s):X.env.locals < s.heap.objs.size:=let ⟨_,hn,_⟩:=I.loc;hn.lt
def Inv.sz(I:Inv X pins σ H s):X.s₀.heap.objs.size<=s.heap.objs.size:=a6c I.ok.above (a1i I.lt)
def Inv.nofs(I:Inv X pins σ H s){a:Addr}(h:s.heap.objs.size<=a):a∉X.fs:=λb=>by
 obtain⟨_,o,c,_⟩:=I.ok.funs.mem b;exact absurd (a6d (a6b c) (a6c I.sz h)) (a0f _)
def Inv.cne(I:Inv X pins σ H s):∀ x c,X.env.cells.lookup x=some c->c≠X.env.locals:=λx c e z=>by
 obtain⟨v,o,d,hd⟩:=I.cell x c e;obtain⟨m,⟨o',es,f,a,b,_⟩,_⟩:=I.loc;rw[z,a]at d;cases d;rw[b]at hd;cases hd
theorem Inv.funs(I:Inv X pins σ H s):s.heap.FunFrames X.base X.outer:=by
 have all:∀ (l:List Env),(∀ b∈frs l,b∈X.fs)->X.s₀.heap.FunFrames X.base l->s.heap.FunFrames X.base l:=by
  intro l
  induction l with
  | nil=>intro _ _;trivial
  | cons env r g=>
    intro f h;obtain⟨i,⟨L,o,a,hn,j,hd⟩,k⟩:=h;have c:L∈X.fs:=f L (by unfold frs;rw[List.filterMap_cons,a];exact a3a);obtain⟨sl,e⟩:=I.base.slot L o j (I.ok.frf L c) c λz=>I.ok.exfs L z c;exact⟨i,⟨L,_,a,hn,e,hd⟩,g (λb d=>f b (by unfold frs;rw[List.filterMap_cons,a];exact a4a _ d)) k⟩
 exact all X.outer (λ_ d=>d) I.ok.funs
theorem Inv.stack(I:Inv X pins σ H s):s.heap.FunFrames X.base X.stack:=by
 rcases I.ok.stk with e | ⟨e,a⟩;rw[e];exact I.funs;rw[e];obtain⟨m,hn,_⟩:=I.loc;refine .cons (by rw[I.ok.kind];decide) a hn ?_ I.funs;exact Heap.get?_none_of_le (a6c I.ok.bsz I.ok.above)
def Inv.stkSub(I:Inv X pins σ H s):∀ b∈frs X.stack,b∈X.env.locals::X.fs:=λb a=>by
 rcases I.ok.stk with e | ⟨e,c⟩;rw[e]at a;exact a4a _ a;rw[e]at a;unfold frs at a;rw[List.filterMap_cons,c]at a;exact a
def Inv.stkFree(I:Inv X pins σ H s):∀ b∈frs X.stack,H b=none:=λb a=>by
 rcases a4b.mp (I.stkSub b a)with e | a;rw[e];exact I.free;obtain⟨_,o,c,_⟩:=I.ok.funs.mem a;exact I.base.free b o c (I.ok.frf b a) λz=>I.ok.exfs b z a
def Inv.step{g':Array GenState}{t':Nat}{d':Drawn}{ch:List Addr}(I:Inv X pins σ H s)
  (f:∀ b∈ch,(b∈X.ex\/X.s₀.heap.objs.size<=b)/\b≠X.env.locals/\(∀ x c,X.env.cells.lookup x=some c->c≠b)/\∀ p∈X.pn++pins,p.1≠b)
  (keep:∀ b o,b≠X.env.locals->b∉X.fs->b∉ch->s.heap.get? b=some o->H b=none->h'.get? b=some o)
  (slot:∀ b o,b≠X.env.locals->b∈X.fs->b∉ch->s.heap.get? b=some o->H b=none->∃ sl,h'.get? b=some {o with slots:=sl}) (free:∀ b o,b∉ch->s.heap.get? b=some o->H b=none->H' b=none)
  (there:∀ b o,b∉ch->s.heap.get? b=some o->∃ o',h'.get? b=some o')
  (tups:∀ b xs,H b=some (.tup xs)->H' b=some (.tup xs)) (frzs:∀ b o u,H b=some (.frz o u)->H' b=some (.frz o u)) (tbls:∀ b ps,H b=some (.tbl ps)->∃ more,H' b=some (.tbl (ps++more)))
  (ns:∀ m,s.heap.Ns X.env.locals m->h'.Ns X.env.locals m) (hok:HOk X.prog X.w H' h') (J:AllBare g') :
  Inv X pins σ H' {s with heap:=h',gens:=g',drawn:=d',toks:=t'}:=by
 have B:∀ b o,X.s₀.heap.get? b=some o->b≠X.env.locals:=λb o e=>a1d (a6d (a6b e) I.ok.above);have j:∀ b o,X.s₀.heap.get? b=some o->b∉X.ex->b∉ch:=λb o e a y=>by
  rcases(f b y).1 with z | z;exact a z;exact absurd (a6d (a6b e) z) (a0f _)
 have g:∀ x c,X.env.cells.lookup x=some c->∀ v,s.heap.IsCell c v->h'.IsCell c v:=λx c e v ⟨o,A,hd⟩=>by
  have h:c∉ch:=λz=>(f c z).2.2.1 x c e rfl;by_cases E:c∈X.fs;obtain⟨sl,q⟩:=slot c o (I.cne x c e) E h A (I.freeC x c e);exact⟨_,q,hd⟩;exact⟨o,keep c o (I.cne x c e) E h A (I.freeC x c e),hd⟩
 refine⟨I.ok,I.os,J,⟨λb o e n y a=>?_,λb o e n y a=>?_,λb o e n a=>?_,λb o e a=>?_,λb xs e=>tups b xs (I.base.tups b xs e),λb o xs e=>frzs b o xs (I.base.frzs b o xs e),λb ps e=>?_⟩,?_,λx c e=>?_,?_,λx c e=>?_,λp F=>?_,hok,I.len⟩;exact keep b o (B b o e) y (j b o e a) (I.base.keep b o e n y a) (I.base.free b o e n a);obtain⟨sl,t⟩:=I.base.slot b o e n y a;obtain⟨D,C⟩:=slot b _ (B b o e) y (j b o e a) t (I.base.free b o e n a);exact⟨D,C⟩;obtain⟨o',t⟩:=I.base.there b o e a;exact free b o' (j b o e a) t (I.base.free b o e n a);obtain⟨o',t⟩:=I.base.there b o e a;exact there b o' (j b o e a) t;obtain⟨K,t⟩:=I.base.tbls b ps e;obtain⟨L,C⟩:=tbls b _ t;exact⟨K++L,by rw[C,Array.append_assoc]⟩;obtain⟨m,hn,M⟩:=I.loc;refine⟨m,ns m hn,λi x v t C N=>?_⟩;obtain⟨u,r,l⟩:=M i x v t C N;refine⟨u,r,?_⟩;rcases l with l | ⟨k,c,e,z⟩;exact .inl l;exact .inr ⟨k,c,e,g x c e _ z⟩;obtain⟨v,z⟩:=I.cell x c e;exact⟨v,g x c e v z⟩;obtain⟨m,⟨o,_,_,A,_⟩,_⟩:=I.loc;exact free _ o (λz=>(f _ z).2.1 rfl) A I.free;obtain⟨v,o,A,hd⟩:=I.cell x c e;exact free c o (λz=>(f c z).2.2.1 x c e rfl) A (I.freeC x c e);obtain⟨e,n,ne,G,d⟩:=I.pin p F;have h:p.1∉ch:=λz=>(f p.1 z).2.2.2 p F rfl;exact⟨keep p.1 p.2 ne G h e n,free p.1 p.2 h e n,ne,G,d⟩
def Inv.un{t':Nat}(I:Inv X pins σ H s)(u:Un X.fs [] H H' s.heap h')(hok:HOk X.prog X.w H' h'):Inv X pins σ H' {s with heap:=h',toks:=t'}:=by
 obtain⟨m,⟨o,es,j,g,r⟩,_⟩:=id I.loc;obtain⟨sl,h⟩:=u.any g I.free (by simp);exact I.step (g':=s.gens) (d':=s.drawn) (ch:=[]) (λ_ z=>nomatch z) (λb o _ c _ e n=>u.keep b o e n c (by simp)) (λb o _ c _ e n=>u.slot b o e n c (by simp)) (λb o _ e n=>u.free b o e n (by simp)) (λb o _ e=>u.there b o e (by simp)) u.tups u.frzs u.tbls (λk hm=>by
  obtain⟨o',d,f,a,i⟩:=hm;rw[g]at a;cases a;exact⟨_,d,f,h,i⟩) hok I.bare
def Inv.call{g':Array GenState}{t':Nat}{d':Drawn}{ch:List Addr}(I:Inv X pins σ H s)(u:Un (frs X.stack) ch H H' s.heap h')(hok:HOk X.prog X.w H' h')(k:AllBare g')
  (d:∀ b∈ch,(b∈X.ex\/X.s₀.heap.objs.size<=b)/\b≠X.env.locals/\(∀ x c,X.env.cells.lookup x=some c->c≠b)/\∀ p∈X.pn++pins,p.1≠b) :
  Inv X pins σ H' {s with heap:=h',gens:=g',drawn:=d',toks:=t'}:=by
 obtain⟨m,⟨o,es,t,j,r⟩,_⟩:=id I.loc;obtain⟨sl,g⟩:=u.any j I.free λz=>(d _ z).2.1 rfl;exact I.step (ch:=ch) d (λb o g l a e n=>u.keep b o e n (λz=>(a4b.mp (I.stkSub b z)).elim g l) a) (λb o _ _ a e n=>u.any e n a) (λb o a e n=>u.free b o e n a) (λb o a e=>u.there b o e a) u.tups u.frzs u.tbls (λv hm=>by
  obtain⟨o',h,i,f,q⟩:=hm;rw[j]at f;cases f;exact⟨_,h,i,g,q⟩) hok k
def Inv.turned{t':Nat}{it:Addr}(I:Inv X pins σ H s)(k:∀ b o,b≠it->s.heap.get? b=some o->h'.get? b=some o)(hn:H it=none)(f:it≠X.env.locals)
  (g:it∈X.ex\/X.s₀.heap.objs.size<=it) (h:∀ x c,X.env.cells.lookup x=some c->c≠it) (i:∀ p∈X.pn++pins,p.1≠it):Inv X pins σ H {s with heap:=h',toks:=t'}:=by
 have d:∀ b u,H b=some u->b≠it:=λb u e z=>by rw[z,hn]at e;cases e
 refine I.step (g':=s.gens) (d':=s.drawn) (ch:=[it]) (λb j=>?_) (λb o _ _ a e _=>k b o (λz=>a (by simp[z])) e) (λb o _ _ a e _=>⟨o.slots,k b o (λz=>a (by simp[z])) e⟩) (λ_ _ _ _ n=>n)
  (λb o a e=>⟨o,k b o (λz=>a (by simp[z])) e⟩) (λ_ _ e=>e) (λ_ _ _ e=>e) (λb ps e=>⟨#[],by rw[e];simp⟩) (λm hm=>?_) (λb u e=>?_) I.bare
 ·have e:b=it:=by simpa using j
  subst e;exact⟨g,f,h,i⟩
 ·obtain⟨o,es,l,t,r⟩:=hm;exact⟨o,es,l,k _ o (a3e f) t,r⟩
 ·refine(I.hok b u e).stay (λc v a q=>k c v ?_ q) (λ_ q=>q) λ_ _ q=>q;rcases a with z | z;rw[z];exact d b u e;exact d c _ z
def Inv.tok(I:Inv X pins σ H s)(t:Nat):Inv X pins σ H {s with toks:=t}:=I.un (h':=s.heap) (t':=t) Un.refl I.hok
theorem Inv.kept{t':Nat}(I:Inv X pins σ H s)(k:∀ b u,s.heap.get? b=some u->h'.get? b=some u):Inv X pins σ H {s with heap:=h',toks:=t'}:=I.un (Un.kept k) (I.hok.kept k)
theorem Inv.laid{a:Addr}{o:HO}{t':Nat}(I:Inv X pins σ H s)(k:∀ b u,s.heap.get? b=some u->h'.get? b=some u)(c:s.heap.objs.size<=a)(d:fE X.prog X.w (upd H a o) h' a o) :
  Inv X pins σ (upd H a o) {s with heap:=h',toks:=t'}:=I.un (Un.laid k c (I.hok.fresh c)) (I.hok.laid k c d)
theorem Inv.write{x e:Addr}{o:HO}{t':Nat}(I:Inv X pins σ H s)(mu:Mut (H x))(d:e=x\/H e=some (.own x))(k:∀ b u,b≠e->s.heap.get? b=some u->h'.get? b=some u)(a:∃ u,h'.get? e=some u)
  (c:fE X.prog X.w (upd H x o) h' x o):Inv X pins σ (upd H x o) {s with heap:=h',toks:=t'}:=I.un (Un.write mu d k a) (I.hok.write mu d k a c)
def Inv.weak{σ':List (Option V)}(I:Inv X pins σ H s)(b:σ'.length=σ.length)(w:∀ (i:Nat) v,σ'[i]? = some (some v)->σ[i]? = some (some v)):Inv X pins σ' H s:=
 ⟨I.ok,I.os,I.bare,I.base,let ⟨m,hn,a⟩:=I.loc;⟨m,hn,λi x v c d e=>a i x v c (w i v d) e⟩,I.cell,I.free,I.freeC,I.pin,I.hok,b.trans I.len⟩
def Inv.pins_of{a:List (Addr×Obj)}(I:Inv X pins σ H s)(h:∀ p∈a,s.heap.get? p.1=some p.2/\H p.1=none/\p.1≠X.env.locals/\p.1∉X.fs/\∀ v,p.2.data≠.cell v):Inv X a σ H s:=
 ⟨I.ok,I.os,I.bare,I.base,I.loc,I.cell,I.free,I.freeC,λp b=>(a3b.mp b).elim (λz=>I.pin p (a7d _ z)) (h p),I.hok,I.len⟩
def aZ3{N:List Str}(c:N.Nodup){i j:Nat}{x:Str}(a:N[i]? = some x)(b:N[j]? = some x):i=j:=by
 obtain⟨f,d⟩:=a2a.mp a;obtain⟨g,e⟩:=a2a.mp b;exact(List.getElem_inj c).mp (d.trans e.symm)
def aK2{M:Model}{A:Around}{E:Value->Shared->Prop}{i:Nat}{x:Str}{v:V}{u:Value}{Q:Unit->Shared->Prop}(I:Inv X pins σ H s)(hN:X.N.Nodup)(hi:X.N[i]? = some x)(B:Loc X.env.scope x)(r:gC v u)
  (h:∀ s',Inv X pins (σ.set i (some v)) H s'->(∃ a,Heap.SameBut a s.heap s'.heap/\(a=X.env.locals\/X.env.cells.lookup x=some a))->Q () s') (hf:X.fn x=true\/X.env.scope.names.lookup x=some .local:=by first | exact .inl rfl | exact .inr rfl | assumption):wpAny M A (storeName X.env x u) Q E s:=by
 obtain⟨m,hn,hl⟩:=id I.loc;have O:(X.env.scope.kind==.class||(X.env.scope.kind==.module&&X.env.locals != X.env.globals))=false:=by rw[I.ok.kind];rfl
 have F:i < σ.length:=by rw[I.len];exact(a2a.mp hi).1
 have cne:=I.cne;have g:∀ {a:Addr} {h':Heap},(∃ o,s.heap.get? a=some o/\H a=none)->Heap.SameBut a s.heap h'->HOk X.prog X.w H h':=λ{a h'} ha f b ob e=>by
  obtain⟨_,_,C⟩:=ha;refine(I.hok b ob e).stay (λc U t q=>(f.2 c ?_).trans q) (λ_ q=>q) λ_ _ q=>q;rintro rfl;rcases t with rfl | t;rw[C]at e;cases e;rw[C]at t;cases t
 rcases B with G | G
 ·refine wpAny_storeName_local G hn (λh' Y f=>?_) O;obtain⟨oL,_,_,Z,_⟩:=id hn;refine h _ ⟨I.ok,I.os,I.bare,⟨λb o e n J B=>?_,λb o e n J B=>?_,I.base.free,λb o e B=>?_,I.base.tups,I.base.frzs,I.base.tbls⟩,⟨_,Y,λj y v' l D e3=>?_⟩,λy c e=>?_,I.free,I.freeC,λp hp=>?_,g ⟨oL,Z,I.free⟩ f,by simpa using I.len⟩ ⟨_,f,.inl rfl⟩;exact(f.2 b (a1d (a6d (a6b e) I.ok.above))).trans (I.base.keep b o e n J B);obtain⟨sl,l⟩:=I.base.slot b o e n J B;exact⟨sl,(f.2 b (a1d (a6d (a6b e) I.ok.above))).trans l⟩;obtain⟨o',l⟩:=I.base.there b o e B;exact⟨o',(f.2 b (a1d (a6d (a6b e) I.ok.above))).trans l⟩;by_cases K:j=i;subst K;rw[hi]at l;cases l;rw[a7c F]at D;cases D;exact⟨u,r,.inl ⟨G,by simp⟩⟩;rw[a9a (a3e K)]at D;obtain⟨u',r',q⟩:=hl j y v' l D e3;refine⟨u',r',?_⟩;rcases q with⟨k,e⟩ | ⟨k,c,e,z⟩;refine .inl ⟨k,?_⟩;have:y≠x:=λe=>K (aZ3 hN l (e ▸ hi));simp[this,e];exact .inr ⟨k,c,e,z.sameBut f (cne y c e)⟩;obtain⟨U,z⟩:=I.cell y c e;exact⟨U,z.sameBut f (cne y c e)⟩;obtain⟨e,n,ne,nf,d⟩:=I.pin p hp;exact⟨(f.2 p.1 ne).trans e,n,ne,nf,d⟩
 ·have L:X.fn x=true:=by
   rcases hf with z | z;exact z;rw[z]at G;cases G
  obtain⟨c,t⟩:=I.ok.has x (.inl G);obtain⟨U,z⟩:=I.cell x c t;refine wpAny_storeName_cell I.ok.kind G t z (λh' P f=>?_);obtain⟨oc,R,S⟩:=id z;refine h {s with heap:=h'} ⟨I.ok,I.os,I.bare,⟨λb o e n J B=>?_,λb o e n J B=>?_,I.base.free,λb o e B=>?_,I.base.tups,I.base.frzs,I.base.tbls⟩,⟨m,hn.sameBut f (a3e (cne x c t)),λj y v' l D e3=>?_⟩,λy W e=>?_,I.free,I.freeC,λp hp=>?_,g ⟨oc,R,I.freeC x c t⟩ f,by simpa using I.len⟩ ⟨c,f,.inr t⟩;exact(f.2 b (a1d (a6d (a6b e) (I.ok.cab x c L t)))).trans (I.base.keep b o e n J B);obtain⟨sl,l⟩:=I.base.slot b o e n J B;exact⟨sl,(f.2 b (a1d (a6d (a6b e) (I.ok.cab x c L t)))).trans l⟩;obtain⟨o',l⟩:=I.base.there b o e B;exact⟨o',(f.2 b (a1d (a6d (a6b e) (I.ok.cab x c L t)))).trans l⟩;by_cases K:j=i;subst K;rw[hi]at l;cases l;rw[a7c F]at D;cases D;exact⟨u,r,.inr ⟨.inl G,c,t,P⟩⟩;rw[a9a (a3e K)]at D;obtain⟨u',r',q⟩:=hl j y v' l D e3;refine⟨u',r',?_⟩;rcases q with q | ⟨k,W,e,z'⟩;exact .inl q;refine .inr ⟨k,W,e,z'.sameBut f ?_⟩;rintro rfl;exact K (aZ3 hN l (I.ok.inj _ _ _ e t ▸ hi));by_cases T:W=c;subst T;exact⟨_,P⟩;obtain⟨w2,z2⟩:=I.cell y W e;exact⟨w2,z2.sameBut f T⟩;obtain⟨e,n,ne,nf,d⟩:=I.pin p hp;refine⟨(f.2 p.1 ?_).trans e,n,ne,nf,d⟩;intro q;rw[q,R]at e;have q':oc=p.2:=a0b e;exact d U (by rw[← q'];exact S)
def sR{M:Model}{A:Around}{E:Value->Shared->Prop}{i:Nat}{x:Str}{v:V}{u:Value}{Q:Unit->Shared->Prop}(I:Inv X pins σ H s)(a:X.N.Nodup)(hi:X.N[i]? = some x)(b:Loc X.env.scope x)(r:gC v u)
  (h:∀ s',Inv X pins (σ.set i (some v)) H s'->Q () s') (c:X.fn x=true\/X.env.scope.names.lookup x=some .local:=by first | exact .inl rfl | exact .inr rfl | assumption):wpAny M A (storeName X.env x u) Q E s:=
 aK2 I a hi b r (λs' d _=>h s' d) c
def Inv.call'{s':Shared}{ch:List Addr}(I:Inv X pins σ H s)(d:s'.os=s.os)(u:Un (frs X.stack) ch H H' s.heap s'.heap)(hok:HOk X.prog X.w H' s'.heap)(f:AllBare s'.gens)
  (a:∀ b∈ch,(b∈X.ex\/X.s₀.heap.objs.size<=b)/\b≠X.env.locals/\(∀ x c,X.env.cells.lookup x=some c->c≠b)/\∀ p∈X.pn++pins,p.1≠b):Inv X pins σ H' s':=by
 obtain⟨h',g',d',t',o'⟩:=s';have e:o'=s.os:=d;subst e;exact I.call (g':=g') (t':=t') (d':=d') u hok f a
end
abbrev XK:=Value->Option Addr->Hp->Prop
abbrev St:=List (Option V)
abbrev VK:=V->Hp->Prop
abbrev TE:=St->Hp->VK->Prop
abbrev TT:=St->Hp->(Bool->Hp->Prop)->Prop
abbrev TA:=St->Hp->(List V->Hp->Prop)->Prop
structure Ends where
 nx:St->Hp->Prop
 rt:VK
 bk:St->Hp->Prop:=λ_ _=>False
 ct:St->Hp->Prop:=λ_ _=>False
abbrev TS:=Ends->St->Hp->Prop
def EP(X:Cx)(pins:List (Addr×Obj))(σ:St)(Q:VK)(u:Value)(s':Shared):Prop:=∃ v H',Inv X pins σ H' s'/\gC v u/\Q v H'
def TP(X:Cx)(pins:List (Addr×Obj))(σ:St)(Q:Bool->Hp->Prop)(b:Bool)(s':Shared):Prop:=∃ H',Inv X pins σ H' s'/\Q b H'
def AP(X:Cx)(pins:List (Addr×Obj))(σ:St)(Q:List V->Hp->Prop)(us:List Value)(s':Shared):Prop:=∃ vs H',Inv X pins σ H' s'/\dD vs us/\Q vs H'
def SP(X:Cx)(pins:List (Addr×Obj))(D:Ends)(f:Flow)(s':Shared):Prop:=
 match f with
 | .next=>∃ σ' H',Inv X pins σ' H' s'/\D.nx σ' H'
 | .brk=>∃ σ' H',Inv X pins σ' H' s'/\D.bk σ' H'
 | .cont=>∃ σ' H',Inv X pins σ' H' s'/\D.ct σ' H'
 | .ret u=>∃ v σ' H',Inv X pins σ' H' s'/\gC v u/\D.rt v H'
def PE(X:Cx)(e:Expr)(t:TE):Prop:=
 ∀ (pins:List (Addr×Obj)) (s:Shared) (σ:St) (H:Hp) (Q:VK),Inv X pins σ H s->t σ H Q->wpAny (model X.prog X.w) X.A (eval e X.env) (EP X pins σ Q) X.xe s
def PT(X:Cx)(e:Expr)(t:TT):Prop:=
 ∀ (pins:List (Addr×Obj)) (s:Shared) (σ:St) (H:Hp) (Q:Bool->Hp->Prop),Inv X pins σ H s->t σ H Q->wpAny (model X.prog X.w) X.A (isTrue e X.env (eval e X.env)) (TP X pins σ Q) X.xe s
def PW(X:Cx)(e:Expr)(t:TT):Prop:=
 ∀ (a:Sem Value) (pins:List (Addr×Obj)) (s:Shared) (σ:St) (H:Hp) (Q:Bool->Hp->Prop),Inv X pins σ H s->t σ H Q->wpAny (model X.prog X.w) X.A (isTrue e X.env a) (TP X pins σ Q) X.xe s
def PW.pt{X:Cx}{e:Expr}{t:TT}(h:PW X e t):PT X e t:=h _
def PA(X:Cx)(es:List Expr)(t:TA):Prop:=
 ∀ (a:Pos) (pins:List (Addr×Obj)) (s:Shared) (σ:St) (H:Hp) (Q:List V->Hp->Prop),Inv X pins σ H s->t σ H Q->wpAny (model X.prog X.w) X.A (spliced (backTo a (starEach es X.env))) (AP X pins σ Q) X.xe s
def PS(X:Cx)(st:Stmt)(t:TS):Prop:=
 ∀ (pins:List (Addr×Obj)) (s:Shared) (σ:St) (H:Hp) (D:Ends),Inv X pins σ H s->t D σ H->wpAny (model X.prog X.w) X.A (exec st X.env) (SP X pins D) X.xe s
def PSs(X:Cx)(st:List Stmt)(t:TS):Prop:=
 ∀ (pins:List (Addr×Obj)) (s:Shared) (σ:St) (H:Hp) (D:Ends),Inv X pins σ H s->t D σ H->wpAny (model X.prog X.w) X.A (execs st X.env) (SP X pins D) X.xe s
def thn{α:Type}{t:Sem α}{Q b:α->Shared->Prop}{M:Model}{A:Around}{E:Value->Shared->Prop}{s:Shared}(h:wpAny M A t Q E s)(c:∀ a s,Q a s->b a s):wpAny M A t b E s:=a3Y h c λ_ _ x=>x
section
variable{X:Cx}
def bK8(i:Nat):TE:=λσ H Q=>∃ v,σ[i]? = some (some v)/\Q v H
def tC(v:V):TE:=λ_ H Q=>Q v H
def dG2{i:Nat}{x:Str}{pos:Pos}(g:X.N[i]? = some x)(j:Vis X.env.scope x)(hd:(x==("__debug__":Str))=false:=by decide)(d:(x==("__classdict__":Str))=false:=by decide):PE X (.Name x pos) (bK8 i):=by
 intro pins s σ H Q I h;obtain⟨v,e,h⟩:=h;obtain⟨m,hn,k⟩:=I.loc;obtain⟨u,r,l⟩:=k i x v g e j;have fin:EP X pins σ Q u s:=⟨v,H,I,r,h⟩;rcases l with⟨b,hm⟩ | ⟨b,c,f,a⟩;exact wpAny_Name (wpAny_loadName_local I.ok.kind b hn hm fin) hd;rcases b with b | b;exact wpAny_Name (wpAny_loadName_cell I.ok.kind b f a fin) hd;exact wpAny_Name (wpAny_loadName_free I.ok.kind b f a fin d) hd
def gH{i j pos}:PE X (.Constant (.int i) j pos) (tC (.int i)):=λ_ _ _ H _ I h=>wpAny_Constant_int ⟨.int i,H,I.tok _,⟨_,rfl⟩,h⟩
def dW1{b j pos}:PE X (.Constant (.bool b) j pos) (tC (.bl b)):=λ_ _ _ H _ I h=>Constant_bool ⟨.bl b,H,I,rfl,h⟩
def dG3{j pos}:PE X (.Constant .none j pos) (tC .non):=λ_ _ _ H _ I h=>Constant_none ⟨.non,H,I,rfl,h⟩
def cK4{x j pos}:PE X (.Constant (.str x) j pos) (tC (.str x)):=λ_ _ _ H _ I h=>Calls.Constant_str ⟨.str x,H,I.tok _,⟨_,rfl⟩,h⟩
def Gl(X:Cx)(x:Str):Prop:=X.env.kindOf x=some .globalImplicit
def bL5{E:Value->Shared->Prop}{pins:List (Addr×Obj)}{s:Shared}{σ:St}{H:Hp}{x:Str}{u:Value}{pos:Pos}{Q:Value->Shared->Prop}(I:Inv X pins σ H s)(a:Gl X x)(hm:X.mg x=some u)(h:Q u s)
  (hd:(x==("__debug__":Str))=false:=by decide):wpAny (model X.prog X.w) X.A (eval (.Name x pos) X.env) Q E s:=
 Calls.Name_function_global I.ok.kind a (Calls.loadGlobal_global (by rw[I.ok.glob];exact I.mod.glob.keeps I.bk) hm h) hd
def nA{E:Value->Shared->Prop}{pins:List (Addr×Obj)}{s:Shared}{σ:St}{H:Hp}{x:Str}{u:Value}{pos:Pos}{Q:Value->Shared->Prop}(I:Inv X pins σ H s)(a:Gl X x)(hm:X.mg x=none)(b:bootBuiltins x=some u)(h:Q u s)
  (hn:x≠"__name__":=by decide) (hd:(x==("__debug__":Str))=false:=by decide):wpAny (model X.prog X.w) X.A (eval (.Name x pos) X.env) Q E s:=by
 obtain⟨mb,c,d⟩:=I.mod.blt;exact Calls.Name_function_global I.ok.kind a (Calls.loadGlobal_builtin (by rw[I.ok.glob];exact I.mod.glob.keeps I.bk) hm (by rw[I.ok.blt];exact c.keeps I.bk) ((d x hn).trans b) h) hd
def cR5{x:Str}{v:V}{u:Value}{pos:Pos}(a:Gl X x)(hm:X.mg x=some u)(r:gC v u)(hd:(x==("__debug__":Str))=false:=by decide):PE X (.Name x pos) (tC v):=
 λ_ _ _ H _ I h=>bL5 I a hm ⟨v,H,I,r,h⟩ hd
def bL6{x:Str}{v:V}{u:Value}{pos:Pos}(a:Gl X x)(hm:X.mg x=none)(b:bootBuiltins x=some u)(r:gC v u)(hn:x≠"__name__":=by decide)(hd:(x==("__debug__":Str))=false:=by decide):PE X (.Name x pos) (tC v):=
 λ_ _ _ H _ I h=>nA I a hm b ⟨v,H,I,r,h⟩ hn hd
variable{a b:Expr}{ta tb:TE}{pos:Pos}
def tB(t:TE):TT:=λσ H Q=>t σ H λx a=>∃ c,x=.bl c/\Q c a
def dG4{e:Expr}{t:TE}(h:PE X e t)(b:∀ a,isTrue e X.env a=(do let v ← a;standAt e.pos;holding [v] (truthy v)):=by intro _;rfl):PT X e (tB t):=by
 intro pins s σ H Q I c;refine isTrue_plain (thn (h pins s σ H _ I c) λv s1 Z0=>?_) (b _);obtain⟨x,f,g,i,j⟩:=Z0;obtain⟨d,rfl,q⟩:=j;cases i;exact a4i ⟨f,g,q⟩
variable{tA tB':TT}{lS:List Expr}
def eB3(t u:TT):TT:=λσ H Q=>t σ H λc a=>if c=true then u σ a Q else Q false a
def tOr(t u:TT):TT:=λσ H Q=>t σ H λc a=>if c=true then Q true a else u σ a Q
def eB4(t:TT):TT:=λσ H Q=>t σ H λc a=>Q (!c) a
def aS9(ha:PT X a tA):PW X (.BoolOp .And [a] pos) tA:=by
 intro b pins s σ H Q I h;refine isTrue_and (thn (ha pins s σ H Q I h) λc s1 e=>?_);cases c with
 | true=>exact isTrue_and_nil e
 | false=>exact e
def dG5(ha:PT X a tA):PW X (.BoolOp .Or [a] pos) tA:=by
 intro b pins s σ H Q I h;refine isTrue_or (thn (ha pins s σ H Q I h) λc s1 e=>?_);cases c with
 | false=>exact isTrue_or_nil e
 | true=>exact e
def aZ4(ha:PT X a tA)(g:PW X (.BoolOp .And (b::lS) pos) tB'):PW X (.BoolOp .And (a::b::lS) pos) (eB3 tA tB'):=by
 intro i pins s σ H Q I h;refine isTrue_and (thn (ha pins s σ H _ I h) λc s1 Z0=>?_);obtain⟨d,e,f⟩:=Z0;cases c with
 | true=>exact g i pins s1 σ d Q e f
 | false=>exact⟨d,e,f⟩
def dW2(ha:PT X a tA)(g:PW X (.BoolOp .Or (b::lS) pos) tB'):PW X (.BoolOp .Or (a::b::lS) pos) (tOr tA tB'):=by
 intro i pins s σ H Q I h;refine isTrue_or (thn (ha pins s σ H _ I h) λc s1 Z0=>?_);obtain⟨d,e,f⟩:=Z0;cases c with
 | true=>exact⟨d,e,f⟩
 | false=>exact g i pins s1 σ d Q e f
def dG6(ha:PT X a tA):PT X (.UnaryOp .Not a pos) (eB4 tA):=by
 intro pins s σ H Q I h;exact isTrue_not (ha pins s σ H (λc b=>Q (!c) b) I h)
def dG7(ta tb:TE):TE:=λσ H Q=>ta σ H λx a=>∃ c,x=.bl c/\if c=true then tb σ a Q else Q (.bl false) a
def eB5(ta tb:TE):TE:=λσ H Q=>ta σ H λx a=>∃ c,x=.bl c/\if c=true then Q (.bl true) a else tb σ a Q
def dW3(ta:TE):TE:=λσ H Q=>ta σ H λx a=>∃ c,x=.bl c/\Q (.bl (!c)) a
def dG8{op}{t:TE}(h:PE X a t):PE X (.BoolOp op [a] pos) t:=λpins s σ H Q I b=>BoolOp_one (h pins s σ H Q I b)
def dG9(ha:PE X a ta)(g:PE X (.BoolOp .And (b::lS) pos) tb):PE X (.BoolOp .And (a::b::lS) pos) (dG7 ta tb):=by
 intro pins s σ H Q I h;refine BoolOp_and (thn (ha pins s σ H _ I h) λv s1 Z0=>?_);obtain⟨x,e,f,i,d⟩:=Z0;obtain⟨c,rfl,d⟩:=d;cases i;refine a4i ?_;cases c with
 | true=>exact g pins s1 σ e Q f d
 | false=>exact⟨.bl false,e,f,rfl,d⟩
def dW4(ha:PE X a ta)(g:PE X (.BoolOp .Or (b::lS) pos) tb):PE X (.BoolOp .Or (a::b::lS) pos) (eB5 ta tb):=by
 intro pins s σ H Q I h;refine BoolOp_or (thn (ha pins s σ H _ I h) λv s1 Z0=>?_);obtain⟨x,e,f,i,d⟩:=Z0;obtain⟨c,rfl,d⟩:=d;cases i;refine a4i ?_;cases c with
 | false=>exact g pins s1 σ e Q f d
 | true=>exact⟨.bl true,e,f,rfl,d⟩
def tIf(t:TT)(ta tb:TE):TE:=λσ H Q=>t σ H λc a=>if c=true then ta σ a Q else tb σ a Q
end
def SqL(K:W.Frag)(H:Hp)(a:Addr)(xs:List V):Prop:=
 Rd H a (.lst xs) \/
  ∃ (o:Obj) (its:Array Value) (n:Nat),K.lookup a=some o/\o.cls=.type "list"/\o.dict=none/\o.data=.seq its n/\its.size<=sizeLine/\dD xs its.toList
def SqT(K:W.Frag)(H:Hp)(a:Addr)(xs:List V):Prop:=
 Rd H a (.tup xs) \/
  ∃ (o:Obj) (its:Array Value) (n:Nat),K.lookup a=some o/\o.cls=.type "tuple"/\o.data=.seq its n/\its.size<=sizeLine/\dD xs its.toList
noncomputable def eD9:Value->Option V
 | .none=>some .non
 | .bool b=>some (.bl b)
 | .int i _=>some (.int i)
 | .str x _=>some (.str x)
 | .bytes b _=>some (.byt b)
 | .float b _=>some (.flt b)
 | .ref a=>some (.ref a)
 | .type n=>some (.ty n)
 | _=>none
def gC.abs{x:V}{u:Value}(r:gC x u):eD9 u=some x:=by
 cases x with
 | non=>cases r;rfl
 | bl _=>cases r;rfl
 | int _=>obtain⟨t,rfl⟩:=r;rfl
 | str _=>obtain⟨t,rfl⟩:=r;rfl
 | byt _=>obtain⟨t,rfl⟩:=r;rfl
 | flt _=>obtain⟨t,rfl⟩:=r;rfl
 | ref _=>cases r;rfl
 | ty _=>cases r;rfl
def gC.inj{x y:V}{u:Value}(r:gC x u)(q:gC y u):x=y:=a0b (r.abs.symm.trans q.abs)
theorem dD.inj:∀ {xs ys:List V} {us:List Value},dD xs us->dD ys us->xs=ys
 | _,_,_,.nil,.nil=>rfl
 | _,_,_,.cons r t,.cons a b=>by rw[r.inj a,dD.inj t b]
section
variable{X:Cx}{pins:List (Addr×Obj)}{σ:St}{H:Hp}{s:Shared}{a:Addr}{xs ys:List V}
def SqL.of{K:W.Frag}(h:H a=some (.lst xs)):SqL K H a xs:=.inl (.inl h)
def SqT.of{K:W.Frag}(h:H a=some (.tup xs)):SqT K H a xs:=.inl (.inl h)
def Inv.list(I:Inv X pins σ H s)(h:SqL X.K H a xs):∃ b:List Value,dD xs b/\PlainL s.heap a b.toArray/\xs.length<=sizeLine:=by
 rcases h with h | ⟨o,b,n,c,d,hd,f,g,r⟩;obtain⟨z,b,n,r,e⟩:=h.ok I.hok;exact⟨b,r,⟨_,n,e,rfl,rfl,rfl⟩,z⟩;refine⟨b.toList,r,⟨o,n,I.kIn a o c,d,hd,by simpa using f⟩,?_⟩;have e:=r.length;simp only[Array.length_toList]at e;lia
def Inv.tuple(I:Inv X pins σ H s)(h:SqT X.K H a xs):∃ b:List Value,dD xs b/\IsTup s.heap a b.toArray/\xs.length<=sizeLine:=by
 rcases h with h | ⟨o,b,n,c,d,f,g,r⟩;obtain⟨z,b,r,p,_⟩:=h.ok I.hok;exact⟨b,r,p,z⟩;refine⟨b.toList,r,⟨o,I.kIn a o c,d,n,by simpa using f⟩,?_⟩;have e:=r.length;simp only[Array.length_toList]at e;lia
def Inv.list_inj(I:Inv X pins σ H s)(h:SqL X.K H a xs)(h':SqL X.K H a ys):xs=ys:=by
 obtain⟨c,r,⟨o,n,e,_,_,d⟩,_⟩:=I.list h;obtain⟨b,g,⟨o',j,f,_,_,d'⟩,_⟩:=I.list h';rw[e]at f;cases f;rw[d]at d';injection d' with i _
 have:c=b:=by simpa using a3W Array.toList i
 subst this;exact r.inj g
def Inv.tuple_inj(I:Inv X pins σ H s)(h:SqT X.K H a xs)(h':SqT X.K H a ys):xs=ys:=by
 obtain⟨c,r,⟨o,e,_,n,d⟩,_⟩:=I.tuple h;obtain⟨b,g,⟨o',f,_,j,d'⟩,_⟩:=I.tuple h';rw[e]at f;cases f;rw[d]at d';injection d' with i _
 have:c=b:=by simpa using a3W Array.toList i
 subst this;exact r.inj g
end
noncomputable abbrev Cx.wish(X:Cx)(E:Value->Shared->Prop):Cx:={X with xe:=E}
noncomputable abbrev Cx.nox(X:Cx):Cx:=X.wish λ_ _=>False
theorem Cx.Ok.wish{X:Cx}(ok:X.Ok)(E:Value->Shared->Prop):(X.wish E).Ok:=
 ⟨ok.mod,ok.kind,ok.glob,ok.blt,ok.above,ok.inj,ok.has,ok.cab,ok.hd,ok.frames,ok.stk,ok.exf,ok.bs,ok.bsz,ok.noex,ok.exfs,ok.funs,ok.frf⟩
def Cx.Ok.unwish{X:Cx}{E:Value->Shared->Prop}(ok:(X.wish E).Ok):X.Ok:=
 ⟨ok.mod,ok.kind,ok.glob,ok.blt,ok.above,ok.inj,ok.has,ok.cab,ok.hd,ok.frames,ok.stk,ok.exf,ok.bs,ok.bsz,ok.noex,ok.exfs,ok.funs,ok.frf⟩
section
variable{X:Cx}{pins:List (Addr×Obj)}{σ:St}{H:Hp}{s:Shared}{E:Value->Shared->Prop}
theorem Inv.wish(I:Inv X pins σ H s)(E:Value->Shared->Prop):Inv (X.wish E) pins σ H s:=⟨I.ok.wish E,I.os,I.bare,I.base,I.loc,I.cell,I.free,I.freeC,I.pin,I.hok,I.len⟩
theorem Inv.unwish(I:Inv (X.wish E) pins σ H s):Inv X pins σ H s:=⟨I.ok.unwish,I.os,I.bare,I.base,I.loc,I.cell,I.free,I.freeC,I.pin,I.hok,I.len⟩
theorem SP.unwish{D:Ends}{f:Flow}{s':Shared}(h:SP (X.wish E) pins D f s'):SP X pins D f s':=by
 cases f with
 | next=>obtain⟨σ',H',I,q⟩:=h;exact⟨σ',H',I.unwish,q⟩
 | brk=>obtain⟨σ',H',I,q⟩:=h;exact⟨σ',H',I.unwish,q⟩
 | cont=>obtain⟨σ',H',I,q⟩:=h;exact⟨σ',H',I.unwish,q⟩
 | ret u=>obtain⟨v,σ',H',I,r,q⟩:=h;exact⟨v,σ',H',I.unwish,r,q⟩
theorem PSs.nox{st:List Stmt}{t:TS}(h:PSs X.nox st t):PSs X st t:=λpins s σ H D I a=>
 a3Y (h pins s σ H D (I.wish _) a) (λ_ _ q=>q.unwish) λ_ _ z=>False.elim z
end
section
variable{X:Cx}{st:Stmt}{lS:List Stmt}{t u:TS}{e:Expr}{te:TE}{pos:Pos}
def dH0:TS:=λD σ H=>D.nx σ H
def dU6(t u:TS):TS:=λD σ H=>t {D with nx:=u D} σ H
def tF:PSs X [] dH0:=λ_ _ σ H _ I h=>wpAny_execs_nil ⟨σ,H,I,h⟩
def iQ(a:PS X st t)(b:PSs X lS u):PSs X (st::lS) (dU6 t u):=by
 intro pins s σ H D I h;refine wpAny_execs_cons (thn (a pins s σ H {D with nx:=u D} I h) λf s1 q=>?_);cases f with
 | next=>
   obtain⟨σ',H',c,q⟩:=q;exact b pins s1 σ' H' D c q
 | ret v=>exact q
 | brk=>exact q
 | cont=>exact q
def lT(a:PS X st t):PSs X [st] t:=by
 intro pins s σ H D I h;refine wpAny_execs_cons (thn (a pins s σ H D I h) λf s1 q=>?_);cases f with
 | next=>exact wpAny_execs_nil q
 | ret v=>exact q
 | brk=>exact q
 | cont=>exact q
def Inv.quiet{pins:List (Addr×Obj)}{σ:St}{H:Hp}{s:Shared}(I:Inv X pins σ H s):interactive X.env=false:=by simp[interactive,I.ok.kind]
def dH1(te:TE):TS:=λD σ H=>te σ H λ_ a=>D.nx σ a
def aE7(a:PE X e te)(b:swapsWith e none pos.line X.env=pure false:=by rfl):PS X (.Expr e pos) (dH1 te):=by
 intro pins s σ H D I h;exact wpAny_Expr_any (thn (a pins s σ H _ I h) λv s1 ⟨x,c,d,g,f⟩=>⟨σ,c,d,f⟩) I.quiet b
def eB6(te:TE):TS:=λD σ H=>te σ H D.rt
def cK5(a:PE X e te):PS X (.Return (some e) pos) (eB6 te):=by
 intro pins s σ H D I h;exact wpAny_Return_some (thn (a pins s σ H _ I h) λv s1 ⟨x,b,c,d,f⟩=>⟨x,σ,b,c,d,f⟩)
def dW5:TS:=λD _ H=>D.rt .non H
def eB7(c:TT)(t u:TS):TS:=λD σ H=>c σ H λb a=>if b=true then t D σ a else u D σ a
def bG2{c:Expr}{a b:List Stmt}{e:TT}(j:PT X c e)(ha:PSs X a t)(k:PSs X b u):PS X (.If c a b pos) (eB7 e t u):=by
 intro pins s σ H D I h;refine wpAny_If (thn (j pins s σ H _ I h) λd s1 Z0=>?_);obtain⟨f,g,i⟩:=Z0;cases d with
 | true=>exact ha pins s1 σ f D g i
 | false=>exact k pins s1 σ f D g i
end
abbrev TG:=V->St->Hp->(St->Hp->Prop)->Prop
abbrev TGs:=List V->St->Hp->(St->Hp->Prop)->Prop
def PG(X:Cx)(a:Expr)(t:TG):Prop:=
 ∀ (pins:List (Addr×Obj)) (s:Shared) (σ:St) (H:Hp) (v:V) (u:Value) (Q:St->Hp->Prop),Inv X pins σ H s->gC v u->t v σ H Q ->
   wpAny (model X.prog X.w) X.A (assign a X.env u) (λ_ s'=>∃ σ' H',Inv X pins σ' H' s'/\Q σ' H') X.xe s
def PGs(X:Cx)(a:List Expr)(t:TGs):Prop:=
 ∀ (pins:List (Addr×Obj)) (s:Shared) (σ:St) (H:Hp) (vs:List V) (us:List Value) (Q:St->Hp->Prop),Inv X pins σ H s->dD vs us->t vs σ H Q ->
   wpAny (model X.prog X.w) X.A (assignInOrder ((assignEach a X.env).map (·.2)) us) (λ_ s'=>∃ σ' H',Inv X pins σ' H' s'/\Q σ' H') X.xe s
abbrev dU7:=V->V->V->Hp->(Hp->Prop)->Prop
def eB8(X:Cx)(t:dU7):Prop:=
 ∀ (pins:List (Addr×Obj)) (s:Shared) (σ:St) (H:Hp) (o i v:V) (ov a u:Value) (Q:Hp->Prop),Inv X pins σ H s->gC o ov->gC i a->gC v u->t o i v H Q ->
   wpAny (model X.prog X.w) X.A (setItem ov a u) (λ_ s'=>∃ H',Inv X pins σ H' s'/\Q H') X.xe s
section
variable{X:Cx}{pos:Pos}
def aE8(i:Nat):TG:=λv σ H Q=>Q (σ.set i (some v)) H
def aP{i:Nat}{x:Str}(a:X.N.Nodup)(hi:X.N[i]? = some x)(b:Loc X.env.scope x)(c:X.fn x=true\/X.env.scope.names.lookup x=some .local:=by first | exact .inl rfl | exact .inr rfl | assumption):PG X (.Name x pos) (aE8 i):=by
 intro pins s σ H v u Q I r h;exact wpAny_assign_Name (sR I a hi b r (λs' d=>⟨_,H,d,h⟩) c)
def dU8:TGs:=λvs σ H Q=>vs=[]/\Q σ H
def bL7(t:TG)(u:TGs):TGs:=λvs σ H Q=>∃ v r,vs=v::r/\t v σ H λσ' H'=>u r σ' H' Q
def gW:PGs X [] dU8:=by
 intro pins s σ H vs us Q I r h;obtain⟨e,h⟩:=h;subst e;cases r;exact assignInOrder_nil ⟨σ,H,I,h⟩
def bO{e:Expr}{es:List Expr}{t:TG}{u:TGs}(b:PG X e t)(c:PGs X es u)
  (d:(assignEach (e::es) X.env).map (·.2)=assign e X.env::(assignEach es X.env).map (·.2):=by rfl):PGs X (e::es) (bL7 t u):=by
 intro pins s σ H vs us Q I r h;obtain⟨v,l,f,h⟩:=h;subst f;cases r with
 | cons r g=>
   rw[d];refine assignInOrder_cons (thn (b pins s σ H _ _ _ I r h) λ_ s1 Z0=>?_);obtain⟨a,i,j,k⟩:=Z0;exact c pins s1 a i _ _ Q j g k
def eE0(K:W.Frag)(n:Nat)(t:TGs):TG:=λv σ H Q=>∃ a xs,v=.ref a/\SqT K H a xs/\xs.length=n/\t xs σ H Q
def dH2{es:List Expr}{k:Nat}{t:TGs}{n:Nat}(g:X.calm=true)(h:PGs X es t)
  (hn:(assignEach es X.env).length=n:=by rfl) (c:(assignEach es X.env).findIdx? (·.1)=none:=by rfl):PG X (.Tuple es k pos) (eE0 X.K n t):=by
 intro pins s σ H v u Q I r d;obtain⟨a,xs,i,j,l,d⟩:=d;subst i;cases r;obtain⟨m,f,p,x⟩:=I.tuple j;refine assign_Tuple_tuple (I.ok.hd g) p (by simp[hn,← l,f.length]) c λh' q=>?_;have w:Inv X pins σ H {s with heap:=h'}:=I.kept (t':=s.toks) λb o e=>q b o (a1d (a6b e)) e;exact h pins _ σ H xs _ Q w (by simpa using f) d
def dD3(to a:TE)(t:dU7):TG:=λv σ H Q=>to σ H λo b=>a σ b λi c=>t o i v c λd=>Q σ d
def aK3{o i:Expr}{to b:TE}{t:dU7}(c:PE X o to)(hi:PE X i b)(d:eB8 X t)
  (ha:∀ v,assign (.Subscript o i pos) X.env v=(do
   let ov ← holding [v] (eval o X.env)
   let a ← holding [v,ov] (eval i X.env)
   standAt pos
   holding [v,ov,a] (setItem ov a v)
   release [v,ov,a] []):=by intro _;rfl):PG X (.Subscript o i pos) (dD3 to b t):=by
 intro pins s σ H v u Q I r h;rw[ha];refine a3N (a3V (thn (c pins s σ H _ I h) λov s1 Z0=>?_));obtain⟨x,e,f,g,j⟩:=Z0;refine a3N (a3V (thn (hi pins s1 σ e _ f j) λa s2 ⟨y,k,l,m,n⟩=>?_));refine a3N (a4v (a3N (a3V (thn (d pins s2 σ k x y v ov a u _ l g m r n) λ_ z ⟨p,q,w⟩=>?_))));exact wpAny_release ⟨σ,p,q,w⟩
def cR6(a:TE)(g:TG):TS:=λD σ H=>a σ H λx b=>g x σ b D.nx
def aZ5{tg e:Expr}{a:TE}{g:TG}(b:PE X e a)(c:PG X tg g)(d:swapsWithSole [tg] e pos.line X.env=pure false:=by rfl)(f:swappedStores [tg] e X.env=pure none:=by rfl)
  (i:(assignEach [tg] X.env).map (·.2)=[assign tg X.env]:=by rfl):PS X (.Assign [tg] e pos) (cR6 a g):=by
 intro pins s σ H D I h;refine wpAny_Assign_stores (thn (b pins s σ H _ I h) λv s1 Z0=>?_) d f;obtain⟨x,j,k,l,m⟩:=Z0;rw[i];exact thn (c pins s1 σ j x v _ k l m) λ_ s2 q=>q
def aB1{i:Nat}{x:Str}{e:Expr}{b:TE}{a:Pos}(c:X.N.Nodup)(hi:X.N[i]? = some x)(d:Loc X.env.scope x)(f:PE X e b)(g:swapsWith e (some (.Name x a)) pos.line X.env=pure false:=by rfl)(j:X.fn x=true\/X.env.scope.names.lookup x=some .local:=by first | exact .inl rfl | exact .inr rfl | assumption) :
  PS X (.Assign [.Name x a] e pos) (cR6 b (aE8 i)):=by
 intro pins s σ H D I h;refine wpAny_Assign_Name (thn (f pins s σ H _ I h) λv s1 Z0=>?_) g;obtain⟨y,k,l,m,n⟩:=Z0;exact sR l c hi d m (λs2 o=>⟨_,k,o,n⟩) j
def dW6(i j:Nat)(a:TA):TS:=λD σ H=>a σ H λvs b=>∃ v w,vs=[v,w]/\D.nx ((σ.set i (some v)).set j (some w)) b
def dH3{i j:Nat}{x y:Str}{a b:Expr}{t:TA}{g k pt:Pos}{kt k2 c}(F:X.calm=true)(u:X.N.Nodup)(hi:X.N[i]? = some x)(G:X.N[j]? = some y)(l:i≠j)
  (z:X.env.scope.names.lookup x=some .local) (B:X.env.scope.names.lookup y=some .local) (ha:PA X [a,b] t)
  (J:swappedStores [.Tuple [.Name x g,.Name y k] kt pt] (.Tuple [a,b] k2 c) X.env=pure (some [x,y]))
  (K:swapsWithSole [.Tuple [.Name x g,.Name y k] kt pt] (.Tuple [a,b] k2 c) pos.line X.env=pure false:=by rfl) :
  PS X (.Assign [.Tuple [.Name x g,.Name y k] kt pt] (.Tuple [a,b] k2 c) pos) (dW6 i j t):=by
 intro pins s σ H D I h;rw[exec_Assign_arm];refine a3N (a4v ?_);rw[K];refine a3N (a3S ?_);rw[a3P (by decide)];refine a3N (Tuple_ (thn (ha _ pins s σ H _ I h) λus s1 Z0=>?_));obtain⟨vs,C,L,M,m⟩:=Z0;obtain⟨v,w,O,m⟩:=m;subst O;obtain⟨d,f,rfl,P,n⟩:∃ d f,us=[d,f]/\gC v d/\gC w f:=by
  cases M with
  | cons p q=>
    cases q with
    | cons Q R=>
      cases R;exact⟨_,_,rfl,p,Q⟩
 refine a3X ?_ (by show 2<=sizeLine;decide);have S:Inv X pins σ C {s1 with heap:=s1.heap.push {cls:=.type "tuple",data:=.seq [d,f].toArray}}:=L.kept (t':=s1.toks) λb o e=>a5a _ e;rw[J];refine a3N (a3S ?_);show wpAny (model X.prog X.w) X.A (do rule "assign.swapped-stores";let items ← unpackItems (.ref s1.heap.objs.size) 2 none;assignInOrder [λv=>bindName X.env y v,λv=>bindName X.env x v] items.reverse;pure Flow.next) _ _ _;refine a3N (a4y (a3N (unpackItems_tuple (items:=#[d,f]) (I.ok.hd F) (IsTup.new s1.heap _) λh' r=>?_)));have T:=S.kept (h':=h') (t':=s1.toks) λb o e=>r b o (a1d (a6b e)) e;show wpAny _ _ (assignInOrder [λv=>bindName X.env y v,λv=>bindName X.env x v] [f,d] >>= λ_=>pure Flow.next) _ _ _;refine a3N (assignInOrder_cons (wpAny_bindName (sR T u G (.inl B) n (λs2 U=>?_) (.inr B))));refine assignInOrder_cons (wpAny_bindName (sR U u hi (.inl z) P (λV E=>assignInOrder_nil (a3S ?_)) (.inr z)));rw[List.set_comm _ _ (a3e l)]at E;exact⟨_,C,E,m⟩
end
section
variable{X:Cx}{pos:Pos}
def bL8(c:TT)(tb:TS):TS:=λD σ H=>∃ W:Nat->St->Hp->Prop,(∃ m,W m σ H)/\∀ m σ H,W m σ H ->
 c σ H λb a=>if b=true then ∃ N:St->Hp->Prop,(∀ σ' H',N σ' H'->∃ d,d < m/\W d σ' H')/\tb {D with nx:=N,ct:=N,bk:=D.nx} σ a else D.nx σ a
def aE9{c:Expr}{e:List Stmt}{o:TT}{p:TS}(q:PassesOwn (model X.prog X.w) X.A X.env X.xe)(y:PT X c o)(z:PSs X e p):PS X (.While c e [] pos) (bL8 o p):=by
 intro pins s σ H D I h;obtain⟨W,⟨B,C⟩,turn⟩:=h;refine wpAny_While (codeAny_whileLoop (λn s'=>∃ σ' H',Inv X pins σ' H' s'/\W n σ' H') ?_ B ⟨σ,H,I,C⟩);rintro n s1 ⟨d,r,E,F⟩;refine a4j q (thn (y pins s1 d r _ E (turn n d r F)) λb s2 Z0=>?_);obtain⟨t,u,i⟩:=Z0;cases b with
 | true=>
   obtain⟨N,x,i⟩:=i;rw[a3O rfl];refine a4j q (thn (z pins s2 d t _ u i) λf G j=>?_);cases f with
   | next=>
     obtain⟨a,g,k,n3⟩:=j;obtain⟨l,hm,m⟩:=x a g n3;exact⟨l,hm,a,g,k,m⟩
   | cont=>
     obtain⟨a,g,k,n3⟩:=j;obtain⟨l,hm,m⟩:=x a g n3;exact⟨l,hm,a,g,k,m⟩
   | brk=>exact j
   | ret v=>exact j
 | false=>
   rw[a3P a7b];exact wpAny_execs_nil ⟨d,t,u,i⟩
end
structure It where
 go:Nat->Hp->Prop
 yld:Nat->Hp->V->Hp->Prop
 stop:Nat->Hp->Prop
def bL9(X:Cx)(pins:List (Addr×Obj))(H:Hp)(b:Addr):Prop:=
 H b=none/\b≠X.env.locals/\b∉X.fs/\(b∈X.ex\/X.s₀.heap.objs.size<=b)/\(∀ x c,X.env.cells.lookup x=some c->c≠b)/\∀ p∈X.pn++pins,p.1≠b
def Inv.fpOk{X:Cx}{pins:List (Addr×Obj)}{σ:St}{H H':Hp}{s:Shared}{b:Addr}(I:Inv X pins σ H s)(a:s.heap.objs.size<=b)(hn:H' b=none):bL9 X pins H' b:=by
 refine⟨hn,a7h (a6d I.lt a),I.nofs a,.inr (a6c I.sz a),λx c e z=>?_,λp d z=>?_⟩;obtain⟨v,q⟩:=I.cell x c e;exact absurd (a6d q.lt (by rw[z];exact a)) (a0f _);exact absurd (a6d (a6b (I.pin p d).1) (by rw[z];exact a)) (a0f _)
structure Turn(P:Program)(w:World)(K:W.Frag)(tg:Expr)(J:It)(fp:List Addr)(it:Addr)(tn:Nat->Heap->Prop):Prop where
 mem:it∈fp
 obj:∀ i h,tn i h->∀ b∈fp,∃ o,h.get? b=some o/\∀ v,o.data≠.cell v
 keep:∀ i h h',tn i h->(∀ b∈fp,∀ o,h.get? b=some o->h'.get? b=some o)->tn i h'
 item:∀ (X:Cx),X.prog=P->X.w=w->X.K=K->X.calm=true->∀ (i:Nat) (pins:List (Addr×Obj)) (s:Shared) (σ:St) (H:Hp) (E:Value->Shared->Prop),Inv X pins σ H s->(∀ b∈fp,bL9 X pins H b)->tn i s.heap->J.go i H ->
  wpAny (model P w) X.A (pyNext (.ref it)) (λr s1=>∃ u,r=some u /\
   wpAny (model P w) X.A (letOwnedTupleGo tg (.ref it) u) (λ_ s2=>∃ x H',Inv X pins σ H' s2/\gC x u/\J.yld i H x H'/\tn (i+1) s2.heap/\∀ b∈fp,H' b=none) E s1) E s
 done:∀ (X:Cx),X.prog=P->X.w=w->X.K=K->X.calm=true->∀ (i:Nat) (pins:List (Addr×Obj)) (s:Shared) (σ:St) (H:Hp) (E:Value->Shared->Prop),Inv X pins σ H s->(∀ b∈fp,bL9 X pins H b)->tn i s.heap->J.stop i H ->
  wpAny (model P w) X.A (pyNext (.ref it)) (λr s1=>r=none/\Inv X pins σ H s1) E s
 self:∀ (A:Around) (i:Nat) (s:Shared) (Q:Value->Shared->Prop) (E:Value->Shared->Prop),tn i s.heap->Q (.ref it) s->wpAny (model P w) A (pyIter (.ref it)) Q E s
abbrev TI:=St->Hp->(It->Hp->Prop)->Prop
def PIE(X:Cx)(pins:List (Addr×Obj))(σ:St)(tg:Expr)(R:It->Hp->Prop)(a:Value)(s2:Shared):Prop:=
 ∃ (it:Addr) (fp:List Addr) (tn:Nat->Heap->Prop) (J:It) (H':Hp),a=.ref it/\Inv X pins σ H' s2/\Turn X.prog X.w X.K tg J fp it tn/\tn 0 s2.heap/\(∀ b∈fp,bL9 X pins H' b)/\R J H'
def PI(X:Cx)(tg iter:Expr)(a:TI):Prop:=
 ∀ (pins:List (Addr×Obj)) (s:Shared) (σ:St) (H:Hp) (R:It->Hp->Prop),Inv X pins σ H s->a σ H R ->
   wpAny (model X.prog X.w) X.A (eval iter X.env) (λv s1=>wpAny (model X.prog X.w) X.A (pyIter v) (PIE X pins σ tg R) X.xe s1) X.xe s
def bM0{M:Model}{A:Around}{E:Value->Shared->Prop}{s:Shared}{tg:Expr}{it:Addr}{u:Value}{o:Obj}{n:String}{vs:Array Value}{Q:Unit->Shared->Prop}(b:s.heap.get? it=some o)(c:o.cls=.type n)(hd:o.data=.fields vs)
  (hn:["enumerate","zip","dict_itemiterator","dict_reverseitemiterator","odict_iterator","itertools.zip_longest","itertools.pairwise"].contains n=false) (a:Q () s):wpAny M A (letOwnedTupleGo tg (.ref it) u) Q E s:=by
 unfold letOwnedTupleGo;cases tg<;>first
  | exact a3S a
  | (cases u<;>first
    | exact a3S a
    | (refine a3N (wpAny_load b ?_)
       rw[c,hd];show wpAny M A (if(["enumerate","zip","dict_itemiterator","dict_reverseitemiterator","odict_iterator","itertools.zip_longest","itertools.pairwise"].contains n&&vs[0]? == some (rawInt _))=true then _ else _) Q E s;rw[a3P (by intro h;rw[hn,Bool.false_and]at h;cases h)];exact a3S a))
noncomputable def Itl(K:W.Frag)(a:Addr):It:=
 ⟨λi H=>∃ xs x,SqL K H a xs/\xs[i]? = some x,λi H x H'=>H'=H/\∀ xs,SqL K H a xs->xs[i]? = some x,λi H=>∃ xs,SqL K H a xs/\xs.length<=i⟩
noncomputable def Itt(K:W.Frag)(a:Addr):It:=
 ⟨λi H=>∃ xs x,SqT K H a xs/\xs[i]? = some x,λi H x H'=>H'=H/\∀ xs,SqT K H a xs->xs[i]? = some x,λi H=>∃ xs,SqT K H a xs/\xs.length<=i⟩
noncomputable def Itr(lo:Int)(n:Nat):It:=⟨λi _=>i < n,λi H x H'=>H'=H/\x=.int (lo+i),λi _=>n<=i⟩
def bM1{P:Program}{w:World}{K:W.Frag}{tg:Expr}(a it:Addr):Turn P w K tg (Itl K a) [it] it (λi h=>h.IsListIter it a i) where
 mem:=by simp
 obj:=λi h st b f=>by
  have e:b=it:=by simpa using f
  subst e;obtain⟨o,e,c,d⟩:=st;exact⟨o,e,λv z=>by rw[d]at z;cases z⟩
 keep:=λi h h' st k=>st.at λo e=>k it (by simp) o e
 item:=by
  intro X m n q J i pins s σ H E I j st r;subst m n q;obtain⟨xs,x,l,t⟩:=r;obtain⟨y,A,p,L⟩:=I.list l;obtain⟨u,M,N⟩:=A.get t;obtain⟨B,C,O,D,F,G⟩:=j it (by simp);refine wpAny_pyNext_list_item st p.isList (x:=u) (by simpa using M) λh' g Q=>?_;have R:Inv X pins σ H {s with heap:=h'}:=I.turned (t':=s.toks) (λb o f e=>(Q.2 b f).trans e) B C D F G;obtain⟨o,e,c,d⟩:=id g;exact⟨u,rfl,bM0 (s:={s with heap:=h'}) e c d (by decide) ⟨x,H,R,N,⟨rfl,λys S=>by rw[I.list_inj S l];exact t⟩,g,λb f=>(j b f).1⟩⟩
 done:=by
  intro X m n q J i pins s σ H E I j st r;subst m n q;obtain⟨xs,l,t⟩:=r;obtain⟨y,A,p,L⟩:=I.list l;obtain⟨B,C,O,D,F,G⟩:=j it (by simp);have U:=A.length;exact wpAny_pyNext_list_end (I.ok.hd J) st p.isList (by simp;lia) λh' T=>⟨rfl,I.turned (t':=s.toks) (λb o f e=>T b o f e) B C D F G⟩
 self:=λ_ _ _ _ _ st h=>wpAny_pyIter_listiter st h
def bG3{P:Program}{w:World}{K:W.Frag}{tg:Expr}(a it:Addr):Turn P w K tg (Itt K a) [it] it (λi h=>h.IsTupleIter it a i) where
 mem:=by simp
 obj:=λi h st b f=>by
  have e:b=it:=by simpa using f
  subst e;obtain⟨o,e,c,d⟩:=st;exact⟨o,e,λv z=>by rw[d]at z;cases z⟩
 keep:=λi h h' st k=>st.at λo e=>k it (by simp) o e
 item:=by
  intro X n q r J i pins s σ H E I l st t;subst n q r;obtain⟨xs,x,m,y⟩:=t;obtain⟨g,A,p,L⟩:=I.tuple m;obtain⟨u,M,N⟩:=A.get y;obtain⟨B,C,O,D,F,G⟩:=l it (by simp);refine wpAny_pyNext_tuple_item st (show s.heap.IsTuple a g.toArray from p) (x:=u) (by simpa using M) λh' j Q=>?_;have R:Inv X pins σ H {s with heap:=h'}:=I.turned (t':=s.toks) (λb o f e=>(Q.2 b f).trans e) B C D F G;obtain⟨o,e,c,d⟩:=id j;exact⟨u,rfl,bM0 (s:={s with heap:=h'}) e c d (by decide) ⟨x,H,R,N,⟨rfl,λys S=>by rw[I.tuple_inj S m];exact y⟩,j,λb f=>(l b f).1⟩⟩
 done:=by
  intro X n q r J i pins s σ H E I l st t;subst n q r;obtain⟨xs,m,y⟩:=t;obtain⟨g,A,p,L⟩:=I.tuple m;obtain⟨B,C,O,D,F,G⟩:=l it (by simp);have U:=A.length;exact wpAny_pyNext_tuple_end (I.ok.hd J) st (show s.heap.IsTuple a g.toArray from p) (by simp;lia) λh' T=>⟨rfl,I.turned (t':=s.toks) (λb o f e=>T b o f e) B C D F G⟩
 self:=λ_ _ _ _ _ st h=>wpAny_pyIter_tupleiter st h
def bG4{P:Program}{w:World}{K:W.Frag}{tg:Expr}(it:Addr)(lo:Int)(n:Nat):Turn P w K tg (Itr lo n) [it] it (λi h=>IsRangeIter h it (lo+(i:Nat)*1) ((n:Int)-(i:Nat)) 1) where
 mem:=by simp
 obj:=λi h st b a=>by
  have e:b=it:=by simpa using a
  subst e;exact⟨_,st,λv z=>by
   have y:Data.fields _=Data.cell v:=z;cases y⟩
 keep:=λi h h' st k=>k it (by simp) _ st
 item:=by
  intro X f g j l i pins s σ H E I d st m;subst f g j;obtain⟨p,q,A,r,u,x⟩:=d it (by simp);have W:=Walks.range (prog:=X.prog) (w:=X.w) (I.ok.hd l) it lo 1 n;refine W.item i s _ _ m st λv h' tk B c C=>?_;obtain⟨t,rfl⟩:=B;have D:Inv X pins σ H {s with heap:=h',toks:=tk}:=I.turned (λb o a e=>C b o (by simpa using a) e) p q r u x;refine⟨_,rfl,bM0 (s:={s with heap:=h',toks:=tk}) (n:="range_iterator") c rfl rfl (by decide) ⟨.int (lo+i),H,D,⟨t,?_⟩,⟨rfl,rfl⟩,c,λb a=>(d b a).1⟩⟩;rw[Int.mul_one]
 done:=by
  intro X f g j l i pins s σ H E I d st m;subst f g j;obtain⟨p,q,A,r,u,x⟩:=d it (by simp);exact wpAny_pyNext_range_end (I.ok.hd l) st (by have:n<=i:=m;lia) λh' F=>⟨rfl,I.turned (t':=s.toks) (λb o a e=>F b o a e) p q r u x⟩
 self:=λ_ _ _ _ _ st h=>wpAny_pyIter_rangeiter st h
section
variable{X:Cx}{tg:Expr}
def aZ6{pins:List (Addr×Obj)}{σ:St}{H:Hp}{s:Shared}{R:It->Hp->Prop}{E:Value->Shared->Prop}{lo hi:Int}{t u v:Tok}{tk:Nat}(I:Inv X pins σ H s)(c:-(2 ^ 62)<=lo)(d:lo < 2 ^ 62)(f:-(2 ^ 62)<=hi)(g:hi < 2 ^ 62)
  (q:R (Itr lo (hi-lo).toNat) H):wpAny (model X.prog X.w) X.A (pyIter (.ref s.heap.objs.size)) (PIE X pins σ tg R) E {s with heap:=s.heap.push {cls:=.type "range",data:=.fields #[.int lo t,.int hi u,.int 1 v]},toks:=tk}:=by
 refine wpAny_pyIter_range (IsRange.new ..) (small_one c d f g) ?_;have a:Inv X pins σ H {s with heap:=s.heap.push {cls:=.type "range",data:=.fields #[.int lo t,.int hi u,.int 1 v]},toks:=tk}:=I.kept λb o e=>a5a _ e;refine⟨(s.heap.push {cls:=.type "range",data:=.fields #[.int lo t,.int hi u,.int 1 v]}).objs.size,[(s.heap.push {cls:=.type "range",data:=.fields #[.int lo t,.int hi u,.int 1 v]}).objs.size],_,_,H,rfl,
  a.kept (t':=tk) λb o e=>a5a _ e,bG4 _ lo (hi-lo).toNat,?_,λb h=>?_,q⟩
 ·have i:lo+((0:Nat):Int)*1=lo:=by simp
  have j:(((hi-lo).toNat:Nat):Int)-((0:Nat):Int)=Builtin.Range.rangeSize lo hi 1:=by rw[rangeSize_one];split<;>lia
  show IsRangeIter _ _ (lo+((0:Nat):Int)*1) ((((hi-lo).toNat:Nat):Int)-((0:Nat):Int)) 1;rw[i,j];exact a8b _ rfl
 ·have e:b=(s.heap.push {cls:=.type "range",data:=.fields #[.int lo t,.int hi u,.int 1 v]}).objs.size:=by simpa using h
  subst e;exact a.fpOk (a7a _) (a.hok.fresh (a7a _))
def cR7(a:TA):TI:=λσ H R=>a σ H λvs b=>∃ j:Int,vs=[.int j] /\ -(2 ^ 62)<=j/\j < 2 ^ 62/\R (Itr 0 j.toNat) b
def cR8(a:TA):TI:=λσ H R=>a σ H λvs b=>∃ i j:Int,vs=[.int i,.int j]/\(-(2 ^ 62)<=i/\i < 2 ^ 62 /\ -(2 ^ 62)<=j/\j < 2 ^ 62)/\R (Itr i (j-i).toNat) b
def dX{a:Expr}{c:TA}{p pos:Pos}(d:Gl X "range")(hm:X.mg "range"=none)(ha:PA X [a] c)(f:starEach [a] X.env=[(false,eval a X.env)]:=by rfl):PI X tg (.Call (.Name "range" p) [a] [] pos) (cR7 c):=by
 intro pins s σ H R I h;refine Call_ (nA I d hm boot_range (a2f (thn (ha pos pins s σ H _ I h) λus s1 Z0=>?_) f rfl));obtain⟨vs,m,g,i,b⟩:=Z0;obtain⟨j,e,b,k,q⟩:=b;subst e;cases i with
 | cons r l=>
   cases l;obtain⟨t,rfl⟩:=r;exact call_range_1 (aZ6 g (by lia) (by lia) b k (by simpa using q))
def bM2{a b:Expr}{g:TA}{p pos:Pos}(k:Gl X "range")(hm:X.mg "range"=none)(ha:PA X [a,b] g)(l:starEach [a,b] X.env=[(false,eval a X.env),(false,eval b X.env)]:=by rfl)(c:starEach [b] X.env=[(false,eval b X.env)]:=by rfl) :
  PI X tg (.Call (.Name "range" p) [a,b] [] pos) (cR8 g):=by
 intro pins s σ H R I h;refine Call_ (nA I k hm boot_range (a2f (thn (ha pos pins s σ H _ I h) λus s1 Z0=>?_) (by rw[l,c]) (by rw[c];rfl)));obtain⟨vs,x,m,n,d⟩:=Z0;obtain⟨i,j,e,⟨d,o,u,v⟩,q⟩:=d;subst e;cases n with
 | cons r f=>
   cases f with
   | cons w f=>
     cases f;obtain⟨t,rfl⟩:=r;obtain⟨y,rfl⟩:=w;exact call_range_2 (aZ6 m d o u v q)
def dU9(c:TI)(g:TG)(d:TS):TS:=λD σ H=>c σ H λJ e=>∃ W:Nat->Nat->St->Hp->Prop,(∃ m,W 0 m σ e)/\∀ i m σ H,W i m σ H ->
 (J.stop i H/\D.nx σ H)\/(J.go i H/\∃ N:St->Hp->Prop,(∀ σ' H',N σ' H'->∃ b,b < m/\W (i+1) b σ' H')/\∀ x H',J.yld i H x H'->g x σ H' λa f=>d {D with nx:=N,ct:=N,bk:=D.nx} a f)
noncomputable def tG(fp:List Addr)(h:Heap):List (Addr×Obj):=fp.filterMap λb=>(h.get? b).map λo=>(b,o)
def mV{fp:List Addr}{h:Heap}{b:Addr}{o:Obj}(a:b∈fp)(e:h.get? b=some o):(b,o)∈tG fp h:=List.mem_filterMap.mpr ⟨b,a,by rw[e];rfl⟩
def bM3{fp:List Addr}{h:Heap}{p:Addr×Obj}(a:p∈tG fp h):p.1∈fp/\h.get? p.1=some p.2:=by
 obtain⟨b,c,e⟩:=List.mem_filterMap.mp a;cases q:h.get? b with
 | none=>rw[q]at e;cases e
 | some o=>
   rw[q]at e;have d:(b,o)=p:=a0b e;subst d;exact⟨c,q⟩
def Inv.pinned{pins:List (Addr×Obj)}{σ:St}{H:Hp}{s:Shared}{fp:List Addr}(I:Inv X pins σ H s)(f:∀ b∈fp,bL9 X pins H b)(g:∀ b∈fp,∃ o,s.heap.get? b=some o/\∀ v,o.data≠.cell v):Inv X (pins++tG fp s.heap) σ H s:=
 I.pins_of λp h=>(a3b.mp h).elim (λz=>I.pin p (a9b _ z)) λz=>by
  obtain⟨a,e⟩:=bM3 z;obtain⟨i,j,k,_⟩:=f p.1 a;obtain⟨o,c,d⟩:=g p.1 a;rw[e]at c;cases c;exact⟨e,i,j,k,d⟩
def Inv.unpinned{pins pl:List (Addr×Obj)}{σ:St}{H:Hp}{s:Shared}(I:Inv X (pins++pl) σ H s):Inv X pins σ H s:=I.pins_of λp a=>I.pin p (a9b _ (a7d _ a))
def iM{iter:Expr}{q:List Stmt}{S:TI}{g:TG}{U:TS}{pos:Pos}(B:PassesOwn (model X.prog X.w) X.A X.env X.xe)(V:X.calm=true)(hi:PI X tg iter S)(hg:PG X tg g)(c:PSs X q U)
  (hs:∀ x,foldedSetIterable iter X.env x=pure x:=by intro _;rfl):PS X (.For tg iter q [] pos) (dU9 S g U):=by
 intro pins s σ H D I h;refine wpAny_For (thn (hi pins s σ H _ I h) λv s1 h1=>thn h1 λitv s2 h2=>?_) hs;obtain⟨it,fp,tn,J,H2,e,I2,T,K,Y,W,⟨m0,w0⟩,turn⟩:=h2;subst e
 -- Z stays true of L t objects through L loop
 have j:∀ {H':Hp},(∀ b∈fp,H' b=none)->∀ b∈fp,bL9 X pins H' b:=λhn b c=>⟨hn b c,(Y b c).2⟩;refine codeAny_forLoop_any (λn s'=>∃ i σ' H',Inv X pins σ' H' s'/\tn i s'.heap/\(∀ b∈fp,H' b=none)/\W i n σ' H') ?_ m0 ⟨0,σ,H2,I2,K,λb c=>(Y b c).1,w0⟩;rintro n s3 ⟨i,k,G,I3,C,E,w3⟩;rcases turn i n k G w3 with⟨stop,qn⟩ | ⟨go,N,hN,step⟩
 ·refine a4j B (thn (T.done X rfl rfl rfl V i pins s3 k G X.xe I3 (j E) C stop) λr s4 Z0=>?_);obtain⟨M,I4⟩:=Z0;subst M;exact wpAny_execs_nil ⟨k,G,I4,qn⟩
 ·refine a4j B (thn (T.item X rfl rfl rfl V i pins s3 k G X.xe I3 (j E) C go) λr s4 Z0=>?_);obtain⟨u,M,h4⟩:=Z0;subst M;refine a4j B (thn h4 λ_ s5 ⟨x,H5,I5,r5,y5,z,O⟩=>?_);have P:=I5.pinned (j O) (T.obj _ _ z);refine a4j B (thn (hg _ s5 k H5 x u _ P r5 (step x H5 y5)) λ_ s6 ⟨Q,H6,I6,q6⟩=>?_);refine a4j B (thn (c _ s6 Q H6 _ I6 q6) λf R y=>?_);have again:∀ {a:St} {l:Hp},Inv X (pins++tG fp s5.heap) a l R->N a l->∃ m,m < n/\∃ i σ' H',Inv X pins σ' H' R/\tn i R.heap/\(∀ b∈fp,H' b=none)/\W i m σ' H':=λ{a l} p F=>by
   obtain⟨m',hm,w7⟩:=hN a l F;refine⟨m',hm,i+1,a,l,p.unpinned,T.keep _ _ _ z λb c o e=>(p.pin (b,o) (a9b _ (a9b _ (mV c e)))).1,λb c=>?_,w7⟩;obtain⟨o,e,d⟩:=T.obj _ _ z b c;exact(p.pin (b,o) (a9b _ (a9b _ (mV c e)))).2.1
  cases f with
  | next=>obtain⟨a,l,p,F⟩:=y;exact again p F
  | cont=>obtain⟨a,l,p,F⟩:=y;exact again p F
  | brk=>obtain⟨a,l,p,y⟩:=y;exact⟨a,l,p.unpinned,y⟩
  | ret v=>obtain⟨x7,a,l,p,r7,y⟩:=y;exact⟨x7,a,l,p.unpinned,r7,y⟩
end
abbrev R2:=V->V->Hp->VK->Prop
def OpR(X:Cx)(f:Value->Value->Sem Value)(r:R2):Prop:=
 ∀ (pins:List (Addr×Obj)) (s:Shared) (σ:St) (H:Hp) (x y:V) (v u:Value) (Q:VK),Inv X pins σ H s->gC x v->gC y u->r x y H Q ->
   wpAny (model X.prog X.w) X.A (f v u) (EP X pins σ Q) X.xe s
def UnR(X:Cx)(f:Value->Sem Value)(r:V->Hp->VK->Prop):Prop:=
 ∀ (pins:List (Addr×Obj)) (s:Shared) (σ:St) (H:Hp) (x:V) (v:Value) (Q:VK),Inv X pins σ H s->gC x v->r x H Q ->
   wpAny (model X.prog X.w) X.A (f v) (EP X pins σ Q) X.xe s
def iW(X:Cx)(f:Value)(r:List V->Hp->VK->Prop):Prop:=
 ∀ (pins:List (Addr×Obj)) (s:Shared) (σ:St) (H:Hp) (xs:List V) (us:List Value) (Q:VK),Inv X pins σ H s->dD xs us->r xs H Q ->
   wpAny (model X.prog X.w) X.A (call f us) (EP X pins σ Q) X.xe s
def tOp(r:R2)(a b:TE):TE:=λσ H Q=>a σ H λx c=>b σ c λy d=>r x y d Q
def tUn(r:V->Hp->VK->Prop)(a:TE):TE:=λσ H Q=>a σ H λx b=>r x b Q
def rI(C:Int->Int->Prop)(g:Int->Int->V):R2:=λx y H Q=>∃ i j,x=.int i/\y=.int j/\C i j/\Q (g i j) H
def rI0(g:Int->Int->V):R2:=λx y H Q=>∃ i j,x=.int i/\y=.int j/\Q (g i j) H
def rU(g:Int->V):V->Hp->VK->Prop:=λx H Q=>∃ i,x=.int i/\Q (g i) H
section
variable{X:Cx}{a b c:Expr}{ta tb tc:TE}{pos:Pos}
def dW7(ha:PE X a ta)(i:PE X b tb){pins:List (Addr×Obj)}{s:Shared}{σ:St}{H:Hp}{R:V->V->Hp->Prop}(I:Inv X pins σ H s)
  (h:ta σ H λx g=>tb σ g λy c=>R x y c) {Q:Value->Shared->Prop} {f:Value->Value->Sem Value}
  (j:∀ v u s2 x y c,Inv X pins σ c s2->gC x v->gC y u->R x y c->wpAny (model X.prog X.w) X.A (f v u) Q X.xe s2) :
  wpAny (model X.prog X.w) X.A (eval a X.env) (λv d=>wpAny (model X.prog X.w) X.A (eval b X.env) (λu e=>wpAny (model X.prog X.w) X.A (f v u) Q X.xe e) X.xe d) X.xe s:=by
 refine thn (ha pins s σ H _ I h) λv s1 Z0=>?_;obtain⟨x,g,k,l,m⟩:=Z0;refine thn (i pins s1 σ g _ k m) λu s2 ⟨y,c,n,o,p⟩=>?_;exact j v u s2 x y c n l o p
def bG5{c:Operator}{r:R2}(d:OpR X (binaryOp c) r)(ha:PE X a ta)(e:PE X b tb):PE X (.BinOp a c b pos) (tOp r ta tb):=by
 intro pins s σ H Q I h;exact wpAny_BinOp (dW7 ha e I h λv u s2 x y f g i j q=>d pins s2 σ f x y v u Q g i j q)
def dH4{b:UnaryOp}{r:V->Hp->VK->Prop}(c:UnR X (unaryOp b) r)(ha:PE X a ta):PE X (.UnaryOp b a pos) (tUn r ta):=by
 intro pins s σ H Q I h;exact UnaryOp_ (thn (ha pins s σ H _ I h) λv s1 ⟨x,d,e,f,g⟩=>c pins s1 σ d x v Q e f g)
def opI{f:Value->Value->Sem Value}{C:Int->Int->Prop}{g:Int->Int->Int}
  (rule:∀ (i j:Int) (t u:Tok) (s:Shared) (Q:Value->Shared->Prop) (E:Value->Shared->Prop),C i j->Q (.int (g i j) s.toks) {s with toks:=s.toks+1}->wpAny (model X.prog X.w) X.A (f (.int i t) (.int j u)) Q E s) :
  OpR X f (rI C λi j=>.int (g i j)):=by
 intro pins s σ H x y v u Q I a b h;obtain⟨i,j,rfl,rfl,c,q⟩:=h;obtain⟨t,rfl⟩:=a;obtain⟨d,rfl⟩:=b;exact rule i j t d s _ _ c ⟨.int (g i j),H,I.tok _,⟨_,rfl⟩,q⟩
def eB9{f:Value->Value->Sem Value}{g:Int->Int->Int}
  (rule:∀ (i j:Int) (t u:Tok) (s:Shared) (Q:Value->Shared->Prop) (E:Value->Shared->Prop),Q (.int (g i j) s.toks) {s with toks:=s.toks+1}->wpAny (model X.prog X.w) X.A (f (.int i t) (.int j u)) Q E s) :
  OpR X f (rI0 λi j=>.int (g i j)):=by
 intro pins s σ H x y v u Q I a b h;obtain⟨i,j,rfl,rfl,q⟩:=h;obtain⟨t,rfl⟩:=a;obtain⟨c,rfl⟩:=b;exact rule i j t c s _ _ ⟨.int (g i j),H,I.tok _,⟨_,rfl⟩,q⟩
def dW8{f:Value->Value->Sem Value}{g:Int->Int->Bool}
  (rule:∀ (i j:Int) (t u:Tok) (s:Shared) (Q:Value->Shared->Prop) (E:Value->Shared->Prop),Q (.bool (g i j)) s->wpAny (model X.prog X.w) X.A (f (.int i t) (.int j u)) Q E s) :
  OpR X f (rI0 λi j=>.bl (g i j)):=by
 intro pins s σ H x y v u Q I a b h;obtain⟨i,j,rfl,rfl,q⟩:=h;obtain⟨t,rfl⟩:=a;obtain⟨c,rfl⟩:=b;exact rule i j t c s _ _ ⟨.bl (g i j),H,I,rfl,q⟩
def dD4(i j:Int):Prop:=0<=j/\j<=1000000/\i.natAbs < 2 ^ 64
def dD5(i j:Int):Prop:=(-(2 ^ 64) < i/\i < 2 ^ 64)\/(-(2 ^ 64) < j/\j < 2 ^ 64)
theorem dD5.ok{i j:Int}(h:dD5 i j):IntMulOk i j:=by
 rcases h with⟨a,b⟩ | ⟨a,b⟩;exact .of_left (intBits_le_64 a b);exact .of_right (intBits_le_64 a b)
def dH5:OpR X (binaryOp .Add) (rI0 λi j=>.int (i+j)):=eB9 λ_ _ _ _ _ _ _ q=>add_int q
def bM4:OpR X (binaryOp .Sub) (rI0 λi j=>.int (i-j)):=eB9 λ_ _ _ _ _ _ _ q=>sub_int q
def dH6:OpR X (binaryOp .Mult) (rI dD5 λi j=>.int (i*j)):=opI λ_ _ _ _ _ _ _ a q=>mul_int q a.ok
def lF:OpR X (binaryOp .Mod) (rI (λ_ j=>0 < j) λi j=>.int (i % j)):=opI λi j _ _ _ _ _ a q=>by
 have b:(0:Int) < j:=a;exact mod_int' (by lia) (by rw[Int.fmod_eq_emod_of_nonneg i (by lia)];exact q)
def dH7:OpR X (binaryOp .Pow) (rI dD4 λi j=>.int (i ^ j.toNat)):=opI λ_ _ _ _ _ _ _ a q=>pow_int_small a.1 a.2.1 a.2.2 q
def unI{f:Value->Sem Value}{g:Int->Int}
  (rule:∀ (i:Int) (t:Tok) (s:Shared) (Q:Value->Shared->Prop) (E:Value->Shared->Prop),Q (.int (g i) s.toks) {s with toks:=s.toks+1}->wpAny (model X.prog X.w) X.A (f (.int i t)) Q E s) :
  UnR X f (rU λi=>.int (g i)):=by
 intro pins s σ H x v Q I a h;obtain⟨i,rfl,q⟩:=h;obtain⟨t,rfl⟩:=a;exact rule i t s _ _ ⟨.int (g i),H,I.tok _,⟨_,rfl⟩,q⟩
def aK4:UnR X (unaryOp .USub) (rU λi=>.int (-i)):=unI λ_ _ _ _ _ q=>neg_int q
end
noncomputable def cR9:V->V->Bool
 | .non,.non=>true | .non,.int _=>true | .int _,.non=>true | .non,.bl _=>true | .bl _,.non=>true | .non,.str _=>true | .str _,.non=>true
 | .int _,.int _=>true | .bl _,.bl _=>true | .str _,.str _=>true | .byt _,.byt _=>true
 | .int _,.str _=>true | .str _,.int _=>true | .bl _,.str _=>true | .str _,.bl _=>true
 | _,_=>false
def rEq:R2:=λx y H Q=>cR9 x y=true/\Q (.bl (decide (x=y))) H
def rNe:R2:=λx y H Q=>cR9 x y=true/\Q (.bl (!decide (x=y))) H
def bM5{i j:Int}:decide (V.int i=V.int j)=(i==j):=by
 rw[a0e];simp
def cK6{i j:Bool}:decide (V.bl i=V.bl j)=(i==j):=by
 rw[a0e];simp
def aF0{i j:Str}:decide (V.str i=V.str j)=(i==j):=by
 rw[a0e];simp
def bM6{i j:Array UInt8}:decide (V.byt i=V.byt j)=(i.toList==j.toList):=by
 rw[a0e];cases i;cases j;simp
section
variable{X:Cx}{a b c:Expr}{ta tb tc:TE}{pos:Pos}
def bT{pins:List (Addr×Obj)}{σ:St}{H:Hp}{s:Shared}{Q:VK}{k a:Bool}(I:Inv X pins σ H s)(q:Q (.bl k) H)(e:k=a):EP X pins σ Q (.bool a) s:=by
 subst e;exact⟨.bl k,H,I,rfl,q⟩
def dW9:OpR X (compareOp .Eq) rEq:=by
 intro pins s σ H x y v u Q I d a h;obtain⟨c,q⟩:=h;cases x with
 | non=>
   cases d;cases y with
   | non=>cases a;exact PySem.EqNone.eq_none_none (bT I q (by simp))
   | bl j=>cases a;exact PySem.EqNone.eq_none_bool (bT I q (by simp))
   | int j=>obtain⟨b,rfl⟩:=a;exact PySem.EqNone.eq_none_int (bT I q (by simp))
   | str j=>obtain⟨b,rfl⟩:=a;exact PySem.EqNone.eq_none_str (bT I q (by simp))
   | _=>exact absurd (show false=true from c) a7b
 | bl i=>
   cases d;cases y with
   | non=>cases a;exact PySem.EqNone.eq_bool_none (bT I q (by simp))
   | bl j=>cases a;exact eq_bool (bT I q cK6)
   | str j=>obtain⟨b,rfl⟩:=a;exact PySem.EqMixed.eq_bool_str (bT I q (by simp))
   | _=>exact absurd (show false=true from c) a7b
 | int i=>
   obtain⟨t,rfl⟩:=d;cases y with
   | non=>cases a;exact PySem.EqNone.eq_int_none (bT I q (by simp))
   | int j=>obtain⟨b,rfl⟩:=a;exact eq_int (bT I q bM5)
   | str j=>obtain⟨b,rfl⟩:=a;exact PySem.EqMixed.eq_int_str (bT I q (by simp))
   | _=>exact absurd (show false=true from c) a7b
 | str i=>
   obtain⟨t,rfl⟩:=d;cases y with
   | non=>cases a;exact PySem.EqNone.eq_str_none (bT I q (by simp))
   | bl j=>cases a;exact PySem.EqMixed.eq_str_bool (bT I q (by simp))
   | int j=>obtain⟨b,rfl⟩:=a;exact PySem.EqMixed.eq_str_int (bT I q (by simp))
   | str j=>obtain⟨b,rfl⟩:=a;exact eq_str (bT I q aF0)
   | _=>exact absurd (show false=true from c) a7b
 | byt i=>
   obtain⟨t,rfl⟩:=d;cases y with
   | byt j=>obtain⟨b,rfl⟩:=a;exact W.eq_bytes (bT I q bM6)
   | _=>exact absurd (show false=true from c) a7b
 | _=>cases y<;>exact absurd (show false=true from c) a7b
def dX0:OpR X (compareOp .NotEq) rNe:=by
 intro pins s σ H x y v u Q I d a h;obtain⟨c,q⟩:=h;cases x with
 | non=>
   cases d;cases y with
   | non=>cases a;exact PySem.EqNone.ne_none_none (bT I q (by simp))
   | bl j=>cases a;exact PySem.EqNone.ne_none_bool (bT I q (by simp))
   | int j=>obtain⟨b,rfl⟩:=a;exact PySem.EqNone.ne_none_int (bT I q (by simp))
   | str j=>obtain⟨b,rfl⟩:=a;exact PySem.EqNone.ne_none_str (bT I q (by simp))
   | _=>exact absurd (show false=true from c) a7b
 | bl i=>
   cases d;cases y with
   | non=>cases a;exact PySem.EqNone.ne_bool_none (bT I q (by simp))
   | bl j=>cases a;exact ne_bool (bT I q (a3W not cK6))
   | str j=>obtain⟨b,rfl⟩:=a;exact PySem.EqMixed.ne_bool_str (bT I q (by simp))
   | _=>exact absurd (show false=true from c) a7b
 | int i=>
   obtain⟨t,rfl⟩:=d;cases y with
   | non=>cases a;exact PySem.EqNone.ne_int_none (bT I q (by simp))
   | int j=>obtain⟨b,rfl⟩:=a;exact ne_int (bT I q (a3W not bM5))
   | str j=>obtain⟨b,rfl⟩:=a;exact PySem.EqMixed.ne_int_str (bT I q (by simp))
   | _=>exact absurd (show false=true from c) a7b
 | str i=>
   obtain⟨t,rfl⟩:=d;cases y with
   | non=>cases a;exact PySem.EqNone.ne_str_none (bT I q (by simp))
   | bl j=>cases a;exact PySem.EqMixed.ne_str_bool (bT I q (by simp))
   | int j=>obtain⟨b,rfl⟩:=a;exact PySem.EqMixed.ne_str_int (bT I q (by simp))
   | str j=>obtain⟨b,rfl⟩:=a;exact ne_str (bT I q (a3W not aF0))
   | _=>exact absurd (show false=true from c) a7b
 | byt i=>
   obtain⟨t,rfl⟩:=d;cases y with
   | byt j=>obtain⟨b,rfl⟩:=a;exact W.ne_bytes (bT I q (a3W not bM6))
   | _=>exact absurd (show false=true from c) a7b
 | _=>cases y<;>exact absurd (show false=true from c) a7b
def zV:OpR X (compareOp .Lt) (rI0 λi j=>.bl (decide (i < j))):=dW8 λ_ _ _ _ _ _ _ q=>lt_int q
def bG6:OpR X (compareOp .Gt) (rI0 λi j=>.bl (decide (j < i))):=dW8 λ_ _ _ _ _ _ _ q=>gt_int q
def dX1:OpR X (compareOp .GtE) (rI0 λi j=>.bl (decide (j<=i))):=dW8 λ_ _ _ _ _ _ _ q=>ge_int q
def bM7:OpR X (compareOp .In) (λx y H Q=>∃ i j,x=.str i/\y=.str j/\Q (.bl (!(Builtin.Str.occurrences j i 0 j.length 1).isEmpty)) H):=by
 intro pins s σ H x y v u Q I a b h;obtain⟨i,j,rfl,rfl,q⟩:=h;obtain⟨t,rfl⟩:=a;obtain⟨c,rfl⟩:=b;exact in_str (bT I q rfl)
def dH8:OpR X (compareOp .Is) (λx y H Q=>y=.non/\Q (.bl (decide (x=.non))) H):=by
 intro pins s σ H x y v u Q I a b h;obtain⟨rfl,q⟩:=h;cases b;refine is_none_gen (bT I q ?_);cases x<;>first
  | (cases a;rfl)
  | (obtain⟨t,rfl⟩:=a;rfl)
def cS0:OpR X (compareOp .IsNot) (λx y H Q=>y=.non/\Q (.bl (!decide (x=.non))) H):=by
 intro pins s σ H x y v u Q I a b h;obtain⟨rfl,q⟩:=h;cases b;refine isnot_none_gen (bT I q ?_);cases x<;>first
  | (cases a;rfl)
  | (obtain⟨t,rfl⟩:=a;rfl)
def aK5:OpR X (compareOp .NotIn) (λx y H Q=>∃ i j,x=.str i/\y=.str j/\Q (.bl (!(!(Builtin.Str.occurrences j i 0 j.length 1).isEmpty))) H):=by
 intro pins s σ H x y v u Q I a b h;obtain⟨i,j,rfl,rfl,q⟩:=h;obtain⟨t,rfl⟩:=a;obtain⟨c,rfl⟩:=b;exact notIn_str (bT I q rfl)
def OpR.or{f:Value->Value->Sem Value}{r a:R2}(h:OpR X f r)(h':OpR X f a):OpR X f (λx y H Q=>r x y H Q\/a x y H Q):=by
 intro pins s σ H x y v u Q I b c q;rcases q with q | q;exact h pins s σ H x y v u Q I b c q;exact h' pins s σ H x y v u Q I b c q
def bF(b:Expr){a:CmpOp}(h:a≠.In:=by decide)(c:a≠.NotIn:=by decide):behindInMarks a b=false:=by
 have d:(a==CmpOp.In)=false:=by cases a<;>first | rfl | exact absurd rfl h
 have e:(a==CmpOp.NotIn)=false:=by cases a<;>first | rfl | exact absurd rfl c
 cases b<;>simp[behindInMarks,d,e]
def cS1{c:CmpOp}{r:R2}(d:OpR X (compareOp c) r)(ha:PE X a ta)(e:PE X b tb)(hm:behindInMarks c b=false):PE X (.Compare a [c] [b] pos) (tOp r ta tb):=by
 intro pins s σ H Q I h;exact wpAny_Compare1 (dW7 ha e I h λv u s2 x y f g i j q=>d pins s2 σ f x y v u Q g i j q) hm
def dH9(t:TE):TT:=λσ H Q=>t σ H λx H'=>∃ k,x=.bl k/\Q k H'
def kS{d:CmpOp}{r:R2}(f:OpR X (compareOp d) r)(ha:PE X a ta)(g:PE X b tb)(hm:behindInMarks d b=false):PT X (.Compare a [d] [b] pos) (dH9 (tOp r ta tb)):=by
 intro pins s σ H Q I h;refine wpAny_isTrue_Compare1 (thn (ha pins s σ H _ I h) λv s1 ⟨x,i,j,l,m⟩=>thn (g pins s1 σ i _ j m) λu s2 ⟨y,n,o,p,q⟩=>
  thn (f pins s2 σ n x y v u _ o l p q) λc C ⟨z,t,w,A,k,e,B⟩=>?_) hm
 subst e;cases A;exact a4i ⟨t,w,B⟩
def dI0(r b:R2)(ta tb tc:TE):TE:=λσ H Q=>ta σ H λx c=>tb σ c λy d=>r x y d λz a=>∃ k,z=.bl k /\
 (if k=true then tc σ a λe f=>b y e f Q else Q (.bl false) a)
def aB2:(sizeLine:Nat) < 2 ^ 63:=by rw[a4x];decide
def bG7:OpR X (binaryOp .Add) (λx y H Q=>∃ i j,x=.str i/\y=.str j/\i.length+j.length<=sizeLine/\Q (.str (i++j)) H):=by
 intro pins s σ H x y v u Q I a b h;obtain⟨i,j,rfl,rfl,c,q⟩:=h;obtain⟨t,rfl⟩:=a;obtain⟨d,rfl⟩:=b;exact add_str (λd tk=>⟨.str (i++j),H,I.tok _,⟨_,rfl⟩,q⟩) c
def zX{x:V}{us:List Value}(r:dD [x] us):∃ u,us=[u]/\gC x u:=by
 cases r with
 | cons a b=>cases b;exact⟨_,rfl,a⟩
def cS2{x y:V}{us:List Value}(r:dD [x,y] us):∃ u a,us=[u,a]/\gC x u/\gC y a:=by
 cases r with
 | cons b c=>
   cases c with
   | cons d e=>cases e;exact⟨_,_,rfl,b,d⟩
def bM8(b:X.calm=true):iW X (.builtin "max") (λxs H Q=>∃ i j,xs=[.int i,.int j]/\Q (.int (if j > i then j else i)) H):=by
 intro pins s σ H xs us Q I r h;obtain⟨i,j,rfl,q⟩:=h;obtain⟨u,c,rfl,⟨t,rfl⟩,⟨d,rfl⟩⟩:=cS2 r;refine max_two_ints (I.ok.hd b) λh' tk k=>⟨_,H,I.kept k,?_,q⟩;by_cases a:j > i;rw[a3O a,a3O a];exact⟨_,rfl⟩;rw[a3P a,a3P a];exact⟨_,rfl⟩
def tH(b:X.calm=true):iW X (.builtin "min") (λxs H Q=>∃ i j,xs=[.int i,.int j]/\Q (.int (if j < i then j else i)) H):=by
 intro pins s σ H xs us Q I r h;obtain⟨i,j,rfl,q⟩:=h;obtain⟨u,c,rfl,⟨t,rfl⟩,⟨d,rfl⟩⟩:=cS2 r;refine min_two_ints (I.ok.hd b) λh' tk k=>⟨_,H,I.kept k,?_,q⟩;by_cases a:j < i;rw[a3O a,a3O a];exact⟨_,rfl⟩;rw[a3P a,a3P a];exact⟨_,rfl⟩
def aK6:iW X (.type "int") (λxs H Q=>(∃ i,xs=[.int i]/\Q (.int i) H)\/∃ k,xs=[.bl k]/\Q (.int (if k then 1 else 0)) H):=by
 intro pins s σ H xs us Q I r h;rcases h with⟨i,rfl,q⟩ | ⟨k,rfl,q⟩;obtain⟨u,rfl,t,rfl⟩:=zX r;exact call_int_int ⟨.int i,H,I,⟨_,rfl⟩,q⟩;obtain⟨u,rfl,a⟩:=zX r;cases a;exact call_int_bool ⟨.int (if k then 1 else 0),H,I.tok _,⟨_,rfl⟩,q⟩
end
structure ObjM(h:Heap)(x dx C:Addr)(mA:Str->Option Value):Prop where
 obj:h.get? x=some (W.instObj C dx)
 ns:h.Ns1 dx mA
 ne:dx≠x
def bM9{h:Heap}{dx:Addr}{mA:Str->Option Value}(n:h.Ns1 dx mA):∃ od,h.get? dx=some od/\∀ name,W.lookIn name od=some (mA name):=by
 obtain⟨o,es,i,c,hd,d,_,hm⟩:=n;refine⟨o,c,λname=>?_⟩;have e:=hm name;unfold nsFind findBy at e;rw[← Array.find?_toList]at e;unfold W.lookIn;rw[hd];dsimp only;split;rename_i y q;rw[q]at e;exact a3W some e;rename_i q;rw[q]at e;have a:es.toList.any (·.refKey)=false:=by
  rw[List.any_eq_false];intro y f;obtain⟨z,t,b⟩:=d y (Array.mem_toList_iff.mp f);simp[DictEntry.refKey,b]
 have g:¬ es.toList.any (·.refKey)=true:=by rw[a];exact a7b
 rw[a3P g];exact a3W some e
def ObjM.look{h:Heap}{x dx C:Addr}{mA:Str->Option Value}(I:ObjM h x dx C mA):∃ od,W.InstAt h x (W.instObj C dx) C (some od)/\∀ name,W.lookIn name od=some (mA name):=
 let ⟨od,a,hl⟩:=bM9 I.ns
 ⟨od,⟨I.obj,rfl,rfl,a⟩,hl⟩
section
variable{prog:Program}{w:World}{A:Around}{E:Value->Shared->Prop}{s:Shared}{K:W.Frag}{x dx C f:Addr}{mA:Str->Option Value}{name:Str}{v:Value}
end
def cA9.some_of{v:V}{o:Option Value}(r:cA9 (some v) o):∃ u,o=some u/\gC v u:=by
 cases o with
 | none=>exact(show False from r).elim
 | some u=>exact⟨u,rfl,r⟩
section
variable{P:Program}{w:World}{H H':Hp}{h h':Heap}{a C dx:Addr}{fs fs':List (Str×V)}
def cS3(hok:HOk P w H h)(e:H a=some (.ins C dx fs)):∃ mA,ObjM h a dx C mA/\(∀ f,cA9 (fs.lookup f) (mA f))/\Within mA (fs.map (·.1))/\fs.length<=1000/\H dx=some (.own a):=by
 obtain⟨d,z,ne,ob,mA,n,r,q⟩:=(show fE P w H h a (.ins C dx fs)from hok a _ e);exact⟨mA,⟨ob,n,ne⟩,r,q,z,d⟩
end
structure Cls(K:W.Frag)(C:Addr):Prop where
 pg:W.plainGet K C Str.empty=true
 hd:W.hasDictIn K C=true
 po:W.plainOver K C=true
 sa:W.findIn K (.ref C) "__setattr__"=some (some (.builtin "object.__setattr__"))
def Cls.get{K:W.Frag}{C:Addr}(c:Cls K C)(f:Str):W.plainGet K C f=true:=c.pg
section
variable{X:Cx}{pins:List (Addr×Obj)}{σ:St}{H:Hp}{s:Shared}{a C dx:Addr}{fs:List (Str×V)}{f:Str}{v:V}{A:Around}{E:Value->Shared->Prop}
end
section
variable{X:Cx}{o e value:Expr}{f:Str}{pos pos' tpos:Pos}{ta tv:TE}
end
section
variable{X:Cx}{pins:List (Addr×Obj)}{σ:St}{H:Hp}{s:Shared}{A:Around}{E:Value->Shared->Prop}{Q:Value->Shared->Prop}{c:Value}{b:Bool}
inductive TyOf(K:W.Frag)(H:Hp):V->Value->Prop where
 | non:TyOf K H .non (.type "NoneType")
 | bl (x:Bool):TyOf K H (.bl x) (.type "bool")
 | int (i:Int):TyOf K H (.int i) (.type "int")
 | str (x:Str):TyOf K H (.str x) (.type "str")
 | flt (x:UInt64):TyOf K H (.flt x) (.type "float")
 | lst {a:Addr} {xs:List V} (e:H a=some (.lst xs)):TyOf K H (.ref a) (.type "list")
 | frz {a:Addr} {o:Obj} {xs:List V} (e:H a=some (.frz o (.lst xs))):TyOf K H (.ref a) (.type "list")
 | tup {a:Addr} {xs:List V} (e:H a=some (.tup xs)):TyOf K H (.ref a) (.type "tuple")
 | dK {a:Addr} {kvs:List (Key×V)} (e:H a=some (.dK kvs)):TyOf K H (.ref a) (.type "dict")
 | dT {a:Addr} {kvs:List (List Key×V)} (e:H a=some (.dT kvs)):TyOf K H (.ref a) (.type "dict")
 | ins {a C dx:Addr} {fs:List (Str×V)} (e:H a=some (.ins C dx fs)) (cl:Cls K C) (ha:W.findIn K (.ref C) "__class__"=some (some (.builtin "object.__class__")))
   (hn:W.specialIn K (.builtin "object.__class__") "__get__"=some (some (.builtin "getset_descriptor.__get__"))) (htk:W.takesIn K (.builtin "object.__class__")=some true)
   (hm:W.mroIn K C (.type "object")=some true):TyOf K H (.ref a) (.ref C)
def bN0{x:V}{u t:Value}(I:Inv X pins σ H s)(d:gC x u)(ty:TyOf X.K H x t)(e:W.kitOne X.K t c=some b)(h:∀ tk,Q (.bool b) {s with toks:=tk}) :
  wpAny (model X.prog X.w) A (call (.builtin "isinstance") [u,c]) Q E s:=by
 cases ty with
 | non=>cases (show u=Value.none from d);exact a8f W.kitx_none I.kIn True.intro e (λz=>nomatch z) h
 | bl y=>cases (show u=Value.bool y from d);exact a8f W.kitx_bool I.kIn True.intro e (λz=>nomatch z) h
 | int i=>obtain⟨t,q⟩:=(show ∃ t,u=Value.int i t from d);cases q;exact a8f W.kitx_int I.kIn True.intro e (λz=>nomatch z) h
 | str y=>obtain⟨t,q⟩:=(show ∃ t,u=Value.str y t from d);cases q;exact a8f W.kitx_str I.kIn True.intro e (λz=>nomatch z) h
 | flt y=>obtain⟨t,q⟩:=(show ∃ t,u=Value.float y t from d);cases q;exact a8f W.kitx_float I.kIn True.intro e (λz=>nomatch z) h
 | @lst a xs f=>
   cases (show u=Value.ref a from d);obtain⟨_,_,n,_,g⟩:=(show fE X.prog X.w H s.heap a (.lst xs)from I.hok a _ f);exact a8f W.kitx_list I.kIn ⟨_,g,rfl⟩ e (λz=>nomatch z) h
 | @frz a ob xs f=>
   cases (show u=Value.ref a from d);obtain⟨_,_,_,n,_,g⟩:=(show fE X.prog X.w H s.heap a (.frz ob (.lst xs))from I.hok a _ f);exact a8f W.kitx_list I.kIn ⟨_,g,rfl⟩ e (λz=>nomatch z) h
 | @tup a xs f=>
   cases (show u=Value.ref a from d);obtain⟨_,_,_,p,_⟩:=(show fE X.prog X.w H s.heap a (.tup xs)from I.hok a _ f);obtain⟨o,g,j,_⟩:=p;exact a8f W.kitx_tuple I.kIn ⟨o,g,j⟩ e (λz=>nomatch z) h
 | @dK a kvs f=>
   cases (show u=Value.ref a from d);obtain⟨_,_,vs,_,p⟩:=(show fE X.prog X.w H s.heap a (.dK kvs)from I.hok a _ f);obtain⟨o,es,k,g,j,_⟩:=p;exact a8f W.kitx_dict I.kIn ⟨o,g,j.1⟩ e (λz=>nomatch z) h
 | @dT a kvs f=>
   cases (show u=Value.ref a from d);obtain⟨_,_,xs,_,o,es,k,g,j,_⟩:=(show fE X.prog X.w H s.heap a (.dT kvs)from I.hok a _ f);exact a8f W.kitx_dict I.kIn ⟨o,g,j.1⟩ e (λz=>nomatch z) h
 | @ins a C dx fs f cl ha hn htk hm=>
   cases (show u=Value.ref a from d);obtain⟨mA,O,_⟩:=cS3 I.hok f;obtain⟨od,J,_⟩:=O.look;exact a8f (W.kitx_own (cl.get _) cl.hd ha hn htk hm) I.kIn J e (λz=>nomatch z) h
end
structure Room(k:Nat)(A:Around):Prop where
 hd:A.handled=none
 dp:A.depth+3*k+5 < recursionLimit
 un:A.units+16*k+200 < cLine
def Room.mono{j k:Nat}{A:Around}(r:Room k A)(h:j<=k):Room j A:=⟨r.hd,by have:=r.dp;lia,by have:=r.un;lia⟩
theorem Room.deeper{k:Nat}{A:Around}(r:Room (k+1) A)(env:Env):Room k (A.deeper env):=
 ⟨r.hd,by have:=r.dp;show A.depth+1+3*k+5 < _;lia,by have:=r.un;show A.units+3+16*k+200 < _;lia⟩
theorem Room.depth{k:Nat}{A:Around}(r:Room k A):A.depth < recursionLimit:=by have:=r.dp;lia
theorem Room.units{k:Nat}{A:Around}(r:Room k A):A.units+64 < cLine:=by have:=r.un;lia
def dX2:TA:=λ_ H Q=>Q [] H
def cB2(a:TE)(tr:TA):TA:=λσ H Q=>a σ H λx b=>tr σ b λxs c=>Q (x::xs) c
section
variable{X:Cx}{e:Expr}{es:List Expr}{te:TE}{t:TA}{pos:Pos}
def gD:PA X [] dX2:=λ_ _ _ _ H Q I h=>Calls.spliced_nil ⟨[],H,I,.nil,h⟩
def bU(ha:PE X e te)(a:PA X es t)(b:starEach (e::es) X.env=(false,eval e X.env)::starEach es X.env:=by rfl):PA X (e::es) (cB2 te t):=by
 intro pos pins s σ H Q I h;rw[b];show wpAny _ _ (spliced ((false,eval e X.env)::backTo pos (starEach es X.env))) _ _ s;refine Calls.spliced_cons (thn (ha pins s σ H _ I h) λu s1 Z0=>?_);obtain⟨x,c,d,f,g⟩:=Z0;exact thn (a pos pins s1 σ c _ d g) λus s2 ⟨xs,i,j,k,l⟩=>⟨x::xs,i,j,.cons f k,l⟩
def eC0(t:TA):TE:=λσ H Q=>t σ H λxs a=>xs.length<=sizeLine/\∀ p,a p=none->Q (.ref p) (upd a p (.tup xs))
def eC1(t:TA):TE:=λσ H Q=>t σ H λxs a=>xs.length<=sizeLine/\∀ p,a p=none->Q (.ref p) (upd a p (.lst xs))
def dI1{d}(h:PA X es t):PE X (.Tuple es d pos) (eC0 t):=by
 intro pins s σ H Q I f;refine wpAny_Tuple_spliced (thn (h pos pins s σ H _ I f) λus s1 ⟨xs,a,c,r,z,q⟩=>⟨by rw[← r.length];exact z,?_⟩);have g:a s1.heap.objs.size=none:=c.hok.fresh (a7a _);refine⟨.ref s1.heap.objs.size,upd a s1.heap.objs.size (.tup xs),c.laid (t':=s1.toks) (λb u e=>a5a _ e) (a7a _) ?_,rfl,q _ g⟩;exact⟨z,us,r,⟨_,a8b _ rfl,rfl,_,rfl⟩,⟨_,a8b _ rfl,rfl⟩⟩
def cK7(h:PA X es t):PE X (.List es pos) (eC1 t):=by
 intro pins s σ H Q I d;refine wpAny_List_spliced (thn (h pos pins s σ H _ I d) λus s1 ⟨xs,a,c,r,z,q⟩=>⟨by rw[← r.length];exact z,?_⟩);have f:a s1.heap.objs.size=none:=c.hok.fresh (a7a _);refine⟨.ref s1.heap.objs.size,upd a s1.heap.objs.size (.lst xs),c.laid (t':=s1.toks) (λb u e=>a5a _ e) (a7a _) ?_,rfl,q _ f⟩;exact⟨z,us,0,r,a8b _ rfl⟩
end
abbrev Sp:=List V->Hp->VK->XK->Prop
abbrev CXT:=List Env->Hp->Shared->XK->Value->Shared->Prop
structure Env0(P:Program)(w:World)(K:W.Frag)(mg:Str->Option Value)(base:Heap)(A:Around)(outer:List Env)(s:Shared)(H:Hp):Prop where
 frames:A.frames=some outer
 mod:Mod K mg base
 bs:∀ b o,base.get? b=some o->s.heap.get? b=some o/\H b=none
 bsz:base.objs.size<=s.heap.objs.size
 funs:s.heap.FunFrames base outer
 frf:∀ b∈frs outer,H b=none
 hok:HOk P w H s.heap
 bare:AllBare s.gens
def CE(outer:List Env)(P:Program)(w:World)(H:Hp)(s:Shared)(Q:VK)(u:Value)(s':Shared):Prop:=
 ∃ v H',s'.os=s.os/\AllBare s'.gens/\Un (frs outer) [] H H' s.heap s'.heap/\HOk P w H' s'.heap/\gC v u/\Q v H'
def CR(CX:CXT)(outer:List Env)(P:Program)(w:World)(H:Hp)(s:Shared)(Q:VK)(E:XK)(r:Result)(s':Shared):Prop:=
 match r with
 | .ok (.ret u)=>CE outer P w H s Q u s'
 | .ok _=>False
 | .error e=>CX outer H s E e s'
structure FnOk(P:Program)(w:World)(K:W.Frag)(mg:Str->Option Value)(base:Heap)(CX:CXT)(k:Nat)(f:Addr)(fd:FuncData)(ps:List Str)(sp:Sp):Prop where
 len:∀ vs H Q E,sp vs H Q E->vs.length=ps.length
 run:∀ (A:Around) (outer:List Env) (s:Shared) (H:Hp) (args:Args) (us:List Value) (vs:List V) (Q:VK) (E:XK),Room k A->Env0 P w K mg base A outer s H->BindsTo s fd args (ps.zip us)->dD vs us->sp vs H Q E ->
  codeAny (model P w) A (.call (.ref f) args) (CR CX outer P w H s Q E) s
def FnOk.imp{P:Program}{w:World}{K:W.Frag}{mg:Str->Option Value}{base:Heap}{CX:CXT}{k:Nat}{f:Addr}{fd:FuncData}{ps:List Str}{sp a:Sp}(F:FnOk P w K mg base CX k f fd ps sp)
  (h:∀ vs H Q E,a vs H Q E->sp vs H Q E):FnOk P w K mg base CX k f fd ps a:=
 ⟨λvs H Q E q=>F.len vs H Q E (h _ _ _ _ q),λA outer s H args us vs Q E b c d e g=>F.run A outer s H args us vs Q E b c d e (h _ _ _ _ g)⟩
section
variable{X:Cx}{pins:List (Addr×Obj)}{σ:St}{H:Hp}{s s':Shared}
def Inv.env0(I:Inv X pins σ H s):Env0 X.prog X.w X.K X.mg X.base X.A X.stack s H:=
 ⟨I.ok.frames,I.ok.mod,I.bs,a6c I.ok.bsz I.sz,I.stack,I.stkFree,I.hok,I.bare⟩
def Inv.after{Q:VK}{u:Value}(I:Inv X pins σ H s)(h:CE X.stack X.prog X.w H s Q u s'):EP X pins σ Q u s':=by
 obtain⟨v,H',os,bare,un,hok,r,q⟩:=h;obtain⟨c,g,d,t,a⟩:=s';obtain rfl:a=s.os:=os;exact⟨v,H',I.call (h':=c) (g':=g) (d':=d) (t':=t) (ch:=[]) un hok bare (λb z=>absurd z (by simp)),r,q⟩
end
def bG8(sp:Sp)(a:List V)(E:XK)(t:TA):TE:=λσ H Q=>t σ H λvs b=>sp (vs++a) b Q E
def fK(K:W.Frag)(fd:FuncData)(ps:List Str)(ds:List Value):Prop:=
 ∀ (s:Shared) (us:List Value),K.In s.heap->(us++ds).length=ps.length->BindsTo s fd ⟨us,[]⟩ (ps.zip (us++ds))
def fK.all{K:W.Frag}{fd:FuncData}{ps:List Str}(h:∀ us:List Value,us.length=ps.length->bindArgs fd ⟨us,[]⟩=pure (ps.zip us)):fK K fd ps []:=λs us _ a=>by
 rw[a3g]at a ⊢;exact .of_eq (h us a)
def bN1(CX:CXT)(X:Cx)(E:XK):Prop:=∀ (pins:List (Addr×Obj)) (σ:St) (H:Hp) (s:Shared) (e:Value) (s':Shared),Inv X pins σ H s->CX X.stack H s E e s'->X.xe e s'
section
variable{X:Cx}{CX:CXT}{k:Nat}{f C:Addr}{fd:FuncData}{ps:List Str}{sp:Sp}{dvs:List V}{ds:List Value}{E:XK}{x m:Str}{p pos apos:Pos}{e o:Expr}{es:List Expr}{ta:TE}{t:TA}
def dI2{pins:List (Addr×Obj)}{σ:St}{H:Hp}{s:Shared}{Q:VK}{us:List Value}{vs:List V}(F:FnOk X.prog X.w X.K X.mg X.base CX k f fd ps sp)(c:Room k X.A)(d:fK X.K fd ps ds)(hd:dD dvs ds)(g:bN1 CX X E)
  (I:Inv X pins σ H s) (r:dD vs us) (h:sp (vs++dvs) H Q E):wpAny (model X.prog X.w) X.A (call (.ref f) us) (EP X pins σ Q) X.xe s:=by
 have b:dD (vs++dvs) (us++ds):=r.append hd;have i:(us++ds).length=ps.length:=by rw[← b.length];exact F.len _ _ _ _ h
 refine wpAny_call (a4s (F.run X.A X.stack s H ⟨us,[]⟩ (us++ds) (vs++dvs) Q E c I.env0 (d s us I.kIn i) b h) λr s' a=>?_);cases r with
 | error e=>exact g pins σ H s e s' I a
 | ok j=>
   cases j with
   | ret u=>exact I.after a
   | next=>exact False.elim a
   | brk=>exact False.elim a
   | cont=>exact False.elim a
def aK(F:FnOk X.prog X.w X.K X.mg X.base CX k f fd ps sp)(d:Room k X.A)(g:Gl X x)(hm:X.mg x=some (.ref f))(i:W.keepIn X.K (.ref f)=true)(j:fK X.K fd ps ds)(hd:dD dvs ds)(l:bN1 CX X E)
  (ha:PA X (e::es) t) (a:(x==("__debug__":Str))=false:=by decide) (m:starEach (e::es) X.env=(false,eval e X.env)::starEach es X.env:=by rfl) (b:(backTo pos (starEach es X.env)).any (·.1)=false:=by rfl) :
  PE X (.Call (.Name x p) (e::es) [] pos) (bG8 sp dvs E t):=by
 intro pins s σ H Q I h;refine a3Z (bL5 I g hm ?_ a);refine W.callWith_K (h₀:=X.base) I.ok.mod.kin i (thn (ha pos pins s σ H _ I h) λus s1 ⟨vs,n,c,r,q⟩=>⟨c.kIn,?_⟩) m b;exact dI2 F d j hd l c r q
end
def PK(X:Cx)(a:List Keyword)(t:TA):Prop:=
 ∀ (b:Pos) (pins:List (Addr×Obj)) (s:Shared) (σ:St) (H:Hp) (Q:List V->Hp->Prop),Inv X pins σ H s->t σ H Q->wpAny (model X.prog X.w) X.A (evalAll ((backToKw b (keywordEach a X.env)).map (·.2))) (AP X pins σ Q) X.xe s
section
variable{X:Cx}{CX:CXT}{k:Nat}{f C:Addr}{fd:FuncData}{ps ks:List Str}{sp:Sp}{E:XK}{x m:Str}{p pos apos kpos:Pos}{e o:Expr}{es:List Expr}{kws:List Keyword}{te ta:TE}{t tk:TA}{nm:Option Str}
variable{g:List Value->List Value->List Value}{gV:List V->List V->List V}
end
structure FnScope(N P:List Str)(sc:Scope):Prop where
 kind:sc.kind=.function
 co:sc.isCoroutine=false
 gen:sc.isGenerator=false
 nd:N.Nodup
 pre:N.take P.length=P
 par:∀ x∈P,sc.names.lookup x=some .local\/sc.names.lookup x=some .cell
 nofree:∀ y∈sc.names,y.2≠.free
theorem aK7{kindOf:Str->Option NameKind}{x:Str}:∀ {binds:List (Str×Value)} {m:Str->Option Value},(∀ v,(x,v)∉binds)->bindL kindOf binds m x=m x
 | [],_,_=>rfl
 | (n,v)::r,m,h=>by
   unfold bindL;rw[aK7 λw a=>h w (a4a _ a)];split
   ·have:x≠n:=by rintro rfl;exact h v a3a
    simp[this]
   ·rfl
theorem aK8{kindOf:Str->Option NameKind}{x:Str}:∀ {binds:List (Str×Value)} {m:Str->Option Value},(∀ v,(x,v)∉binds)->bindC kindOf binds m x=m x
 | [],_,_=>rfl
 | (n,v)::r,m,h=>by
   unfold bindC;rw[aK8 λw a=>h w (a4a _ a)];split;rfl
   ·have:x≠n:=by rintro rfl;exact h v a3a
    simp[this]
theorem aK9{kindOf:Str->Option NameKind}{x:Str}{v:Value}:∀ {P:List Str} {vs:List Value} {i:Nat} {m:Str->Option Value},P.Nodup->P[i]? = some x->vs[i]? = some v->kindOf x=some .local ->
  bindL kindOf (P.zip vs) m x=some v
 | [],_,_,_,_,h,_,_=>by simp at h
 | _::_,[],_,_,_,_,h,_=>by simp at h
 | p::P,w::vs,0,m,nd,a,b,c=>by
   simp at a b;subst a;subst b;show bindL kindOf ((p,w)::P.zip vs) m p=_;unfold bindL;rw[aK7 λv d=>(a8e.mp nd).1 (List.of_mem_zip d).1,a3O c];simp
 | p::P,w::vs,i+1,m,nd,a,b,c=>by
   show bindL kindOf ((p,w)::P.zip vs) m x=_;unfold bindL;exact aK9 (i:=i) (a8e.mp nd).2 (by simpa using a) (by simpa using b) c
theorem aL0{kindOf:Str->Option NameKind}{x:Str}{v:Value}:∀ {P:List Str} {vs:List Value} {i:Nat} {m:Str->Option Value},P.Nodup->P[i]? = some x->vs[i]? = some v->kindOf x≠some .local ->
  bindC kindOf (P.zip vs) m x=some v
 | [],_,_,_,_,h,_,_=>by simp at h
 | _::_,[],_,_,_,_,h,_=>by simp at h
 | p::P,w::vs,0,m,nd,a,b,c=>by
   simp at a b;subst a;subst b;show bindC kindOf ((p,w)::P.zip vs) m p=_;unfold bindC;rw[aK8 λv d=>(a8e.mp nd).1 (List.of_mem_zip d).1,a3P c];simp
 | p::P,w::vs,i+1,m,nd,a,b,c=>by
   show bindC kindOf ((p,w)::P.zip vs) m x=_;unfold bindC;exact aL0 (i:=i) (a8e.mp nd).2 (by simpa using a) (by simpa using b) c
noncomputable def kU(N:List Str)(vs:List V):St:=vs.map some++List.replicate (N.length-vs.length) none
noncomputable def cK8(CX:CXT)(P:Program)(w:World)(K:W.Frag)(mg:Str->Option Value)(base:Heap)(N:List Str)(qual:Str)(scope:Scope)(f:Addr)(cd:Value)(A:Around)(outer:List Env)(s:Shared)(H:Hp)(E:XK):Cx where
 prog:=P
 w:=w
 K:=K
 mg:=mg
 base:=base
 A:=A.deeper (envOfC qual scope s.heap.objs.size f cd)
 N:=N
 s₀:=s
 H₀:=H
 env:=envOfC qual scope s.heap.objs.size f cd
 outer:=outer
 stack:=envOfC qual scope s.heap.objs.size f cd::outer
 ex:=[]
 calm:=true
 fn:=λ_=>true
 pn:=[]
 xe:=λe s'=>wpAny (model P w) (A.deeper (envOfC qual scope s.heap.objs.size f cd)) (leaving (envOfC qual scope s.heap.objs.size f cd) e) (λ_ a=>CX outer H s E e a) (λb a=>CX outer H s E b a) s'
def aZ7{sc:Scope}{n:Nat}{x:Str}(h:sc.names.lookup x=some .cell):∃ c,(cellsFrom n sc.names []).lookup x=some c:=by
 have q:=W.cellsFrom_some sc.names n [] (.inl h);exact Option.isSome_iff_exists.mp q
def bN2{CX:CXT}{P:Program}{w:World}{K:W.Frag}{mg:Str->Option Value}{base:Heap}{N ps:List Str}{qual:Str}{scope:Scope}{f:Addr}{cd:Value}{A:Around}{outer:List Env}{s s1:Shared}{H:Hp}{E:XK}{us:List Value}{vs:List V}
  (S:FnScope N ps scope) (hd:A.handled=none) (g:Env0 P w K mg base A outer s H) (G:vs.length=ps.length) (r:dD vs us)
  (x:InCallC s s.heap.objs.size (bindL (envOfC qual scope s.heap.objs.size f cd).kindOf (ps.zip us) λ_=>none) (cellsFrom (s.heap.objs.size+1) scope.names []) (bindC (envOfC qual scope s.heap.objs.size f cd).kindOf (ps.zip us) λ_=>none) s1) :
  Inv (cK8 CX P w K mg base N qual scope f cd A outer s H E) [] (kU N vs) H s1:=by
 have D:ps.length<=N.length:=by have:=a3W List.length S.pre;rw[a9c]at this;lia
 obtain⟨t,tk,rfl,B⟩:=x.done;have j:∀ b:Addr,b∉(cK8 CX P w K mg base N qual scope f cd A outer s H E).ex:=λb z=>absurd (show b∈([]:List Addr)from z) (by simp);refine⟨⟨g.mod,S.kind,rfl,rfl,a7a _,λy z c t d=>?_,λy l=>?_,λy c _ h=>?_,λ_=>hd,Around.frames_deeper g.frames,.inr ⟨rfl,rfl⟩,λb z=>absurd z (j b),g.bs,g.bsz,λb _ _=>j b,λb z=>absurd z (j b),g.funs,g.frf⟩,
  rfl,g.bare,Un.kept B,⟨_,x.toInCall.ns,λi y v t d I=>?_⟩,λy c h=>⟨_,x.cell y c h⟩,g.hok.fresh (a7a _),λy c h=>?_,λp m=>absurd (show p∈([]:List (Addr×Obj))from m) (by simp),g.hok.kept B,?_⟩
 ·exact name_of_addr x.apart (a3h t) (a3h d)
 ·have l:scope.names.lookup y=some .cell\/scope.names.lookup y=some .free:=l;rcases l with l | l;exact aZ7 l;exact absurd rfl (S.nofree _ (a3h l))
 ·exact a1i (x.above y c (a3h h))
 ·have hi:i < vs.length:=by
   unfold kU at d;by_cases hi:i < vs.length;exact hi;rw[a0g (by simpa using hi)]at d;rw[List.getElem?_replicate]at d;split at d<;>cases d
  have ha:vs[i]? = some v:=by
   unfold kU at d;rw[a2g (by simpa using hi),a3c]at d;cases e:vs[i]? with
   | none=>rw[e]at d;cases d
   | some a=>rw[e]at d;cases d;rfl
  obtain⟨u,C,F⟩:=r.get ha;have m:ps[i]? = some y:=by
   rw[← S.pre,List.getElem?_take_of_lt (by lia)];exact t
  have o:ps.Nodup:=by rw[← S.pre];exact S.nd.sublist (List.take_sublist _ _)
  refine⟨u,F,?_⟩;rcases S.par y (a0c m)with k | k;exact .inl ⟨k,aK9 o m C k⟩;obtain⟨c,e⟩:=aZ7 (n:=s.heap.objs.size+1) k;refine .inr ⟨.inl k,c,e,?_⟩;have q:=x.cell y c e;rw[aL0 o m C (by show scope.names.lookup y≠_;rw[k];decide)]at q;exact q
 ·exact g.hok.fresh (a1i (x.above y c (a3h h)))
 ·unfold kU;show _=N.length;rw[a8a,a1a,List.length_replicate];lia
def dX3{CX:CXT}{P:Program}{w:World}{K:W.Frag}{mg:Str->Option Value}{base:Heap}{k:Nat}{f:Addr}{name qual:Str}{a:Arguments}{c:List Stmt}{scope:Scope}{B kV doc pm cdv ct oc:Value}{an od:Option Addr}
  {osl:Array (Option Value)} {N ps:List Str} {sp:Sp} (lk:K.lookup f=some ⟨oc,od,.func (W.fnOf name qual a c scope B kV doc pm an cdv ct),osl⟩) (l:W.codeIn K cdv qual=true) (S:FnScope N ps scope)
  (len:∀ vs H Q E,sp vs H Q E->vs.length=ps.length)
  (d:∀ (A:Around) (outer:List Env) (s:Shared) (H:Hp) (vs:List V) (Q:VK) (E:XK),Room k (A.deeper (envOfC qual scope s.heap.objs.size f cdv))->sp vs H Q E ->
   ∃ t,PSs (cK8 CX P w K mg base N qual scope f cdv A outer s H E) c t/\t {nx:=λ_ H'=>Q .non H',rt:=Q} (kU N vs) H) :
  FnOk P w K mg base CX (k+1) f (W.fnOf name qual a c scope B kV doc pm an cdv ct) ps sp:=by
 refine⟨len,λA outer s H args us vs Q E m i D r j=>?_⟩;have F:=len _ _ _ _ j;have C:K.In s.heap:=i.mod.kin.keeps λb o e=>(i.bs b o e).1;have p:s.heap.NoLimit:=i.mod.nolimit.keeps λb o e=>(i.bs b o e).1;have g:∀ y∈ps.zip us,scope.names.lookup y.1=some .local\/(scope.names.lookup y.1=some .cell/\((cellsFrom (s.heap.objs.size+1) scope.names []).lookup y.1).isSome=true):=λ⟨n,v⟩ G=>by
  rcases S.par n (List.of_mem_zip G).1 with q | q;exact .inl q;exact .inr ⟨q,W.cellsFrom_some _ _ _ (.inl q)⟩
 refine codeAny_call_function m.depth (C _ _ lk) rfl S.co S.gen rfl (W.codeRec_of C l) (D _ _ _ _ ?_);refine wpAny_newFunctionEnv_cells S.kind g λenv L s1 x=>?_;subst L;refine⟨p.keeps x.toInCall.keep,codeAny_func ?_⟩;obtain⟨t,M,O⟩:=d A outer s H vs Q E (m.deeper _) j;have I:Inv (cK8 CX P w K mg base N qual scope f cdv A outer s H E) [] (kU N vs) H s1:=bN2 S m.hd i F r x;refine a3Y (M [] s1 (kU N vs) H _ I O) (λR s' h=>?_) λe s' h=>h;have fin:∀ {σ':St} {H':Hp} {v:V} {u:Value},Inv (cK8 CX P w K mg base N qual scope f cdv A outer s H E) [] σ' H' s'->gC v u->Q v H'->CE outer P w H s Q u s':=
  λ{σ' H' v u} J z q=>⟨v,H',J.os,J.bare,J.base,J.hok,z,q⟩
 cases R with
 | ret u=>
   obtain⟨v,σ',H',J,z,q⟩:=h;exact fin J z q
 | next=>
   obtain⟨σ',H',J,q⟩:=h;exact fin (v:=V.non) (u:=Value.none) J rfl q
 | brk=>
   obtain⟨_,_,_,q⟩:=h;exact False.elim q
 | cont=>
   obtain⟨_,_,_,q⟩:=h;exact False.elim q
section
variable{X:Cx}{x:Str}{p pos:Pos}{e:Expr}{es:List Expr}{t:TA}{id T:String}{r:List V->Hp->VK->Prop}
def tCB(r:List V->Hp->VK->Prop)(t:TA):TE:=λσ H Q=>t σ H λvs a=>r vs a Q
def aY(c:iW X (.builtin id) r)(d:Gl X x)(hm:X.mg x=none)(f:bootBuiltins x=some (.builtin id))(ha:PA X (e::es) t)(hn:x≠"__name__":=by decide)(a:(x==("__debug__":Str))=false:=by decide)
  (g:starEach (e::es) X.env=(false,eval e X.env)::starEach es X.env:=by rfl) (b:(backTo pos (starEach es X.env)).any (·.1)=false:=by rfl):PE X (.Call (.Name x p) (e::es) [] pos) (tCB r t):=by
 intro pins s σ H Q I h;refine a3Z (nA I d hm f ?_ hn a);exact PyProof.Rows.callWith_builtin1 (thn (ha pos pins s σ H _ I h) λus s1 ⟨vs,i,j,k,l⟩=>c pins s1 σ i vs us Q j k l) g b
def cH(c:iW X (.type T) r)(d:Gl X x)(hm:X.mg x=none)(f:bootBuiltins x=some (.type T))(ha:PA X (e::es) t)(hn:x≠"__name__":=by decide)(a:(x==("__debug__":Str))=false:=by decide)
  (g:starEach (e::es) X.env=(false,eval e X.env)::starEach es X.env:=by rfl) (b:(backTo pos (starEach es X.env)).any (·.1)=false:=by rfl):PE X (.Call (.Name x p) (e::es) [] pos) (tCB r t):=by
 intro pins s σ H Q I h;refine a3Z (nA I d hm f ?_ hn a);exact a2f (thn (ha pos pins s σ H _ I h) λus s1 ⟨vs,i,j,k,l⟩=>c pins s1 σ i vs us Q j k l) g b
end
end L2
namespace HT
open PySem PyProof.Rows
section
open PySem.SeqAt
open PySem.AutoSeq1 (wpAny_loadPart')
open PySem.MeetsSeq PySem.MeetsSeq2 PySem.MeetsSeq3
end
section
variable{prog:Program}{w:World}{A:Around}{E:Value->Shared->Prop}{s:Shared}
def cat_tup{t b:Addr}{vs ws:List Value}{Q:Value->Shared->Prop}(l:IsTup s.heap t vs.toArray)(m:IsTup s.heap b ws.toArray)(h:vs≠[])
  (o:ws=[]->Q (.ref t) s) (p:ws≠[]->Q (.ref s.heap.objs.size) {s with heap:=s.heap.push {cls:=.type "tuple",data:=.seq (vs++ws).toArray}})
  (hsz:vs.length+ws.length<=sizeLine):wpAny (model prog w) A (binaryOp .Add (.ref t) (.ref b)) Q E s:=by
 obtain⟨⟨cls,i,data,sl⟩,f,j,n,hd⟩:=id l;obtain⟨⟨k,c,data2,sl2⟩,a,d,n2,hd2⟩:=id m;simp only at j hd d hd2;subst j hd d hd2;have e:vs.toArray++ws.toArray=(vs++ws).toArray:=by simp
 by_cases g:ws=[]
 ·exact concat_meets ⟨_,f,rfl⟩ ⟨_,a,rfl⟩ noFill_tuple_add seq_tuple_add F.slot_tuple_add F.entry_tuple_add (F.args_tuple_add_2 _ _)
   (tuple_addW1 t b vs.toArray ws.toArray n n2 i c sl sl2 (by simpa using h) (by simp[g])) ⟨f,a,o g⟩
 ·refine concat_meets ⟨_,f,rfl⟩ ⟨_,a,rfl⟩ noFill_tuple_add seq_tuple_add F.slot_tuple_add F.entry_tuple_add (F.args_tuple_add_2 _ _)
   (tuple_addW2 t b vs.toArray ws.toArray n n2 i c sl sl2 (by simpa using h) (by simpa using g) (by rw[List.size_toArray,List.size_toArray];exact hsz)) ⟨f,a,?_⟩
  rw[e];exact p g
noncomputable def sIx(n d:Nat):Option Int->Nat
 | none=>d
 | some v=>if v < 0 then(v+(n:Int)).toNat else min v.toNat n
def sIx_none(n d:Nat):sIx n d none=d:=rfl
def sIx_nat(n d k:Nat):sIx n d (some (k:Int))=min k n:=by
 show(if(k:Int) < 0 then((k:Int)+(n:Int)).toNat else min (k:Int).toNat n)=min k n;rw[a3P (by lia),a9h]
def dI3(n d:Nat)(hd:d<=n)(o:Option Int):sIx n d o<=n:=by
 cases o with
 | none=>exact hd
 | some v=>
   show(if v < 0 then(v+(n:Int)).toNat else min v.toNat n)<=n;by_cases a:v < 0;rw[a3O a];lia;rw[a3P a];exact Nat.min_le_right _ _
def bN3(v:Int)(n d:Nat):(if v < 0 then max (v+(n:Int)) 0 else min v (n:Int))=((sIx n d (some v):Nat):Int):=by
 show(if v < 0 then max (v+(n:Int)) 0 else min v (n:Int))=(((if v < 0 then(v+(n:Int)).toNat else min v.toNat n):Nat):Int);by_cases a:v < 0;simp only[if_pos a];lia;simp only[if_neg a];lia
def bG9(lo hi:Option Int)(n:Nat):Builtin.Slice.sliceAdjust lo hi 1 (n:Int)=(((sIx n 0 lo:Nat):Int),((sIx n n hi:Nat):Int)):=by
 have a:¬ ((1:Int) < 0):=by lia
 unfold Builtin.Slice.sliceAdjust;simp only[a,if_false];refine Prod.ext ?_ ?_
 ·cases lo with
  | none=>rfl
  | some v=>exact bN3 v n 0
 ·cases hi with
  | none=>rfl
  | some v=>exact bN3 v n n
def bH0(i j:Nat):Builtin.Slice.slicePlaces (i:Int) (j:Int) 1=j-i:=by
 unfold Builtin.Slice.slicePlaces;have a:(1:Int) > 0:=by lia
 simp only[a,if_true,Int.ediv_one];split<;>lia
def aB3{v:Value}{o:Option Int}{Q:Option Int->Shared->Prop}(p:IsPart v o)(h:Q o s):wpAny (model prog w) A (Builtin.Slice.slicePartIndex v) Q E s:=by
 cases p with
 | none=>exact slicePart_none h
 | int i t=>exact slicePart_int h
def lG{sl:Addr}{c d:Value}{lo hi:Option Int}{n:Nat}{Q:Int×Int×Nat->Shared->Prop}(e:s.heap.IsSliceOf sl c d .none)(f:IsPart c lo)(g:IsPart d hi)
  (h:Q (((sIx n 0 lo:Nat):Int),1,sIx n n hi-sIx n 0 lo) s):wpAny (model prog w) A (Builtin.Slice.sliceApplied (.ref sl) (pure (n:Int))) Q E s:=by
 obtain⟨os,a,i,b⟩:=id e;unfold Builtin.Slice.sliceApplied Builtin.Slice.sliceFields;refine a3N (a3N (a4r a b (x:=c) rfl (a3N (a4r a b (x:=d) rfl (a3N (a4r a b (x:=.none) rfl (a3S ?_)))))));refine a3N (slicePart_none ?_);show wpAny _ _ (if((1:Int)==0)=true then _ else _) _ _ s;rw[a3P (by decide)];refine a3N (aB3 f (a3N (aB3 g (a3N (a3S ?_)))));show wpAny _ _ (match Builtin.Slice.sliceAdjust lo hi 1 (n:Int)with | (lo,hi)=>pure (lo,(1:Int),Builtin.Slice.slicePlaces lo hi 1)) _ _ s;rw[bG9 lo hi n];show wpAny _ _ (pure (((sIx n 0 lo:Nat):Int),(1:Int),Builtin.Slice.slicePlaces ((sIx n 0 lo:Nat):Int) ((sIx n n hi:Nat):Int) 1)) _ _ s;rw[bH0];exact a3S h
def cB3(xs:Array Value)(i k:Nat):((List.range k).filterMap λ(m:Nat)=>xs[((i:Int)+(m:Int)*1).toNat]?).toArray=((xs.toList.drop i).take k).toArray:=by
 have e:(λ(m:Nat)=>xs[((i:Int)+(m:Int)*1).toNat]?)=λm=>xs[i+m]?:=by
  funext m;have:((i:Int)+(m:Int)*1).toNat=i+m:=by lia
  rw[this]
 rw[e];have:=pick_run xs i k;rw[List.filterMap_map]at this;have a:((λx=>xs[x]?) ∘ λx=>i+x)=λm=>xs[i+m]?:=rfl;rw[a]at this;rw[this]
def getItem_tuple_cut{t sl:Addr}{items:Array Value}{g i:Value}{lo hi:Option Int}{Q:Value->Shared->Prop}(b:IsTup s.heap t items)(j:s.heap.IsSliceOf sl g i .none)(k:IsPart g lo)(l:IsPart i hi)
  (n:¬ (sIx items.size 0 lo=0/\sIx items.size items.size hi=items.size))
  (h:Q (.ref s.heap.objs.size) {s with heap:=s.heap.push {cls:=.type "tuple",data:=.seq ((items.toList.drop (sIx items.size 0 lo)).take (sIx items.size items.size hi-sIx items.size 0 lo)).toArray}})
  (hsz:items.size<=sizeLine):wpAny (model prog w) A (getItem (.ref t) (.ref sl)) Q E s:=by
 have a:sizeOk (.seq ((items.toList.drop (sIx items.size 0 lo)).take (sIx items.size items.size hi-sIx items.size 0 lo)).toArray):=by
  show((items.toList.drop (sIx items.size 0 lo)).take (sIx items.size items.size hi-sIx items.size 0 lo)).toArray.size<=sizeLine;rw[a2b,a9c,a1f,a1g];lia
 have p:sIx items.size items.size hi<=items.size:=dI3 _ _ (a7a _) hi;obtain⟨os,c,d,o⟩:=id j;have e:s.TypeIs (.ref sl) "slice":=⟨os,c,d⟩;unfold getItem
 try with_reducible refine a3V ?_
 first | refine a3N (a3S ?_) | skip
 refine a3N (wpAny_sequenceKey b.typeIs (by decide) ?_);refine a3N (wpAny_callSpecial?_slot (name:=Str.ofString "__getitem__") b.typeIs a3f
  (a4p a3f b.typeIs entry_tuple_getitem ?_ (args_tuple_getitem _ _)))
 show wpAny _ _ (Builtin.Tuple.tupleItemsOf (.ref t) >>= _) _ _ s;refine a3N (tupleItemsOf_ b ?_);refine a3N (a4u e ?_);rw[a3O (by decide)];refine a3N (lG j k l ?_);have f:¬ ((((sIx items.size 0 lo:Nat):Int)==0&&(1:Int)==1&&(sIx items.size items.size hi-sIx items.size 0 lo)==items.size)=true):=by
  intro q;rw[a5f,a5f]at q;have r:((sIx items.size 0 lo:Nat):Int)=0:=eq_of_beq q.1.1;have u:sIx items.size items.size hi-sIx items.size 0 lo=items.size:=eq_of_beq q.2;exact n ⟨by lia,by lia⟩
 show wpAny _ _ (if(((sIx items.size 0 lo:Nat):Int)==0&&(1:Int)==1&&(sIx items.size items.size hi-sIx items.size 0 lo)==items.size)=true then _ else _) _ _ s;rw[a3P f,cB3]
 first
  | exact a3N (m:=Builtin.Tuple.tupleExact _) (a3X (a3S ⟨_,rfl,a3S h⟩) a)
  | exact a3N (m:=Builtin.Tuple.tupleExact _) (a3X (a3N (a3S (a3S ⟨_,rfl,a3S h⟩))) a)
  | exact a3N (a3N (m:=Builtin.Tuple.tupleExact _) (a3X (a3S (a3S ⟨_,rfl,a3S h⟩)) a))
  | exact a3N (a3N (m:=Builtin.Tuple.tupleExact _) (a3X (a3S ⟨_,rfl,a3S h⟩) a))
end
end HT
namespace L2
open PySem PySem.Spec PyProof.Rows
abbrev TO:=St->Hp->(Option Int->Hp->Prop)->Prop
def PO(X:Cx)(e:Option Expr)(t:TO):Prop:=
 ∀ (pins:List (Addr×Obj)) (s:Shared) (σ:St) (H:Hp) (Q:Option Int->Hp->Prop),Inv X pins σ H s->t σ H Q ->
   wpAny (model X.prog X.w) X.A (evalPart e X.env) (λu s'=>∃ o H',Inv X pins σ H' s'/\IsPart u o/\Q o H') X.xe s
def bN4:TO:=λ_ H Q=>Q none H
def dI4(t:TE):TO:=λσ H Q=>t σ H λx a=>∃ i,x=.int i/\Q (some i) a
def bH1{ns:List Int}:∀ {us:List Value},dD (ns.map V.int) us->IntsAre us ns:=by
 induction ns with
 | nil=>intro us r;rw[List.map_nil]at r;cases r;exact .nil
 | cons n ns a=>
   intro us r;rw[a4e]at r;cases r with
   | cons b c=>
     obtain⟨t,e⟩:=b;subst e;exact .cons n t (a c)
section
variable{X:Cx}{e:Expr}{te:TE}{lo hi:Option Expr}{tl th:TO}{pos p2:Pos}
def cS4:PO X none bN4:=by
 intro pins s σ H Q I h;rw[evalPart_none];exact a3S ⟨none,H,I,.none,h⟩
def cS5(h:PE X e te):PO X (some e) (dI4 te):=by
 intro pins s σ H Q I a;rw[evalPart_some];refine thn (h pins s σ H _ I a) λu s1 Z0=>?_;obtain⟨x,b,c,d,f⟩:=Z0;obtain⟨i,rfl,q⟩:=f;obtain⟨t,rfl⟩:=d;exact⟨some i,b,c,.int i t,q⟩
def SlR(X:Cx)(r:V->Option Int->Option Int->Hp->VK->Prop):Prop:=
 ∀ (pins:List (Addr×Obj)) (s:Shared) (σ:St) (H:Hp) (x:V) (v a b:Value) (lo hi:Option Int) (sl:Addr) (Q:VK),Inv X pins σ H s->gC x v->s.heap.IsSliceOf sl a b .none->IsPart a lo->IsPart b hi->r x lo hi H Q ->
   ∃ T id,typeLookup (.type T) "__getitem__"=pure (some (.builtin id))/\s.TypeIs v T/\wpAny (model X.prog X.w) X.A (getItem v (.ref sl)) (EP X pins σ Q) X.xe s
def tSl(r:V->Option Int->Option Int->Hp->VK->Prop)(te:TE)(tl th:TO):TE:=λσ H Q=>te σ H λx a=>tl σ a λl b=>th σ b λu c=>r x l u c Q
def cB4{r:V->Option Int->Option Int->Hp->VK->Prop}(g:SlR X r)(i:PE X e te)(j:PO X lo tl)(k:PO X hi th):PE X (.Subscript e (.Slice lo hi none p2) pos) (tSl r te tl th):=by
 intro pins s σ H Q I h;refine Subscript_ (thn (i pins s σ H _ I h) λv s1 Z0=>?_);obtain⟨x,m,n,o,p⟩:=Z0;refine wpAny_Slice (thn (j pins s1 σ m _ n p) λc s2 ⟨l,t,y,z,B⟩=>thn (k pins s2 σ t _ y B) λd a ⟨u,f,C,D,E⟩=>?_);rw[evalPart_none];refine a3S ?_;have F:Inv X pins σ f {a with heap:=a.heap.push {cls:=.type "slice",data:=.fields #[c,d,.none]}}:=C.kept (t':=a.toks) λb ob q=>a5a _ q;obtain⟨T,id,G,J,K⟩:=g pins {a with heap:=a.heap.push {cls:=.type "slice",data:=.fields #[c,d,.none]}} σ f x v c d l u a.heap.objs.size Q F o (Heap.IsSliceOf.new ..) z D E;show wpAny (model X.prog X.w) X.A (subscriptTail e (.Slice lo hi none p2) v (.ref a.heap.objs.size)) (EP X pins σ Q) X.xe {a with heap:=a.heap.push {cls:=.type "slice",data:=.fields #[c,d,.none]}};exact tail_any (ops:=[.ref a.heap.objs.size,v]) J G K (by with_unfolding_all rfl)
noncomputable def aT0(xs:List V)(lo hi:Option Int):List V:=(xs.drop (HT.sIx xs.length 0 lo)).take (HT.sIx xs.length xs.length hi-HT.sIx xs.length 0 lo)
def tI(xs:List V)(lo hi:Option Int):(aT0 xs lo hi).length<=xs.length:=by
 unfold aT0;rw[a9c,a1f];lia
def eE1(K:W.Frag):V->Option Int->Option Int->Hp->VK->Prop:=λx lo hi H Q=>∃ a xs,x=.ref a/\SqT K H a xs /\
 ¬ (HT.sIx xs.length 0 lo=0/\HT.sIx xs.length xs.length hi=xs.length)/\∀ p,H p=none->Q (.ref p) (upd H p (.tup (aT0 xs lo hi)))
def dI5:SlR X (eE1 X.K):=by
 intro pins s σ H x v n p lo hi sl Q I g i j k h;obtain⟨a,xs,rfl,l,m,q⟩:=h;cases g;obtain⟨d,r,e,f⟩:=I.tuple l;have c:d.toArray.size=xs.length:=by rw[a2b];exact r.length.symm
 refine⟨"tuple",_,a3f.lookup,e.typeIs,?_⟩;refine HT.getItem_tuple_cut e i j k (by rw[c];exact m) ?_ (by rw[c];exact f);rw[c];refine⟨.ref s.heap.objs.size,_,I.laid (t':=s.toks) (o:=.tup (aT0 xs lo hi)) (λb ob q=>a5a _ q) (a7a _) ?_,rfl,q _ (I.hok.fresh (a7a _))⟩;exact⟨a6c (tI xs lo hi) f,_,(r.drop (HT.sIx xs.length 0 lo)).take (HT.sIx xs.length xs.length hi-HT.sIx xs.length 0 lo),IsTup.new _ _,⟨_,a8b _ rfl,rfl⟩⟩
def dX4(K:W.Frag):R2:=λx y H Q=>∃ a b xs ys,x=.ref a/\y=.ref b/\SqT K H a xs/\SqT K H b ys/\xs≠[]/\xs.length+ys.length<=sizeLine /\
 (ys=[]->Q (.ref a) H)/\(ys≠[]->∀ p,H p=none->Q (.ref p) (upd H p (.tup (xs++ys))))
def dD.nil_iff{xs:List V}{us:List Value}(r:dD xs us):us=[]↔xs=[]:=by
 cases r with
 | nil=>simp
 | cons _ _=>simp
def cS6:OpR X (binaryOp .Add) (dX4 X.K):=by
 intro pins s σ H x y v u Q I g i h;obtain⟨a,b,xs,ys,rfl,rfl,ha,j,k,e,l,m⟩:=h;cases g;cases i;obtain⟨n,d,p,_⟩:=I.tuple ha;obtain⟨f,c,p2,_⟩:=I.tuple j;refine HT.cat_tup p p2 (λz=>k (d.nil_iff.mp z)) (λz=>⟨.ref a,H,I,rfl,l (c.nil_iff.mp z)⟩) (λz=>?_) (by rw[← d.length,← c.length];exact e);refine⟨.ref s.heap.objs.size,_,I.laid (t':=s.toks) (o:=.tup (xs++ys)) (λb ob q=>a5a _ q) (a7a _) ?_,rfl,m (λw=>z (c.nil_iff.mpr w)) _ (I.hok.fresh (a7a _))⟩;exact⟨by rw[a8a];exact e,_,d.append c,IsTup.new _ _,⟨_,a8b _ rfl,rfl⟩⟩
end
noncomputable def ixN(n:Nat)(i:Int):Option Nat:=if 0<=i then(if i < n then some i.toNat else none)else if -(n:Int)<=i then some (i+n).toNat else none
noncomputable def atI{α:Type}(xs:List α)(i:Int):Option α:=(ixN xs.length i).bind λj=>xs[j]?
def aT1{n:Nat}{i:Int}{j:Nat}(h:ixN n i=some j):seqIndex? i n=some j/\j < n /\ -(n:Int)<=i/\i < n:=by
 unfold ixN at h;by_cases h0:0<=i;rw[a3O h0]at h;by_cases a:i < n;rw[a3O a]at h;have e:i.toNat=j:=a0b h;exact⟨by rw[seqIndex_of h0 a,e],by lia,by lia,a⟩;rw[a3P a]at h;cases h;rw[a3P h0]at h;by_cases a:-(n:Int)<=i;rw[a3O a]at h;have e:(i+n).toNat=j:=a0b h;exact⟨by rw[seqIndex_neg (by lia) a,e],by lia,a,by lia⟩;rw[a3P a]at h;cases h
def aT2{α:Type}{xs:List α}{i:Int}{v:α}(h:atI xs i=some v):∃ j,seqIndex? i xs.length=some j/\xs[j]? = some v/\j < xs.length /\ -(xs.length:Int)<=i/\i < xs.length:=by
 unfold atI at h;cases e:ixN xs.length i with
 | none=>rw[e]at h;cases h
 | some j=>
   rw[e]at h;obtain⟨a,b,c,d⟩:=aT1 e;exact⟨j,a,h,b,c,d⟩
def bN5{α:Type}{xs:List α}{j:Nat}{v:α}(h:xs[j]? = some v):atI xs (j:Int)=some v:=by
 have a:j < xs.length:=(a2a.mp h).1;have e:ixN xs.length (j:Int)=some j:=by
  unfold ixN;rw[a3O (by lia),a3O (by lia)];simp
 unfold atI;rw[e];exact h
def bN6(b:Expr):Prop:=∀ o i,subscripted b false o i=operate [o,i] (getItem o i)
def IxR(X:Cx)(r:R2):Prop:=
 ∀ (b a:Expr) (pins:List (Addr×Obj)) (s:Shared) (σ:St) (H:Hp) (x y:V) (v u:Value) (Q:VK),Inv X pins σ H s->gC x v->gC y u->r x y H Q ->
   subscripted a false v u=operate [v,u] (getItem v u)->wpAny (model X.prog X.w) X.A (subscriptTail b a v u) (EP X pins σ Q) X.xe s
def MtR(X:Cx)(id:String)(r:V->List V->Hp->VK->Prop):Prop:=
 ∀ (pins:List (Addr×Obj)) (s:Shared) (σ:St) (H:Hp) (x:V) (xs:List V) (v:Value) (us:List Value) (Q:VK),Inv X pins σ H s->gC x v->dD xs us->r x xs H Q ->
   wpAny (model X.prog X.w) X.A (call (.builtin id) (v::us)) (EP X pins σ Q) X.xe s
section
variable{X:Cx}{a b:Expr}{ta tb:TE}{pos:Pos}
def dX5{r:R2}(c:IxR X r)(ha:PE X a ta)(d:PE X b tb)(e:bN6 b):PE X (.Subscript a b pos) (tOp r ta tb):=by
 intro pins s σ H Q I h;exact Subscript_ (dW7 ha d I h λv u s2 x y f g i j q=>c a b pins s2 σ f x y v u Q g i j q (e _ _))
def eE2(K:W.Frag):R2:=λx y H Q=>∃ p xs i v,x=.ref p/\y=.int i/\SqL K H p xs/\atI xs i=some v/\Q v H
def eE3(K:W.Frag):R2:=λx y H Q=>∃ p xs i v,x=.ref p/\y=.int i/\SqT K H p xs/\atI xs i=some v/\Q v H
def eE4:R2:=λx y H Q=>∃ z i c,x=.str z/\y=.int i/\z.length<=sizeLine/\atI z.cps.toList i=some c/\Q (.str ⟨#[c]⟩) H
def cS7:IxR X (eE2 X.K):=by
 intro b c pins s σ H x y v u Q I m n h k;obtain⟨p,xs,i,z,rfl,rfl,o,A,q⟩:=h;cases m;obtain⟨t,rfl⟩:=n;obtain⟨d,r,e,F⟩:=I.list o;obtain⟨j,a,B,G,C,D⟩:=aT2 A;obtain⟨w,l,f⟩:=r.get B;have E:=r.length;have hn:=aB2;have fin:EP X pins σ Q w s:=⟨z,H,I,f,q⟩;by_cases h0:0<=i
 ·have g:i.toNat=j:=by
   rw[seqIndex_of h0 D]at a;exact a0b a
  exact item_listR e.isList h0 (by lia) (by rw[g];simpa using l) fin k
 ·have g:(i+(d.toArray.size:Int)).toNat=j:=by
   rw[seqIndex_neg (by lia) C]at a;rw[a2b,← E];exact a0b a
  exact subscriptTail_builtinR (x:=w) e.isList.typeIs slot_list_getitem.lookup
   (wpAny_getItem_list_neg (Q:=λr s'=>r=w/\EP X pins σ Q r s') e.isList (by lia) (by rw[a2b]<;>lia) (by lia) (by rw[g];simpa using l) ⟨rfl,fin⟩) k
def dI6:IxR X (eE3 X.K):=by
 intro a b pins s σ H x y v u Q I e f h g;obtain⟨p,xs,i,z,rfl,rfl,k,l,q⟩:=h;cases e;obtain⟨t,rfl⟩:=f;obtain⟨m,r,d,C⟩:=I.tuple k;obtain⟨j,n,o,D,E,F⟩:=aT2 l;obtain⟨w,A,c⟩:=r.get o;have B:=r.length;have hn:=aB2;have fin:EP X pins σ Q w s:=⟨z,H,I,c,q⟩;exact subscriptTail_builtinR (x:=w) d.typeIs slot_tuple_getitem.lookup
  (getItem_tuple (j:=j) (Q:=λr s'=>r=w/\EP X pins σ Q r s') d (by lia) (by lia) (by rw[a2b,← B];exact n) (by simpa using A) ⟨rfl,fin⟩) g
def dI7:IxR X eE4:=by
 intro a b pins s σ H x y v u Q I e f h g;obtain⟨z,i,c,rfl,rfl,w,k,q⟩:=h;obtain⟨t,rfl⟩:=e;obtain⟨A,rfl⟩:=f;obtain⟨j,d,l,B,m,n⟩:=aT2 k;have o:z.cps.toList.length=z.length:=by simp[Str.length]
 rw[o]at d m n;have hn:=aB2;exact tail_any (typeIs_str s z t) slot_str_getitem.lookup (getItem_str (c:=c) (by
  have p:decide (i < -(2 ^ 63:Int))=false:=a3Q (by lia);have r:decide (i ≥ 2 ^ 63)=false:=a3Q (by lia);rw[p,r,Bool.or_false]) (by rw[d];simpa using l) ⟨.str ⟨#[c]⟩,H,I.tok _,⟨_,rfl⟩,q⟩) g
def bH2(a:List Value)(n j:Nat)(u:Value):Obj.mapSeq (·.setIfInBounds j u) {cls:=.type "list",data:=.seq a.toArray n}={cls:=.type "list",data:=.seq (a.set j u).toArray n}:=by
 simp[Obj.mapSeq]
theorem Inv.lst{pins:List (Addr×Obj)}{σ:St}{H:Hp}{s:Shared}{p:Addr}{xs:List V}(I:Inv X pins σ H s)(h:H p=some (.lst xs)) :
  ∃ (a:List Value) (n:Nat),dD xs a/\s.heap.get? p=some {cls:=.type "list",data:=.seq a.toArray n}/\xs.length<=sizeLine:=by
 obtain⟨z,a,n,r,e⟩:=I.hok p _ h;exact⟨a,n,r,e,z⟩
def Inv.lstUpd{pins:List (Addr×Obj)}{σ:St}{H:Hp}{s:Shared}{p:Addr}{xs ys:List V}{a its':List Value}{n c:Nat}{f:Obj->Obj}(I:Inv X pins σ H s)(h:H p=some (.lst xs))
  (g:s.heap.get? p=some {cls:=.type "list",data:=.seq a.toArray n}) (d:f {cls:=.type "list",data:=.seq a.toArray n}={cls:=.type "list",data:=.seq its'.toArray c}) (r:dD ys its') (i:ys.length<=sizeLine) (t:Nat) :
  Inv X pins σ (upd H p (.lst ys)) {s with heap:=s.heap.update p f,toks:=t}:=by
 have e:(s.heap.update p f).get? p=some {cls:=.type "list",data:=.seq its'.toArray c}:=by
  rw[Heap.get?_update_self f g (by rw[d]<;>rfl),d]
 refine I.write (x:=p) (e:=p) (by rw[h];trivial) (.inl rfl) (λb u j q=>(Heap.get?_update_other _ _ (a3e j)).trans q) ⟨_,e⟩ ?_;exact⟨i,its',c,r,e⟩
def bN7:V->V->V->Hp->(Hp->Prop)->Prop:=λo i v H Q=>∃ p xs k j,o=.ref p/\i=.int k/\H p=some (.lst xs)/\ixN xs.length k=some j/\Q (upd H p (.lst (xs.set j v)))
def pM:eB8 X bN7:=by
 intro pins s σ H o i v ov A u Q I w ri x h;obtain⟨p,xs,k,j,rfl,rfl,f,y,q⟩:=h;cases w;obtain⟨t,rfl⟩:=ri;obtain⟨a,n,r,c,z⟩:=I.lst f;obtain⟨b,B,g,l⟩:=aT1 y;have d:=r.length;have hn:=aB2;have m:Inv X pins σ (upd H p (.lst (xs.set j v))) {s with heap:=s.heap.update p (Obj.mapSeq (·.setIfInBounds j u))}:=
  I.lstUpd f c (bH2 a n j u) (r.set x j) (by rw[a9e];exact z) s.toks
 by_cases h0:0<=k
 ·have e:k.toNat=j:=by
   rw[seqIndex_of h0 l]at b;exact a0b b
  exact W.ki_setAt c h0 (by lia) (by rw[a2b,← d];exact l) (by rw[e];exact⟨_,m,q⟩)
 ·have e:(k+(a.toArray.size:Int)).toNat=j:=by
   rw[seqIndex_neg (by lia) g]at b;rw[a2b,← d];exact a0b b
  exact W.ki_setBack c (by lia) (by rw[a2b,← d];exact g) (by lia) (by rw[e];exact⟨_,m,q⟩)
def aL1(lo hi:Option Int)(n:Nat):(sliceBounds lo hi none n).1=((HT.sIx n 0 lo:Nat):Int)/\(sliceBounds lo hi none n).2.1=((HT.sIx n n hi:Nat):Int)/\(sliceBounds lo hi none n).2.2=1:=by
 refine⟨?_,?_,rfl⟩
 ·cases lo with
  | none=>simp[sliceBounds,HT.sIx]
  | some i=>
    simp only[sliceBounds,HT.sIx,Option.getD_none,show(1:Int) > 0 by decide,if_true];by_cases h:i < 0;simp only[h,if_true]<;>lia;simp only[h,if_false]<;>lia
 ·cases hi with
  | none=>simp[sliceBounds,HT.sIx]
  | some i=>
    simp only[sliceBounds,HT.sIx,Option.getD_none,show(1:Int) > 0 by decide,if_true];by_cases h:i < 0;simp only[h,if_true]<;>lia;simp only[h,if_false]<;>lia
def aF1(a:List Value)(lo hi:Option Int):slicePick a.toArray lo hi none=((a.drop (HT.sIx a.length 0 lo)).take (HT.sIx a.length a.length hi-HT.sIx a.length 0 lo)).toArray:=by
 obtain⟨b,c,d⟩:=aL1 lo hi a.toArray.size;unfold slicePick;rw[b,c,d];simp only[sliceRange_one,pick_run,List.size_toArray]<;>rfl
def eE5(K:W.Frag):V->Option Int->Option Int->Hp->VK->Prop:=λx lo hi H Q=>∃ a xs,x=.ref a/\SqL K H a xs/\∀ p,H p=none->Q (.ref p) (upd H p (.lst (aT0 xs lo hi)))
def cS8:SlR X (eE5 X.K):=by
 intro pins s σ H x v m n lo hi sl Q I e f g i h;obtain⟨a,xs,rfl,j,q⟩:=h;cases e;obtain⟨k,r,d,l⟩:=I.list j;have c:=r.length;refine⟨"list",_,slot_list_getitem.lookup,d.isList.typeIs,?_⟩;refine wpAny_getItem_list_slice d.isList f g i .none (by simp) ?_ (by rw[List.size_toArray]<;>lia);rw[aF1,← c];refine⟨.ref s.heap.objs.size,_,I.laid (t':=s.toks) (o:=.lst (aT0 xs lo hi)) (λb ob q=>a5a _ q) (a7a _) ?_,rfl,q _ (I.hok.fresh (a7a _))⟩;exact⟨a6c (tI xs lo hi) l,_,0,(r.drop (HT.sIx xs.length 0 lo)).take (HT.sIx xs.length xs.length hi-HT.sIx xs.length 0 lo),a8b _ rfl⟩
def rT:iW X (.builtin "len") (λxs H Q=>∃ p ys,xs=[.ref p]/\(SqL X.K H p ys\/SqT X.K H p ys)/\Q (.int ys.length) H):=by
 intro pins s σ H xs us Q I r h;obtain⟨p,ys,rfl,b,q⟩:=h;obtain⟨u,rfl,f⟩:=zX r;cases f;have hn:=aB2;rcases b with b | b;obtain⟨c,d,e,g⟩:=I.list b;have a:=d.length;exact Calls.call_len_list e.isList (by simp only[List.size_toArray]<;>lia) ⟨.int ys.length,H,I.tok _,⟨s.toks+1,by rw[a2b,a]⟩,q⟩;obtain⟨c,d,e,g⟩:=I.tuple b;have a:=d.length;exact len_tuple e (by simp only[List.size_toArray]<;>lia) ⟨.int ys.length,H,I.tok _,⟨s.toks+1,by rw[a2b,a]⟩,q⟩
def aL2:iW X (.builtin "len") (λxs H Q=>∃ z,xs=[.str z]/\z.length<=sizeLine/\Q (.int z.length) H):=by
 intro pins s σ H xs us Q I r h;obtain⟨z,rfl,a,q⟩:=h;obtain⟨u,rfl,t,rfl⟩:=zX r;have hn:=aB2;exact len_str (by lia) ⟨.int z.length,H,I.tok _,⟨_,rfl⟩,q⟩
def rV:iW X (.type "list") (λxs H Q=>∃ p ys,xs=[.ref p]/\(SqL X.K H p ys\/SqT X.K H p ys)/\∀ l,H l=none->Q (.ref l) (upd H l (.lst ys))):=by
 intro pins s σ H xs us Q I r h;obtain⟨p,ys,rfl,f,q⟩:=h;obtain⟨u,rfl,t⟩:=zX r;cases t;have fin:∀ (a:List Value),dD ys a->ys.length<=sizeLine->∀ (h':Heap) (c:Nat),(∀ b o',s.heap.get? b=some o'->h'.get? b=some o') ->
   h'.get? s.heap.objs.size=some {cls:=.type "list",dict:=none,data:=.seq a.toArray c,slots:=#[]}->EP X pins σ Q (.ref s.heap.objs.size) {s with heap:=h'}:=λa d g h' c kp e=>
  ⟨.ref s.heap.objs.size,_,I.laid (t':=s.toks) kp (a7a _) (show fE X.prog X.w _ h' _ (.lst ys)from⟨g,a,c,d,e⟩),rfl,q _ (I.hok.fresh (a7a _))⟩
 rcases f with f | f;obtain⟨a,d,j,g⟩:=I.list f;have i:=d.length;obtain⟨o,k,m,n,hd⟩:=j.isList;exact call_list_seq p (.inl rfl) k m hd (λh' c kp e=>fin a d g h' c kp e) (by simp only[List.size_toArray]<;>lia);obtain⟨a,d,j,g⟩:=I.tuple f;have i:=d.length;obtain⟨o,k,m,n,hd⟩:=j;exact call_list_seq p (.inr rfl) k m hd (λh' c kp e=>fin a d g h' c kp e) (by simp only[List.size_toArray]<;>lia)
def pN:iW X (.type "tuple") (λxs H Q=>∃ p ys,xs=[.ref p]/\((SqL X.K H p ys/\∀ l,H l=none->Q (.ref l) (upd H l (.tup ys)))\/(SqT X.K H p ys/\Q (.ref p) H))):=by
 intro pins s σ H xs us Q I r h;obtain⟨p,ys,rfl,h⟩:=h;obtain⟨u,rfl,k⟩:=zX r;cases k;rcases h with⟨c,q⟩ | ⟨c,q⟩
 ·obtain⟨a,d,f,g⟩:=I.list c;have i:=d.length;refine call_tuple_list f.isList (λh' kp=>?_) (by simp only[List.size_toArray]<;>lia);have j:Inv X pins σ H {s with heap:=h'}:=I.kept (t':=s.toks) kp;have m:Inv X pins σ (upd H h'.objs.size (.tup ys)) {s with heap:=h'.push {cls:=.type "tuple",data:=.seq a.toArray}}:=
   j.laid (t':=s.toks) (λb o e=>a5a _ e) (a7a _) (show fE X.prog X.w _ _ _ (.tup ys)from⟨g,a,d,IsTup.new _ _,⟨_,a8b _ rfl,rfl⟩⟩)
  exact⟨.ref h'.objs.size,_,m,rfl,q _ (j.hok.fresh (a7a _))⟩
 ·obtain⟨a,d,f,g⟩:=I.tuple c;exact call_tuple_same f ⟨.ref p,H,I,rfl,q⟩
def tyV(K:W.Frag)(T:String)(x:V)(H:Hp):Prop:=match x with
 | .str _=>T="str"
 | .int _=>T="int"
 | .ref p=>(T="list"/\∃ xs,SqL K H p xs)\/(T="tuple"/\∃ o,K.lookup p=some o/\o.cls=.type "tuple"/\o.dict=none) \/
   (T="dict"/\((∃ kvs,H p=some (.dK kvs))\/∃ kvs,H p=some (.dT kvs)))\/(T="set"/\∃ S n,H p=some (.set S n))
 | _=>False
def cK9{pins:List (Addr×Obj)}{σ:St}{H:Hp}{s:Shared}{T:String}{x:V}{v:Value}(I:Inv X pins σ H s)(r:gC x v)(ty:tyV X.K T x H) :
  s.TypeIs v T/\∀ a,v=.ref a->∃ ob,s.heap.get? a=some ob/\ob.dict=none:=by
 cases x with
 | str z=>
   obtain⟨t,rfl⟩:=r;cases (show T="str" from ty);exact⟨typeIs_str s z t,λ_ e=>nomatch e⟩
 | int i=>
   obtain⟨t,rfl⟩:=r;cases (show T="int" from ty);exact⟨typeIs_int s i t,λ_ e=>nomatch e⟩
 | ref p=>
   cases r;rcases ty with⟨rfl,xs,g⟩ | ⟨rfl,o,b,h,hd⟩ | ⟨rfl,b⟩ | ⟨rfl,S,n,b⟩;obtain⟨j,_,f,_⟩:=I.list g;refine⟨f.isList.typeIs,λa e=>?_⟩;cases e;obtain⟨o,n,e,c,hd,_⟩:=f;exact⟨o,e,hd⟩;refine⟨⟨o,I.kIn p o b,h⟩,λa e=>?_⟩;cases e;exact⟨o,I.kIn _ o b,hd⟩
   ·have z:∃ o,s.heap.get? p=some o/\o.ExactDict:=by
     rcases b with⟨kvs,b⟩ | ⟨kvs,b⟩;obtain⟨_,_,_,_,o,_,_,e,ex,_⟩:=I.hok p _ b;exact⟨o,e,ex⟩;obtain⟨_,_,_,_,o,_,_,e,ex,_⟩:=I.hok p _ b;exact⟨o,e,ex⟩
    obtain⟨o,e,ex⟩:=z;refine⟨⟨o,e,ex.1⟩,λa d=>?_⟩;cases d;exact⟨o,e,ex.2.1⟩
   ·obtain⟨o,_,_,_,e,ex,_⟩:=I.hok p _ b;refine⟨⟨o,e,ex.1⟩,λa d=>?_⟩;cases d;exact⟨o,e,ex.2.1⟩
 | _=>exact False.elim ty
def dX6(K:W.Frag)(T:String)(r:V->List V->Hp->VK->Prop)(to:TE):TE:=λσ H Q=>to σ H λx a=>tyV K T x a/\r x [] a Q
def tBM(K:W.Frag)(T:String)(r:V->List V->Hp->VK->Prop)(to:TE)(t:TA):TE:=λσ H Q=>to σ H λx a=>tyV K T x a/\t σ a λxs b=>r x xs b Q
variable{o e:Expr}{es:List Expr}{to:TE}{t:TA}{name:Str}{apos cpos:Pos}{T id:String}{r:V->List V->Hp->VK->Prop}
def dI8(f:PlainAttrs T)(slot:Slot T name id)(c:typeOf (.builtin id)=pure (.type "method_descriptor"))(hm:MtR X id r)(g:PE X o to)
  (a:attributeBase o name X.env (eval o X.env)=eval o X.env:=by rfl) (b:(apos.endLine==cpos.line)=true:=by rfl):PE X (.Call (.Attribute o name apos) [] [] cpos) (dX6 X.K T r to):=by
 intro pins s σ H Q I h;refine wpAny_Call_method0_late a b (thn (g pins s σ H _ I h) λv s1 Z0=>?_);obtain⟨x,i,d,e,ty,j⟩:=Z0;obtain⟨k,l⟩:=cK9 d e ty;exact⟨T,id,f,slot,c,k,l,Calls.callWith_builtin rfl (PySem.evalArgs_none (hm pins s1 σ i x [] v [] Q d e .nil j))⟩
def dX7(k:PlainAttrs T)(slot:Slot T name id)(f:typeOf (.builtin id)=pure (.type "method_descriptor"))(hm:MtR X id r)(l:PE X o to)(ha:PA X (e::es) t)
  (b:attributeBase o name X.env (eval o X.env)=eval o X.env:=by rfl)
  (d:((backTo cpos (starEach (e::es) X.env)).all (λx=>!x.1)&&(backToKw cpos (keywordEach [] X.env)).all (λx=>x.1.isSome)
   && decide ((e::es).length+([]:List Keyword).length+(if([]:List Keyword).isEmpty then 0 else 1) < 30))=true:=by rfl)
  (c:(apos.endLine==cpos.line)=true:=by rfl) (m:starEach (e::es) X.env=(false,eval e X.env)::starEach es X.env:=by rfl) (a:(backTo cpos (starEach es X.env)).any (·.1)=false:=by rfl) :
  PE X (.Call (.Attribute o name apos) (e::es) [] cpos) (tBM X.K T r to t):=by
 intro pins s σ H Q I h;refine wpAny_Call_method_late b d c rfl (thn (l pins s σ H _ I h) λv s1 Z0=>?_);obtain⟨x,n,g,i,ty,p⟩:=Z0;obtain⟨q,u⟩:=cK9 g i ty;refine⟨T,id,k,slot,f,q,u,?_⟩;have j:=ha cpos pins s1 σ n _ g p;rw[m]at j ⊢;refine Calls.callWith_builtin (by show(false||(backTo cpos (starEach es X.env)).any (·.1))=false;rw[a]<;>rfl) (Calls.evalArgs_plain ?_);exact thn j λus s2 ⟨vs,w,y,z,A⟩=>hm pins s2 σ w x vs v us Q y i z A
end
def MtM(X:Cx)(id:String)(r:V->List V->Hp->VK->Prop):Prop:=
 ∀ (pins:List (Addr×Obj)) (s:Shared) (σ:St) (H:Hp) (x:V) (xs:List V) (v:Value) (us:List Value) (Q:VK),Inv X pins σ H s->gC x v->dD xs us->r x xs H Q ->
   wpAny (model X.prog X.w) X.A (call (.builtin id) (v::us)) (EP X pins σ Q) X.xe s
def dD.one:∀ {x:V} {us:List Value},dD [x] us->∃ u,us=[u]/\gC x u
 | _,_,.cons r .nil=>⟨_,rfl,r⟩
def dD.two:∀ {x y:V} {us:List Value},dD [x,y] us->∃ u v,us=[u,v]/\gC x u/\gC y v
 | _,_,_,.cons r (.cons q .nil)=>⟨_,_,rfl,r,q⟩
def dD.zero:∀ {us:List Value},dD [] us->us=[]
 | _,.nil=>rfl
theorem dD.dropLast{xs:List V}{us:List Value}(h:dD xs us):dD xs.dropLast us.dropLast:=by
 induction h with
 | nil=>exact .nil
 | cons r t a=>
   cases t with
   | nil=>exact .nil
   | cons q b=>exact .cons r a
theorem dD.eraseIdx:∀ {xs:List V} {us:List Value} (i:Nat),dD xs us->dD (xs.eraseIdx i) (us.eraseIdx i)
 | _,_,_,.nil=>.nil
 | _,_,0,.cons _ t=>t
 | _,_,i+1,.cons r t=>.cons r (dD.eraseIdx i t)
theorem dD.reverse{xs:List V}{us:List Value}(h:dD xs us):dD xs.reverse us.reverse:=by
 induction h with
 | nil=>exact .nil
 | cons r t a=>rw[List.reverse_cons,List.reverse_cons];exact dD.append a (.cons r .nil)
def bH3{α:Type}(l:List α):l.eraseIdx (l.length-1)=l.dropLast:=by
 induction l with
 | nil=>rfl
 | cons a r c=>
   cases r with
   | nil=>rfl
   | cons b r=>
     have e:(a::b::r).length-1=((b::r).length-1)+1:=by
      have d:(a::b::r).length=r.length+2:=rfl;have f:(b::r).length=r.length+1:=rfl;lia
     rw[e,List.eraseIdx_cons_succ,c]
     all_goals rfl
theorem aL3{α:Type}:∀ (l:List α) (i:Nat),(l.eraseIdx i).length<=l.length
 | [],_=>a7a _
 | _::_,0=>Nat.le_succ _
 | _::r,i+1=>Nat.succ_le_succ (aL3 r i)
section
variable{X:Cx}{pins:List (Addr×Obj)}{σ:St}{H:Hp}{s:Shared}{l b:Addr}{xs ys zs:List V}
def Inv.lset{a its':List Value}{n:Nat}{f:Array Value->Array Value}{t':Nat}(I:Inv X pins σ H s)(b:H l=some (.lst xs))
  (e:s.heap.get? l=some {cls:=.type "list",data:=.seq a.toArray n}) (c:f a.toArray=its'.toArray) (d:dD ys its') (g:ys.length<=sizeLine) :
  Inv X pins σ (upd H l (.lst ys)) {s with heap:=s.heap.update l (Obj.mapSeq f),toks:=t'}:=by
 have q:=PySem.IsL.update e f;rw[c]at q;refine I.write (x:=l) (e:=l) (by rw[b];exact trivial) (.inl rfl) (λj u h i=>(Heap.get?_update_other s.heap (Obj.mapSeq f) (a3e h)).trans i) ⟨_,q⟩ ?_;exact⟨g,its',_,d,q⟩
def Inv.lnew{a:List Value}{t':Nat}(I:Inv X pins σ H s)(b:dD ys a)(c:ys.length<=sizeLine) :
  Inv X pins σ (upd H s.heap.objs.size (.lst ys)) {s with heap:=s.heap.push {cls:=.type "list",data:=.seq a.toArray},toks:=t'}:=
 I.laid (λ_ _ q=>a5a _ q) (a7a _) ⟨c,a,0,b,a8b _ rfl⟩
theorem Inv.fresh(I:Inv X pins σ H s):H s.heap.objs.size=none:=I.hok.fresh (a7a _)
def Inv.lstM(I:Inv X pins σ H s)(b:H l=some (.lst xs)):xs.length<=sizeLine/\∃ (a:List Value) (n:Nat),dD xs a/\xs.length=a.length/\s.heap.get? l=some {cls:=.type "list",data:=.seq a.toArray n}:=by
 obtain⟨z,a,n,r,e⟩:=I.hok l _ b;exact⟨z,a,n,r,r.length,e⟩
def aZ8{n:Nat}(h:n<=sizeLine):Builtin.List.listTooLong n=false:=by
 unfold Builtin.List.listTooLong;exact a3Q (by lia)
end
section
variable{X:Cx}
def bN8:V->List V->Hp->VK->Prop:=λx vs H Q=>∃ l xs y,x=.ref l/\vs=[y]/\H l=some (.lst xs)/\xs.length < sizeLine/\Q .non (upd H l (.lst (xs++[y])))
def fM:MtM X "list.append" bN8:=by
 intro pins s σ H x vs v us Q I c d h;obtain⟨l,xs,y,rfl,rfl,b,g,q⟩:=h;cases c;obtain⟨u,rfl,f⟩:=d.one;obtain⟨z,a,n,r,i,e⟩:=I.lstM b;refine a4n F.slot_list_append ⟨_,e,rfl⟩ F.entry_list_append (F.args_list_append_2 _ _) (PySem.list_append l a.toArray n u (by rw[a2b];lia)) ⟨e,?_⟩;refine⟨.non,_,I.lset (its':=a++[u]) b e (by simp) (r.append (.cons f .nil)) ?_,rfl,q⟩;rw[a8a,List.length_singleton];lia
def cS9:V->List V->Hp->VK->Prop:=λx vs H Q=>∃ l b xs zs,x=.ref l/\vs=[.ref b]/\H l=some (.lst xs)/\H b=some (.lst zs)/\xs.length+zs.length<=sizeLine/\Q .non (upd H l (.lst (xs++zs)))
def dI9:MtM X "list.extend" cS9:=by
 intro pins s σ H x vs v us Q I i j h;obtain⟨l,b,xs,w,rfl,rfl,g,k,y,q⟩:=h;cases i;obtain⟨u,rfl,m⟩:=j.one;cases m;obtain⟨z,c,n,r,A,e⟩:=I.lstM g;obtain⟨B,a,n2,o,p,t⟩:=I.lstM k;have f:c.toArray.size+a.toArray.size<=sizeLine:=by rw[a2b,a2b];lia
 have d:¬ (!c.toArray.isEmpty&&Builtin.List.listTooLong (c.toArray.size+a.toArray.size))=true:=by
  rw[aZ8 f,Bool.and_false];exact a7b
 refine a4n F.slot_list_extend ⟨_,e,rfl⟩ F.entry_list_extend (F.args_list_extend_2 _ _)
  (AutoSeq1.list_extend_list_list_0 l c.toArray n b a.toArray n2 d (by rw[a2b];lia) (by lia)) ⟨e,t,?_⟩
 refine⟨.non,_,I.lset (its':=c++a) g e (by simp) (r.append o) ?_,rfl,q⟩;rw[a8a];lia
def eE6:V->List V->Hp->VK->Prop:=λx vs H Q=>∃ l xs y,x=.ref l/\vs=[]/\H l=some (.lst xs)/\xs[xs.length-1]? = some y/\Q y (upd H l (.lst xs.dropLast))
def dJ0:MtM X "list.pop" eE6:=by
 intro pins s σ H x vs v us Q I f g h;obtain⟨l,xs,y,rfl,rfl,d,i,q⟩:=h;cases f;have b:=g.zero;subst b;obtain⟨z,a,n,r,j,e⟩:=I.lstM d;obtain⟨u,k,m⟩:=r.get i;have c:a.toArray[a.toArray.size-1]? = some u:=by
  show a.toArray[a.length-1]? = some u;rw[← a4g,← j];exact k
 refine a4n F.slot_list_pop ⟨_,e,rfl⟩ F.entry_list_pop (F.args_list_pop_1 _) (MeetsSeq.list_pop_last l a.toArray n u c (by rw[a2b];lia)) ⟨e,?_⟩;refine⟨y,_,I.lset (its':=a.dropLast) d e ?_ r.dropLast ?_,m,q⟩;show a.toArray.eraseIdxIfInBounds (a.toArray.size-1)=a.dropLast.toArray;rw[a2b,List.eraseIdxIfInBounds_toArray,bH3];rw[List.length_dropLast];lia
def cL0:V->List V->Hp->VK->Prop:=λx vs H Q=>∃ l xs i k y,x=.ref l/\vs=[.int i]/\H l=some (.lst xs) /\ -(2 ^ 63)<=i/\i < 2 ^ 63/\seqIndex? i xs.length=some k/\xs[k]? = some y/\Q y (upd H l (.lst (xs.eraseIdx k)))
def aZ9:MtM X "list.pop" cL0:=by
 intro pins s σ H x vs v us Q I d f h;obtain⟨l,xs,i,k,y,rfl,rfl,c,g,j,m,o,q⟩:=h;cases d;obtain⟨u,rfl,p⟩:=f.one;obtain⟨t,rfl⟩:=p;obtain⟨z,a,n,r,A,e⟩:=I.lstM c;obtain⟨w,B,b⟩:=r.get o;refine a4n F.slot_list_pop ⟨_,e,rfl⟩ F.entry_list_pop (F.args_list_pop_2 _ _)
  (MeetsSeq.list_pop_at l a.toArray n i t k w (fitsIndex_both g j) (by rw[a2b,← A];exact m) (by rw[← a4g];exact B) (by rw[a2b];lia)) ⟨e,?_⟩
 refine⟨y,_,I.lset (its':=a.eraseIdx k) c e ?_ (r.eraseIdx k) ?_,b,q⟩;show a.toArray.eraseIdxIfInBounds k=(a.eraseIdx k).toArray;rw[List.eraseIdxIfInBounds_toArray];have:=aL3 xs k;lia
def eE7:R2:=λx y H Q=>∃ l b xs zs,x=.ref l/\y=.ref b/\H l=some (.lst xs)/\H b=some (.lst zs)/\xs.length+zs.length<=sizeLine/\∀ p,H p=none->Q (.ref p) (upd H p (.lst (xs++zs)))
def dJ1:OpR X (binaryOp .Add) eE7:=by
 intro pins s σ H x y v u Q I d f h;obtain⟨l,b,xs,p,rfl,rfl,g,i,t,q⟩:=h;cases d;cases f;obtain⟨z,c,n,r,w,e⟩:=I.lstM g;obtain⟨A,a,n2,j,k,m⟩:=I.lstM i;refine PySem.P.add_list e m ?_ (by rw[a2b,a2b];lia);have o:c.toArray++a.toArray=(c++a).toArray:=by simp
 rw[o];exact⟨.ref _,_,I.lnew (t':=s.toks) (r.append j) (by rw[a8a];lia),rfl,q _ I.fresh⟩
end
section
variable{prog:Program}{w:World}{A:Around}{E:Value->Shared->Prop}{s:Shared}
set_option maxRecDepth 100000 in
end
section
variable{X:Cx}
end
end L2
namespace Att
open PySem PySem.W PySem.Calls PyProof.Rows
def tJ{P:Params}{h:Heap}:∀ (ns:List Int) (vs:List Value),WellAll P h vs (ns.map WData.int)->IntsAre vs ns:=by
 intro ns
 induction ns with
 | nil=>
   intro vs w;rw[List.map_nil]at w;cases w;exact .nil
 | cons n ns c=>
   intro vs w;rw[a4e]at w;cases w with
   | cons a b=>
     cases a;exact .cons _ _ (c _ b)
def bN9{l:OpenLaw}{n:Nat}(hn:l.most=some n){P:Params}{h:Heap}{args:List WData}{vals:List Value}
  (b:l.row.toRowW.claim.pre args=true) (i:WellAll P h vals args) :
  ∃ a vs ns,vals=[Value.ref a]/\args=[WData.list (ns.map WData.int)]/\h.get? a=some {cls:=.type "list",data:=.seq vs.toArray}/\IntsAre vs ns/\ns.length<=n:=by
 have j:WShape.hasAll [] args [.list .int]=true:=(pre_splitW b).1;have k:l.pre.holds [] {args:=args}=true:=(pre_splitW b).2;obtain⟨d,r,rfl,m,o⟩:=hasAllW_cons j;obtain rfl:=hasAllW_nil o;obtain⟨xs,rfl,p⟩:=hasW_list m;obtain⟨ns,rfl⟩:=items_int p;have c:ns.length<=n:=by
  unfold OpenLaw.pre at k;have f:(WTm.not (.lt (.lit (.int (n:Int))) (.len (.arg 0)))).holds [] {args:=[.list (ns.map .int)]}=true:=by
   have f:=(holds_andW k).1;rw[hn]at f;exact f
  have g:=condW_of f (w_not (w_lt w_lit (w_len_list (w_arg rfl))));rw[a1a]at g;refine Nat.le_of_not_lt λq=>?_;have s:(n:Int) < ((ns.length:Nat):Int):=by lia
  first
   | (rw[a3T s]at g;exact absurd g (by decide))
   | (simp at g;lia)
 cases i with
 | cons t u=>
   cases u;cases t with
   | list v e=>exact⟨_,_,ns,rfl,rfl,v,tJ ns _ e,c⟩
def bO0(l:OpenLaw)(args:List WData):l.row.toRowW.claim.post args (.bool true) args=true:=
 postW_of (r:=l.row.toRowW) (X:=(true==true))
  (show WShape.has [] (.bool true) .bool=true by first | rfl | decide | simp[WShape.has,WShape.arms,WShape.armsAll])
  (show(WTm.eq .res (.lit (.bool true))).value [] {args:=args,res:=some (.bool true),after:=args}=some (.bool (true==true))from w_eq_bool (w_res rfl) w_lit) rfl
def attach_call{l:OpenLaw}{n:Nat}{q:Program}{c:List Str}{t:(Str->Option Value)->Heap->Prop}{u:World->Heap->Prop}{d:DefRec}
  (hn:l.most=some n) (k:d.params.defaults=[])
  (call:∀ (w:World) (s₀ b:Shared) (mg mb:Str->Option Value) (g:Addr) (o:Obj) (pm cd doc:Value) (a:Addr) (vs:List Value) (ns:List Int),
   Ground q c [] t w s₀ mg mb b.heap->u w b.heap ->
   b.heap.get? g=some o->o.data=.func (docDef d.name d.params d.body d.scope pm cd doc)->b.heap.CodeRec cd d.name->mg d.name=some (.ref g) ->
   b.heap.get? a=some {cls:=.type "list",data:=.seq vs.toArray}->IntsAre vs ns->ns.length<=n->b.gens=#[] ->
   codeAny (model l.prog w) callerA (.call (.ref g) ⟨[.ref a],[]⟩) (λr s'=>r=.ok (.ret (.bool true))/\OldK b.heap s'.heap/\s'.os=b.os/\AllBare s'.gens) b) :
  WalkO q c t u l.row.toRowW d [] (λf vs=>PySem.call f vs):=by
 intro w s₀ b mg mb G Y g o pm cd doc y kV z hd m v p A args vals as h x B s C;obtain rfl:y=.none:=Dflts.none v k;obtain rfl:kV=.none:=Dflts.noKw v;obtain⟨a,vs,ns,rfl,rfl,i,e,j⟩:=bN9 hn h s;refine enter_call (a4s (call w s₀ b mg mb g o pm cd doc a vs ns G Y z (fd_plain hd) m p i e j A) λr s' D=>?_);obtain⟨rfl,E,F,H⟩:=D;exact⟨.inl ⟨.bool true,.bool true,[],rfl,λ_=>rfl,.bool true,bO0 l _,λ_=>⟨List.Pairwise.nil,λ_ hm=>(nomatch hm)⟩⟩,E,F,H⟩
section
variable{prog:Program}{w:World}{A:Around}{E:Value->Shared->Prop}{s:Shared}{K:Frag}
end
end Att
namespace L2
open PySem PySem.Spec PyProof.Rows
theorem aL4:∀ {vs:List Value} {ns:List Int},IntsAre vs ns->dD (ns.map V.int) vs
 | _,_,.nil=>.nil
 | _,_,.cons n t h=>.cons ⟨t,rfl⟩ (aL4 h)
def dJ2(H:Hp):Prop:=∀ b,H b=none\/∃ o xs,H b=some (.frz o (.lst xs))
def cB5{P:Program}{w:World}{K:W.Frag}{mg mb:Str->Option Value}{CX:CXT}{k:Nat}{J a:Addr}{fd:FuncData}{x:Str}{sp:Sp}{c:Shared}{vs:List Value}{ns:List Int}
  (T:K.In c.heap) (y:c.heap.Ns mainGlobals mg) (g:c.heap.Ns builtinsNs mb) (L:∀ x:Str,x≠"__name__"->mb x=bootBuiltins x) (A:c.heap.NoLimit) (hg:c.gens=#[])
  (ha:c.heap.get? a=some {cls:=.type "list",data:=.seq vs.toArray}) (hi:IntsAre vs ns) (U:ns.length<=sizeLine) (hr:Room k callerA)
  (F:∀ base:Heap,K.In base->base.Ns mainGlobals mg->FnOk P w K mg base CX k J fd [x] sp) (p:∀ (s:Shared) (u:Value),BindsTo s fd ⟨[u],[]⟩ [(x,u)])
  (M:∀ H:Hp,dJ2 H->SqL K H a (ns.map V.int)->sp [.ref a] H (λv _=>v=.bl true) λ_ _ _=>False)
  (N:∀ H e s',CX [] H c (λ_ _ _=>False) e s'->False) :
  codeAny (model P w) callerA (.call (.ref J) ⟨[.ref a],[]⟩) (λr s'=>r=.ok (.ret (.bool true))/\OldK c.heap s'.heap/\s'.os=c.os/\AllBare s'.gens) c:=by
 have X:=aL4 hi;have B:=hi.length
 -- from an abstract heap in O nothing but C i may be tracked
 have l:∀ H:Hp,dJ2 H->SqL K H a (ns.map V.int)->HOk P w H c.heap->(∀ b,H b≠none->b=a)->(H a≠none->K.lookup a=none) ->
   codeAny (model P w) callerA (.call (.ref J) ⟨[.ref a],[]⟩) (λr s'=>r=.ok (.ret (.bool true))/\OldK c.heap s'.heap/\s'.os=c.os/\AllBare s'.gens) c:=by
  intro H Y hS hok Z hK;have f:∀ {b:Addr} {o:Obj},c.heap.get? b=some o->H b=none->(cB0 c.heap H).get? b=some o:=λe n=>cB1 e n;have Q:∀ {b:Addr} {o:Obj} {es:Array DictEntry} {D:Nat},c.heap.get? b=some o->o.data=.dict es D->H b=none:=λ{b o es D} e d=>by
   cases q:H b with
   | none=>rfl
   | some u=>
     have R:b=a:=Z b (by rw[q];simp);subst R;rw[ha]at e;cases e;have d':Data.seq vs.toArray _=Data.dict es D:=d;cases d'
  have j:∀ {b:Addr} {m:Str->Option Value},c.heap.Ns b m->(cB0 c.heap H).Ns b m:=λ{b m} ⟨o,es,D,e,d,r⟩=>⟨o,es,D,f e (Q e d),d,r⟩;have E:K.In (cB0 c.heap H):=λb o e=>f (T b o e) (by
   cases q:H b with
   | none=>rfl
   | some u=>
     have R:b=a:=Z b (by rw[q];simp);subst R;rw[hK (by rw[q];simp)]at e;cases e)
  have hM:Mod K mg (cB0 c.heap H):=⟨E,j y,⟨mb,j g,L⟩,let ⟨mc,h1,h2⟩:=A;⟨mc,j h1,h2⟩⟩;have e0:Env0 P w K mg (cB0 c.heap H) callerA [] c H:=⟨rfl,hM,λb o e=>cR3 e,Nat.le_of_eq (bL4 _ _),trivial,λb g=>absurd (show b∈([]:List Addr)from g) (by simp),hok,.of_eq hg⟩;refine a4s ((F _ E (j y)).run callerA [] c H ⟨[.ref a],[]⟩ [.ref a] [.ref a] _ _ hr e0 (p c (.ref a)) (.cons rfl .nil) (M H Y hS)) λr s' h=>?_;cases r with
  | error e=>exact(N H e s' h).elim
  | ok fl=>
    cases fl with
    | next=>exact False.elim h
    | brk=>exact False.elim h
    | cont=>exact False.elim h
    | ret u=>
      obtain⟨v,H',os,bare,un,G,r',q⟩:=h;have q':v=.bl true:=q;subst q';obtain rfl:u=Value.bool true:=r';refine⟨rfl,OldK.of_keep λb o e=>?_,os,bare⟩;cases q:H b with
      | none=>exact un.keep b o e q (by intro z;exact absurd (show b∈([]:List Addr)from z) (by simp)) (by simp)
      | some u=>
        rcases Y b with z | ⟨ob,xs,z⟩;rw[q]at z;cases z;have z2:=un.frzs b ob _ z;obtain⟨e1,_⟩:=hok b _ z;obtain⟨e2,_⟩:=G b _ z2;rw[e]at e1;cases e1;exact e2
 cases S:K.lookup a with
 | some o=>
   -- C i is one of C t own objects
   have e:=T a o S;rw[ha]at e;cases e;refine l (λ_=>none) (λ_=>.inl rfl) (.inr ⟨_,vs.toArray,_,S,rfl,rfl,rfl,by rw[a2b,B];exact U,by simpa using X⟩) (λb u z=>by have I:(none:Option HO)=some u:=z;cases I) (λb z=>absurd rfl z) λz=>absurd rfl z
 | none=>
   refine l (λb=>if b=a then some (.frz {cls:=.type "list",data:=.seq vs.toArray} (.lst (ns.map V.int)))else none) (λb=>?_) (.inl (.inr ⟨{cls:=.type "list",data:=.seq vs.toArray},a3O rfl⟩)) (λb u z=>?_) (λb z=>?_) λ_=>S;by_cases g:b=a;exact .inr ⟨_,_,a3O g⟩;exact .inl (a3P g);by_cases g:b=a;have I:=(a3O g).symm.trans z;cases I;subst g;exact⟨ha,by rw[a1a];exact U,vs,_,X,ha⟩;have I:=(a3P g).symm.trans z;cases I;by_cases g:b=a;exact g;exact absurd (a3P g) z
def cT0{l:W.OpenLaw}{n k:Nat}{q:Program}{i:List Str}{E:(Str->Option Value)->Heap->Prop}{C:World->Heap->Prop}{d:DefRec}{K:Params->W.Frag}{CX:World->CXT}{sp:World->Sp}{x:Str}
  (hn:l.most=some n) (t:n<=sizeLine) (y:d.params.defaults=[]) (I:Room k callerA)
  (J:∀ (w:World) (h:Heap),C w h->(K w.params).In h)
  (F:∀ (w:World) (mg:Str->Option Value) (r:Addr) (h:Heap),(K w.params).In h->h.Ns mainGlobals mg->mg d.name=some (.ref r) ->
   ∃ fd:FuncData,(∀ (s:Shared) (u:Value),BindsTo s fd ⟨[u],[]⟩ [(x,u)]) /\
     ∀ base:Heap,(K w.params).In base->base.Ns mainGlobals mg->FnOk l.prog w (K w.params) mg base (CX w) k r fd [x] (sp w))
  (z:∀ (w:World) (H:Hp) (a:Addr) (ns:List Int),ns.length<=n->dJ2 H->SqL (K w.params) H a (ns.map V.int)->sp w [.ref a] H (λv _=>v=.bl true) λ_ _ _=>False)
  (A:∀ (w:World) (H:Hp) (s:Shared) (e:Value) (s':Shared),CX w [] H s (λ_ _ _=>False) e s'->False) :
  W.WalkO q i E C l.row.toRowW d [] (λf vs=>PySem.call f vs):=by
 refine Att.attach_call hn y λw s₀ m mg mb r o pm cd doc a vs ns G Y R hd L B p j c M=>?_;have D:=J w _ Y;obtain⟨fd,N,O⟩:=F w mg r _ D G.T.g B;exact cB5 D G.T.g G.T.b G.T.builtins G.T.nolimit M p j (a6c c t) I O N (λH P Q=>z w H a ns c P Q) λH e s'=>A w H m e s'
noncomputable def aT3(s:Stmt):Arguments:=match s with
 | .FunctionDef _ a _ _ _ _ _ _ _ _=>a
 | _=>{posonlyargs:=[],args:=[],vararg:=none,kwonlyargs:=[],kw_defaults:=[],kwarg:=none,defaults:=[]}
noncomputable def qZ(s:Stmt):List Stmt:=match s with
 | .FunctionDef _ _ b _ _ _ _ _ _ _=>b
 | _=>[]
noncomputable def bA(s:Stmt):Scope:=match s with
 | .FunctionDef _ _ _ _ _ _ sc _ _ _=>sc
 | _=>{kind:=.function,names:=[],isGenerator:=false,isCoroutine:=false}
abbrev CX0:CXT:=λ_ _ _ _ _ _=>False
abbrev E0:XK:=λ_ _ _=>False
def bG{X:Cx}:bN1 CX0 X E0:=λ_ _ _ _ _ _ _ h=>h.elim
structure Fun(K:W.Frag)(x qual:Str)(st:Stmt)(f:Addr)(fd:FuncData):Prop where
 ex:∃ (oc:Value) (od:Option Addr) (kV doc pm:Value) (an:Option Addr) (cdv ct:Value) (osl:Array (Option Value)),
  fd=W.fnOf x qual (aT3 st) (qZ st) (bA st) .none kV doc pm an cdv ct/\K.lookup f=some ⟨oc,od,.func fd,osl⟩/\W.codeIn K cdv qual=true
 kp:W.keepIn K (.ref f)=true
section
variable{P:Program}{w:World}{K:W.Frag}{mg:Str->Option Value}{base:Heap}
theorem Fun.ok{x qual:Str}{st:Stmt}{f:Addr}{fd:FuncData}{N ps:List Str}{k:Nat}{sp:Sp}(F:Fun K x qual st f fd)(S:FnScope N ps (bA st))(len:∀ vs H Q E,sp vs H Q E->vs.length=ps.length)
  (a:∀ (cdv:Value) (A:Around) (outer:List Env) (s:Shared) (H:Hp) (vs:List V) (Q:VK) (E:XK),Room k (A.deeper (envOfC qual (bA st) s.heap.objs.size f cdv))->sp vs H Q E ->
   ∃ t,PSs (cK8 CX0 P w K mg base N qual (bA st) f cdv A outer s H E).nox (qZ st) t/\t {nx:=λ_ H'=>Q .non H',rt:=Q} (kU N vs) H):FnOk P w K mg base CX0 (k+1) f fd ps sp:=by
 obtain⟨oc,od,kV,doc,pm,an,cdv,ct,osl,rfl,lk,b⟩:=F.ex;refine dX3 lk b S len λA outer s H vs Q E d c=>?_;obtain⟨t,h,q⟩:=a cdv A outer s H vs Q E d c;exact⟨t,h.nox,q⟩
def Fun.binds{x qual:Str}{st:Stmt}{f:Addr}{fd:FuncData}{ps:List Str}(F:Fun K x qual st f fd)
  (h:∀ (kV doc pm:Value) (an:Option Addr) (cdv ct:Value) (us:List Value),us.length=ps.length->bindArgs (W.fnOf x qual (aT3 st) (qZ st) (bA st) .none kV doc pm an cdv ct) ⟨us,[]⟩=pure (ps.zip us)):fK K fd ps []:=by
 obtain⟨oc,od,kV,doc,pm,an,cdv,ct,osl,rfl,lk,a⟩:=F.ex;exact .all (h kV doc pm an cdv ct)
end
def dX8{A:Around}{k:Nat}(a:Room k A):A.units+1 < cLine:=Nat.lt_of_le_of_lt (Nat.add_le_add_left (by decide:1<=64) _) a.units
section
variable{X:Cx}
def pv(i:Nat){x:Str}{pos:Pos}(b:X.N[i]? = some x:=by rfl)(c:Vis X.env.scope x:=by first | exact Or.inl rfl | exact Or.inr (Or.inl rfl) | exact Or.inr (Or.inr rfl))(hd:(x==("__debug__":Str))=false:=by decide)
  (a:(x==("__classdict__":Str))=false:=by decide):PE X (.Name x pos) (bK8 i):=dG2 b c hd a
end
def dX9{A B:Prop}(h:B):if false=true then A else B:=by
 rw[a3P a7b];exact h
def cL1{c A B:Prop}[Decidable c](a:c->A)(b:¬ c->B):if c then A else B:=by
 by_cases h:c;rw[a3O h];exact a h;rw[a3P h];exact b h
def aT4(H H':Hp):Prop:=∀ b o,H b=some o->H' b=some o
def aT4.refl(H:Hp):aT4 H H:=λ_ _ h=>h
def bH4{scope:Scope}{env:Env}(h:∀ y∈scope.names,y.2=.free->∃ c,env.cells.lookup y.1=some c) :
  ∃ cl:List (Str×Addr),closureFor scope env=pure cl/\(∀ x c,cl.lookup x=some c->env.cells.lookup x=some c)/\∀ y∈scope.names,y.2=.free->∃ c,cl.lookup y.1=some c:=by
 have p:∀ (l:List (Str×NameKind)) (acc:List (Str×Addr)),(∀ y∈l,y.2=.free->∃ c,env.cells.lookup y.1=some c)->(∀ x c,acc.lookup x=some c->env.cells.lookup x=some c) ->
   ∃ cl:List (Str×Addr),((forIn l acc λ(x:Str×NameKind) (r:List (Str×Addr))=>if(x.2==NameKind.free)=true then do let a ← cellOf env x.1;pure (ForInStep.yield ((x.1,a)::r))else pure (ForInStep.yield r)):Sem (List (Str×Addr)))=pure cl /\
     (∀ x c,cl.lookup x=some c->env.cells.lookup x=some c)/\(∀ x c,acc.lookup x=some c->∃ d,cl.lookup x=some d)/\∀ y∈l,y.2=.free->∃ c,cl.lookup y.1=some c:=by
  intro l
  induction l with
  | nil=>intro acc _ ha;exact⟨acc,rfl,ha,λx c e=>⟨c,e⟩,λ_ b=>nomatch b⟩
  | cons y r t=>
    intro acc q ha;obtain⟨n,k⟩:=y;rw[List.forIn_cons];by_cases i:(k==NameKind.free)=true
    ·have s:k=.free:=by simpa using i
     obtain⟨c,u⟩:=q (n,k) a3a s;have v:cellOf env n=pure c:=by unfold cellOf;rw[u]
     obtain⟨cl,e,f,j,g⟩:=t ((n,c)::acc) (λy b=>q y (a4a _ b)) (λx d e=>by
      rw[a4h]at e;split at e
      ·rename_i m;have:x=n:=by simpa using m
       cases e;rw[this];exact u
      ·exact ha x d e)
     have has:∃ d,cl.lookup n=some d:=j n c (by rw[a4h];simp);refine⟨cl,?_,f,λx d e=>?_,λy b o=>?_⟩;simp only[i,if_true,v];exact e
     ·by_cases m:x=n;subst m;exact has;exact j x d (by rw[a4h];have:(x==n)=false:=by simpa using m
                                                       rw[this];exact e)
     ·rcases a4b.mp b with rfl | b;exact has;exact g y b o
    ·obtain⟨cl,e,f,j,g⟩:=t acc (λy b=>q y (a4a _ b)) ha;refine⟨cl,?_,f,j,λy b o=>?_⟩;simp only[i];exact e;rcases a4b.mp b with rfl | b;exact absurd (by simpa using o) i;exact g y b o
 obtain⟨cl,e,f,_,g⟩:=p scope.names [] h (λx c e=>nomatch e);refine⟨cl,?_,f,g⟩;unfold closureFor;simp only[bind_pure];exact e
def lU{α:Type}{x n:Str}{v:α}{r:List (Str×α)}(h:(x==n)=true):List.lookup x ((n,v)::r)=some v:=by rw[a4h,h]
def hU{α:Type}{x n:Str}{v:α}{r:List (Str×α)}(h:(x==n)=false):List.lookup x ((n,v)::r)=List.lookup x r:=by rw[a4h,h]
def cL2{scope:Scope}{env:Env}{x:Str}(h:(relabel scope env).names.lookup x=some .cell\/(relabel scope env).names.lookup x=some .free)(d:∀ y∈scope.names,y.2≠.cell) :
  (x,NameKind.free)∈scope.names:=by
 unfold relabel at h;dsimp only at h;revert h d;generalize scope.names=l;intro h d
 induction l with
 | nil=>rcases h with h | h<;>cases h
 | cons y r i=>
   obtain⟨n,k⟩:=y;rw[a4e]at h;dsimp only at h;have c:=λh=>i h λy j=>d y (a4a _ j);have f:k≠.cell:=d (n,k) a3a;by_cases e:(k==NameKind.free&&env.scope.kind==.function&&env.kindOf n==some .cell)=true
   ·have g:k=.free:=by
     simp only[Bool.and_eq_true,beq_iff_eq]at e;exact e.1.1
    rw[a3O e]at h;cases b:x==n with
    | true=>
      have a:x=n:=by simpa using b
      subst a g;exact a3a
    | false=>
      rw[hU b]at h;exact a4a _ (c h)
   ·rw[a3P e]at h;cases b:x==n with
    | true=>
      have a:x=n:=by simpa using b
      rw[lU b]at h;subst a;rcases h with h | h;exact absurd (a0b h) f
      ·rw[a0b h];exact a3a
    | false=>
      rw[hU b]at h;exact a4a _ (c h)
def pO{scope:Scope}{env:Env}{x:Str}(h:(relabel scope env).names.lookup x=some .cell\/(relabel scope env).names.lookup x=some .free) :
  (x,NameKind.free)∈scope.names\/scope.names.lookup x=some .cell:=by
 unfold relabel at h;dsimp only at h;revert h;generalize scope.names=l;intro h
 induction l with
 | nil=>rcases h with h | h<;>cases h
 | cons y r e=>
   obtain⟨n,k⟩:=y;rw[a4e]at h;dsimp only at h;by_cases c:(k==NameKind.free&&env.scope.kind==.function&&env.kindOf n==some .cell)=true
   ·have d:k=.free:=by
     simp only[Bool.and_eq_true,beq_iff_eq]at c;exact c.1.1
    rw[a3O c]at h;cases a:x==n with
    | true=>
      have b:x=n:=by simpa using a
      subst b d;exact .inl a3a
    | false=>
      rw[hU a]at h;rcases e h with z | z;exact .inl (a4a _ z)
      ·exact .inr (by rw[hU a];exact z)
   ·rw[a3P c]at h;cases a:x==n with
    | true=>
      have b:x=n:=by simpa using a
      rw[lU a]at h;subst b;rcases h with h | h;exact .inr (by rw[lU a];exact h)
      ·rw[a0b h];exact .inl a3a
    | false=>
      rw[hU a]at h;rcases e h with z | z;exact .inl (a4a _ z);exact .inr (by rw[hU a];exact z)
theorem fF:∀ (names:List (Str×NameKind)) (n:Nat) (acc:List (Str×Addr)),cellsFrom n names acc=cellsFrom n names []++acc
 | [],n,acc=>rfl
 | (x,k)::r,n,acc=>by
   unfold cellsFrom;split;rw[fF r (n+1) ((x,n)::acc),fF r (n+1) [(x,n)],List.append_assoc];rfl;exact fF r n acc
theorem kW:∀ (names:List (Str×NameKind)) (n:Nat) (x:Str) (c:Addr),(x,c)∈cellsFrom n names []->(x,NameKind.cell)∈names
 | [],n,x,c,h=>nomatch h
 | (y,k)::r,n,x,c,h=>by
   unfold cellsFrom at h;split at h
   ·rename_i b;have a:k=.cell:=by simpa using b
    rw[fF]at h;rcases a3b.mp h with z | z;exact a4a _ (kW r _ x c z);have e:=a1b.mp z;cases e;rw[a];exact a3a
   ·exact a4a _ (kW r _ x c h)
theorem gJ:∀ (names:List (Str×NameKind)) (n:Nat) (x:Str),(x,NameKind.cell)∈names->∃ c,(cellsFrom n names []).lookup x=some c
 | [],n,x,h=>nomatch h
 | (y,k)::r,n,x,h=>by
   have a:∀ m,(x,NameKind.cell)∈r->∃ c,(cellsFrom m r []).lookup x=some c:=λm hm=>gJ r m x hm;unfold cellsFrom;split
   ·rename_i b;rw[fF,List.lookup_append];rcases a4b.mp h with z | z
    ·cases z;cases e:(cellsFrom (n+1) r []).lookup y with
     | some c=>exact⟨c,rfl⟩
     | none=>exact⟨n,by simp⟩
    ·obtain⟨c,d⟩:=a (n+1) z;exact⟨c,by rw[d];rfl⟩
   ·rename_i b;rcases a4b.mp h with z | z;cases z;exact absurd rfl b;exact a n z
def cT1{M:Model}{A:Around}{E:Value->Shared->Prop}{s:Shared}{scope:Scope}{globals:Addr}{cl:List (Str×Addr)}{qual:Str}{env:Env}{Q:Env->Shared->Prop}
  (c:Q (newEnv scope s.heap.objs.size globals (cellsFrom (s.heap.objs.size+1) scope.names cl) qual none .none (some env) builtinsNs) {s with heap:=pushCells (s.heap.push {cls:=.type "dict",data:=.dict #[]}) scope.names}) :
  wpAny M A (newFunctionEnv scope globals cl [] qual none .none (some env)) Q E s:=by
 simp only[newFunctionEnv,Option.isSome_some,if_true];refine a3N (wpAny_alloc ?_);refine a3N (wpAny_layCells _ (λb kind cells=>by cases a:kind==NameKind.cell<;>simp[a]) _ _ _ _ ?_);rw[show({s with heap:=s.heap.push {cls:=.type "dict",data:=.dict #[]}}:Shared).heap.objs.size=s.heap.objs.size+1 from a5h ..];refine a3N ?_;rw[List.forIn_nil];exact a3S (a3S c)
def aF2{scope:Scope}{env:Env}{x:Str}(h:(relabel scope env).names.lookup x=some .local):scope.names.lookup x=some .local:=by
 unfold relabel at h;dsimp only at h;revert h;generalize scope.names=l;intro h
 induction l with
 | nil=>cases h
 | cons y r b=>
   obtain⟨n,k⟩:=y;rw[a4e]at h;dsimp only at h;by_cases c:(k==NameKind.free&&env.scope.kind==.function&&env.kindOf n==some .cell)=true
   ·rw[a3O c]at h;cases a:x==n with
    | true=>rw[lU a]at h;cases h
    | false=>rw[hU a]at h ⊢;exact b h
   ·rw[a3P c]at h;cases a:x==n with
    | true=>rw[lU a]at h ⊢;exact h
    | false=>rw[hU a]at h ⊢;exact b h
def Inv.adopt{X:Cx}{pins:List (Addr×Obj)}{σ:St}{H:Hp}{s:Shared}{a:Addr}{o:HO}(I:Inv X pins σ H s)(hn:H a=none)(h:X.s₀.heap.objs.size<=a)(i:a≠X.env.locals)
  (j:∀ x c,X.env.cells.lookup x=some c->c≠a) (k:∀ p∈X.pn++pins,p.1≠a) (d:fE X.prog X.w (upd H a o) s.heap a o):Inv X pins σ (upd H a o) s:=by
 have ne:∀ b u,H b=some u->b≠a:=λb u e=>bH e hn;refine⟨I.ok,I.os,I.bare,⟨I.base.keep,I.base.slot,λb ob q n l=>?_,I.base.there,λb xs q=>?_,λb ob u q=>?_,λb ps q=>?_⟩,I.loc,I.cell,?_,λx c e=>?_,λp f=>?_,λb u e=>?_,I.len⟩;rw[aO (a1d (a6d (a6b q) h))];exact I.base.free b ob q n l;have:=I.base.tups b xs q;rw[aO (ne b _ this)];exact this;have:=I.base.frzs b ob u q;rw[aO (ne b _ this)];exact this;obtain⟨m,this⟩:=I.base.tbls b ps q;exact⟨m,by rw[aO (ne b _ this)];exact this⟩;rw[aO (a3e i)];exact I.free;rw[aO (j x c e)];exact I.freeC x c e;obtain⟨e,n,r⟩:=I.pin p f;exact⟨e,by rw[aO (k p f)];exact n,r⟩;by_cases g:b=a;subst g;rw[aW]at e;cases e;exact d;rw[aO g]at e;exact(I.hok b u e).stay (λc v _ q=>q) (λc q=>by rw[aO (ne c _ q)];exact q) λc xs q=>by rw[aO (ne c _ q)];exact q
def aT5{prog:Program}{w:World}{A:Around}{R:Result->Shared->Prop}{s:Shared}{elt a iter:Expr}{l:List Expr}{scope:Scope}{pos:Pos}{it acc:Value}{env:Env}(I:Nat->Shared->Prop)
  (turn:∀ n s,I n s->wpAny (model prog w) A (pyNext it) (λr e=>match r with
   | none=>R (.ok .next) e
   | some v=>wpAny (model prog w) A (letOwnedTupleGo a it v) (λ_ f=>wpAny (model prog w) A (assign a env v) (λ_ i=>
     wpAny (model prog w) A (forIn l true λc r=>if r=true then do let ok ← isTrue c env (eval c env);pure (ForInStep.yield ok)else pure (ForInStep.yield r)) (λok g=>
      if ok=true then wpAny (model prog w) A (eval elt env) (λx j=>
       wpAny (model prog w) A (call (.builtin "list.append") [acc,x]) (λ_ k=>∃ m,m < n/\I m k) (λ_ _=>False) j) (λ_ _=>False) g
      else ∃ m,m < n/\I m g) (λ_ _=>False) i) (λ_ _=>False) f) (λ_ _=>False) e) (λ_ _=>False) s)
  (n:Nat) (h:I n s) :
  codeAny (model prog w) A (.compLoop (.ListComp elt [⟨a,iter,l,0⟩] scope pos) 0 it acc env) R s:=by
 refine codeAny_loop rfl I (λn s t=>?_) n h;show wpAny _ A ((compTurn (.ListComp elt [⟨a,iter,l,0⟩] scope pos) 0 it acc env).onRaise (λx=>do noteFrame x env;theTreesLotGoes x)) _ _ s;refine wpAny_noted ?_;rw[compTurn_list];refine a3N (a4v (a3N (a3Y (turn n s t) (λr e d=>?_) λ_ _ h'=>h'.elim)));cases r with
 | none=>exact a3S d
 | some v=>
   refine a3N (a3Y d (λ_ f d=>?_) λ_ _ h'=>h'.elim);refine a3N (a3Y d (λ_ i o=>a3N (a3Y o (λok g b=>?_) λ_ _ h'=>h'.elim)) λ_ _ h'=>h'.elim);cases ok with
   | true=>
     simp only[if_true]at b ⊢;refine a3N (a3N (a3Y b (λx j p=>a3N (a3Y p (λ_ k q=>a3S (a3S ⟨rfl,q⟩)) λ_ _ h'=>h'.elim)) λ_ _ h'=>h'.elim))
   | false=>
     simp only[Bool.false_eq_true,if_false]at b ⊢
     first
      | exact a3N (a3S (a3S ⟨rfl,b⟩))
      | exact a3S ⟨rfl,b⟩
noncomputable abbrev cxC(X:Cx)(scope:Scope)(cl:List (Str×Addr))(ex:List Addr)(s:Shared)(H:Hp):Cx:=
 {X with s₀:=s,H₀:=H,env:=compEnvC scope cl s.heap.objs.size X.env,outer:=X.stack,ex:=ex,fn:=λx=>scope.names.lookup x==some .cell,xe:=λ_ _=>False}
noncomputable def blank(own:List Nat)(σ:St):St:=own.foldl (λσ i=>σ.set i none) σ
theorem rW:∀ (own:List Nat) (σ:St),(blank own σ).length=σ.length
 | [],_=>rfl
 | i::r,σ=>(rW r (σ.set i none)).trans (by simp)
theorem rA:∀ (own:List Nat) (σ:St) (i:Nat) (v:V),(blank own σ)[i]? = some (some v)->i∉own/\σ[i]? = some (some v)
 | [],_,_,_,h=>⟨by simp,h⟩
 | j::r,σ,i,v,h=>by
   obtain⟨b,a⟩:=rA r (σ.set j none) i v h;by_cases e:i=j;subst e;rw[List.getElem?_set]at a;simp at a;rw[a9a (a3e e)]at a;exact⟨by simp[e,b],a⟩
def cT2(own:List Nat)(g:TG):Prop:=∀ x σ H Q,g x σ H Q->g x σ H λσ' H'=>Q σ' H'/\σ'.length=σ.length/\∀ i,i∉own->σ'[i]? = σ[i]?
def cB6(own:List Nat)(g:TGs):Prop:=∀ x σ H Q,g x σ H Q->g x σ H λσ' H'=>Q σ' H'/\σ'.length=σ.length/\∀ i,i∉own->σ'[i]? = σ[i]?
def aQ{own:List Nat}{i:Nat}(h:i∈own):cT2 own (aE8 i):=λx σ H Q q=>
 ⟨q,by simp,λj a=>List.getElem?_set_ne (λe:i=j=>a (by rw[← e];exact h))⟩
def jV{own:List Nat}:cB6 own dU8:=λx σ H Q q=>⟨q.1,q.2,rfl,λ_ _=>rfl⟩
def dQ{own:List Nat}{t:TG}{u:TGs}(k:cT2 own t)(l:cB6 own u)(mt:∀ x σ H Q h,(∀ a b,Q a b->h a b)->t x σ H Q->t x σ H h):cB6 own (bL7 t u):=by
 intro x σ H Q q;obtain⟨v,r,e,q⟩:=q;refine⟨v,r,e,mt _ _ _ _ _ (λd m g=>?_) (k _ _ _ _ q)⟩;obtain⟨g,l1,j⟩:=g;have:=l _ _ _ _ g;revert this;exact λthis=>by
  have f:u r d m (λσ' H'=>Q σ' H'/\σ'.length=d.length/\∀ i,i∉own->σ'[i]? = d[i]?):=this;rw[l1]at f;have n:(λ(σ':St) H'=>Q σ' H'/\σ'.length=σ.length/\∀ i,i∉own->σ'[i]? = d[i]?)=(λ(σ':St) H'=>Q σ' H'/\σ'.length=σ.length/\∀ i,i∉own->σ'[i]? = σ[i]?):=by
   funext σ' H';apply propext;constructor;rintro⟨a,b,c⟩;exact⟨a,b,λi hi=>(c i hi).trans (j i hi)⟩;rintro⟨a,b,c⟩;exact⟨a,b,λi hi=>(c i hi).trans (j i hi).symm⟩
  rw[← n];exact f
def dS{i:Nat}:∀ x σ H (Q c:St->Hp->Prop),(∀ a b,Q a b->c a b)->aE8 i x σ H Q->aE8 i x σ H c:=λ_ _ _ _ _ f q=>f _ _ q
def cL3(X:Cx)(a:List Expr)(t:TT):Prop:=
 ∀ (pins:List (Addr×Obj)) (s:Shared) (σ:St) (H:Hp) (Q:Bool->Hp->Prop),Inv X pins σ H s->t σ H Q ->
   wpAny (model X.prog X.w) X.A (forIn a true λc r=>if r=true then do let ok ← isTrue c X.env (eval c X.env);pure (ForInStep.yield ok)else pure (ForInStep.yield r)) (TP X pins σ Q) X.xe s
def dJ3:TT:=λ_ H Q=>Q true H
def aF3{X:Cx}:cL3 X [] dJ3:=λ_ _ _ H _ I h=>wpAny_tests_nil ⟨H,I,h⟩
def bA0{X:Cx}{c:Expr}{t:TT}(h:PT X c t):cL3 X [c] t:=λpins s σ H Q I q=>wpAny_tests_one (h pins s σ H Q I q)
structure CompScope(X:Cx)(scope:Scope)(own:List Nat):Prop where
 kind:scope.kind=.function
 cells:∀ y∈scope.names,y.2=.cell->scope.names.lookup y.1=some .cell
 names:∀ y∈scope.names,y.2=.local->scope.names.lookup y.1=some .local
 free:∀ y∈scope.names,y.2=.free->X.env.kindOf y.1=some .cell\/X.env.kindOf y.1=some .free
 own:∀ i x,X.N[i]? = some x->(scope.names.lookup x=some .local\/scope.names.lookup x=some .cell)->i∈own
 calm:X.calm=true
def cL4(own:List Nat)(e:TI)(g:TG)(f:TT)(h:TE)(σ:St)(H:Hp)(F:List V->Hp->Prop):Prop:=
 e σ H λJ j=>∃ W:Nat->Nat->List V->Hp->Prop,(∃ m,W 0 m [] j)/\∀ i m ys H,W i m ys H->ys.length<=sizeLine /\
  ((J.stop i H/\F ys H)\/(J.go i H/\∀ x H',J.yld i H x H'->g x (blank own σ) H' λa k=>f a k λb d=>
    if b=true then h a d λv l=>∃ c,c < m/\W (i+1) c (ys++[v]) l else ∃ c,c < m/\W (i+1) c ys d))
def bH5(own:List Nat)(a:TI)(g:TG)(b:TT)(c:TE):TE:=λσ H Q=>cL4 own a g b c σ H λys H'=>∀ p,H' p=none->Q (.ref p) (upd H' p (.lst ys))
structure Stray(X:Cx)(pins:List (Addr×Obj))(H:Hp)(b:Addr):Prop where
 un:H b=none
 loc:b≠X.env.locals
 young:X.s₀.heap.objs.size<=b
 cell:∀ x c,X.env.cells.lookup x=some c->c≠b
 pin:∀ p∈X.pn++pins,p.1≠b
def Inv.stray{X:Cx}{pins:List (Addr×Obj)}{σ:St}{H H':Hp}{s:Shared}{b:Addr}(I:Inv X pins σ H s)(a:s.heap.objs.size<=b)(hn:H' b=none):Stray X pins H' b:=by
 obtain⟨c,d,g,h,e,f⟩:=I.fpOk a hn;exact⟨c,d,a6c I.sz a,e,f⟩
set_option maxHeartbeats 8000000 in
def bH6{X:Cx}{tg iter elt:Expr}{ifs:List Expr}{scope:Scope}{pos:Pos}{own:List Nat}{g:TG}{tt:TT}{te:TE}{use:Option (Value->Sem Unit)}{Qf:Value->Shared->Prop}
  (S:CompScope X scope own) (hg:∀ cl ex s H,PG (cxC X scope cl ex s H) tg g) (hG:cT2 own g)
  (ht:∀ cl ex s H,cL3 (cxC X scope cl ex s H) ifs tt) (he:∀ cl ex s H,PE (cxC X scope cl ex s H) elt te)
  {pins:List (Addr×Obj)} {a:Shared} {σ:St} {t:Hp} {F:List V->Hp->Prop} {cl:List (Str×Addr)} {J:It} {fp:List Addr} {it D:Addr} {tn:Nat->Heap->Prop} {h₁:Heap} {mC:Str->Option Value} {tk m0:Nat} {W:Nat->Nat->List V->Hp->Prop}
  (B:Inv X pins σ t a) (T:Turn X.prog X.w X.K tg J fp it tn) (O:∀ x c,cl.lookup x=some c->(X.env.cells.lookup x=some c/\scope.names.lookup x≠some .cell)\/(a.heap.objs.size < c/\scope.names.lookup x=some .cell/\h₁.IsCell c none)) (cl2:∀ y∈scope.names,y.2=.free\/y.2=.cell->∃ c,cl.lookup y.1=some c)
  (cl3:∀ x y c,cl.lookup x=some c->cl.lookup y=some c->x=y)
  (R:∀ b∈fp,bL9 X pins t b) (N:∀ b∈fp,b < D) (G:D < a.heap.objs.size) (I:∀ b,b∈frs X.stack->b < D) (hbase:∀ b o,X.base.get? b=some o->b < D) (h:Stray X pins t D)
  (hD3:a.heap.get? D=some {cls:=.type "list",data:=.seq ([]:List Value).toArray}) (st3:tn 0 a.heap) (U:h₁.Ns a.heap.objs.size mC) (E:∀ b o,a.heap.get? b=some o->h₁.get? b=some o)
  (w0:W 0 m0 [] t) (turn:∀ i m ys H,W i m ys H->ys.length<=sizeLine /\
  ((J.stop i H/\F ys H)\/(J.go i H/\∀ x H',J.yld i H x H'->g x (blank own σ) H' λσ2 t=>tt σ2 t λb H3=>
    if b=true then te σ2 H3 λv Q=>∃ Y,Y < m/\W (i+1) Y (ys++[v]) Q else ∃ Y,Y < m/\W (i+1) Y ys H3)))
  (fin:∀ D C ys H' s' m,Inv X pins σ (upd H' D (.lst ys)) s'->H' D=none->s'.heap.Ns C m->Stray X pins (upd H' D (.lst ys)) C->F ys H' ->
   compPost (model X.prog X.w) X.A X.xe use Qf (.ref D) C (.ok .next) s') :
  codeAny (model X.prog X.w) X.A (.compLoop (.ListComp elt [⟨tg,iter,ifs,0⟩] scope pos) 0 (.ref it) (.ref D) (compEnvC scope cl a.heap.objs.size X.env))
   (compPost (model X.prog X.w) X.A X.xe use Qf (.ref D) a.heap.objs.size) {a with heap:=h₁,toks:=tk}:=by
 have cneD:∀ x c,cl.lookup x=some c->c≠D:=λx c q=>by
  rcases O x c q with z | z;exact h.cell x c z.1;exact(a1d (a0h G z.1)).symm
 have cneF:∀ b∈fp,∀ x c,cl.lookup x=some c->c≠b:=λb f x c q=>by
  rcases O x c q with z | z;exact(R b f).2.2.2.2.1 x c z.1;exact(a1d (a0h (a0h (N b f) G) z.1)).symm
 have okY:(cxC X scope cl (D::fp) a t).Ok:=by
  refine⟨B.ok.mod,S.kind,B.ok.glob,B.ok.blt,a7a _,cl3,λx hk=>?_,λx c hf q=>?_,B.ok.hd,B.ok.frames,.inl rfl,λb f=>?_,λb o q=>?_,?_,λb o q f=>?_,λb f Z=>?_,B.stack,B.stkFree⟩;rcases pO hk with z | z;exact cl2 _ z (.inl rfl);exact cl2 _ (mem_of_lookup z) (.inr rfl)
  ·rcases O x c q with z | z
   ·have hf':scope.names.lookup x=some .cell:=by simpa using hf
    exact absurd hf' z.2
   ·exact a1i z.1
  ·constructor;show b≠a.heap.objs.size;rcases a4b.mp f with z | z;rw[z];exact a1d G;exact a1d (a0h (N b z) G);intro x c q;rcases a4b.mp f with z | z;rw[z];exact cneD x c q;exact cneF b z x c q
  ·exact B.bs b o q
  ·exact a6c B.ok.bsz B.sz
  ·rcases a4b.mp f with z | z;have:=hbase b o q;rw[z]at this;exact a0f _ this;rcases(R b z).2.2.2.1 with y | y;exact B.ok.noex b o q y;exact a0f _ (a6d (a6b q) (a6c B.ok.bsz y))
  ·rcases a4b.mp f with z | z;have:=I b Z;rw[z]at this;exact a0f _ this;rcases a4b.mp (B.stkSub b Z)with y | y;exact(R b z).2.1 y;exact(R b z).2.2.1 y
 have IY:Inv (cxC X scope cl (D::fp) a t) pins (blank own σ) t {a with heap:=h₁,toks:=tk}:=by
  refine⟨okY,rfl,B.bare,Un.kept E,⟨_,U,λi x v e1 e2 e3=>?_⟩,λx c q=>?_,B.hok.fresh (a7a _),λx c q=>by
   rcases O x c q with z | z;exact B.freeC x c z.1;exact B.hok.fresh (a1i z.1),λp hp=>?_,B.hok.kept E,(rW own σ).trans B.len⟩
  ·obtain⟨hno,e2'⟩:=rA own σ i v e2;have hnl:¬ (relabel scope X.env).names.lookup x=some .local:=λz=>hno (S.own i x e1 (.inl (aF2 z)));have hnc:¬ scope.names.lookup x=some .cell:=λz=>hno (S.own i x e1 (.inr z));have hcf:(relabel scope X.env).names.lookup x=some .cell\/(relabel scope X.env).names.lookup x=some .free:=by
    rcases e3 with z | z | z;exact absurd z hnl;exact .inl z;exact .inr z
   have hmem:=(pO hcf).resolve_right hnc;have hkX:=S.free _ hmem rfl;obtain⟨m,hm,hl⟩:=B.loc;obtain⟨u,r,lk⟩:=hl i x v e1 e2' (by rcases hkX with z | z;exact .inr (.inl z);exact .inr (.inr z));obtain⟨c,hc⟩:=cl2 _ hmem (.inl rfl);refine⟨u,r,.inr ⟨hcf,c,hc,?_⟩⟩;rcases lk with⟨z,_⟩ | ⟨_,c',hc',ic⟩;dsimp only at hkX;rw[z]at hkX;rcases hkX with y | y<;>cases y;have:=((O _ c hc).resolve_right λz=>hnc z.2.1).1;dsimp only at this;rw[hc']at this;cases this;obtain⟨o,ho,hd⟩:=ic;exact⟨o,E _ _ ho,hd⟩
  ·rcases O x c q with z | z;obtain⟨v,o,ho,hd⟩:=B.cell x c z.1;exact⟨v,o,E _ _ ho,hd⟩;exact⟨_,z.2.2⟩
  ·obtain⟨q,n,ne,nf,d⟩:=B.pin p hp;refine⟨E _ _ q,n,a1d (a6b q),λf=>?_,d⟩;rcases a4b.mp (B.stkSub _ f)with y | y;exact ne y;exact nf y
 have DY:D≠a.heap.objs.size:=a1d G;have statY:∀ {H':Hp},(∀ b∈fp,H' b=none)->∀ b∈fp,bL9 (cxC X scope cl (D::fp) a t) pins H' b:=λhn b f=>by
  refine⟨hn b f,?_,?_,.inl (a4a _ f),cneF b f,(R b f).2.2.2.2.2⟩;show b≠a.heap.objs.size;exact a1d (a0h (N b f) G);intro Z;rcases a4b.mp (B.stkSub b Z)with y | y;exact(R b f).2.1 y;exact(R b f).2.2.1 y
 have hDfp:D∉fp:=λz=>a0f _ (N D z);have hDstk:D∉frs X.stack:=λz=>a0f _ (I D z);have L:∀ {H':Hp} {o:Obj},(∀ b∈fp,H' b=none)->∀ b∈fp,bL9 (cxC X scope cl (D::fp) a t) (pins++[(D,o)]) H' b:=λ{H' o} fr b f=>by
  obtain⟨a1,a2,a3,a4,a5,a6⟩:=statY fr b f;refine⟨a1,a2,a3,a4,a5,λp hp z=>?_⟩;rcases a3b.mp hp with y | y;exact a6 p (a7d _ y) z;rcases a3b.mp y with y | y;exact a6 p (a9b _ y) z;have e:p=(D,o):=a1b.mp y;rw[e]at z;have z':D=b:=z;exact hDfp (by rw[z'];exact f)
 have pin2:∀ {H':Hp} {s':Shared} {l:Array Value} {k:Nat},Inv (cxC X scope cl (D::fp) a t) pins (blank own σ) H' s'->H' D=none->s'.heap.get? D=some {cls:=.type "list",data:=.seq l k} ->
   Inv (cxC X scope cl (D::fp) a t) (pins++[(D,{cls:=.type "list",data:=.seq l k})]) (blank own σ) H' s':=λ{H' s' l k} I4 D4 o4=>I4.pins_of λp hp=>by
  rcases a3b.mp hp with z | z;exact I4.pin p (a9b _ z);have e:p=(D,{cls:=.type "list",data:=.seq l k}):=a1b.mp z;subst e;exact⟨o4,D4,DY,hDstk,λv z=>by cases z⟩
 refine aT5 (λn s'=>∃ i ys H' l k,Inv (cxC X scope cl (D::fp) a t) pins (blank own σ) H' s'/\tn i s'.heap/\(∀ b∈fp,H' b=none)/\H' D=none /\
  s'.heap.get? D=some {cls:=.type "list",data:=.seq l k}/\dD ys l.toList/\W i n ys H') ?_ m0
  ⟨0,[],t,#[],_,IY,T.keep _ _ _ st3 λb f o q=>E b o q,λb f=>(R b f).1,h.un,E _ _ hD3,.nil,w0⟩
 rintro n s4 ⟨i,ys,Q,l,k,I4,st4,fr4,D4,o4,v4,w4⟩;obtain⟨hz,step⟩:=turn i n ys Q w4;rcases step with⟨stop,qn⟩ | ⟨go,step⟩
 ·refine thn (T.done (cxC X scope cl (D::fp) a t) rfl rfl rfl S.calm i _ s4 (blank own σ) Q (λ_ _=>False) (pin2 I4 D4 o4) (L fr4) st4 stop) λr s5 Z0=>?_;obtain⟨hr,I5⟩:=Z0;subst hr;have oD:s5.heap.get? D=some {cls:=.type "list",data:=.seq l k}:=(I5.pin (D,_) (a9b _ (a9b _ a3a))).1;have P:Inv (cxC X scope cl (D::fp) a t) pins (blank own σ) Q s5:=I5.unpinned;have IX:Inv X pins σ Q s5:=by
   refine B.call' (ch:=D::fp) P.os P.base P.hok P.bare λb f=>?_;rcases a4b.mp f with z | z;rw[z];exact⟨.inr h.young,h.loc,h.cell,h.pin⟩;obtain⟨a1,a2,a3,a4,a5,a6⟩:=R b z;exact⟨a4,a2,a5,a6⟩
  obtain⟨m5,hm5,_⟩:=P.loc;have nC:Q a.heap.objs.size=none:=P.free;have IX':Inv X pins σ (upd Q D (.lst ys)) s5:=by
   refine IX.adopt D4 h.young h.loc h.cell h.pin ⟨hz,l.toList,k,v4,?_⟩;rw[oD]
  have strC:Stray X pins (upd Q D (.lst ys)) a.heap.objs.size:=B.stray (a7a _) (by rw[aO (a3e DY)];exact nC);exact fin D _ ys Q s5 m5 IX' D4 hm5 strC qn
 ·refine thn (T.item (cxC X scope cl (D::fp) a t) rfl rfl rfl S.calm i _ s4 (blank own σ) Q (λ_ _=>False) (pin2 I4 D4 o4) (L fr4) st4 go) λr s5 Z0=>?_;obtain⟨u,hr,h5⟩:=Z0;subst hr;refine thn h5 λ_ s6 ⟨x,H6,I6,r6,y6,st6,fr6⟩=>?_;have I6':=I6.pinned (L fr6) (T.obj _ _ st6);refine thn (hg cl (D::fp) a t _ s6 (blank own σ) H6 x u _ I6' r6 (hG _ _ _ _ (step x H6 y6))) λ_ s7 ⟨σ7,H7,I7,⟨q7,l7,p7⟩⟩=>?_;refine thn (ht cl (D::fp) a t _ s7 σ7 H7 _ I7 q7) λb s8 ⟨H8,I8,q8⟩=>?_;have weak:∀ {H9:Hp} {s9:Shared},Inv (cxC X scope cl (D::fp) a t) ((pins++[(D,{cls:=.type "list",data:=.seq l k})])++tG fp s6.heap) σ7 H9 s9 ->
    Inv (cxC X scope cl (D::fp) a t) ((pins++[(D,{cls:=.type "list",data:=.seq l k})])++tG fp s6.heap) (blank own σ) H9 s9:=λI9=>
   I9.weak l7.symm λj v e=>by rw[p7 j (rA own σ j v e).1];exact e
  have tn9:∀ {H9:Hp} {s9:Shared},Inv (cxC X scope cl (D::fp) a t) ((pins++[(D,{cls:=.type "list",data:=.seq l k})])++tG fp s6.heap) (blank own σ) H9 s9->tn (i+1) s9.heap/\∀ b∈fp,H9 b=none:=λI9=>
   ⟨T.keep _ _ _ st6 λb f o q=>(I9.pin (b,o) (a9b _ (a9b _ (mV f q)))).1,λb f=>by
    obtain⟨o,q,d⟩:=T.obj _ _ st6 b f;exact(I9.pin (b,o) (a9b _ (a9b _ (mV f q)))).2.1⟩
  cases b with
  | true=>
    rw[a3O rfl]at q8 ⊢;refine thn (he cl (D::fp) a t _ s8 σ7 H8 _ I8 q8) λy s9 Z0=>?_;obtain⟨v9,H9,I9,r9,Y,hm',w9⟩:=Z0;have M:=weak I9;obtain⟨t9,f9⟩:=tn9 M;have p9:=M.pin (D,_) (a9b _ (a7d _ (a9b _ a3a)));have hlen:=v4.length;have hz':l.size<=sizeLine:=by rw[← a1g];lia
    refine append_at (hsz:=hz') p9.1 λh' hs' hD'=>?_;have I9u:Inv (cxC X scope cl (D::fp) a t) pins (blank own σ) H9 s9:=M.unpinned.unpinned;have I10:Inv (cxC X scope cl (D::fp) a t) pins (blank own σ) H9 {s9 with heap:=h'}:=
     I9u.turned (it:=D) (t':=s9.toks) (λb o f q=>(hs'.2 b f).trans q) p9.2.1 DY (.inl a3a) cneD h.pin
    refine⟨Y,hm',i+1,ys++[v9],H9,l.push y,k+1,I10,T.keep _ _ _ t9 λb f o q=>(hs'.2 b λz=>hDfp (by rw[← z];exact f)).trans q,f9,p9.2.1,hD',?_,w9⟩;rw[Array.toList_push];exact v4.append (.cons r9 .nil)
  | false=>
    rw[a3P a7b]at q8 ⊢;obtain⟨Y,hm',w9⟩:=q8;have M:=weak I8;obtain⟨t9,f9⟩:=tn9 M;have p9:=M.pin (D,_) (a9b _ (a7d _ (a9b _ a3a)));exact⟨Y,hm',i+1,ys,H8,l,k,M.unpinned.unpinned,t9,f9,p9.2.1,p9.1,v4,w9⟩
set_option maxHeartbeats 8000000 in
def aL5{X:Cx}{tg iter elt:Expr}{B:List Expr}{scope:Scope}{pos E:Pos}{own:List Nat}{wi:TI}{g:TG}{tt:TT}{te:TE}{use:Option (Value->Sem Unit)}{Qf:Value->Shared->Prop}
  (S:CompScope X scope own) (hi:PI X tg iter wi) (hg:∀ cl ex s H,PG (cxC X scope cl ex s H) tg g) (hG:cT2 own g)
  (ht:∀ cl ex s H,cL3 (cxC X scope cl ex s H) B tt) (he:∀ cl ex s H,PE (cxC X scope cl ex s H) elt te)
  {pins:List (Addr×Obj)} {s:Shared} {σ:St} {H:Hp} {F:List V->Hp->Prop} (I:Inv X pins σ H s) (hw:cL4 own wi g tt te σ H F)
  (hs:∀ x,foldedSetIterable iter X.env x=pure x)
  (fin:∀ D C ys H' s' m,Inv X pins σ (upd H' D (.lst ys)) s'->H' D=none->s'.heap.Ns C m->Stray X pins (upd H' D (.lst ys)) C->F ys H' ->
   compPost (model X.prog X.w) X.A X.xe use Qf (.ref D) C (.ok .next) s') :
  wpAny (model X.prog X.w) X.A (comprehension (.ListComp elt [⟨tg,iter,B,0⟩] scope pos) scope X.env E (newList []) false (eval iter X.env) use) Qf X.xe s:=by
 obtain⟨cl,R,U,Y⟩:=bH4 (scope:=scope) (env:=X.env) λy P hf=>I.ok.has y.1 (S.free y P hf);refine wpAny_comprehension_free (use:=use) rfl hs R S.kind S.names (thn (hi pins s σ H _ I hw) λv s₁ h₁=>thn h₁ λitv a G=>?_);obtain⟨it,fp,tn,J,H2,e,r,T,t,f2,W,⟨m0,w0⟩,turn⟩:=G;subst e;refine a3X (cT1 ?_);dsimp only;have Z:(a.heap.push {cls:=.type "list",dict:=none,data:=.seq ([]:List Value).toArray}).objs.size=a.heap.objs.size+1:=a5h ..;have h:∀ b o,a.heap.get? b=some o->(a.heap.push {cls:=.type "list",dict:=none,data:=.seq ([]:List Value).toArray}).get? b=some o:=λb o q=>a5a _ q;have K:(a.heap.push {cls:=.type "list",dict:=none,data:=.seq ([]:List Value).toArray}).get? a.heap.objs.size=some {cls:=.type "list",dict:=none,data:=.seq ([]:List Value).toArray}:=a8b _ rfl;generalize hG3:a.heap.push {cls:=.type "list",dict:=none,data:=.seq ([]:List Value).toArray}=d at Z h K ⊢;have n:(d.push {cls:=.type "dict",data:=.dict #[]}).objs.size=d.objs.size+1:=a5h ..;have i:(pushCells (d.push {cls:=.type "dict",data:=.dict #[]}) scope.names).Ns d.objs.size (λ_=>none):=(Heap.Ns.new d (.type "dict")).keeps (pushCells_keeps _ _);have k:∀ b o,d.get? b=some o->(pushCells (d.push {cls:=.type "dict",data:=.dict #[]}) scope.names).get? b=some o:=λb o q=>pushCells_keeps _ _ b o (a5a _ q);have ok:=cellsFrom_ok scope.names (d.push {cls:=.type "dict",data:=.dict #[]}) (d.objs.size+1) [] ⟨λ_ _ hm=>(nomatch hm),List.Pairwise.nil⟩ (by rw[n];exact a7a _);rw[n]at ok;generalize pushCells (d.push {cls:=.type "dict",data:=.dict #[]}) scope.names=h₁ at i k ok ⊢;have I3:Inv X pins σ H2 {a with heap:=d}:=r.kept (t':=a.toks) h;have look:∀ x,(cellsFrom (d.objs.size+1) scope.names cl).lookup x=((cellsFrom (d.objs.size+1) scope.names []).lookup x).or (cl.lookup x):=λx=>by rw[fF,List.lookup_append]
 have L:∀ x c,(cellsFrom (d.objs.size+1) scope.names []).lookup x=some c->d.objs.size < c/\scope.names.lookup x=some .cell/\h₁.IsCell c none:=λx c q=>
  ⟨(ok.empty x c (mem_of_lookup q)).2,S.cells _ (kW _ _ x c (mem_of_lookup q)) rfl,(ok.empty x c (mem_of_lookup q)).1⟩
 have j:∀ x c,(cellsFrom (d.objs.size+1) scope.names cl).lookup x=some c->(X.env.cells.lookup x=some c/\scope.names.lookup x≠some .cell)\/(d.objs.size < c/\scope.names.lookup x=some .cell/\h₁.IsCell c none):=λx c q=>by
  rw[look]at q;cases e:(cellsFrom (d.objs.size+1) scope.names []).lookup x with
  | some M=>rw[e]at q;cases q;exact .inr (L x _ e)
  | none=>
    rw[e]at q;refine .inl ⟨U x c q,λz=>?_⟩;obtain⟨M,f⟩:=gJ scope.names (d.objs.size+1) x (mem_of_lookup z);rw[e]at f;cases f
 have l:∀ x c,X.env.cells.lookup x=some c->c < d.objs.size:=λx c q=>by
  obtain⟨v,o,ho,hd⟩:=I3.cell x c q;exact a6b ho
 have p:=bH6 (iter:=iter) (elt:=elt) (pos:=pos) (use:=use) (Qf:=Qf) (tk:=a.toks) (h₁:=h₁) S hg hG ht he I3 T j (λy P hk=>by
   rw[look];rcases hk with z | z
   ·obtain⟨c,hc⟩:=Y y P z;cases e:(cellsFrom (d.objs.size+1) scope.names []).lookup y.1 with
    | some M=>exact⟨M,rfl⟩
    | none=>exact⟨c,hc⟩
   ·obtain⟨c,hc⟩:=gJ scope.names (d.objs.size+1) y.1 (by rw[← z];exact P);exact⟨c,by rw[hc];rfl⟩) (λx y c q1 Q=>by
   rcases j x c q1 with N | N;rcases j y c Q with u | u;exact I3.ok.inj x y c N.1 u.1;exact absurd u.1 (Nat.not_lt.mpr (a1i (l x c N.1)));rcases j y c Q with u | u;exact absurd N.1 (Nat.not_lt.mpr (a1i (l y c u.1)));have m1:(cellsFrom (d.objs.size+1) scope.names []).lookup x=some c:=by
    obtain⟨M,f⟩:=gJ scope.names (d.objs.size+1) x (mem_of_lookup N.2.1);rw[look,f]at q1;cases q1;exact f
   have m2:(cellsFrom (d.objs.size+1) scope.names []).lookup y=some c:=by
    obtain⟨M,f⟩:=gJ scope.names (d.objs.size+1) y (mem_of_lookup u.2.1);rw[look,f]at Q;cases Q;exact f
   exact name_of_addr ok.apart (mem_of_lookup m1) (mem_of_lookup m2)) f2 (λb O=>by obtain⟨o,q,_⟩:=T.obj _ _ t b O;exact a6b q)
  (by show a.heap.objs.size < d.objs.size;lia) (λb O=>by
   rcases a4b.mp (r.stkSub b O)with z | z;rw[z];exact r.lt;exact Nat.lt_of_not_le λhle=>r.nofs hle z)
  (λb o q=>a6b (r.bs b o q).1) (r.stray (a7a _) (r.hok.fresh (a7a _))) K (T.keep _ _ _ t λb O o q=>h b o q) i k w0 turn fin
 exact codeAny_compStart_list p (T.self _ 0 _ _ _ (T.keep _ _ _ t λb O o q=>k b o (h b o q)) p)
def bY{X:Cx}{tg iter elt:Expr}{a:List Expr}{scope:Scope}{pos:Pos}{own:List Nat}{d:TI}{g:TG}{f:TT}{h:TE}
  (S:CompScope X scope own) (hi:PI X tg iter d) (i:∀ cl ex s H,PG (cxC X scope cl ex s H) tg g) (j:cT2 own g)
  (k:∀ cl ex s H,cL3 (cxC X scope cl ex s H) a f) (l:∀ cl ex s H,PE (cxC X scope cl ex s H) elt h)
  (n:∀ x,foldedSetIterable iter X.env x=pure x:=by intro _;rfl):PE X (.ListComp elt [⟨tg,iter,a,0⟩] scope pos) (bH5 own d g f h):=by
 intro pins s σ H Q I p;rw[eval_ListComp];refine aL5 (use:=none) S hi i j k l I p n λD C ys H' s' m r t hm str q=>?_;refine⟨m,hm,λh' c=>⟨.ref D,upd H' D (.lst ys),?_,rfl,q D t⟩⟩;exact r.turned (it:=C) (t':=s'.toks) (λb o u e=>(c.2 b u).trans e) str.un str.loc (.inr str.young) str.cell str.pin
def gX{X:Cx}{i:Nat}{x:Str}{tg iter elt:Expr}{d:List Expr}{scope:Scope}{pos c f:Pos}{own:List Nat}{u:TI}{g:TG}{w:TT}{y:TE}
  (B:X.N.Nodup) (j:X.N[i]? = some x) (A:X.env.scope.names.lookup x=some .local)
  (S:CompScope X scope own) (hi:PI X tg iter u) (E:∀ cl ex s H,PG (cxC X scope cl ex s H) tg g) (F:cT2 own g)
  (G:∀ cl ex s H,cL3 (cxC X scope cl ex s H) d w) (J:∀ cl ex s H,PE (cxC X scope cl ex s H) elt y)
  (k:swapsWith (.ListComp elt [⟨tg,iter,d,0⟩] scope pos) (some (.Name x c)) f.line X.env=pure true)
  (K:∀ x,foldedSetIterable iter X.env x=pure x:=by intro _;rfl) :
  PS X (.Assign [.Name x c] (.ListComp elt [⟨tg,iter,d,0⟩] scope pos) f) (λD σ H=>bH5 own u g w y σ H λv L=>D.nx (σ.set i (some v)) L):=by
 intro pins s σ H M I O;rw[exec_Assign_Name_used _ _ _ _ k];refine a3N (a4v (a3N ?_));show wpAny _ _ (do let _ ← comprehension (.ListComp elt [⟨tg,iter,d,0⟩] scope pos) scope X.env _ (newList []) false (eval iter X.env) (some (assign (.Name x c) X.env))) _ _ s;refine a3N (thn (aL5 (use:=some (assign (.Name x c) X.env)) (Qf:=λ_ s'=>SP X pins M .next s') S hi E F G J I O K λD C ys H' s' m P Q hm str q=>?_) λ_ s' R=>a3S (a3S R));show wpAny _ _ (assign (.Name x c) X.env (.ref D)) _ _ s';refine wpAny_assign_Name (aK2 (v:=.ref D) P B j (.inl A) (show gC (.ref D) (Value.ref D)from rfl) (λl n p=>?_) (.inr A));obtain⟨a,h,ha⟩:=p;have r:C≠a:=by
  rcases ha with z | z;rw[z];exact str.loc;exact a3e (str.cell x a z)
 refine⟨m,hm.sameBut h r,λh' t=>⟨_,_,?_,q D Q⟩⟩;exact n.turned (it:=C) (t':=l.toks) (λb o T e=>(t.2 b T).trans e) str.un str.loc (.inr str.young) str.cell str.pin
section
variable{X:Cx}
def cB7(w:X.calm=true):iW X (.builtin "all") (λxs H Q=>∃ (a:Addr) (bs:List Bool),xs=[.ref a]/\SqL X.K H a (bs.map V.bl)/\Q (.bl (bs.all id)) H):=by
 intro pins s σ H xs us Q I r h;obtain⟨a,bs,rfl,ha,q⟩:=h;obtain⟨u,rfl,y⟩:=zX r;cases y;obtain⟨d,j,p,F⟩:=I.list ha;have k:a < s.heap.objs.size:=by obtain⟨_,e,_⟩:=p.isList;exact a6b e
 have B:X.A.in1.handled=none:=I.ok.hd w;refine call_all_walk (wpAny_pyIter_list p.isList ?_);refine⟨s.heap.objs.size,[s.heap.objs.size,a],[s.heap.objs.size],d.toArray.size,_,_,λi=>(bs[i]?).getD true,rfl,Walks.list (A:=X.A.in1) B _ a (a1d k) d.toArray,
  ⟨⟨_,a8b _ rfl,rfl,rfl⟩,p.isList.push _⟩,λi v s' G J C m=>?_,λh' tk D=>?_⟩
 ·have hi:d[i]? = some v:=by simpa using C
  have c:=j.length;have n:i < d.length:=(a2a.mp hi).1;have g:i < bs.length:=by rw[a1a]at c;lia
  obtain⟨u,t,E⟩:=j.get (i:=i) (x:=V.bl bs[i]) (by rw[a3c,a0a g];rfl);rw[hi]at t;cases t;have e:v=Value.bool bs[i]:=E;subst e;simp only[List.getElem?_eq_getElem g,Option.getD_some]at m;exact a4i m
 ·have e:((List.range d.toArray.size).all λi=>(bs[i]?).getD true)=bs.all id:=by
   have c:=j.length;rw[a1a]at c;rw[a2b,← c];rw[a0e,a6g,a6g];constructor;intro l b g;obtain⟨i,hi,rfl⟩:=a9d g;have:=l i (a8c.mpr hi);simp only[List.getElem?_eq_getElem hi,Option.getD_some]at this;exact this;intro l i hi;have f:=a8c.mp hi;simp only[List.getElem?_eq_getElem f,Option.getD_some];exact l _ (a5b f)
  rw[e];exact⟨.bl _,H,I.kept (t':=tk) λb o q=>D b o (λhm=>by
   have z:b=s.heap.objs.size:=by simpa using hm
   rw[z]at q;exact a0f _ (a6b q)) (a5a _ q),rfl,q⟩
noncomputable def Its(x:Str):It:=⟨λi _=>∃ c,x.cps[i]? = some c,λi H v H'=>H'=H/\∃ c,x.cps[i]? = some c/\v=.str ⟨#[c]⟩,λi _=>x.cps[i]? = none⟩
def bA1{P:Program}{w:World}{K:W.Frag}{tg:Expr}(x:Str)(t:Tok)(it:Addr)(ty:String)(g:ty="str_ascii_iterator"\/ty="str_iterator"):Turn P w K tg (Its x) [it] it (λi h=>h.IsStrIter it ty x t i) where
 mem:=by simp
 obj:=λi h st b a=>by
  have e:b=it:=by simpa using a
  subst e;obtain⟨o,e,c,d⟩:=st;exact⟨o,e,λv z=>by rw[d]at z;cases z⟩
 keep:=λi h h' st k=>by
  obtain⟨o,e,c,d⟩:=st;exact⟨o,k it (by simp) o e,c,d⟩
 item:=by
  intro X u y A B i pins s σ H E I l st C;subst u y A;obtain⟨c,j⟩:=C;obtain⟨m,n,L,p,q,r⟩:=l it (by simp);rcases g with rfl | rfl;refine wpAny_pyNext_ascii_item st j λh' f D=>?_;have F:Inv X pins σ H {s with heap:=h',toks:=s.toks+1}:=I.turned (t':=s.toks+1) (λb o a e=>(D.2 b a).trans e) m n p q r;obtain⟨o,e,G,d⟩:=id f;exact⟨_,rfl,bM0 (s:={s with heap:=h',toks:=s.toks+1}) e G d (by decide) ⟨.str ⟨#[c]⟩,H,F,⟨_,rfl⟩,⟨rfl,c,j,rfl⟩,f,λb a=>(l b a).1⟩⟩;refine wpAny_pyNext_wide_item st j λh' f D=>?_;have F:Inv X pins σ H {s with heap:=h',toks:=s.toks+1}:=I.turned (t':=s.toks+1) (λb o a e=>(D.2 b a).trans e) m n p q r;obtain⟨o,e,G,d⟩:=id f;exact⟨_,rfl,bM0 (s:={s with heap:=h',toks:=s.toks+1}) e G d (by decide) ⟨.str ⟨#[c]⟩,H,F,⟨_,rfl⟩,⟨rfl,c,j,rfl⟩,f,λb a=>(l b a).1⟩⟩
 done:=by
  intro X u y A B i pins s σ H E I l st C;subst u y A;have j:x.cps[i]? = none:=C;obtain⟨m,n,L,p,q,r⟩:=l it (by simp);rcases g with rfl | rfl;exact wpAny_pyNext_ascii_end (I.ok.hd B) st j λh' J=>⟨rfl,I.turned (t':=s.toks) (λb o a e=>J b o a e) m n p q r⟩;exact wpAny_pyNext_wide_end (I.ok.hd B) st j λh' J=>⟨rfl,I.turned (t':=s.toks) (λb o a e=>J b o a e) m n p q r⟩
 self:=λ_ _ _ _ _ st h=>by
  rcases g with rfl | rfl;exact wpAny_pyIter_striter_ascii st h;exact wpAny_pyIter_striter_wide st h
def eE8:V->Option Int->Option Int->Hp->VK->Prop:=λx lo hi H Q=>∃ z,x=.str z/\z.length<=sizeLine/\Q (.str (Txt.slice z lo hi)) H
def dJ4:SlR X eE8:=by
 intro pins s σ H x v n o lo hi sl Q I f b g e h;obtain⟨z,rfl,m,q⟩:=h;obtain⟨t,rfl⟩:=f;refine⟨"str",_,F.slot_str_getitem.lookup,typeIs_str _ _ _,?_⟩;have fin:∀ c k,EP X pins σ Q (.str (Txt.slice z lo hi) c) {s with toks:=k}:=λc k=>⟨.str _,H,I.tok k,⟨c,rfl⟩,q⟩;have a:(Txt.slice z lo hi).length<=sizeLine:=a6c (Txt.slice_le z lo hi) m;cases g with
 | none=>
   cases e with
   | none=>exact a4l (l:=none) (u:=none) (st:=none) b rfl (post_val_or_str ⟨a,fin⟩)
   | int j d=>exact a4l (l:=none) (u:=some (j,d)) (st:=none) b rfl (post_val_or_str ⟨a,fin⟩)
 | int i t1=>
   cases e with
   | none=>exact a4l (l:=some (i,t1)) (u:=none) (st:=none) b rfl (post_val_or_str ⟨a,fin⟩)
   | int j d=>exact a4l (l:=some (i,t1)) (u:=some (j,d)) (st:=none) b rfl (post_val_or_str ⟨a,fin⟩)
def bH7{ys:List Str}:∀ {us:List Value},dD (ys.map V.str) us->StrsAre us ys:=by
 induction ys with
 | nil=>intro us r;cases r;exact .nil
 | cons y r a=>
   intro us h;cases h with
   | cons b c=>
     obtain⟨t,rfl⟩:=b;exact .cons y t (a c)
def cB8(K:W.Frag):V->List V->Hp->VK->Prop:=λx vs H Q=>∃ b a ys,x=.str b/\vs=[.ref a]/\SqL K H a (ys.map V.str)/\(ys.map (·.length)).sum+ys.length*b.length<=16777216/\Q (.str (Txt.join b ys)) H
def cT3:MtR X "str.join" (cB8 X.K):=by
 intro pins s σ H x vs v us Q I b c h;obtain⟨d,a,ys,rfl,rfl,ha,e,q⟩:=h;obtain⟨t,rfl⟩:=b;obtain⟨u,rfl,f⟩:=c.one;cases f;obtain⟨g,r,p,_⟩:=I.list ha;exact join_list p.isList (by simpa using bH7 r) e λi k=>⟨.str _,H,I.tok k,⟨i,rfl⟩,q⟩
def aT6:iW X (.builtin "isinstance") (λxs H Q=>∃ x c t b,xs=[x,.ty c]/\TyOf X.K H x t/\W.kitOne X.K t (.type c)=some b/\Q (.bl b) H):=by
 intro pins s σ H xs us Q I r h;obtain⟨x,c,t,b,rfl,ty,e,q⟩:=h;obtain⟨u,d,rfl,f,a⟩:=cS2 r;cases (show d=Value.type c from a);exact bN0 I f ty e λtk=>⟨.bl b,H,I.tok tk,rfl,q⟩
end
structure Tag(Q:VK):Type where mk ::
def Ask(sp:Sp)(vs:List V)(H:Hp)(E:XK)(Q:VK)(_:Tag Q):Prop:=sp vs H Q E
section
variable{σ:St}{H:Hp}{Q:VK}{v x y:V}{n:Nat}{i j:Int}{a b:Bool}{D:Ends}
theorem bO1{r:St}:bK8 0 (some v::r) H Q=Q v H:=propext ⟨λZ1=>by obtain⟨_,e,q⟩:=Z1;cases e;exact q,λq=>⟨_,rfl,q⟩⟩
theorem bO2{o:Option V}{r:St}:bK8 (n+1) (o::r) H Q=bK8 n r H Q:=rfl
theorem eC2:tC v σ H Q=Q v H:=rfl
theorem dJ5{r:R2}{a b:TE}:tOp r a b σ H Q=a σ H λx c=>b σ c λy d=>r x y d Q:=rfl
theorem dJ6{r:V->Hp->VK->Prop}{a:TE}:tUn r a σ H Q=a σ H λx b=>r x b Q:=rfl
theorem cL5{g:Int->Int->V}:rI0 g (.int i) (.int j) H Q=Q (g i j) H:=propext ⟨λZ1=>by obtain⟨_,_,e,a,q⟩:=Z1;cases e;cases a;exact q,λq=>⟨_,_,rfl,rfl,q⟩⟩
theorem cT4{C:Int->Int->Prop}{g:Int->Int->V}(h:C i j):rI C g (.int i) (.int j) H Q=Q (g i j) H:=propext ⟨λZ1=>by obtain⟨_,_,e,a,_,q⟩:=Z1;cases e;cases a;exact q,λq=>⟨_,_,rfl,rfl,h,q⟩⟩
theorem dJ7{R:Bool->Prop}:(∃ k,V.bl a=V.bl k/\R k)=R a:=propext ⟨λZ1=>by obtain⟨_,e,q⟩:=Z1;cases e;exact q,λq=>⟨_,rfl,q⟩⟩
theorem bO3{t:TE}{R:Bool->Hp->Prop}:dH9 t σ H R=t σ H λx H'=>∃ k,x=.bl k/\R k H':=rfl
theorem dJ8{t:TE}{R:Bool->Hp->Prop}:tB t σ H R=t σ H λx H'=>∃ k,x=.bl k/\R k H':=rfl
theorem cL6{t u:TT}{R:Bool->Hp->Prop}:eB3 t u σ H R=t σ H λc H1=>if c=true then u σ H1 R else R false H1:=rfl
theorem dJ9{t u:TT}{R:Bool->Hp->Prop}:tOr t u σ H R=t σ H λc a=>if c=true then R true a else u σ a R:=rfl
theorem cL7{t:TT}{R:Bool->Hp->Prop}:eB4 t σ H R=t σ H λc H1=>R (!c) H1:=rfl
theorem bO4{t u:TE}:dG7 t u σ H Q=t σ H λx H1=>∃ c,x=.bl c/\if c=true then u σ H1 Q else Q (.bl false) H1:=rfl
theorem cL8{t u:TE}:eB5 t u σ H Q=t σ H λx a=>∃ c,x=.bl c/\if c=true then Q (.bl true) a else u σ a Q:=rfl
theorem bO5{t:TE}:dW3 t σ H Q=t σ H λx H1=>∃ c,x=.bl c/\Q (.bl (!c)) H1:=rfl
theorem bA2{r a:R2}{b c d:TE}:dI0 r a b c d σ H Q=b σ H λx f=>c σ f λy g=>r x y g λz e=>∃ k,z=.bl k/\if k=true then d σ e (λu h=>a y u h Q)else Q (.bl false) e:=rfl
theorem cL9{t:TT}{a b:TE}:tIf t a b σ H Q=t σ H λc d=>if c=true then a σ d Q else b σ d Q:=rfl
theorem cM0{t u:TS}:dU6 t u D σ H=t {D with nx:=u D} σ H:=rfl
theorem bO6:dH0 D σ H=D.nx σ H:=rfl
theorem bO7{a:TE}:dH1 a D σ H=a σ H λ_ H1=>D.nx σ H1:=rfl
theorem cM1{a:TE}:eB6 a D σ H=a σ H D.rt:=rfl
theorem bO8:dW5 D σ H=D.rt .non H:=rfl
theorem cM2{c:TT}{t u:TS}:eB7 c t u D σ H=c σ H λb H1=>if b=true then t D σ H1 else u D σ H1:=rfl
theorem cM3{a:TE}{g:TG}:cR6 a g D σ H=a σ H λx b=>g x σ b D.nx:=rfl
theorem bA3{R:St->Hp->Prop}:aE8 n v σ H R=R (σ.set n (some v)) H:=rfl
theorem bO9{to a:TE}{t:dU7}{R:St->Hp->Prop}:dD3 to a t v σ H R=to σ H λo b=>a σ b λi c=>t o i v c λd=>R σ d:=rfl
theorem cM4{R:List V->Hp->Prop}:dX2 σ H R=R [] H:=rfl
theorem bP0{a:TE}{tr:TA}{R:List V->Hp->Prop}:cB2 a tr σ H R=a σ H λx b=>tr σ b λxs c=>R (x::xs) c:=rfl
theorem bP1{sp:Sp}{E:XK}{t:TA}:bG8 sp [] E t σ H Q=t σ H λvs a=>Ask sp vs a E Q ⟨⟩:=by
 unfold bG8 Ask;simp only[List.append_nil]
theorem dK0{r:List V->Hp->VK->Prop}{t:TA}:tCB r t σ H Q=t σ H λvs a=>r vs a Q:=rfl
theorem dK1{r:V->Option Int->Option Int->Hp->VK->Prop}{a:TE}{b c:TO}:tSl r a b c σ H Q=a σ H λx d=>b σ d λl e=>c σ e λu f=>r x l u f Q:=rfl
theorem aL6{R:Option Int->Hp->Prop}:bN4 σ H R=R none H:=rfl
theorem bP2{t:TE}{R:Option Int->Hp->Prop}:dI4 t σ H R=t σ H λx H1=>∃ i,x=.int i/\R (some i) H1:=rfl
theorem bP3{R:Bool->Hp->Prop}:dJ3 σ H R=R true H:=rfl
end
noncomputable def hR(H:Hp)(p:Addr):Option (Bool×List V):=match H p with
 | some (.lst xs)=>some (true,xs)
 | some (.tup xs)=>some (false,xs)
 | some (.frz _ (.lst xs))=>some (true,xs)
 | _=>none
def sS{H:Hp}{p:Addr}{xs:List V}(h:H p=some (.lst xs)):hR H p=some (true,xs):=by unfold hR;rw[h]
def eM{H:Hp}{p:Addr}{xs:List V}(h:H p=some (.tup xs)):hR H p=some (false,xs):=by unfold hR;rw[h]
def bA4{H:Hp}{p:Addr}{o:Obj}{xs:List V}(h:H p=some (.frz o (.lst xs))):hR H p=some (true,xs):=by unfold hR;rw[h]
def fN{K:W.Frag}{H:Hp}{p:Addr}{xs:List V}(h:hR H p=some (true,xs)):SqL K H p xs:=by
 unfold hR at h;split at h;rename_i e;cases h;exact .inl (.inl e);cases h;rename_i o ys e;cases h;exact .inl (.inr ⟨o,e⟩);cases h
def fJ{K:W.Frag}{H:Hp}{p:Addr}{xs:List V}(h:hR H p=some (false,xs)):SqT K H p xs:=by
 unfold hR at h;split at h;cases h;rename_i e;cases h;exact .inl (.inl e);cases h;cases h
noncomputable def ixF(H:Hp)(x y:V):Option V:=match x,y with
 | .ref p,.int i=>(hR H p).bind λq=>atI q.2 i
 | .str z,.int i=>if z.length<=sizeLine then(atI z.cps.toList i).map λc=>.str ⟨#[c]⟩else none
 | _,_=>none
noncomputable def dK2(H:Hp)(x:V):Option Nat:=match x with
 | .ref p=>(hR H p).map (·.2.length)
 | .str z=>if z.length<=sizeLine then some z.length else none
 | _=>none
def eC3:R2:=λx y H Q=>∃ v,ixF H x y=some v/\Q v H
section
variable{X:Cx}
def eE9:IxR X eC3:=by
 intro a d pins s σ H x y v u Q I g j h k;obtain⟨z,e,q⟩:=h;unfold ixF at e;split at e
 ·rename_i p i;cases f:hR H p with
  | none=>rw[f]at e;cases e
  | some w=>
    obtain⟨b,xs⟩:=w;rw[f]at e;cases b with
    | true=>exact cS7 a d pins s σ H _ _ v u Q I g j ⟨p,xs,i,z,rfl,rfl,fN f,e,q⟩ k
    | false=>exact dI6 a d pins s σ H _ _ v u Q I g j ⟨p,xs,i,z,rfl,rfl,fJ f,e,q⟩ k
 ·rename_i t i;split at e
  ·rename_i m;cases l:atI t.cps.toList i with
   | none=>rw[l]at e;cases e
   | some c=>
     rw[l]at e;cases e;exact dI7 a d pins s σ H _ _ v u Q I g j ⟨t,i,c,rfl,rfl,m,l,q⟩ k
  ·cases e
 ·cases e
def cB9:List V->Hp->VK->Prop:=λxs H Q=>∃ x n,xs=[x]/\dK2 H x=some n/\Q (.int n) H
def bN:iW X (.builtin "len") cB9:=by
 intro pins s σ H xs us Q I r h;obtain⟨x,n,rfl,e,q⟩:=h;unfold dK2 at e;split at e
 ·rename_i p;cases a:hR H p with
  | none=>rw[a]at e;cases e
  | some w=>
    obtain⟨b,xs⟩:=w;rw[a]at e;cases e;cases b with
    | true=>exact rT pins s σ H _ us Q I r ⟨p,xs,rfl,.inl (fN a),q⟩
    | false=>exact rT pins s σ H _ us Q I r ⟨p,xs,rfl,.inr (fJ a),q⟩
 ·rename_i z;split at e;rename_i c;cases e;exact aL2 pins s σ H _ us Q I r ⟨z,rfl,c,q⟩;cases e
 ·cases e
def eC4:V->Option Int->Option Int->Hp->VK->Prop:=λx lo hi H Q=>match x with
 | .str z=>z.length<=sizeLine/\Q (.str (Txt.slice z lo hi)) H
 | .ref p=>(∃ xs,hR H p=some (true,xs)/\∀ r,H r=none->Q (.ref r) (upd H r (.lst (aT0 xs lo hi)))) \/
   ∃ xs,hR H p=some (false,xs)/\¬ (HT.sIx xs.length 0 lo=0/\HT.sIx xs.length xs.length hi=xs.length)/\∀ r,H r=none->Q (.ref r) (upd H r (.tup (aT0 xs lo hi)))
 | _=>False
def dY0:SlR X eC4:=by
 intro pins s σ H x v a b lo hi sl Q I c d e f h;unfold eC4 at h;split at h;rename_i z;exact dJ4 pins s σ H _ v a b lo hi sl Q I c d e f ⟨z,rfl,h.1,h.2⟩;rename_i p;rcases h with⟨xs,g,q⟩ | ⟨xs,g,hw,q⟩;exact cS8 pins s σ H _ v a b lo hi sl Q I c d e f ⟨p,xs,rfl,fN g,q⟩;exact dI5 pins s σ H _ v a b lo hi sl Q I c d e f ⟨p,xs,rfl,fJ g,hw,q⟩;exact h.elim
def dY1(K:W.Frag)(b:TE):TI:=λσ H R=>b σ H λx a=>match x with
 | .str z=>R (Its z) a
 | .ref p=>(∃ xs,hR a p=some (true,xs)/\R (Itl K p) a)\/∃ xs,hR a p=some (false,xs)/\R (Itt K p) a
 | _=>False
def dK3{tg l:Expr}{k:TE}(n:PE X l k):PI X tg l (dY1 X.K k):=by
 intro pins s σ H R I h;refine thn (n pins s σ H _ I h) λv s1 Z0=>?_;obtain⟨x,i,c,m,f⟩:=Z0;split at f
 ·rename_i x;obtain⟨t,rfl⟩:=m;cases ha:x.cps.all (· < 128)with
  | true=>
    refine wpAny_pyIter_ascii ha ?_;refine⟨s1.heap.objs.size,[s1.heap.objs.size],_,_,i,rfl,c.kept (t':=s1.toks) λb o e=>a5a _ e,bA1 x t _ _ (.inl rfl),⟨_,a8b _ rfl,rfl,rfl⟩,λb d=>?_,f⟩;have e:b=s1.heap.objs.size:=by simpa using d
    subst e;exact c.fpOk (a7a _) (c.hok.fresh (a7a _))
  | false=>
    refine wpAny_pyIter_wide ha ?_;refine⟨s1.heap.objs.size,[s1.heap.objs.size],_,_,i,rfl,c.kept (t':=s1.toks) λb o e=>a5a _ e,bA1 x t _ _ (.inr rfl),⟨_,a8b _ rfl,rfl,rfl⟩,λb d=>?_,f⟩;have e:b=s1.heap.objs.size:=by simpa using d
    subst e;exact c.fpOk (a7a _) (c.hok.fresh (a7a _))
 ·rename_i a;cases m;rcases f with⟨xs,j,q⟩ | ⟨xs,j,q⟩
  ·obtain⟨g,r,p,u⟩:=c.list (fN j);refine wpAny_pyIter_list p.isList ?_;refine⟨s1.heap.objs.size,[s1.heap.objs.size],_,_,i,rfl,c.kept (t':=s1.toks) λb o e=>a5a _ e,bM1 a _,⟨_,a8b _ rfl,rfl,rfl⟩,λb d=>?_,q⟩;have e:b=s1.heap.objs.size:=by simpa using d
   subst e;exact c.fpOk (a7a _) (c.hok.fresh (a7a _))
  ·obtain⟨g,r,p,u⟩:=c.tuple (fJ j);refine a4o (show s1.heap.IsTuple a g.toArray from p) ?_;refine⟨s1.heap.objs.size,[s1.heap.objs.size],_,_,i,rfl,c.kept (t':=s1.toks) λb o e=>a5a _ e,bG3 a _,⟨_,a8b _ rfl,rfl,rfl⟩,λb d=>?_,q⟩;have e:b=s1.heap.objs.size:=by simpa using d
   subst e;exact c.fpOk (a7a _) (c.hok.fresh (a7a _))
 ·exact f.elim
noncomputable def cM5(N:List Str)(sc scope:Scope)(own:List Nat):Bool:=
 (match scope.kind with | .function=>true | _=>false) &&
 scope.names.all (λy=>match y.2 with
  | .cell=>(match scope.names.lookup y.1 with | some .cell=>true | _=>false)
  | .local=>(match scope.names.lookup y.1 with | some .local=>true | _=>false)
  | .free=>(match sc.names.lookup y.1 with | some .cell=>true | some .free=>true | _=>false)
  | _=>true) &&
 (List.range N.length).all λi=>match N[i]? with
  | some x=>(match scope.names.lookup x with | some .local=>own.contains i | some .cell=>own.contains i | _=>true)
  | none=>true
def csc{scope:Scope}(own:List Nat)(h:cM5 X.N X.env.scope scope own=true)(g:X.calm=true:=by rfl):CompScope X scope own:=by
 unfold cM5 at h;rw[a5f,a5f]at h;obtain⟨⟨j,b⟩,d⟩:=h;rw[a6g]at b d;refine⟨?_,λy a e=>?_,λy a e=>?_,λy a e=>?_,λi x f c=>?_,g⟩;revert j;cases scope.kind<;>simp;have:=b y a;rw[e]at this;dsimp only at this;split at this;assumption;cases this;have:=b y a;rw[e]at this;dsimp only at this;split at this;assumption;cases this;have:=b y a;rw[e]at this;dsimp only at this;show X.env.scope.names.lookup y.1=some .cell\/X.env.scope.names.lookup y.1=some .free;split at this;rename_i q;exact .inl q;rename_i q;exact .inr q;cases this;have hi:i < X.N.length:=(a2a.mp f).1;have:=d i (a8c.mpr hi);rw[f]at this;dsimp only at this;rcases c with c | c<;>rw[c]at this<;>simpa using this
end
structure ItIs(J:It)(xs:List V)(P:Hp->Prop):Prop where
 go:∀ H i x,P H->xs[i]? = some x->J.go i H
 yld:∀ H i x y H',P H->xs[i]? = some x->J.yld i H y H'->H'=H/\y=x
 stop:∀ H i,P H->xs[i]? = none->J.stop i H
def aL7{K:W.Frag}{a:Addr}{xs:List V}:ItIs (Itl K a) xs (λH=>SqL K H a xs) where
 go:=λH i x h e=>⟨xs,x,h,e⟩
 yld:=λH i x y H' h e ⟨b,c⟩=>⟨b,by have:=c xs h;rw[e]at this;exact(a0b this).symm⟩
 stop:=λH i h e=>⟨xs,h,a4d.mp e⟩
def cC0{K:W.Frag}{a:Addr}{xs:List V}:ItIs (Itt K a) xs (λH=>SqT K H a xs) where
 go:=λH i x h e=>⟨xs,x,h,e⟩
 yld:=λH i x y H' h e ⟨b,c⟩=>⟨b,by have:=c xs h;rw[e]at this;exact(a0b this).symm⟩
 stop:=λH i h e=>⟨xs,h,a4d.mp e⟩
noncomputable def cT5(lo:Int)(n:Nat):List V:=(List.range n).map λ(i:Nat)=>V.int (lo+(i:Int))
def pP{lo:Int}{n i:Nat}{x:V}(h:(cT5 lo n)[i]? = some x):i < n/\x=.int (lo+i):=by
 unfold cT5 at h;rw[a3c]at h;cases e:(List.range n)[i]? with
 | none=>rw[e]at h;cases h
 | some k=>
   rw[e]at h;obtain⟨hi,a⟩:=a2a.mp e;rw[a4f]at hi;rw[List.getElem_range]at a;subst a;exact⟨hi,(a0b h).symm⟩
def fZ(lo:Int)(n:Nat):(cT5 lo n).length=n:=by simp[cT5]
def pQ{lo:Int}{n:Nat}{P:Hp->Prop}:ItIs (Itr lo n) (cT5 lo n) P where
 go:=λH i x _ e=>(pP e).1
 yld:=λH i x y H' _ e ⟨a,b⟩=>⟨a,by rw[(pP e).2];exact b⟩
 stop:=λH i _ e=>by
  have:=a4d.mp e;rw[fZ]at this;exact this
noncomputable def hX(x:Str):List V:=x.cps.toList.map λc=>.str ⟨#[c]⟩
def iR(x:Str):(hX x).length=x.length:=by simp[hX,Str.length]
def cC1{x:Str}{P:Hp->Prop}:ItIs (Its x) (hX x) P where
 go:=λH i v _ e=>by
  unfold hX at e;rw[a3c]at e;cases q:x.cps.toList[i]? with
  | none=>rw[q]at e;cases e
  | some c=>exact⟨c,by simpa using q⟩
 yld:=λH i v y H' _ e ⟨b,c,d,f⟩=>⟨b,by
  unfold hX at e;rw[a3c]at e;have q:x.cps.toList[i]? = some c:=by simpa using d
  rw[q]at e;cases e;exact f⟩
 stop:=λH i _ e=>by
  have a:=a4d.mp e;rw[iR]at a;show x.cps[i]? = none;rw[Array.getElem?_eq_none_iff];exact a
def aT7{J:It}{xs:List V}{P:Hp->Prop}(w:ItIs J xs P){own:List Nat}{g:TG}{l:TT}{n:TE}{σ:St}{o:Hp}{F:List V->Hp->Prop}(Pv:Nat->List V->Hp->Prop)(h0:Pv 0 [] o)
  (r:∀ i ys H,Pv i ys H->P H/\ys.length<=i) (hn:xs.length<=sizeLine)
  (step:∀ i x ys H (N:List V->Hp->Prop),xs[i]? = some x->Pv i ys H->(∀ a H',Pv (i+1) a H'->N a H')->g x (blank own σ) H λc j=>l c j λb f=>if b=true then n c f λv d=>N (ys++[v]) d else N ys f)
  (fin:∀ ys H,Pv xs.length ys H->F ys H) :
  ∃ W:Nat->Nat->List V->Hp->Prop,(∃ m,W 0 m [] o)/\∀ i m ys H,W i m ys H->ys.length<=sizeLine /\
  ((J.stop i H/\F ys H)\/(J.go i H/\∀ x H',J.yld i H x H'->g x (blank own σ) H' λc j=>l c j λb f=>
    if b=true then n c f λv d=>∃ m',m' < m/\W (i+1) m' (ys++[v]) d else ∃ m',m' < m/\W (i+1) m' ys f)):=by
 refine⟨λi m ys H=>m=xs.length-i/\i<=xs.length/\Pv i ys H,⟨xs.length,by simp,a0d _,h0⟩,?_⟩;rintro i m ys H ⟨rfl,hi,p⟩;obtain⟨k,s⟩:=r i ys H p;refine⟨by lia,?_⟩;by_cases h:i < xs.length;have e:xs[i]? = some xs[i]:=a0a h;refine .inr ⟨w.go H i _ k e,λx H' y=>?_⟩;obtain⟨rfl,rfl⟩:=w.yld H i _ x H' k e y;exact step i _ ys H' (λa d=>∃ m',m' < xs.length-i/\m'=xs.length-(i+1)/\i+1<=xs.length/\Pv (i+1) a d) e p λa d q=>⟨xs.length-(i+1),by lia,rfl,h,q⟩;have e:i=xs.length:=by lia
 subst e;exact .inl ⟨w.stop H _ k (a4d.mpr (a7a _)),fin ys H p⟩
def dK4{J:It}{xs:List V}{P:Hp->Prop}(w:ItIs J xs P){g:TG}{d:TS}{D:Ends}{σ:St}{H:Hp}(Pv:Nat->St->Hp->Prop)(h0:Pv 0 σ H)(h:∀ i σ H,Pv i σ H->P H)
  (j:∀ i x σ H,xs[i]? = some x->Pv i σ H->g x σ H λa c=>d {D with nx:=Pv (i+1),ct:=Pv (i+1),bk:=D.nx} a c) (hd:∀ σ H,Pv xs.length σ H->D.nx σ H) :
  ∃ W:Nat->Nat->St->Hp->Prop,(∃ m,W 0 m σ H)/\∀ i m σ H,W i m σ H ->
    (J.stop i H/\D.nx σ H)\/(J.go i H/\∃ N:St->Hp->Prop,(∀ σ' H',N σ' H'->∃ f,f < m/\W (i+1) f σ' H')/\∀ x H',J.yld i H x H'->g x σ H' λa c=>d {D with nx:=N,ct:=N,bk:=D.nx} a c):=by
 refine⟨λi m σ H=>m=xs.length-i/\i<=xs.length/\Pv i σ H,⟨xs.length,by simp,a0d _,h0⟩,?_⟩;rintro i m σ H ⟨rfl,hi,p⟩;have q:=h i σ H p;by_cases b:i < xs.length;have e:xs[i]? = some xs[i]:=a0a b;refine .inr ⟨w.go H i _ q e,Pv (i+1),λσ' H' k=>⟨xs.length-(i+1),by lia,rfl,b,k⟩,λx H' y=>?_⟩;obtain⟨rfl,rfl⟩:=w.yld H i _ x H' q e y;exact j i _ σ _ e p;have e:i=xs.length:=by lia
 subst e;exact .inl ⟨w.stop H _ q (a4d.mpr (a7a _)),hd σ H p⟩
section
variable{σ:St}{H:Hp}{Q:VK}{z:Str}{p q:Addr}{xs ys:List V}{i j:Int}{b:Bool}{v x y:V}
def cC2(h:z.length<=sizeLine):dK2 H (.str z)=some z.length:=by show(if z.length<=sizeLine then some z.length else none)=_;rw[a3O h]
def aF4(h:hR H p=some (b,xs)):dK2 H (.ref p)=some xs.length:=by show(hR H p).map (·.2.length)=_;rw[h];rfl
def dK5{n:Nat}(h:dK2 H x=some n):cB9 [x] H Q=Q (.int n) H:=
 propext ⟨λZ1=>by obtain⟨a,b,e,f,q⟩:=Z1;cases e;rw[h]at f;cases f;exact q,λq=>⟨_,n,rfl,h,q⟩⟩
def aB4(h:hR H p=some (b,xs)):cB9 [.ref p] H Q=Q (.int xs.length) H:=dK5 (aF4 h)
def bP4(h:hR H p=some (b,xs))(e:atI xs i=some v):ixF H (.ref p) (.int i)=some v:=by show(hR H p).bind (λq=>atI q.2 i)=_;rw[h];exact e
def cT6{c:Nat}(h:z.length<=sizeLine)(e:atI z.cps.toList i=some c):ixF H (.str z) (.int i)=some (.str ⟨#[c]⟩):=by
 show(if z.length<=sizeLine then(atI z.cps.toList i).map λc=>V.str ⟨#[c]⟩else none)=_;rw[a3O h,e];rfl
end
def cC3{X:Cx}{x:Str}{i:Int}{pos:Pos}(a:Gl X x)(h:∃ t,X.mg x=some (.int i t))(hd:(x==("__debug__":Str))=false:=by decide):PE X (.Name x pos) (tC (.int i)):=
 let ⟨_,e⟩:=h;cR5 a e ⟨_,rfl⟩ hd
section
variable{σ:St}{H:Hp}{Q:VK}{p:Addr}{xs:List V}{k:Int}{j:Nat}{v:V}
def cT7{sp:Sp}{vs:List V}{E:XK}{t:Tag Q}(h:sp vs H Q E):Ask sp vs H E Q t:=h
def bP5{α:Type}{ys:List α}{i:Int}(h0:0<=i)(a:i < ys.length):∃ c,atI ys i=some c:=by
 obtain⟨n,rfl⟩:=Int.eq_ofNat_of_zero_le h0;have hn:n < ys.length:=by lia
 exact⟨ys[n],bN5 (a0a hn)⟩
end
end L2
namespace L2
open PySem
def dK6{i j:Int}{g:Int->Int->V}{H:Hp}{Q:VK}(h:0 < j):rI (λ_ j=>0 < j) g (.int i) (.int j) H Q=Q (g i j) H:=cT4 h
theorem cM6{t:TA}{σ:St}{H:Hp}{Q:VK}:eC1 t σ H Q=t σ H λxs a=>xs.length<=sizeLine/\∀ p,a p=none->Q (.ref p) (upd a p (.lst xs)):=rfl
theorem cM7{t:TA}{σ:St}{H:Hp}{Q:VK}:eC0 t σ H Q=t σ H λxs a=>xs.length<=sizeLine/\∀ p,a p=none->Q (.ref p) (upd a p (.tup xs)):=rfl
theorem dK7{K:W.Frag}{T:String}{r:V->List V->Hp->VK->Prop}{to:TE}{t:TA}{σ:St}{H:Hp}{Q:VK}:tBM K T r to t σ H Q=to σ H λx a=>tyV K T x a/\t σ a λxs b=>r x xs b Q:=rfl
def dK8{i:Int}{b:Bool}:dD5 i (if b=true then 1 else 0):=by
 cases b<;>exact .inr ⟨by decide,by decide⟩
def bP6{α a:Type}{f:α->a}{ys:List α}{i:Int}:atI (ys.map f) i=(atI ys i).map f:=by
 unfold atI;rw[a1a];cases ixN ys.length i with
 | none=>rfl
 | some j=>simp
def bM{H:Hp}{p:Addr}{o:HO}(h:H p=none):aT4 H (upd H p o):=λb u e=>by rw[aO (bH e h)];exact e
def dY2(own:List Nat)(g:TG)(e:TT)(f:TE)(σ:St)(J:It)(h:Hp)(F:List V->Hp->Prop):Prop:=
 ∃ W:Nat->Nat->List V->Hp->Prop,(∃ m,W 0 m [] h)/\∀ i m ys H,W i m ys H->ys.length<=sizeLine /\
   ((J.stop i H/\F ys H)\/(J.go i H/\∀ x H',J.yld i H x H'->g x (blank own σ) H' λa j=>e a j λb d=>
     if b=true then f a d λv k=>∃ c,c < m/\W (i+1) c (ys++[v]) k else ∃ c,c < m/\W (i+1) c ys d))
def eF0(g:TG)(c:TS)(D:Ends)(σ:St)(J:It)(d:Hp):Prop:=∃ W:Nat->Nat->St->Hp->Prop,(∃ m,W 0 m σ d)/\∀ i m σ H,W i m σ H ->
 (J.stop i H/\D.nx σ H)\/(J.go i H/\∃ N:St->Hp->Prop,(∀ σ' H',N σ' H'->∃ b,b < m/\W (i+1) b σ' H')/\∀ x H',J.yld i H x H'->g x σ H' λa e=>c {D with nx:=N,ct:=N,bk:=D.nx} a e)
theorem bP7{own:List Nat}{a:TI}{g:TG}{b:TT}{c:TE}{σ:St}{H:Hp}{Q:VK}:bH5 own a g b c σ H Q=a σ H λJ d=>dY2 own g b c σ J d λys H'=>∀ p,H' p=none->Q (.ref p) (upd H' p (.lst ys)):=rfl
theorem cM8{a:TI}{g:TG}{b:TS}{D:Ends}{σ:St}{H:Hp}:dU9 a g b D σ H=a σ H λJ H1=>eF0 g b D σ J H1:=rfl
def cT8(K:W.Frag)(x:V)(a:Hp)(R:It->Hp->Prop):Prop:=match x with
 | .str z=>R (Its z) a
 | .ref p=>(∃ xs,hR a p=some (true,xs)/\R (Itl K p) a)\/∃ xs,hR a p=some (false,xs)/\R (Itt K p) a
 | _=>False
theorem bP8{K:W.Frag}{a:TE}{σ:St}{H:Hp}{R:It->Hp->Prop}:dY1 K a σ H R=a σ H λx b=>cT8 K x b R:=rfl
theorem bA5{K:W.Frag}{z:Str}{H:Hp}{R:It->Hp->Prop}:cT8 K (.str z) H R=R (Its z) H:=rfl
def cC4{K:W.Frag}{p:Addr}{xs:List V}{H:Hp}{R:It->Hp->Prop}(h:hR H p=some (true,xs)):cT8 K (.ref p) H R=R (Itl K p) H:=
 propext ⟨λq=>by
  rcases q with⟨_,_,q⟩ | ⟨_,e,_⟩;exact q;rw[h]at e;exact(nomatch e),λq=>.inl ⟨xs,h,q⟩⟩
theorem bP9{a:TA}{σ:St}{H:Hp}{R:It->Hp->Prop}:cR7 a σ H R=a σ H λvs H1=>∃ j:Int,vs=[.int j] /\ -(2 ^ 62)<=j/\j < 2 ^ 62/\R (Itr 0 j.toNat) H1:=rfl
theorem bQ0{a:TA}{σ:St}{H:Hp}{R:It->Hp->Prop}:cR8 a σ H R=a σ H λvs H1=>∃ i j:Int,vs=[.int i,.int j]/\(-(2 ^ 62)<=i/\i < 2 ^ 62 /\ -(2 ^ 62)<=j/\j < 2 ^ 62)/\R (Itr i (j-i).toNat) H1:=rfl
theorem aL8{σ:St}:blank [] σ=σ:=rfl
theorem aL9{i:Nat}{r:List Nat}{σ:St}:blank (i::r) σ=blank r (σ.set i none):=rfl
def bA6{i j:Int}:decide (V.int i=V.int j)=decide (i=j):=by
 by_cases h:i=j;subst h;simp;rw[a3Q h,a3Q λe=>h (V.int.inj e)]
def cT9(sep:Str)(ys:List Str):(Txt.join sep ys).length<=(ys.map (·.length)).sum+ys.length*sep.length:=by
 show(Builtin.Str.glued sep ys).length<=_;rw[StrLaws.glued_eq_join];exact StrLaws.join_length_le sep ys
end L2
namespace L2
def up{p q:Prop}(h:p=q)(a:q):p:=by rw[h];exact a
def cC5{K:PySem.W.Frag}{t:String}:PySem.W.kitOne K (.type t) (.type t)=some true:=by
 unfold PySem.W.kitOne;rw[a3O (by simp)]
open PySem PySem.Spec PyProof.Rows
section
variable{prog:Program}{w:World}{A:Around}{E:Value->Shared->Prop}
theorem tK{it:Addr}{x:Str}{t:Tok}{ty:String}(f:ty="str_ascii_iterator"\/ty="str_iterator"):∀ (n i:Nat) (s:Shared) (Q:List Value->Shared->Prop),s.heap.IsStrIter it ty x t i->i+n<=x.length ->
  (∀ h' tk us,h'.IsStrIter it ty x t (i+n)->Heap.SameBut it s.heap h'->dD (((hX x).drop i).take n) us->Q us {s with heap:=h',toks:=tk})->wpAny (model prog w) A (draw (.ref it) n) Q E s
 | 0,i,s,Q,hit,_,j=>by
   show wpAny _ _ (pure []) Q E s;exact a3S (by simpa using j s.heap s.toks [] hit (Heap.SameBut.refl ..) (by simpa using(.nil:dD [] [])))
 | n+1,i,s,Q,hit,hle,j=>by
   have g:i < x.cps.size:=by have:x.length=x.cps.size:=rfl;lia
   have k:x.cps[i]? = some x.cps[i]:=by simp[g]
   have hd:(hX x).drop i=V.str ⟨#[x.cps[i]]⟩::(hX x).drop (i+1):=by
    rw[List.drop_eq_getElem_cons (by rw[iR];exact g)];congr 1;simp[hX]
   show wpAny _ _ (pyNext (.ref it) >>= _) Q E s;have go:∀ b,b.IsStrIter it ty x t (i+1)->Heap.SameBut it s.heap b ->
     wpAny (model prog w) A (match (some (Value.str ⟨#[x.cps[i]]⟩ s.toks))with | none=>pure [] | some v=>do return v::(← holding [v] (draw (.ref it) n))) Q E {s with heap:=b,toks:=s.toks+1}:=λb a c=>by
    refine a3N (a3V (tK f n (i+1) _ _ a (by lia) λh tk us d e l=>a3S ?_));refine j h tk _ (by rw[show i+(n+1)=i+1+n by lia];exact d) (c.trans e) ?_;rw[hd,List.take_succ_cons];exact .cons ⟨_,rfl⟩ l
   rcases f with rfl | rfl;exact a3N (wpAny_pyNext_ascii_item hit k λb a c=>go b a c);exact a3N (wpAny_pyNext_wide_item hit k λb a c=>go b a c)
def aF5{s:Shared}{x:Str}{t:Tok}{targets:List (Bool×(Value->Sem Unit))}{Q:Unit->Shared->Prop}(hh:A.handled=none)
  (hn:targets.length=x.length) (hstar:targets.findIdx? (·.1)=none)
  (h:∀ h' tk us,Heap.ExtBut s.heap.objs.size s.heap h'->dD (hX x) us->wpAny (model prog w) A (assignInOrder (targets.map (·.2)) us) Q E {s with heap:=h',toks:=tk}) :
  wpAny (model prog w) A (unpack (.str x t) targets) Q E s:=by
 unfold unpack;rw[hn,hstar];refine a3N (a3V ?_);unfold unpackItems;refine a3N ?_;unfold notIterableAtAll;refine a3N (wpAny_specialOf (typeIs_str _ _ _) F.slot_str_iter.lookup ?_);refine a3S ?_;simp only[Bool.false_eq_true,if_false];have go:∀ ty,(ty="str_ascii_iterator"\/ty="str_iterator")->wpAny (model prog w) A (do
   let items ← holding [Value.ref s.heap.objs.size] (draw (.ref s.heap.objs.size) x.length)
   if items.length < x.length then
    rule "unpack.too-few";raiseError "ValueError" s!"not enough values to unpack (expected {x.length}, got {items.length})"
   if(← holding items (pyNext (.ref s.heap.objs.size))).isSome then
    rule "unpack.too-many";raiseError "ValueError" s!"too many values to unpack (expected {x.length})"
   return items:Sem (List Value)) (λus s'=>wpAny (model prog w) A (assignInOrder (targets.map (·.2)) us) Q E s') E {s with heap:=s.heap.push {cls:=.type ty,data:=.fields #[.str x t,.int 0 0]}}:=by
  intro ty hty;refine a3N (a3V (tK (it:=s.heap.objs.size) (x:=x) (t:=t) hty x.length 0 _ _ ⟨_,a8b _ rfl,rfl,rfl⟩ (by lia) λh₁ tk us hit₁ hs₁ hv=>?_));have hv':dD (hX x) us:=by
   have e:((hX x).drop 0).take x.length=hX x:=by
    rw[List.drop_zero];exact a6h (by rw[iR];exact a7a _)
   rw[e]at hv;exact hv
  have hl:us.length=x.length:=by rw[← hv'.length,iR]
  rw[a3P (by lia)];have hend:x.cps[x.length]? = none:=by simp[Str.length]
  rw[a9f]at hit₁;have fin:∀ h₂,Heap.ExtBut s.heap.objs.size h₁ h₂->wpAny (model prog w) A (do
    if(none:Option Value).isSome then
     rule "unpack.too-many";raiseError "ValueError" s!"too many values to unpack (expected {x.length})"
    return us:Sem (List Value)) (λus s'=>wpAny (model prog w) A (assignInOrder (targets.map (·.2)) us) Q E s') E {s with heap:=h₂,toks:=tk}:=by
   intro h₂ he₂;simp only[Option.isSome_none,Bool.false_eq_true,if_false];exact a3S (h h₂ tk us (λb o hb e=>he₂ b o hb (hs₁.extBut b o hb (a5a _ e))) hv')
  rcases hty with rfl | rfl;exact a3N (a3V (wpAny_pyNext_ascii_end hh hit₁ hend λh₂ he₂=>fin h₂ he₂));exact a3N (a3V (wpAny_pyNext_wide_end hh hit₁ hend λh₂ he₂=>fin h₂ he₂))
 cases ha:x.cps.all (· < 128)with
 | true=>exact a3N (a3V (wpAny_pyIter_ascii ha (go _ (.inl rfl))))
 | false=>exact a3N (a3V (wpAny_pyIter_wide ha (go _ (.inr rfl))))
end
section
variable{X:Cx}{pos:Pos}
def aT8(K:W.Frag)(n:Nat)(t:TGs):TG:=λv σ H Q=>match v with
 | .str z=>z.length=n/\t (hX z) σ H Q
 | .ref a=>∃ xs,hR H a=some (false,xs)/\xs.length=n/\t xs σ H Q
 | _=>False
def cU0{es:List Expr}{k:Nat}{t:TGs}{n:Nat}(g:X.calm=true)(h:PGs X es t)
  (hn:(assignEach es X.env).length=n:=by rfl) (d:(assignEach es X.env).findIdx? (·.1)=none:=by rfl):PG X (.Tuple es k pos) (aT8 X.K n t):=by
 intro pins s σ H v u Q I r c;unfold aT8 at c;split at c;rename_i z;obtain⟨f,c⟩:=c;obtain⟨tk,rfl⟩:=r;rw[assign_Tuple];refine a3N (a4v (aF5 (I.ok.hd g) (hn.trans f.symm) d λh' tk us i j=>?_));have l:Inv X pins σ H {s with heap:=h',toks:=tk}:=I.kept λb o e=>i b o (a1d (a6b e)) e;exact h pins _ σ H _ _ Q l j c;rename_i a;obtain⟨xs,m,f,c⟩:=c;exact dH2 (k:=k) (pos:=pos) g h hn d pins s σ H _ u Q I r ⟨a,xs,rfl,fJ m,f,c⟩;exact c.elim
end
section
variable{X:Cx}
def cM9:List V->Hp->VK->Prop:=λxs H Q=>∃ p b ys,xs=[.ref p]/\hR H p=some (b,ys)/\∀ l,H l=none->Q (.ref l) (upd H l (.lst ys))
def jW:iW X (.type "list") cM9:=by
 intro pins s σ H xs us Q I r h;obtain⟨p,b,ys,rfl,a,q⟩:=h;cases b with
 | true=>exact rV pins s σ H _ us Q I r ⟨p,ys,rfl,.inl (fN a),q⟩
 | false=>exact rV pins s σ H _ us Q I r ⟨p,ys,rfl,.inr (fJ a),q⟩
def dK9:List V->Hp->VK->Prop:=λxs H Q=>∃ p b ys,xs=[.ref p]/\hR H p=some (b,ys)/\if b=true then ∀ l,H l=none->Q (.ref l) (upd H l (.tup ys))else Q (.ref p) H
def fO:iW X (.type "tuple") dK9:=by
 intro pins s σ H xs us Q I r h;obtain⟨p,b,ys,rfl,a,q⟩:=h;cases b with
 | true=>exact pN pins s σ H _ us Q I r ⟨p,ys,rfl,.inl ⟨fN a,by simpa using q⟩⟩
 | false=>exact pN pins s σ H _ us Q I r ⟨p,ys,rfl,.inr ⟨fJ a,by simpa using q⟩⟩
def cU1:R2:=λx y H Q=>match x,y with
 | .int i,.int j=>dD5 i j/\Q (.int (i*j)) H
 | .str z,.int i=>z.length<=1000/\0<=i/\i<=1000/\∀ y:Str,y.length<=z.length*i.toNat->y=Txt.mul z i->Q (.str y) H
 | _,_=>False
def cU2(z:Str)(i:Int)(h0:0<=i):(Txt.mul z i).length<=z.length*i.toNat:=by
 unfold Txt.mul;by_cases b:i < 1;rw[a3O b];exact a0d _;rw[a3P b];by_cases c:(i==1||z.length==0)=true
 ·rw[a3O c];have:1<=i.toNat:=by lia
  calc z.length=z.length*1:=by rw[Nat.mul_one]
   _<=z.length*i.toNat:=Nat.mul_le_mul_left _ this
 ·rw[a3P c];have a:∀ (k:Nat) (acc:Array Nat),((List.replicate k z.cps).foldl (· ++ ·) acc).size=acc.size+k*z.cps.size:=by
   intro k
   induction k with
   | zero=>intro acc;simp
   | succ k d=>
     intro acc;rw[List.replicate_succ,List.foldl_cons,d,Array.size_append,Nat.succ_mul];lia
  show((List.replicate i.toNat z.cps).foldl (· ++ ·) #[]).size<=_;rw[a];show 0+_<=_;rw[a9f,Nat.mul_comm];exact a7a _
def dL0:OpR X (binaryOp .Mult) cU1:=by
 intro pins s σ H x y v u Q I a b h;unfold cU1 at h;split at h;exact dH6 pins s σ H _ _ v u Q I a b ⟨_,_,rfl,rfl,h.1,h.2⟩
 ·rename_i z i;obtain⟨d,e,j,q⟩:=h;obtain⟨t,rfl⟩:=a;obtain⟨c,rfl⟩:=b;have f:z.length*i.toNat<=1000*1000:=Nat.mul_le_mul d (by lia);refine SB.mul ⟨?_,λha g=>?_,λha g=>?_⟩ λc k=>⟨.str _,H,I.tok k,⟨c,rfl⟩,q _ (cU2 z i e) rfl⟩;rw[a3Q (by lia),a3Q (by lia)];rfl
  ·have l:(1000:Int)<=(2 ^ 63-1) / i:=by
    rw[Int.le_ediv_iff_mul_le (by lia)];lia
   lia
  ·unfold Builtin.Str.tooLong;exact a3Q (by rw[a4x];lia)
 ·exact h.elim
end
section
variable{H:Hp}{Q:VK}{i j:Int}{p:Addr}{b:Bool}{xs:List V}
def tyL{K:W.Frag}(h:H p=some (.lst xs)):tyV K "list" (.ref p) H:=.inl ⟨rfl,_,SqL.of h⟩
end
end L2
namespace L2
theorem aB5{α:Type}:∀ (l:List α) (i:Nat) (h:i < l.length),(l[i]::l.eraseIdx i).Perm l
 | [],i,h=>absurd h (Nat.not_lt_zero _)
 | x::r,0,_=>by simpa using List.Perm.refl _
 | x::r,i+1,h=>by
   have a:=aB5 r i (by simpa using h);simp only[List.getElem_cons_succ,List.eraseIdx_cons_succ];exact(List.Perm.swap x _ _).trans (a.cons x)
open PySem
def aF6(x:Str):x.length=x.cps.toList.length:=by simp[Str.length]
open PySem.Spec PyProof.Rows
inductive Dt where
 | non | int (i:Int) | str (x:Str) | tup (l:List Dt)
noncomputable instance:DecidableEq Dt:=λ_ _=>Classical.propDecidable _
mutual
inductive Rep(H:Hp):Dt->V->Prop
 | non:Rep H .non .non
 | int (i:Int):Rep H (.int i) (.int i)
 | str (x:Str):Rep H (.str x) (.str x)
 | tup {l:List Dt} {p:Addr} {xs:List V}:H p=some (.tup xs)->Reps H l xs->Rep H (.tup l) (.ref p)
inductive Reps(H:Hp):List Dt->List V->Prop
 | nil:Reps H [] []
 | cons {d:Dt} {r:List Dt} {x:V} {xs:List V}:Rep H d x->Reps H r xs->Reps H (d::r) (x::xs)
end
mutual
theorem Rep.inj{H:Hp}:∀ {d e:Dt} {x:V},Rep H d x->Rep H e x->d=e
 | _,_,_,.non,h=>by cases h;rfl
 | _,_,_,.int i,h=>by cases h;rfl
 | _,_,_,.str x,h=>by cases h;rfl
 | _,_,_,.tup h r,h'=>by
   cases h' with
   | tup a b=>
     rw[h]at a;cases a;rw[Reps.inj r b]
theorem Reps.inj{H:Hp}:∀ {l m:List Dt} {xs:List V},Reps H l xs->Reps H m xs->l=m
 | _,_,_,.nil,h=>by cases h;rfl
 | _,_,_,.cons a r,h=>by
   cases h with
   | cons a2 b=>rw[Rep.inj a a2,Reps.inj r b]
end
theorem Reps.length{H:Hp}:∀ {l:List Dt} {xs:List V},Reps H l xs->l.length=xs.length
 | _,_,.nil=>rfl
 | _,_,.cons _ r=>by simp[Reps.length r]
theorem Reps.get{H:Hp}:∀ {l:List Dt} {xs:List V} {i:Nat} {d:Dt},Reps H l xs->l[i]? = some d->∃ x,xs[i]? = some x/\Rep H d x
 | _,_,_,_,.nil,h=>by simp at h
 | _,_,0,_,.cons a r,h=>by simp at h;subst h;exact⟨_,rfl,a⟩
 | _,_,i+1,_,.cons a r,h=>by
   obtain⟨x,e,q⟩:=Reps.get (i:=i) r (by simpa using h);exact⟨x,by simpa using e,q⟩
mutual
def Dt.dep:Dt->Nat
 | .tup l=>Dt.deps l+1
 | _=>0
def Dt.deps:List Dt->Nat
 | []=>0
 | d::r=>max d.dep (Dt.deps r)
end
theorem aF7:∀ {l:List Dt} {i:Nat} {d:Dt},l[i]? = some d->d.dep<=Dt.deps l
 | [],_,_,h=>by simp at h
 | e::r,0,d,h=>by
   simp at h;subst h;unfold Dt.deps;exact Nat.le_max_left _ _
 | e::r,i+1,d,h=>by
   have:=aF7 (l:=r) (i:=i) (d:=d) (by simpa using h);unfold Dt.deps;exact a6c this (Nat.le_max_right _ _)
def kX(l m:List Dt):((List.range (min l.length m.length)).all (λj=>decide (l[j]? = m[j]?))&&l.length==m.length)=decide (l=m):=by
 rw[a0e,a5f,a6g,a3R,a4w];constructor;rintro⟨a,b⟩;apply a2h;intro j;by_cases c:j < l.length;have:=a j (a8c.mpr (by lia));exact of_decide_eq_true this;rw[a4d.mpr (by lia),a4d.mpr (by lia)];rintro rfl;exact⟨λj _=>a3T rfl,rfl⟩
section
variable{X:Cx}{pins:List (Addr×Obj)}{σ:St}{H:Hp}{s:Shared}
def cC6(I:Inv X pins σ H s):∀ (n:Nat) {A:Around} {o E:Dt} {x y:V} {u v:Value},A.units+n < cLine->o.dep<=n->Rep H o x->Rep H E y->gC x u->gC y v->SeqAt.EqAt A s u v (decide (o=E)):=by
 intro n
 induction n with
 | zero=>
   intro A o E x y u v W hd G f k a;have b:A.units < cLine:=by lia
   cases G with
   | non=>
     cases k;cases f with
     | non=>cases a;rw[a3T rfl];exact SeqAt.EqAt.same _
     | int i=>obtain⟨t,rfl⟩:=a;rw[a3Q (λz=>nomatch z)];exact SeqAt.EqAt.none_int _ _
     | str i=>obtain⟨t,rfl⟩:=a;rw[a3Q (λz=>nomatch z)];exact SeqAt.EqAt.none_str _ _
     | tup h r=>
       cases a;rw[a3Q (λz=>nomatch z)];obtain⟨c,_,g,_⟩:=I.tuple (SqT.of h);exact SeqAt.EqAt.none_tuple g b
   | int i=>
     obtain⟨t,rfl⟩:=k;cases f with
     | non=>cases a;rw[a3Q (λz=>nomatch z)];exact SeqAt.EqAt.int_none _ _
     | int j=>
       obtain⟨w,rfl⟩:=a;have e:decide (Dt.int i=Dt.int j)=(i==j):=by
        rw[a0e,a3R,a4w];exact⟨λz=>by cases z;rfl,λz=>by rw[z]⟩
       rw[e];exact SeqAt.EqAt.int_int _ _ _ _
     | str j=>obtain⟨w,rfl⟩:=a;rw[a3Q (λz=>nomatch z)];exact SeqAt.EqAt.int_str _ _ _ _
     | tup h r=>
       cases a;rw[a3Q (λz=>nomatch z)];obtain⟨c,_,g,_⟩:=I.tuple (SqT.of h);exact SeqAt.EqAt.int_tuple _ _ g b
   | str i=>
     obtain⟨t,rfl⟩:=k;cases f with
     | non=>cases a;rw[a3Q (λz=>nomatch z)];exact SeqAt.EqAt.str_none _ _
     | int j=>obtain⟨w,rfl⟩:=a;rw[a3Q (λz=>nomatch z)];exact SeqAt.EqAt.str_int _ _ _ _
     | str j=>
       obtain⟨w,rfl⟩:=a;have e:decide (Dt.str i=Dt.str j)=(i==j):=by
        rw[a0e,a3R,a4w];exact⟨λz=>by cases z;rfl,λz=>by rw[z]⟩
       rw[e];exact SeqAt.EqAt.str_str _ _ _ _
     | tup h r=>
       cases a;rw[a3Q (λz=>nomatch z)];obtain⟨c,_,g,_⟩:=I.tuple (SqT.of h);exact SeqAt.EqAt.str_tuple _ _ g b
   | tup h r=>unfold Dt.dep at hd;lia
 | succ n F=>
   intro A o E x y u v W hd G f k a;have b:A.units < cLine:=by lia
   cases G with
   | non=>exact F (by lia) (a0d _) .non f k a
   | int i=>exact F (by lia) (a0d _) (.int i) f k a
   | str i=>exact F (by lia) (a0d _) (.str i) f k a
   | @tup l p xs h r=>
     cases k;obtain⟨c,S,g,_⟩:=I.tuple (SqT.of h);cases f with
     | non=>cases a;rw[a3Q (λz=>nomatch z)];exact SeqAt.EqAt.tuple_none g b
     | int j=>obtain⟨w,rfl⟩:=a;rw[a3Q (λz=>nomatch z)];exact SeqAt.EqAt.tuple_int _ _ g b
     | str j=>obtain⟨w,rfl⟩:=a;rw[a3Q (λz=>nomatch z)];exact SeqAt.EqAt.tuple_str _ _ g b
     | @tup m q ys J f=>
       cases a;obtain⟨d,B,K,_⟩:=I.tuple (SqT.of J);by_cases C:p=q;subst C;rw[h]at J;cases J;rw[Reps.inj r f,a3T rfl];exact SeqAt.EqAt.same _
       ·have L:Dt.deps l<=n:=by unfold Dt.dep at hd;lia
        have Y:c.length=l.length:=by rw[← S.length,r.length]
        have Z:d.length=m.length:=by rw[← B.length,f.length]
        have D:=SeqAt.RcAt.tuples (A:=A) (e:=λj=>decide (l[j]? = m[j]?)) g K b λj h1 M=>by
         have N:j < c.length:=by simpa using h1
         have O:j < d.length:=by simpa using M
         have P:l[j]? = some l[j]:=a0a (by lia);have hm:m[j]? = some m[j]:=a0a (by lia);obtain⟨x',ex,rx⟩:=r.get P;obtain⟨y',ey,ry⟩:=f.get hm;obtain⟨u',T,Q⟩:=S.get ex;obtain⟨v',U,R⟩:=B.get ey;have:=F (A:=A.in1) (by show A.units+1+n < cLine;lia) (a6c (aF7 P) L) rx ry Q R;have g1:c.toArray[j]=u':=by
          rw[a0a N]at T;simpa using T
         have g2:d.toArray[j]=v':=by
          rw[a0a O]at U;simpa using U
         rw[g1,g2];have e3:decide (l[j]? = m[j]?)=decide (l[j]=m[j]):=by rw[P,hm];simp
         rw[e3];exact this
        have e4:((List.range (min c.toArray.size d.toArray.size)).all (λj=>decide (l[j]? = m[j]?))&&c.toArray.size==d.toArray.size)=decide (Dt.tup l=Dt.tup m):=by
         rw[a2b,a2b,Y,Z,kX];rw[a0e,a3R,a3R];exact⟨λz=>by rw[z],λz=>by cases z;rfl⟩
        rw[e4]at D;exact SeqAt.EqAt.of_refs C D
end
section
variable{X:Cx}{pins:List (Addr×Obj)}{σ:St}{H:Hp}{s:Shared}
def pR(I:Inv X pins σ H s){A:Around}{l m:List Dt}{xs ys:List V}{b a:List Value}(B:A.units+64 < cLine)(hd:Dt.deps l<=60)(i:Reps H l xs)(k:Reps H m ys)(v1:dD xs b)(v2:dD ys a) :
  ∀ j (n:j < b.toArray.size) (o:j < a.toArray.size),SeqAt.EqAt A.in1 s b.toArray[j] a.toArray[j] (decide (l[j]? = m[j]?)):=by
 intro j n o;have C:b.length=l.length:=by rw[← v1.length,i.length]
 have D:a.length=m.length:=by rw[← v2.length,k.length]
 have c:j < b.length:=by simpa using n
 have d:j < a.length:=by simpa using o
 have e:l[j]? = some l[j]:=a0a (by lia);have hm:m[j]? = some m[j]:=a0a (by lia);obtain⟨E,ex,r⟩:=i.get e;obtain⟨F,t,u⟩:=k.get hm;obtain⟨v,p,f⟩:=v1.get ex;obtain⟨w,q,g⟩:=v2.get t;have h:=cC6 I 60 (A:=A.in1) (by show A.units+1+60 < cLine;lia) (a6c (aF7 e) hd) r u f g;have x:b.toArray[j]=v:=by
  rw[a0a c]at p;simpa using p
 have y:a.toArray[j]=w:=by
  rw[a0a d]at q;simpa using q
 rw[x,y];have z:decide (l[j]? = m[j]?)=decide (l[j]=m[j]):=by rw[e,hm];simp
 rw[z];exact h
def dD6(neg:Bool):R2:=λx y H Q=>match x,y with
 | .ref p,.ref q=>∃ b xs ys l m,hR H p=some (b,xs)/\hR H q=some (b,ys)/\Reps H l xs/\Reps H m ys/\Dt.deps l<=60/\Q (.bl (if neg then !decide (l=m)else decide (l=m))) H
 | _,_=>cR9 x y=true/\Q (.bl (if neg then !decide (x=y)else decide (x=y))) H
def bA7{l m:List Dt}(h:l.length=m.length):(List.range l.length).all (λj=>decide (l[j]? = m[j]?))=decide (l=m):=by
 have:=kX l m;rw[h,Nat.min_self]at this;rw[h,← this];simp
def bA8(k:X.A.units+64 < cLine):OpR X (compareOp .Eq) (dD6 false):=by
 intro pins s σ H x y v u Q I n o h;unfold dD6 at h;split at h
 ·rename_i p q;obtain⟨b,xs,ys,l,m,r,t,d,e,hd,q⟩:=h;cases n;cases o;have i:Q (.bl (decide (l=m))) H:=by simpa using q
  cases b with
  | true=>
    obtain⟨c,v1,f,_⟩:=I.list (fN r);obtain⟨a,v2,g,_⟩:=I.list (fN t);have j:c.length=l.length:=by rw[← v1.length,d.length]
    have w:a.length=m.length:=by rw[← v2.length,e.length]
    by_cases B:l.length=m.length;refine SeqAt.eq_listAt f.isList g.isList (by simp only[List.size_toArray];lia) (by lia) (pR I k hd d e v1 v2) (bT I i ?_);rw[a2b,j,bA7 B];refine SeqAt.eq_list_lengthsAt f.isList g.isList (by simp only[List.size_toArray,bne_iff_ne];lia) (by lia) (bT I i ?_);exact a3Q λz=>B (by rw[z])
  | false=>
    obtain⟨c,v1,f,_⟩:=I.tuple (fJ r);obtain⟨a,v2,g,_⟩:=I.tuple (fJ t);have j:c.length=l.length:=by rw[← v1.length,d.length]
    have w:a.length=m.length:=by rw[← v2.length,e.length]
    refine SeqAt.eq_tupleAt f g (by lia) (pR I k hd d e v1 v2) (bT I i ?_);rw[a2b,a2b,j,w,kX]
 ·exact dW9 pins s σ H _ _ v u Q I n o ⟨h.1,by simpa using h.2⟩
def dL1(k:X.A.units+64 < cLine):OpR X (compareOp .NotEq) (dD6 true):=by
 intro pins s σ H x y v u Q I n o h;unfold dD6 at h;split at h
 ·rename_i p q;obtain⟨b,xs,ys,l,m,r,t,d,e,hd,q⟩:=h;cases n;cases o;have i:Q (.bl (!decide (l=m))) H:=by simpa using q
  cases b with
  | true=>
    obtain⟨c,v1,f,_⟩:=I.list (fN r);obtain⟨a,v2,g,_⟩:=I.list (fN t);have j:c.length=l.length:=by rw[← v1.length,d.length]
    have w:a.length=m.length:=by rw[← v2.length,e.length]
    by_cases B:l.length=m.length;refine SeqAt.RcNeAt.lists f.isList g.isList (by simp only[List.size_toArray];lia) (by lia) (pR I k hd d e v1 v2) _ _ _ _ (bT I i ?_);rw[a2b,j,bA7 B];refine SeqAt.RcNeAt.lists_lengths f.isList g.isList (by simp only[List.size_toArray,bne_iff_ne];lia) (by lia) _ _ _ _ (bT I i ?_);rw[a3Q λz=>B (by rw[z])];rfl
  | false=>
    obtain⟨c,v1,f,_⟩:=I.tuple (fJ r);obtain⟨a,v2,g,_⟩:=I.tuple (fJ t);have j:c.length=l.length:=by rw[← v1.length,d.length]
    have w:a.length=m.length:=by rw[← v2.length,e.length]
    refine SeqAt.RcNeAt.tuples f g (by lia) (pR I k hd d e v1 v2) _ _ _ _ (bT I i ?_);rw[a2b,a2b,j,w,kX]
 ·exact dX0 pins s σ H _ _ v u Q I n o ⟨h.1,by simpa using h.2⟩
theorem bQ1{i j:Int}{Q:VK}:dD6 false (.int i) (.int j) H Q=Q (.bl (decide (i=j))) H:=by
 show(cR9 _ _=true/\_)=_;rw[show cR9 (.int i) (.int j)=true from rfl,← bA6];simp
theorem bQ2{i j:Int}{Q:VK}:dD6 true (.int i) (.int j) H Q=Q (.bl (!decide (i=j))) H:=by
 show(cR9 _ _=true/\_)=_;rw[show cR9 (.int i) (.int j)=true from rfl,← bA6];simp
end
section
variable{X:Cx}
def cU3{prog:Program}{w:World}{A:Around}{E:Value->Shared->Prop}{s:Shared}{t b:Addr}{ws:List Value}{Q:Value->Shared->Prop}(h:IsTup s.heap t ([]:List Value).toArray)(i:IsTup s.heap b ws.toArray)
  (j:Q (.ref b) s):wpAny (model prog w) A (binaryOp .Add (.ref t) (.ref b)) Q E s:=by
 obtain⟨⟨cls,k,data,sl⟩,e,f,n,hd⟩:=id h;obtain⟨⟨g,d,data2,sl2⟩,a,c,n2,hd2⟩:=id i;simp only at f hd c hd2;subst f hd c hd2;exact concat_meets ⟨_,e,rfl⟩ ⟨_,a,rfl⟩ noFill_tuple_add seq_tuple_add F.slot_tuple_add F.entry_tuple_add (F.args_tuple_add_2 _ _)
   (tuple_addW0 t b ([]:List Value).toArray ws.toArray n n2 k d sl sl2 (by simp)) ⟨e,a,j⟩
def cC7:R2:=λx y H Q=>match x,y with
 | .int i,.int j=>Q (.int (i+j)) H
 | .str a,.str b=>a.length+b.length<=sizeLine/\Q (.str (a++b)) H
 | .ref p,.ref q=>(∃ xs ys,H p=some (.lst xs)/\H q=some (.lst ys)/\xs.length+ys.length<=sizeLine/\∀ r,H r=none->Q (.ref r) (upd H r (.lst (xs++ys)))) \/
   ∃ xs ys,hR H p=some (false,xs)/\hR H q=some (false,ys)/\xs.length+ys.length<=sizeLine/\(xs=[]->Q (.ref q) H)/\(xs≠[]->ys=[]->Q (.ref p) H)/\(xs≠[]->ys≠[]->∀ r,H r=none->Q (.ref r) (upd H r (.tup (xs++ys))))
 | _,_=>False
def bA9:OpR X (binaryOp .Add) cC7:=by
 intro pins s σ H x y v u Q I a b h;unfold cC7 at h;split at h;exact dH5 pins s σ H _ _ v u Q I a b ⟨_,_,rfl,rfl,h⟩;exact bG7 pins s σ H _ _ v u Q I a b ⟨_,_,rfl,rfl,h.1,h.2⟩;rename_i p q;rcases h with⟨xs,ys,d,f,g,q⟩ | ⟨xs,ys,d,f,g,k,l,m⟩;exact dJ1 pins s σ H _ _ v u Q I a b ⟨_,_,xs,ys,rfl,rfl,d,f,g,q⟩;by_cases c:xs=[];cases a;cases b;obtain⟨i,n,o,_⟩:=I.tuple (fJ d);obtain⟨j,t,r,_⟩:=I.tuple (fJ f);have e:i=[]:=n.nil_iff.mpr c;subst e;exact cU3 o r ⟨.ref q,H,I,rfl,k c⟩;exact cS6 pins s σ H _ _ v u Q I a b ⟨p,q,xs,ys,rfl,rfl,fJ d,fJ f,c,g,l c,m c⟩;exact h.elim
theorem bB0{i j:Int}{H:Hp}{Q:VK}:cC7 (.int i) (.int j) H Q=Q (.int (i+j)) H:=rfl
def cC8(neg:Bool):R2:=λx y H Q=>match y with
 | .non=>Q (.bl (if neg then !decide (x=.non)else decide (x=.non))) H
 | .bl b=>(match x with | .bl a=>Q (.bl (if neg then !decide (a=b)else decide (a=b))) H | _=>False)
 | _=>False
end
section
variable{X:Cx}
def cN0:OpR X (compareOp .Is) (cC8 false):=by
 intro pins s σ H x y v u Q I c d h;unfold cC8 at h;split at h;exact dH8 pins s σ H _ _ v u Q I c d ⟨rfl,by simpa using h⟩;split at h;rename_i b a;cases c;cases d;exact is_bool (bT I h (by cases a<;>cases b<;>rfl));exact h.elim;exact h.elim
def cU4:OpR X (compareOp .IsNot) (cC8 true):=by
 intro pins s σ H x y v u Q I c d h;unfold cC8 at h;split at h;exact cS0 pins s σ H _ _ v u Q I c d ⟨rfl,by simpa using h⟩;split at h;rename_i b a;cases c;cases d;exact isnot_bool (bT I h (by cases a<;>cases b<;>rfl));exact h.elim;exact h.elim
theorem bQ3{a b:Bool}{H:Hp}{Q:VK}:cC8 false (.bl a) (.bl b) H Q=Q (.bl (decide (a=b))) H:=rfl
theorem bB1{a b:Bool}{H:Hp}{Q:VK}:cC8 true (.bl a) (.bl b) H Q=Q (.bl (!decide (a=b))) H:=rfl
theorem bQ4{x:V}{H:Hp}{Q:VK}:cC8 false x .non H Q=Q (.bl (decide (x=.non))) H:=rfl
theorem bB2{x:V}{H:Hp}{Q:VK}:cC8 true x .non H Q=Q (.bl (!decide (x=.non))) H:=rfl
end
section
variable{prog:Program}{w:World}{A:Around}{E:Value->Shared->Prop}{s:Shared}
end
noncomputable abbrev eF1(acc:Array Value)(c:Nat):Obj:={cls:=.type "list",dict:=none,data:=.seq acc c,slots:=#[]}
section
variable{prog:Program}{w:World}{A:Around}{E:Value->Shared->Prop}{I S:Addr}{n:Nat}{J:Nat->Array Value->Heap->Prop}{K:Array Value->Heap->Prop}{R:Result->Shared->Prop}
end
section
variable{prog:Program}{w:World}{A:Around}{E:Value->Shared->Prop}{s:Shared}{I:Addr}{Q:Bool->Shared->Prop}
end
def aT9{X:Cx}{T U:String}{x y:Str}{p c pos a:Pos}{e:Expr}{es:List Expr}{t:TA}{r:List V->Hp->VK->Prop}
  (m:∀ pins s σ H vs us Q,Inv X pins σ H s->dD vs us->r vs H Q->wpAny (model X.prog X.w) X.A (call (.type U) us) (λu s1=>wpAny (model X.prog X.w) X.A (call (.type T) [u]) (EP X pins σ Q) X.xe s1) X.xe s)
  (n:Gl X x) (hm:X.mg x=none) (o:bootBuiltins x=some (.type T)) (d:Gl X y) (f:X.mg y=none) (g:bootBuiltins y=some (.type U)) (ha:PA X (e::es) t)
  (hn:x≠"__name__":=by decide) (i:(x==("__debug__":Str))=false:=by decide) (j:y≠"__name__":=by decide) (b:(y==("__debug__":Str))=false:=by decide)
  (q:starEach (e::es) X.env=(false,eval e X.env)::starEach es X.env:=by rfl) (k:(backTo a (starEach es X.env)).any (·.1)=false:=by rfl)
  (l:starEach [.Call (.Name y c) (e::es) [] a] X.env=(false,eval (.Call (.Name y c) (e::es) [] a) X.env)::starEach [] X.env:=by rfl) :
  PE X (.Call (.Name x p) [.Call (.Name y c) (e::es) [] a] [] pos) (tCB r t):=by
 intro pins s σ H Q I h;refine a3Z (nA I n hm o ?_ hn i);refine a2f ?_ l (by rfl);rw[l]
 (show wpAny _ _ (spliced ((false,eval (.Call (.Name y c) (e::es) [] a) X.env)::backTo pos (starEach [] X.env))) _ _ s;refine Calls.spliced_cons ?_)
 refine a3Z (nA I d f g ?_ j b);refine a2f ?_ q k;exact thn (ha a pins s σ H _ I h) λus s1 ⟨vs,v,z,B,C⟩=>thn (m pins s1 σ v vs us Q z B C) λu s2 D=>Calls.spliced_nil D
section
variable{prog:Program}{w:World}{A:Around}{E:Value->Shared->Prop}{s:Shared}
end
section
variable{X:Cx}
end
structure ZK(h0:Heap)(xs ys:Array Value)(acc:Array Value)(h:Heap):Prop where
 keep:∀ b o,h0.get? b=some o->h.get? b=some o
 got:∀ j,j < min xs.size ys.size->∃ T x y,acc[j]? = some (.ref T)/\xs[j]? = some x/\ys[j]? = some y/\IsPair h T x y/\h0.objs.size+6<=T
 nd:acc.toList.Nodup
section
variable{prog:Program}{w:World}{A:Around}{E:Value->Shared->Prop}{s:Shared}
end
section
variable{prog:Program}{w:World}{A:Around}{E:Value->Shared->Prop}{s:Shared}
end
section
variable{X:Cx}
end
def jX{own:List Nat}{K:W.Frag}{n:Nat}{t:TGs}(a:cB6 own t):cT2 own (aT8 K n t):=λx σ H Q q=>by
 unfold aT8 at q ⊢;split at q;exact⟨q.1,a _ _ _ _ q.2⟩;obtain⟨xs,b,c,d⟩:=q;exact⟨xs,b,c,a _ _ _ _ d⟩;exact q.elim
noncomputable def tL(t c:String):Bool:=t==c||(t=="bool"&&c=="int")
def cC9{K:W.Frag}{t c:String}(a:t="NoneType"\/t="int"\/t="bool"\/t="str"\/t="list"\/t="tuple")(b:c="int"\/c="bool"\/c="str"\/c="list"\/c="tuple"):W.kitOne K (.type t) (.type c)=some (tL t c):=by
 rcases a with rfl | rfl | rfl | rfl | rfl | rfl<;>rcases b with rfl | rfl | rfl | rfl | rfl<;>first | exact cC5 | rfl | (unfold W.kitOne;decide +kernel) | (unfold W.kitOne;rfl)
end L2
namespace Mr
open PySem L2 PyProof.Rows
abbrev Sps:=W.Frag->Sp
def hZ(H:Hp)(p:Addr):Prop:=∃ i j:Int,H p=some (.lst [.int i,.int j])
def SameBut(p:Addr)(H H':Hp):Prop:=∀ b o,b≠p->H b=some o->H' b=some o
theorem hZ.upd{H:Hp}{p q:Addr}{o:HO}(h:hZ H p)(a:H q=none):hZ (L2.upd H q o) p:=by
 obtain⟨i,j,e⟩:=h;exact⟨i,j,by rw[aO (bH e a)];exact e⟩
def hZ.put{H:Hp}{p q:Addr}{o:HO}(h:hZ H p)(a:q≠p):hZ (L2.upd H q o) p:=by
 obtain⟨i,j,e⟩:=h;exact⟨i,j,by rw[aO a.symm];exact e⟩
theorem SameBut.upd{H a:Hp}{p q:Addr}{o:HO}(h:SameBut p H a)(c:a q=none):SameBut p H (L2.upd a q o):=λb u d e=>by
 have:=h b u d e;rw[aO (bH this c)];exact this
def SameBut.put{H a:Hp}{p q:Addr}{o:HO}(h:SameBut p H a)(c:H q=none):SameBut p H (L2.upd a q o):=λb u d e=>by
 rw[aO (bH e c)];exact h b u d e
def SameBut.trans{p:Addr}{H a c:Hp}(h:SameBut p H a)(h':SameBut p a c):SameBut p H c:=λb u d e=>h' b u d (h b u d e)
def SameBut.refl{p:Addr}{H:Hp}:SameBut p H H:=λ_ _ _ e=>e
theorem SameBut.none{p q:Addr}{H H':Hp}(h:SameBut p H H')(b:hZ H' p)(a:H' q=Option.none):H q=Option.none:=by
 cases e:H q with
 | none=>rfl
 | some o=>
   by_cases z:q=p;subst z;obtain⟨i,j,c⟩:=b;rw[c]at a;cases a;rw[h q o z e]at a;cases a
def tM:Sps:=λ_ vs H Q _=>∃ (p:Addr) (m:Int),vs=[.ref p,.int m]/\hZ H p/\0 < m/\m < 1073741824 /\
 ∀ (d:Int) H',0<=d->d < m->hZ H' p->SameBut p H H'->Q (.int d) H'
inductive Tr where
 | leaf (z:Str) | node (l r:Tr)
end Mr
namespace L2
open PySem PyProof.Rows
theorem eC5{i j:Int}:(if j < i then j else i)=min i j:=by
 by_cases h:j < i;rw[a3O h];lia;rw[a3P h];lia
theorem dL2{i j:Int}{R:Int->Int->Prop}:(∃ a b,[V.int i,V.int j]=[V.int a,V.int b]/\R a b)=R i j:=
 propext ⟨λZ1=>by obtain⟨a,b,e,q⟩:=Z1;cases e;exact q,λq=>⟨i,j,rfl,q⟩⟩
end L2
namespace L2
open PySem
def aM0{t u:TS}{D:Ends}{σ:St}{H:Hp}(M:St->Hp->Prop)(a:∀ σ' H',M σ' H'->u D σ' H')(b:∀ C:St->Hp->Prop,(∀ σ' H',M σ' H'->C σ' H')->t {D with nx:=C} σ H):dU6 t u D σ H:=b (u D) a
end L2
namespace L2
def eC6{α:Type}{x:α}{r:List α}:atI (x::r) 0=some x:=bN5 (j:=0) (by simp)
theorem cN1{K:PySem.W.Frag}{T:String}{r:V->List V->Hp->VK->Prop}{to:TE}{σ:St}{H:Hp}{Q:VK}:dX6 K T r to σ H Q=to σ H λx a=>tyV K T x a/\r x [] a Q:=rfl
end L2
namespace Mr
open PySem L2
end Mr
namespace L2
open PySem
def bQ5{X:Cx}(K:W.Frag)(b:X.K=K){tg l:Expr}{a:TE}(c:PE X l a):PI X tg l (dY1 K a):=by rw[← b];exact dK3 c
def fG{X:Cx}{pos:Pos}(K:W.Frag)(b:X.K=K){es:List Expr}{k:Nat}{t:TGs}{n:Nat}(c:X.calm=true)(h:PGs X es t)
  (hn:(assignEach es X.env).length=n:=by rfl) (a:(assignEach es X.env).findIdx? (·.1)=none:=by rfl):PG X (.Tuple es k pos) (aT8 K n t):=by rw[← b];exact cU0 c h hn a
section
variable{X:Cx}{o e:Expr}{es:List Expr}{to:TE}{t:TA}{name:Str}{apos cpos:Pos}{T id:String}{r:V->List V->Hp->VK->Prop}
def cU5(K:W.Frag)(d:X.K=K)(e:PlainAttrs T)(slot:Slot T name id)(c:typeOf (.builtin id)=pure (.type "method_descriptor"))(hm:MtR X id r)(f:PE X o to)
  (a:attributeBase o name X.env (eval o X.env)=eval o X.env:=by rfl) (b:(apos.endLine==cpos.line)=true:=by rfl):PE X (.Call (.Attribute o name apos) [] [] cpos) (dX6 K T r to):=by rw[← d];exact dI8 e slot c hm f a b
def gS(K:W.Frag)(g:X.K=K)(h:PlainAttrs T)(slot:Slot T name id)(f:typeOf (.builtin id)=pure (.type "method_descriptor"))(hm:MtR X id r)(i:PE X o to)(ha:PA X (e::es) t)
  (b:attributeBase o name X.env (eval o X.env)=eval o X.env:=by rfl)
  (d:((backTo cpos (starEach (e::es) X.env)).all (λx=>!x.1)&&(backToKw cpos (keywordEach [] X.env)).all (λx=>x.1.isSome)&&decide ((e::es).length+([]:List Keyword).length+(if([]:List Keyword).isEmpty then 0 else 1) < 30))=true:=by rfl)
  (c:(apos.endLine==cpos.line)=true:=by rfl) (j:starEach (e::es) X.env=(false,eval e X.env)::starEach es X.env:=by rfl) (a:(backTo cpos (starEach es X.env)).any (·.1)=false:=by rfl) :
  PE X (.Call (.Attribute o name apos) (e::es) [] cpos) (tBM K T r to t):=by rw[← g];exact dX7 h slot f hm i ha b d c j a
end
theorem cN2{i j:Nat}{a:TA}{D:Ends}{σ:St}{H:Hp}:dW6 i j a D σ H=a σ H λvs H1=>∃ v w,vs=[v,w]/\D.nx ((σ.set i (some v)).set j (some w)) H1:=rfl
end L2
namespace Mr
open PySem L2
end Mr
namespace L2
open PySem
section
variable{H:Hp}{Q:VK}{p q:Addr}{xs:List V}
end
end L2
namespace L2
end L2
namespace Mr
open PySem L2
open PyProof.Rows
section
variable{p q f l sp:Addr}{t:Tr}{v:V}{es ls:List V}{zs:List Str}{H0 H H':Hp}{fs:List V}
end
end Mr
namespace L2
open PySem
section
variable{M:Model}{A:Around}{E:Value->Shared->Prop}{s:Shared}
end
open PySem.Spec PyProof.Rows
section
variable{P:Program}{w:World}{H:Hp}{h:Heap}{e:Addr}{C:Value}{d:Option Addr}{tb:Value}
end
section
variable{X:Cx}{pins:List (Addr×Obj)}{σ:St}{H:Hp}{s:Shared}
end
section
variable{P:Program}{w:World}{K:W.Frag}{mg:Str->Option Value}{base:Heap}{N:List Str}{qual:Str}{scope:Scope}{f:Addr}{cd:Value}{A:Around}{outer:List Env}{s:Shared}{H:Hp}{E:XK}
end
end L2
namespace PySem
section
variable{prog:Program}{w:World}{E:Value->Shared->Prop}{A:Around}{os:OsState}{h:Heap}{t:Nat}{g:Array GenState}{d:Drawn}{lS:List Value}{fI:Addr}{oI:Obj}{mN:Str->Option Value}
 {nm q:Str} {B newId initId:String} {C N:Addr} {bs bm bmB sub:List Value} {hdct ab:Bool} {sn:List Str} {col:Option Bool} {dd:Option Addr} {k0 k1 k2 k3 k5:Option Value}
end
end PySem
namespace L2
open PySem PySem.Spec PyProof.Rows
section
variable{P:Program}{w:World}{H:Hp}{h:Heap}{a:Addr}{o:HO}
end
section
variable{X:Cx}{pins:List (Addr×Obj)}{σ:St}{H:Hp}{s:Shared}
end
section
variable{X:Cx}{CX:CXT}{k:Nat}{f C:Addr}{fd:FuncData}{ps:List Str}{sp:Sp}{E:XK}{x:Str}{p pos:Pos}{e:Expr}{es:List Expr}{t:TA}{B newId initId:String}{bmB:List Value}
end
end L2
namespace L2
open PySem
section
variable{M:Model}{A:Around}{E:Value->Shared->Prop}{env:Env}
variable{nm q:Str}{C N:Addr}{bs bm:List Value}{hdct:Bool}{sn:List Str}{sub:List Value}{ab:Bool}{col:Option Bool}{dd:Option Addr}{k0 k1 k2 k3 k5:Option Value}{newId:String}
end
open PyProof.Rows
section
variable{prog:Program}{w:World}{A:Around}{E:Value->Shared->Prop}{h:Heap}{g:Array GenState}{d:Drawn}{t:Nat}{os:OsState}
variable{nm q:Str}{C N:Addr}{bs bm bmB:List Value}{hdct:Bool}{sn:List Str}{sub:List Value}{ab:Bool}{col:Option Bool}{dd:Option Addr}{k0 k1 k2 k3 k5:Option Value}{B newId initId:String}
end
open PySem.W PySem.Spec PySem.Builtin PySem.Builtin.ObjectAttr
section
variable{prog:Program}{w:World}{A:Around}{E:Value->Shared->Prop}{s:Shared}{K:Frag}{x C:Addr}{ox:Obj}{name:Str}{v:Value}{cd:ClassData}{bmB:List Value}{B:String}{Q:Unit->Shared->Prop}{R:Result->Shared->Prop}
end
end L2
namespace L2
open PySem PySem.W PySem.Spec PyProof.Rows
section
variable{prog:Program}{w:World}{A:Around}{E:Value->Shared->Prop}{s:Shared}{K:Frag}{x C:Addr}{ox:Obj}{od:Option Obj}{name:Str}{expr:Bool}{v:Value}{Q:Value->Shared->Prop}{B:String}
end
section
variable{M:Model}{A:Around}{E:Value->Shared->Prop}{s:Shared}
variable{K:Frag}{e C D:Addr}{oe:Obj}{Q:Bool->Shared->Prop}
end
section
variable{prog:Program}{w:World}{A:Around}{E:Value->Shared->Prop}{s:Shared}{K:Frag}{x C:Addr}{ox:Obj}{od:Option Obj}{B:String}
end
end L2
namespace L2
open PySem PySem.Spec PyProof.Rows
section
variable{X:Cx}{o e value:Expr}{to te tv:TE}{f:Str}{pos pos' apos:Pos}
end
section
variable{P:Program}{w:World}{K:W.Frag}{mg:Str->Option Value}{base:Heap}{N:List Str}{qual:Str}{scope:Scope}{f:Addr}{cd:Value}{A:Around}{outer:List Env}{s:Shared}{H:Hp}{E:XK}{x:Expr}{te:TE}{pos:Pos}
end
section
variable{X:Cx}{C:Addr}{x:Str}{p pos:Pos}{e:Expr}{es:List Expr}{t:TA}
end
section
variable{X:Cx}{R:Str}{CR:Addr}{rp apos pos:Pos}{a:Expr}{as:List Expr}{t:TA}
end
section
variable{X:Cx}{e:Expr}{te:TE}{z1:Str}{j:Nat}{p p' pos:Pos}
end
section
variable{X:Cx}{pins pins':List (Addr×Obj)}{σ:St}{H:Hp}{s:Shared}{E:Value->Shared->Prop}{e:Value}
end
section
variable{X:Cx}{CX:CXT}{k:Nat}{f:Addr}{fd:FuncData}{ps:List Str}{sp:Sp}{E:St->XK}{x:Str}{p pos:Pos}{e:Expr}{es:List Expr}{t:TA}{pins0:List (Addr×Obj)}
end
section
variable{X:Cx}{pins:List (Addr×Obj)}{σ:St}{H:Hp}{s:Shared}{T:Addr}{oT:Obj}
end
abbrev TH:=Addr->Addr->Option Addr->Addr->TS
section
variable{X:Cx}{t:Expr}{tt:TE}{n:Str}{i:Nat}{b0:Stmt}{body:List Stmt}{ts:TS}{pos:Pos}{lS:List ExceptHandler}{th:TH}
end
section
variable{κ:Type}[DecidableEq κ]
noncomputable def cA6(kvs:List (κ×V))(k:κ):Option V:=(kvs.find? λa=>decide (a.1=k)).map (·.2)
noncomputable def bQ6(kvs:List (κ×V))(k:κ)(v:V):List (κ×V):=
 if(kvs.any λa=>decide (a.1=k))=true then kvs.map (λa=>if a.1=k then(a.1,v)else a)else kvs++[(k,v)]
def aF8{p:κ×V}{r:List (κ×V)}{k:κ}(e:p.1=k):cA6 (p::r) k=some p.2:=by simp[cA6,List.find?_cons,e]
def aF9{p:κ×V}{r:List (κ×V)}{k:κ}(e:¬ p.1=k):cA6 (p::r) k=cA6 r k:=by simp[cA6,List.find?_cons,e]
def aU0(kvs:List (κ×V))(k:κ)(v:V):(bQ6 kvs k v).length<=kvs.length+1:=by
 unfold bQ6;split;rw[a1a];lia;rw[a8a,a6f,a5g];lia
def KV.val{kvs:List (κ×V)}{vs:List (κ×Value)}(r:KV kvs vs)(k:κ):cA9 (cA6 kvs k) (valueAt vs k):=by
 unfold KV at r
 induction r with
 | nil=>exact True.intro
 | @cons p q ps qs h t d=>
   obtain⟨c,f⟩:=h;by_cases e:p.1=k
   ·have a:q.1=k:=c.symm.trans e;have b:valueAt (q::qs) k=some q.2:=by simp[valueAt,List.find?_cons,a]
    rw[aF8 e,b];exact f
   ·have a:¬ q.1=k:=λz=>e (c.trans z);have b:valueAt (q::qs) k=valueAt qs k:=by simp[valueAt,List.find?_cons,a]
    rw[aF9 e,b];exact d
theorem KV.any{kvs:List (κ×V)}{vs:List (κ×Value)}(r:KV kvs vs)(k:κ):(kvs.any λa=>decide (a.1=k))=vs.any λa=>decide (a.1=k):=by
 unfold KV at r
 induction r with
 | nil=>rfl
 | cons h t b=>rw[List.any_cons,List.any_cons,b,h.1]
def KV.repl{kvs:List (κ×V)}{vs:List (κ×Value)}(r:KV kvs vs)(k:κ){y:V}{u:Value}(c:gC y u) :
  KV (kvs.map λa=>if a.1=k then(a.1,y)else a) (vs.map λa=>if a.1=k then(a.1,u)else a):=by
 unfold KV at r ⊢
 induction r with
 | nil=>exact .nil
 | @cons p q ps qs h t d=>
   rw[a4e,a4e];refine .cons ?_ d;obtain⟨b,f⟩:=h;by_cases e:p.1=k;rw[a3O e,a3O (b.symm.trans e)];exact⟨b,c⟩;rw[a3P e,a3P (λz=>e (b.trans z))];exact⟨b,f⟩
def KV.put{kvs:List (κ×V)}{vs:List (κ×Value)}(r:KV kvs vs)(k:κ){y:V}{u:Value}(a:gC y u):KV (bQ6 kvs k y) (stored vs k u):=by
 unfold bQ6 stored;rw[r.any k];by_cases e:(vs.any λb=>decide (b.1=k))=true;rw[a3O e,a3O e];exact r.repl k a;rw[a3P e,a3P e];exact Paired.snoc r ⟨rfl,a⟩
end
def cU6{P:Program}{w:World}{k:Key}{u:Value}(r:gC (kV k) u):(gG P w).is k u=true:=by
 cases k with
 | inl i=>obtain⟨t,e⟩:=(show ∃ t,u=Value.int i t from r);subst e;exact aS7 P w i t
 | inr x=>obtain⟨t,e⟩:=(show ∃ t,u=Value.str x t from r);subst e;exact aS8 P w x t
theorem aM1{P:Program}{w:World}:∀ {ks:List Key} {us:List Value},dD (ks.map kV) us->ItemsAre (gG P w) ks us
 | [],_,r=>by rw[List.map_nil]at r;cases r;exact .nil
 | k::ks,_,r=>by
   rw[a4e]at r;cases r with
   | cons h t=>exact .cons (cU6 h) (aM1 t)
abbrev KT(H:Hp):List (List Key×V)->List (List Key×Addr×Value)->Prop:=Paired λp q=>p.1=q.1/\H q.2.1=some (.tup (p.1.map kV))/\gC p.2 q.2.2
def KT.val{H:Hp}{kvs:List (List Key×V)}{xs:List (List Key×Addr×Value)}(r:KT H kvs xs)(k:List Key):cA9 (cA6 kvs k) ((atKey xs k).map (·.2)):=by
 induction r with
 | nil=>exact True.intro
 | @cons p q ps qs h t d=>
   obtain⟨c,_,f⟩:=h;by_cases e:p.1=k
   ·have a:q.1=k:=c.symm.trans e;have b:atKey (q::qs) k=some q.2:=by simp[atKey,List.find?_cons,a]
    rw[aF8 e,b];exact f
   ·have a:¬ q.1=k:=λz=>e (c.trans z);have b:atKey (q::qs) k=atKey qs k:=by simp[atKey,List.find?_cons,a]
    rw[aF9 e,b];exact d
section
variable{P:Program}{w:World}{H:Hp}{h:Heap}{a:Addr}
def dL3{u:HO}(ok:HOk P w H h)(e:Rd H a u):fE P w H h a u:=e.ok ok
def dL4{kvs:List (Key×V)}(ok:HOk P w H h)(e:Rd H a (.dK kvs)):kvs.length<=sizeLine/\(a==sysModules)=false/\∃ vs,KV kvs vs/\h.DictOf (gG P w) a vs:=
 show fE P w H h a (.dK kvs)from dL3 ok e
def cN3{ks:List Key}(ok:HOk P w H h)(e:H a=some (.tup (ks.map kV))):(tupleKind (gG P w)).is h ks a:=by
 obtain⟨_,b,r,⟨o,c,d,n,f⟩,_⟩:=(show fE P w H h a (.tup (ks.map kV))from ok a _ e);exact⟨o,b.toArray,n,c,d,f,by simpa using aM1 r⟩
def dL5{kvs:List (List Key×V)}(ok:HOk P w H h)(e:Rd H a (.dT kvs)):kvs.length<=sizeLine/\(a==sysModules)=false /\
  ∃ xs,KT H kvs xs/\h.DictOfH (tupleKind (gG P w)) a xs:=by
 obtain⟨z,y,xs,r,o,es,d,f,g,i,j,k⟩:=(show fE P w H h a (.dT kvs)from dL3 ok e);refine⟨z,y,xs,r,o,es,d,f,g,i,j,λx b=>?_,k⟩;have all:∀ {l:List (List Key×V)} {m:List (List Key×Addr×Value)},KT H l m->∀ x∈m,(tupleKind (gG P w)).is h x.1 x.2.1:=by
  intro l m q
  induction q with
  | nil=>intro x b;exact nomatch b
  | @cons p q ps qs c t n=>
    intro x b;rcases a4b.mp b with e | b;subst e;exact cN3 ok (by rw[← c.1];exact c.2.1);exact n x b
 exact all r x b
end
def dV0(H:Hp)(a:Addr)(y:V)(r:Option V):Prop:=
 (∃ kvs k,Rd H a (.dK kvs)/\y=kV k/\r=cA6 kvs k)\/∃ kvs k b,Rd H a (.dT kvs)/\y=.ref b/\H b=some (.tup (k.map kV))/\r=cA6 kvs k
section
variable{X:Cx}{pins:List (Addr×Obj)}{σ:St}{H:Hp}{s:Shared}{a:Addr}{y v:V}{u r:Value}{o:Option V}{A:Around}{E:Value->Shared->Prop}
def Inv.big(I:Inv X pins σ H s):sysModules < s.heap.objs.size:=by
 have h:mainGlobals < s.heap.objs.size:=(I.mod.glob.keeps I.bk).lt;exact a0h (by decide) h
def bQ7{Q:Value->Shared->Prop}(q:A.units+1 < cLine)(I:Inv X pins σ H s)(g:dV0 H a y (some v))(n:gC y u)(h:∀ d s',Inv X pins σ H s'->gC v d->Q d s') :
  wpAny (model X.prog X.w) A (getItem (.ref a) u) Q E s:=by
 rcases g with⟨kvs,k,e,f,l⟩ | ⟨kvs,k,b,e,f,r,l⟩;subst f;obtain⟨z,hd,vs,rel,i⟩:=dL4 I.hok e;obtain⟨d,j,c⟩:=cA9.some_of (v:=v) (o:=valueAt vs k) (by rw[l];exact rel.val k);exact wpAny_getItem_of (cU6 n) i.mapOf j (h d _ (I.tok _) c);subst f;cases (show u=Value.ref b from n);obtain⟨z,hd,xs,rel,i⟩:=dL5 I.hok e;obtain⟨d,j,c⟩:=cA9.some_of (v:=v) (o:=(atKey xs k).map (·.2)) (by rw[l];exact rel.val k);obtain⟨p,t,m⟩:=a4c.mp j;refine wpAny_getItem_heap (tupleKind_room_in1 q) (cN3 I.hok r) i t ?_;rw[m];exact h d _ (I.tok _) c
def cN4{P:Program}{w:World}{H':Hp}{h':Heap}{kvs:List (Key×V)}{vs:List (Key×Value)}(z:kvs.length<=sizeLine)(hd:(a==sysModules)=false)(rel:KV kvs vs)(b:h'.DictOf (gG P w) a vs) :
  fE P w H' h' a (.dK kvs):=⟨z,hd,vs,rel,b⟩
end
section
variable{X:Cx}{pins:List (Addr×Obj)}{σ:St}{H:Hp}{s:Shared}{a:Addr}{kvs:List (Key×V)}{k:Key}{u:Value}{A:Around}{E:Value->Shared->Prop}
end
def dV1(i:Expr):Prop:=∀ ov a,subscripted i false ov a=operate [ov,a] (getItem ov a)
def cU7{prog:Program}{w:World}{A:Around}{E:Value->Shared->Prop}{s:Shared}{env:Env}{b a:Expr}{pos:Pos}{T id:String}{Q:Value->Shared->Prop}
  (l:typeLookup (.type T) "__getitem__"=pure (some (.builtin id))) (m:dV1 a)
  (h:wpAny (model prog w) A (eval b env) (λo e=>wpAny (model prog w) A (eval a env) (λi c=>c.TypeIs o T/\wpAny (model prog w) A (getItem o i) Q E c) E e) E s) :
  wpAny (model prog w) A (eval (.Subscript b a pos) env) Q E s:=by
 refine Subscript_ (a3Y h (λo e g=>a3Y g (λi c d=>?_) λ_ _ x=>x) λ_ _ x=>x);obtain⟨k,d⟩:=d;unfold subscriptTail;refine a3N ?_;rw[getitemInPython_of_ne k.not_modules];refine a3N (wpAny_specialOf k l ?_);have fin:wpAny (model prog w) A (subscripted a false o i) (λr f=>wpAny (model prog w) A (letTemporaryGo b o r >>= λ_=>pure r) Q E f) E c:=by
  rw[m o i];exact wpAny_operating (a3Y d (λr f j=>a3N (wpAny_letTemporaryGo (a3S j))) λ_ _ x=>x)
 first
  | exact a3S (a3N fin)
  | exact a3N (a3S (a3N fin))
  | exact a3N fin
def aU1{X:Cx}{pins:List (Addr×Obj)}{σ:St}{H:Hp}{s:Shared}{a:Addr}{y:V}{o:Option V}(I:Inv X pins σ H s)(g:dV0 H a y o):s.TypeIs (.ref a) "dict":=by
 rcases g with⟨kvs,k,e,_,_⟩ | ⟨kvs,k,b,e,_,_,_⟩;obtain⟨_,_,vs,_,c⟩:=dL4 I.hok e;exact c.typeIs;obtain⟨_,_,xs,_,c⟩:=dL5 I.hok e;exact c.typeIs
def dY3(c ty:TE):TE:=λσ H Q=>c σ H λx d=>ty σ d λy b=>∃ a v,x=.ref a/\dV0 b a y (some v)/\Q v b
section
variable{X:Cx}{o i e value:Expr}{pos pos' tpos:Pos}{td ty tv:TE}
def cU8(d:X.A.units+1 < cLine)(e:PE X o td)(hi:PE X i ty)(f:dV1 i):PE X (.Subscript o i pos) (dY3 td ty):=by
 intro pins s σ H Q I h;refine cU7 F.slot_dict_getitem.lookup f (thn (e pins s σ H _ I h) λu s1 ⟨x,j,k,l,m⟩=>thn (hi pins s1 σ j _ k m) λt s2 Z0=>?_);obtain⟨y,n,c,p,a,v,ex,g,q⟩:=Z0;subst ex;obtain rfl:u=Value.ref a:=l;exact⟨aU1 c g,bQ7 d c g p λw z r b=>⟨v,n,r,b,q⟩⟩
end
section
variable{X:Cx}{pos:Pos}
end
noncomputable def pS(kvs more:List (Key×V)):List (Key×V):=more.foldl (λacc a=>bQ6 acc a.1 a.2) kvs
def KV.merge:∀ {more:List (Key×V)} {rs:List (Key×Value)} {kvs:List (Key×V)} {vs:List (Key×Value)},KV more rs->KV kvs vs->KV (pS kvs more) (merged vs rs):=by
 intro more rs kvs vs r;unfold KV at r
 induction r generalizing kvs vs with
 | nil=>intro q;exact q
 | @cons p q ps qs h t a=>
   intro b;have e:KV (bQ6 kvs p.1 p.2) (stored vs q.1 q.2):=by
    have:=b.put p.1 h.2;rw[← h.1];exact this
   exact a e
theorem kY:∀ (more kvs:List (Key×V)),(pS kvs more).length<=kvs.length+more.length
 | [],kvs=>by show kvs.length<=kvs.length+0;lia
 | p::r,kvs=>by
   have a:=kY r (bQ6 kvs p.1 p.2);have b:=aU0 kvs p.1 p.2;show(pS (bQ6 kvs p.1 p.2) r).length<=_;rw[a6f];lia
section
variable{X:Cx}{pins:List (Addr×Obj)}{σ:St}{H:Hp}{s:Shared}{a:Addr}{y d:V}{u r:Value}{o:Option V}{A:Around}{E:Value->Shared->Prop}
end
section
variable{X:Cx}{o e f:Expr}{apos cpos:Pos}{td ty tx:TE}
end
section
variable{X:Cx}{pins:List (Addr×Obj)}{σ:St}{H:Hp}{s:Shared}{a:Addr}{kvs:List (Key×V)}{A:Around}{E:Value->Shared->Prop}
end
section
variable{X:Cx}{pins:List (Addr×Obj)}{σ:St}{H:Hp}{s:Shared}{a:Addr}{y:V}{u:Value}{A:Around}{E:Value->Shared->Prop}
end
section
variable{X:Cx}
end
section
variable{K:W.Frag}{t:TA}{te to tv:TE}{f:Str}{σ:St}{H:Hp}{Q:VK}{D:Ends}{sp:Sp}{C:Addr}{E:XK}{Ex:St->XK}{tb:(St->XK)->TS}{th:TH}{i:Nat}{ts:TS}
end
end L2
namespace Mr
open PySem L2 PyProof.Rows
end Mr
namespace Mr
open PySem L2
section
variable{K:W.Frag}{H:Hp}{C t D0 D1 D2 D3:Addr}{b0 b1 b2 b3:Bool}
end
end Mr
namespace L2
open PySem PySem.Spec PyProof.Rows
theorem bQ8:∀ {xs:List V} {us:List Value},xs.length=us.length->(∀ (j:Nat) (x:V) (y:Value),xs[j]? = some x->us[j]? = some y->gC x y)->dD xs us
 | [],[],_,_=>.nil
 | [],_::_,h,_=>by simp at h
 | _::_,[],h,_=>by simp at h
 | x::xs,u::us,h,k=>.cons (k 0 x u rfl rfl) (bQ8 (by simpa using h) λj a b ha c=>k (j+1) a b (by simpa using ha) (by simpa using c))
section
variable{X:Cx}
def bB3:List V->Hp->VK->Prop:=λvs H Q=>∃ n:Int,vs=[.int n]/\0<=n/\n<=1000/\∀ r,H r=none->Q (.ref r) (upd H r (.lst ((List.range n.toNat).map λ(i:Nat)=>V.int (i:Int))))
def aG0(m:X.calm=true):∀ pins s σ H vs us Q,Inv X pins σ H s->dD vs us->bB3 vs H Q ->
  wpAny (model X.prog X.w) X.A (call (.type "range") us) (λu s1=>wpAny (model X.prog X.w) X.A (call (.type "list") [u]) (EP X pins σ Q) X.xe s1) X.xe s:=by
 intro pins s σ H vs us Q I p h;obtain⟨n,rfl,h0,F,q⟩:=h;obtain⟨u,rfl,r⟩:=p.one;obtain⟨t,rfl⟩:=r;refine call_range_1 ?_;have f:Builtin.Range.rangeSize 0 n 1=((n.toNat:Nat):Int):=by rw[rangeSize_one];split<;>lia
 refine call_list_range (s:={s with heap:=s.heap.push {cls:=.type "range",data:=.fields #[.int 0 s.toks,.int n t,.int 1 (s.toks+1)]},toks:=s.toks+1+1}) (I.ok.hd m) (IsRange.new ..) (small_one (by lia) (by lia) (by lia) (by lia)) f (by lia) λh' tk acc c v z a=>?_;have d:(s.heap.push {cls:=.type "range",data:=.fields #[.int 0 s.toks,.int n t,.int 1 (s.toks+1)]}).objs.size=s.heap.objs.size+1:=a5h ..;have B:dD ((List.range n.toNat).map λ(i:Nat)=>V.int (i:Int)) acc.toList:=by
  obtain⟨C,g⟩:=a;refine bQ8 (by rw[a1a,a4f,a1g,C]) λj x y k l=>?_;rw[a4g]at l;obtain⟨t',rfl⟩:=g j y l;rw[a3c]at k;obtain⟨i,hi,rfl⟩:=a4c.mp k;obtain⟨_,e⟩:=a2a.mp hi;rw[List.getElem_range]at e;subst e;refine⟨t',?_⟩;simp
 refine⟨.ref (s.heap.objs.size+1),upd H (s.heap.objs.size+1) _,?_,by show Value.ref _=_;rw[d],q _ (I.hok.fresh (Nat.le_succ _))⟩;refine I.laid (t':=tk) (λb o D=>v b o (a5a _ D)) (Nat.le_succ _) ⟨by rw[a1a,a4f];exact a6c (by lia:n.toNat<=1000) (by decide),acc.toList,c,B,?_⟩;have E:h'.get? (s.heap.objs.size+1)=some (eF1 acc c):=by rw[← d];exact z
 rw[E,Array.toArray_toList]
end
section
variable{t tk tv td ty tx:TE}{r:List (TE×TE)}{σ:St}{H:Hp}{Q:VK}{R:List (V×V)->Hp->Prop}
end
end L2
namespace Mr
open PySem L2 PyProof.Rows
theorem aB6{m:Nat}{sep:Str}(b:∀ c∈sep.cps.toList,c < m):∀ d:List Str,(∀ z∈d,∀ c∈z.cps.toList,c < m)->∀ c∈(Str.join sep d).cps.toList,c < m
 | [],_=>λc a=>by simp[Str.join,Str.empty]at a
 | [x],h=>λc a=>h x a3a c a
 | x::y::r,h=>λc a=>by
   have f:=aB6 b (y::r) λz g=>h z (a4a _ g);have e:(Str.join sep (x::y::r)).cps.toList=x.cps.toList++sep.cps.toList++(Str.join sep (y::r)).cps.toList:=by
    show(x++sep++Str.join sep (y::r)).cps.toList=_;rw[Str.cps_append,Str.cps_append,Array.toList_append,Array.toList_append]
   rw[e]at a;rcases a3b.mp a with a | a;rcases a3b.mp a with a | a;exact h x a3a c a;exact b c a;exact f c a
def aU2{m:Nat}{sep:Str}(b:∀ c∈sep.cps.toList,c < m)(a:List Str)(h:∀ z∈a,∀ c∈z.cps.toList,c < m):∀ c∈(Txt.join sep a).cps.toList,c < m:=by
 show ∀ c∈(Builtin.Str.glued sep a).cps.toList,c < m;rw[StrLaws.glued_eq_join];exact aB6 b a h
def cU9:∀ c∈(Str.ofString "abcdefghijklmnopqrstuvwxyz").cps.toList,c < 128:=by decide
end Mr
namespace Dv
open PySem L2
inductive D where
 | non | bl (b:Bool) | int (i:Int) | str (x:Str) | tup (l:List D) | lst (l:List D) | dic (ks vs:List D)
noncomputable instance:DecidableEq D:=λ_ _=>Classical.propDecidable _
noncomputable instance:Inhabited D:=⟨.non⟩
noncomputable def cA7:Key->D
 | .inl i=>.int i
 | .inr x=>.str x
def cV0:HO->List D->List V->Prop
 | .dK kvs,ks,ws=>ks=kvs.map (λa=>cA7 a.1)/\ws=kvs.map (·.2)
 | .dT kvs,ks,ws=>ks=kvs.map (λa=>D.tup (a.1.map cA7))/\ws=kvs.map (·.2)
 | _,_,_=>False
mutual
inductive Rp(H:Hp):D->V->Prop
 | non:Rp H .non .non
 | bl (b:Bool):Rp H (.bl b) (.bl b)
 | int (i:Int):Rp H (.int i) (.int i)
 | str (x:Str):Rp H (.str x) (.str x)
 | tup {l:List D} {p:Addr} {xs:List V}:H p=some (.tup xs)->Rps H l xs->Rp H (.tup l) (.ref p)
 | lst {l:List D} {p:Addr} {xs:List V} {o:Obj}:H p=some (.frz o (.lst xs))->Rps H l xs->Rp H (.lst l) (.ref p)
 | dic {ks vs:List D} {p:Addr} {o:Obj} {u:HO} {ws:List V}:H p=some (.frz o u)->cV0 u ks ws->Rps H vs ws->Rp H (.dic ks vs) (.ref p)
inductive Rps(H:Hp):List D->List V->Prop
 | nil:Rps H [] []
 | cons {d:D} {r:List D} {x:V} {xs:List V}:Rp H d x->Rps H r xs->Rps H (d::r) (x::xs)
end
structure Ext(H H':Hp):Prop where
 tup:∀ p xs,H p=some (.tup xs)->H' p=some (.tup xs)
 frz:∀ p o u,H p=some (.frz o u)->H' p=some (.frz o u)
def Ext.same{H H':Hp}(h:aT4 H H'):Ext H H':=⟨λp xs e=>h p _ e,λp o u e=>h p _ e⟩
mutual
theorem Rp.mono{H H':Hp}(a:Ext H H'):∀ {d:D} {x:V},Rp H d x->Rp H' d x
 | _,_,.non=>.non
 | _,_,.bl b=>.bl b
 | _,_,.int i=>.int i
 | _,_,.str x=>.str x
 | _,_,.tup h r=>.tup (a.tup _ _ h) (Rps.mono a r)
 | _,_,.lst h r=>.lst (a.frz _ _ _ h) (Rps.mono a r)
 | _,_,.dic h k r=>.dic (a.frz _ _ _ h) k (Rps.mono a r)
theorem Rps.mono{H H':Hp}(b:Ext H H'):∀ {l:List D} {xs:List V},Rps H l xs->Rps H' l xs
 | _,_,.nil=>.nil
 | _,_,.cons a r=>.cons (Rp.mono b a) (Rps.mono b r)
end
section
variable{H:Hp}
theorem Rps.length:∀ {l:List D} {xs:List V},Rps H l xs->l.length=xs.length
 | _,_,.nil=>rfl
 | _,_,.cons _ r=>by simp[Rps.length r]
theorem Rps.get:∀ {l:List D} {xs:List V} {i:Nat} {d:D},Rps H l xs->l[i]? = some d->∃ x,xs[i]? = some x/\Rp H d x
 | _,_,_,_,.nil,h=>by simp at h
 | _,_,0,_,.cons a r,h=>by simp at h;subst h;exact⟨_,rfl,a⟩
 | _,_,i+1,_,.cons a r,h=>by
   obtain⟨x,e,q⟩:=Rps.get (i:=i) r (by simpa using h);exact⟨x,by simpa using e,q⟩
theorem Rps.append:∀ {l m:List D} {xs ys:List V},Rps H l xs->Rps H m ys->Rps H (l++m) (xs++ys)
 | _,_,_,_,.nil,h=>h
 | _,_,_,_,.cons a r,h=>.cons a (Rps.append r h)
theorem Rps.take:∀ {l:List D} {xs:List V} (n:Nat),Rps H l xs->Rps H (l.take n) (xs.take n)
 | _,_,0,_=>.nil
 | _,_,_+1,.nil=>.nil
 | _,_,n+1,.cons a r=>.cons a (Rps.take n r)
theorem Rps.drop:∀ {l:List D} {xs:List V} (n:Nat),Rps H l xs->Rps H (l.drop n) (xs.drop n)
 | _,_,0,r=>r
 | _,_,_+1,.nil=>.nil
 | _,_,n+1,.cons _ r=>Rps.drop n r
theorem Rps.set:∀ {l:List D} {xs:List V} {d:D} {x:V} (i:Nat),Rps H l xs->Rp H d x->Rps H (l.set i d) (xs.set i x)
 | _,_,_,_,_,.nil,_=>.nil
 | _,_,_,_,0,.cons _ r,q=>.cons q r
 | _,_,_,_,i+1,.cons a r,q=>.cons a (Rps.set i r q)
theorem Rps.eraseIdx:∀ {l:List D} {xs:List V} (i:Nat),Rps H l xs->Rps H (l.eraseIdx i) (xs.eraseIdx i)
 | _,_,_,.nil=>.nil
 | _,_,0,.cons _ r=>r
 | _,_,i+1,.cons a r=>.cons a (Rps.eraseIdx i r)
theorem Rps.reverse:∀ {l:List D} {xs:List V},Rps H l xs->Rps H l.reverse xs.reverse
 | _,_,.nil=>.nil
 | _,_,.cons a r=>by
   rw[List.reverse_cons,List.reverse_cons];exact Rps.append (Rps.reverse r) (.cons a .nil)
theorem jJ:∀ ns:List Int,Rps H (ns.map D.int) (ns.map V.int)
 | []=>.nil
 | n::r=>.cons (.int n) (jJ r)
theorem bB4:∀ ns:List Str,Rps H (ns.map D.str) (ns.map V.str)
 | []=>.nil
 | n::r=>.cons (.str n) (bB4 r)
theorem Rps.ints_inv:∀ {ns:List Int} {xs:List V},Rps H (ns.map D.int) xs->xs=ns.map V.int
 | [],_,h=>by cases h;rfl
 | n::r,_,h=>by
   rw[a4e]at h;cases h with
   | cons a t=>cases a;rw[Rps.ints_inv t];rfl
theorem Rps.strs_inv:∀ {ns:List Str} {xs:List V},Rps H (ns.map D.str) xs->xs=ns.map V.str
 | [],_,h=>by cases h;rfl
 | n::r,_,h=>by
   rw[a4e]at h;cases h with
   | cons a t=>cases a;rw[Rps.strs_inv t];rfl
theorem Rps.bls_inv:∀ {ns:List Bool} {xs:List V},Rps H (ns.map D.bl) xs->xs=ns.map V.bl
 | [],_,h=>by cases h;rfl
 | n::r,_,h=>by
   rw[a4e]at h;cases h with
   | cons a t=>cases a;rw[Rps.bls_inv t];rfl
end
inductive Md where
 | val | own | par | lent
 deriving DecidableEq
noncomputable def Md.mt:Md->Bool
 | .own=>true
 | .par=>true
 | _=>false
structure Sl where
 m:Md
 d:D
abbrev Sg:=List (Option Sl)
def fL(H:Hp)(d:D)(p:Addr):Prop:=match d with
 | .lst l=>∃ xs,H p=some (.lst xs)/\Rps H l xs
 | .dic ks vs=>∃ u ws,H p=some u/\cV0 u ks ws/\Rps H vs ws
 | _=>False
theorem fL.mono{H H':Hp}{d:D}{p:Addr}(h:fL H d p)(e:Ext H H')(c:∀ o,H p=some o->H' p=some o):fL H' d p:=by
 unfold fL at h ⊢;split at h;obtain⟨xs,a,b⟩:=h;exact⟨xs,c _ a,b.mono e⟩;obtain⟨u,ws,a,b,f⟩:=h;exact⟨u,ws,c _ a,b,f.mono e⟩;exact h.elim
def fL.obj{H:Hp}{d:D}{p:Addr}(h:fL H d p):∃ o,H p=some o/\(∀ xs,o≠.tup xs)/\∀ ob u,o≠.frz ob u:=by
 unfold fL at h;split at h;obtain⟨xs,a,b⟩:=h;exact⟨_,a,⟨λ_ z=>(by cases z),λ_ _ z=>(by cases z)⟩⟩;obtain⟨u,ws,a,b,c⟩:=h;refine⟨_,a,λ_ z=>?_,λ_ _ z=>?_⟩<;>(subst z;exact b);exact h.elim
def cD0(H:Hp)(s:Sl)(v:V):Prop:=match s.m with
 | .val=>Rp H s.d v
 | _=>∃ p,v=.ref p/\fL H s.d p
def eN{H:Hp}{s:Sl}{v:V}(h:s.m≠.val):cD0 H s v↔∃ p,v=.ref p/\fL H s.d p:=by
 obtain⟨m,d⟩:=s;cases m with
 | val=>exact absurd rfl h
 | own=>exact Iff.rfl
 | par=>exact Iff.rfl
 | lent=>exact Iff.rfl
def Vw(H:Hp)(d:D)(v:V):Prop:=Rp H d v\/∃ p,v=.ref p/\fL H d p
def cD0.vw{H:Hp}{s:Sl}{v:V}(h:cD0 H s v):Vw H s.d v:=by
 by_cases e:s.m=.val;obtain⟨m,d⟩:=s;cases e;exact .inl h;exact .inr ((eN e).mp h)
inductive Vws(H:Hp):List D->List V->Prop
 | nil:Vws H [] []
 | cons {d:D} {r:List D} {x:V} {xs:List V}:Vw H d x->Vws H r xs->Vws H (d::r) (x::xs)
def sJ(σ:Sg)(σV:St)(a:Addr):Prop:=∃ (i:Nat) (s:Sl),σ[i]? = some (some s)/\s.m.mt=true/\σV[i]? = some (some (.ref a))
def cA8(σ:Sg)(σV:St)(a:Addr):Prop:=∃ (i:Nat) (s:Sl),σ[i]? = some (some s)/\s.m≠.val/\σV[i]? = some (some (.ref a))
def sJ.nv{σ:Sg}{σV:St}{a:Addr}(h:sJ σ σV a):cA8 σ σV a:=by
 obtain⟨i,s,c,b,d⟩:=h;exact⟨i,s,c,λz=>(by rw[z]at b;cases b),d⟩
structure Gm where
 H₀:Hp
 pr:Addr->Prop
structure StOk(Γ:Gm)(H:Hp)(σ:Sg)(σV:St):Prop where
 rel:∀ (i:Nat) s,σ[i]? = some (some s)->∃ v,σV[i]? = some (some v)/\cD0 H s v
 dis:∀ (i j:Nat) s t p,i≠j->σ[i]? = some (some s)->σ[j]? = some (some t)->s.m.mt=true->t.m≠.val->σV[i]? = some (some (.ref p))->σV[j]? = some (some (.ref p))->False
 own:∀ (i:Nat) s p,σ[i]? = some (some s)->s.m=.own->σV[i]? = some (some (.ref p))->Γ.H₀ p=none
 par:∀ (i:Nat) s p,σ[i]? = some (some s)->s.m=.par->σV[i]? = some (some (.ref p))->Γ.pr p
 keep:∀ a o,Γ.H₀ a=some o->¬ Γ.pr a->H a=some o
 dom:∀ a,H a=none->Γ.H₀ a=none
 len:σ.length=σV.length
structure Step(σ:Sg)(σV:St)(H:Hp)(σ':Sg)(σV':St)(H':Hp):Prop where
 fr:∀ a o,H a=some o->¬ sJ σ σV a->H' a=some o
 dom:∀ a,H' a=none->H a=none
 mu:∀ a,sJ σ' σV' a->sJ σ σV a\/H a=none
 nv:∀ a,cA8 σ' σV' a->cA8 σ σV a\/H a=none
 kp:∀ (i:Nat) s,σ[i]? = some (some s)->∃ s',σ'[i]? = some (some s')
 fix:∀ (i:Nat) s,σ[i]? = some (some s)->(s.m=.par\/s.m=.lent)->∃ s',σ'[i]? = some (some s')/\s'.m=s.m/\(s.m=.lent->s'.d=s.d)/\σV'[i]? = σV[i]?
 lt:∀ (i:Nat) s',σ'[i]? = some (some s')->s'.m=.lent->∃ s,σ[i]? = some (some s)/\s.m=.lent
section
variable{σ σ1 σ2:Sg}{σV σV1 σV2:St}{H H1 H2:Hp}{Γ:Gm}
def Step.refl:Step σ σV H σ σV H:=⟨λ_ _ h _=>h,λ_ h=>h,λ_ h=>.inl h,λ_ h=>.inl h,λi s h=>⟨s,h⟩,λi s h _=>⟨s,h,rfl,λ_=>rfl,rfl⟩,λi s h m=>⟨s,h,m⟩⟩
theorem Step.trans(a:Step σ σV H σ1 σV1 H1)(b:Step σ1 σV1 H1 σ2 σV2 H2):Step σ σV H σ2 σV2 H2 where
 fr:=λc o h n=>b.fr c o (a.fr c o h n) λz=>by
  rcases a.mu c z with q | q;exact n q;rw[h]at q;cases q
 dom:=λc h=>a.dom c (b.dom c h)
 mu:=λc h=>by
  rcases b.mu c h with q | q;exact a.mu c q;exact .inr (a.dom c q)
 nv:=λc h=>by
  rcases b.nv c h with q | q;exact a.nv c q;exact .inr (a.dom c q)
 kp:=λi s h=>by
  obtain⟨s1,d⟩:=a.kp i s h;exact b.kp i s1 d
 fix:=λi s h hm=>by
  obtain⟨s1,d,e,f,v1⟩:=a.fix i s h hm;obtain⟨s2,g,j,k,v2⟩:=b.fix i s1 d (by rw[e];exact hm);exact⟨s2,g,j.trans e,λz=>(k (e.trans z)).trans (f z),v2.trans v1⟩
 lt:=λi s h m=>by
  obtain⟨s1,d,e⟩:=b.lt i s h m;exact a.lt i s1 d e
def StOk.mutObj(ok:StOk Γ H σ σV){a:Addr}(h:cA8 σ σV a):∃ o,H a=some o/\(∀ xs,o≠.tup xs)/\∀ ob u,o≠.frz ob u:=by
 obtain⟨i,s,b,c,d⟩:=h;obtain⟨v,e,r⟩:=ok.rel i s b;rw[d]at e;cases e;obtain⟨p,e,q⟩:=(eN c).mp r;cases e;exact q.obj
def Step.ext(st:Step σ σV H σ1 σV1 H1)(ok:StOk Γ H σ σV):Ext H H1:=by
 refine⟨λp xs h=>st.fr p _ h λz=>?_,λp o u h=>st.fr p _ h λz=>?_⟩;obtain⟨o,e,n,_⟩:=ok.mutObj z.nv;rw[h]at e;cases e;exact n _ rfl;obtain⟨o,e,_,n⟩:=ok.mutObj z.nv;rw[h]at e;cases e;exact n _ _ rfl
theorem cD0.mono{s:Sl}{v:V}(r:cD0 H s v)(e:Ext H H1)(b:∀ p o,v=.ref p->s.m≠.val->H p=some o->H1 p=some o):cD0 H1 s v:=by
 by_cases q:s.m=.val;obtain⟨m,d⟩:=s;cases q;exact Rp.mono e r;obtain⟨p,a,c⟩:=(eN q).mp r;exact(eN q).mpr ⟨p,a,c.mono e λo=>b p o a q⟩
theorem StOk.same(ok:StOk Γ H σ σV)(h:aT4 H H1):StOk Γ H1 σ σV:=
 ⟨λi s e=>by
  obtain⟨v,b,r⟩:=ok.rel i s e;exact⟨v,b,r.mono (.same h) λp o _ _ q=>h p o q⟩,ok.dis,ok.own,ok.par,λa o e n=>h a o (ok.keep a o e n),λa e=>ok.dom a (by
  cases q:H a with
  | none=>rfl
  | some o=>rw[h a o q]at e;cases e),ok.len⟩
def bQ9(h:aT4 H H1){a:Addr}(e:H1 a=none):H a=none:=by
 cases q:H a with
 | none=>rfl
 | some o=>rw[h a o q]at e;cases e
def Step.same(h:aT4 H H1):Step σ σV H σ σV H1:=⟨λa o e _=>h a o e,λa e=>bQ9 h e,λ_ h=>.inl h,λ_ h=>.inl h,λi s h=>⟨s,h⟩,λi s h _=>⟨s,h,rfl,λ_=>rfl,rfl⟩,λi s h m=>⟨s,h,m⟩⟩
end
inductive Res where
 | val (d:D) | own (d:D) | slot (i:Nat)
def lV(Γ:Gm)(H:Hp)(σ:Sg)(σV:St)(r:Res)(v:V):Prop:=match r with
 | .val d=>Rp H d v
 | .own d=>∃ p,v=.ref p/\fL H d p/\¬ cA8 σ σV p/\Γ.H₀ p=none
 | .slot i=>σV[i]? = some (some v)/\∃ s,σ[i]? = some (some s)
noncomputable def rd(σ:Sg):Res->Option D
 | .val d=>some d
 | .own d=>some d
 | .slot i=>match σ[i]? with
   | some (some s)=>some s.d
   | _=>none
section
variable{σ σ1:Sg}{σV σV1:St}{H H1:Hp}{Γ:Gm}{r:Res}{v:V}{d:D}
theorem lV.vw(ok:StOk Γ H σ σV)(h:lV Γ H σ σV r v)(e:rd σ r=some d):Vw H d v:=by
 cases r with
 | val d'=>cases e;exact .inl h
 | own d'=>cases e;obtain⟨p,a,b,_⟩:=h;exact .inr ⟨p,a,b⟩
 | slot i=>
   obtain⟨f,s,c⟩:=h;have g:some s.d=some d:=by
    have:rd σ (.slot i)=some s.d:=by show(match σ[i]? with | some (some s)=>some s.d | _=>none)=_;rw[c]
    rw[← this];exact e
   cases g;obtain⟨w,a,b⟩:=ok.rel i s c;rw[f]at a;cases a;exact b.vw
def lV.step(ok:StOk Γ H σ σV)(h:lV Γ H σ σV r v)(st:Step σ σV H σ1 σV H1):lV Γ H1 σ1 σV r v:=by
 cases r with
 | val d=>exact Rp.mono (st.ext ok) h
 | own d=>
   obtain⟨p,c,a,b,e⟩:=h;obtain⟨o,f,_⟩:=a.obj;refine⟨p,c,a.mono (st.ext ok) λo h=>st.fr p o h λz=>b z.nv,λz=>?_,e⟩;rcases st.nv p z with q | q;exact b q;rw[f]at q;cases q
 | slot i=>
   obtain⟨g,s,j⟩:=h;exact⟨g,st.kp i s j⟩
end
abbrev DE:=Sg->Option (Res×Sg)
abbrev DT:=Sg->Option (Bool×Sg)
abbrev DA:=Sg->Option (List Res×Sg)
inductive ResOks(Γ:Gm)(H:Hp)(σ:Sg)(σV:St):List Res->List V->Prop
 | nil:ResOks Γ H σ σV [] []
 | cons {r:Res} {rs:List Res} {v:V} {vs:List V}:lV Γ H σ σV r v->ResOks Γ H σ σV rs vs->(∀ d p,r=.own d->v=.ref p->∀ (j:Nat) d',rs[j]? = some (.own d')->vs[j]? ≠ some (.ref p))->ResOks Γ H σ σV (r::rs) (v::vs)
def Frh(H:Hp)(r:Res)(v:V):Prop:=∀ d p,r=.own d->v=.ref p->H p=none
def jO{H:Hp}{d:D}{v:V}:Frh H (.val d) v:=λ_ _ e=>nomatch e
def Frh.back{H c:Hp}{r:Res}{v:V}{σ b:Sg}{σV a:St}(f:Frh c r v)(st:Step σ σV H b a c):Frh H r v:=λd p e g=>st.dom p (f d p e g)
def dTE(Γ:Gm)(r:DE):TE:=λσV H Q=>∃ σ,StOk Γ H σ σV/\∃ res σ',r σ=some (res,σ') /\
 ∀ v H',StOk Γ H' σ' σV->lV Γ H' σ' σV res v->Step σ σV H σ' σV H'->Frh H res v->Q v H'
def peW{X:Cx}{e:Expr}{t t':TE}(h:PE X e t)(w:∀ σ H Q,t' σ H Q->t σ H Q):PE X e t':=λpins s σ H Q I q=>h pins s σ H Q I (w σ H Q q)
def ptW{X:Cx}{e:Expr}{t t':TT}(h:PT X e t)(w:∀ σ H Q,t' σ H Q->t σ H Q):PT X e t':=λpins s σ H Q I q=>h pins s σ H Q I (w σ H Q q)
def pwW{X:Cx}{e:Expr}{t t':TT}(h:PW X e t)(w:∀ σ H Q,t' σ H Q->t σ H Q):PW X e t':=λa pins s σ H Q I q=>h a pins s σ H Q I (w σ H Q q)
def paW{X:Cx}{e:List Expr}{t t':TA}(h:PA X e t)(w:∀ σ H Q,t' σ H Q->t σ H Q):PA X e t':=λa pins s σ H Q I q=>h a pins s σ H Q I (w σ H Q q)
def psW{X:Cx}{e:Stmt}{t t':TS}(h:PS X e t)(w:∀ D σ H,t' D σ H->t D σ H):PS X e t':=λpins s σ H D I q=>h pins s σ H D I (w D σ H q)
def dL6{X:Cx}{e:List Stmt}{t t':TS}(h:PSs X e t)(w:∀ D σ H,t' D σ H->t D σ H):PSs X e t':=λpins s σ H D I q=>h pins s σ H D I (w D σ H q)
structure GE(X:Cx)(e:Expr)(r:DE):Prop where
 to:∀ Γ,PE X e (dTE Γ r)
def dTT(Γ:Gm)(r:DT):TT:=λσV H Q=>∃ σ,StOk Γ H σ σV/\∃ b σ',r σ=some (b,σ')/\∀ H',StOk Γ H' σ' σV->Step σ σV H σ' σV H'->Q b H'
structure GT(X:Cx)(e:Expr)(r:DT):Prop where
 to:∀ Γ,PT X e (dTT Γ r)
structure GW(X:Cx)(e:Expr)(r:DT):Prop where
 to:∀ Γ,PW X e (dTT Γ r)
def GW.gt{X:Cx}{e:Expr}{r:DT}(h:GW X e r):GT X e r:=.mk λΓ=>(h.to Γ).pt
def eF2(H:Hp)(rs:List Res)(vs:List V):Prop:=∀ (j:Nat) d p,rs[j]? = some (.own d)->vs[j]? = some (.ref p)->H p=none
def dTA(Γ:Gm)(r:DA):TA:=λσV H Q=>∃ σ,StOk Γ H σ σV/\∃ rs σ',r σ=some (rs,σ')/\∀ vs H',StOk Γ H' σ' σV->ResOks Γ H' σ' σV rs vs->Step σ σV H σ' σV H'->eF2 H rs vs->Q vs H'
structure GA(X:Cx)(es:List Expr)(r:DA):Prop where
 to:∀ Γ,PA X es (dTA Γ r)
noncomputable def aG(i:Nat):DE:=λσ=>match σ[i]? with
 | some (some s)=>some (if s.m=.val then .val s.d else .slot i,σ)
 | _=>none
def aA{X:Cx}{e:Expr}{i:Nat}(h:PE X e (bK8 i)):GE X e (aG i):=.mk λΓ=>peW h λσV H Q ⟨σ,ok,res,σ',e,k⟩=>by
 unfold aG at e;split at e;rename_i s a;cases e;obtain⟨v,b,r⟩:=ok.rel i s a;refine⟨v,b,k v H ok ?_ .refl (by split<;>exact λ_ _ e=>nomatch e)⟩;by_cases hm:s.m=.val;rw[a3O hm];obtain⟨m,d⟩:=s;cases hm;exact r;rw[a3P hm];exact⟨b,s,a⟩;cases e
noncomputable def dC(d:D):DE:=λσ=>some (.val d,σ)
def dL7{X:Cx}{e:Expr}{v:V}{d:D}(h:PE X e (tC v))(a:∀ H,Rp H d v):GE X e (dC d):=.mk λΓ=>peW h λσV H Q ⟨σ,ok,res,σ',e,k⟩=>by
 cases e;exact k v H ok (a H) .refl jO
def ge_int{X:Cx}{i:Int}{j pos}:GE X (.Constant (.int i) j pos) (dC (.int i)):=dL7 gH λ_=>.int i
def zY{X:Cx}{i:Bool}{j pos}:GE X (.Constant (.bool i) j pos) (dC (.bl i)):=dL7 dW1 λ_=>.bl i
def bR0{X:Cx}{i:Str}{j pos}:GE X (.Constant (.str i) j pos) (dC (.str i)):=dL7 cK4 λ_=>.str i
def cN5{X:Cx}{j pos}:GE X (.Constant .none j pos) (dC .non):=dL7 dG3 λ_=>.non
def cD1{X:Cx}{x:Str}{i:Int}{pos:Pos}(a:Gl X x)(h:∃ t,X.mg x=some (.int i t))(hd:(x==("__debug__":Str))=false:=by decide):GE X (.Name x pos) (dC (.int i)):=dL7 (cC3 a h hd) λ_=>.int i
def aU3(H H':Hp)(r:Res)(v:V):Prop:=match r with
 | .val d=>Rp H' d v
 | .own d=>∃ p,v=.ref p/\H p=none/\fL H' d p
 | .slot _=>False
def aU3.frh{H H':Hp}{r:Res}{v:V}(h:aU3 H H' r v):Frh H r v:=λd p a b=>by
 subst a b;obtain⟨q,e,c,_⟩:=h;cases e;exact c
def aU3.res{Γ:Gm}{H H':Hp}{σ:Sg}{σV:St}{r:Res}{v:V}(h:aU3 H H' r v)(ok:StOk Γ H σ σV):lV Γ H' σ σV r v:=by
 cases r with
 | val d=>exact h
 | own d=>
   obtain⟨p,b,a,c⟩:=h;refine⟨p,b,c,λz=>?_,ok.dom p a⟩;obtain⟨o,e,_⟩:=ok.mutObj z;rw[a]at e;cases e
 | slot i=>exact h.elim
abbrev F1:=D->Option Res
abbrev F2:=D->D->Option Res
abbrev FN:=List D->Option Res
def cV1(a:V->Hp->VK->Prop)(f:F1):Prop:=∀ H d x Q res,Vw H d x->f d=some res->(∀ v H',aT4 H H'->aU3 H H' res v->Q v H')->a x H Q
def aB7(c:R2)(f:F2):Prop:=∀ H a b x y Q res,Vw H a x->Vw H b y->f a b=some res->(∀ v H',aT4 H H'->aU3 H H' res v->Q v H')->c x y H Q
def aU4(b:List V->Hp->VK->Prop)(f:FN):Prop:=∀ H a vs Q res,Vws H a vs->f a=some res->(∀ v H',aT4 H H'->aU3 H H' res v->Q v H')->b vs H Q
noncomputable def aG1(f:F1)(a:DE):DE:=λσ=>(a σ).bind λx=>(rd x.2 x.1).bind λd=>(f d).bind λr=>some (r,x.2)
noncomputable def aX(f:F2)(a b:DE):DE:=λσ=>(a σ).bind λx=>(b x.2).bind λy=>(rd y.2 x.1).bind λd=>(rd y.2 y.1).bind λe=>(f d e).bind λr=>some (r,y.2)
def aE{α c:Type}{o:Option α}{f:α->Option c}{b:c}(h:o.bind f=some b):∃ a,o=some a/\f a=some b:=by
 cases o with
 | none=>cases h
 | some a=>exact⟨a,rfl,h⟩
def pT{Γ:Gm}{l:R2}{f:F2}(q:aB7 l f){m n:DE}{σV:St}{H:Hp}{Q:VK}(h:dTE Γ (aX f m n) σV H Q):tOp l (dTE Γ m) (dTE Γ n) σV H Q:=by
 obtain⟨σ,ok,res,σ',e,k⟩:=h;obtain⟨⟨x,c⟩,s,e⟩:=aE e;obtain⟨⟨y,i⟩,t,e⟩:=aE e;obtain⟨u,w,e⟩:=aE e;obtain⟨z,A,e⟩:=aE e;obtain⟨r,B,e⟩:=aE e;cases e;refine⟨σ,ok,x,c,s,λv1 F d C g _=>⟨c,d,y,i,t,λv2 D a E b _=>?_⟩⟩;have j:=C.step d b;refine q D u z v1 v2 Q _ (j.vw a w) (E.vw a A) B λv H' o p=>?_;exact k v H' (a.same o) (p.res a) ((g.trans b).trans (.same o)) (p.frh.back (g.trans b))
def aG2{Γ:Gm}{d:V->Hp->VK->Prop}{f:F1}(l:cV1 d f){g:DE}{σV:St}{H:Hp}{Q:VK}(h:dTE Γ (aG1 f g) σV H Q):tUn d (dTE Γ g) σV H Q:=by
 obtain⟨σ,ok,res,σ',e,k⟩:=h;obtain⟨⟨x,c⟩,m,e⟩:=aE e;obtain⟨n,o,e⟩:=aE e;obtain⟨r,p,e⟩:=aE e;cases e;refine⟨σ,ok,x,c,m,λv1 q a s b _=>?_⟩;refine l q n v1 Q _ (s.vw a o) p λv H' i j=>?_;exact k v H' (a.same i) (j.res a) (b.trans (.same i)) (j.frh.back b)
section
variable{X:Cx}{a b:Expr}{ra rb:DE}{pos:Pos}
def bC{c:Operator}{d:R2}{f:F2}(e:OpR X (binaryOp c) d)(g:aB7 d f)(ha:GE X a ra)(h:GE X b rb):GE X (.BinOp a c b pos) (aX f ra rb):=
 .mk λΓ=>peW (bG5 e (ha.to Γ) (h.to Γ)) λ_ _ _=>pT g
def cD2{b:UnaryOp}{c:V->Hp->VK->Prop}{f:F1}(d:UnR X (unaryOp b) c)(e:cV1 c f)(ha:GE X a ra):GE X (.UnaryOp b a pos) (aG1 f ra):=
 .mk λΓ=>peW (dH4 d (ha.to Γ)) λ_ _ _=>aG2 e
def iA{c:CmpOp}{d:R2}{f:F2}(e:OpR X (compareOp c) d)(g:aB7 d f)(ha:GE X a ra)(h:GE X b rb)(hm:behindInMarks c b=false):GE X (.Compare a [c] [b] pos) (aX f ra rb):=
 .mk λΓ=>peW (cS1 e (ha.to Γ) (h.to Γ) hm) λ_ _ _=>pT g
noncomputable def cK(r:DE):DT:=λσ=>(r σ).bind λx=>(rd x.2 x.1).bind λd=>match d with
 | .bl b=>some (b,x.2)
 | _=>none
def aG3{r:DE}{σ σ':Sg}{b:Bool}(h:cK r σ=some (b,σ')):∃ x,r σ=some (x,σ')/\rd σ' x=some (.bl b):=by
 obtain⟨⟨x,c⟩,f,e⟩:=aE h;obtain⟨d,a,e⟩:=aE e;dsimp only at e a;split at e;cases e;exact⟨x,f,a⟩;cases e
def aU5{H:Hp}{b:Bool}{v:V}(h:Vw H (.bl b) v):v=.bl b:=by
 rcases h with h | ⟨p,_,h⟩;cases h;rfl;exact h.elim
def bB5{Γ:Gm}{r:DE}{σV:St}{H:Hp}{Q:Bool->Hp->Prop}(h:dTT Γ (cK r) σV H Q):dTE Γ r σV H (λx H'=>∃ k,x=.bl k/\Q k H'):=by
 obtain⟨σ,ok,b,σ',e,k⟩:=h;obtain⟨x,c,d⟩:=aG3 e;refine⟨σ,ok,x,σ',c,λv H' a f st _=>⟨b,aU5 (f.vw a d),k H' a st⟩⟩
def bI{c:CmpOp}{d:R2}{f:F2}(e:OpR X (compareOp c) d)(g:aB7 d f)(ha:GE X a ra)(i:GE X b rb)(hm:behindInMarks c b=false):GT X (.Compare a [c] [b] pos) (cK (aX f ra rb)):=
 .mk λΓ=>ptW (kS e (ha.to Γ) (i.to Γ) hm) λσ H Q h=>pT g (bB5 h)
def lW{e:Expr}{r:DE}(h:GE X e r)(b:∀ a,isTrue e X.env a=(do let v ← a;standAt e.pos;holding [v] (truthy v)):=by intro _;rfl):GT X e (cK r):=
 .mk λΓ=>ptW (dG4 (h.to Γ) b) λ_ _ _ h=>bB5 h
noncomputable def eC7:D->Option Bool
 | .non=>some false
 | .bl b=>some b
 | .int i=>some (i != 0)
 | .str x=>if x.length<=sizeLine then some ((x.length:Int) != 0)else none
 | .lst l=>some (!l.isEmpty)
 | .tup l=>some (!l.isEmpty)
 | _=>none
noncomputable def eC8(r:DE):DT:=λσ=>(r σ).bind λx=>(rd x.2 x.1).bind λd=>(eC7 d).bind λb=>some (b,x.2)
end
def gU{H:Hp}{l:List D}{v:V}(h:Vw H (.tup l) v):∃ p xs,v=.ref p/\H p=some (.tup xs)/\Rps H l xs:=by
 rcases h with h | ⟨p,_,h⟩
 ·cases h with
  | tup h r=>exact⟨_,_,rfl,h,r⟩
 ·exact h.elim
def iN{H:Hp}{l:List D}{v:V}(h:Vw H (.lst l) v):∃ p xs,v=.ref p/\hR H p=some (true,xs)/\Rps H l xs:=by
 rcases h with h | ⟨p,e,xs,h,r⟩
 ·cases h with
  | lst h r=>exact⟨_,_,rfl,bA4 h,r⟩
 ·exact⟨p,xs,e,sS h,r⟩
def eQ{H:Hp}{i:Int}{v:V}(h:Vw H (.int i) v):v=.int i:=by
 rcases h with h | ⟨p,_,h⟩;cases h;rfl;exact h.elim
def nD{H:Hp}{i:Str}{v:V}(h:Vw H (.str i) v):v=.str i:=by
 rcases h with h | ⟨p,_,h⟩;cases h;rfl;exact h.elim
def cN6{H:Hp}{v:V}(h:Vw H .non v):v=.non:=by
 rcases h with h | ⟨p,_,h⟩;cases h;rfl;exact h.elim
noncomputable def cD3:D->Option (Bool×List D)
 | .lst l=>some (true,l)
 | .tup l=>some (false,l)
 | _=>none
def bB6{H:Hp}{d:D}{v:V}{b:Bool}{l:List D}(h:Vw H d v)(e:cD3 d=some (b,l)):∃ p xs,v=.ref p/\hR H p=some (b,xs)/\Rps H l xs:=by
 cases d with
 | lst a=>cases e;exact iN h
 | tup a=>cases e;obtain⟨p,xs,c,f,g⟩:=gU h;exact⟨p,xs,c,eM f,g⟩
 | _=>cases e
section
variable{X:Cx}{a b:Expr}{ra rb:DE}{pos:Pos}
variable{tA tB:DT}{lS:List Expr}
noncomputable def bK9(t u:DT):DT:=λσ=>(t σ).bind λx=>if x.1=true then u x.2 else some (false,x.2)
noncomputable def dOr(t u:DT):DT:=λσ=>(t σ).bind λx=>if x.1=true then some (true,x.2)else u x.2
noncomputable def bL0(t:DT):DT:=λσ=>(t σ).bind λx=>some (!x.1,x.2)
def tN(ha:GT X a tA):GW X (.BoolOp .And [a] pos) tA:=.mk λΓ=>aS9 (ha.to Γ)
def aM2(ha:GT X a tA):GW X (.BoolOp .Or [a] pos) tA:=.mk λΓ=>dG5 (ha.to Γ)
def aM3(ha:GT X a tA)(l:GW X (.BoolOp .And (b::lS) pos) tB):GW X (.BoolOp .And (a::b::lS) pos) (bK9 tA tB):=.mk λΓ=>pwW (aZ4 (ha.to Γ) (l.to Γ)) λσV H Q ⟨σ,ok,c,σ',e,k⟩=>by
 obtain⟨⟨x,d⟩,m,e⟩:=aE e;refine⟨σ,ok,x,d,m,λn f g=>?_⟩;dsimp only at e;split at e;rename_i h;rw[a3O h];exact⟨d,f,c,σ',e,λo i j=>k o i (g.trans j)⟩;rename_i h;rw[a3P h];cases e;exact k n f g
def bR1(ha:GT X a tA)(l:GW X (.BoolOp .Or (b::lS) pos) tB):GW X (.BoolOp .Or (a::b::lS) pos) (dOr tA tB):=.mk λΓ=>pwW (dW2 (ha.to Γ) (l.to Γ)) λσV H Q ⟨σ,ok,c,σ',e,k⟩=>by
 obtain⟨⟨x,d⟩,m,e⟩:=aE e;refine⟨σ,ok,x,d,m,λn f g=>?_⟩;dsimp only at e;split at e;rename_i h;rw[a3O h];cases e;exact k n f g;rename_i h;rw[a3P h];exact⟨d,f,c,σ',e,λo i j=>k o i (g.trans j)⟩
def aM4(ha:GT X a tA):GT X (.UnaryOp .Not a pos) (bL0 tA):=.mk λΓ=>ptW (dG6 (ha.to Γ)) λσV H Q ⟨σ,ok,c,σ',e,k⟩=>by
 obtain⟨⟨x,f⟩,g,e⟩:=aE e;cases e;exact⟨σ,ok,x,_,g,λh b d=>k h b d⟩
noncomputable def sK(t u:DE):DE:=λσ=>(cK t σ).bind λx=>if x.1=true then u x.2 else some (.val (.bl false),x.2)
noncomputable def dV2(t u:DE):DE:=λσ=>(cK t σ).bind λx=>if x.1=true then some (.val (.bl true),x.2)else u x.2
noncomputable def dL8(t:DE):DE:=λσ=>(cK t σ).bind λx=>some (.val (.bl (!x.1)),x.2)
def rX{op}{r:DE}(h:GE X a r):GE X (.BoolOp op [a] pos) r:=.mk λΓ=>dG8 (h.to Γ)
def tO(ha:GE X a ra)(l:GE X (.BoolOp .And (b::lS) pos) rb):GE X (.BoolOp .And (a::b::lS) pos) (sK ra rb):=.mk λΓ=>peW (dG9 (ha.to Γ) (l.to Γ)) λσV H Q ⟨σ,ok,c,σ',e,k⟩=>by
 obtain⟨⟨x,g⟩,m,e⟩:=aE e;obtain⟨y,n,o⟩:=aG3 m;refine⟨σ,ok,y,g,n,λv p d q f _=>⟨x,aU5 (q.vw d o),?_⟩⟩;dsimp only at e;split at e;rename_i h;rw[a3O h];exact⟨g,d,c,σ',e,λv2 r i s j t=>k v2 r i s (f.trans j) (t.back f)⟩;rename_i h;rw[a3P h];cases e;exact k _ p d (.bl false) f jO
def dY4(ha:GE X a ra)(l:GE X (.BoolOp .Or (b::lS) pos) rb):GE X (.BoolOp .Or (a::b::lS) pos) (dV2 ra rb):=.mk λΓ=>peW (dW4 (ha.to Γ) (l.to Γ)) λσV H Q ⟨σ,ok,c,σ',e,k⟩=>by
 obtain⟨⟨x,g⟩,m,e⟩:=aE e;obtain⟨y,n,o⟩:=aG3 m;refine⟨σ,ok,y,g,n,λv p d q f _=>⟨x,aU5 (q.vw d o),?_⟩⟩;dsimp only at e;split at e;rename_i h;rw[a3O h];cases e;exact k _ p d (.bl true) f jO;rename_i h;rw[a3P h];exact⟨g,d,c,σ',e,λv2 r i s j t=>k v2 r i s (f.trans j) (t.back f)⟩
noncomputable def dIf(t:DT)(ra rb:DE):DE:=λσ=>(t σ).bind λx=>if x.1=true then ra x.2 else rb x.2
end
def Fz:HO->Prop
 | .lst _=>True
 | .dK _=>True
 | .dT _=>True
 | _=>False
def cV2{X:Cx}{pins:List (Addr×Obj)}{σ:St}{H:Hp}{s:Shared}{p:Addr}{u:HO}(I:Inv X pins σ H s)(h:H p=some u)(d:Fz u):∃ o,Inv X pins σ (upd H p (.frz o u)) s:=by
 have nt:∀ b xs,H b=some (.tup xs)->b≠p:=λb xs e z=>by subst z;rw[h]at e;cases e;exact d
 have j:∀ b o x,H b=some (.frz o x)->b≠p:=λb o x e z=>by subst z;rw[h]at e;cases e;exact d
 have no:∀ b x,H b=some (.own x)->b≠p:=λb x e z=>by subst z;rw[h]at e;cases e;exact d
 have r:∀ b x,H b=some (.tbl x)->b≠p:=λb x e z=>by subst z;rw[h]at e;cases e;exact d
 have f:∀ b,H b=none->b≠p:=λb e z=>by subst z;rw[h]at e;cases e
 obtain⟨o,t⟩:∃ o,s.heap.get? p=some o:=by
  have:=I.hok p u h;have l:=this.lt;cases q:s.heap.get? p with
  | some o=>exact⟨o,rfl⟩
  | none=>
    cases u with
    | lst xs=>obtain⟨_,_,_,_,e⟩:=this;rw[q]at e;cases e
    | dK kvs=>obtain⟨_,_,_,_,ob,_,_,e,_⟩:=this;rw[q]at e;cases e
    | dT kvs=>obtain⟨_,_,_,_,ob,_,_,e,_⟩:=this;rw[q]at e;cases e
    | _=>exact d.elim
 have st:∀ a x,fE X.prog X.w H s.heap a x->fE X.prog X.w (upd H p (.frz o u)) s.heap a x:=λa x k=>
  k.stay (λ_ _ _ e=>e) (λb e=>by rw[aO (no b _ e)];exact e) λb xs e=>by rw[aO (nt b _ e)];exact e
 refine⟨o,{I with base:=?_,free:=?_,freeC:=?_,pin:=?_,hok:=?_}⟩
 ·exact⟨I.base.keep,I.base.slot,λb ob q n v=>by
    have:=I.base.free b ob q n v;rw[aO (f b this)];exact this,I.base.there,λb xs e=>by
    have:=I.base.tups b xs e;rw[aO (nt b _ this)];exact this,λb ob x e=>by
    have:=I.base.frzs b ob x e;rw[aO (j b _ _ this)];exact this,λb ps e=>by
    obtain⟨m,g⟩:=I.base.tbls b ps e;exact⟨m,by rw[aO (r b _ g)];exact g⟩⟩
 ·rw[aO (f _ I.free)];exact I.free
 ·intro x c e;rw[aO (f _ (I.freeC x c e))];exact I.freeC x c e
 ·intro q y;obtain⟨A,i,B⟩:=I.pin q y;exact⟨A,by rw[aO (f _ i)];exact i,B⟩
 ·intro a x e;by_cases ha:a=p;subst ha;rw[aW]at e;cases e;exact⟨t,st a u (I.hok a u h)⟩;rw[aO ha]at e;exact st a x (I.hok a x e)
def tFz(t:TE):TE:=λσ H Q=>t σ H λv H1=>Q v H1\/∃ p u,v=.ref p/\H1 p=some u/\Fz u/\∀ o,Q v (upd H1 p (.frz o u))
def dY5{X:Cx}{e:Expr}{t:TE}(h:PE X e t):PE X e (tFz t):=λpins s σ H Q I q=>
 thn (h pins s σ H _ I q) λu s1 ⟨v,d,b,c,a⟩=>by
  rcases a with a | ⟨p,x,j,f,g,a⟩;exact⟨v,d,b,c,a⟩;obtain⟨o,i⟩:=cV2 b f g;exact⟨v,_,i,c,a o⟩
def bR2{H:Hp}{d:D}{p:Addr}(h:fL H d p):∃ u,H p=some u/\Fz u/\∀ o H',Ext H H'->H' p=some (.frz o u)->Rp H' d (.ref p):=by
 unfold fL at h;split at h;obtain⟨xs,b,a⟩:=h;exact⟨_,b,True.intro,λo H' x e=>.lst e (a.mono x)⟩
 ·obtain⟨u,ws,b,a,c⟩:=h;refine⟨u,b,?_,λo H' x e=>.dic e a (c.mono x)⟩;cases u with
  | dK _=>exact True.intro
  | dT _=>exact True.intro
  | _=>exact a.elim
 ·exact h.elim
def bR3{H:Hp}{p:Addr}{u:HO}{o:Obj}(h:H p=some u)(a:Fz u):Ext H (upd H p (.frz o u)):=
 ⟨λb xs e=>by rw[aO (λz=>by subst z;rw[h]at e;cases e;exact a)];exact e,λb ob x e=>by rw[aO (λz=>by subst z;rw[h]at e;cases e;exact a)];exact e⟩
noncomputable def eC9(σ:Sg):Res->Option (D×Sg)
 | .val d=>some (d,σ)
 | .own d=>some (d,σ)
 | .slot i=>match σ[i]? with
   | some (some s)=>if s.m=.own then some (s.d,σ.set i (some ⟨.val,s.d⟩))else if s.m=.val then some (s.d,σ)else none
   | _=>none
noncomputable def dFz(r:DE):DE:=λσ=>(r σ).bind λx=>(eC9 x.2 x.1).bind λy=>some (.val y.1,y.2)
def cX{α:Type}{l:List α}{i j:Nat}{x y:α}(h:(l.set i x)[j]? = some y):(j=i/\y=x/\i < l.length)\/(j≠i/\l[j]? = some y):=by
 rw[List.getElem?_set]at h;split at h;rename_i e;split at h;cases h;exact .inl ⟨e.symm,rfl,by assumption⟩;cases h;rename_i e;exact .inr ⟨λz=>e z.symm,h⟩
def cO{X:Cx}{e:Expr}{r:DE}(h:GE X e r):GE X e (dFz r):=.mk λΓ=>peW (dY5 (h.to Γ)) λσV H Q ⟨σ,ok,res,σ',e,k⟩=>by
 obtain⟨⟨x,σ1⟩,W,e⟩:=aE e;obtain⟨⟨d,M⟩,C,e⟩:=aE e;cases e;refine⟨σ,ok,x,σ1,W,λv T b A c Y=>?_⟩;dsimp only at C;cases x with
 | val d'=>cases C;exact .inl (k v T b A c jO)
 | own d'=>
   cases C;obtain⟨p,rfl,N,Z,h3⟩:=A;obtain⟨u,G,I,O⟩:=bR2 N;have hn:H p=none:=Y _ p rfl rfl;refine .inr ⟨p,u,rfl,G,I,λo=>?_⟩;have x:=bR3 (o:=o) G I;refine k _ _ ⟨λi s e=>?_,b.dis,b.own,b.par,λa ob e n=>?_,λa e=>?_,b.len⟩ (O o _ x aW) ⟨λa ob e n=>?_,λa e=>?_,c.mu,c.nv,c.kp,c.fix,c.lt⟩ jO;obtain⟨w,D,B⟩:=b.rel i s e;refine⟨w,D,B.mono x λq ob P m C=>?_⟩;rw[aO (λz=>Z ⟨i,s,e,m,by rw[D,P,z]⟩)];exact C;rw[aO (λz=>by subst z;rw[h3]at e;cases e)];exact b.keep a ob e n;by_cases z:a=p;subst z;rw[aW]at e;cases e;rw[aO z]at e;exact b.dom a e;rw[aO (λz=>by subst z;rw[hn]at e;cases e)];exact c.fr a ob e n;by_cases z:a=p;subst z;rw[aW]at e;cases e;rw[aO z]at e;exact c.dom a e
 | slot i=>
   obtain⟨A,s,E⟩:=A;have g:(match σ1[i]? with | some (some s)=>if s.m=.own then some (s.d,σ1.set i (some ⟨.val,s.d⟩))else if s.m=.val then some (s.d,σ1)else none | _=>none)=some (d,M):=C;rw[E]at g;dsimp only at g;obtain⟨w,D,B⟩:=b.rel i s E;rw[A]at D;cases D;split at g
   ·rename_i hm;cases g;obtain⟨m,d⟩:=s;cases hm;obtain⟨p,rfl,N⟩:=(eN (s:=⟨.own,d⟩) (λz=>nomatch z)).mp B;obtain⟨u,G,I,O⟩:=bR2 N;refine .inr ⟨p,u,rfl,G,I,λo=>?_⟩;have x:=bR3 (o:=o) G I;have U:=O o _ x aW;have il:i < σ1.length:=(a2a.mp E).1;have pm:sJ σ1 σV p:=⟨i,_,E,rfl,A⟩;have sub:∀ (j:Nat) t,(σ1.set i (some ⟨.val,d⟩))[j]? = some (some t)->t.m≠.val->j≠i/\σ1[j]? = some (some t):=λj t f hm=>by
     rcases cX f with⟨_,z,_⟩ | z;cases z;exact absurd rfl hm;exact z
    have J:∀ t:Sl,t.m.mt=true->t.m≠.val:=λt h z=>by rw[z]at h;cases h
    refine k _ _ ⟨λj t f=>?_,λj l t F q n f el m V=>?_,λj t q f m=>?_,λj t q f m=>?_,λa ob e n=>?_,λa e=>?_,?_⟩ U
     ⟨λa ob e n=>?_,λa e=>?_,λa ⟨j,t,f,m,R⟩=>?_,λa ⟨j,t,f,m,R⟩=>?_,λj t f=>?_,λj t f m=>?_,λj t f m=>c.lt j t (sub j t f (by rw[m];exact λz=>nomatch z)).2 m⟩ jO
    ·rcases cX f with⟨z,L,_⟩ | ⟨z,L⟩;cases L;rw[z];exact⟨_,A,U⟩;obtain⟨w,D,S⟩:=b.rel j t L;refine⟨w,D,S.mono x λq ob P m C=>?_⟩;rw[aO (λy=>b.dis i j _ t p (a3e z) E L rfl m A (by rw[D,P,y]))];exact C
    ·exact b.dis j l t F q n (sub j t f (J t m)).2 (sub l F el V).2 m V
    ·exact b.own j t q (sub j t f (by rw[m];exact λz=>nomatch z)).2 m
    ·exact b.par j t q (sub j t f (by rw[m];exact λz=>nomatch z)).2 m
    ·have hp:=b.own i _ p E rfl A;rw[aO (λz=>by subst z;rw[hp]at e;cases e)];exact b.keep a ob e n
    ·by_cases z:a=p;subst z;rw[aW]at e;cases e;rw[aO z]at e;exact b.dom a e
    ·rw[a9e];exact b.len
    ·by_cases z:a=p;subst z;rcases c.mu a pm with y | y;exact absurd y n;rw[e]at y;cases y;rw[aO z];exact c.fr a ob e n
    ·by_cases z:a=p;subst z;rw[aW]at e;cases e;rw[aO z]at e;exact c.dom a e
    ·exact c.mu a ⟨j,t,(sub j t f (J t m)).2,m,R⟩
    ·exact c.nv a ⟨j,t,(sub j t f m).2,m,R⟩
    ·obtain⟨F,K⟩:=c.kp j t f;by_cases z:j=i;subst z;exact⟨_,by rw[a7c il]⟩;exact⟨F,by rw[a9a (a3e z)];exact K⟩
    ·obtain⟨F,K,h⟩:=c.fix j t f m;refine⟨F,?_,h⟩;rw[a9a (λz=>?_)];exact K;subst z;rw[E]at K;cases K;rcases m with m | m;have:=h.1;rw[m]at this;cases this;have:=h.1;rw[m]at this;cases this
   ·split at g;rename_i hm;cases g;obtain⟨m,d⟩:=s;cases hm;exact .inl (k v T b B c jO);cases g
noncomputable def aL:DA:=λσ=>some ([],σ)
noncomputable def aC(r:DE)(rs:DA):DA:=λσ=>(r σ).bind λx=>(rs x.2).bind λy=>some (x.1::y.1,y.2)
noncomputable def rds(σ:Sg):List Res->Option (List D)
 | []=>some []
 | r::rs=>(rd σ r).bind λd=>(rds σ rs).bind λa=>some (d::a)
noncomputable def vals:List Res->Option (List D)
 | []=>some []
 | .val d::rs=>(vals rs).bind λa=>some (d::a)
 | _=>none
theorem tP{Γ:Gm}{H:Hp}{σ:Sg}{σV:St}(ok:StOk Γ H σ σV):∀ {rs:List Res} {vs:List V} {a:List D},ResOks Γ H σ σV rs vs->rds σ rs=some a->Vws H a vs
 | _,_,_,.nil,e=>by cases e;exact .nil
 | _,_,_,.cons h t _,e=>by
   obtain⟨d,b,e⟩:=aE e;obtain⟨a,c,e⟩:=aE e;cases e;exact .cons (h.vw ok b) (tP ok t c)
theorem pU{Γ:Gm}{H:Hp}{σ:Sg}{σV:St}:∀ {rs:List Res} {vs:List V} {a:List D},ResOks Γ H σ σV rs vs->vals rs=some a->Rps H a vs
 | _,_,_,.nil,e=>by cases e;exact .nil
 | .val d::_,_,_,.cons h t _,e=>by
   obtain⟨a,b,e⟩:=aE e;cases e;exact .cons h (pU t b)
 | .own d::_,_,_,.cons h t _,e=>by cases e
 | .slot d::_,_,_,.cons h t _,e=>by cases e
section
variable{X:Cx}{e:Expr}{es:List Expr}{r:DE}{rs:DA}{pos:Pos}
def aF:GA X [] aL:=.mk λΓ=>paW gD λσV H Q ⟨σ,ok,res,σ',e,k⟩=>by
 cases e;exact k [] H ok .nil .refl (λj d p e=>by simp at e)
def aB(ha:GE X e r)(n:GA X es rs)(s:starEach (e::es) X.env=(false,eval e X.env)::starEach es X.env:=by kernel_rfl):GA X (e::es) (aC r rs):=.mk λΓ=>paW (bU (ha.to Γ) (n.to Γ) s) λσV H Q ⟨σ,ok,res,σ',e,k⟩=>by
 obtain⟨⟨x,a⟩,t,e⟩:=aE e;obtain⟨⟨ys,u⟩,w,e⟩:=aE e;cases e;refine⟨σ,ok,x,a,t,λv G b l c y=>⟨a,b,ys,_,w,λvs z i A f m=>?_⟩⟩;refine k (v::vs) z i (.cons (l.step b f) A λd p g h j d' B C=>?_) (c.trans f) λj d p g h=>?_;subst g h;obtain⟨q,D,E,_⟩:=l;cases D;obtain⟨o,F,_⟩:=E.obj;have:=m j d' p B C;rw[F]at this;cases this;cases j with
 | zero=>simp at g h;subst g h;exact y d p rfl rfl
 | succ j=>exact c.dom p (m j d p (by simpa using g) (by simpa using h))
noncomputable def dCB(f:FN)(a:DA):DE:=λσ=>(a σ).bind λx=>(rds x.2 x.1).bind λb=>(f b).bind λr=>some (r,x.2)
def cA{c:List V->Hp->VK->Prop}{f:FN}{d:DA}(j:aU4 c f)(h:∀ Γ,PE X e (tCB c (dTA Γ d))):GE X e (dCB f d):=.mk λΓ=>peW (h Γ) λσV H Q ⟨σ,ok,res,σ',e,k⟩=>by
 obtain⟨⟨x,l⟩,m,e⟩:=aE e;obtain⟨n,o,e⟩:=aE e;obtain⟨r,p,e⟩:=aE e;cases e;refine⟨σ,ok,x,_,m,λvs q a s b t=>?_⟩;refine j q n vs Q _ (tP a s o) p λv H' g i=>?_;exact k v H' (a.same g) (i.res a) (b.trans (.same g)) (i.frh.back b)
noncomputable def aS3(b:DA):DE:=λσ=>(b σ).bind λx=>(vals x.1).bind λa=>if a.length<=sizeLine then some (.val (.tup a),x.2)else none
noncomputable def kZ(b:DA):DE:=λσ=>(b σ).bind λx=>(vals x.1).bind λa=>if a.length<=sizeLine then some (.own (.lst a),x.2)else none
def pV{g}(h:GA X es rs):GE X (.Tuple es g pos) (aS3 rs):=.mk λΓ=>peW (dI1 (h.to Γ)) λσV H Q ⟨σ,ok,res,σ',e,k⟩=>by
 obtain⟨⟨x,i⟩,j,e⟩:=aE e;obtain⟨q,l,e⟩:=aE e;dsimp only at e;split at e;rename_i m;cases e;refine⟨σ,ok,x,_,j,λvs d a n b r=>?_⟩;have f:=pU n l;refine⟨by rw[← f.length];exact m,λp o=>?_⟩;have c:aT4 d (upd d p (.tup vs)):=bM o;exact k _ _ (a.same c) (.tup aW (f.mono (.same c))) (b.trans (.same c)) jO;cases e
def eV(h:GA X es rs):GE X (.List es pos) (kZ rs):=.mk λΓ=>peW (cK7 (h.to Γ)) λσV H Q ⟨σ,ok,res,σ',e,k⟩=>by
 obtain⟨⟨x,j⟩,l,e⟩:=aE e;obtain⟨m,n,e⟩:=aE e;dsimp only at e;split at e;rename_i o;cases e;refine⟨σ,ok,x,_,l,λvs c a q b r=>?_⟩;have f:=pU q n;refine⟨by rw[← f.length];exact o,λp g=>?_⟩;have d:aT4 c (upd c p (.lst vs)):=bM g;have i:aU3 c (upd c p (.lst vs)) (.own (.lst m)) (.ref p):=⟨p,rfl,g,vs,aW,f.mono (.same d)⟩;exact k _ _ (a.same d) (i.res a) (b.trans (.same d)) (i.frh.back b);cases e
end
section
variable{Γ:Gm}{H:Hp}{σ:Sg}{σV:St}{i:Nat}{s:Sl}{p:Addr}{o':HO}{d':D}
def StOk.ownAt(ok:StOk Γ H σ σV)(a:σ[i]? = some (some s))(hm:s.m≠.val):∃ p,σV[i]? = some (some (.ref p))/\fL H s.d p:=by
 obtain⟨v,e,r⟩:=ok.rel i s a;obtain⟨p,rfl,b⟩:=(eN hm).mp r;exact⟨p,e,b⟩
def jP{m:Md}(h:m.mt=true):m≠.val:=λz=>by rw[z]at h;cases h
def fL.ext{d:D}(h:fL H d p):Ext H (upd H p o'):=by
 obtain⟨o,e,n1,n2⟩:=h.obj;exact⟨λb xs q=>by rw[aO (λz=>by subst z;rw[e]at q;cases q;exact n1 _ rfl)];exact q,λb ob x q=>by rw[aO (λz=>by subst z;rw[e]at q;cases q;exact n2 _ _ rfl)];exact q⟩
def StOk.write(ok:StOk Γ H σ σV)(g:σ[i]? = some (some s))(hm:s.m.mt=true)(k:σV[i]? = some (some (.ref p)))(ow:fL (upd H p o') d' p) :
  StOk Γ (upd H p o') (σ.set i (some ⟨s.m,d'⟩)) σV/\Step σ σV H (σ.set i (some ⟨s.m,d'⟩)) σV (upd H p o'):=by
 obtain⟨L,A,r⟩:=ok.ownAt g (jP hm);rw[k]at A;cases A;have x:Ext H (upd H p o'):=r.ext;have B:i < σ.length:=(a2a.mp g).1;have back:∀ (j:Nat) t,(σ.set i (some ⟨s.m,d'⟩))[j]? = some (some t)->∃ t',σ[j]? = some (some t')/\t'.m=t.m:=λj t b=>by
  rcases cX b with⟨z,h,_⟩ | ⟨z,h⟩;cases h;subst z;exact⟨s,g,rfl⟩;exact⟨t,h,rfl⟩
 refine⟨⟨λj t b=>?_,λj l t t' q n b D m E=>?_,λj t q b m=>?_,λj t q b m=>?_,λa ob e n=>?_,λa e=>?_,by rw[a9e];exact ok.len⟩,
  ⟨λa ob e n=>?_,λa e=>?_,λa ⟨j,t,b,m,u⟩=>?_,λa ⟨j,t,b,m,u⟩=>?_,λj t b=>?_,λj t b m=>?_,λj t b m=>?_⟩⟩
 ·rcases cX b with⟨z,h,_⟩ | ⟨z,h⟩;cases h;subst z;exact⟨_,k,(eN (s:=⟨s.m,d'⟩) (jP hm)).mpr ⟨p,rfl,ow⟩⟩;obtain⟨w,C,v⟩:=ok.rel j t h;refine⟨w,C,v.mono x λq ob F m G=>?_⟩;rw[aO (λy=>ok.dis i j _ t p (a3e z) g h hm m k (by rw[C,F,y]))];exact G
 ·obtain⟨c,d,f⟩:=back j t b;obtain⟨I,J,K⟩:=back l t' D;exact ok.dis j l c I q n d J (by rw[f];exact m) (by rw[K];exact E)
 ·obtain⟨c,d,f⟩:=back j t b;exact ok.own j c q d (f.trans m)
 ·obtain⟨c,d,f⟩:=back j t b;exact ok.par j c q d (f.trans m)
 ·have:a≠p:=λz=>by
   subst z;cases o:s.m with
   | own=>rw[ok.own i s a g o k]at e;cases e
   | par=>exact n (ok.par i s a g o k)
   | val=>rw[o]at hm;cases hm
   | lent=>rw[o]at hm;cases hm
  rw[aO this];exact ok.keep a ob e n
 ·by_cases z:a=p;subst z;rw[aW]at e;cases e;rw[aO z]at e;exact ok.dom a e
 ·rw[aO (λz=>n ⟨i,s,g,hm,by rw[z];exact k⟩)];exact e
 ·by_cases z:a=p;subst z;rw[aW]at e;cases e;rw[aO z]at e;exact e
 ·obtain⟨c,d,f⟩:=back j t b;exact .inl ⟨j,c,d,by rw[f];exact m,u⟩
 ·obtain⟨c,d,f⟩:=back j t b;exact .inl ⟨j,c,d,by rw[f];exact m,u⟩
 ·by_cases z:j=i;subst z;exact⟨_,by rw[a7c B]⟩;exact⟨t,by rw[a9a (a3e z)];exact b⟩
 ·by_cases z:j=i;subst z;rw[g]at b;cases b;exact⟨⟨s.m,d'⟩,by rw[a7c B],rfl,λq=>(by rw[q]at hm;cases hm),rfl⟩;exact⟨t,by rw[a9a (a3e z)];exact b,rfl,λ_=>rfl,rfl⟩
 ·obtain⟨c,d,f⟩:=back j t b;exact⟨c,d,f.trans m⟩
end
abbrev FM:=D->List D->Option (D×D)
def dV3(r:V->List V->Hp->VK->Prop)(f:FM):Prop:=∀ H d p a vs Q d' e,fL H d p->Rps H a vs->f d a=some (d',e)->(∀ o' v,fL (upd H p o') d' p->Rp (upd H p o') e v->Q v (upd H p o'))->r (.ref p) vs H Q
def eD0(r:V->List V->Hp->VK->Prop)(f:FM):Prop:=∀ H d p a vs Q d' e,fL H d p->Vws H a vs->f d a=some (d',e)->(∀ o' v,fL (upd H p o') d' p->Rp (upd H p o') e v->Q v (upd H p o'))->r (.ref p) vs H Q
noncomputable def bR4(f:FM)(i:Nat)(a:List D)(σ:Sg):Option (Res×Sg):=match σ[i]? with
 | some (some s)=>if s.m.mt=true then(f s.d a).bind λy=>some (.val y.2,σ.set i (some ⟨s.m,y.1⟩))else none
 | _=>none
noncomputable def tyD(T:String):D->Bool
 | .lst _=>T=="list"
 | .dic _ _=>T=="dict"
 | _=>false
noncomputable def aM5(T:String)(i:Nat)(σ:Sg):Bool:=match σ[i]? with
 | some (some s)=>decide (s.m≠.val)&&tyD T s.d
 | _=>false
noncomputable def jI(T:String)(i:Nat)(f:FM)(a:DA):DE:=λσ=>if aM5 T i σ=true then(a σ).bind λx=>(vals x.1).bind λb=>bR4 f i b x.2 else none
noncomputable def tQ(T:String)(i:Nat)(f:FM)(a:DA):DE:=λσ=>if aM5 T i σ=true then(a σ).bind λx=>(rds x.2 x.1).bind λb=>bR4 f i b x.2 else none
noncomputable def dL9(T:String)(i:Nat)(f:FM):DE:=λσ=>if aM5 T i σ=true then bR4 f i [] σ else none
def dM0{K:W.Frag}{T:String}{H:Hp}{d:D}{p:Addr}(h:fL H d p)(e:tyD T d=true):tyV K T (.ref p) H:=by
 unfold fL at h;split at h;obtain⟨xs,a,_⟩:=h;exact .inl ⟨by simpa[tyD]using e,xs,SqL.of a⟩
 ·obtain⟨u,ws,a,b,_⟩:=h;refine .inr (.inr (.inl ⟨by simpa[tyD]using e,?_⟩));cases u with
  | dK kvs=>exact .inl ⟨kvs,a⟩
  | dT kvs=>exact .inr ⟨kvs,a⟩
  | _=>exact b.elim
 ·exact h.elim
def jK{f:FM}{i:Nat}{a:List D}{σ σ':Sg}{res:Res}(h:bR4 f i a σ=some (res,σ')):∃ s d' e,σ[i]? = some (some s)/\s.m.mt=true/\f s.d a=some (d',e)/\res=.val e/\σ'=σ.set i (some ⟨s.m,d'⟩):=by
 unfold bR4 at h;split at h;rename_i s b;split at h;rename_i hm;obtain⟨⟨d',e⟩,c,g⟩:=aE h;cases g;exact⟨s,d',e,b,hm,c,rfl,rfl⟩;cases h;cases h
def sT{T:String}{i:Nat}{σ:Sg}(h:aM5 T i σ=true):∃ s,σ[i]? = some (some s)/\s.m≠.val/\tyD T s.d=true:=by
 unfold aM5 at h;split at h;rename_i s a;rw[a5f,a3R]at h;exact⟨s,a,h.1,h.2⟩;cases h
section
variable{X:Cx}{e:Expr}{ra:DA}{K:W.Frag}{T:String}{r:V->List V->Hp->VK->Prop}{f:FM}{i:Nat}
def iX(z:dV3 r f)(h:∀ Γ,PE X e (tBM K T r (bK8 i) (dTA Γ ra))):GE X e (jI T i f ra):=.mk λΓ=>peW (h Γ) λσV H Q ⟨σ,ok,res,σ',e,k⟩=>by
 unfold jI at e;split at e;rename_i hn;obtain⟨⟨x,c⟩,A,e⟩:=aE e;obtain⟨B,C,e⟩:=aE e;obtain⟨s,d',y,w,hm,D,rfl,rfl⟩:=jK e;obtain⟨J,g,j,l⟩:=sT hn;obtain⟨p,m,E⟩:=ok.ownAt g j;refine⟨_,m,dM0 E l,σ,ok,x,c,A,λvs F a G n L=>?_⟩;obtain⟨M,b,o⟩:=a.ownAt w (jP hm);rw[m]at b;cases b;refine z F s.d p B vs Q d' y o (pU G C) D λo' v q I=>?_;obtain⟨t,u⟩:=a.write w hm m q;exact k v _ t I (n.trans u) jO;cases e
def aG4(z:eD0 r f)(h:∀ Γ,PE X e (tBM K T r (bK8 i) (dTA Γ ra))):GE X e (tQ T i f ra):=.mk λΓ=>peW (h Γ) λσV H Q ⟨σ,ok,res,σ',e,k⟩=>by
 unfold tQ at e;split at e;rename_i hn;obtain⟨⟨x,c⟩,A,e⟩:=aE e;obtain⟨B,C,e⟩:=aE e;obtain⟨s,d',y,w,hm,D,rfl,rfl⟩:=jK e;obtain⟨J,g,j,l⟩:=sT hn;obtain⟨p,m,E⟩:=ok.ownAt g j;refine⟨_,m,dM0 E l,σ,ok,x,c,A,λvs F a G n L=>?_⟩;obtain⟨M,b,o⟩:=a.ownAt w (jP hm);rw[m]at b;cases b;refine z F s.d p B vs Q d' y o (tP a G C) D λo' v q I=>?_;obtain⟨t,u⟩:=a.write w hm m q;exact k v _ t I (n.trans u) jO;cases e
end
inductive Out where
 | nx (σ:Sg) | rt (r:Res) (σ:Sg) | bk (σ:Sg) | ct (σ:Sg) | ex (c:Str) (f:Option (Str×D)) (σ:Sg)
abbrev DS:=Sg->Option Out
structure Ex where
 ok:Hp->Str->Option (Str×D)->Value->Option Addr->Prop
 to:St->XK
noncomputable def Ex.no:Ex:=⟨λ_ _ _ _ _=>False,λ_ _ _ _=>False⟩
def bR5(Γ:Gm)(E:Ex)(σ:Sg)(σV:St)(H:Hp)(o:Out)(D:Ends):Prop:=match o with
 | .nx σ'=>∀ σV' H',StOk Γ H' σ' σV'->Step σ σV H σ' σV' H'->D.nx σV' H'
 | .rt r σ'=>∀ v σV' H',StOk Γ H' σ' σV'->lV Γ H' σ' σV' r v->Step σ σV H σ' σV' H'->D.rt v H'
 | .bk σ'=>∀ σV' H',StOk Γ H' σ' σV'->Step σ σV H σ' σV' H'->D.bk σV' H'
 | .ct σ'=>∀ σV' H',StOk Γ H' σ' σV'->Step σ σV H σ' σV' H'->D.ct σV' H'
 | .ex c f σ'=>∀ x d σV' H',StOk Γ H' σ' σV'->E.ok H' c f x d->Step σ σV H σ' σV' H'->E.to σV' x d H'
def dTS(Γ:Gm)(E:Ex)(r:DS):TS:=λD σV H=>∃ σ,StOk Γ H σ σV/\∃ o,r σ=some o/\bR5 Γ E σ σV H o D
structure GS(E:Ex)(X:Cx)(s:Stmt)(r:DS):Prop where
 to:∀ Γ,PS X s (dTS Γ E r)
structure GSs(E:Ex)(X:Cx)(s:List Stmt)(r:DS):Prop where
 to:∀ Γ,PSs X s (dTS Γ E r)
def bR5.after{Γ:Gm}{E:Ex}{σ b:Sg}{σV a:St}{H e:Hp}{o:Out}{D:Ends}(h:bR5 Γ E σ σV H o D)(st:Step σ σV H b a e):bR5 Γ E b a e o D:=by
 cases o with
 | nx σ'=>exact λσV' H' ok s=>h σV' H' ok (st.trans s)
 | rt r σ'=>exact λv σV' H' ok q s=>h v σV' H' ok q (st.trans s)
 | bk σ'=>exact λσV' H' ok s=>h σV' H' ok (st.trans s)
 | ct σ'=>exact λσV' H' ok s=>h σV' H' ok (st.trans s)
 | ex c f σ'=>exact λx d σV' H' ok q s=>h x d σV' H' ok q (st.trans s)
noncomputable def dI:DS:=λσ=>some (.nx σ)
noncomputable def bJ(a b:DS):DS:=λσ=>(a σ).bind λo=>match o with
 | .nx c=>b c
 | o=>some o
noncomputable def gY(r:DE):DS:=λσ=>(r σ).bind λx=>some (.nx x.2)
noncomputable def gQ(r:DE):DS:=λσ=>(r σ).bind λx=>some (.rt x.1 x.2)
noncomputable def dY6:DS:=λσ=>some (.rt (.val .non) σ)
noncomputable def iO(c:DT)(a b:DS):DS:=λσ=>(c σ).bind λx=>if x.1=true then a x.2 else b x.2
section
variable{X:Cx}{E:Ex}{st:Stmt}{lS:List Stmt}{a b:DS}{pos:Pos}{e:Expr}{r:DE}
def cJ:GSs E X [] dI:=.mk λΓ=>dL6 tF λD σV H ⟨σ,ok,o,e,k⟩=>by
 cases e;exact k σV H ok .refl
def aM(h:GS E X st a):GSs E X [st] a:=.mk λΓ=>lT (h.to Γ)
def cD4{Γ:Gm}{E:Ex}{D:Ends}{σV:St}{H:Hp}(h:dTS Γ E (bJ a b) D σV H):dU6 (dTS Γ E a) (dTS Γ E b) D σV H:=by
 obtain⟨σ,ok,o,e,k⟩:=h;obtain⟨j,m,e⟩:=aE e;refine⟨σ,ok,j,m,?_⟩;cases j with
 | nx d=>exact λl n g i=>⟨d,g,o,e,k.after i⟩
 | rt r σ'=>cases e;exact k
 | bk σ'=>cases e;exact k
 | ct σ'=>cases e;exact k
 | ex c f σ'=>cases e;exact k
def aH(c:GS E X st a)(d:GSs E X lS b):GSs E X (st::lS) (bJ a b):=.mk λΓ=>dL6 (iQ (c.to Γ) (d.to Γ)) λ_ _ _=>cD4
def gK(d:GE X e r)(f:swapsWith e none pos.line X.env=pure false:=by rfl):GS E X (.Expr e pos) (gY r):=.mk λΓ=>psW (aE7 (d.to Γ) f) λD σV H ⟨σ,ok,o,e,k⟩=>by
 obtain⟨⟨x,a⟩,g,e⟩:=aE e;cases e;exact⟨σ,ok,x,a,g,λv h b i c _=>k σV h b c⟩
def bV(d:GE X e r):GS E X (.Return (some e) pos) (gQ r):=.mk λΓ=>psW (cK5 (d.to Γ)) λD σV H ⟨σ,ok,o,e,k⟩=>by
 obtain⟨⟨x,a⟩,f,e⟩:=aE e;cases e;exact⟨σ,ok,x,a,f,λv g b h c _=>k v σV g b h c⟩
def gR{c:Expr}{l m:List Stmt}{t:DT}(i:GT X c t)(ha:GSs E X l a)(j:GSs E X m b):GS E X (.If c l m pos) (iO t a b):=.mk λΓ=>psW (bG2 (i.to Γ) (ha.to Γ) (j.to Γ)) λD σV H ⟨σ,ok,o,e,k⟩=>by
 obtain⟨⟨x,d⟩,n,e⟩:=aE e;refine⟨σ,ok,x,d,n,λp f g=>?_⟩;dsimp only at e;split at e;rename_i h;rw[a3O h];exact⟨d,f,o,e,k.after g⟩;rename_i h;rw[a3P h];exact⟨d,f,o,e,k.after g⟩
end
noncomputable def gZ(σ:Sg)(i:Nat):Bool:=match σ[i]? with
 | some none=>true
 | some (some s)=>decide (s.m=.val)||decide (s.m=.own)
 | none=>false
def pW{σ:Sg}{i:Nat}(h:gZ σ i=true):i < σ.length:=by
 unfold gZ at h;split at h;rename_i e;exact(a2a.mp e).1;rename_i e;exact(a2a.mp e).1;cases h
def cD5{σ:Sg}{i:Nat}{s:Sl}(h:gZ σ i=true)(a:σ[i]? = some (some s)):s.m=.val\/s.m=.own:=by
 unfold gZ at h;rw[a]at h;simpa using h
section
variable{Γ:Gm}{H H0:Hp}{σ σ0:Sg}{σV σV0:St}{i:Nat}{d:D}{v:V}
def StOk.put(ok:StOk Γ H σ σV)(k:gZ σ i=true)(r:Rp H d v):StOk Γ H (σ.set i (some ⟨.val,d⟩)) (σV.set i (some v)) where
 rel:=λj t c=>by
  rcases cX c with⟨z,a,_⟩ | ⟨z,a⟩;cases a;subst z;exact⟨v,by rw[a7c (by rw[← ok.len];exact pW k)],r⟩;obtain⟨w,o,f⟩:=ok.rel j t a;exact⟨w,by rw[a9a (a3e z)];exact o,f⟩
 dis:=λj l t p q n c s m h b e=>by
  rcases cX c with⟨z,a,_⟩ | ⟨z,a⟩;cases a;cases m;rcases cX s with⟨y,g,_⟩ | ⟨y,g⟩;cases g;exact h rfl;rw[a9a (a3e z)]at b;rw[a9a (a3e y)]at e;exact ok.dis j l t p q n a g m h b e
 own:=λj t q c m b=>by
  rcases cX c with⟨z,a,_⟩ | ⟨z,a⟩;cases a;cases m;rw[a9a (a3e z)]at b;exact ok.own j t q a m b
 par:=λj t q c m b=>by
  rcases cX c with⟨z,a,_⟩ | ⟨z,a⟩;cases a;cases m;rw[a9a (a3e z)]at b;exact ok.par j t q a m b
 keep:=ok.keep
 dom:=ok.dom
 len:=by rw[a9e,a9e];exact ok.len
def Step.put(st:Step σ0 σV0 H0 σ σV H)(u:gZ σ i=true)(m:Md)(hm:m=.val\/m=.own/\∀ p,v=.ref p->H0 p=none):Step σ0 σV0 H0 (σ.set i (some ⟨m,d⟩)) (σV.set i (some v)) H:=by
 have b:m≠.lent:=by rcases hm with rfl | ⟨rfl,_⟩<;>exact λz=>nomatch z
 have w:=pW u;have h:∀ t,σ[i]? = some (some t)->t.m≠.par/\t.m≠.lent:=λt e=>by
  rcases cD5 u e with z | z<;>(rw[z];exact⟨(λy=>by cases y),(λy=>by cases y)⟩)
 refine⟨st.fr,st.dom,λa ⟨j,t,f,mt,g⟩=>?_,λa ⟨j,t,f,nv,g⟩=>?_,λj t f=>?_,λj t f k=>?_,λj t f k=>?_⟩
 ·rcases cX f with⟨z,c,_⟩ | ⟨z,c⟩;cases c;subst z;rcases hm with rfl | ⟨_,q⟩;cases mt;have:=a2a.mp g;obtain⟨x,l⟩:=this;rw[List.getElem_set_self]at l;exact .inr (q a (a0b l));rw[a9a (a3e z)]at g;exact st.mu a ⟨j,t,c,mt,g⟩
 ·rcases cX f with⟨z,c,_⟩ | ⟨z,c⟩;cases c;subst z;rcases hm with rfl | ⟨_,q⟩;exact absurd rfl nv;have:=a2a.mp g;obtain⟨x,l⟩:=this;rw[List.getElem_set_self]at l;exact .inr (q a (a0b l));rw[a9a (a3e z)]at g;exact st.nv a ⟨j,t,c,nv,g⟩
 ·obtain⟨n,o⟩:=st.kp j t f;by_cases z:j=i;subst z;exact⟨_,by rw[a7c w]⟩;exact⟨n,by rw[a9a (a3e z)];exact o⟩
 ·obtain⟨n,o,r,A,B⟩:=st.fix j t f k;have z:j≠i:=λz=>by
   subst z;obtain⟨n1,n2⟩:=h n o;rcases k with s | s;exact n1 (r.trans s);exact n2 (r.trans s)
  exact⟨n,by rw[a9a (a3e z)];exact o,r,A,by rw[a9a (a3e z)];exact B⟩
 ·rcases cX f with⟨z,c,_⟩ | ⟨z,c⟩;cases c;exact absurd k b;exact st.lt j t c k
def StOk.putOwn{p:Addr}(ok:StOk Γ H σ σV)(g:gZ σ i=true)(ow:fL H d p)(hn:¬ cA8 σ σV p)(h0:Γ.H₀ p=none):StOk Γ H (σ.set i (some ⟨.own,d⟩)) (σV.set i (some (.ref p))) where
 rel:=λj t e=>by
  rcases cX e with⟨z,c,_⟩ | ⟨z,c⟩;cases c;subst z;exact⟨.ref p,by rw[a7c (by rw[← ok.len];exact pW g)],p,rfl,ow⟩;obtain⟨w,u,h⟩:=ok.rel j t c;exact⟨w,by rw[a9a (a3e z)];exact u,h⟩
 dis:=λj l t k q n e o m r a b=>by
  have s:i < σV.length:=by rw[← ok.len];exact pW g
  rcases cX e with⟨z,c,_⟩ | ⟨z,c⟩;subst z;rw[a7c s]at a;have a:=a0b (a0b a);cases a;rcases cX o with⟨y,f,_⟩ | ⟨y,f⟩;exact n y.symm;rw[a9a (a3e y)]at b;exact hn ⟨l,k,f,r,b⟩;rw[a9a (a3e z)]at a;rcases cX o with⟨y,f,_⟩ | ⟨y,f⟩;subst y;rw[a7c s]at b;have b:=a0b (a0b b);cases b;exact hn ⟨j,t,c,jP m,a⟩;rw[a9a (a3e y)]at b;exact ok.dis j l t k q n c f m r a b
 own:=λj t q e m a=>by
  rcases cX e with⟨z,c,_⟩ | ⟨z,c⟩;subst z;rw[a7c (by rw[← ok.len];exact pW g)]at a;have a:=a0b (a0b a);cases a;exact h0;rw[a9a (a3e z)]at a;exact ok.own j t q c m a
 par:=λj t q e m a=>by
  rcases cX e with⟨z,c,_⟩ | ⟨z,c⟩;cases c;cases m;rw[a9a (a3e z)]at a;exact ok.par j t q c m a
 keep:=ok.keep
 dom:=ok.dom
 len:=by rw[a9e,a9e];exact ok.len
end
noncomputable def dV4(i:Nat)(r:Res)(σ:Sg):Option Sg:=match r with
 | .val d=>if gZ σ i=true then some (σ.set i (some ⟨.val,d⟩))else none
 | .own d=>if gZ σ i=true then some (σ.set i (some ⟨.own,d⟩))else none
 | .slot _=>none
noncomputable def cM(i:Nat)(r:DE):DS:=λσ=>(r σ).bind λx=>(dV4 i x.1 x.2).bind λa=>some (.nx a)
def bB7{Γ:Gm}{E:Ex}{i:Nat}{r:DE}{D:Ends}{σV:St}{H:Hp}(h:dTS Γ E (cM i r) D σV H):dTE Γ r σV H (λx n=>D.nx (σV.set i (some x)) n):=by
 obtain⟨σ,ok,o,e,k⟩:=h;obtain⟨⟨x,b⟩,s,e⟩:=aE e;obtain⟨c,m,e⟩:=aE e;cases e;refine⟨σ,ok,x,b,s,λv n f q g t=>?_⟩;cases x with
 | val d=>
   have a:(if gZ b i=true then some (b.set i (some ⟨.val,d⟩))else none)=some c:=m;split at a;rename_i l;cases a;exact k _ _ (f.put l q) (g.put l .val (.inl rfl));cases a
 | own d=>
   have a:(if gZ b i=true then some (b.set i (some ⟨.own,d⟩))else none)=some c:=m;split at a;rename_i l;cases a;obtain⟨p,rfl,u,w,y⟩:=q;exact k _ _ (f.putOwn l u w y) (g.put l .own (.inr ⟨rfl,λp e=>t _ p rfl e⟩));cases a
 | slot j=>cases m
def dM1{X:Cx}{E:Ex}{i:Nat}{st:Stmt}{r:DE}(h:∀ Γ,PS X st (cR6 (dTE Γ r) (aE8 i))):GS E X st (cM i r):=.mk λΓ=>psW (h Γ) λ_ _ _ h=>bB7 h
noncomputable def aB8(x:Str):List D:=x.cps.toList.map λc=>.str ⟨#[c]⟩
def aM6{H:Hp}(x:Str):Rps H (aB8 x) (hX x):=by
 unfold aB8 hX
 induction x.cps.toList with
 | nil=>exact .nil
 | cons a r b=>exact .cons (.str _) b
abbrev DG:=D->Sg->Option Sg
abbrev DGs:=List D->Sg->Option Sg
def cN7(own:List Nat)(g:TG)(e:DG):Prop:=∀ Γ H b a c σ σV d v σ' Q,StOk Γ H σ σV->Step b a c σ σV H->Rp H d v->e d σ=some σ' ->
 (∀ σV',StOk Γ H σ' σV'->Step b a c σ' σV' H->σV'.length=σV.length->(∀ i,i∉own->σV'[i]? = σV[i]? /\ σ'[i]? = σ[i]?)->Q σV' H)->g v σV H Q
def cD6(own:List Nat)(g:TGs)(e:DGs):Prop:=∀ Γ H b a c σ σV d vs σ' Q,StOk Γ H σ σV->Step b a c σ σV H->Rps H d vs->e d σ=some σ' ->
 (∀ σV',StOk Γ H σ' σV'->Step b a c σ' σV' H->σV'.length=σV.length->(∀ i,i∉own->σV'[i]? = σV[i]? /\ σ'[i]? = σ[i]?)->Q σV' H)->g vs σV H Q
noncomputable def dgN(i:Nat):DG:=λd σ=>if gZ σ i=true then some (σ.set i (some ⟨.val,d⟩))else none
noncomputable def lA:DGs:=λa σ=>if a.isEmpty then some σ else none
noncomputable def cT(g:DG)(b:DGs):DGs:=λc σ=>match c with
 | d::r=>(g d σ).bind λa=>b r a
 | []=>none
noncomputable def lR(n:Nat)(a:DGs):DG:=λd σ=>match d with
 | .tup l=>if l.length=n then a l σ else none
 | .str z=>if z.length=n then a (aB8 z) σ else none
 | _=>none
def aT{own:List Nat}{i:Nat}(h:i∈own):cN7 own (aE8 i) (dgN i):=by
 intro Γ H c a g σ σV d v σ' Q ok st r e k;unfold dgN at e;split at e;rename_i b;cases e;refine k _ (ok.put b r) (st.put b .val (.inl rfl)) (by simp) λj f=>?_;have:i≠j:=λz=>f (by rw[← z];exact h);exact⟨a9a this,a9a this⟩;cases e
def iK{own:List Nat}:cD6 own dU8 lA:=by
 intro Γ H b a c σ σV d vs σ' Q ok st r e k;unfold lA at e;cases r with
 | nil=>cases e;exact⟨rfl,k _ ok st rfl λ_ _=>⟨rfl,rfl⟩⟩
 | cons _ _=>cases e
def bX{own:List Nat}{g:TG}{p:DG}{q:TGs}{c:DGs}(w:cN7 own g p)(x:cD6 own q c):cD6 own (bL7 g q) (cT p c):=by
 intro Γ H d b s σ σV A vs σ' Q ok st r e k;cases r with
 | nil=>cases e
 | cons a t=>
   obtain⟨f,y,e⟩:=aE e;refine⟨_,_,rfl,w Γ H d b s σ σV _ _ f _ ok st a y λh l m l1 u=>?_⟩;refine x Γ H d b s f h _ _ σ' _ l m t e λj n o z v=>?_;exact k j n o (z.trans l1) λi hi=>⟨(v i hi).1.trans (u i hi).1,(v i hi).2.trans (u i hi).2⟩
def lH{own:List Nat}{K:W.Frag}{n:Nat}{i:TGs}{a:DGs}(h:cD6 own i a):cN7 own (aT8 K n i) (lR n a):=by
 intro Γ H f b j σ σV d v σ' Q ok st r e k;cases d with
 | tup l=>
   have c:(if l.length=n then a l σ else none)=some σ':=e;split at c;rename_i g;obtain⟨p,xs,rfl,o,m⟩:=gU (.inl r);exact⟨xs,eM o,by rw[← m.length];exact g,h Γ H f b j σ σV l xs σ' Q ok st m c k⟩;cases c
 | str z=>
   have c:(if z.length=n then a (aB8 z) σ else none)=some σ':=e;split at c;rename_i g;cases r;exact⟨g,h Γ H f b j σ σV _ _ σ' Q ok st (aM6 z) c k⟩;cases c
 | _=>cases e
noncomputable def eD1(g:DG)(r:DE):DS:=λσ=>(r σ).bind λx=>match x.1 with
 | .val d=>(g d x.2).bind λa=>some (.nx a)
 | _=>none
noncomputable def dV5(i j:Nat)(a:DA):DS:=λσ=>(a σ).bind λx=>(vals x.1).bind λb=>match b with
 | [d,e]=>if gZ x.2 i=true/\gZ x.2 j=true/\i≠j then some (.nx ((x.2.set i (some ⟨.val,d⟩)).set j (some ⟨.val,e⟩)))else none
 | _=>none
def dM2{X:Cx}{E:Ex}{i j:Nat}{st:Stmt}{p:DA}(h:∀ Γ,PS X st (dW6 i j (dTA Γ p))):GS E X st (dV5 i j p):=.mk λΓ=>psW (h Γ) λD σV H ⟨σ,ok,o,e,k⟩=>by
 obtain⟨⟨x,c⟩,q,e⟩:=aE e;obtain⟨v,r,e⟩:=aE e;refine⟨σ,ok,x,c,q,λvs w l s m z=>?_⟩;have u:=pU s r;dsimp only at e;split at e
 ·split at e
  ·rename_i d y g;cases e;cases u with
   | cons a t=>cases t with
     | cons b t=>cases t with
       | nil=>
         refine⟨_,_,rfl,?_⟩;have n:=l.put g.1 a;have f:gZ (c.set i (some ⟨.val,d⟩)) j=true:=by
          unfold gZ;rw[a9a g.2.2];exact g.2.1
         exact k _ _ (n.put f b) ((m.put g.1 .val (.inl rfl)).put f .val (.inl rfl))
  ·cases e
 ·cases e
noncomputable def lend(i:Nat)(σ:Sg):Sg:=match σ[i]? with
 | some (some s)=>if s.m.mt=true then σ.set i (some ⟨.lent,s.d⟩)else σ
 | _=>σ
noncomputable def unl(i:Nat)(a σ:Sg):Sg:=match a[i]?,σ[i]? with
 | some (some s0),some (some s)=>if s0.m.mt=true then σ.set i (some ⟨s0.m,s.d⟩)else σ
 | _,_=>σ
noncomputable def lendO(l:Option Nat)(σ:Sg):Sg:=match l with
 | some i=>lend i σ
 | none=>σ
noncomputable def aB9(l:Option Nat)(a σ:Sg):Sg:=match l with
 | some i=>unl i a σ
 | none=>σ
section
variable{Γ:Gm}{H H1 H2:Hp}{σ σ1 σ2:Sg}{σV σV2:St}{i:Nat}{s:Sl}
def aG5(a:σ[i]? = some (some s))(hm:s.m.mt=true):lend i σ=σ.set i (some ⟨.lent,s.d⟩):=by
 unfold lend;rw[a];simp only[hm,if_true]
def aU6(h:∀ s,σ[i]? = some (some s)->s.m.mt=false):lend i σ=σ:=by
 unfold lend;split;rename_i s a;rw[a3P (by rw[h s a];exact a7b)];rfl
theorem StOk.lend(ok:StOk Γ H σ σV):StOk Γ H (lend i σ) σV:=by
 by_cases g:∃ s,σ[i]? = some (some s)/\s.m.mt=true
 ·obtain⟨s,c,hm⟩:=g;rw[aG5 c hm];obtain⟨p,k,o⟩:=ok.ownAt c (jP hm);have back:∀ (j:Nat) t,(σ.set i (some ⟨.lent,s.d⟩))[j]? = some (some t)->(j=i/\t=⟨.lent,s.d⟩)\/(j≠i/\σ[j]? = some (some t)):=λj t a=>by
   rcases cX a with⟨z,r,_⟩ | z;cases r;exact .inl ⟨z,rfl⟩;exact .inr z
  refine⟨λj t a=>?_,λj l t h q n a u m v b f=>?_,λj t q a m b=>?_,λj t q a m b=>?_,ok.keep,ok.dom,by rw[a9e];exact ok.len⟩;rcases back j t a with⟨rfl,rfl⟩ | ⟨_,z⟩;exact⟨_,k,p,rfl,o⟩;exact ok.rel j t z;rcases back j t a with⟨rfl,rfl⟩ | ⟨_,z⟩;cases m;rcases back l h u with⟨rfl,rfl⟩ | ⟨_,y⟩;exact ok.dis j l t s q n z c m (jP hm) b f;exact ok.dis j l t h q n z y m v b f;rcases back j t a with⟨rfl,rfl⟩ | ⟨_,z⟩;cases m;exact ok.own j t q z m b;rcases back j t a with⟨rfl,rfl⟩ | ⟨_,z⟩;cases m;exact ok.par j t q z m b
 ·rw[aU6 λs c=>by
   cases e:s.m.mt with
   | false=>rfl
   | true=>exact absurd ⟨s,c,e⟩ g]
  exact ok
def dM3(ok:StOk Γ H1 σ1 σV)(c:StOk Γ H2 σ2 σV2)(st:Step (lend i σ1) σV H1 σ2 σV2 H2):StOk Γ H2 (unl i σ1 σ2) σV2/\Step σ1 σV H1 (unl i σ1 σ2) σV2 H2:=by
 by_cases S:∃ s,σ1[i]? = some (some s)/\s.m.mt=true
 ·obtain⟨s,u,hm⟩:=S;have X:i < σ1.length:=(a2a.mp u).1;rw[aG5 u hm]at st;have M:(σ1.set i (some ⟨.lent,s.d⟩))[i]? = some (some ⟨.lent,s.d⟩):=by rw[a7c X]
  obtain⟨s2,K,Y,d2,v2⟩:=st.fix i _ M (.inr rfl);have D:s2.m=.lent:=Y;have E:i < σ2.length:=(a2a.mp K).1;have N:unl i σ1 σ2=σ2.set i (some ⟨s.m,s2.d⟩):=by unfold unl;rw[u,K];simp only[hm,if_true]
  rw[N];obtain⟨p,A,ow⟩:=ok.ownAt u (jP hm);have f:σV2[i]? = some (some (.ref p)):=v2.trans A;obtain⟨p',T,O⟩:=c.ownAt K (by rw[D];exact λz=>nomatch z);rw[f]at T;cases T;have F:∀ (j:Nat) t,j≠i->σ2[j]? = some (some t)->t.m=.lent->σV2[j]? ≠ some (some (.ref p)):=λj t B b P e=>by
   obtain⟨G,C,H⟩:=st.lt j t b P;rw[a9a (a3e B)]at C;have Z:(σ1.set i (some ⟨.lent,s.d⟩))[j]? = some (some G):=by rw[a9a (a3e B)];exact C
   obtain⟨_,_,_,_,vj⟩:=st.fix j G Z (.inr H);rw[vj]at e;exact ok.dis i j s G p (a3e B) u C hm (by rw[H];exact λz=>nomatch z) A e
  have r:∀ (j:Nat) t,j≠i->σ2[j]? = some (some t)->t.m≠.val->σV2[j]? ≠ some (some (.ref p)):=λj t B b P e=>by
   by_cases U:t.m=.lent;exact F j t B b U e;have Q:t.m.mt=true:=by
    cases q:t.m with
    | val=>exact absurd q P
    | own=>rfl
    | par=>rfl
    | lent=>exact absurd q U
   exact c.dis j i t s2 p B b K Q (by rw[D];exact λz=>nomatch z) e f
  have back:∀ (j:Nat) t,(σ2.set i (some ⟨s.m,s2.d⟩))[j]? = some (some t)->(j=i/\t=⟨s.m,s2.d⟩)\/(j≠i/\σ2[j]? = some (some t)):=λj t b=>by
   rcases cX b with⟨z,w,_⟩ | z;cases w;exact .inl ⟨z,rfl⟩;exact .inr z
  have sub:∀ a,sJ (σ1.set i (some ⟨.lent,s.d⟩)) σV a->sJ σ1 σV a:=λa ⟨j,t,b,m,k⟩=>by
   rcases cX b with⟨z,w,_⟩ | ⟨z,w⟩;cases w;cases m;exact⟨j,t,w,m,k⟩
  have I:∀ a,cA8 (σ1.set i (some ⟨.lent,s.d⟩)) σV a->cA8 σ1 σV a:=λa ⟨j,t,b,m,k⟩=>by
   rcases cX b with⟨z,w,_⟩ | ⟨z,w⟩;subst z;exact⟨j,s,u,jP hm,k⟩;exact⟨j,t,w,m,k⟩
  constructor
  ·refine⟨λj t b=>?_,λj l t x q n b V m L g v=>?_,λj t q b m g=>?_,λj t q b m g=>?_,c.keep,c.dom,by rw[a9e];exact c.len⟩;rcases back j t b with⟨rfl,rfl⟩ | ⟨_,z⟩;exact⟨_,f,(eN (s:=⟨s.m,s2.d⟩) (jP hm)).mpr ⟨p,rfl,O⟩⟩;exact c.rel j t z
   ·rcases back j t b with⟨rfl,rfl⟩ | ⟨zn,z⟩;rw[f]at g;have g:=a0b (a0b g);cases g;rcases back l x V with⟨rfl,rfl⟩ | ⟨W,y⟩;exact n rfl;exact r l x W y L v;rcases back l x V with⟨rfl,rfl⟩ | ⟨W,y⟩;rw[f]at v;have v:=a0b (a0b v);cases v;exact r j t zn z (jP m) g;exact c.dis j l t x q n z y m L g v
   ·rcases back j t b with⟨rfl,rfl⟩ | ⟨_,z⟩;rw[f]at g;have g:=a0b (a0b g);cases g;exact ok.own j s p u m A;exact c.own j t q z m g
   ·rcases back j t b with⟨rfl,rfl⟩ | ⟨_,z⟩;rw[f]at g;have g:=a0b (a0b g);cases g;exact ok.par j s p u m A;exact c.par j t q z m g
  ·refine⟨λa o e n=>st.fr a o e λz=>n (sub a z),st.dom,λa ⟨j,t,b,m,k⟩=>?_,λa ⟨j,t,b,m,k⟩=>?_,λj t b=>?_,λj t b m=>?_,λj t b m=>?_⟩;rcases back j t b with⟨rfl,rfl⟩ | ⟨_,z⟩;rw[f]at k;have k:=a0b (a0b k);cases k;exact .inl ⟨j,s,u,hm,A⟩;rcases st.mu a ⟨j,t,z,m,k⟩with y | y;exact .inl (sub a y);exact .inr y;rcases back j t b with⟨rfl,rfl⟩ | ⟨_,z⟩;rw[f]at k;have k:=a0b (a0b k);cases k;exact .inl ⟨j,s,u,jP hm,A⟩;rcases st.nv a ⟨j,t,z,m,k⟩with y | y;exact .inl (I a y);exact .inr y;by_cases z:j=i;subst z;exact⟨_,by rw[a7c E]⟩;obtain⟨x,R⟩:=st.kp j t (by rw[a9a (a3e z)];exact b);exact⟨x,by rw[a9a (a3e z)];exact R⟩;by_cases z:j=i;subst z;rw[u]at b;cases b;refine⟨⟨s.m,s2.d⟩,by rw[a7c E],rfl,λq=>?_,v2⟩;rw[q]at hm;cases hm;obtain⟨x,R,h⟩:=st.fix j t (by rw[a9a (a3e z)];exact b) m;exact⟨x,by rw[a9a (a3e z)];exact R,h⟩;rcases back j t b with⟨rfl,rfl⟩ | ⟨zn,z⟩;have L:s.m=.lent:=m;rw[L]at hm;cases hm;obtain⟨G,C,m1⟩:=st.lt j t z m;rw[a9a (a3e zn)]at C;exact⟨G,C,m1⟩
 ·have J:∀ s,σ1[i]? = some (some s)->s.m.mt=false:=λs u=>by
   cases e:s.m.mt with
   | false=>rfl
   | true=>exact absurd ⟨s,u,e⟩ S
  rw[aU6 J]at st;have N:unl i σ1 σ2=σ2:=by
   unfold unl;split;rename_i s0 s' h0 h';rw[a3P (by rw[J s0 h0];exact a7b)];rfl
  rw[N];exact⟨c,st⟩
theorem StOk.lendO{l:Option Nat}(ok:StOk Γ H σ σV):StOk Γ H (lendO l σ) σV:=by
 cases l with
 | none=>exact ok
 | some i=>exact ok.lend
def aG6{l:Option Nat}(ok:StOk Γ H1 σ1 σV)(a:StOk Γ H2 σ2 σV2)(st:Step (lendO l σ1) σV H1 σ2 σV2 H2):StOk Γ H2 (aB9 l σ1 σ2) σV2/\Step σ1 σV H1 (aB9 l σ1 σ2) σV2 H2:=by
 cases l with
 | none=>exact⟨a,st⟩
 | some i=>exact dM3 ok a st
def cV3{l:Option Nat}{r:Res}{v:V}(st:Step (lendO l σ1) σV H1 σ2 σV2 H2)(h:lV Γ H2 σ2 σV2 r v):lV Γ H2 (aB9 l σ1 σ2) σV2 r v:=by
 cases l with
 | none=>exact h
 | some i=>
   show lV Γ H2 (unl i σ1 σ2) σV2 r v;have a:Step (lend i σ1) σV H1 σ2 σV2 H2:=st;unfold unl;split
   ·rename_i g s' h0 h';split
    ·rename_i hm;cases r with
     | val d=>exact h
     | own d=>
       obtain⟨p,b,c,k,n⟩:=h;refine⟨p,b,c,λ⟨j,t,o,m,e⟩=>k ?_,n⟩;rcases cX o with⟨z,f,_⟩ | ⟨z,f⟩;subst z;rw[aG5 h0 hm]at a;obtain⟨q,s,u,_⟩:=a.fix j ⟨.lent,g.d⟩ (by rw[a7c (a2a.mp h0).1]) (.inr rfl);exact⟨j,q,s,by rw[u];exact λz=>(by cases z),e⟩
       ·exact⟨j,t,f,m,e⟩
     | slot j=>
       obtain⟨b,t,c⟩:=h;refine⟨b,?_⟩;by_cases z:j=i;subst z;exact⟨_,by rw[a7c (a2a.mp h').1]⟩
       ·exact⟨t,by rw[a9a (a3e z)];exact c⟩
    ·exact h
   ·exact h
end
structure ItD(J:It)(items:List D)(P:Hp->Prop):Prop where
 go:∀ H i d,P H->items[i]? = some d->J.go i H
 yld:∀ H i d y H',P H->items[i]? = some d->J.yld i H y H'->aT4 H H'/\Rp H' d y
 stop:∀ H,P H->J.stop items.length H
def aM7{J:It}{xs:List V}{P:Hp->Prop}{items:List D}(w:ItIs J xs P):ItD J items (λH=>P H/\Rps H items xs) where
 go:=λH i d ⟨h,r⟩ e=>by
  obtain⟨x,ex,_⟩:=r.get e;exact w.go H i x h ex
 yld:=λH i d y H' ⟨h,r⟩ e q=>by
  obtain⟨x,ex,a⟩:=r.get e;obtain⟨rfl,rfl⟩:=w.yld H i x y H' h ex q;exact⟨.refl _,a⟩
 stop:=λH ⟨h,r⟩=>by
  refine w.stop H _ h ?_;have:=r.length;rw[a4d];lia
abbrev DI:=Sg->Option (List D×Option Nat×Sg)
def dTI(Γ:Gm)(ri:DI):TI:=λσV H R=>∃ σ,StOk Γ H σ σV/\∃ items l a,ri σ=some (items,l,a)/\∀ J c P,StOk Γ c a σV->Step σ σV H a σV c->ItD J items P ->
 (∀ d b e,Step (lendO l a) σV c d b e->P e)->R J c
structure GI(X:Cx)(tg iter:Expr)(ri:DI):Prop where
 to:∀ Γ,PI X tg iter (dTI Γ ri)
def piW{X:Cx}{tg e:Expr}{t t':TI}(h:PI X tg e t)(w:∀ σ H Q,t' σ H Q->t σ H Q):PI X tg e t':=λpins s σ H Q I q=>h pins s σ H Q I (w σ H Q q)
noncomputable def aM8:D->Option (List D)
 | .lst l=>some l
 | .tup l=>some l
 | .str x=>some (aB8 x)
 | _=>none
noncomputable def dIt(r:DE):DI:=λσ=>(r σ).bind λx=>(rd x.2 x.1).bind λd=>(aM8 d).bind λl=>some (l,(match x.1 with | .slot i=>some i | _=>none),x.2)
def iU{H a:Hp}{p:Addr}{o:HO}(h:H p=some o)(b:a p=some o):hR a p=hR H p:=by unfold hR;rw[h,b]
def tR{Γ:Gm}{g:Hp}{a:Sg}{σV:St}{x:Res}{v:V}{d:D}{items:List D}(B:StOk Γ g a σV)(h:lV Γ g a σV x v)(P:rd a x=some d)(I:aM8 d=some items)(vw:Vw g d v) :
  ∀ p b xs,v=.ref p->hR g p=some (b,xs)->Rps g items xs->∀ C k E,Step (lendO (match x with | .slot i=>some i | _=>none) a) σV g C k E->hR E p=some (b,xs)/\Rps E items xs:=by
 intro p b xs u y U C k E n;have ext:Ext g E:=n.ext (Γ:=Γ) B.lendO;refine⟨?_,U.mono ext⟩;cases x with
 | val d'=>
   cases P;subst u;cases d with
   | tup J=>obtain⟨_,_,e,f,_⟩:=gU vw;cases e;rw[iU f (ext.tup _ _ f)];exact y
   | lst J=>
     cases h with
     | lst f _=>rw[iU f (ext.frz _ _ _ f)];exact y
   | dic ks vs=>cases I
   | str z=>cases h
   | _=>cases I
 | own d'=>
   obtain⟨q,Q,K,W,_⟩:=h;rw[u]at Q;cases Q;obtain⟨o,F,_⟩:=K.obj;rw[iU F (n.fr p o F (λz=>W z.nv))];exact y
 | slot i=>
   obtain⟨h,s,l⟩:=h;have c:StOk Γ g a σV:=B;by_cases hm:s.m=.val
   ·obtain⟨w,R,L⟩:=c.rel i s l;rw[h]at R;cases R;subst u;obtain⟨m,S⟩:=s;cases hm;have M:some S=some d:=by
     have:rd a (.slot i)=some S:=by show(match a[i]? with | some (some s)=>some s.d | _=>none)=_;rw[l]
     rw[← this];exact P
    cases M;have N:Rp g d (.ref p):=L;cases d with
    | tup J=>obtain⟨_,_,e,f,_⟩:=gU (.inl N);cases e;rw[iU f (ext.tup _ _ f)];exact y
    | lst J=>
      cases N with
      | lst f _=>rw[iU f (ext.frz _ _ _ f)];exact y
    | dic ks vs=>cases I
    | str z=>cases N
    | _=>cases I
   ·obtain⟨q,G,K⟩:=c.ownAt l hm;rw[h]at G;have G:=a0b (a0b G);rw[u]at G;cases G;obtain⟨o,F,_⟩:=K.obj;have X:¬ sJ (lend i a) σV p:=by
     rintro⟨j,t,A,m,T⟩;by_cases r:s.m.mt=true;rw[aG5 l r]at A;rcases cX A with⟨_,O,_⟩ | ⟨z,O⟩;cases O;cases m;exact c.dis j i t s p z O l m hm T (by rw[h,u]);rw[aU6 (λs' H=>by rw[l]at H;cases H;exact Bool.eq_false_iff.mpr r)]at A;by_cases z:j=i;subst z;rw[l]at A;cases A;exact r m;exact c.dis j i t s p z A l m hm T (by rw[h,u])
    rw[iU F (n.fr p o F X)];exact y
def cL{X:Cx}{tg e:Expr}{r:DE}(K:W.Frag)(w:X.K=K)(h:GE X e r):GI X tg e (dIt r):=.mk λΓ=>piW (bQ5 K w (h.to Γ)) λσV H R ⟨σ,ok,items,l,y,e,k⟩=>by
 obtain⟨⟨x,A⟩,B,e⟩:=aE e;obtain⟨d,t,e⟩:=aE e;obtain⟨C,i,e⟩:=aE e;cases e;refine⟨σ,ok,x,_,B,λv n b u g E=>?_⟩;have vw:=u.vw b t;have stay:=tR b u t i vw;cases d with
 | lst D=>
   cases i;obtain⟨p,xs,rfl,j,o⟩:=iN vw;refine .inl ⟨xs,j,k _ n _ b g (aM7 (aL7 (xs:=xs))) λc a m f=>?_⟩;obtain⟨q,s⟩:=stay p true xs rfl j o c a m f;exact⟨fN q,s⟩
 | tup D=>
   cases i;obtain⟨p,xs,rfl,j,o⟩:=gU vw;refine .inr ⟨xs,eM j,k _ n _ b g (aM7 (cC0 (xs:=xs))) λc a m f=>?_⟩;obtain⟨q,s⟩:=stay p false xs rfl (eM j) o c a m f;exact⟨fJ q,s⟩
 | str z=>
   cases i;obtain rfl:=nD vw;exact k _ n (λH=>True/\Rps H (aB8 z) (hX z)) b g (aM7 cC1) λc a m f=>⟨True.intro,aM6 z⟩
 | _=>cases i
noncomputable def sL(lo:Int)(n:Nat):List D:=(List.range n).map λ(i:Nat)=>D.int (lo+(i:Int))
def bR6{H:Hp}(lo:Int)(n:Nat):Rps H (sL lo n) (cT5 lo n):=by
 unfold sL cT5
 induction List.range n with
 | nil=>exact .nil
 | cons a r b=>exact .cons (.int _) b
noncomputable def sU(a:DA):DI:=λσ=>(a σ).bind λx=>(rds x.2 x.1).bind λb=>match b with
 | [.int j]=>if -(2 ^ 62)<=j/\j < 2 ^ 62 then some (sL 0 j.toNat,none,x.2)else none
 | [.int i,.int j]=>if(-(2 ^ 62)<=i/\i < 2 ^ 62) /\ -(2 ^ 62)<=j/\j < 2 ^ 62 then some (sL i (j-i).toNat,none,x.2)else none
 | _=>none
def iY{X:Cx}{tg e:Expr}{d:DA}(h:∀ Γ,PI X tg e (cR7 (dTA Γ d)))(n:∀ σ rs σ',d σ=some (rs,σ')->rs.length=1):GI X tg e (sU d):=.mk λΓ=>piW (h Γ) λσV H R ⟨σ,ok,items,l,o,e,k⟩=>by
 obtain⟨⟨x,p⟩,g,e⟩:=aE e;obtain⟨y,r,e⟩:=aE e;refine⟨σ,ok,x,_,g,λvs s c i f z=>?_⟩;have vw:=tP c i r;have u:=n _ _ _ g;dsimp only at e;split at e
 ·split at e
  ·rename_i j;cases e;cases vw with
   | cons a t=>
     cases t;obtain rfl:=eQ a;exact⟨_,rfl,j.1,j.2,k _ s (λH=>True/\Rps H _ _) c f (aM7 pQ) λv m A w=>⟨True.intro,bR6 _ _⟩⟩
  ·cases e
 ·exfalso;cases vw with
  | cons a t=>cases t with
    | cons b t=>
      cases i with
      | cons _ q _=>cases q with
        | cons _ q _=>simp at u
 ·cases e
def cV4{X:Cx}{tg e:Expr}{f:DA}(h:∀ Γ,PI X tg e (cR8 (dTA Γ f)))(n:∀ σ rs σ',f σ=some (rs,σ')->rs.length=2):GI X tg e (sU f):=.mk λΓ=>piW (h Γ) λσV H R ⟨σ,ok,items,l,o,e,k⟩=>by
 obtain⟨⟨x,p⟩,i,e⟩:=aE e;obtain⟨y,r,e⟩:=aE e;refine⟨σ,ok,x,_,i,λvs s c j g z=>?_⟩;have vw:=tP c j r;have u:=n _ _ _ i;dsimp only at e;split at e
 ·exfalso;cases vw with
  | cons a t=>
    cases t;cases j with
    | cons _ q _=>cases q;simp at u
 ·split at e
  ·rename_i d;cases e;cases vw with
   | cons a t=>cases t with
     | cons b t=>
       cases t;obtain rfl:=eQ a;obtain rfl:=eQ b;exact⟨_,_,rfl,⟨d.1.1,d.1.2,d.2.1,d.2.2⟩,k _ s (λH=>True/\Rps H _ _) c g (aM7 pQ) λv m A w=>⟨True.intro,bR6 _ _⟩⟩
  ·cases e
 ·cases e
theorem aS4{r:DE}:∀ σ rs σ',aC r aL σ=some (rs,σ')->rs.length=1:=λσ rs σ' e=>by
 obtain⟨x,_,e⟩:=aE e;cases e;rfl
def dM4{r a:DE}:∀ σ rs σ',aC r (aC a aL) σ=some (rs,σ')->rs.length=2:=λσ rs σ' e=>by
 obtain⟨x,_,e⟩:=aE e;obtain⟨y,h,e⟩:=aE e;cases e;have:=aS4 _ _ _ h;simp[this]
noncomputable def bR7(g:DG)(b:DS):List D->Sg->Option Out
 | [],σ=>some (.nx σ)
 | d::r,σ=>(g d σ).bind λe=>(b e).bind λo=>match o with
   | .nx a=>bR7 g b r a
   | .ct a=>bR7 g b r a
   | .bk a=>some (.nx a)
   | .rt x a=>some (.rt x a)
   | .ex c f a=>some (.ex c f a)
noncomputable def aC0(l:Option Nat)(a:Sg):Out->Out
 | .nx σ=>.nx (aB9 l a σ)
 | .rt r σ=>.rt r (aB9 l a σ)
 | .bk σ=>.bk (aB9 l a σ)
 | .ct σ=>.ct (aB9 l a σ)
 | .ex c f σ=>.ex c f (aB9 l a σ)
noncomputable def qY(ri:DI)(g:DG)(b:DS):DS:=λσ=>(ri σ).bind λx=>(bR7 g b x.1 (lendO x.2.1 x.2.2)).bind λo=>some (aC0 x.2.1 x.2.2 o)
def cD7{Γ:Gm}{E:Ex}{own:List Nat}{ri:DI}{g:TG}{S:DG}{b:DS}(hg:cN7 own g S){D:Ends}{σV:St}{H:Hp}(h:dTS Γ E (qY ri S b) D σV H):dU9 (dTI Γ ri) g (dTS Γ E b) D σV H:=by
 obtain⟨σ,ok,o,e,k⟩:=h;obtain⟨⟨items,l,u⟩,e1,e⟩:=aE e;obtain⟨U,e2,e⟩:=aE e;cases e;refine⟨σ,ok,items,l,u,e1,λJ T P F M N stay=>?_⟩;dsimp only at e2
 -- V end that is wanted of V walk
 have K:∀ n a w,StOk Γ w n a->Step (lendO l u) σV T n a w->∀ W,W=U->(∀ σ',W=.nx σ'->∀ σV' H',StOk Γ H' σ' σV'->Step (lendO l u) σV T σ' σV' H'->D.nx σV' H'):=by
  intro n a w G B W ho σ' X σV' H' Y Z;subst ho X;obtain⟨O,Q⟩:=aG6 F Y Z;exact k σV' H' O (M.trans Q)
 refine⟨λi m a w=>m=items.length-i/\i<=items.length/\∃ n,bR7 S b (items.drop i) n=some U/\StOk Γ w n a/\Step (lendO l u) σV T n a w,⟨items.length,by simp,a0d _,lendO l u,by simpa using e2,F.lendO,.refl⟩,?_⟩;rintro i m a w ⟨rfl,hi,n,A,G,B⟩;have hP:=stay n a w B;by_cases I:i < items.length
 ·have ei:items[i]? = some items[i]:=a0a I;refine .inr ⟨N.go w i _ hP ei,λC R=>∃ m',m' < items.length-i/\m'=items.length-(i+1)/\i+1<=items.length/\∃ z,bR7 S b (items.drop (i+1)) z=some U/\StOk Γ R z C/\Step (lendO l u) σV T z C R,λσ' H' q=>q,λy R hy=>?_⟩;obtain⟨sm,ry⟩:=N.yld w i _ y R hP ei hy;rw[List.drop_eq_getElem_cons I]at A;obtain⟨z,eg,A⟩:=aE A;obtain⟨ob,eb,A⟩:=aE A;refine hg Γ R _ _ _ n a _ y z _ (G.same sm) (B.trans (.same sm)) ry eg λC ok3 t _ _=>?_;refine⟨z,ok3,ob,eb,?_⟩;cases ob with
  | nx s=>exact λj L r p=>⟨_,by lia,rfl,I,s,A,r,t.trans p⟩
  | ct s=>exact λj L r p=>⟨_,by lia,rfl,I,s,A,r,t.trans p⟩
  | bk s=>
    cases A;exact λj L r p=>K s j L r (t.trans p) _ rfl s rfl j L r (t.trans p)
  | rt x s=>
    cases A;intro v j L r r4 p;obtain⟨O,Q⟩:=aG6 F r (t.trans p);exact k v j L O (cV3 (t.trans p) r4) (M.trans Q)
  | ex c f s=>
    cases A;intro v d j L r r4 p;obtain⟨O,Q⟩:=aG6 F r (t.trans p);exact k v d j L O r4 (M.trans Q)
 ·have e0:i=items.length:=by lia
  subst e0;rw[List.drop_length]at A;cases A;exact .inl ⟨N.stop w hP,K n a w G B _ rfl n rfl a w G B⟩
def iZ{X:Cx}{E:Ex}{own:List Nat}{st:Stmt}{ri:DI}{g:TG}{a:DG}{b:DS}(c:cN7 own g a)(h:∀ Γ,PS X st (dU9 (dTI Γ ri) g (dTS Γ E b))):GS E X st (qY ri a b):=.mk λΓ=>psW (h Γ) λ_ _ _=>cD7 c
def bR8:∃ n:Nat,1000000<=n:=⟨_,a7a _⟩
noncomputable def dD7:Nat:=Classical.choose bR8
def cV5:1000000<=dD7:=Classical.choose_spec bR8
noncomputable def rY(c:DT)(b:DS):Nat->Sg->Option Out
 | 0,_=>none
 | n+1,σ=>(c σ).bind λx=>if x.1=true then(b x.2).bind λo=>match o with
   | .nx a=>rY c b n a
   | .ct a=>rY c b n a
   | .bk a=>some (.nx a)
   | .rt r a=>some (.rt r a)
   | .ex c f a=>some (.ex c f a)else some (.nx x.2)
noncomputable def tT(c:DT)(b:DS):DS:=λσ=>rY c b dD7 σ
def bH8{Γ:Gm}{E:Ex}{c:DT}{b:DS}{D:Ends}{σV:St}{H:Hp}(h:dTS Γ E (tT c b) D σV H):bL8 (dTT Γ c) (dTS Γ E b) D σV H:=by
 obtain⟨σ,ok,o,e,k⟩:=h;refine⟨λm l A=>∃ u,rY c b m u=some o/\StOk Γ A u l/\Step σ σV H u l A,⟨dD7,σ,e,ok,.refl⟩,?_⟩;rintro m l A ⟨u,p,B,r⟩;cases m with
 | zero=>cases p
 | succ n=>
   obtain⟨⟨t,y⟩,I,p⟩:=aE p;refine⟨u,B,t,y,I,λJ z s=>?_⟩;dsimp only at p;split at p
   ·rename_i C;rw[a3O C];obtain⟨ob,K,p⟩:=aE p;refine⟨λa w=>∃ G,G < n+1/\∃ g,rY c b G g=some o/\StOk Γ w g a/\Step σ σV H g a w,λ_ _ q=>q,y,z,ob,K,?_⟩;cases ob with
    | nx g=>exact λa w i j=>⟨n,Nat.lt_succ_self n,g,p,i,(r.trans s).trans j⟩
    | ct g=>exact λa w i j=>⟨n,Nat.lt_succ_self n,g,p,i,(r.trans s).trans j⟩
    | bk g=>cases p;exact λa w i j=>k a w i ((r.trans s).trans j)
    | rt x g=>cases p;exact λv a w i F j=>k v a w i F ((r.trans s).trans j)
    | ex c f g=>cases p;exact λv d a w i F j=>k v d a w i F ((r.trans s).trans j)
   ·rename_i C;rw[a3P C];cases p;exact k l J z (r.trans s)
def aG7{X:Cx}{E:Ex}{st:Stmt}{c:DT}{b:DS}(h:∀ Γ,PS X st (bL8 (dTT Γ c) (dTS Γ E b))):GS E X st (tT c b):=.mk λΓ=>psW (h Γ) λ_ _ _=>bH8
noncomputable def dE(ow:List Nat)(σ:Sg):Sg:=ow.foldl (λσ i=>σ.set i none) σ
noncomputable def nS(ow:List Nat)(σ a:Sg):Sg:=ow.foldl (λa i=>a.set i (σ[i]?.getD none)) a
theorem jA{α:Type}:∀ (ow:List Nat) (σ:List (Option α)),(ow.foldl (λσ i=>σ.set i none) σ).length=σ.length
 | [],_=>rfl
 | i::r,σ=>(jA r (σ.set i none)).trans (by simp)
theorem iB{α:Type}:∀ (ow:List Nat) (σ:List (Option α)) (j:Nat),j∉ow->(ow.foldl (λσ i=>σ.set i none) σ)[j]? = σ[j]?
 | [],_,_,_=>rfl
 | i::r,σ,j,h=>by
   have a:i≠j:=λz=>h (by rw[z];exact a3a);have b:j∉r:=λz=>h (a4a _ z);show(r.foldl _ (σ.set i none))[j]? = _;rw[iB r _ j b,a9a a]
theorem dJ{α:Type}:∀ (ow:List Nat) (σ:List (Option α)) (j:Nat) (x:α),(ow.foldl (λσ i=>σ.set i none) σ)[j]? = some (some x)->j∉ow/\σ[j]? = some (some x)
 | [],_,_,_,h=>⟨by simp,h⟩
 | i::r,σ,j,x,h=>by
   obtain⟨a,b⟩:=dJ r (σ.set i none) j x h;rcases cX b with⟨_,z,_⟩ | ⟨z,c⟩;cases z;exact⟨by simp[z,a],c⟩
theorem rZ:∀ (ow:List Nat) (σ a:Sg),(nS ow σ a).length=a.length
 | [],_,_=>rfl
 | i::r,σ,a=>(rZ r σ (a.set i (σ[i]?.getD none))).trans (by simp)
theorem lX:∀ (ow:List Nat) (σ a:Sg) (j:Nat),j∉ow->(nS ow σ a)[j]? = a[j]?
 | [],_,_,_,_=>rfl
 | i::r,σ,a,j,h=>by
   have b:i≠j:=λz=>h (by rw[z];exact a3a);have c:j∉r:=λz=>h (a4a _ z);show(nS r σ (a.set i (σ[i]?.getD none)))[j]? = _;rw[lX r σ _ j c,a9a b]
theorem sV:∀ (ow:List Nat) (σ a:Sg) (j:Nat),j∈ow->σ.length=a.length->(nS ow σ a)[j]? = σ[j]?
 | [],_,_,_,h,_=>by simp at h
 | i::r,σ,a,j,h,hl=>by
   show(nS r σ (a.set i (σ[i]?.getD none)))[j]? = _;by_cases b:j∈r;exact sV r σ _ j b (by simp[hl])
   ·rw[lX r σ _ j b];have:j=i:=by rcases a4b.mp h with z | z;exact z;exact absurd z b
    subst this;by_cases c:j < a.length;rw[a7c c,a0a (by lia:j < σ.length)];rfl;rw[a4d.mpr (by simp;lia),a4d.mpr (by lia)]
section
variable{Γ:Gm}{H H1 H2:Hp}{σ σ1 τ:Sg}{σV σV2 σV3:St}{ow:List Nat}
def StOk.blank(ok:StOk Γ H τ σV2)(h:σV3.length=σV2.length)(e:∀ j,j∉ow->σV3[j]? = σV2[j]?):StOk Γ H (dE ow τ) σV3 where
 rel:=λj t b=>by
  obtain⟨c,d⟩:=dJ ow τ j t b;rw[e j c];exact ok.rel j t d
 dis:=λj l t g q n b i m k a f=>by
  obtain⟨c,d⟩:=dJ ow τ j t b;obtain⟨o,p⟩:=dJ ow τ l g i;rw[e j c]at a;rw[e l o]at f;exact ok.dis j l t g q n d p m k a f
 own:=λj t q b m a=>by
  obtain⟨c,d⟩:=dJ ow τ j t b;rw[e j c]at a;exact ok.own j t q d m a
 par:=λj t q b m a=>by
  obtain⟨c,d⟩:=dJ ow τ j t b;rw[e j c]at a;exact ok.par j t q d m a
 keep:=ok.keep
 dom:=ok.dom
 len:=by rw[dE,jA,h];exact ok.len
def Step.blank{c:Sg}(g:∀ (j:Nat) t,c[j]? = some (some t)->j∉ow)(st:Step c σV H1 τ σV2 H2)(h:∀ j,j∉ow->σV3[j]? = σV2[j]?):Step c σV H1 (dE ow τ) σV3 H2 where
 fr:=st.fr
 dom:=st.dom
 mu:=λa ⟨j,t,b,m,f⟩=>by
  obtain⟨e,d⟩:=dJ ow τ j t b;rw[h j e]at f;exact st.mu a ⟨j,t,d,m,f⟩
 nv:=λa ⟨j,t,b,m,f⟩=>by
  obtain⟨e,d⟩:=dJ ow τ j t b;rw[h j e]at f;exact st.nv a ⟨j,t,d,m,f⟩
 kp:=λj t b=>by
  obtain⟨i,k⟩:=st.kp j t b;exact⟨i,by rw[dE,iB ow τ j (g j t b)];exact k⟩
 fix:=λj t b m=>by
  obtain⟨i,k,e,d,l⟩:=st.fix j t b m;exact⟨i,by rw[dE,iB ow τ j (g j t b)];exact k,e,d,by rw[h j (g j t b)];exact l⟩
 lt:=λj t b m=>by
  obtain⟨e,d⟩:=dJ ow τ j t b;exact st.lt j t d m
def cV6(c:StOk Γ H1 σ1 σV)(ok:StOk Γ H τ σV2)(x:∀ j,j∉ow->σV2[j]? = σV[j]?)(P:σV2.length=σV.length)(st:Step (dE ow σ1) σV2 H1 τ σV2 H) :
  StOk Γ H (nS ow σ1 τ) σV/\Step σ1 σV H1 (nS ow σ1 τ) σV H:=by
 have A:σ1.length=τ.length:=by rw[c.len,ok.len,P]
 have Q:StOk Γ H1 (dE ow σ1) σV2:=c.blank P x;have ext:Ext H1 H:=st.ext Q;have get:∀ (j:Nat) t,(nS ow σ1 τ)[j]? = some (some t)->(j∈ow/\σ1[j]? = some (some t))\/(j∉ow/\τ[j]? = some (some t)):=λj t e=>by
  by_cases h:j∈ow;rw[sV ow σ1 τ j h A]at e;exact .inl ⟨h,e⟩;rw[lX ow σ1 τ j h]at e;exact .inr ⟨h,e⟩
 have B:∀ (j:Nat) t,(dE ow σ1)[j]? = some (some t)->j∉ow/\σ1[j]? = some (some t):=λj t e=>dJ ow σ1 j t e;have G:∀ (j:Nat),j∉ow->(dE ow σ1)[j]? = σ1[j]?:=λj h=>iB ow σ1 j h;have s:∀ a,sJ (dE ow σ1) σV2 a->∃ (j:Nat) (t:Sl),j∉ow/\σ1[j]? = some (some t)/\t.m.mt=true/\σV[j]? = some (some (.ref a)):=λa ⟨j,t,b,m,u⟩=>by
  obtain⟨k,f⟩:=B j t b;rw[x j k]at u;exact⟨j,t,k,f,m,u⟩
 have I:∀ a,cA8 (dE ow σ1) σV2 a->∃ (j:Nat) (t:Sl),j∉ow/\σ1[j]? = some (some t)/\t.m≠.val/\σV[j]? = some (some (.ref a)):=λa ⟨j,t,b,m,u⟩=>by
  obtain⟨k,f⟩:=B j t b;rw[x j k]at u;exact⟨j,t,k,f,m,u⟩
 have C:∀ (j l:Nat) t g q,j∈ow->σ1[j]? = some (some t)->l∉ow->τ[l]? = some (some g)->t.m≠.val->g.m≠.val->(t.m.mt=true\/g.m.mt=true)->σV[j]? = some (some (.ref q))->σV[l]? = some (some (.ref q))->False:=by
  intro j l t g q U b R M m K N i d;rw[← x l R]at d;obtain⟨p,L,S⟩:=c.ownAt b m;rw[i]at L;have L:=a0b (a0b L);cases L;obtain⟨o,V,_⟩:=S.obj;rcases N with N | N;rcases st.nv q ⟨l,g,M,K,d⟩with z | z;obtain⟨D,E,k,f,v,F⟩:=I q z;exact c.dis j D t E q (λy=>k (by rw[← y];exact U)) b f N v i F;rw[V]at z;cases z;rcases st.mu q ⟨l,g,M,N,d⟩with z | z;obtain⟨D,E,k,f,v,F⟩:=s q z;exact c.dis D j E t q (λy=>k (by rw[y];exact U)) f b v m F i;rw[V]at z;cases z
 constructor
 ·refine⟨λj t b=>?_,λj l t g q n b M m K i d=>?_,λj t q b m i=>?_,λj t q b m i=>?_,ok.keep,ok.dom,by rw[rZ,ok.len,P]⟩;rcases get j t b with⟨h,e⟩ | ⟨h,e⟩;obtain⟨w,O,r⟩:=c.rel j t e;refine⟨w,O,r.mono ext λp o L m X=>st.fr p o X λz=>?_⟩;obtain⟨D,E,k,f,v,F⟩:=s p z;exact c.dis D j E t p (λy=>k (by rw[y];exact h)) f e v m F (by rw[O,L]);obtain⟨w,O,r⟩:=ok.rel j t e;exact⟨w,by rw[← x j h];exact O,r⟩
  ·rcases get j t b with⟨h,e⟩ | ⟨h,e⟩;rcases get l g M with⟨h',J⟩ | ⟨h',J⟩;exact c.dis j l t g q n e J m K i d;exact C j l t g q h e h' J (jP m) K (.inl m) i d;rcases get l g M with⟨h',J⟩ | ⟨h',J⟩;exact C l j g t q h' J h e K (jP m) (.inr m) d i;rw[← x j h]at i;rw[← x l h']at d;exact ok.dis j l t g q n e J m K i d
  ·rcases get j t b with⟨h,e⟩ | ⟨h,e⟩;exact c.own j t q e m i;rw[← x j h]at i;exact ok.own j t q e m i
  ·rcases get j t b with⟨h,e⟩ | ⟨h,e⟩;exact c.par j t q e m i;rw[← x j h]at i;exact ok.par j t q e m i
 ·refine⟨λa o e n=>st.fr a o e λz=>?_,st.dom,λa ⟨j,t,b,m,u⟩=>?_,λa ⟨j,t,b,m,u⟩=>?_,λj t b=>?_,λj t b m=>?_,λj t b m=>?_⟩;obtain⟨D,E,k,f,v,F⟩:=s a z;exact n ⟨D,E,f,v,F⟩;rcases get j t b with⟨h,e⟩ | ⟨h,e⟩;exact .inl ⟨j,t,e,m,u⟩;rw[← x j h]at u;rcases st.mu a ⟨j,t,e,m,u⟩with z | z;obtain⟨D,E,k,f,v,F⟩:=s a z;exact .inl ⟨D,E,f,v,F⟩;exact .inr z;rcases get j t b with⟨h,e⟩ | ⟨h,e⟩;exact .inl ⟨j,t,e,m,u⟩;rw[← x j h]at u;rcases st.nv a ⟨j,t,e,m,u⟩with z | z;obtain⟨D,E,k,f,v,F⟩:=I a z;exact .inl ⟨D,E,f,v,F⟩;exact .inr z;by_cases h:j∈ow;exact⟨t,by rw[sV ow σ1 τ j h A];exact b⟩;obtain⟨g,T⟩:=st.kp j t (by rw[G j h];exact b);exact⟨g,by rw[lX ow σ1 τ j h];exact T⟩;by_cases h:j∈ow;exact⟨t,by rw[sV ow σ1 τ j h A];exact b,rfl,λ_=>rfl,rfl⟩;obtain⟨g,T,k,f,v⟩:=st.fix j t (by rw[G j h];exact b) m;exact⟨g,by rw[lX ow σ1 τ j h];exact T,k,f,rfl⟩;rcases get j t b with⟨h,e⟩ | ⟨h,e⟩;exact⟨t,e,m⟩;obtain⟨W,Y,Z⟩:=st.lt j t e m;exact⟨W,(B j W Y).2,Z⟩
end
noncomputable def aU7(ow:List Nat)(g:DG)(t:DT)(e:DE):List D->Sg->Option (List D×Sg)
 | [],a=>some ([],a)
 | d :: r,a=>(g d a).bind λb=>(t b).bind λx=>if x.1=true then(e x.2).bind λy=>match y.1 with
     | .val d'=>(aU7 ow g t e r (dE ow y.2)).bind λz=>some (d'::z.1,z.2)
     | _=>none else aU7 ow g t e r (dE ow x.2)
noncomputable def iS:DT:=λσ=>some (true,σ)
noncomputable def cN(ow:List Nat)(ri:DI)(g:DG)(t:DT)(e:DE):DE:=λσ=>(ri σ).bind λx=>if x.1.length<=sizeLine then(aU7 ow g t e x.1 (dE ow (lendO x.2.1 x.2.2))).bind λy=>
 some (.own (.lst y.1),aB9 x.2.1 x.2.2 (nS ow (lendO x.2.1 x.2.2) y.2))else none
def aM9{Γ:Gm}{ow:List Nat}{ri:DI}{g:TG}{gd:DG}{t:DT}{e:DE}(hg:cN7 ow g gd){σV:St}{H:Hp}{Q:VK}(h:dTE Γ (cN ow ri gd t e) σV H Q) :
  bH5 ow (dTI Γ ri) g (dTT Γ t) (dTE Γ e) σV H Q:=by
 obtain⟨σ,ok,res,σ',x,k⟩:=h;obtain⟨⟨items,l,c⟩,e1,x⟩:=aE x;dsimp only at x;split at x
 case isFalse=>cases x
 case isTrue hlen=>
 obtain⟨⟨all,τe⟩,e2,x⟩:=aE x;cases x;refine⟨σ,ok,items,l,c,e1,λJ I P K L B stay=>?_⟩;have bl:(blank ow σV).length=σV.length:=jA ow σV;have bo:∀ j,j∉ow->(blank ow σV)[j]? = σV[j]?:=λj r=>iB ow σV j r;have M:StOk Γ I (lendO l c) σV:=K.lendO;have okB:StOk Γ I (dE ow (lendO l c)) (blank ow σV):=M.blank bl bo;have hb:∀ (j:Nat) t,(dE ow (lendO l c))[j]? = some (some t)->j∉ow:=λj t ej=>(dJ ow _ j t ej).1
 -- a step within,as a step of the q
 have q:∀ o d,StOk Γ d o (blank ow σV)->Step (dE ow (lendO l c)) (blank ow σV) I o (blank ow σV) d->StOk Γ d (nS ow (lendO l c) o) σV/\Step (lendO l c) σV I (nS ow (lendO l c) o) σV d:=
  λo d s u=>cV6 M s bo bl u
 refine⟨λi m ys d=>m=items.length-i/\i<=items.length/\∃ o don lS,aU7 ow gd t e (items.drop i) o=some (lS,τe)/\don++lS=all/\don.length<=i/\Rps d don ys/\StOk Γ d o (blank ow σV)/\Step (dE ow (lendO l c)) (blank ow σV) I o (blank ow σV) d,
  ⟨items.length,by simp,Nat.zero_le _,dE ow (lendO l c),[],all,by simpa using e2,rfl,a0d _,.nil,okB,.refl⟩,?_⟩
 rintro i m ys d ⟨rfl,hi,o,don,lS,f,n,hdl,X,s,u⟩;have hyl:=X.length;obtain⟨okw,N⟩:=q o d s u;have hP:=stay _ σV d N;refine⟨by lia,?_⟩;by_cases w:i < items.length
 ·have ei:items[i]? = some items[i]:=a0a w;refine .inr ⟨B.go d i _ hP ei,λy Y hy=>?_⟩;obtain⟨C,ry⟩:=B.yld d i _ y Y hP ei hy;rw[List.drop_eq_getElem_cons w]at f;obtain⟨O,eg,f⟩:=aE f;obtain⟨⟨b,D⟩,et,f⟩:=aE f;refine hg Γ Y _ _ _ o (blank ow σV) _ y O _ (s.same C) (u.trans (.same C)) ry eg λσV3 R S l3 Z=>?_;have z:Ext d Y:=.same C;refine⟨O,R,b,D,et,λH4 E F=>?_⟩;have A:Ext Y H4:=F.ext R;dsimp only at f;split at f;rename_i hbt;dsimp only;rw[a3O hbt];obtain⟨⟨r5,T⟩,ee,f⟩:=aE f;refine⟨D,E,r5,T,ee,λv H5 ok5 r5' U f5=>?_⟩;dsimp only at f;split at f;rename_i d';obtain⟨⟨G,τe'⟩,ec',f⟩:=aE f;cases f;refine⟨_,by lia,rfl,w,dE ow T,don++[d'],G,ec',by rw[← n];simp,by simp;lia,?_,ok5.blank (by rw[l3]) (λj r=>((Z j r).1).symm),Step.blank hb ((S.trans F).trans U) λj r=>((Z j r).1).symm⟩;exact((X.mono z).mono A |>.mono (U.ext E)).append (.cons r5' .nil);cases f;rename_i hbf;dsimp only;rw[a3P hbf];refine⟨_,by lia,rfl,w,dE ow D,don,lS,f,n,by lia,(X.mono z).mono A,E.blank (by rw[l3]) (λj r=>((Z j r).1).symm),Step.blank hb (S.trans F) λj r=>((Z j r).1).symm⟩
 ·have e0:i=items.length:=by lia
  subst e0;rw[List.drop_length]at f;cases f;rw[a3g]at n;subst n;refine .inl ⟨B.stop d hP,λp hp=>?_⟩;obtain⟨V,W⟩:=aG6 K okw N;have C:aT4 d (upd d p (.lst ys)):=bM hp;have nw:aU3 d (upd d p (.lst ys)) (.own (.lst don)) (.ref p):=⟨p,rfl,hp,ys,aW,X.mono (.same C)⟩;exact k _ _ (V.same C) (nw.res V) ((L.trans W).trans (.same C)) (nw.frh.back (L.trans W))
def cC{X:Cx}{ow:List Nat}{ex:Expr}{ri:DI}{g:TG}{a:DG}{t:DT}{e:DE}(b:cN7 ow g a)(h:∀ Γ,PE X ex (bH5 ow (dTI Γ ri) g (dTT Γ t) (dTE Γ e))):GE X ex (cN ow ri a t e):=.mk λΓ=>peW (h Γ) λ_ _ _=>aM9 b
def eO{X:Cx}{Γ:Gm}:cL3 X [] (dTT Γ iS):=λpins s σ H Q I ⟨a,ok,b,σ',e,k⟩=>aF3 pins s σ H Q I (by cases e;exact k H ok .refl)
def dG{X:Cx}{Γ:Gm}{c:Expr}{t:DT}(h:GT X c t):cL3 X [c] (dTT Γ t):=bA0 (h.to Γ)
def jY{X:Cx}{E:Ex}{ow:List Nat}{i:Nat}{st:Stmt}{ri:DI}{g:TG}{a:DG}{t:DT}{e:DE}(b:cN7 ow g a)(h:∀ Γ,PS X st (λD σ H=>bH5 ow (dTI Γ ri) g (dTT Γ t) (dTE Γ e) σ H λv c=>D.nx (σ.set i (some v)) c)):GS E X st (cM i (cN ow ri a t e)):=.mk λΓ=>psW (h Γ) λD σV H h=>aM9 b (bB7 h)
abbrev Run:=List Sl->Option (Res×List Sl)
structure ArgOk(H:Hp)(as:List Sl)(vs:List V):Prop where
 len:as.length=vs.length
 rel:∀ (i:Nat) s,as[i]? = some s->∃ v,vs[i]? = some v/\cD0 H s v
 dis:∀ (i j:Nat) s t p,i≠j->as[i]? = some s->as[j]? = some t->s.m.mt=true->t.m≠.val->vs[i]? = some (.ref p)->vs[j]? = some (.ref p)->False
 own:∀ (i:Nat) s,as[i]? = some s->s.m≠.own
def cV7(as:List Sl)(vs:List V)(a:Addr):Prop:=∃ (i:Nat) (s:Sl),as[i]? = some s/\s.m.mt=true/\vs[i]? = some (.ref a)
structure PostOk(as:List Sl)(vs:List V)(H:Hp)(as':List Sl)(H':Hp):Prop where
 rel:∀ (i:Nat) s,as[i]? = some s->s.m.mt=true->∃ s' v,as'[i]? = some s'/\s'.m=s.m/\vs[i]? = some v/\cD0 H' s' v
 fr:∀ a o,H a=some o->¬ cV7 as vs a->H' a=some o
 dom:∀ a,H' a=none->H a=none
def dsp(n:Nat)(run:Run):Sp:=λvs H Q _=>∃ as res as',ArgOk H as vs/\as.length=n/\run as=some (res,as')/\∀ v H',PostOk as vs H as' H'->aU3 H H' res v->Q v H'
noncomputable def dD8(σ:Sg):Res->Option Res
 | .val d=>some (.val d)
 | .own d=>some (.own d)
 | .slot i=>match σ[i]? with
   | some (some s)=>if s.m=.own then some (.own s.d)else if s.m=.val then some (.val s.d)else none
   | _=>none
noncomputable def tU:List Sl->Sg->List Sl
 | [],_=>[]
 | a::as,some s::σ=>(if a.m=.val then a else s)::tU as σ
 | a::as,_::σ=>a::tU as σ
 | a::as,[]=>a::as
noncomputable def ini(len:Nat)(as:List Sl):Sg:=as.map some++List.replicate (len-as.length) none
noncomputable def pX(len:Nat)(a:DS):Run:=λas=>(a (ini len as)).bind λo=>match o with
 | .nx σ=>some (.val .non,tU as σ)
 | .rt r σ=>(dD8 σ r).bind λb=>some (b,tU as σ)
 | _=>none
def nT{len:Nat}{as:List Sl}{i:Nat}{s:Sl}:(ini len as)[i]? = some (some s)↔as[i]? = some s:=by
 unfold ini;by_cases h:i < as.length;rw[a2g (by simpa using h),a3c];cases as[i]? <;> simp;rw[a0g (by simpa using h),List.getElem?_replicate,a4d.mpr (by lia)];split<;>simp
def jZ{N:List Str}{vs:List V}{i:Nat}{v:V}:(L2.kU N vs)[i]? = some (some v)↔vs[i]? = some v:=by
 unfold L2.kU;by_cases h:i < vs.length;rw[a2g (by simpa using h),a3c];cases vs[i]? <;> simp;rw[a0g (by simpa using h),List.getElem?_replicate,a4d.mpr (by lia)];split<;>simp
theorem bB8:∀ {as:List Sl} {σ:Sg} {i:Nat} {a s:Sl},as[i]? = some a->σ[i]? = some (some s)->(tU as σ)[i]? = some (if a.m=.val then a else s)
 | [],_,_,_,_,h,_=>by simp at h
 | _::_,[],_,_,_,_,h=>by simp at h
 | a::as,o::σ,0,b,s,h,h'=>by
   simp at h h';subst h h';unfold tU;simp
 | a::as,o::σ,i+1,b,s,h,h'=>by
   have:=bB8 (as:=as) (σ:=σ) (i:=i) (a:=b) (s:=s) (by simpa using h) (by simpa using h');cases o<;>(unfold tU;simpa using this)
section
variable{P:Program}{w:World}{K:W.Frag}{mg:Str->Option Value}{base:Heap}
abbrev MS:=Sg->(Out->Prop)->Prop
abbrev MC:=List Sl->(Res->List Sl->Prop)->Prop
def bB9(m:MS):Prop:=∀ σ (Q a:Out->Prop),(∀ o,Q o->a o)->m σ Q->m σ a
def mTS(Γ:Gm)(E:Ex)(m:MS):TS:=λD σV H=>∃ σ,StOk Γ H σ σV/\m σ λo=>bR5 Γ E σ σV H o D
structure GM(E:Ex)(X:Cx)(ss:List Stmt)(m:MS):Prop where
 to:∀ Γ,PSs X ss (mTS Γ E m)
 mon:bB9 m
def bR9(n:Nat)(C:MC):Sp:=λvs H Q _=>∃ as,ArgOk H as vs/\as.length=n/\C as λres as'=>∀ v H',PostOk as vs H as' H'->aU3 H H' res v->Q v H'
def eD2(as:List Sl)(K:Res->List Sl->Prop)(o:Out):Prop:=match o with
 | .nx σ=>K (.val .non) (tU as σ)
 | .rt r σ=>∃ a,dD8 σ r=some a/\K a (tU as σ)
 | _=>False
def dD9(len:Nat)(m:MS):MC:=λas K=>m (ini len as) (eD2 as K)
def aU8{x qual:Str}{st:Stmt}{f:Addr}{fd:FuncData}{N ps:List Str}{k:Nat}(F:Fun K x qual st f fd)(S:FnScope N ps (bA st))(T:ps.length<=N.length)(m:MS)(hm:bB9 m)
  (U:∀ (cdv:Value) (A:Around) (outer:List Env) (s:Shared) (H:Hp) (E:XK),Room k (A.deeper (PyProof.Rows.envOfC qual (bA st) s.heap.objs.size f cdv))->∀ Γ,PSs (cK8 CX0 P w K mg base N qual (bA st) f cdv A outer s H E).nox (qZ st) (mTS Γ Ex.no m)) :
  FnOk P w K mg base CX0 (k+1) f fd ps (bR9 ps.length (dD9 N.length m)):=by
 refine F.ok S (λvs H Q E Z1=>by obtain⟨as,ok,L,_⟩:=Z1;rw[← ok.len];exact L) λcdv A outer s H vs Q E V h=>?_;obtain⟨as,ok,L,h⟩:=h;refine⟨_,U cdv A outer s H E V ⟨H,cV7 as vs⟩,ini N.length as,?_,hm _ _ _ (λo k=>?_) h⟩;refine⟨λi s e=>?_,λi j s t p n u I m W e X=>?_,λi s p u m=>?_,λi s p u m e=>?_,λa o e _=>e,λa e=>e,?_⟩;obtain⟨v,B,r⟩:=ok.rel i s (nT.mp e);exact⟨v,jZ.mpr B,r⟩;exact ok.dis i j s t p n (nT.mp u) (nT.mp I) m W (jZ.mp e) (jZ.mp X);exact absurd m (ok.own i s (nT.mp u));exact⟨i,s,nT.mp u,by rw[m];rfl,jZ.mp e⟩;unfold ini L2.kU;have:=ok.len;simp;lia;have y:∀ σ σV' H',StOk ⟨H,cV7 as vs⟩ H' σ σV'->Step (ini N.length as) (L2.kU N vs) H σ σV' H'->PostOk as vs H (tU as σ) H':=λσ σV' H' b g=>by
  have Y:∀ a,sJ (ini N.length as) (L2.kU N vs) a->cV7 as vs a:=λa ⟨j,t,I,m,Z⟩=>⟨j,t,nT.mp I,m,jZ.mp Z⟩;refine⟨λi a u m=>?_,λa o e n=>g.fr a o e λz=>n (Y a z),g.dom⟩;have M:a.m=.par:=by
   have h0:=ok.own i a u;cases q:a.m with
   | par=>rfl
   | own=>exact absurd q h0
   | val=>rw[q]at m;cases m
   | lent=>rw[q]at m;cases m
  obtain⟨s',es,ms,_,D⟩:=g.fix i a (nT.mpr u) (.inl M);obtain⟨v,B,r⟩:=b.rel i s' es;obtain⟨v0,O,_⟩:=ok.rel i a u;have:some (some v)=some (some v0):=by rw[← B,D];exact jZ.mpr O
  cases this;refine⟨s',v,?_,ms,O,r⟩;rw[bB8 u es,a3P (by rw[M];exact λz=>nomatch z)]
 cases o with
 | nx σ=>
   exact λσV' H' b g=>k .non H' (y σ σV' H' b g) .non
 | rt r σ=>
   obtain⟨res,B,k⟩:=k;intro v σV' H' b J g;refine k v H' (y σ σV' H' b g) ?_;cases r with
   | val d=>cases B;exact J
   | own d=>
     cases B;obtain⟨p,G,C,q3,q4⟩:=J;exact⟨p,G,q4,C⟩
   | slot i=>
     obtain⟨G,s',C⟩:=J;have l:(match σ[i]? with | some (some s)=>if s.m=.own then some (Res.own s.d)else if s.m=.val then some (.val s.d)else none | _=>none)=some res:=B;rw[C]at l;dsimp only at l;obtain⟨v',D,R⟩:=b.rel i s' C;rw[G]at D;cases D;split at l
     ·rename_i hm;cases l;obtain⟨p,rfl,ow⟩:=(eN (by rw[hm];exact λz=>nomatch z)).mp R;exact⟨p,rfl,b.own i s' p C hm G,ow⟩
     ·split at l;rename_i hm;cases l;obtain⟨m,d⟩:=s';cases hm;exact R;cases l
 | bk σ=>exact k.elim
 | ct σ=>exact k.elim
 | ex c f σ=>exact k.elim
def cP{x qual:Str}{st:Stmt}{f:Addr}{fd:FuncData}{N ps:List Str}{k:Nat}(F:Fun K x qual st f fd)(S:FnScope N ps (bA st))(d:ps.length<=N.length)(b:DS)
  (g:∀ (cdv:Value) (A:Around) (outer:List Env) (s:Shared) (H:Hp) (E:XK),Room k (A.deeper (PyProof.Rows.envOfC qual (bA st) s.heap.objs.size f cdv))->GSs Ex.no (cK8 CX0 P w K mg base N qual (bA st) f cdv A outer s H E).nox (qZ st) b) :
  FnOk P w K mg base CX0 (k+1) f fd ps (dsp ps.length (pX N.length b)):=
 (aU8 F S d (λσ Q=>∃ o,b σ=some o/\Q o) (λσ Q m w ⟨o,e,q⟩=>⟨o,e,w o q⟩) λcdv A outer s H E h Γ=>dL6 ((g cdv A outer s H E h).to Γ) λD σV H ⟨σ,ok,o,e,q⟩=>⟨σ,ok,o,e,q⟩).imp
  λvs H Q E ⟨as,res,as',ok,i,a,k⟩=>by
   obtain⟨o,j,a⟩:=aE a;refine⟨as,ok,i,o,j,?_⟩;cases o with
   | nx σ=>cases a;exact k
   | rt r σ=>
     obtain⟨n,l,a⟩:=aE a;cases a;exact⟨_,l,k⟩
   | bk σ=>cases a
   | ct σ=>cases a
   | ex c f σ=>cases a
end
noncomputable def aU9(σ:Sg):Res->Option Sl
 | .val d=>some ⟨.val,d⟩
 | .own d=>some ⟨.par,d⟩
 | .slot i=>match σ[i]? with
   | some (some s)=>some ⟨if s.m.mt=true then .par else s.m,s.d⟩
   | _=>none
noncomputable def tV(σ:Sg):List Res->Option (List Sl)
 | []=>some []
 | r::rs=>(aU9 σ r).bind λa=>(tV σ rs).bind λas=>some (a::as)
noncomputable def bC0(i:Nat):List Res->Bool
 | []=>false
 | .slot j::rs=>decide (i=j)||bC0 i rs
 | _::rs=>bC0 i rs
noncomputable def eW:List Res->Bool
 | []=>true
 | .slot i::rs=>!bC0 i rs&&eW rs
 | _::rs=>eW rs
noncomputable def lY(j:Nat):List Res->List Sl->Option Sl
 | .slot i::rs,a::as=>if i=j then some a else lY j rs as
 | _::rs,_::as=>lY j rs as
 | _,_=>none
noncomputable def lB(rs:List Res)(as:List Sl):Nat->Sg->Sg
 | _,[]=>[]
 | k,some s::σ=>(match lY k rs as with
   | some a=>some (if s.m.mt=true then⟨s.m,a.d⟩else s)
   | none=>some s)::lB rs as (k+1) σ
 | k,none::σ=>none::lB rs as (k+1) σ
noncomputable def aV(n:Nat)(run:Run)(a:DA):DE:=λσ=>(a σ).bind λx=>(tV x.2 x.1).bind λas=>if as.length=n/\eW x.1=true then(run as).bind λy=>some (y.1,lB x.1 y.2 0 x.2)else none
theorem aC1{σ:Sg}:∀ {rs:List Res} {as:List Sl},tV σ rs=some as->as.length=rs.length/\∀ (k:Nat) r,rs[k]? = some r->∃ a,as[k]? = some a/\aU9 σ r=some a
 | [],as,h=>by cases h;exact⟨rfl,λk r e=>by simp at e⟩
 | r::rs,as,h=>by
   obtain⟨a,b,h⟩:=aE h;obtain⟨as',c,h⟩:=aE h;cases h;obtain⟨l,g⟩:=aC1 c;refine⟨by simp[l],λk d e=>?_⟩;cases k with
   | zero=>simp at e;subst e;exact⟨a,rfl,b⟩
   | succ k=>
     obtain⟨f,i,j⟩:=g k d (by simpa using e);exact⟨f,by simpa using i,j⟩
theorem ResOks.get{Γ:Gm}{H:Hp}{σ:Sg}{σV:St}:∀ {rs:List Res} {vs:List V},ResOks Γ H σ σV rs vs->rs.length=vs.length/\∀ (k:Nat) r,rs[k]? = some r->∃ v,vs[k]? = some v/\lV Γ H σ σV r v
 | _,_,.nil=>⟨rfl,λk r e=>by simp at e⟩
 | _,_,.cons h t _=>by
   obtain⟨l,g⟩:=ResOks.get t;refine⟨by simp[l],λk a e=>?_⟩;cases k with
   | zero=>simp at e;subst e;exact⟨_,rfl,h⟩
   | succ k=>
     obtain⟨b,c,d⟩:=g k a (by simpa using e);exact⟨b,by simpa using c,d⟩
theorem ResOks.dis{Γ:Gm}{H:Hp}{σ:Sg}{σV:St}:∀ {rs:List Res} {vs:List V},ResOks Γ H σ σV rs vs->∀ (k l:Nat) d d' p,k < l->rs[k]? = some (.own d)->rs[l]? = some (.own d')->vs[k]? = some (.ref p)->vs[l]? ≠ some (.ref p)
 | _,_,.nil,k,l,d,d',p,_,e,_,_=>by simp at e
 | _,_,.cons h t q,k,l,d,d',p,b,e,a,ev=>by
   cases l with
   | zero=>lia
   | succ l=>
     cases k with
     | zero=>
       simp at e ev;subst e ev;intro z;exact q d p rfl rfl l d' (by simpa using a) (by simpa using z)
     | succ k=>
       intro z;exact ResOks.dis t k l d d' p (by lia) (by simpa using e) (by simpa using a) (by simpa using ev) (by simpa using z)
theorem sW{i:Nat}:∀ {rs:List Res} {k:Nat},rs[k]? = some (.slot i)->bC0 i rs=true
 | [],_,h=>by simp at h
 | r::rs,0,h=>by simp at h;subst h;simp[bC0]
 | r::rs,k+1,h=>by
   have:=sW (rs:=rs) (k:=k) (by simpa using h);cases r<;>simp[bC0,this]
theorem rB:∀ {rs:List Res},eW rs=true->∀ (k l i:Nat),rs[k]? = some (.slot i)->rs[l]? = some (.slot i)->k=l
 | [],_,k,l,i,h,_=>by simp at h
 | r::rs,hn,k,l,i,h,h'=>by
   cases k with
   | zero=>
     cases l with
     | zero=>rfl
     | succ l=>
       simp at h;subst h;unfold eW at hn;rw[a5f]at hn;rw[sW (k:=l) (by simpa using h')]at hn;simp at hn
   | succ k=>
     cases l with
     | zero=>
       simp at h';subst h';unfold eW at hn;rw[a5f]at hn;rw[sW (k:=k) (by simpa using h)]at hn;simp at hn
     | succ l=>
       have a:eW rs=true:=by
        cases r with
        | slot j=>unfold eW at hn;rw[a5f]at hn;exact hn.2
        | val d=>exact hn
        | own d=>exact hn
       exact a3W Nat.succ (rB a k l i (by simpa using h) (by simpa using h'))
theorem iV{j:Nat}:∀ {rs:List Res} {as:List Sl} {a:Sl},lY j rs as=some a->∃ k:Nat,rs[k]? = some (.slot j)/\as[k]? = some a
 | [],_,_,h=>by simp[lY]at h
 | r::rs,[],_,h=>by cases r<;>simp[lY]at h
 | r::rs,a::as,b,h=>by
   cases r with
   | slot i=>
     have h':(if i=j then some a else lY j rs as)=some b:=h;split at h';rename_i e;cases h';subst e;exact⟨0,rfl,rfl⟩
     ·obtain⟨k,c,f⟩:=iV h';exact⟨k+1,by simpa using c,by simpa using f⟩
   | val d=>obtain⟨k,c,f⟩:=iV (rs:=rs) (as:=as) h;exact⟨k+1,by simpa using c,by simpa using f⟩
   | own d=>obtain⟨k,c,f⟩:=iV (rs:=rs) (as:=as) h;exact⟨k+1,by simpa using c,by simpa using f⟩
noncomputable def pY(rs:List Res)(as:List Sl)(k:Nat)(o:Option Sl):Option Sl:=match o with
 | some s=>(match lY k rs as with
   | some a=>some (if s.m.mt=true then⟨s.m,a.d⟩else s)
   | none=>some s)
 | none=>none
theorem lZ{rs:List Res}{as:List Sl}:∀ (k:Nat) (σ:Sg) (j:Nat),(lB rs as k σ)[j]? = (σ[j]?).map (pY rs as (k+j))
 | _,[],_=>by simp[lB]
 | k,o::σ,0=>by cases o<;>simp[lB,pY]
 | k,o::σ,j+1=>by
   have:=lZ (rs:=rs) (as:=as) (k+1) σ j;have e:k+1+j=k+(j+1):=by lia
   rw[e]at this;cases o<;>simpa[lB]using this
theorem sA{rs:List Res}{as:List Sl}:∀ (k:Nat) (σ:Sg),(lB rs as k σ).length=σ.length
 | _,[]=>rfl
 | k,o::σ=>by cases o<;>simp[lB,sA (k+1) σ]
def aN0{Γ:Gm}{σ c:Sg}{rs:List Res}{as:List Sl}{σV:St}{H H1:Hp}{vs:List V}(e2:tV c rs=some as)(hc:eW rs=true)(x:StOk Γ H1 c σV)(r1:ResOks Γ H1 c σV rs vs)(D:Step σ σV H c σV H1)
  (f1:∀ (j:Nat) d p,rs[j]? = some (.own d)->vs[j]? = some (.ref p)->H p=none) :
  ArgOk H1 as vs/\∀ r as' v H2,PostOk as vs H1 as' H2->aU3 H1 H2 r v->StOk Γ H2 (lB rs as' 0 c) σV/\lV Γ H2 (lB rs as' 0 c) σV r v/\Step σ σV H (lB rs as' 0 c) σV H2/\Frh H r v:=by
 obtain⟨la,ga⟩:=aC1 e2;obtain⟨lv,gv⟩:=r1.get;have P:∀ (i:Nat) a,as[i]? = some a->∃ r v,rs[i]? = some r/\aU9 c r=some a/\vs[i]? = some v/\lV Γ H1 c σV r v:=λi a A=>by
  have hi:i < rs.length:=by rw[← la];exact(a2a.mp A).1
  have Q:rs[i]? = some rs[i]:=a0a hi;obtain⟨a',R,h2⟩:=ga i _ Q;rw[A]at R;cases R;obtain⟨v,h3,h4⟩:=gv i _ Q;exact⟨_,v,Q,h2,h3,h4⟩
 have g:∀ i a,aU9 c (.slot i)=some a->∃ s,c[i]? = some (some s)/\a=⟨if s.m.mt=true then .par else s.m,s.d⟩:=λi a A=>by
  have Y:(match c[i]? with | some (some s)=>some (⟨if s.m.mt=true then .par else s.m,s.d⟩:Sl) | _=>none)=some a:=A;split at Y
  ·rename_i s f;cases Y;exact⟨s,f,rfl⟩
  ·cases Y
 -- an argument that may change: new,or owned here
 have L:∀ a,cV7 as vs a->sJ c σV a\/(H a=none/\¬ cA8 c σV a/\Γ.H₀ a=none):=λa ⟨i,s,S,m,G⟩=>by
  obtain⟨r,v,Q,A,E,M⟩:=P i s S;rw[G]at E;cases E;cases r with
  | val d=>cases A;cases m
  | own d=>
    obtain⟨p,C,T,Z,q4⟩:=M;cases C;exact .inr ⟨f1 i d a Q G,Z,q4⟩
  | slot j=>
    obtain⟨s',f,rfl⟩:=g j s A;obtain⟨C,_⟩:=M;refine .inl ⟨j,s',f,?_,C⟩;by_cases hm:s'.m.mt=true;exact hm;simp only[hm]at m;exact absurd m hm
 have J:ArgOk H1 as vs:=by
  refine⟨by rw[la,lv],λi a S=>?_,λi j s t p nij S w m m' G E=>?_,λi a S=>?_⟩
  ·obtain⟨r,v,Q,A,G,M⟩:=P i a S;refine⟨v,G,?_⟩;cases r with
   | val d=>cases A;exact M
   | own d=>cases A;obtain⟨p,C,T,_⟩:=M;exact⟨p,C,T⟩
   | slot j=>
     obtain⟨s',f,rfl⟩:=g j a A;obtain⟨C,_⟩:=M;obtain⟨v',e4,r4⟩:=x.rel j s' f;rw[C]at e4;cases e4;by_cases hm:s'.m.mt=true;simp only[hm,if_true];exact(eN (s:=⟨.par,s'.d⟩) (λz=>nomatch z)).mpr ((eN (jP hm)).mp r4);simp only[hm];exact r4
  ·obtain⟨r,v,Q,A,U,M⟩:=P i s S;obtain⟨r2,v2,er2,ea2,ev2,rv2⟩:=P j t w;rw[G]at U;cases U;rw[E]at ev2;cases ev2;have F:∀ l a,aU9 c (.slot l)=some a->a.m≠.val->∃ s,c[l]? = some (some s)/\s.m≠.val/\(a.m.mt=true->s.m.mt=true):=λl a A hm=>by
    obtain⟨s',f,rfl⟩:=g l a A;refine⟨s',f,?_,?_⟩;intro z;simp only[z,Md.mt]at hm;exact hm rfl;intro z;by_cases W:s'.m.mt=true;exact W;simp only[W]at z;exact z
   cases r with
   | val d=>cases A;cases m
   | own d=>
     obtain⟨q,C,T,Z,q4⟩:=M;cases C;cases r2 with
     | val d=>cases ea2;exact m' rfl
     | own d2=>
       rcases Nat.lt_or_gt_of_ne nij with z | z;exact r1.dis i j d d2 p z Q er2 G E
       ·exact r1.dis j i d2 d p z er2 Q E G
     | slot l=>
       obtain⟨s',f,W,_⟩:=F l t ea2 m';exact Z ⟨l,s',f,W,rv2.1⟩
   | slot l=>
     obtain⟨s',f,W,hmt⟩:=F l s A (jP m);cases r2 with
     | val d=>cases ea2;exact m' rfl
     | own d2=>
       obtain⟨q,C,T,Z,q4⟩:=rv2;cases C;exact Z ⟨l,s',f,W,M.1⟩
     | slot l2=>
       obtain⟨s2,hs2,hm2,_⟩:=F l2 t ea2 m';refine x.dis l l2 s' s2 p (λz=>?_) f hs2 (hmt m) hm2 M.1 rv2.1;subst z;exact nij (rB hc i j l Q er2)
  ·obtain⟨r,v,Q,A,U,M⟩:=P i a S;cases r with
   | val d=>cases A;exact λz=>nomatch z
   | own d=>cases A;exact λz=>nomatch z
   | slot j=>
     obtain⟨s',f,rfl⟩:=g j a A;intro z;by_cases hm:s'.m.mt=true;simp only[hm,if_true]at z;cases z;simp only[hm]at z;have z':s'.m=.own:=z;rw[z']at hm;exact hm rfl
 refine⟨J,λr as' v H2 po nw=>?_⟩;have extA:Ext H1 H2:=by
  refine⟨λp xs h=>po.fr p _ h λz=>?_,λp o u h=>po.fr p _ h λz=>?_⟩;obtain⟨i,s,S,m,G⟩:=z;obtain⟨v,e4,r4⟩:=J.rel i s S;rw[G]at e4;cases e4;obtain⟨q,eq,ow⟩:=(eN (jP m)).mp r4;cases eq;obtain⟨o,ho,n1,_⟩:=ow.obj;rw[h]at ho;cases ho;exact n1 _ rfl;obtain⟨i,s,S,m,G⟩:=z;obtain⟨v,e4,r4⟩:=J.rel i s S;rw[G]at e4;cases e4;obtain⟨q,eq,ow⟩:=(eN (jP m)).mp r4;cases eq;obtain⟨o',ho,_,n1⟩:=ow.obj;rw[h]at ho;cases ho;exact n1 _ _ rfl
 have back:∀ (j:Nat) t,(lB rs as' 0 c)[j]? = some (some t)->∃ s,c[j]? = some (some s)/\t.m=s.m/\(t=s\/(s.m.mt=true/\∃ (k:Nat) (a:Sl),rs[k]? = some (.slot j)/\as'[k]? = some a/\t=⟨s.m,a.d⟩)):=λj t w=>by
  rw[lZ,a9f]at w;cases q:c[j]? with
  | none=>rw[q]at w;cases w
  | some o=>
    rw[q]at w;cases o with
    | none=>cases w
    | some s=>
      have B:pY rs as' j (some s)=some t:=a0b w;unfold pY at B;refine⟨s,rfl,?_⟩;dsimp only at B;split at B;rename_i a ha;obtain⟨X,R,h2⟩:=iV ha;have N:=a0b B;by_cases hm:s.m.mt=true;rw[a3O hm]at N;subst N;exact⟨rfl,.inr ⟨hm,X,a,R,h2,rfl⟩⟩;rw[a3P hm]at N;subst N;exact⟨rfl,.inl rfl⟩;cases B;exact⟨rfl,.inl rfl⟩
 have fwd:∀ (j:Nat) s,c[j]? = some (some s)->∃ t,(lB rs as' 0 c)[j]? = some (some t)/\t.m=s.m/\(s.m.mt=false->t=s):=λj s w=>by
  rw[lZ,a9f,w];show ∃ t,some (pY rs as' j (some s))=some (some t)/\_;unfold pY;dsimp only;split;refine⟨_,rfl,?_,λz=>?_⟩;split<;>rfl;rw[a3P (by rw[z];exact a7b)];exact⟨s,rfl,rfl,λ_=>rfl⟩
 -- a slot that is handed in by no argument that may change
 have quiet:∀ (j:Nat) s t p,c[j]? = some (some s)->(lB rs as' 0 c)[j]? = some (some t)->t=s->s.m≠.val->σV[j]? = some (some (.ref p))->(∀ k:Nat,s.m.mt=true->rs[k]? ≠ some (.slot j))->¬ cV7 as vs p:=by
  intro j s t p f _ _ hm G hno ⟨i,a,S,m,evi⟩;obtain⟨r,v,Q,A,U,M⟩:=P i a S;rw[evi]at U;cases U;cases r with
  | val d=>cases A;cases m
  | own d=>
    obtain⟨q,C,T,Z,q4⟩:=M;cases C;exact Z ⟨j,s,f,hm,G⟩
  | slot l=>
    obtain⟨s',I,rfl⟩:=g l a A;have hmt:s'.m.mt=true:=by
     by_cases h':s'.m.mt=true;exact h';simp only[h']at m;exact absurd m h'
    by_cases z:l=j;subst z;rw[f]at I;cases I;exact hno i hmt Q;exact x.dis l j s' s p z I f hmt hm M.1 G
 have okB:StOk Γ H2 (lB rs as' 0 c) σV:=by
  refine⟨λj t w=>?_,λj l t t' q n w el m m' eq eq'=>?_,λj t q w m eq=>?_,λj t q w m eq=>?_,λa o e n=>?_,λa e=>x.dom a (po.dom a e),by rw[sA];exact x.len⟩
  ·obtain⟨s,f,O,hc'⟩:=back j t w;obtain⟨w',ew,rw'⟩:=x.rel j s f;refine⟨w',ew,?_⟩;by_cases K:s.m.mt=true/\∃ X:Nat,rs[X]? = some (.slot j)
   ·obtain⟨hm,X,hk'⟩:=K;obtain⟨a,ha,hao⟩:=ga X _ hk';obtain⟨v',hv',rv'⟩:=gv X _ hk';have E:σV[j]? = some (some v'):=rv'.1;rw[ew]at E;cases E;obtain⟨s',I,Y⟩:=g j a hao;rw[f]at I;cases I;have am:a.m=.par:=by rw[Y,a3O hm]
    obtain⟨a2,w2,R,h2,h3,h4⟩:=po.rel X a ha (by rw[am];rfl);rw[hv']at h3;cases h3;have ht:t=⟨s.m,a2.d⟩:=by
     rw[lZ,a9f,f]at w;have B:pY rs as' j (some s)=some t:=a0b w;unfold pY at B;dsimp only at B;split at B;rename_i b hb;obtain⟨k2,C,T⟩:=iV hb;obtain rfl:=rB hc k2 X j C hk';rw[R]at T;cases T;have:=a0b B;rw[a3O hm]at this;exact this.symm;rename_i hb
     -- no argument at all: the lists part in length
     exfalso;have:∀ {rs:List Res} {as:List Sl} {kk:Nat} {a:Sl},rs[kk]? = some (.slot j)->as[kk]? = some a->lY j rs as≠none:=by
      intro rs
      induction rs with
      | nil=>intro as kk a h;simp at h
      | cons r rs ih=>
        intro as kk a h h';cases as with
        | nil=>simp at h'
        | cons b as=>
          cases kk with
          | zero=>simp at h;subst h;simp[lY]
          | succ kk=>
            have:=ih (as:=as) (kk:=kk) (a:=a) (by simpa using h) (by simpa using h');cases r with
            | slot i=>simp only[lY];split;exact λz=>nomatch z;exact this
            | val d=>exact this
            | own d=>exact this
     exact this hk' R hb
    subst ht;have h5:=(eN (s:=a2) (by rw[h2,am];exact λz=>nomatch z)).mp h4;exact(eN (s:=⟨s.m,a2.d⟩) (jP hm)).mpr h5
   ·have ht:t=s:=by
     rcases hc' with h | ⟨hm,X,a,R,_⟩;exact h;exact absurd ⟨hm,X,R⟩ K
    rw[ht];refine rw'.mono extA λp o ep m hp=>po.fr p o hp ?_;exact quiet j s t p f w ht m (by rw[ew,ep]) λX hm hk=>K ⟨hm,X,hk⟩
  ·obtain⟨s,f,O,_⟩:=back j t w;obtain⟨s',I,mm',_⟩:=back l t' el;exact x.dis j l s s' q n f I (by rw[← O];exact m) (by rw[← mm'];exact m') eq eq'
  ·obtain⟨s,f,O,_⟩:=back j t w;exact x.own j s q f (O.symm.trans m) eq
  ·obtain⟨s,f,O,_⟩:=back j t w;exact x.par j s q f (O.symm.trans m) eq
  ·refine po.fr a o (x.keep a o e n) λz=>?_;rcases L a z with⟨j,s,f,m,G⟩ | ⟨_,_,z0⟩
   ·cases hq:s.m with
    | own=>rw[x.own j s a f hq G]at e;cases e
    | par=>exact n (x.par j s a f hq G)
    | val=>rw[hq]at m;cases m
    | lent=>rw[hq]at m;cases m
   ·rw[z0]at e;cases e
 have stB:Step σ σV H (lB rs as' 0 c) σV H2:=by
  refine⟨λa o e n=>?_,λa e=>D.dom a (po.dom a e),λa ⟨j,t,w,m,A⟩=>?_,λa ⟨j,t,w,m,A⟩=>?_,λj t w=>?_,λj t w m=>?_,λj t w m=>?_⟩
  ·refine po.fr a o (D.fr a o e n) λz=>?_;rcases L a z with y | ⟨y,_⟩;rcases D.mu a y with y | y;exact n y;rw[e]at y;cases y;rw[e]at y;cases y
  ·obtain⟨s,f,O,_⟩:=back j t w;exact D.mu a ⟨j,s,f,by rw[← O];exact m,A⟩
  ·obtain⟨s,f,O,_⟩:=back j t w;exact D.nv a ⟨j,s,f,by rw[← O];exact m,A⟩
  ·obtain⟨s,f⟩:=D.kp j t w;obtain⟨t',R,_⟩:=fwd j s f;exact⟨t',R⟩
  ·obtain⟨s,f,C,T,Z⟩:=D.fix j t w m;obtain⟨t',R,h2,h3⟩:=fwd j s f;refine⟨t',R,h2.trans C,λz=>?_,Z⟩;rw[h3 (by rw[C,z];rfl)];exact T z
  ·obtain⟨s,f,O,_⟩:=back j t w;exact D.lt j s f (O.symm.trans m)
 refine⟨okB,?_,stB,nw.frh.back D⟩;cases r with
 | val d=>exact nw
 | own d=>
   obtain⟨p,C,T,Z⟩:=nw;refine⟨p,C,Z,λZ0=>?_,x.dom p T⟩;obtain⟨j,t,w,m,A⟩:=Z0;obtain⟨s,f,O,_⟩:=back j t w;obtain⟨o,ho,_⟩:=x.mutObj ⟨j,s,f,by rw[← O];exact m,A⟩;rw[T]at ho;cases ho
 | slot i=>exact nw.elim
def bS0{Γ:Gm}{n:Nat}{run:Run}{g:DA}{E:XK}{σV:St}{H:Hp}{Q:VK}(h:dTE Γ (aV n run g) σV H Q):bG8 (dsp n run) [] E (dTA Γ g) σV H Q:=by
 obtain⟨σ,ok,res,σ',e,k⟩:=h;obtain⟨⟨rs,a⟩,l,e⟩:=aE e;obtain⟨as,i,e⟩:=aE e;dsimp only at e;split at e
 case isFalse=>cases e
 case isTrue b=>
 obtain⟨⟨r,as'⟩,m,e⟩:=aE e;cases e;dsimp only at i b k;refine⟨σ,ok,rs,a,l,λvs o d p f q=>?_⟩;show dsp n run (vs++[]) o Q E;rw[a3g];obtain⟨s,c⟩:=aN0 i b.2 d p f q;refine⟨as,r,as',s,b.1,m,λv j po t=>?_⟩;obtain⟨u,w,x,y⟩:=c r as' v j po t;exact k v j u w x y
def aN{X:Cx}{e:Expr}{n:Nat}{run:Run}{a:DA}{E:XK}(h:∀ Γ,PE X e (bG8 (dsp n run) [] E (dTA Γ a))):GE X e (aV n run a):=.mk λΓ=>peW (h Γ) λ_ _ _=>bS0
section
variable{X:Cx}
def tW(i j:Int):Prop:=dD5 i j\/(Builtin.Int.intBits i<=2 ^ 20/\Builtin.Int.intBits j<=2 ^ 20)
theorem tW.ok{i j:Int}(h:tW i j):IntMulOk i j:=by
 rcases h with h | h;exact h.ok;exact IntMulOk.of_bits h.1 h.2
def cV8:OpR X (binaryOp .Mult) (rI tW λi j=>.int (i*j)):=opI λ_ _ _ _ _ _ _ a q=>PyProof.Rows.mul_int q a.ok
end
noncomputable section
open Classical
noncomputable def ii(f:Int->Int->D):F2:=λd e=>match d,e with
 | .int i,.int j=>some (.val (f i j))
 | _,_=>none
noncomputable def iiC(C:Int->Int->Prop)(f:Int->Int->D):F2:=λd e=>match d,e with
 | .int i,.int j=>if C i j then some (.val (f i j))else none
 | _,_=>none
noncomputable def iu(f:Int->D):F1:=λd=>match d with
 | .int i=>some (.val (f i))
 | _=>none
end
def bC1{g:Int->Int->V}{f:Int->Int->D}(h:∀ H i j,Rp H (f i j) (g i j)):aB7 (rI0 g) (ii f):=by
 intro H a b x y Q res v1 v2 e k;unfold ii at e;split at e;cases e;obtain rfl:=eQ v1;obtain rfl:=eQ v2;exact⟨_,_,rfl,rfl,k _ H (.refl _) (h H _ _)⟩;cases e
def aV0{C:Int->Int->Prop}{g:Int->Int->V}{f:Int->Int->D}(h:∀ H i j,Rp H (f i j) (g i j)):aB7 (rI C g) (iiC C f):=by
 intro H b c x y Q res v1 v2 e k;unfold iiC at e;split at e;split at e;rename_i a;cases e;obtain rfl:=eQ v1;obtain rfl:=eQ v2;exact⟨_,_,rfl,rfl,a,k _ H (.refl _) (h H _ _)⟩;cases e;cases e
def dM5{g:Int->V}{f:Int->D}(h:∀ H i,Rp H (f i) (g i)):cV1 (rU g) (iu f):=by
 intro H d x Q res v1 e k;unfold iu at e;split at e;cases e;obtain rfl:=eQ v1;exact⟨_,rfl,k _ H (.refl _) (h H _)⟩;cases e
noncomputable def dM6:F2:=ii λi j=>.int (i-j)
noncomputable def bC2:F2:=iiC (λ_ j=>0 < j) λi j=>.int (i % j)
noncomputable def dY7:F2:=iiC dD4 λi j=>.int (i ^ j.toNat)
noncomputable def ltI:F2:=ii λi j=>.bl (decide (i < j))
noncomputable def leI:F2:=ii λi j=>.bl (decide (i<=j))
noncomputable def gtI:F2:=ii λi j=>.bl (decide (j < i))
noncomputable def geI:F2:=ii λi j=>.bl (decide (j<=i))
noncomputable def cN8:F1:=iu λi=>.int (-i)
def bS1:aB7 (rI0 λi j=>.int (i-j)) dM6:=bC1 λ_ _ _=>.int _
def jB:aB7 (rI (λ_ j=>0 < j) λi j=>.int (i % j)) bC2:=aV0 λ_ _ _=>.int _
def cV9:aB7 (rI dD4 λi j=>.int (i ^ j.toNat)) dY7:=aV0 λ_ _ _=>.int _
def nU:aB7 (rI0 λi j=>.bl (decide (i < j))) ltI:=bC1 λ_ _ _=>.bl _
def rC:aB7 (rI0 λi j=>.bl (decide (j < i))) gtI:=bC1 λ_ _ _=>.bl _
def cW0:aB7 (rI0 λi j=>.bl (decide (j<=i))) geI:=bC1 λ_ _ _=>.bl _
def aG8:cV1 (rU λi=>.int (-i)) cN8:=dM5 λ_ _=>.int _
section
variable{X:Cx}{pins:List (Addr×Obj)}{σ:St}{H:Hp}{s:Shared}{l:Addr}{xs:List V}
def aG9(I:Inv X pins σ H s)(h:hR H l=some (true,xs)):xs.length<=sizeLine/\∃ (a:List Value) (n:Nat),dD xs a/\xs.length=a.length/\s.heap.get? l=some {cls:=.type "list",data:=.seq a.toArray n}:=by
 unfold hR at h;split at h;rename_i e;cases h;exact I.lstM e;cases h;rename_i o ys e;cases h;obtain⟨_,z,a,n,r,e⟩:=I.hok l _ e;exact⟨z,a,n,r,r.length,e⟩;cases h
end
def dM7:R2:=λx y H Q=>∃ l b xs zs,x=.ref l/\y=.ref b/\hR H l=some (true,xs)/\hR H b=some (true,zs)/\xs.length+zs.length<=sizeLine/\∀ p,H p=none->Q (.ref p) (upd H p (.lst (xs++zs)))
def cW1{X:Cx}:OpR X (binaryOp .Add) dM7:=by
 intro pins s σ H x y v u Q I d f h;obtain⟨l,b,xs,p,rfl,rfl,g,i,t,q⟩:=h;cases d;cases f;obtain⟨z,c,n,r,w,e⟩:=aG9 I g;obtain⟨A,a,n2,j,k,m⟩:=aG9 I i;refine PySem.P.add_list e m ?_ (by rw[a2b,a2b];lia);have o:c.toArray++a.toArray=(c++a).toArray:=by simp
 rw[o];exact⟨.ref _,_,I.lnew (t':=s.toks) (r.append j) (by rw[a8a];lia),rfl,q _ I.fresh⟩
def dM8:R2:=λx y H Q=>cC7 x y H Q\/dM7 x y H Q
def bK{X:Cx}:OpR X (binaryOp .Add) dM8:=bA9.or cW1
noncomputable def iT:F2:=λd e=>match d,e with
 | .int i,.int j=>some (.val (.int (i+j)))
 | .str a,.str b=>if a.length+b.length<=sizeLine then some (.val (.str (a++b)))else none
 | .lst l,.lst m=>if l.length+m.length<=sizeLine then some (.own (.lst (l++m)))else none
 | .tup l,.tup m=>if l.length+m.length<=sizeLine then some (.val (.tup (l++m)))else none
 | _,_=>none
def aH0{H:Hp}{p:Addr}{xs:List V}{l:List D}(a:H p=none)(r:Rps H l xs):aU3 H (upd H p (.lst xs)) (.own (.lst l)) (.ref p):=⟨p,rfl,a,xs,aW,r.mono (.same (bM a))⟩
def aV1{H:Hp}{p:Addr}{xs:List V}{l:List D}(a:H p=none)(r:Rps H l xs):aU3 H (upd H p (.tup xs)) (.val (.tup l)) (.ref p):=.tup aW (r.mono (.same (bM a)))
def bL:aB7 dM8 iT:=by
 intro H o s x y Q res v1 v2 e k;unfold iT at e;split at e;cases e;obtain rfl:=eQ v1;obtain rfl:=eQ v2;exact .inl (k _ H (.refl _) (.int _));split at e;rename_i g;cases e;obtain rfl:=nD v1;obtain rfl:=nD v2;exact .inl ⟨g,k _ H (.refl _) (.str _)⟩;cases e;split at e;rename_i l m g;cases e;obtain⟨p,xs,rfl,d,a⟩:=iN v1;obtain⟨q,ys,rfl,f,b⟩:=iN v2;have:=a.length;have:=b.length;exact .inr ⟨p,q,xs,ys,rfl,rfl,d,f,by lia,λr c=>k _ _ (bM c) (aH0 c (a.append b))⟩;cases e
 ·split at e;rename_i l m g;cases e;obtain⟨p,xs,rfl,d,a⟩:=gU v1;obtain⟨q,ys,rfl,f,b⟩:=gU v2;have j:=a.length;have n:=b.length;refine .inl (.inr ⟨xs,ys,eM d,eM f,by lia,λh=>?_,λh i=>?_,λh i r c=>k _ _ (bM c) (aV1 c (a.append b))⟩);subst h;have:l=[]:=List.eq_nil_of_length_eq_zero j;subst this;exact k _ H (.refl _) (.tup f b);subst i;have:m=[]:=List.eq_nil_of_length_eq_zero n;subst this;rw[a3g]at k;exact k _ H (.refl _) (.tup d a);cases e
 ·cases e
noncomputable section
open Classical
noncomputable def aV2:F2:=λd e=>match d,e with
 | .int i,.int j=>if tW i j then some (.val (.int (i*j)))else none
 | .str z,.int i=>if z.length<=1000/\0<=i/\i<=1000 then some (.val (.str (Txt.mul z i)))else none
 | _,_=>none
end
def dM9:R2:=λx y H Q=>rI tW (λi j=>.int (i*j)) x y H Q\/cU1 x y H Q
def jQ{X:Cx}:OpR X (binaryOp .Mult) dM9:=cV8.or dL0
def jR:aB7 dM9 aV2:=by
 intro H b c x y Q res v1 v2 e k;unfold aV2 at e;split at e;split at e;rename_i a;cases e;obtain rfl:=eQ v1;obtain rfl:=eQ v2;exact .inl ⟨_,_,rfl,rfl,a,k _ H (.refl _) (.int _)⟩;cases e;split at e;rename_i a;cases e;obtain rfl:=nD v1;obtain rfl:=eQ v2;exact .inr ⟨a.1,a.2.1,a.2.2,λy _ e=>by subst e;exact k _ H (.refl _) (.str _)⟩;cases e;cases e
noncomputable def ixD:F2:=λd e=>match d,e with
 | .lst l,.int i=>(atI l i).map .val
 | .tup l,.int i=>(atI l i).map .val
 | .str z,.int i=>if z.length<=sizeLine then(atI z.cps.toList i).map λc=>.val (.str ⟨#[c]⟩)else none
 | _,_=>none
theorem Rps.atI{H:Hp}{l:List D}{xs:List V}{i:Int}{d:D}(r:Rps H l xs)(h:L2.atI l i=some d):∃ x,L2.atI xs i=some x/\Rp H d x:=by
 unfold L2.atI at h ⊢;obtain⟨j,a,b⟩:=aE h;rw[← r.length,a];exact r.get b
def dN0:aB7 eC3 ixD:=by
 intro H j l x y Q res v1 v2 e k;unfold ixD at e;split at e;obtain rfl:=eQ v2;obtain⟨p,xs,rfl,f,g⟩:=iN v1;obtain⟨d,a,b⟩:=a4c.mp e;cases b;obtain⟨x,h,r⟩:=g.atI a;exact⟨x,bP4 f h,k _ H (.refl _) r⟩;obtain rfl:=eQ v2;obtain⟨p,xs,rfl,f,g⟩:=gU v1;obtain⟨d,a,b⟩:=a4c.mp e;cases b;obtain⟨x,h,r⟩:=g.atI a;exact⟨x,bP4 (eM f) h,k _ H (.refl _) r⟩;split at e;rename_i i;obtain rfl:=eQ v2;obtain rfl:=nD v1;obtain⟨c,a,b⟩:=a4c.mp e;cases b;exact⟨_,cT6 i a,k _ H (.refl _) (.str _)⟩;cases e;cases e
def gL{X:Cx}{a b:Expr}{c d:DE}{pos:Pos}(ha:GE X a c)(e:GE X b d)(f:bN6 b):GE X (.Subscript a b pos) (aX ixD c d):=.mk λΓ=>peW (dX5 eE9 (ha.to Γ) (e.to Γ) f) λ_ _ _=>pT dN0
noncomputable def mB:FN:=λa=>match a with
 | [.lst l]=>some (.val (.int l.length))
 | [.tup l]=>some (.val (.int l.length))
 | [.str z]=>if z.length<=sizeLine then some (.val (.int z.length))else none
 | _=>none
def aV3{H:Hp}{d:D}{vs:List V}(h:Vws H [d] vs):∃ x,vs=[x]/\Vw H d x:=by
 cases h with
 | cons a t=>cases t;exact⟨_,rfl,a⟩
def eD3{H:Hp}{d e:D}{vs:List V}(h:Vws H [d,e] vs):∃ x y,vs=[x,y]/\Vw H d x/\Vw H e y:=by
 cases h with
 | cons a t=>
   obtain⟨y,rfl,b⟩:=aV3 t;exact⟨_,_,rfl,a,b⟩
def eA:aU4 cB9 mB:=by
 intro H d vs Q res vw e k;unfold mB at e;split at e;cases e;obtain⟨x,rfl,v⟩:=aV3 vw;obtain⟨p,xs,rfl,a,b⟩:=iN v;refine⟨_,_,rfl,aF4 a,?_⟩;rw[← b.length];exact k _ H (.refl _) (.int _);cases e;obtain⟨x,rfl,v⟩:=aV3 vw;obtain⟨p,xs,rfl,a,b⟩:=gU v;refine⟨_,_,rfl,aF4 (eM a),?_⟩;rw[← b.length];exact k _ H (.refl _) (.int _);split at e;rename_i c;cases e;obtain⟨x,rfl,v⟩:=aV3 vw;obtain rfl:=nD v;exact⟨_,_,rfl,cC2 c,k _ H (.refl _) (.int _)⟩;cases e;cases e
noncomputable def aK0(l:List D)(lo hi:Option Int):List D:=(l.drop (HT.sIx l.length 0 lo)).take (HT.sIx l.length l.length hi-HT.sIx l.length 0 lo)
def Rps.cut{H:Hp}{l:List D}{xs:List V}(r:Rps H l xs)(lo hi:Option Int):Rps H (aK0 l lo hi) (aT0 xs lo hi):=by
 unfold aK0 aT0;rw[r.length];exact(r.drop _).take _
def bS2{xs:List V}{lo hi:Option Int}(h:HT.sIx xs.length 0 lo=0/\HT.sIx xs.length xs.length hi=xs.length):aT0 xs lo hi=xs:=by
 unfold aT0;rw[h.1,h.2];simp
end Dv
namespace HT
open PySem PySem.Spec PyProof.Rows
section
variable{prog:Program}{w:World}{A:Around}{E:Value->Shared->Prop}{s:Shared}
def getItem_tuple_all{t sl:Addr}{items:Array Value}{f g:Value}{lo hi:Option Int}{Q:Value->Shared->Prop}(a:IsTup s.heap t items)(i:s.heap.IsSliceOf sl f g .none)(k:IsPart f lo)(l:IsPart g hi)
  (j:sIx items.size 0 lo=0/\sIx items.size items.size hi=items.size) (h:Q (.ref t) s):wpAny (model prog w) A (getItem (.ref t) (.ref sl)) Q E s:=by
 obtain⟨os,c,d,m⟩:=id i;have e:s.TypeIs (.ref sl) "slice":=⟨os,c,d⟩;unfold getItem
 try with_reducible refine a3V ?_
 first | refine a3N (a3S ?_) | skip
 refine a3N (wpAny_sequenceKey a.typeIs (by decide) ?_);refine a3N (wpAny_callSpecial?_slot (name:=Str.ofString "__getitem__") a.typeIs a3f
  (a4p a3f a.typeIs entry_tuple_getitem ?_ (args_tuple_getitem _ _)))
 show wpAny _ _ (Builtin.Tuple.tupleItemsOf (.ref t) >>= _) _ _ s;refine a3N (tupleItemsOf_ a ?_);refine a3N (a4u e ?_);rw[a3O (by decide)];refine a3N (lG i k l ?_);have b:(((sIx items.size 0 lo:Nat):Int)==0&&(1:Int)==1&&(sIx items.size items.size hi-sIx items.size 0 lo)==items.size)=true:=by
  rw[j.1,j.2];simp
 show wpAny _ _ (if(((sIx items.size 0 lo:Nat):Int)==0&&(1:Int)==1&&(sIx items.size items.size hi-sIx items.size 0 lo)==items.size)=true then _ else _) _ _ s;rw[a3O b];refine a3N ?_;unfold Builtin.Tuple.tupleIsExact;refine a3N (a4u a.typeIs (a3S ?_));rw[a3O (by decide)];refine a3N (a4y ?_);exact a3S ⟨_,rfl,a3S h⟩
end
end HT
namespace Dv
open PySem L2
def eD4:V->Option Int->Option Int->Hp->VK->Prop:=λx lo hi H Q=>match x with
 | .str z=>z.length<=sizeLine/\Q (.str (Txt.slice z lo hi)) H
 | .ref p=>(∃ xs,hR H p=some (true,xs)/\∀ r,H r=none->Q (.ref r) (upd H r (.lst (aT0 xs lo hi)))) \/
   ∃ xs,hR H p=some (false,xs)/\(aT0 xs lo hi=xs->Q (.ref p) H)/\∀ r,H r=none->Q (.ref r) (upd H r (.tup (aT0 xs lo hi)))
 | _=>False
def eF3{X:Cx}:SlR X eD4:=by
 intro pins s σ H x v f g lo hi sl Q I b c d e h;unfold eD4 at h;split at h;rename_i z;exact dY0 pins s σ H _ v f g lo hi sl Q I b c d e h
 ·rename_i p;rcases h with h | ⟨xs,k,m,n⟩;exact dY0 pins s σ H _ v f g lo hi sl Q I b c d e (.inl h);by_cases i:HT.sIx xs.length 0 lo=0/\HT.sIx xs.length xs.length hi=xs.length
  ·cases b;obtain⟨j,r,l,o⟩:=I.tuple (fJ k);have a:j.toArray.size=xs.length:=by rw[a2b];exact r.length.symm
   refine⟨"tuple",_,a3f.lookup,l.typeIs,?_⟩;exact HT.getItem_tuple_all l c d e (by rw[a];exact i) ⟨.ref p,H,I,rfl,m (bS2 i)⟩
  ·exact dY0 pins s σ H _ v f g lo hi sl Q I b c d e (.inr ⟨xs,k,i,n⟩)
 ·exact h.elim
abbrev DO:=Sg->Option (Option Int×Sg)
def dTO(Γ:Gm)(r:DO):TO:=λσV H Q=>∃ σ,StOk Γ H σ σV/\∃ o σ',r σ=some (o,σ')/\∀ H',StOk Γ H' σ' σV->Step σ σV H σ' σV H'->Q o H'
structure GO(X:Cx)(e:Option Expr)(r:DO):Prop where
 to:∀ Γ,PO X e (dTO Γ r)
def poW{X:Cx}{e:Option Expr}{t t':TO}(h:PO X e t)(w:∀ σ H Q,t' σ H Q->t σ H Q):PO X e t':=λpins s σ H Q I q=>h pins s σ H Q I (w σ H Q q)
noncomputable def rD:DO:=λσ=>some (none,σ)
noncomputable def dP(r:DE):DO:=λσ=>(r σ).bind λx=>(rd x.2 x.1).bind λd=>match d with
 | .int i=>some (some i,x.2)
 | _=>none
def eX{X:Cx}:GO X none rD:=.mk λΓ=>poW cS4 λσV H Q Z1=>by obtain⟨σ,ok,o,σ',e,k⟩:=Z1;cases e;exact k H ok .refl
def eP{X:Cx}{e:Expr}{r:DE}(h:GE X e r):GO X (some e) (dP r):=.mk λΓ=>poW (cS5 (h.to Γ)) λσV H Q ⟨σ,ok,o,σ',e,k⟩=>by
 obtain⟨⟨x,c⟩,f,e⟩:=aE e;obtain⟨d,g,e⟩:=aE e;dsimp only at e;split at e;cases e;exact⟨σ,ok,x,_,f,λv i a j b _=>⟨_,eQ (j.vw a g),k i a b⟩⟩;cases e
noncomputable def slD(d:D)(lo hi:Option Int):Option Res:=match d with
 | .str z=>if z.length<=sizeLine then some (.val (.str (Txt.slice z lo hi)))else none
 | .lst l=>some (.own (.lst (aK0 l lo hi)))
 | .tup l=>some (.val (.tup (aK0 l lo hi)))
 | _=>none
noncomputable def dSl(r:DE)(a b:DO):DE:=λσ=>(r σ).bind λx=>(a x.2).bind λy=>(b y.2).bind λz=>(rd z.2 x.1).bind λd=>(slD d y.1 z.1).bind λw=>some (w,z.2)
def dN{X:Cx}{e:Expr}{lo hi:Option Expr}{B pos:Pos}{r:DE}{a b:DO}(C:GE X e r)(ha:GO X lo a)(D:GO X hi b):GE X (.Subscript e (.Slice lo hi none B) pos) (dSl r a b):=.mk λΓ=>peW (cB4 eF3 (C.to Γ) (ha.to Γ) (D.to Γ)) λσV H Q ⟨σ,ok,res,σ',e,k⟩=>by
 obtain⟨⟨x,i⟩,E,e⟩:=aE e;obtain⟨⟨lo,j⟩,F,e⟩:=aE e;obtain⟨⟨hi,y⟩,G,e⟩:=aE e;obtain⟨d,I,e⟩:=aE e;obtain⟨w,c,e⟩:=aE e;cases e;refine⟨σ,ok,x,i,E,λv M l J m _=>⟨i,l,lo,j,F,λN n f=>⟨j,n,hi,y,G,λs g h=>?_⟩⟩⟩;have vw:=((J.step l f).step n h).vw g I;have fin:∀ v H',aT4 s H'->aU3 s H' res v->Q v H':=λv H' z A=>k v H' (g.same z) (A.res g) (((m.trans f).trans h).trans (.same z)) (A.frh.back ((m.trans f).trans h));dsimp only at c;unfold slD at c;split at c;split at c;rename_i K;cases c;obtain rfl:=nD vw;exact⟨K,fin _ s (.refl _) (.str _)⟩;cases c;cases c;obtain⟨p,xs,rfl,t,u⟩:=iN vw;exact .inl ⟨xs,t,λq o=>fin _ _ (bM o) (aH0 o (u.cut lo hi))⟩;cases c;obtain⟨p,xs,rfl,t,u⟩:=gU vw;refine .inr ⟨xs,eM t,λL=>fin _ s (.refl _) ?_,λq o=>fin _ _ (bM o) (aV1 o (u.cut lo hi))⟩;have:=u.cut lo hi;rw[L]at this;exact .tup t this;cases c
def dN1(K:W.Frag):List V->Hp->VK->Prop:=λxs H Q=>∃ (a:Addr) (bs:List Bool),xs=[.ref a]/\SqL K H a (bs.map V.bl)/\Q (.bl (bs.all id)) H
noncomputable def aN1:List D->Option (List Bool)
 | []=>some []
 | .bl b::r=>(aN1 r).bind λbs=>some (b::bs)
 | _=>none
theorem aH1:∀ {l:List D} {bs:List Bool},aN1 l=some bs->l=bs.map D.bl
 | [],_,h=>by cases h;rfl
 | .bl b::r,_,h=>by
   obtain⟨bs,a,e⟩:=aE h;cases e;rw[aH1 a];rfl
 | .non::_,_,h=>by cases h
 | .int _::_,_,h=>by cases h
 | .str _::_,_,h=>by cases h
 | .tup _::_,_,h=>by cases h
 | .lst _::_,_,h=>by cases h
 | .dic _ _::_,_,h=>by cases h
def aN2(bs:List Bool):aN1 (bs.map D.bl)=some bs:=by
 induction bs with
 | nil=>rfl
 | cons b r a=>show(aN1 (r.map D.bl)).bind _=_;rw[a];rfl
noncomputable def cD8:FN:=λa=>match a with
 | [.lst l]=>(aN1 l).map λbs=>.val (.bl (bs.all id))
 | _=>none
def aH2{K:W.Frag}:aU4 (dN1 K) cD8:=by
 intro H f vs Q res vw e k;unfold cD8 at e;split at e;obtain⟨bs,c,d⟩:=a4c.mp e;cases d;obtain⟨x,rfl,v⟩:=aV3 vw;obtain⟨p,xs,rfl,a,b⟩:=iN v;rw[aH1 c]at b;rw[b.bls_inv]at a;exact⟨p,bs,rfl,fN a,k _ H (.refl _) (.bl _)⟩;cases e
def pZ{X:Cx}(K:W.Frag)(a:X.K=K)(b:X.calm=true):iW X (.builtin "all") (dN1 K):=by rw[← a];exact cB7 b
noncomputable def bS3:FN:=λa=>match a with
 | [.int i,.int j]=>some (.val (.int (if j > i then j else i)))
 | _=>none
noncomputable def bH9:FN:=λa=>match a with
 | [.int i,.int j]=>some (.val (.int (if j < i then j else i)))
 | _=>none
def cD9:aU4 (λxs H Q=>∃ i j,xs=[.int i,.int j]/\Q (.int (if j > i then j else i)) H) bS3:=by
 intro H c vs Q res vw e k;unfold bS3 at e;split at e;cases e;obtain⟨x,y,rfl,a,b⟩:=eD3 vw;obtain rfl:=eQ a;obtain rfl:=eQ b;exact⟨_,_,rfl,k _ H (.refl _) (.int _)⟩;cases e
def bC3:aU4 (λxs H Q=>∃ i j,xs=[.int i,.int j]/\Q (.int (if j < i then j else i)) H) bH9:=by
 intro H c vs Q res vw e k;unfold bH9 at e;split at e;cases e;obtain⟨x,y,rfl,a,b⟩:=eD3 vw;obtain rfl:=eQ a;obtain rfl:=eQ b;exact⟨_,_,rfl,k _ H (.refl _) (.int _)⟩;cases e
noncomputable def dE0:FN:=λa=>match a with
 | [.int i]=>some (.val (.int i))
 | [.bl b]=>some (.val (.int (if b then 1 else 0)))
 | _=>none
def bS4:aU4 (λxs H Q=>(∃ i,xs=[.int i]/\Q (.int i) H)\/∃ k,xs=[.bl k]/\Q (.int (if k then 1 else 0)) H) dE0:=by
 intro H b vs Q res vw e k;unfold dE0 at e;split at e;cases e;obtain⟨x,rfl,a⟩:=aV3 vw;obtain rfl:=eQ a;exact .inl ⟨_,rfl,k _ H (.refl _) (.int _)⟩;cases e;obtain⟨x,rfl,a⟩:=aV3 vw;obtain rfl:=aU5 a;exact .inr ⟨_,rfl,k _ H (.refl _) (.int _)⟩;cases e
noncomputable def sM:FN:=λa=>match a with
 | [.lst l]=>some (.own (.lst l))
 | [.tup l]=>some (.own (.lst l))
 | _=>none
def qA:aU4 cM9 sM:=by
 intro H f vs Q res vw e k;unfold sM at e;split at e;cases e;obtain⟨x,rfl,a⟩:=aV3 vw;obtain⟨p,xs,rfl,c,d⟩:=iN a;exact⟨p,true,xs,rfl,c,λq b=>k _ _ (bM b) (aH0 b d)⟩;cases e;obtain⟨x,rfl,a⟩:=aV3 vw;obtain⟨p,xs,rfl,c,d⟩:=gU a;exact⟨p,false,xs,rfl,eM c,λq b=>k _ _ (bM b) (aH0 b d)⟩;cases e
noncomputable def aK1:FN:=λa=>match a with
 | [.lst l]=>some (.val (.tup l))
 | [.tup l]=>some (.val (.tup l))
 | _=>none
def jS:aU4 dK9 aK1:=by
 intro H f vs Q res vw e k;unfold aK1 at e;split at e;cases e;obtain⟨x,rfl,a⟩:=aV3 vw;obtain⟨p,xs,rfl,b,c⟩:=iN a;exact⟨p,true,xs,rfl,b,λq d=>k _ _ (bM d) (aV1 d c)⟩;cases e;obtain⟨x,rfl,a⟩:=aV3 vw;obtain⟨p,xs,rfl,b,c⟩:=gU a;exact⟨p,false,xs,rfl,eM b,k _ H (.refl _) (.tup b c)⟩;cases e
noncomputable def dY8:D->String
 | .non=>"NoneType"
 | .bl _=>"bool"
 | .int _=>"int"
 | .str _=>"str"
 | .lst _=>"list"
 | .tup _=>"tuple"
 | .dic _ _=>"dict"
noncomputable def dE1(c:String):F1:=λd=>match d with
 | .dic _ _=>none
 | d=>some (.val (.bl (tL (dY8 d) c)))
noncomputable def aS5:FM:=λd a=>match d,a with
 | .lst l,[e]=>if l.length < sizeLine then some (.lst (l++[e]),.non)else none
 | _,_=>none
def mD{H:Hp}{l:List D}{p:Addr}(h:fL H (.lst l) p):∃ xs,H p=some (.lst xs)/\Rps H l xs:=h
def mE:dV3 bN8 aS5:=by
 intro H d p i vs Q d' e c r b k;unfold aS5 at b;split at b
 ·split at b
  ·rename_i l x g;cases b;obtain⟨xs,h,f⟩:=mD c;cases r with
   | cons a t=>
     cases t;exact⟨p,xs,_,rfl,rfl,h,by rw[← f.length];exact g,k _ _ ⟨_,aW,(f.append (.cons a .nil)).mono (fL.ext c)⟩ .non⟩
  ·cases b
 ·cases b
noncomputable def bS5:FM:=λd a=>match d,a with
 | .lst l,[.lst m]=>if l.length+m.length<=sizeLine then some (.lst (l++m),.non)else none
 | _,_=>none
def dN2:V->List V->Hp->VK->Prop:=λx vs H Q=>∃ l b xs zs,x=.ref l/\vs=[.ref b]/\H l=some (.lst xs)/\hR H b=some (true,zs)/\xs.length+zs.length<=sizeLine/\Q .non (upd H l (.lst (xs++zs)))
def aH3{X:Cx}:MtM X "list.extend" dN2:=by
 intro pins s σ H x vs v us Q I i j h;obtain⟨l,b,xs,w,rfl,rfl,g,k,y,q⟩:=h;cases i;obtain⟨u,rfl,m⟩:=j.one;cases m;obtain⟨z,c,n,r,A,e⟩:=I.lstM g;obtain⟨B,a,n2,o,p,t⟩:=aG9 I k;have f:c.toArray.size+a.toArray.size<=sizeLine:=by rw[a2b,a2b];lia
 have d:¬ (!c.toArray.isEmpty&&Builtin.List.listTooLong (c.toArray.size+a.toArray.size))=true:=by
  rw[aZ8 f,Bool.and_false];exact a7b
 refine a4n F.slot_list_extend ⟨_,e,rfl⟩ F.entry_list_extend (F.args_list_extend_2 _ _)
  (AutoSeq1.list_extend_list_list_0 l c.toArray n b a.toArray n2 d (by rw[a2b];lia) (by lia)) ⟨e,t,?_⟩
 refine⟨.non,_,I.lset (its':=c++a) g e (by simp) (r.append o) ?_,rfl,q⟩;rw[a8a];lia
def aH4:eD0 dN2 bS5:=by
 intro H d p j vs Q d' e c r b k;unfold bS5 at b;split at b;split at b;rename_i l m n;cases b;obtain⟨xs,h,f⟩:=mD c;obtain⟨x,rfl,a⟩:=aV3 r;obtain⟨q,ys,rfl,i,g⟩:=iN a;have:=f.length;have:=g.length;exact⟨p,q,xs,ys,rfl,rfl,h,i,by lia,k _ _ ⟨_,aW,(f.append g).mono (fL.ext c)⟩ .non⟩;cases b;cases b
noncomputable def tX:FM:=λd a=>match d,a with
 | .lst l,[.int i]=>if -(2 ^ 63)<=i/\i < 2 ^ 63 then(ixN l.length i).bind λj=>(l[j]?).map λy=>(.lst (l.eraseIdx j),y)else none
 | _,_=>none
def aN3:dV3 cL0 tX:=by
 intro H d p q vs Q d' e c r b k;unfold tX at b;split at b
 ·split at b
  ·rename_i l i hi;obtain⟨j,g,b⟩:=aE b;obtain⟨y,h,m⟩:=a4c.mp b;cases m;obtain⟨xs,n,f⟩:=mD c;obtain⟨x,ex,o⟩:=f.get h;cases r with
   | cons a t=>
     cases t;cases a;exact⟨p,xs,i,j,x,rfl,rfl,n,hi.1,hi.2,by rw[← f.length];exact(aT1 g).1,ex,k _ _ ⟨_,aW,(f.eraseIdx j).mono (fL.ext c)⟩ (o.mono (fL.ext c))⟩
  ·cases b
 ·cases b
noncomputable def dN3(i:Int)(e:D):D->Option D
 | .lst l=>(ixN l.length i).map λj=>.lst (l.set j e)
 | _=>none
noncomputable def aS6(k:Nat)(ri c:DE):DS:=λσ=>(c σ).bind λx=>match x.1 with
 | .val d=>if aM5 "list" k x.2=true then(ri x.2).bind λy=>(rd y.2 y.1).bind λe=>match e with
   | .int i=>(bR4 (λa _=>(dN3 i d a).map λb=>(b,.non)) k [] y.2).bind λz=>some (.nx z.2)
   | _=>none else none
 | _=>none
def bS6{X:Cx}{E:Ex}{st:Stmt}{k:Nat}{ri I:DE}(h:∀ Γ,PS X st (cR6 (dTE Γ I) (dD3 (bK8 k) (dTE Γ ri) bN7))):GS E X st (aS6 k ri I):=.mk λΓ=>psW (h Γ) λD σV H ⟨σ,ok,o,e,N⟩=>by
 obtain⟨⟨x,f⟩,O,e⟩:=aE e;refine⟨σ,ok,x,f,O,λv H1 g P u f1=>?_⟩;cases x with
 | own d=>cases e
 | slot d=>cases e
 | val d=>
   have c:(if aM5 "list" k f=true then(ri f).bind λy=>(rd y.2 y.1).bind λJ=>match J with
    | .int i=>(bR4 (λa _=>(dN3 i d a).map λb=>(b,.non)) k [] y.2).bind λz=>some (.nx z.2)
    | _=>none else none)=some o:=e
   split at c
   ·rename_i hn;obtain⟨⟨y,w⟩,Q,c⟩:=aE c;obtain⟨J,R,c⟩:=aE c;obtain⟨s0,A,B,S⟩:=sT hn;obtain⟨p,C,ow⟩:=g.ownAt A B;dsimp only at c;split at c
    ·rename_i i;obtain⟨⟨z,T⟩,U,c⟩:=aE c;cases c;obtain⟨s,d',y',K,hm,V,rfl,rfl⟩:=jK U;obtain⟨b,L,W⟩:=a4c.mp V;cases W;refine⟨_,C,f,g,y,w,Q,λvi Y n Z q f2=>?_⟩;obtain rfl:=eQ (Z.vw n R);obtain⟨p',r,t⟩:=n.ownAt K (jP hm);rw[C]at r;cases r;have rv:Rp Y d v:=Rp.mono (q.ext g) P;obtain⟨m,sd⟩:=s;cases sd with
     | lst l=>
       obtain⟨j,e8,e9⟩:=a4c.mp L;cases e9;obtain⟨xs,h1,M⟩:=mD t;refine⟨p,xs,i,j,rfl,rfl,h1,by rw[← M.length];exact e8,?_⟩;obtain⟨F,G⟩:=n.write (d':=.lst (l.set j d)) (o':=.lst (xs.set j v)) K hm C ⟨_,aW,(M.set j rv).mono (fL.ext t)⟩;exact N _ _ F ((u.trans q).trans G)
     | _=>cases L
    ·cases c
   ·cases c
noncomputable def isD(neg:Bool):F2:=λd e=>match e with
 | .non=>some (.val (.bl (if neg then !decide (d=.non)else decide (d=.non))))
 | .bl b=>(match d with | .bl a=>some (.val (.bl (if neg then !decide (a=b)else decide (a=b)))) | _=>none)
 | _=>none
def bI0{H:Hp}{d:D}{v:V}(h:Vw H d v):decide (v=.non)=decide (d=.non):=by
 rcases h with h | ⟨p,rfl,h⟩;cases h<;>simp;cases d<;>first | exact h.elim | simp
def bS7{neg:Bool}:aB7 (cC8 neg) (isD neg):=by
 intro H a b x y Q res v1 v2 e k;unfold isD at e;split at e;cases e;obtain rfl:=cN6 v2;show Q (.bl (if neg then !decide (x=.non)else decide (x=.non))) H;rw[bI0 v1];exact k _ H (.refl _) (.bl _);split at e;cases e;obtain rfl:=aU5 v2;obtain rfl:=aU5 v1;exact k _ H (.refl _) (.bl _);cases e;cases e
def bI1(i j:Int):Prop:=0 < j/\j < 18446744073709551616
def bC4{X:Cx}:OpR X (binaryOp .FloorDiv) (rI bI1 λi j=>.int (i / j)):=opI λi j _ _ _ _ _ a q=>by
 have c:(0:Int) < j:=a.1;have d:j < 18446744073709551616:=a.2;refine PyProof.Rows.floordiv_int (by lia) (by rw[Int.fdiv_eq_ediv_of_nonneg i (by lia)];exact q) (.inl (PyProof.noPylong_of_log2 ?_));have h0:j.natAbs≠0:=by lia
 have b:j.natAbs.log2 < 64:=(Nat.log2_lt h0).mpr (by lia);lia
noncomputable def dV6:F2:=iiC bI1 λi j=>.int (i / j)
def bS8:aB7 (rI bI1 λi j=>.int (i / j)) dV6:=aV0 λ_ _ _=>.int _
mutual
def nE:D->PyData
 | .non=>.none
 | .bl b=>.bool b
 | .int i=>.int i
 | .str x=>.str x
 | .tup l=>.tuple (toPys l)
 | .lst l=>.list (toPys l)
 | .dic _ _=>.dict []
def toPys:List D->List PyData
 | []=>[]
 | d::r=>nE d::toPys r
end
section
variable{X:Cx}{pins:List (Addr×Obj)}{σ:St}{H:Hp}{s:Shared}
mutual
theorem bC5(I:Inv X pins σ H s):∀ {d:D} {v:V} {u:Value},Rp H d v->gC v u->(nE d).canLay0=true->∃ as,Reads s.heap u (nE d) as
 | _,_,_,.non,r,_=>by cases r;exact⟨_,.none⟩
 | _,_,_,.bl b,r,_=>by cases r;exact⟨_,.bool b⟩
 | _,_,_,.int i,r,_=>by obtain⟨t,rfl⟩:=r;exact⟨_,.int i t⟩
 | _,_,_,.str x,r,_=>by obtain⟨t,rfl⟩:=r;exact⟨_,.str x t⟩
 | _,_,_,.tup h rs,r,a=>by
   cases r;obtain⟨_,c,f,⟨o,l,g,n,hd⟩,_⟩:=I.hok _ _ h;obtain⟨as,j⟩:=rps_reads I rs f a;exact⟨_,.tuple l g hd (by simpa using j)⟩
 | _,_,_,.lst h rs,r,a=>by
   cases r;obtain⟨_,_,c,n,f,e⟩:=I.hok _ _ h;obtain⟨as,j⟩:=rps_reads I rs f a;exact⟨_,.list e rfl rfl (by simpa using j)⟩
 | _,_,_,.dic h k rs,r,a=>nomatch a
theorem rps_reads(I:Inv X pins σ H s):∀ {l:List D} {vs:List V} {us:List Value},Rps H l vs->dD vs us->PyData.canLayAll0 (toPys l)=true->∃ as,ReadsAll s.heap us (toPys l) as
 | [],_,_,.nil,r,_=>by cases r;exact⟨_,.nil⟩
 | d::l,_,_,.cons a t,r,c=>by
   cases r with
   | cons e f=>
     have b:(nE d).canLay0=true/\PyData.canLayAll0 (toPys l)=true:=by simpa[toPys,PyData.canLayAll0]using c
     obtain⟨as,g⟩:=bC5 I a e b.1;obtain⟨bs,h⟩:=rps_reads I t f b.2;exact⟨_,.cons g h⟩
end
def jL(I:Inv X pins σ H s){d:D}{v:V}{u:Value}(h:Vw H d v)(r:gC v u)(a:(nE d).canLay0=true):∃ as,Reads s.heap u (nE d) as:=by
 rcases h with h | ⟨p,rfl,h⟩;exact bC5 I h r a;cases r;cases d with
 | lst l=>
   obtain⟨xs,b,c⟩:=mD h;obtain⟨_,f,n,g,e⟩:=I.hok _ _ b;obtain⟨as,i⟩:=rps_reads I c g a;exact⟨_,.list e rfl rfl (by simpa using i)⟩
 | dic ks vs=>exact nomatch a
 | _=>exact h.elim
end
noncomputable def zZ(d e:D):Bool:=PyData.eqv (nE d) (nE e)
noncomputable def mG(d:D):Bool:=(nE d).canLay0&&decide ((nE d).depth<=60)
def dY9(neg:Bool):R2:=λx y H Q=>∃ d e,Vw H d x/\Vw H e y/\mG d=true/\mG e=true/\Q (.bl (if neg then !zZ d e else zZ d e)) H
def iC{d:D}(h:mG d=true):(nE d).canLay0=true/\(nE d).depth<=60:=by
 unfold mG at h;rw[a5f,a3R]at h;exact h
def fP{X:Cx}(l:X.A.units+64 < cLine):OpR X (compareOp .Eq) (dY9 false):=by
 intro pins s σ H x y v u Q I c f h;obtain⟨d,e,v1,v2,g,i,q⟩:=h;obtain⟨a,m⟩:=iC g;obtain⟨b,n⟩:=iC i;obtain⟨as,j⟩:=jL I v1 c a;obtain⟨bs,k⟩:=jL I v2 f b;exact SeqAt.rcAt_reads j k a b (by lia) _ _ _ _ ⟨.bl _,H,I,rfl,q⟩
def qB{X:Cx}(l:X.A.units+64 < cLine):OpR X (compareOp .NotEq) (dY9 true):=by
 intro pins s σ H x y v u Q I c f h;obtain⟨d,e,v1,v2,g,i,q⟩:=h;obtain⟨a,m⟩:=iC g;obtain⟨b,n⟩:=iC i;obtain⟨as,j⟩:=jL I v1 c a;obtain⟨bs,k⟩:=jL I v2 f b;exact SeqAt.rcNeAt_reads j k a b (by lia) _ _ _ _ ⟨.bl _,H,I,rfl,q⟩
noncomputable def eqD(neg:Bool):F2:=λd e=>if mG d=true/\mG e=true then some (.val (.bl (if neg then !zZ d e else zZ d e)))else none
def dO{neg:Bool}:aB7 (dY9 neg) (eqD neg):=by
 intro H b c x y Q res v1 v2 e k;unfold eqD at e;split at e;rename_i a;cases e;exact⟨b,c,v1,v2,a.1,a.2,k _ H (.refl _) (.bl _)⟩;cases e
def dZ0(neg:Bool):R2:=λx y H Q=>(∃ i j,x=.str i/\y=.str j/\Q (.bl (if neg then(Builtin.Str.occurrences j i 0 j.length 1).isEmpty else !(Builtin.Str.occurrences j i 0 j.length 1).isEmpty)) H) \/
 ∃ d e b l,Vw H d x/\Vw H e y/\cD3 e=some (b,l)/\mG d=true/\mG e=true/\Q (.bl (if neg then !(l.any λy=>zZ y d)else l.any λy=>zZ y d)) H
theorem tY(d:D):∀ l:List D,(toPys l).any (λy=>PyData.eqv y (nE d))=l.any λy=>zZ y d
 | []=>rfl
 | e::r=>by show(PyData.eqv (nE e) (nE d)||(toPys r).any _)=_;rw[tY d r];rfl
def aN4{e:D}{b:Bool}{l:List D}(h:cD3 e=some (b,l)):PyData.depthAll (toPys l)<=(nE e).depth/\((nE e).canLay0=true->PyData.canLayAll0 (toPys l)=true):=by
 cases e with
 | lst a=>cases h;exact⟨by show _<=PyData.depth (.list (toPys l));simp only[PyData.depth];lia,λz=>z⟩
 | tup a=>cases h;exact⟨by show _<=PyData.depth (.tuple (toPys l));simp only[PyData.depth];lia,λz=>z⟩
 | _=>cases h
def lJ{X:Cx}(t:X.A.units+64 < cLine):OpR X (compareOp .In) (dZ0 false):=by
 intro pins s σ H x y v u Q I g k h;rcases h with⟨i,j,rfl,rfl,q⟩ | ⟨d,e,b,l,v1,v2,a,o,p,q⟩;exact bM7 pins s σ H _ _ v u Q I g k ⟨_,_,rfl,rfl,by simpa using q⟩;obtain⟨c,w⟩:=iC o;obtain⟨f,z⟩:=iC p;obtain⟨as,m⟩:=jL I v1 g c;obtain⟨bs,n⟩:=jL I v2 k f;obtain⟨dp,cl⟩:=aN4 a;have fin:EP X pins σ Q (.bool ((toPys l).any λy=>PyData.eqv y (nE d))) s:=⟨.bl _,H,I,by rw[tY];rfl,q⟩;cases e with
 | lst r=>cases a;exact SeqAt.in_list_reads n m (cl f) c (by lia) fin
 | tup r=>cases a;exact SeqAt.in_tuple_reads n m (cl f) c (by lia) fin
 | _=>cases a
def iD{X:Cx}(t:X.A.units+64 < cLine):OpR X (compareOp .NotIn) (dZ0 true):=by
 intro pins s σ H x y v u Q I g k h;rcases h with⟨i,j,rfl,rfl,q⟩ | ⟨d,e,b,l,v1,v2,a,o,p,q⟩;exact aK5 pins s σ H _ _ v u Q I g k ⟨_,_,rfl,rfl,by simpa using q⟩;obtain⟨c,w⟩:=iC o;obtain⟨f,z⟩:=iC p;obtain⟨as,m⟩:=jL I v1 g c;obtain⟨bs,n⟩:=jL I v2 k f;obtain⟨dp,cl⟩:=aN4 a;have fin:EP X pins σ Q (.bool (!(toPys l).any λy=>PyData.eqv y (nE d))) s:=⟨.bl _,H,I,by rw[tY];rfl,q⟩;cases e with
 | lst r=>cases a;exact SeqAt.notIn_list_reads n m (cl f) c (by lia) fin
 | tup r=>cases a;exact SeqAt.notIn_tuple_reads n m (cl f) c (by lia) fin
 | _=>cases a
noncomputable def inD(neg:Bool):F2:=λd e=>match d,e with
 | .str i,.str j=>some (.val (.bl (if neg then(Builtin.Str.occurrences j i 0 j.length 1).isEmpty else !(Builtin.Str.occurrences j i 0 j.length 1).isEmpty)))
 | d,e=>match cD3 e with
   | some (_,l)=>if mG d=true/\mG e=true then some (.val (.bl (if neg then !(l.any λy=>zZ y d)else l.any λy=>zZ y d)))else none
   | none=>none
def gF{neg:Bool}:aB7 (dZ0 neg) (inD neg):=by
 intro H c d x y Q res v1 v2 e k;unfold inD at e;split at e;cases e;obtain rfl:=nD v1;obtain rfl:=nD v2;exact .inl ⟨_,_,rfl,rfl,k _ H (.refl _) (.bl _)⟩;split at e;rename_i b l f;split at e;rename_i a;cases e;exact .inr ⟨c,d,b,l,v1,v2,f,a.1,a.2,k _ H (.refl _) (.bl _)⟩;cases e;cases e
def cW2(K:W.Frag):List V->Hp->VK->Prop:=λxs H Q=>∃ x c t,xs=[x,.ty c]/\TyOf K H x (.type t)/\(t="NoneType"\/t="int"\/t="bool"\/t="str"\/t="list"\/t="tuple") /\
 (c="int"\/c="bool"\/c="str"\/c="list"\/c="tuple")/\Q (.bl (tL t c)) H
def aN5{X:Cx}(K:W.Frag)(a:X.K=K):iW X (.builtin "isinstance") (cW2 K):=by
 subst a;intro pins s σ H xs us Q I r h;obtain⟨x,c,t,rfl,ty,b,d,q⟩:=h;exact aT6 pins s σ H _ us Q I r ⟨x,c,.type t,_,rfl,ty,cC9 b d,q⟩
def cN9{X:Cx}{e:Expr}{r:DE}{c:String}(K:W.Frag)(a:c="int"\/c="bool"\/c="str"\/c="list"\/c="tuple")(h:∀ Γ,PE X e (tCB (cW2 K) (cB2 (dTE Γ r) (cB2 (tC (.ty c)) dX2)))):GE X e (aG1 (dE1 c) r):=.mk λΓ=>peW (h Γ) λσV H Q g=>by
 have j:cV1 (λx H Q=>cW2 K [x,.ty c] H Q) (dE1 c):=by
  intro H d x Q res v1 e k;cases d with
  | non=>cases e;obtain rfl:=cN6 v1;exact⟨_,_,_,rfl,.non,.inl rfl,a,k _ H (.refl _) (.bl _)⟩
  | bl b=>cases e;obtain rfl:=aU5 v1;exact⟨_,_,_,rfl,.bl b,.inr (.inr (.inl rfl)),a,k _ H (.refl _) (.bl _)⟩
  | int i=>cases e;obtain rfl:=eQ v1;exact⟨_,_,_,rfl,.int i,.inr (.inl rfl),a,k _ H (.refl _) (.bl _)⟩
  | str i=>cases e;obtain rfl:=nD v1;exact⟨_,_,_,rfl,.str i,.inr (.inr (.inr (.inl rfl))),a,k _ H (.refl _) (.bl _)⟩
  | tup l=>cases e;obtain⟨p,xs,rfl,f,_⟩:=gU v1;exact⟨_,_,_,rfl,.tup f,.inr (.inr (.inr (.inr (.inr rfl)))),a,k _ H (.refl _) (.bl _)⟩
  | lst l=>
    cases e;rcases v1 with v1 | ⟨p,rfl,v1⟩
    ·cases v1 with
     | lst f _=>exact⟨_,_,_,rfl,.frz f,.inr (.inr (.inr (.inr (.inl rfl)))),a,k _ H (.refl _) (.bl _)⟩
    ·obtain⟨xs,f,_⟩:=mD v1;exact⟨_,_,_,rfl,.lst f,.inr (.inr (.inr (.inr (.inl rfl)))),a,k _ H (.refl _) (.bl _)⟩
  | dic ks vs=>cases e
 exact aG2 j g
def gE{X:Cx}{e:Expr}{r:DE}(h:GE X e r)(Γ:Gm):PE X e (dTE Γ r):=h.to Γ
def gA{X:Cx}{e:List Expr}{r:DA}(h:GA X e r)(Γ:Gm):PA X e (dTA Γ r):=h.to Γ
def gT{X:Cx}{e:Expr}{r:DT}(h:GT X e r)(Γ:Gm):PT X e (dTT Γ r):=h.to Γ
def gI{X:Cx}{tg e:Expr}{r:DI}(h:GI X tg e r)(Γ:Gm):PI X tg e (dTI Γ r):=h.to Γ
def gSs{X:Cx}{E:Ex}{e:List Stmt}{r:DS}(h:GSs E X e r)(Γ:Gm):PSs X e (dTS Γ E r):=h.to Γ
noncomputable def bS9(K:W.Frag):Bool:=K.all λp=>match p.2.cls with
 | .type n=>!(n=="list")
 | _=>true
def cW3{K:W.Frag}{H:Hp}{a:Addr}{ns:List Int}(c:bS9 K=true)(g:dJ2 H)(b:SqL K H a (ns.map V.int)):ArgOk H [⟨.val,.lst (ns.map D.int)⟩] [.ref a]:=by
 have d:∃ o,H a=some (.frz o (.lst (ns.map V.int))):=by
  rcases b with b | ⟨o,k,n,q,u,_⟩
  ·rcases b with b | ⟨o,b⟩;rcases g a with z | ⟨o,xs,z⟩;rw[b]at z;cases z;rw[b]at z;cases z;exact⟨o,b⟩
  ·exfalso;unfold bS9 at c;rw[a6g]at c;have hm:(a,o)∈K:=by
    clear c g;have:∀ (l:List (Addr×Obj)),List.lookup a l=some o->(a,o)∈l:=by
     intro l
     induction l with
     | nil=>intro h;simp at h
     | cons p r v=>
       intro h;rw[a4h]at h;split at h
       ·rename_i e;have:a=p.1:=by simpa using e
        cases h;rw[this];exact a3a
       ·exact a4a _ (v h)
    exact this K q
   have:=c _ hm;rw[u]at this;simp at this
 obtain⟨o,d⟩:=d;refine⟨rfl,λi s e=>?_,λi j s t p n f w m=>?_,λi s e=>?_⟩
 ·cases i with
  | zero=>simp at e;subst e;exact⟨_,rfl,.lst d (jJ ns)⟩
  | succ i=>simp at e
 ·cases i with
  | zero=>simp at f;subst f;cases m
  | succ i=>simp at f
 ·cases i with
  | zero=>simp at e;subst e;exact λz=>nomatch z
  | succ i=>simp at e
def OK1{α:Type}(o:Option α)(K:α->Prop):Prop:=match o with
 | some a=>K a
 | none=>False
def RE(r:DE)(σ:Sg)(Q:Res->Sg->Prop):Prop:=OK1 (r σ) λx=>Q x.1 x.2
def RT(r:DT)(σ:Sg)(Q:Bool->Sg->Prop):Prop:=OK1 (r σ) λx=>Q x.1 x.2
def RA(r:DA)(σ:Sg)(Q:List Res->Sg->Prop):Prop:=OK1 (r σ) λx=>Q x.1 x.2
def RS(r:DS)(σ:Sg)(Q:Out->Prop):Prop:=OK1 (r σ) Q
def RI(r:DI)(σ:Sg)(Q:List D->Option Nat->Sg->Prop):Prop:=OK1 (r σ) λx=>Q x.1 x.2.1 x.2.2
def RO(r:DO)(σ:Sg)(Q:Option Int->Sg->Prop):Prop:=OK1 (r σ) λx=>Q x.1 x.2
theorem aS{α b:Type}{o:Option α}{f:α->Option b}{K:b->Prop}:OK1 (o.bind f) K=OK1 o λa=>OK1 (f a) K:=by cases o<;>rfl
theorem bZ{α:Type}{a:α}{K:α->Prop}:OK1 (some a) K=K a:=rfl
def aN6{α b:Type}{o:Option α}{f:α->b}{K:b->Prop}:OK1 (o.map f) K=OK1 o λa=>K (f a):=by cases o<;>rfl
theorem bW{α:Type}{c:Prop}[Decidable c]{o:Option α}{K:α->Prop}:OK1 (if c then o else none) K=(c/\OK1 o K):=by
 by_cases h:c;rw[a3O h];exact propext ⟨λq=>⟨h,q⟩,λq=>q.2⟩;rw[a3P h];exact propext ⟨λq=>q.elim,λq=>h q.1⟩
def jM{α:Type}{o:Option α}{K:α->Prop}:OK1 o K↔∃ a,o=some a/\K a:=by
 cases o with
 | none=>exact⟨λq=>q.elim,λ⟨_,e,_⟩=>nomatch e⟩
 | some a=>exact⟨λq=>⟨a,rfl,q⟩,λZ1=>by obtain⟨_,e,q⟩:=Z1;cases e;exact q⟩
def dL{α:Type}{o:Option α}{K b:α->Prop}(h:OK1 o K)(w:∀ a,K a->b a):OK1 o b:=by
 cases o with
 | none=>exact h
 | some a=>exact w a h
def VK:Nat->Sg->Nat->Sg->(Res->Sg->Prop)->Prop
 | 0,some s::_,i,σ,Q=>Q (if s.m=.val then .val s.d else .slot i) σ
 | n+1,_::r,i,σ,Q=>VK n r i σ Q
 | _,_,_,_,_=>False
theorem dN4:∀ (n:Nat) (r:Sg) (i:Nat) (σ:Sg) (Q:Res->Sg->Prop),VK n r i σ Q=OK1 (match r[n]? with | some (some s)=>some (if s.m=.val then Res.val s.d else Res.slot i,σ) | _=>none) λx=>Q x.1 x.2
 | 0,[],_,_,_=>rfl
 | 0,none::_,_,_,_=>rfl
 | 0,some s::_,_,_,_=>rfl
 | n+1,[],_,_,_=>rfl
 | n+1,_::r,i,σ,Q=>by
   show VK n r i σ Q=_;rw[dN4 n r i σ Q,a2d]
def GK:Nat->Sg->(D->Prop)->Prop
 | 0,some s::_,K=>K s.d
 | n+1,_::r,K=>GK n r K
 | _,_,_=>False
theorem dN5:∀ (n:Nat) (r:Sg) (K:D->Prop),GK n r K=OK1 (match r[n]? with | some (some s)=>some s.d | _=>none) K
 | 0,[],_=>rfl
 | 0,none::_,_=>rfl
 | 0,some s::_,_=>rfl
 | n+1,[],_=>rfl
 | n+1,_::r,K=>by
   show GK n r K=_;rw[dN5 n r K,a2d]
def RD(σ:Sg)(r:Res)(K:D->Prop):Prop:=OK1 (rd σ r) K
def PK:Nat->Sg->Sl->(Sg->Prop)->Prop
 | 0,none::r,s,K=>K (some s::r)
 | 0,some ⟨.val,_⟩::r,s,K=>K (some s::r)
 | 0,some ⟨.own,_⟩::r,s,K=>K (some s::r)
 | n+1,o::r,s,K=>PK n r s λa=>K (o::a)
 | _,_,_,_=>False
def bI2{n:Nat}{o:Option Sl}{r:Sg}:gZ (o::r) (n+1)=gZ r n:=by unfold gZ;rw[a2d]
theorem cE0:∀ (n:Nat) (r:Sg) (s:Sl) (K:Sg->Prop),PK n r s K=OK1 (if gZ r n=true then some (r.set n (some s))else none) K
 | 0,[],s,K=>rfl
 | 0,none::r,s,K=>rfl
 | 0,some ⟨.val,_⟩::r,s,K=>rfl
 | 0,some ⟨.own,_⟩::r,s,K=>rfl
 | 0,some ⟨.par,_⟩::r,s,K=>rfl
 | 0,some ⟨.lent,_⟩::r,s,K=>rfl
 | n+1,[],s,K=>by
   show False=_;rw[bW];unfold gZ;simp
 | n+1,o::r,s,K=>by
   show PK n r s (λa=>K (o::a))=_;rw[cE0 n r s _,bW,bW,bI2,List.set_cons_succ];rfl
def MK:Nat->Sg->FM->List D->(D->Sg->Prop)->Prop
 | 0,some ⟨.own,d⟩::r,f,ds,K=>OK1 (f d ds) λy=>K y.2 (some ⟨.own,y.1⟩::r)
 | 0,some ⟨.par,d⟩::r,f,ds,K=>OK1 (f d ds) λy=>K y.2 (some ⟨.par,y.1⟩::r)
 | n+1,o::r,f,ds,K=>MK n r f ds λe a=>K e (o::a)
 | _,_,_,_,_=>False
theorem cW4:∀ (n:Nat) (r:Sg) (f:FM) (a:List D) (K:D->Sg->Prop),MK n r f a K=OK1 (bR4 f n a r) λx=>OK1 (match x.1 with | .val d=>some d | _=>none) λd=>K d x.2
 | 0,[],f,a,K=>rfl
 | 0,none::r,f,a,K=>rfl
 | 0,some ⟨.val,_⟩::r,f,a,K=>rfl
 | 0,some ⟨.lent,_⟩::r,f,a,K=>rfl
 | 0,some ⟨.own,d⟩::r,f,a,K=>by
   show OK1 (f d a) _=OK1 ((f d a).bind λy=>some (Res.val y.2,some (⟨.own,y.1⟩:Sl)::r)) _;rw[aS];rfl
 | 0,some ⟨.par,d⟩::r,f,a,K=>by
   show OK1 (f d a) _=OK1 ((f d a).bind λy=>some (Res.val y.2,some (⟨.par,y.1⟩:Sl)::r)) _;rw[aS];rfl
 | n+1,[],f,a,K=>rfl
 | n+1,o::r,f,a,K=>by
   show MK n r f a (λe b=>K e (o::b))=_;rw[cW4 n r f a _];unfold bR4;rw[a2d];cases q:r[n]? with
   | none=>rfl
   | some x=>cases x with
     | none=>rfl
     | some s=>
       dsimp only;by_cases hm:s.m.mt=true;rw[a3O hm,a3O hm,aS,aS];rfl;rw[a3P hm,a3P hm];rfl
def TK:String->Nat->Sg->Prop->Prop
 | T,0,some ⟨.own,d⟩::_,P=>tyD T d=true/\P
 | T,0,some ⟨.par,d⟩::_,P=>tyD T d=true/\P
 | T,0,some ⟨.lent,d⟩::_,P=>tyD T d=true/\P
 | T,n+1,_::r,P=>TK T n r P
 | _,_,_,_=>False
theorem bT0:∀ (T:String) (n:Nat) (r:Sg) (P:Prop),TK T n r P=(aM5 T n r=true/\P)
 | T,0,[],P=>by simp[TK,aM5]
 | T,0,none::r,P=>by simp[TK,aM5]
 | T,0,some ⟨.val,d⟩::r,P=>by simp[TK,aM5]
 | T,0,some ⟨.own,d⟩::r,P=>by simp[TK,aM5]
 | T,0,some ⟨.par,d⟩::r,P=>by simp[TK,aM5]
 | T,0,some ⟨.lent,d⟩::r,P=>by simp[TK,aM5]
 | T,n+1,[],P=>by simp[TK,aM5]
 | T,n+1,o::r,P=>by
   show TK T n r P=_;rw[bT0 T n r P];unfold aM5;rw[a2d]
section
variable{σ:Sg}{Q:Res->Sg->Prop}{QT:Bool->Sg->Prop}{QA:List Res->Sg->Prop}{QS:Out->Prop}{K:D->Prop}{KR:Res->Prop}{a b c:DE}{ra:DA}{t u:DT}{x y:DS}{d e:D}{f:F2}{f1:F1}{fn:FN}{i j n:Nat}{r:Sg}{o:Option Sl}
theorem cW5:RE (dC d) σ Q=Q (.val d) σ:=rfl
theorem tZ:RE (aG i) σ Q=VK i σ i σ Q:=(dN4 i σ i σ Q).symm
theorem uA:VK (n+1) (o::r) i σ Q=VK n r i σ Q:=rfl
theorem uB:VK 0 (some ⟨.val,d⟩::r) i σ Q=Q (.val d) σ:=rfl
theorem uC:VK 0 (some ⟨.own,d⟩::r) i σ Q=Q (.slot i) σ:=rfl
theorem uD:VK 0 (some ⟨.par,d⟩::r) i σ Q=Q (.slot i) σ:=rfl
theorem uE:VK 0 (some ⟨.lent,d⟩::r) i σ Q=Q (.slot i) σ:=rfl
theorem uF:RE (aX f a b) σ Q=RE a σ λx g=>RE b g λy c=>RD c x λd=>RD c y λe=>OK1 (f d e) λr=>Q r c:=by
 unfold RE aX RD;simp only[aS,bZ]
theorem uG:RE (aG1 f1 a) σ Q=RE a σ λx b=>RD b x λd=>OK1 (f1 d) λr=>Q r b:=by
 unfold RE aG1 RD;simp only[aS,bZ]
theorem uH:RD σ (.val d) K=K d:=rfl
theorem uI:RD σ (.own d) K=K d:=rfl
theorem uJ:RD σ (.slot i) K=GK i σ K:=(dN5 i σ K).symm
theorem uK{m:Md}:GK 0 (some ⟨m,d⟩::r) K=K d:=rfl
theorem uL:GK (n+1) (o::r) K=GK n r K:=rfl
theorem uM:RT (cK a) σ QT=RE a σ λx c=>RD c x λd=>OK1 (match d with | .bl b=>some b | _=>none) λb=>QT b c:=by
 unfold RT RE cK RD;simp only[aS];congr 1;funext x;congr 1;funext d;cases d<;>rfl
theorem uN{b:Bool}{K:Bool->Prop}:OK1 (match D.bl b with | .bl b=>some b | _=>none) K=K b:=rfl
theorem dN6:RT (eC8 a) σ QT=RE a σ λx c=>RD c x λd=>OK1 (eC7 d) λb=>QT b c:=by
 unfold RT RE eC8 RD;simp only[aS,bZ]
theorem uO:RT (bK9 t u) σ QT=RT t σ λb a=>if b=true then RT u a QT else QT false a:=by
 unfold RT bK9;simp only[aS];congr 1;funext x;by_cases h:x.1=true<;>simp[h,OK1]
theorem aV4:RT (dOr t u) σ QT=RT t σ λb a=>if b=true then QT true a else RT u a QT:=by
 unfold RT dOr;simp only[aS];congr 1;funext x;by_cases h:x.1=true<;>simp[h,OK1]
theorem uP:RT (bL0 t) σ QT=RT t σ λb a=>QT (!b) a:=by
 unfold RT bL0;simp only[aS,bZ]
theorem mH:RT iS σ QT=QT true σ:=rfl
theorem nV:RE (sK a b) σ Q=RT (cK a) σ λt c=>if t=true then RE b c Q else Q (.val (.bl false)) c:=by
 unfold RT RE sK;simp only[aS];congr 1;funext x;by_cases h:x.1=true<;>simp[h,OK1]
theorem bC6:RE (dV2 a b) σ Q=RT (cK a) σ λt c=>if t=true then Q (.val (.bl true)) c else RE b c Q:=by
 unfold RT RE dV2;simp only[aS];congr 1;funext x;by_cases h:x.1=true<;>simp[h,OK1]
theorem cW6:RE (dL8 a) σ Q=RT (cK a) σ λt b=>Q (.val (.bl (!t))) b:=by
 unfold RT RE dL8;simp only[aS,bZ]
theorem dZ1:RE (dIf t a b) σ Q=RT t σ λt c=>if t=true then RE a c Q else RE b c Q:=by
 unfold RT RE dIf;simp only[aS];congr 1;funext x;by_cases h:x.1=true<;>simp[h]
theorem uQ{b:Bool}{K:Bool->Prop}:OK1 (match Res.val (D.bl b)with | .val (.bl t)=>some t | _=>none) K=K b:=rfl
theorem uR:RA aL σ QA=QA [] σ:=rfl
theorem nW:RA (aC a ra) σ QA=RE a σ λx b=>RA ra b λxs c=>QA (x::xs) c:=by
 unfold RA RE aC;simp only[aS,bZ]
def RDs(σ:Sg)(rs:List Res)(K:List D->Prop):Prop:=OK1 (rds σ rs) K
def VLs(rs:List Res)(K:List D->Prop):Prop:=OK1 (vals rs) K
theorem nX{K:List D->Prop}:RDs σ [] K=K []:=rfl
theorem nY{x:Res}{xs:List Res}{K:List D->Prop}:RDs σ (x::xs) K=RD σ x λd=>RDs σ xs λa=>K (d::a):=by
 show OK1 ((rd σ x).bind λd=>(rds σ xs).bind λa=>some (d::a)) K=_;unfold RDs RD;simp only[aS,bZ]
theorem uT{K:List D->Prop}:VLs [] K=K []:=rfl
theorem uU{xs:List Res}{K:List D->Prop}:VLs (.val d::xs) K=VLs xs λa=>K (d::a):=by
 show OK1 ((vals xs).bind λa=>some (d::a)) K=_;unfold VLs;simp only[aS,bZ]
theorem aV5:RE (dCB fn ra) σ Q=RA ra σ λxs a=>RDs a xs λb=>OK1 (fn b) λr=>Q r a:=by
 unfold RE RA RDs dCB;simp only[aS,bZ]
theorem uV:RE (aS3 ra) σ Q=RA ra σ λxs a=>VLs xs λb=>b.length<=sizeLine/\Q (.val (.tup b)) a:=by
 unfold RE RA VLs aS3;simp only[aS,bW,bZ]
theorem uW:RE (kZ ra) σ Q=RA ra σ λxs a=>VLs xs λb=>b.length<=sizeLine/\Q (.own (.lst b)) a:=by
 unfold RE RA VLs kZ;simp only[aS,bW,bZ]
def FK(r:Res)(σ:Sg)(K:D->Sg->Prop):Prop:=OK1 (eC9 σ r) λx=>K x.1 x.2
def ZK:Nat->Sg->(D->Sg->Prop)->Prop
 | 0,some ⟨.own,d⟩::r,K=>K d (some ⟨.val,d⟩::r)
 | 0,some ⟨.val,d⟩::r,K=>K d (some ⟨.val,d⟩::r)
 | n+1,o::r,K=>ZK n r λd a=>K d (o::a)
 | _,_,_=>False
theorem dN7:∀ (n:Nat) (r:Sg) (K:D->Sg->Prop),ZK n r K=FK (.slot n) r K
 | 0,[],K=>rfl
 | 0,none::r,K=>rfl
 | 0,some ⟨.val,_⟩::r,K=>rfl
 | 0,some ⟨.own,_⟩::r,K=>rfl
 | 0,some ⟨.par,_⟩::r,K=>rfl
 | 0,some ⟨.lent,_⟩::r,K=>rfl
 | n+1,[],K=>rfl
 | n+1,o::r,K=>by
   show ZK n r (λd c=>K d (o::c))=_;rw[dN7 n r _];show OK1 (match r[n]? with | some (some s)=>if s.m=.own then some (s.d,r.set n (some ⟨.val,s.d⟩))else if s.m=.val then some (s.d,r)else none | _=>none) _ =
    OK1 (match (o::r)[n+1]? with | some (some s)=>if s.m=.own then some (s.d,(o::r).set (n+1) (some ⟨.val,s.d⟩))else if s.m=.val then some (s.d,o::r)else none | _=>none) _
   rw[a2d];cases r[n]? with
   | none=>rfl
   | some x=>cases x with
     | none=>rfl
     | some s=>
       dsimp only;by_cases a:s.m=.own;rw[a3O a,a3O a];rfl;rw[a3P a,a3P a];by_cases b:s.m=.val;rw[a3O b,a3O b];rfl;rw[a3P b,a3P b];rfl
theorem aV6:RE (dFz a) σ Q=RE a σ λx b=>FK x b λd c=>Q (.val d) c:=by
 unfold RE dFz FK;simp only[aS,bZ]
theorem uX{K:D->Sg->Prop}:FK (.val d) σ K=K d σ:=rfl
theorem uY{K:D->Sg->Prop}:FK (.own d) σ K=K d σ:=rfl
theorem uZ{K:D->Sg->Prop}:FK (.slot i) σ K=ZK i σ K:=(dN7 i σ K).symm
theorem vA{K:D->Sg->Prop}:ZK 0 (some ⟨.own,d⟩::r) K=K d (some ⟨.val,d⟩::r):=rfl
theorem vB{K:D->Sg->Prop}:ZK 0 (some ⟨.val,d⟩::r) K=K d (some ⟨.val,d⟩::r):=rfl
theorem vC{K:D->Sg->Prop}:ZK (n+1) (o::r) K=ZK n r λd a=>K d (o::a):=rfl
theorem nZ:RS dI σ QS=QS (.nx σ):=rfl
theorem oA:RS (λσ=>some (.ct σ)) σ QS=QS (.ct σ):=rfl
def SqK(y:DS)(QS:Out->Prop):Out->Prop
 | .nx σ=>RS y σ QS
 | o=>QS o
theorem vD:RS (bJ x y) σ QS=RS x σ (SqK y QS):=by
 unfold RS bJ;rw[aS];congr 1;funext o;cases o<;>rfl
theorem vE:SqK y QS (.nx σ)=RS y σ QS:=rfl
theorem vF{v:Res}:SqK y QS (.rt v σ)=QS (.rt v σ):=rfl
theorem vG:SqK y QS (.bk σ)=QS (.bk σ):=rfl
theorem vH:SqK y QS (.ct σ)=QS (.ct σ):=rfl
theorem oB:RS (gY a) σ QS=RE a σ λ_ b=>QS (.nx b):=by unfold RS RE gY;simp only[aS,bZ]
theorem vJ:RS (gQ a) σ QS=RE a σ λx b=>QS (.rt x b):=by unfold RS RE gQ;simp only[aS,bZ]
theorem oC:RS dY6 σ QS=QS (.rt (.val .non) σ):=rfl
theorem vK:RS (iO t x y) σ QS=RT t σ λb a=>if b=true then RS x a QS else RS y a QS:=by
 unfold RS RT iO;simp only[aS];congr 1;funext z;by_cases h:z.1=true<;>simp[h]
def PtK(i:Nat)(r:Res)(σ:Sg)(K:Sg->Prop):Prop:=OK1 (dV4 i r σ) K
theorem vM:RS (cM i a) σ QS=RE a σ λx b=>PtK i x b λc=>QS (.nx c):=by unfold RS RE PtK cM;simp only[aS,bZ]
theorem vN{K:Sg->Prop}:PtK i (.val d) σ K=PK i σ ⟨.val,d⟩ K:=(cE0 i σ _ K).symm
theorem vO{K:Sg->Prop}:PtK i (.own d) σ K=PK i σ ⟨.own,d⟩ K:=(cE0 i σ _ K).symm
theorem vP{s:Sl}{K:Sg->Prop}:PK 0 (none::r) s K=K (some s::r):=rfl
theorem vQ{s:Sl}{K:Sg->Prop}:PK 0 (some ⟨.val,d⟩::r) s K=K (some s::r):=rfl
theorem vR{s:Sl}{K:Sg->Prop}:PK 0 (some ⟨.own,d⟩::r) s K=K (some s::r):=rfl
theorem vS{s:Sl}{K:Sg->Prop}:PK (n+1) (o::r) s K=PK n r s λa=>K (o::a):=rfl
theorem cW7{T:String}{b:FM}:RE (dL9 T i b) σ Q=TK T i σ (MK i σ b [] λd a=>Q (.val d) a):=by
 rw[bT0,cW4];unfold RE dL9;rw[bW];congr 1;apply propext;rw[jM,jM];constructor;rintro⟨⟨x,s⟩,e,q⟩;obtain⟨_,_,_,_,_,_,rfl,_⟩:=jK e;exact⟨_,e,q⟩;rintro⟨⟨x,s⟩,e,q⟩;obtain⟨_,_,_,_,_,_,rfl,_⟩:=jK e;exact⟨_,e,q⟩
theorem cW8{b:FM}{c:List D}{σ:Sg}:OK1 (bR4 b i c σ) (λx=>Q x.1 x.2)=MK i σ b c λd a=>Q (.val d) a:=by
 rw[cW4];apply propext;rw[jM,jM];constructor;rintro⟨⟨x,s⟩,e,q⟩;obtain⟨_,_,_,_,_,_,rfl,_⟩:=jK e;exact⟨_,e,q⟩;rintro⟨⟨x,s⟩,e,q⟩;obtain⟨_,_,_,_,_,_,rfl,_⟩:=jK e;exact⟨_,e,q⟩
theorem oE{T:String}{c:FM}:RE (jI T i c ra) σ Q=TK T i σ (RA ra σ λxs a=>VLs xs λe=>MK i a c e λd b=>Q (.val d) b):=by
 rw[bT0];unfold RE jI RA VLs;rw[bW];simp only[aS,cW8]
theorem oF{T:String}{c:FM}:RE (tQ T i c ra) σ Q=TK T i σ (RA ra σ λxs a=>RDs a xs λe=>MK i a c e λd b=>Q (.val d) b):=by
 rw[bT0];unfold RE tQ RA RDs;rw[bW];simp only[aS,cW8]
theorem vU{T:String}{P:Prop}:TK T 0 (some ⟨.own,d⟩::r) P=(tyD T d=true/\P):=rfl
theorem vV{T:String}{P:Prop}:TK T 0 (some ⟨.par,d⟩::r) P=(tyD T d=true/\P):=rfl
theorem vW{T:String}{P:Prop}:TK T (n+1) (o::r) P=TK T n r P:=rfl
theorem vX{a:FM}{b:List D}{K:D->Sg->Prop}:MK 0 (some ⟨.own,d⟩::r) a b K=OK1 (a d b) λy=>K y.2 (some ⟨.own,y.1⟩::r):=rfl
theorem vY{a:FM}{b:List D}{K:D->Sg->Prop}:MK 0 (some ⟨.par,d⟩::r) a b K=OK1 (a d b) λy=>K y.2 (some ⟨.par,y.1⟩::r):=rfl
theorem vZ{a:FM}{b:List D}{K:D->Sg->Prop}:MK (n+1) (o::r) a b K=MK n r a b λe c=>K e (o::c):=rfl
theorem wA:RS (aS6 i a b) σ QS=RE b σ λx c=>OK1 (match x with | .val d=>some d | _=>none) λd=>TK "list" i c (RE a c λy f=>RD f y λg=>OK1 (match g with | .int k=>some k | _=>none) λk=>
  MK i f (λa _=>(dN3 k d a).map λb=>(b,.non)) [] λ_ e=>QS (.nx e)):=by
 unfold RS RE RD aS6;rw[aS];congr 1;funext x;obtain⟨x,c⟩:=x;cases x with
 | own d=>rfl
 | slot d=>rfl
 | val d=>
   show OK1 _ _=TK _ _ _ _;rw[bT0];dsimp only;rw[bW];simp only[aS];congr 1;congr 1;funext y;congr 1;funext g;cases g with
   | int k=>
     dsimp only;rw[aS];show _=MK _ _ _ _ _;rw[← cW8 (Q:=λ_ e=>QS (.nx e))];rfl
   | _=>rfl
theorem wB{K:D->Prop}:OK1 (match Res.val d with | .val d=>some d | _=>none) K=K d:=rfl
theorem wC{k:Int}{K:Int->Prop}:OK1 (match D.int k with | .int k=>some k | _=>none) K=K k:=rfl
theorem dN8{g:DG}:RS (eD1 g a) σ QS=RE a σ λx b=>OK1 (match x with | .val d=>some d | _=>none) λd=>OK1 (g d b) λc=>QS (.nx c):=by
 unfold RS RE eD1;rw[aS];congr 1;funext x;obtain⟨x,b⟩:=x;cases x with
 | own d=>rfl
 | slot d=>rfl
 | val d=>
   show OK1 ((g d b).bind _) _=OK1 (g d b) _;rw[aS];rfl
theorem aV7{K:Sg->Prop}:OK1 (dgN i d σ) K=PK i σ ⟨.val,d⟩ K:=(cE0 i σ _ K).symm
theorem oG{a:DGs}{l:List D}{K:Sg->Prop}:OK1 (lR n a (.tup l) σ) K=(l.length=n/\OK1 (a l σ) K):=by
 show OK1 (if l.length=n then a l σ else none) K=_;rw[bW]
theorem lC{g:DG}{b:DGs}{l:List D}{K:Sg->Prop}:OK1 (cT g b (d::l) σ) K=OK1 (g d σ) λa=>OK1 (b l a) K:=by
 show OK1 ((g d σ).bind λa=>b l a) K=_;rw[aS]
theorem oH{K:Sg->Prop}:OK1 (lA [] σ) K=K σ:=rfl
theorem wD:RS (dV5 i j ra) σ QS=RA ra σ λxs a=>VLs xs λds=>OK1 (match ds with | [d,e]=>some (d,e) | _=>none) λp=>(gZ a i=true/\gZ a j=true/\i≠j)/\QS (.nx ((a.set i (some ⟨.val,p.1⟩)).set j (some ⟨.val,p.2⟩))):=by
 unfold RS RA VLs dV5;simp only[aS];congr 1;funext x;congr 1;funext ds
 match ds with
 | []=>rfl
 | [_]=>rfl
 | [d,e]=>show OK1 (if gZ x.2 i=true/\gZ x.2 j=true/\i≠j then _ else none) QS=_;rw[bW];rfl
 | _::_::_::_=>rfl
theorem wE{K:D×D->Prop}:OK1 (match [d,e]with | [d,e]=>some (d,e) | _=>none) K=K (d,e):=rfl
end
def CK(run:Run)(as:List Sl)(K:Res->List Sl->Prop):Prop:=OK1 (run as) λy=>K y.1 y.2
def AK(σ:Sg)(rs:List Res)(K:List Sl->Prop):Prop:=OK1 (tV σ rs) K
def A1(σ:Sg)(r:Res)(K:Sl->Prop):Prop:=OK1 (aU9 σ r) K
def HK:Nat->Sg->(Sl->Prop)->Prop
 | 0,some ⟨m,d⟩::_,K=>K ⟨if m.mt=true then .par else m,d⟩
 | n+1,_::r,K=>HK n r K
 | _,_,_=>False
theorem dN9:∀ (n:Nat) (r:Sg) (K:Sl->Prop),HK n r K=A1 r (.slot n) K
 | 0,[],_=>rfl
 | 0,none::_,_=>rfl
 | 0,some s::_,_=>rfl
 | n+1,[],_=>rfl
 | n+1,_::r,K=>by
   show HK n r K=_;rw[dN9 n r K];show OK1 (match r[n]? with | some (some s)=>some (⟨if s.m.mt=true then .par else s.m,s.d⟩:Sl) | _=>none) K=OK1 (match (_::r)[n+1]? with | some (some s)=>some (⟨if s.m.mt=true then .par else s.m,s.d⟩:Sl) | _=>none) K;rw[a2d]
def UK:Nat->Sg->D->(Sg->Prop)->Prop
 | 0,some ⟨.own,_⟩::r,d,K=>K (some ⟨.own,d⟩::r)
 | 0,some ⟨.par,_⟩::r,d,K=>K (some ⟨.par,d⟩::r)
 | 0,o::r,_,K=>K (o::r)
 | n+1,o::r,d,K=>UK n r d λa=>K (o::a)
 | _,[],_,K=>K []
noncomputable def uS(σ:Sg)(i:Nat)(d:D):Sg:=match σ[i]? with
 | some (some s)=>if s.m.mt=true then σ.set i (some ⟨s.m,d⟩)else σ
 | _=>σ
theorem dO0:∀ (n:Nat) (r:Sg) (d:D) (K:Sg->Prop),UK n r d K=K (uS r n d)
 | 0,[],_,_=>rfl
 | n+1,[],_,_=>rfl
 | 0,none::r,d,K=>rfl
 | 0,some ⟨.val,_⟩::r,d,K=>rfl
 | 0,some ⟨.own,_⟩::r,d,K=>rfl
 | 0,some ⟨.par,_⟩::r,d,K=>rfl
 | 0,some ⟨.lent,_⟩::r,d,K=>rfl
 | n+1,o::r,d,K=>by
   show UK n r d (λa=>K (o::a))=_;rw[dO0 n r d _];unfold uS;rw[a2d];cases r[n]? with
   | none=>rfl
   | some x=>cases x with
     | none=>rfl
     | some s=>
       dsimp only;by_cases h:s.m.mt=true;rw[a3O h,a3O h];rfl;rw[a3P h,a3P h]
noncomputable def sB:List Res->List Sl->Sg->Sg
 | .slot i::rs,a::as,σ=>sB rs as (uS σ i a.d)
 | _::rs,_::as,σ=>sB rs as σ
 | _,_,σ=>σ
def dO1{σ:Sg}{i j:Nat}{d:D}:(uS σ i d)[j]? = (σ[j]?).map λo=>if j=i then(match o with | some s=>some (if s.m.mt=true then⟨s.m,d⟩else s) | none=>none)else o:=by
 unfold uS;by_cases a:j=i
 ·subst a;cases h:σ[j]? with
  | none=>dsimp only;rw[h];rfl
  | some o=>
    cases o with
    | none=>dsimp only;rw[h];simp
    | some s=>
      dsimp only;by_cases hm:s.m.mt=true;rw[a3O hm,a7c (a2a.mp h).1];simp[hm];rw[a3P hm,h];simp[hm]
 ·have:∀ x:Option Sl,(σ.set i x)[j]? = σ[j]?:=λx=>a9a (a3e a);split;split;rw[this];cases σ[j]? <;> simp[a];cases σ[j]? <;> simp[a];cases σ[j]? <;> simp[a]
theorem bC7:∀ (rs:List Res) (as:List Sl) (σ:Sg) (j:Nat),eW rs=true->(sB rs as σ)[j]? = (σ[j]?).map (pY rs as j)
 | [],as,σ,j,_=>by cases as<;>(show σ[j]? = _;cases σ[j]? with | none=>rfl | some o=>cases o<;>simp[pY,lY])
 | r::rs,[],σ,j,_=>by cases r<;>(show σ[j]? = _;cases σ[j]? with | none=>rfl | some o=>cases o<;>simp[pY,lY])
 | .val d::rs,a::as,σ,j,h=>bC7 rs as σ j h
 | .own d::rs,a::as,σ,j,h=>bC7 rs as σ j h
 | .slot i::rs,a::as,σ,j,h=>by
   have h':eW rs=true/\bC0 i rs=false:=by
    unfold eW at h;rw[a5f]at h;exact⟨h.2,by simpa using h.1⟩
   show(sB rs as (uS σ i a.d))[j]? = _;rw[bC7 rs as _ j h'.1,dO1];cases σ[j]? with
   | none=>rfl
   | some o=>
     cases o with
     | none=>by_cases c:j=i<;>simp[pY,c]
     | some s=>
       by_cases c:j=i
       ·subst c;have e:lY j rs as=none:=by
         cases q:lY j rs as with
         | none=>rfl
         | some b=>
           obtain⟨k,f,_⟩:=iV q;rw[sW f]at h';cases h'.2
        simp[pY,e,lY]
       ·have:¬ i=j:=λz=>c z.symm;simp[pY,c,lY,this]
theorem cE1{rs:List Res}{as:List Sl}{σ:Sg}(h:eW rs=true):lB rs as 0 σ=sB rs as σ:=by
 apply a2h;intro j;rw[lZ,bC7 rs as σ j h,a9f]
def BK(rs:List Res)(as:List Sl)(σ:Sg)(K:Sg->Prop):Prop:=K (sB rs as σ)
def aC2(as:List Sl)(K:Res->List Sl->Prop):Out->Prop
 | .nx σ=>K (.val .non) (tU as σ)
 | .rt r σ=>OK1 (dD8 σ r) λa=>K a (tU as σ)
 | _=>False
section
variable{σ:Sg}{Q:Res->Sg->Prop}{ra:DA}{d:D}{i n:Nat}{r:Sg}{o:Option Sl}
theorem oJ{run:Run}:RE (aV n run ra) σ Q=RA ra σ λrs a=>AK a rs λas=>(as.length=n/\eW rs=true)/\CK run as λy as'=>BK rs as' a λb=>Q y b:=by
 unfold RE RA AK CK aV;simp only[aS,bW,bZ];congr 1;funext x;congr 1;funext as;apply propext;constructor;rintro⟨h,q⟩;refine⟨h,dL q λy q=>?_⟩;unfold BK;rw[← cE1 h.2];exact q;rintro⟨h,q⟩;refine⟨h,dL q λy q=>?_⟩;unfold BK at q;rw[← cE1 h.2]at q;exact q
theorem wF{as:List Sl}{K:Sg->Prop}:BK [] as σ K=K σ:=by cases as<;>rfl
theorem wG{rs:List Res}{a:Sl}{as:List Sl}{K:Sg->Prop}:BK (.val d::rs) (a::as) σ K=BK rs as σ K:=rfl
theorem wH{rs:List Res}{a:Sl}{as:List Sl}{K:Sg->Prop}:BK (.own d::rs) (a::as) σ K=BK rs as σ K:=rfl
theorem wI{rs:List Res}{m:Md}{as:List Sl}{K:Sg->Prop}:BK (.slot i::rs) (⟨m,d⟩::as) σ K=UK i σ d λσ'=>BK rs as σ' K:=by
 rw[dO0];rfl
theorem wJ{e:D}{K:Sg->Prop}:UK 0 (some ⟨.own,e⟩::r) d K=K (some ⟨.own,d⟩::r):=rfl
theorem wK{e:D}{K:Sg->Prop}:UK 0 (some ⟨.par,e⟩::r) d K=K (some ⟨.par,d⟩::r):=rfl
theorem wL{e:D}{K:Sg->Prop}:UK 0 (some ⟨.val,e⟩::r) d K=K (some ⟨.val,e⟩::r):=rfl
theorem wM{e:D}{K:Sg->Prop}:UK 0 (some ⟨.lent,e⟩::r) d K=K (some ⟨.lent,e⟩::r):=rfl
theorem wN{K:Sg->Prop}:UK (n+1) (o::r) d K=UK n r d λa=>K (o::a):=rfl
def eR{len:Nat}{b:DS}{as:List Sl}{K:Res->List Sl->Prop}:CK (pX len b) as K=RS b (ini len as) (aC2 as K):=by
 unfold CK RS pX;rw[aS];congr 1;funext o;cases o with
 | rt x s=>show OK1 ((dD8 s x).bind _) _=OK1 (dD8 s x) _;rw[aS];rfl
 | _=>rfl
def FSK:Nat->Sg->(Res->Prop)->Prop
 | 0,some ⟨.own,d⟩::_,K=>K (.own d)
 | 0,some ⟨.val,d⟩::_,K=>K (.val d)
 | n+1,_::r,K=>FSK n r K
 | _,_,_=>False
theorem cO0:∀ (n:Nat) (r:Sg) (K:Res->Prop),FSK n r K=OK1 (dD8 r (.slot n)) K
 | 0,[],_=>rfl
 | 0,none::_,_=>rfl
 | 0,some ⟨.val,_⟩::r,K=>rfl
 | 0,some ⟨.own,_⟩::r,K=>rfl
 | 0,some ⟨.par,_⟩::r,K=>rfl
 | 0,some ⟨.lent,_⟩::r,K=>rfl
 | n+1,[],_=>rfl
 | n+1,o::r,K=>by
   show FSK n r K=_;rw[cO0 n r K];show OK1 (match r[n]? with | some (some s)=>if s.m=.own then some (Res.own s.d)else if s.m=.val then some (.val s.d)else none | _=>none) K=OK1 (match (o::r)[n+1]? with | some (some s)=>if s.m=.own then some (Res.own s.d)else if s.m=.val then some (.val s.d)else none | _=>none) K;rw[a2d]
section
variable{as:List Sl}{K:Res->List Sl->Prop}{KR:Res->Prop}
theorem oK:aC2 as K (.nx σ)=K (.val .non) (tU as σ):=rfl
theorem oM:aC2 as K (.rt (.val d) σ)=K (.val d) (tU as σ):=rfl
theorem oN:aC2 as K (.rt (.own d) σ)=K (.own d) (tU as σ):=rfl
theorem oO:aC2 as K (.rt (.slot i) σ)=FSK i σ λr=>K r (tU as σ):=(cO0 i σ _).symm
theorem wO:FSK 0 (some ⟨.own,d⟩::r) KR=KR (.own d):=rfl
theorem wP:FSK 0 (some ⟨.val,d⟩::r) KR=KR (.val d):=rfl
theorem wQ:FSK (n+1) (o::r) KR=FSK n r KR:=rfl
theorem oP:tU [] σ=[]:=rfl
theorem oQ{s:Sl}:tU (⟨.val,d⟩::as) (some s::r)=⟨.val,d⟩::tU as r:=rfl
theorem oR{s:Sl}:tU (⟨.par,d⟩::as) (some s::r)=s::tU as r:=rfl
theorem oS{s:Sl}:tU (⟨.lent,d⟩::as) (some s::r)=s::tU as r:=rfl
end
theorem wR{K:List Sl->Prop}:AK σ [] K=K []:=rfl
theorem wT{x:Res}{xs:List Res}{K:List Sl->Prop}:AK σ (x::xs) K=A1 σ x λa=>AK σ xs λas=>K (a::as):=by
 show OK1 ((aU9 σ x).bind λa=>(tV σ xs).bind λas=>some (a::as)) K=_;unfold AK A1;simp only[aS,bZ]
theorem wU{K:Sl->Prop}:A1 σ (.val d) K=K ⟨.val,d⟩:=rfl
theorem wV{K:Sl->Prop}:A1 σ (.own d) K=K ⟨.par,d⟩:=rfl
theorem wW{K:Sl->Prop}:A1 σ (.slot i) K=HK i σ K:=(dN9 i σ K).symm
theorem wX{K:Sl->Prop}:HK 0 (some ⟨.own,d⟩::r) K=K ⟨.par,d⟩:=rfl
theorem wY{K:Sl->Prop}:HK 0 (some ⟨.par,d⟩::r) K=K ⟨.par,d⟩:=rfl
theorem wZ{K:Sl->Prop}:HK 0 (some ⟨.lent,d⟩::r) K=K ⟨.lent,d⟩:=rfl
theorem xA{K:Sl->Prop}:HK (n+1) (o::r) K=HK n r K:=rfl
end
section
variable{σ:Sg}{QS:Out->Prop}{Q:Res->Sg->Prop}{ri:DI}{g:DG}{b:DS}{a:DE}{ra:DA}
def dO2:RS (qY ri g b) σ QS=RI ri σ λitems l a=>OK1 (bR7 g b items (lendO l a)) λo=>QS (aC0 l a o):=by
 unfold RS RI qY;simp only[aS,bZ]
theorem aV8{K:List D->Option Nat->Sg->Prop}:RI (dIt a) σ K=RE a σ λx b=>RD b x λd=>OK1 (aM8 d) λl=>K l (match x with | .slot i=>some i | _=>none) b:=by
 unfold RI RE RD dIt;simp only[aS,bZ];try rfl
noncomputable def dZ2:List D->Option (List D)
 | [.int j]=>if -(2 ^ 62)<=j/\j < 2 ^ 62 then some (sL 0 j.toNat)else none
 | [.int i,.int j]=>if(-(2 ^ 62)<=i/\i < 2 ^ 62) /\ -(2 ^ 62)<=j/\j < 2 ^ 62 then some (sL i (j-i).toNat)else none
 | _=>none
theorem xB{K:List D->Option Nat->Sg->Prop}:RI (sU ra) σ K=RA ra σ λxs a=>RDs a xs λds=>OK1 (dZ2 ds) λl=>K l none a:=by
 unfold RI RA RDs sU;simp only[aS];congr 1;funext x;congr 1;funext ds
 match ds with
 | []=>rfl
 | [.int j]=>show OK1 (if -(2 ^ 62)<=j/\j < 2 ^ 62 then _ else none) _=OK1 (if -(2 ^ 62)<=j/\j < 2 ^ 62 then _ else none) _;rw[bW,bW];rfl
 | [.int i,.int j]=>show OK1 (if(-(2 ^ 62)<=i/\i < 2 ^ 62) /\ -(2 ^ 62)<=j/\j < 2 ^ 62 then _ else none) _=OK1 (if(-(2 ^ 62)<=i/\i < 2 ^ 62) /\ -(2 ^ 62)<=j/\j < 2 ^ 62 then _ else none) _;rw[bW,bW];rfl
 | [.non]=>rfl
 | [.bl _]=>rfl
 | [.str _]=>rfl
 | [.tup _]=>rfl
 | [.lst _]=>rfl
 | [.dic _ _]=>rfl
 | .non::_::_=>rfl
 | .bl _::_::_=>rfl
 | .str _::_::_=>rfl
 | .tup _::_::_=>rfl
 | .lst _::_::_=>rfl
 | .dic _ _::_::_=>rfl
 | .int _::.non::_=>rfl
 | .int _::.bl _::_=>rfl
 | .int _::.str _::_=>rfl
 | .int _::.tup _::_=>rfl
 | .int _::.lst _::_=>rfl
 | .int _::.dic _ _::_=>rfl
 | .int _::.int _::_::_=>rfl
theorem oU{j:Int}{K:List D->Prop}:OK1 (dZ2 [.int j]) K=((-(2 ^ 62)<=j/\j < 2 ^ 62)/\K (sL 0 j.toNat)):=by
 show OK1 (if -(2 ^ 62)<=j/\j < 2 ^ 62 then some (sL 0 j.toNat)else none) K=_;rw[bW];rfl
theorem oV{i j:Int}{K:List D->Prop}:OK1 (dZ2 [.int i,.int j]) K=(((-(2 ^ 62)<=i/\i < 2 ^ 62) /\ -(2 ^ 62)<=j/\j < 2 ^ 62)/\K (sL i (j-i).toNat)):=by
 show OK1 (if(-(2 ^ 62)<=i/\i < 2 ^ 62) /\ -(2 ^ 62)<=j/\j < 2 ^ 62 then some (sL i (j-i).toNat)else none) K=_;rw[bW];rfl
def cW9{items:List D}(P:Nat->Sg->Prop)(h0:P 0 σ)(f:∀ i d σ,items[i]? = some d->P i σ->OK1 (g d σ) λc=>RS b c λo=>∃ a,(o=.nx a\/o=.ct a)/\P (i+1) a){K:Out->Prop}(k:∀ σ',P items.length σ'->K (.nx σ')):OK1 (bR7 g b items σ) K:=by
 induction items generalizing P σ with
 | nil=>exact k σ h0
 | cons d r h=>
   show OK1 ((g d σ).bind _) K;rw[aS];refine dL (f 0 d σ rfl h0) λc j=>?_;rw[aS];refine dL j λo l=>?_;obtain⟨a,m,n⟩:=l;have go:OK1 (bR7 g b r a) K:=h (λi=>P (i+1)) n (λi d σ e p=>f (i+1) d σ (by simpa using e) p) λσ' p=>k σ' (by simpa using p);rcases m with rfl | rfl;exact go;exact go
def cX0{items:List D}(P:Nat->Sg->Prop){K:Out->Prop}(h0:P 0 σ)(f:∀ i d σ,items[i]? = some d->P i σ->OK1 (g d σ) λc=>RS b c λo=>(∃ a,(o=.nx a\/o=.ct a)/\P (i+1) a)\/(∃ x a,o=.rt x a/\K (.rt x a))\/(∃ a,o=.bk a/\K (.nx a)))(k:∀ σ',P items.length σ'->K (.nx σ')):OK1 (bR7 g b items σ) K:=by
 induction items generalizing P σ with
 | nil=>exact k σ h0
 | cons d r h=>
   show OK1 ((g d σ).bind _) K;rw[aS];refine dL (f 0 d σ rfl h0) λc j=>?_;rw[aS];refine dL j λo l=>?_;rcases l with⟨a,m,n⟩ | ⟨x,a,rfl,q⟩ | ⟨a,rfl,q⟩;have go:OK1 (bR7 g b r a) K:=h (λi=>P (i+1)) n (λi d σ e p=>f (i+1) d σ (by simpa using e) p) λσ' p=>k σ' (by simpa using p);rcases m with rfl | rfl;exact go;exact go;exact q;exact q
theorem aC3{c:DT}{K:Out->Prop}(P:Nat->Sg->Prop)(f:∀ m σ,P m σ->RT c σ λt d=>if t=true then RS b d λo=>(∃ a m',(o=.nx a\/o=.ct a)/\m' < m/\P m' a)\/(∃ x a,o=.rt x a/\K (.rt x a))\/(∃ a,o=.bk a/\K (.nx a))else K (.nx d)) :
  ∀ (n m:Nat) (σ:Sg),m < n->P m σ->OK1 (rY c b n σ) K
 | 0,m,σ,h,_=>by lia
 | n+1,m,σ,h,p=>by
   show OK1 ((c σ).bind _) K;rw[aS];refine dL (f m σ p) λx e=>?_;dsimp only at e;by_cases g:x.1=true
   ·rw[a3O g]at e ⊢;rw[aS];refine dL e λo i=>?_;rcases i with⟨a,m',j,hm,k⟩ | ⟨x,a,rfl,q⟩ | ⟨a,rfl,q⟩;have go:=aC3 P f n m' a (by lia) k;rcases j with rfl | rfl;exact go;exact go;exact q;exact q
   ·rw[a3P g]at e ⊢;exact e
def bT1{c:DT}(P:Nat->Sg->Prop)(m:Nat)(hm:m < 1000000)(h0:P m σ)(e:∀ m σ,P m σ->RT c σ λt d=>if t=true then RS b d λo=>(∃ a m',(o=.nx a\/o=.ct a)/\m' < m/\P m' a)\/(∃ x a,o=.rt x a/\QS (.rt x a))\/(∃ a,o=.bk a/\QS (.nx a))else QS (.nx d)):OK1 (rY c b dD7 σ) QS:=
 aC3 P e dD7 m σ (a6d hm cV5) h0
def cX1{ow:List Nat}{t:DT}{e:DE}:RE (cN ow ri g t e) σ Q=RI ri σ λitems l a=>items.length<=sizeLine/\OK1 (aU7 ow g t e items (dE ow (lendO l a))) λy=>Q (.own (.lst y.1)) (aB9 l a (nS ow (lendO l a) y.2)):=by
 unfold RE RI cN;simp only[aS,bW,bZ]
theorem xC{ow:List Nat}{t:DT}{e:DE}{K:List D×Sg->Prop}:∀ (items:List D) (a:Sg) (P:Nat->List D->Sg->Prop),P 0 [] a ->
  (∀ i d acc a,items[i]? = some d->P i acc a->OK1 (g d a) λh=>RT t h λb j=>if b=true then RE e j λr m=>∃ v,r=.val v/\P (i+1) (acc++[v]) (dE ow m)else P (i+1) acc (dE ow j)) ->
  (∀ acc a,P items.length acc a->K (acc,a))->OK1 (aU7 ow g t e items a) K
 | [],a,P,h0,_,k=>k [] a h0
 | d::r,a,P,h0,n,k=>by
   show OK1 ((g d a).bind _) K;rw[aS];refine dL (n 0 d [] a rfl h0) λh s=>?_;rw[aS];refine dL s λx l=>?_;dsimp only at l;by_cases q:x.1=true;rw[a3O q]at l ⊢;rw[aS];refine dL l λy u=>?_;obtain⟨v,w,p⟩:=u;rw[w];dsimp only;rw[aS];exact xC r _ (λi acc a=>P (i+1) (v::acc) a) p (λi d' acc c o f=>by simpa using n (i+1) d' (v::acc) c (by simpa using o) f) λacc c f=>k (v::acc) c (by simpa using f);rw[a3P q]at l ⊢;exact xC r _ (λi acc a=>P (i+1) acc a) l (λi d' acc c o f=>n (i+1) d' acc c (by simpa using o) f) λacc c f=>k acc c (by simpa using f)
end
section
variable{i j:Int}{l m:List D}{K:Res->Prop}{d e:D}{σ:Sg}{Q:Res->Sg->Prop}
theorem xE:OK1 (iT (.int i) (.int j)) K=K (.val (.int (i+j))):=rfl
theorem oW:OK1 (iT (.lst l) (.lst m)) K=(l.length+m.length<=sizeLine/\K (.own (.lst (l++m)))):=by
 show OK1 (if l.length+m.length<=sizeLine then some (Res.own (.lst (l++m)))else none) K=_;rw[bW];rfl
theorem oX:OK1 (iT (.tup l) (.tup m)) K=(l.length+m.length<=sizeLine/\K (.val (.tup (l++m)))):=by
 show OK1 (if l.length+m.length<=sizeLine then some (Res.val (.tup (l++m)))else none) K=_;rw[bW];rfl
theorem oY{x y:Str}:OK1 (iT (.str x) (.str y)) K=(x.length+y.length<=sizeLine/\K (.val (.str (x++y)))):=by
 show OK1 (if x.length+y.length<=sizeLine then some (Res.val (.str (x++y)))else none) K=_;rw[bW];rfl
theorem xF:OK1 (dM6 (.int i) (.int j)) K=K (.val (.int (i-j))):=rfl
theorem xG:OK1 (aV2 (.int i) (.int j)) K=(tW i j/\K (.val (.int (i*j)))):=@bW _ (tW i j) (Classical.propDecidable _) _ _
theorem xH:OK1 (dV6 (.int i) (.int j)) K=(bI1 i j/\K (.val (.int (i / j)))):=@bW _ (bI1 i j) (Classical.propDecidable _) _ _
theorem xI:OK1 (bC2 (.int i) (.int j)) K=(0 < j/\K (.val (.int (i % j)))):=@bW _ (0 < j) (Classical.propDecidable _) _ _
theorem xJ:OK1 (dY7 (.int i) (.int j)) K=(dD4 i j/\K (.val (.int (i ^ j.toNat)))):=@bW _ (dD4 i j) (Classical.propDecidable _) _ _
theorem aV9:OK1 (ltI (.int i) (.int j)) K=K (.val (.bl (decide (i < j)))):=rfl
theorem aW0:OK1 (leI (.int i) (.int j)) K=K (.val (.bl (decide (i<=j)))):=rfl
theorem aW1:OK1 (gtI (.int i) (.int j)) K=K (.val (.bl (decide (j < i)))):=rfl
theorem aW2:OK1 (geI (.int i) (.int j)) K=K (.val (.bl (decide (j<=i)))):=rfl
theorem xK:OK1 (cN8 (.int i)) K=K (.val (.int (-i))):=rfl
theorem xL:OK1 (ixD (.lst l) (.int i)) K=OK1 (atI l i) λd=>K (.val d):=by
 show OK1 ((atI l i).map Res.val) K=_;rw[aN6]
theorem xM:OK1 (ixD (.tup l) (.int i)) K=OK1 (atI l i) λd=>K (.val d):=by
 show OK1 ((atI l i).map Res.val) K=_;rw[aN6]
theorem oZ:OK1 (mB [.lst l]) K=K (.val (.int l.length)):=rfl
theorem pA:OK1 (mB [.tup l]) K=K (.val (.int l.length)):=rfl
theorem xN:OK1 (dE0 [.int i]) K=K (.val (.int i)):=rfl
theorem pB{b:Bool}:OK1 (dE0 [.bl b]) K=K (.val (.int (if b then 1 else 0))):=rfl
theorem xO:OK1 (bS3 [.int i,.int j]) K=K (.val (.int (if j > i then j else i))):=rfl
theorem xP:OK1 (bH9 [.int i,.int j]) K=K (.val (.int (if j < i then j else i))):=rfl
theorem pC:OK1 (sM [.lst l]) K=K (.own (.lst l)):=rfl
theorem lD:OK1 (sM [.tup l]) K=K (.own (.lst l)):=rfl
theorem xQ:OK1 (aK1 [.lst l]) K=K (.val (.tup l)):=rfl
theorem pD:OK1 (aK1 [.tup l]) K=K (.val (.tup l)):=rfl
theorem aN7:OK1 (eqD false (.int i) (.int j)) K=K (.val (.bl (decide (i=j)))):=by
 have h:zZ (.int i) (.int j)=decide (i=j):=by
  show(i==j)=_;rw[a0e];simp
 show OK1 (if mG (.int i)=true/\mG (.int j)=true then some (Res.val (.bl (if false then !zZ (.int i) (.int j)else zZ (.int i) (.int j))))else none) K=_;rw[a3O ⟨rfl,rfl⟩,h];rfl
theorem xR{c:String}:OK1 (dE1 c (.int i)) K=K (.val (.bl (tL "int" c))):=rfl
theorem xS{c:String}{b:Bool}:OK1 (dE1 c (.bl b)) K=K (.val (.bl (tL "bool" c))):=rfl
theorem xT{k:Int}{K:D×D->Prop}:OK1 ((dN3 k e (.lst l)).map λb=>(b,D.non)) K=OK1 (ixN l.length k) λj=>K (.lst (l.set j e),.non):=by
 show OK1 (((ixN l.length k).map λj=>D.lst (l.set j e)).map λb=>(b,D.non)) K=_;rw[aN6,aN6]
theorem xU{K:D×D->Prop}:OK1 (aS5 (.lst l) [e]) K=(l.length < sizeLine/\K (.lst (l++[e]),.non)):=by
 show OK1 (if l.length < sizeLine then some (D.lst (l++[e]),D.non)else none) K=_;rw[bW];rfl
theorem mI{bs:List Bool}:OK1 (cD8 [.lst (bs.map D.bl)]) K=K (.val (.bl (bs.all id))):=by
 show OK1 ((aN1 (bs.map D.bl)).map λbs=>Res.val (.bl (bs.all id))) K=_;rw[aN2];rfl
def SK(d:D)(lo hi:Option Int)(K:Res->Prop):Prop:=OK1 (slD d lo hi) K
theorem aW3{a:DE}{x y:DO}:RE (dSl a x y) σ Q=RE a σ λr c=>RO x c λlo e=>RO y e λhi b=>RD b r λd=>SK d lo hi λv=>Q v b:=by
 unfold RE RO RD SK dSl;simp only[aS,bZ]
theorem xV{K:Option Int->Sg->Prop}:RO rD σ K=K none σ:=rfl
theorem cX2{a:DE}{K:Option Int->Sg->Prop}:RO (dP a) σ K=RE a σ λx b=>RD b x λd=>OK1 (match d with | .int k=>some k | _=>none) λk=>K (some k) b:=by
 unfold RO RE RD dP;simp only[aS];congr 1;funext x;congr 1;funext d;cases d<;>rfl
theorem xW{lo hi:Option Int}:SK (.lst l) lo hi K=K (.own (.lst (aK0 l lo hi))):=rfl
theorem xX{lo hi:Option Int}:SK (.tup l) lo hi K=K (.val (.tup (aK0 l lo hi))):=rfl
theorem xY{x:D}{K:D->Prop}:OK1 (atI (x::l) 0) K=K x:=by
 show OK1 ((ixN (x::l).length 0).bind λj=>(x::l)[j]?) K=_;unfold ixN;rw[a3O (Int.le_refl 0),a3O (by first | (simp;done) | (simp;lia))];rfl
theorem xZ{x y:D}{K:D->Prop}:OK1 (atI (x::y::l) 1) K=K y:=by
 show OK1 ((ixN (x::y::l).length 1).bind λj=>(x::y::l)[j]?) K=_;unfold ixN;rw[a3O (by decide),a3O (by first | (simp;done) | (simp;lia))];rfl
theorem dO3{x y z:D}{K:D->Prop}:OK1 (atI (x::y::z::l) 2) K=K z:=by
 show OK1 ((ixN (x::y::z::l).length 2).bind λj=>(x::y::z::l)[j]?) K=_;unfold ixN;rw[a3O (by decide),a3O (by first | (simp;done) | (simp;lia))];rfl
theorem yA{x:D}{K:Nat->Prop}:OK1 (ixN (x::l).length 0) K=K 0:=by
 unfold ixN;rw[a3O (Int.le_refl 0),a3O (by first | (simp;done) | (simp;lia))];rfl
theorem yB{x y:D}{K:Nat->Prop}:OK1 (ixN (x::y::l).length 1) K=K 1:=by
 unfold ixN;rw[a3O (by decide),a3O (by first | (simp;done) | (simp;lia))];rfl
theorem yC{i j:Int}(a:-(2 ^ 64) < j)(b:j < 2 ^ 64):tW i j=True:=eq_true (.inl (.inr ⟨a,b⟩))
theorem yD{i j:Int}(a:-(2 ^ 64) < i)(b:i < 2 ^ 64):tW i j=True:=eq_true (.inl (.inl ⟨a,b⟩))
theorem dO4{i:Int}{b:Bool}:tW i (if b=true then 1 else 0)=True:=eq_true (.inl dK8)
theorem yE{i:Int}{p:Prop}[Decidable p]:tW i (if p then 1 else 0)=True:=eq_true (.inl (.inr (by split<;>decide)))
theorem aN8{i j:Int}(a:0 < j)(b:j < 18446744073709551616):bI1 i j=True:=eq_true ⟨a,b⟩
theorem aW4{i j:Int}(a:0<=j)(b:j<=1000000)(c:-18446744073709551616 < i)(d:i < 18446744073709551616):dD4 i j=True:=eq_true ⟨a,b,by show i.natAbs < 18446744073709551616;lia⟩
theorem yF{σ:Sg}:lendO none σ=σ:=rfl
theorem aW5{σ:Sg}{o:Out}:aC0 none σ o=o:=by cases o<;>rfl
theorem yG{σ σ':Sg}:aB9 none σ σ'=σ':=rfl
theorem yH:(tyD "list" (.lst l)=true)=True:=by simp[tyD]
end
noncomputable def rE:List D->Option (List Str)
 | []=>some []
 | .str s::r=>(rE r).bind λl=>some (s::l)
 | _::_=>none
theorem sY:∀ {l:List D} {a:List Str},rE l=some a->l=a.map D.str
 | [],_,h=>by cases h;rfl
 | .str s::r,_,h=>by
   obtain⟨l,b,c⟩:=aE h;cases c;rw[sY b];rfl
 | .non::_,_,h=>by cases h
 | .int _::_,_,h=>by cases h
 | .bl _::_,_,h=>by cases h
 | .tup _::_,_,h=>by cases h
 | .lst _::_,_,h=>by cases h
 | .dic _ _::_,_,h=>by cases h
def mJ(zs:List Str):rE (zs.map D.str)=some zs:=by
 induction zs with
 | nil=>rfl
 | cons b r a=>show(rE (r.map D.str)).bind _=_;rw[a];rfl
noncomputable def bT2(sep:Str):F1:=λd=>match d with
 | .lst l=>(rE l).bind λys=>if(ys.map (·.length)).sum+ys.length*sep.length<=16777216 then some (.val (.str (Txt.join sep ys)))else none
 | _=>none
def cX3{X:Cx}{e:Expr}{sep:Str}{r:DE}(K:W.Frag)(h:∀ Γ,PE X e (tBM K "str" (cB8 K) (tC (.str sep)) (dTA Γ (aC r aL)))):GE X e (aG1 (bT2 sep) r):=.mk λΓ=>peW (h Γ) λσV H Q m=>by
 have n:cV1 (λx H Q=>cB8 K (.str sep) [x] H Q) (bT2 sep):=by
  intro H d x Q res v1 e k;unfold bT2 at e;split at e;obtain⟨ys,f,e⟩:=aE e;split at e;rename_i o;cases e;obtain⟨p,xs,rfl,i,b⟩:=iN v1;rw[sY f]at b;rw[b.strs_inv]at i;exact⟨sep,p,ys,rfl,rfl,fN i,o,k _ H (.refl _) (.str _)⟩;cases e;cases e
 obtain⟨σ,ok,res,σ',e,k⟩:=m;obtain⟨⟨x,g⟩,f,e⟩:=aE e;obtain⟨q,s,e⟩:=aE e;obtain⟨r,u,e⟩:=aE e;cases e;refine⟨rfl,σ,ok,[x],g,?_,λvs w a b c _=>?_⟩;show((_:Option _).bind _)=_;rw[f];rfl;cases b with
 | cons b t=>
   cases t;refine n w q _ Q _ (b.vw a s) u λv H' j l=>?_;exact k v H' (a.same j) (l.res a) (c.trans (.same j)) (l.frh.back c)
def cX4{sep:Str}{zs:List Str}{K:Res->Prop}:OK1 (bT2 sep (.lst (zs.map D.str))) K=((zs.map (·.length)).sum+zs.length*sep.length<=16777216/\K (.val (.str (Txt.join sep zs)))):=by
 show OK1 ((rE (zs.map D.str)).bind _) K=_;rw[mJ];show OK1 (if _ then _ else none) K=_;rw[bW];rfl
def cE2{X:Cx}(K:W.Frag)(a:X.K=K):MtR X "str.join" (cB8 K):=by rw[← a];exact cT3
theorem cO1{H:Hp}:∀ {l:List D} {xs:List V},l.length=xs.length->(∀ (j:Nat) d x,l[j]? = some d->xs[j]? = some x->Rp H d x)->Rps H l xs
 | [],[],_,_=>.nil
 | [],_::_,e,_=>by simp at e
 | _::_,[],e,_=>by simp at e
 | d::l,x::xs,e,h=>.cons (h 0 d x rfl rfl) (cO1 (by simpa using e) λj d' a b c=>h (j+1) d' a (by simpa using b) (by simpa using c))
section
variable{σ:Sg}{Q:Res->Sg->Prop}{ra:DA}
end
end Dv
namespace PySem
section
variable{prog:Program}{w:World}{A:Around}{E:Value->Shared->Prop}{s:Shared}
def cE3{it t:Addr}{i:Nat}{b:Array Value}{x:Value}{Q:Value->Shared->Prop}(a:s.heap.IsTupleIter it t i)(f:s.heap.IsTuple t b)(g:b[i]? = some x)
  (q:∀ h',h'.IsTupleIter it t (i+1)->Heap.SameBut it s.heap h'->Q x {s with heap:=h'}):wpAny (model prog w) A (Builtin.SmallTypes.nextOf (.ref it)) Q E s:=by
 obtain⟨o,c,h,hd⟩:=id a;obtain⟨j,d,_,nt,e⟩:=f;unfold Builtin.SmallTypes.nextOf;refine a3N (wpAny_callSpecial?_slot (name:=Str.ofString "__next__") a.typeIs a9g (a4p a9g a.typeIs F.entry_tuple_iterator_next ?_ (F.args_tuple_iterator_next_1 _)));show wpAny _ _ (field (.ref it) 0 >>= _) _ _ s;refine a3N (a4r c hd (x:=.ref t) rfl ?_);show wpAny _ _ (if(Value.ref t==Value.none)=true then _ else _) _ _ s;rw[a3P (show ¬ ((Value.ref t==Value.none)=true)from a7b)];show wpAny _ _ (field (.ref it) 1 >>= _) _ _ s;refine a3N (a4r c hd (x:=.int i 0) rfl ?_);show wpAny _ _ (seqItems? (.ref t) >>= _) _ _ s;refine a3N (wpAny_seqItems d e ?_);simp only[Int.toNat_natCast,g];refine a3N (wpAny_setField c hd (by simp) (wpAny_pure ⟨x,rfl,wpAny_pure (q _ ⟨_,Heap.get?_update_self _ c (Obj.isFreed_of_fields (Obj.data_mapFields hd _)),(Obj.cls_mapFields ..).trans h,by rw[Obj.data_mapFields hd];simp[rawInt]⟩ (Heap.SameBut.update ..))⟩))
def aN9{it t:Addr}{i:Nat}{c:Array Value}{Q:Value->Shared->Prop}(h:A.handled=none)(b:s.heap.IsTupleIter it t i)(j:s.heap.IsTuple t c)(k:c[i]? = none)
  (q:∀ h' e,Heap.ExtBut it s.heap h'->(∃ o,h'.get? e=some o/\o.cls=.type "StopIteration")->E (.ref e) {s with heap:=h'}):wpAny (model prog w) A (Builtin.SmallTypes.nextOf (.ref it)) Q E s:=by
 obtain⟨o,d,l,hd⟩:=id b;obtain⟨n,f,_,nt,g⟩:=j;unfold Builtin.SmallTypes.nextOf;refine a3N (wpAny_callSpecial?_slot (name:=Str.ofString "__next__") b.typeIs a9g (a4p a9g b.typeIs F.entry_tuple_iterator_next ?_ (F.args_tuple_iterator_next_1 _)));show wpAny _ _ (field (.ref it) 0 >>= _) _ _ s;refine a3N (a4r d hd (x:=.ref t) rfl ?_);show wpAny _ _ (if(Value.ref t==Value.none)=true then _ else _) _ _ s;rw[a3P (show ¬ ((Value.ref t==Value.none)=true)from a7b)];show wpAny _ _ (field (.ref it) 1 >>= _) _ _ s;refine a3N (a4r d hd (x:=.int i 0) rfl ?_);show wpAny _ _ (seqItems? (.ref t) >>= _) _ _ s;refine a3N (wpAny_seqItems f g ?_);simp only[Int.toNat_natCast,k];refine a3N (a4y (a3N (wpAny_setField d hd (by simp) ?_)));show wpAny _ _ (newExc (.type "StopIteration") [] >>= _) _ _ _;refine a3N ?_;simp only[newExc,newTuple];refine a3N (a3X ?_ (by size_fits));refine a3N (m:=firstArgMember _ _) (wpAny_of_eq (a:=Value.none) (by first | rfl | (simp only[firstArgMember];rfl)) ?_);refine a3X ?_ (by size_fits);simp only[raiseNew];refine a3N (wpAny_handled ?_);rw[show A.in1.handled=none from h];refine a3N (a3S (wpAny_throw ?_));exact q _ _ (((Heap.SameBut.update ..).extBut.push _).push _) ⟨_,a8b _ rfl,rfl⟩
end
def Draws.tup{prog:Program}{w:World}{A:Around}(g:A.handled=none)(it t:Addr)(d:t≠it)(a:Array Value) :
  Draws prog w A it [it,t] a.size (λi v=>a[i]? = some v) (λi h=>h.IsTupleIter it t i/\h.IsTuple t a) where
 live:=λ_ _ st=>st.1.imp λ_ z=>z.1
 frame:=λ_ _ _ st f=>⟨st.1.at λo e=>f it (by simp) o e,st.2.at λo e=>f t (by simp) o e⟩
 item:=λi s Q E hi st j=>cE3 st.1 st.2 (x:=a[i]) (by simp[hi]) λh' b c=>j _ h' s.toks (by simp[hi]) ⟨b,st.2.at λo e=>(c.2 t d).trans e⟩ c
 done:=λs Q E st k=>aN9 g st.1 st.2 (by simp) k
end PySem
namespace L2
open PySem PyProof.Rows
section
variable{X:Cx}{pins:List (Addr×Obj)}{σ:St}{H:Hp}{s:Shared}{h':Heap}{ch:List Addr}
def Inv.spun{t':Nat}{a:Addr}{o:HO}(I:Inv X pins σ H s)(h:∀ b∈ch,bL9 X pins H b)(k:∀ b u,b∉ch->s.heap.get? b=some u->h'.get? b=some u)(j:s.heap.objs.size<=a)
  (i:fE X.prog X.w (upd H a o) h' a o):Inv X pins σ (upd H a o) {s with heap:=h',toks:=t'}:=by
 have ha:H a=none:=I.hok.fresh j;have f:∀ b u,H b=some u->b∉ch:=λb u e z=>by rw[(h b z).1]at e;cases e
 refine I.step (g':=s.gens) (d':=s.drawn) (ch:=ch) (λb g=>?_) (λb u _ _ d e _=>k b u d e) (λb u _ _ d e _=>⟨u.slots,k b u d e⟩) (λb u _ e n=>?_) (λb u d e=>⟨u,k b u d e⟩)
  (λb xs e=>by rw[aO (bH e ha)];exact e) (λb u v e=>by rw[aO (bH e ha)];exact e) (λb ps e=>⟨#[],by rw[aO (bH e ha),e];simp⟩) (λm hm=>?_) (λb u e=>?_) I.bare
 ·obtain⟨B,l,C,p,t,x⟩:=h b g;exact⟨p,l,t,x⟩
 ·rw[aO (a1d (a6d (a6b e) j))];exact n
 ·obtain⟨u,es,y,A,r⟩:=hm;exact⟨u,es,y,k _ u (λz=>(h _ z).2.1 rfl) A,r⟩
 ·by_cases g:b=a;subst g;rw[aW]at e;cases e;exact i;rw[aO g]at e;refine(I.hok b u e).stay (λc v d q=>k c v ?_ q) (λc q=>by rw[aO (bH q ha)];exact q) λc xs q=>by rw[aO (bH q ha)];exact q
  rcases d with z | z;rw[z];exact f b u e;exact f c _ z
def Inv.spun0{t':Nat}(I:Inv X pins σ H s)(f:∀ b∈ch,bL9 X pins H b)(k:∀ b u,b∉ch->s.heap.get? b=some u->h'.get? b=some u):Inv X pins σ H {s with heap:=h',toks:=t'}:=by
 have d:∀ b u,H b=some u->b∉ch:=λb u e z=>by rw[(f b z).1]at e;cases e
 refine I.step (g':=s.gens) (d':=s.drawn) (ch:=ch) (λb g=>?_) (λb u _ _ a e _=>k b u a e) (λb u _ _ a e _=>⟨u.slots,k b u a e⟩) (λb u _ e n=>n) (λb u a e=>⟨u,k b u a e⟩)
  (λb xs e=>e) (λb u v e=>e) (λb ps e=>⟨#[],by rw[e];simp⟩) (λm hm=>?_) (λb u e=>?_) I.bare
 ·obtain⟨t,h,w,i,j,l⟩:=f b g;exact⟨i,h,j,l⟩
 ·obtain⟨u,es,o,p,r⟩:=hm;exact⟨u,es,o,k _ u (λz=>(f _ z).2.1 rfl) p,r⟩
 ·refine(I.hok b u e).stay (λc v a q=>k c v ?_ q) (λc q=>q) λc xs q=>q;rcases a with z | z;rw[z];exact d b u e;exact d c _ z
end
noncomputable def dZ3(K:W.Frag)(a:Addr):It:=
 ⟨λi H=>∃ xs x,SqT K H a xs/\xs[i]? = some x,λi H v H'=>∃ T x,v=.ref T/\H T=none/\H'=upd H T (.tup [.int i,x])/\∀ xs,SqT K H a xs->xs[i]? = some x,λi H=>∃ xs,SqT K H a xs/\xs.length=i⟩
noncomputable def dZ4(K:W.Frag)(a:Addr):It:=
 ⟨λi H=>∃ xs x,SqL K H a xs/\xs[i]? = some x,λi H v H'=>∃ T x,v=.ref T/\H T=none/\H'=upd H T (.tup [.int i,x])/\∀ xs,SqL K H a xs->xs[i]? = some x,λi H=>∃ xs,SqL K H a xs/\xs.length=i⟩
def bC8{P:Program}{w:World}{H:Hp}{h b:Heap}{e it T:Addr}{i:Nat}{tk:Tok}{u:Value}{x:V}(c:h.get? T=some {cls:=.type "tuple",data:=.seq #[.int i tk,u]})(d:b.get? T=h.get? T)(f:gC x u):fE P w (upd H T (.tup [.int i,x])) b T (.tup [.int i,x]):=by
 have a:=d.trans c;exact⟨by show 2<=sizeLine;decide,[.int i tk,u],.cons ⟨tk,rfl⟩ (.cons f .nil),⟨_,a,rfl,_,rfl⟩,⟨_,a,rfl⟩⟩
def bI3{P:Program}{w:World}{K:W.Frag}{D:List Expr}{k:Nat}{pos:Pos}(a e it:Addr)(n:e≠it) :
  Turn P w K (.Tuple D k pos) (dZ3 K a) [e,it] e (λi h=>(∃ j,IsEnum h e it i j)/\h.IsTupleIter it a i) where
 mem:=by simp
 obj:=λi h st b g=>by
  obtain⟨⟨j,l⟩,o,F,c,d⟩:=st;rcases a4b.mp g with z | g;subst z;exact⟨_,l,λv z=>by cases z⟩;rw[a1b.mp g];exact⟨o,F,λv z=>by rw[d]at z;cases z⟩
 keep:=λi h h' st k=>by
  obtain⟨⟨j,l⟩,hi⟩:=st;exact⟨⟨j,k e (by simp) _ l⟩,hi.at λo q=>k it (by simp) o q⟩
 item:=by
  intro X N O Q R i pins s σ H E I J st S;subst N O Q;obtain⟨⟨j,l⟩,hi⟩:=st;obtain⟨xs,x,L,M⟩:=S;obtain⟨f,T,p,hz⟩:=I.tuple L;obtain⟨u,hu,ru⟩:=T.get M;have B:s.heap.IsTuple a f.toArray:=p;have r:a≠it:=λz=>by
   obtain⟨o,m,C,_⟩:=B;obtain⟨o',U,G,_⟩:=id hi;rw[z,U]at m;cases m;rw[C]at G;injection G with q;exact absurd q (by decide)
  have V:e≠a:=λz=>by
   obtain⟨o,m,C,_⟩:=B;rw[← z,l]at m;cases m;have Y:Value.type "enumerate"=Value.type "tuple":=C;injection Y with q;exact absurd q (by decide)
  have Z:i < f.toArray.size:=by
   have:=(a2a.mp hu).1;simpa using this
  refine wpAny_pyNext_enum_itemD (Draws.tup (A:=X.A.in1) (I.ok.hd R) it a r f.toArray) l ⟨hi,B⟩ Z n (by simp[n,V]) λy m tk hy F hs' hT hsz hk=>?_;obtain rfl:y=u:=by
   rw[a8h,hu]at hy;exact(a0b hy).symm
  refine⟨_,rfl,wpAny_letOwnedTupleGo_enum F λC he2 t=>?_⟩;have hTe:s.heap.objs.size≠e:=λz=>absurd (a6b l) (by rw[← z];exact a0f _);have ha:H s.heap.objs.size=none:=I.hok.fresh (a7a _);refine⟨.ref s.heap.objs.size,upd H s.heap.objs.size (.tup [.int i,x]),?_,rfl,⟨_,x,rfl,ha,rfl,λys hys=>by rw[I.tuple_inj hys L];exact M⟩,⟨⟨_,he2⟩,hs'.1.at λo q=>(t.2 it n.symm).trans q⟩,λb g=>?_⟩;exact I.spun (ch:=[e,it]) (t':=tk+1) J (λb u g q=>(t.2 b λz=>g (by simp[z])).trans (hk b u (λz=>g (by simp[z])) (λz=>g (by simp[z])) q)) (a7a _) (bC8 (e:=e) (it:=it) hT (t.2 _ hTe) ru);rw[aO (λz=>?_)];exact(J b g).1;obtain⟨o,F⟩:∃ o,s.heap.get? b=some o:=by
   rcases a4b.mp g with z | g;rw[z];exact⟨_,l⟩;rw[a1b.mp g];exact hi.imp λ_ q=>q.1
  exact absurd (a6b F) (by rw[z];exact a0f _)
 done:=by
  intro X N O Q R i pins s σ H E I J st S;subst N O Q;obtain⟨⟨j,l⟩,hi⟩:=st;obtain⟨xs,L,M⟩:=S;obtain⟨f,T,p,hz⟩:=I.tuple L;have B:s.heap.IsTuple a f.toArray:=p;have r:a≠it:=λz=>by
   obtain⟨o,m,C,_⟩:=B;obtain⟨o',U,G,_⟩:=id hi;rw[z,U]at m;cases m;rw[C]at G;injection G with q;exact absurd q (by decide)
  have hl:f.toArray.size=i:=by rw[a2b,← T.length];exact M
  refine wpAny_pyNext_enum_endD (Draws.tup (A:=X.A.in1) (I.ok.hd R) it a r f.toArray) l ⟨by rw[hl];exact hi,B⟩ λh' hx'=>⟨rfl,I.spun0 (ch:=[e,it]) (t':=s.toks) J λb u g q=>hx' b u (λz=>g (by simp[z])) q⟩
 self:=λ_ _ _ _ _ st h=>wpAny_pyIter_enum st.1.choose_spec h
def bI4{P:Program}{w:World}{K:W.Frag}{D:List Expr}{k:Nat}{pos:Pos}(a e it:Addr)(n:e≠it) :
  Turn P w K (.Tuple D k pos) (dZ4 K a) [e,it] e (λi h=>(∃ j,IsEnum h e it i j)/\h.IsListIter it a i) where
 mem:=by simp
 obj:=λi h st b g=>by
  obtain⟨⟨j,l⟩,o,F,c,d⟩:=st;rcases a4b.mp g with z | g;subst z;exact⟨_,l,λv z=>by cases z⟩;rw[a1b.mp g];exact⟨o,F,λv z=>by rw[d]at z;cases z⟩
 keep:=λi h h' st k=>by
  obtain⟨⟨j,l⟩,hi⟩:=st;exact⟨⟨j,k e (by simp) _ l⟩,hi.at λo q=>k it (by simp) o q⟩
 item:=by
  intro X N O Q R i pins s σ H E I J st S;subst N O Q;obtain⟨⟨j,l⟩,hi⟩:=st;obtain⟨xs,x,L,M⟩:=S;obtain⟨f,T,p,hz⟩:=I.list L;obtain⟨u,hu,ru⟩:=T.get M;have B:s.heap.IsList a f.toArray:=p.isList;have r:a≠it:=λz=>by
   obtain⟨o,m,C,_⟩:=B;obtain⟨o',U,G,_⟩:=id hi;rw[z,U]at m;cases m;rw[C]at G;injection G with q;exact absurd q (by decide)
  have V:e≠a:=λz=>by
   obtain⟨o,m,C,_⟩:=B;rw[← z,l]at m;cases m;have Y:Value.type "enumerate"=Value.type "list":=C;injection Y with q;exact absurd q (by decide)
  have Z:i < f.toArray.size:=by
   have:=(a2a.mp hu).1;simpa using this
  refine wpAny_pyNext_enum_itemD (Draws.list (A:=X.A.in1) (I.ok.hd R) it a r f.toArray) l ⟨hi,B⟩ Z n (by simp[n,V]) λy m tk hy F hs' hT hsz hk=>?_;obtain rfl:y=u:=by
   rw[a8h,hu]at hy;exact(a0b hy).symm
  refine⟨_,rfl,wpAny_letOwnedTupleGo_enum F λC he2 t=>?_⟩;have hTe:s.heap.objs.size≠e:=λz=>absurd (a6b l) (by rw[← z];exact a0f _);have ha:H s.heap.objs.size=none:=I.hok.fresh (a7a _);refine⟨.ref s.heap.objs.size,upd H s.heap.objs.size (.tup [.int i,x]),?_,rfl,⟨_,x,rfl,ha,rfl,λys hys=>by rw[I.list_inj hys L];exact M⟩,⟨⟨_,he2⟩,hs'.1.at λo q=>(t.2 it n.symm).trans q⟩,λb g=>?_⟩;exact I.spun (ch:=[e,it]) (t':=tk+1) J (λb u g q=>(t.2 b λz=>g (by simp[z])).trans (hk b u (λz=>g (by simp[z])) (λz=>g (by simp[z])) q)) (a7a _) (bC8 (e:=e) (it:=it) hT (t.2 _ hTe) ru);rw[aO (λz=>?_)];exact(J b g).1;obtain⟨o,F⟩:∃ o,s.heap.get? b=some o:=by
   rcases a4b.mp g with z | g;rw[z];exact⟨_,l⟩;rw[a1b.mp g];exact hi.imp λ_ q=>q.1
  exact absurd (a6b F) (by rw[z];exact a0f _)
 done:=by
  intro X N O Q R i pins s σ H E I J st S;subst N O Q;obtain⟨⟨j,l⟩,hi⟩:=st;obtain⟨xs,L,M⟩:=S;obtain⟨f,T,p,hz⟩:=I.list L;have B:s.heap.IsList a f.toArray:=p.isList;have r:a≠it:=λz=>by
   obtain⟨o,m,C,_⟩:=B;obtain⟨o',U,G,_⟩:=id hi;rw[z,U]at m;cases m;rw[C]at G;injection G with q;exact absurd q (by decide)
  have hl:f.toArray.size=i:=by rw[a2b,← T.length];exact M
  refine wpAny_pyNext_enum_endD (Draws.list (A:=X.A.in1) (I.ok.hd R) it a r f.toArray) l ⟨by rw[hl];exact hi,B⟩ λh' hx'=>⟨rfl,I.spun0 (ch:=[e,it]) (t':=s.toks) J λb u g q=>hx' b u (λz=>g (by simp[z])) q⟩
 self:=λ_ _ _ _ _ st h=>wpAny_pyIter_enum st.1.choose_spec h
end L2
namespace PySem
open AutoSeq1 (wpAny_loadPart')
noncomputable abbrev dO5(l:Addr):Obj:={cls:=.type "tuple_iterator",data:=.fields #[.ref l,.int 0 0]}
noncomputable abbrev dZ5(it:Addr):Obj:={cls:=.type "enumerate",data:=.fields #[.none,.bool false,.ref it,rawInt 0,.none,.none]}
def cE4(l:Addr)(a:Array Value)(n:Nat)(e:Option Addr)(sl:Array (Option Value)) :
  Meets (Builtin.«enumerate.__new__» ⟨[.type "enumerate",.ref l],[]⟩) (λ_ R s=>s.heap.get? l=some {cls:=.type "tuple",dict:=e,data:=.seq a n,slots:=sl} /\
   R (.ok (.ret (.ref (s.heap.push (dO5 l)).objs.size))) {s with heap:=(s.heap.push (dO5 l)).push (dZ5 s.heap.objs.size)}):=
 .of_wp λprog w A R s h=>by
  obtain⟨j,g,d,tk,os⟩:=s;obtain⟨b,h⟩:=h;have f:=sub_enumerate;have i:Heap.IsTuple (Shared.heap ⟨j,g,d,tk,os⟩) l a:=⟨_,b,rfl,n,rfl⟩
  wp_walk using a3U b
  refine wpAny_stack_any λst=>a3S ?_;split;rename_i c _ _ _ _ _;cases (c==Value.type "enumerate")<;>(wp_walk using a3U b,a4o i;exact⟨_,rfl,h⟩)
  ·wp_walk using a3U b,a4o i;exact⟨_,rfl,h⟩
section
variable{prog:Program}{w:World}{A:Around}{E:Value->Shared->Prop}{s:Shared}
def bI5{l:Addr}{a:Array Value}{Q:Value->Shared->Prop}(j:s.heap.IsTuple l a)
  (h:∀ h',IsEnum h' (s.heap.objs.size+1) s.heap.objs.size 0 .none->h'.IsTupleIter s.heap.objs.size l 0->h'.objs.size=s.heap.objs.size+2->(∀ b o,s.heap.get? b=some o->h'.get? b=some o)->Q (.ref (s.heap.objs.size+1)) {s with heap:=h'}) :
  wpAny (model prog w) A (call (.type "enumerate") [.ref l]) Q E s:=by
 obtain⟨⟨c,d,k,sl⟩,hl,m,n,hd⟩:=j;have e:c=.type "tuple":=m;have f:k=.seq a n:=hd;subst e f;refine callType_new F.called_enumerate (by decide) (F.typeCall_enumerate_1 _) (F.newCall_enumerate_1 _) (λobj=>F.args_object_init_2 obj _) F.entry_enumerate_new (cE4 l a n d sl) ⟨hl,?_⟩;have g:(s.heap.push (dO5 l)).objs.size=s.heap.objs.size+1:=a5h ..;show _/\_;rw[g];have i:IsEnum ((s.heap.push (dO5 l)).push (dZ5 s.heap.objs.size)) (s.heap.objs.size+1) s.heap.objs.size 0 .none:=by
  have:=a8b (s.heap.push (dO5 l)) (o:=dZ5 s.heap.objs.size) rfl;rw[g]at this;exact this
 exact⟨⟨_,i,rfl⟩,h _ i ⟨_,a5a _ (a8b _ rfl),rfl,rfl⟩ (by rw[a5h,g]) λb o x=>a5a _ (a5a _ x)⟩
end
end PySem
namespace L2
open PySem PyProof.Rows
section
variable{X:Cx}
def dO6(K:W.Frag)(b:TA):TI:=λσ H R=>b σ H λvs a=>∃ p,vs=[.ref p]/\((∃ xs,hR a p=some (true,xs)/\R (dZ4 K p) a)\/∃ xs,hR a p=some (false,xs)/\R (dZ3 K p) a)
def cX5(K:W.Frag)(y:X.K=K){g:List Expr}{k:Nat}{i:Pos}{a:Expr}{w:TA}{p pos:Pos}(A:Gl X "enumerate")(hm:X.mg "enumerate"=none)(m:bootBuiltins "enumerate"=some (.type "enumerate"))(ha:PA X [a] w)(B:starEach [a] X.env=[(false,eval a X.env)]:=by rfl):PI X (.Tuple g k i) (.Call (.Name "enumerate" p) [a] [] pos) (dO6 K w):=by
 subst y;intro pins s σ H R I h;refine Call_ (nA I A hm m (a2f (thn (ha pos pins s σ H _ I h) λus s1 Z0=>?_) B rfl));obtain⟨vs,x,f,C,n⟩:=Z0;obtain⟨b,rfl,n⟩:=n;obtain⟨u,rfl,D⟩:=C.one;cases D;have d:∀ c,c∈[s1.heap.objs.size+1,s1.heap.objs.size]->s1.heap.objs.size<=c:=λc e=>by
  rcases a4b.mp e with z | e;lia;rw[a1b.mp e];exact a7a _
 rcases n with⟨xs,o,q⟩ | ⟨xs,o,q⟩;obtain⟨j,E,r,F⟩:=f.list (fN o);refine call_enumerate_list r.isList λh' l hi t v=>wpAny_pyIter_enum l ?_;exact⟨_,[s1.heap.objs.size+1,s1.heap.objs.size],_,_,x,rfl,f.kept (t':=s1.toks) v,bI4 b _ _ (Nat.succ_ne_self _),⟨⟨_,l⟩,hi⟩,λc e=>f.fpOk (d c e) (f.hok.fresh (d c e)),q⟩;obtain⟨j,E,r,F⟩:=f.tuple (fJ o);refine bI5 (show s1.heap.IsTuple b j.toArray from r) λh' l hi t v=>wpAny_pyIter_enum l ?_;exact⟨_,[s1.heap.objs.size+1,s1.heap.objs.size],_,_,x,rfl,f.kept (t':=s1.toks) v,bI3 b _ _ (Nat.succ_ne_self _),⟨⟨_,l⟩,hi⟩,λc e=>f.fpOk (d c e) (f.hok.fresh (d c e)),q⟩
end
end L2
namespace Dv
open PySem L2 Mr
section
variable{P:Program}{w:World}{K:W.Frag}{mg:Str->Option Value}{base:Heap}
end
section
variable{K:W.Frag}{H:Hp}{C fI:Addr}{E:XK}
end
section
variable{K:W.Frag}{H:Hp}{C fI:Addr}{E:XK}
end
end Dv
namespace Dv
open PySem L2
noncomputable def yI(n:Nat):List D->List D
 | []=>[]
 | d::r=>.tup [.int (n:Int),d]::yI (n+1) r
theorem jN:∀ (n:Nat) (l:List D),(yI n l).length=l.length
 | _,[]=>rfl
 | n,_::r=>by show(yI (n+1) r).length+1=r.length+1;rw[jN]
theorem kA:∀ {n:Nat} {l:List D} {i:Nat} {d:D},(yI n l)[i]? = some d->∃ y,l[i]? = some y/\d=.tup [.int ((n+i:Nat):Int),y]
 | _,[],_,_,h=>by simp[yI]at h
 | n,y::r,0,d,h=>by
   simp[yI]at h;exact⟨y,rfl,by rw[← h];rfl⟩
 | n,y::r,i+1,d,h=>by
   obtain⟨z,e,q⟩:=kA (n:=n+1) (l:=r) (i:=i) (d:=d) (by simpa[yI]using h);exact⟨z,by simpa using e,by rw[q,show n+1+i=n+(i+1) by lia]⟩
def bT3{K:W.Frag}{p:Addr}{xs:List V}{l:List D}:ItD (dZ4 K p) (yI 0 l) (λH=>SqL K H p xs/\Rps H l xs) where
 go:=λH i d ⟨h,r⟩ e=>by
  obtain⟨y,a,_⟩:=kA e;obtain⟨x,ex,_⟩:=r.get a;exact⟨xs,x,h,ex⟩
 yld:=λH i d v H' ⟨h,r⟩ e ⟨T,x,c,b,f,g⟩=>by
  obtain⟨y,a,rfl⟩:=kA e;obtain⟨k,ex,j⟩:=r.get a;have:=g xs h;rw[ex]at this;cases this;subst c f;refine⟨bM b,.tup aW (.cons ?_ (.cons (j.mono (Ext.same (bM b))) .nil))⟩;rw[a9f];exact .int _
 stop:=λH ⟨h,r⟩=>⟨xs,h,by rw[jN,r.length]⟩
def bT4{K:W.Frag}{p:Addr}{xs:List V}{l:List D}:ItD (dZ3 K p) (yI 0 l) (λH=>SqT K H p xs/\Rps H l xs) where
 go:=λH i d ⟨h,r⟩ e=>by
  obtain⟨y,a,_⟩:=kA e;obtain⟨x,ex,_⟩:=r.get a;exact⟨xs,x,h,ex⟩
 yld:=λH i d v H' ⟨h,r⟩ e ⟨T,x,c,b,f,g⟩=>by
  obtain⟨y,a,rfl⟩:=kA e;obtain⟨k,ex,j⟩:=r.get a;have:=g xs h;rw[ex]at this;cases this;subst c f;refine⟨bM b,.tup aW (.cons ?_ (.cons (j.mono (Ext.same (bM b))) .nil))⟩;rw[a9f];exact .int _
 stop:=λH ⟨h,r⟩=>⟨xs,h,by rw[jN,r.length]⟩
noncomputable def dV7:D->Option (List D)
 | .lst l=>some l
 | .tup l=>some l
 | _=>none
noncomputable def bT5(r:DE):DI:=λσ=>(r σ).bind λx=>(rd x.2 x.1).bind λd=>(dV7 d).bind λl=>some (yI 0 l,(match x.1 with | .slot i=>some i | _=>none),x.2)
def cX6{X:Cx}{tg e:Expr}{r:DE}(K:W.Frag)(h:∀ Γ,PI X tg e (dO6 K (dTA Γ (aC r aL)))):GI X tg e (bT5 r):=.mk λΓ=>piW (h Γ) λσV H R ⟨σ,ok,items,l,z,e,k⟩=>by
 obtain⟨⟨x,n⟩,A,e⟩:=aE e;obtain⟨d,o,e⟩:=aE e;obtain⟨g,q,e⟩:=aE e;cases e;refine⟨σ,ok,[x],n,?_,λvs y a i j C=>?_⟩;show((_:Option _).bind _)=_;rw[A];rfl
 cases i with
 | cons i t _=>
   cases t;have vw:=i.vw a o;cases d with
   | lst B=>
     cases q;obtain⟨p,xs,rfl,m,s⟩:=iN vw;refine⟨p,rfl,.inl ⟨xs,m,k _ y _ a j (bT3 (xs:=xs)) λc b u f=>?_⟩⟩;obtain⟨v,w⟩:=tR a i o (items:=g) rfl vw p true xs rfl m s c b u f;exact⟨fN v,w⟩
   | tup B=>
     cases q;obtain⟨p,xs,rfl,m,s⟩:=gU vw;refine⟨p,rfl,.inr ⟨xs,eM m,k _ y _ a j (bT4 (xs:=xs)) λc b u f=>?_⟩⟩;obtain⟨v,w⟩:=tR a i o (items:=g) rfl vw p false xs rfl (eM m) s c b u f;exact⟨fJ v,w⟩
   | _=>cases q
theorem pE{σ:Sg}{a:DE}{K:List D->Option Nat->Sg->Prop}:RI (bT5 a) σ K=RE a σ λx b=>RD b x λd=>OK1 (dV7 d) λl=>K (yI 0 l) (match x with | .slot i=>some i | _=>none) b:=by
 unfold RI RE RD bT5;simp only[aS,bZ];try rfl
end Dv
namespace Mr
open PySem L2
noncomputable def top(i:Nat):Stmt:=PySem.Challenge.pw_mostrows_k48_rings_looked_at.main.body.getD i (.Pass ⟨0,0,0,0⟩)
noncomputable abbrev aC4:Stmt:=top 17
noncomputable abbrev nF:Stmt:=top 19
noncomputable abbrev aC5:Stmt:=top 20
noncomputable abbrev lK:Stmt:=top 22
noncomputable abbrev lL:Stmt:=top 21
noncomputable abbrev yJ:Stmt:=top 18
noncomputable abbrev nG:Stmt:=top 23
noncomputable abbrev aO0:Stmt:=top 16
noncomputable abbrev qC:Stmt:=top 24
noncomputable abbrev qE:Stmt:=top 25
noncomputable abbrev aO1:Stmt:=top 27
noncomputable abbrev nH:Stmt:=top 26
noncomputable abbrev lM:Stmt:=top 28
noncomputable abbrev aO2:Stmt:=top 6
noncomputable abbrev qF:Stmt:=top 7
noncomputable abbrev qG:Stmt:=top 8
noncomputable abbrev qH:Stmt:=top 10
noncomputable abbrev sC:Stmt:=top 9
noncomputable abbrev aO3:Stmt:=top 11
noncomputable abbrev yK:Stmt:=top 1
noncomputable abbrev sD:Stmt:=top 3
noncomputable abbrev lN:Stmt:=top 12
noncomputable abbrev bC9:Stmt:=top 13
noncomputable abbrev aO4:Stmt:=top 14
noncomputable abbrev qI:Stmt:=top 29
noncomputable abbrev lO:Stmt:=top 31
noncomputable abbrev qJ:Stmt:=top 30
noncomputable abbrev yL:Stmt:=top 32
noncomputable abbrev dO7:Stmt:=top 33
structure Adr where
 a0R:Addr
 a0v:FuncData
 a0B:Addr
 a0t:FuncData
 a2H:Addr
 a1C:FuncData
 a0S:Addr
 a0E:FuncData
 a0Y:Addr
 a0D:FuncData
 a2G:Addr
 a1J:FuncData
 a1K:Addr
 a0M:FuncData
 a3l:Addr
 a2z:FuncData
 a0P:Addr
 a0z:FuncData
 a2l:Addr
 a0V:FuncData
 a2T:Addr
 a1P:FuncData
 a1I:Addr
 a0O:FuncData
 a0Z:Addr
 a0F:FuncData
 a1p:Addr
 a2w:FuncData
 a0r:Addr
 a1j:FuncData
 a0p:Addr
 a1k:FuncData
 a0q:Addr
 a0T:FuncData
 neighbours:Addr
 a1y:FuncData
 a0Q:Addr
 a1O:FuncData
 a0x:Addr
 a1H:FuncData
 a0u:Addr
 a1z:FuncData
 a0n:Addr
 a0H:FuncData
 walked:Addr
 a2I:FuncData
 a1v:Addr
 a2y:FuncData
 a1F:Addr
 a0I:FuncData
 a1l:Addr
 a0G:FuncData
 a2n:Addr
 a0X:FuncData
 a2L:Addr
 a1G:FuncData
 law:Addr
 a3C:FuncData
structure Txt(K:W.Frag)(mg:Str->Option Value)(a:Adr):Prop where
 a0l:mg "_law_take"=some (.ref a.a0R)
 a0k:Fun K "_law_take" "_law_take" aC4 a.a0R a.a0v
 a0y:mg "_law_shuffled"=some (.ref a.a0B)
 a0s:Fun K "_law_shuffled" "_law_shuffled" nF a.a0B a.a0t
 a2x:mg "_law_some"=some (.ref a.a2H)
 a1B:Fun K "_law_some" "_law_some" aC5 a.a2H a.a1C
 a2R:mg "_law_round_sets"=some (.ref a.a0S)
 a1s:Fun K "_law_round_sets" "_law_round_sets" lK a.a0S a.a0E
 a2Q:mg "_law_plain_sets"=some (.ref a.a0Y)
 a1o:Fun K "_law_plain_sets" "_law_plain_sets" lL a.a0Y a.a0D
 a2U:mg "_law_names"=some (.ref a.a2G)
 a1W:Fun K "_law_names" "_law_names" yJ a.a2G a.a1J
 a2A:mg "_law_question"=some (.ref a.a1K)
 a0U:Fun K "_law_question" "_law_question" nG a.a1K a.a0M
 a2J:mg "_law_box"=some (.ref a.a3l)
 a1S:Fun K "_law_box" "_law_box" aO0 a.a3l a.a2z
 a0N:mg "_law_columns"=some (.ref a.a0P)
 a0w:Fun K "_law_columns" "_law_columns" qC a.a0P a.a0z
 a3i:mg "_law_holders"=some (.ref a.a2l)
 a1Y:Fun K "_law_holders" "_law_holders" qE a.a2l a.a0V
 a2Y:mg "_law_can"=some (.ref a.a2T)
 a2r:Fun K "_law_can" "_law_can" aO1 a.a2T a.a1P
 a2Z:mg "_law_cut_down"=some (.ref a.a1I)
 a1M:Fun K "_law_cut_down" "_law_cut_down" nH a.a1I a.a0O
 a2P:mg "_law_least_ring"=some (.ref a.a0Z)
 a1q:Fun K "_law_least_ring" "_law_least_ring" lM a.a0Z a.a0F
 a3x:mg "sets_in"=some (.ref a.a1p)
 a2V:Fun K "sets_in" "sets_in" aO2 a.a1p a.a2w
 a3p:mg "lies_within"=some (.ref a.a0r)
 a2m:Fun K "lies_within" "lies_within" qF a.a0r a.a1j
 a3m:mg "widest_sets"=some (.ref a.a0p)
 a1Z:Fun K "widest_sets" "widest_sets" qG a.a0p a.a1k
 a3o:mg "all_but_one"=some (.ref a.a0q)
 a1V:Fun K "all_but_one" "all_but_one" qH a.a0q a.a0T
 a3q:mg "neighbours"=some (.ref a.neighbours)
 a2v:Fun K "neighbours" "neighbours" sC a.neighbours a.a1y
 a2F:mg "is_ring"=some (.ref a.a0Q)
 a1R:Fun K "is_ring" "is_ring" aO3 a.a0Q a.a1O
 a3u:mg "all_parts"=some (.ref a.a0x)
 a2E:Fun K "all_parts" "all_parts" yK a.a0x a.a1H
 a3r:mg "columns_of"=some (.ref a.a0u)
 a2s:Fun K "columns_of" "columns_of" sD a.a0u a.a1z
 a2O:mg "stand_together"=some (.ref a.a0n)
 a1x:Fun K "stand_together" "stand_together" lN a.a0n a.a0H
 a3z:mg "walked"=some (.ref a.walked)
 a3j:Fun K "walked" "walked" bC9 a.walked a.a2I
 a3y:mg "ring_of"=some (.ref a.a1v)
 a2X:Fun K "ring_of" "ring_of" aO4 a.a1v a.a2y
 a2K:mg "_law_is_ring"=some (.ref a.a1F)
 a1A:Fun K "_law_is_ring" "_law_is_ring" qI a.a1F a.a0I
 a2q:mg "_law_told_right"=some (.ref a.a1l)
 a0J:Fun K "_law_told_right" "_law_told_right" lO a.a1l a.a0G
 a3n:mg "_law_changed"=some (.ref a.a2n)
 a1U:Fun K "_law_changed" "_law_changed" qJ a.a2n a.a0X
 a3t:mg "_law_truth"=some (.ref a.a2L)
 a2C:Fun K "_law_truth" "_law_truth" yL a.a2L a.a1G
 a3K:mg "law"=some (.ref a.law)
 a3L:Fun K "law" "law" dO7 a.law a.a3C
 a3A:mg "all"=none
 a3H:mg "any"=none
 a3E:mg "bool"=none
 a3G:mg "dict"=none
 a3s:mg "enumerate"=none
 a3F:mg "int"=none
 a2M:mg "isinstance"=none
 a1n:mg "len"=none
 a2N:mg "list"=none
 a3J:mg "max"=none
 a3D:mg "min"=none
 a0A:mg "range"=none
 a3I:mg "set"=none
 a1L:mg "sorted"=none
 a1E:mg "tuple"=none
 a3B:∃ t,mg "FEWEST"=some (.int 3 t)
def sZ:bootBuiltins "all"=some (.builtin "all"):=by decide +kernel
def bD0:bootBuiltins "any"=some (.builtin "any"):=by decide +kernel
def bT6:bootBuiltins "bool"=some (.type "bool"):=by decide +kernel
def bT7:bootBuiltins "dict"=some (.type "dict"):=by decide +kernel
def aA0:bootBuiltins "enumerate"=some (.type "enumerate"):=by decide +kernel
def bD1:bootBuiltins "int"=some (.type "int"):=by decide +kernel
def mK:bootBuiltins "isinstance"=some (.builtin "isinstance"):=by decide +kernel
def bR:bootBuiltins "len"=some (.builtin "len"):=by decide +kernel
def iE:bootBuiltins "list"=some (.type "list"):=by decide +kernel
def cE5:bootBuiltins "max"=some (.builtin "max"):=by decide +kernel
def aH5:bootBuiltins "min"=some (.builtin "min"):=by decide +kernel
def boot_range:bootBuiltins "range"=some (.type "range"):=by decide +kernel
def bD2:bootBuiltins "set"=some (.type "set"):=by decide +kernel
def eY:bootBuiltins "sorted"=some (.builtin "sorted"):=by decide +kernel
def eC:bootBuiltins "tuple"=some (.type "tuple"):=by decide +kernel
def yM:FnScope ["_law_box_here","_law_many","_law_digit","_law_one"] ["_law_box_here","_law_many"] (bA aC4):=⟨rfl,rfl,rfl,by decide +kernel,rfl,by decide +kernel,by decide +kernel⟩
def mL:FnScope ["_law_box_here","_law_things","_law_left","_law_found"] ["_law_box_here","_law_things"] (bA nF):=⟨rfl,rfl,rfl,by decide +kernel,rfl,by decide +kernel,by decide +kernel⟩
def yN:FnScope ["_law_box_here","_law_things"] ["_law_box_here","_law_things"] (bA aC5):=⟨rfl,rfl,rfl,by decide +kernel,rfl,by decide +kernel,by decide +kernel⟩
def kB:FnScope ["_law_box_here","_law_many","_law_found","_law_own","_law_k","_law_j"] ["_law_box_here"] (bA lK):=⟨rfl,rfl,rfl,by decide +kernel,rfl,by decide +kernel,by decide +kernel⟩
def kD:FnScope ["_law_box_here","_law_many","_law_count","_law_found","_law_used","_law_k","_law_own","_law_fresh","_law_column"] ["_law_box_here"] (bA lL):=⟨rfl,rfl,rfl,by decide +kernel,rfl,by decide +kernel,by decide +kernel⟩
def sE:FnScope ["_law_box_here","_law_many","_law_letters","_law_x","_law_y","_law_common","_law_at","_law_first","_law_longer","_law_found","_law_k","_law_word"] ["_law_box_here","_law_many"] (bA yJ):=⟨rfl,rfl,rfl,by decide +kernel,rfl,by decide +kernel,by decide +kernel⟩
def mM:FnScope ["_law_box_here","_law_way","_law_sets","_law_columns_here","_law_tables","_law_found","_law_k","_law_own","_law_at"] ["_law_box_here"] (bA nG):=⟨rfl,rfl,rfl,by decide +kernel,rfl,by decide +kernel,by decide +kernel⟩
def aC6:FnScope ["_law_script","_law_k","_law_cell","_law_seed"] ["_law_script","_law_k"] (bA aO0):=⟨rfl,rfl,rfl,by decide +kernel,rfl,by decide +kernel,by decide +kernel⟩
def nJ:FnScope ["_law_question_here","_law_found","_law_kt","_law_own","_law_column"] ["_law_question_here"] (bA qC):=⟨rfl,rfl,rfl,by decide +kernel,rfl,by decide +kernel,by decide +kernel⟩
def nK:FnScope ["_law_left","_law_kt","_law_own","_law_others","_law_wanted","_law_other","_law_columns_here","_law_column"] ["_law_left","_law_kt"] (bA qE):=⟨rfl,rfl,rfl,by decide +kernel,rfl,by decide +kernel,by decide +kernel⟩
def aC7:FnScope ["_law_question_here","_law_left","_law_some_here","_law_kt","_law_columns_here","_law_pair"] ["_law_question_here"] (bA aO1):=⟨rfl,rfl,rfl,by decide +kernel,rfl,by decide +kernel,by decide +kernel⟩
def mO:FnScope ["_law_question_here","_law_columns_here","_law_kt","_law_own","_law_column"] ["_law_question_here","_law_columns_here"] (bA nH):=⟨rfl,rfl,rfl,by decide +kernel,rfl,by decide +kernel,by decide +kernel⟩
def kH:FnScope ["_law_box_here","_law_question_here","_law_left","_law_column","_law_fewer","_law_found","_law_near","_law_kt","_law_own","_law_other"] ["_law_box_here","_law_question_here"] (bA lM):=⟨rfl,rfl,rfl,by decide +kernel,rfl,by decide +kernel,by decide +kernel⟩
def aC8:FnScope ["question","columns","found","name","own","one","column"] ["question","columns"] (bA aO2):=⟨rfl,rfl,rfl,by decide +kernel,rfl,by decide +kernel,by decide +kernel⟩
def nL:FnScope ["one","other","column"] ["one","other"] (bA qF):=⟨rfl,rfl,rfl,by decide +kernel,rfl,by decide +kernel,by decide +kernel⟩
def nM:FnScope ["question","columns","found","one","other"] ["question","columns"] (bA qG):=⟨rfl,rfl,rfl,by decide +kernel,rfl,by decide +kernel,by decide +kernel⟩
def nN:FnScope ["columns","at"] ["columns"] (bA qH):=⟨rfl,rfl,rfl,by decide +kernel,rfl,by decide +kernel,by decide +kernel⟩
def qK:FnScope ["columns","pairs","at"] ["columns"] (bA sC):=⟨rfl,rfl,rfl,by decide +kernel,rfl,by decide +kernel,by decide +kernel⟩
def aC9:FnScope ["question","columns","found"] ["question","columns"] (bA aO3):=⟨rfl,rfl,rfl,by decide +kernel,rfl,by decide +kernel,by decide +kernel⟩
def sF:FnScope ["names","parts","name","ahead"] ["names"] (bA yK):=⟨rfl,rfl,rfl,by decide +kernel,rfl,by decide +kernel,by decide +kernel⟩
def qL:FnScope ["question","found","name","columns","column"] ["question"] (bA sD):=⟨rfl,rfl,rfl,by decide +kernel,rfl,by decide +kernel,by decide +kernel⟩
def kI:FnScope ["question","one","other","name","columns"] ["question","one","other"] (bA lN):=⟨rfl,rfl,rfl,by decide +kernel,rfl,by decide +kernel,by decide +kernel⟩
def aO5:FnScope ["question","columns","way","step","ahead","column"] ["question","columns"] (bA bC9):=⟨rfl,rfl,rfl,by decide +kernel,rfl,by decide +kernel,by decide +kernel⟩
def aD0:FnScope ["question","columns","way"] ["question"] (bA aO4):=⟨rfl,rfl,rfl,by decide +kernel,rfl,by decide +kernel,by decide +kernel⟩
def nO:FnScope ["_law_question_here","_law_columns_here","_law_known","_law_many","_law_sets","_law_kt","_law_own","_law_great","_law_one","_law_lesser","_law_column","_law_k","_law_other","_law_j"] ["_law_question_here","_law_columns_here"] (bA qI):=⟨rfl,rfl,rfl,by decide +kernel,rfl,by decide +kernel,by decide +kernel⟩
def kJ:FnScope ["_law_question_here","_law_told"] ["_law_question_here"] (bA lO):=⟨rfl,rfl,rfl,by decide +kernel,rfl,by decide +kernel,by decide +kernel⟩
def nP:FnScope ["_law_box_here","_law_question_here","_law_columns_here","_law_some_here","_law_at","_law_other","_law_way"] ["_law_box_here","_law_question_here","_law_columns_here"] (bA qJ):=⟨rfl,rfl,rfl,by decide +kernel,rfl,by decide +kernel,by decide +kernel⟩
def sH:FnScope ["_law_found","_law_due"] ["_law_found","_law_due"] (bA yL):=⟨rfl,rfl,rfl,by decide +kernel,rfl,by decide +kernel,by decide +kernel⟩
def cO2:FnScope ["_law_script","_law_first","_law_second","_law_question_here","_law_good","_law_k","_law_some_here"] ["_law_script"] (bA dO7):=⟨rfl,rfl,rfl,by decide +kernel,rfl,by decide +kernel,by decide +kernel⟩
section
variable{P:Program}{w:World}{K:W.Frag}{mg:Str->Option Value}{base:Heap}{a:Adr}
def aZ(T:Txt K mg a):fK K a.a0v ["_law_box_here","_law_many"] []:=T.a0k.binds (ps:=["_law_box_here","_law_many"]) λ_ _ _ _ _ _ us b=>match us,b with | [_,_],_=>rfl
def eT(T:Txt K mg a):fK K a.a0t ["_law_box_here","_law_things"] []:=T.a0s.binds (ps:=["_law_box_here","_law_things"]) λ_ _ _ _ _ _ us b=>match us,b with | [_,_],_=>rfl
def mW(T:Txt K mg a):fK K a.a1C ["_law_box_here","_law_things"] []:=T.a1B.binds (ps:=["_law_box_here","_law_things"]) λ_ _ _ _ _ _ us b=>match us,b with | [_,_],_=>rfl
def sN(T:Txt K mg a):fK K a.a0E ["_law_box_here"] []:=T.a1s.binds (ps:=["_law_box_here"]) λ_ _ _ _ _ _ us b=>match us,b with | [_],_=>rfl
def sO(T:Txt K mg a):fK K a.a0D ["_law_box_here"] []:=T.a1o.binds (ps:=["_law_box_here"]) λ_ _ _ _ _ _ us b=>match us,b with | [_],_=>rfl
def yO(T:Txt K mg a):fK K a.a1J ["_law_box_here","_law_many"] []:=T.a1W.binds (ps:=["_law_box_here","_law_many"]) λ_ _ _ _ _ _ us b=>match us,b with | [_,_],_=>rfl
def nQ(T:Txt K mg a):fK K a.a0M ["_law_box_here"] []:=T.a0U.binds (ps:=["_law_box_here"]) λ_ _ _ _ _ _ us b=>match us,b with | [_],_=>rfl
def qM(T:Txt K mg a):fK K a.a2z ["_law_script","_law_k"] []:=T.a1S.binds (ps:=["_law_script","_law_k"]) λ_ _ _ _ _ _ us b=>match us,b with | [_,_],_=>rfl
def gM(T:Txt K mg a):fK K a.a0z ["_law_question_here"] []:=T.a0w.binds (ps:=["_law_question_here"]) λ_ _ _ _ _ _ us b=>match us,b with | [_],_=>rfl
def aH6(T:Txt K mg a):fK K a.a0V ["_law_left","_law_kt"] []:=T.a1Y.binds (ps:=["_law_left","_law_kt"]) λ_ _ _ _ _ _ us b=>match us,b with | [_,_],_=>rfl
def yP(T:Txt K mg a):fK K a.a1P ["_law_question_here"] []:=T.a2r.binds (ps:=["_law_question_here"]) λ_ _ _ _ _ _ us b=>match us,b with | [_],_=>rfl
def aA1(T:Txt K mg a):fK K a.a0O ["_law_question_here","_law_columns_here"] []:=T.a1M.binds (ps:=["_law_question_here","_law_columns_here"]) λ_ _ _ _ _ _ us b=>match us,b with | [_,_],_=>rfl
def sP(T:Txt K mg a):fK K a.a0F ["_law_box_here","_law_question_here"] []:=T.a1q.binds (ps:=["_law_box_here","_law_question_here"]) λ_ _ _ _ _ _ us b=>match us,b with | [_,_],_=>rfl
def bT8(T:Txt K mg a):fK K a.a2w ["question","columns"] []:=T.a2V.binds (ps:=["question","columns"]) λ_ _ _ _ _ _ us b=>match us,b with | [_,_],_=>rfl
def aH7(T:Txt K mg a):fK K a.a1j ["one","other"] []:=T.a2m.binds (ps:=["one","other"]) λ_ _ _ _ _ _ us b=>match us,b with | [_,_],_=>rfl
def aH8(T:Txt K mg a):fK K a.a1k ["question","columns"] []:=T.a1Z.binds (ps:=["question","columns"]) λ_ _ _ _ _ _ us b=>match us,b with | [_,_],_=>rfl
def aH9(T:Txt K mg a):fK K a.a0T ["columns"] []:=T.a1V.binds (ps:=["columns"]) λ_ _ _ _ _ _ us b=>match us,b with | [_],_=>rfl
def aO6(T:Txt K mg a):fK K a.a1y ["columns"] []:=T.a2v.binds (ps:=["columns"]) λ_ _ _ _ _ _ us b=>match us,b with | [_],_=>rfl
def qN(T:Txt K mg a):fK K a.a1O ["question","columns"] []:=T.a1R.binds (ps:=["question","columns"]) λ_ _ _ _ _ _ us b=>match us,b with | [_,_],_=>rfl
def aW6(T:Txt K mg a):fK K a.a1H ["names"] []:=T.a2E.binds (ps:=["names"]) λ_ _ _ _ _ _ us b=>match us,b with | [_],_=>rfl
def aO7(T:Txt K mg a):fK K a.a1z ["question"] []:=T.a2s.binds (ps:=["question"]) λ_ _ _ _ _ _ us b=>match us,b with | [_],_=>rfl
def sQ(T:Txt K mg a):fK K a.a0H ["question","one","other"] []:=T.a1x.binds (ps:=["question","one","other"]) λ_ _ _ _ _ _ us b=>match us,b with | [_,_,_],_=>rfl
def cE6(T:Txt K mg a):fK K a.a2I ["question","columns"] []:=T.a3j.binds (ps:=["question","columns"]) λ_ _ _ _ _ _ us b=>match us,b with | [_,_],_=>rfl
def bT9(T:Txt K mg a):fK K a.a2y ["question"] []:=T.a2X.binds (ps:=["question"]) λ_ _ _ _ _ _ us b=>match us,b with | [_],_=>rfl
def qO(T:Txt K mg a):fK K a.a0I ["_law_question_here","_law_columns_here"] []:=T.a1A.binds (ps:=["_law_question_here","_law_columns_here"]) λ_ _ _ _ _ _ us b=>match us,b with | [_,_],_=>rfl
def lP(T:Txt K mg a):fK K a.a0G ["_law_question_here"] []:=T.a0J.binds (ps:=["_law_question_here"]) λ_ _ _ _ _ _ us b=>match us,b with | [_],_=>rfl
def aI0(T:Txt K mg a):fK K a.a0X ["_law_box_here","_law_question_here","_law_columns_here"] []:=T.a1U.binds (ps:=["_law_box_here","_law_question_here","_law_columns_here"]) λ_ _ _ _ _ _ us b=>match us,b with | [_,_,_],_=>rfl
def aW7(T:Txt K mg a):fK K a.a1G ["_law_found","_law_due"] []:=T.a2C.binds (ps:=["_law_found","_law_due"]) λ_ _ _ _ _ _ us b=>match us,b with | [_,_],_=>rfl
end
end Mr
namespace Dv
open PySem L2 Mr
open Classical in
noncomputable def aW8:FN:=λa=>match a with
 | [.int n]=>if 0<=n/\n<=1000 then some (.own (.lst (sL 0 n.toNat)))else none
 | _=>none
def cE7{H:Hp}(n:Nat):Rps H (sL 0 n) ((List.range n).map λ(i:Nat)=>V.int (i:Int)):=by
 refine cO1 (by unfold sL;rw[a1a,a1a]) λj d x a b=>?_;unfold sL at a;rw[a3c]at a b;obtain⟨k,c,rfl⟩:=a4c.mp a;rw[c]at b;cases b;rw[Int.zero_add];exact .int _
def bD3:aU4 bB3 aW8:=by
 intro H d vs Q res vw e k;unfold aW8 at e;split at e
 ·rename_i n;split at e
  ·rename_i hn;cases e;cases vw with
   | cons a t=>
     cases t;rcases a with a | ⟨p,_,c⟩;cases a;exact⟨n,rfl,hn.1,hn.2,λr b=>k _ _ (bM b) ⟨r,rfl,b,_,aW,cE7 _⟩⟩;exact c.elim
  ·cases e
 ·cases e
theorem pF{n:Int}{K:Res->Prop}:OK1 (aW8 [.int n]) K=((0<=n/\n<=1000)/\K (.own (.lst (sL 0 n.toNat)))):=by
 show OK1 (if _ then _ else none) K=_;rw[bW];rfl
section
variable{Γ:Gm}{H H1:Hp}{σ σ1:Sg}{σV:St}{p:Addr}{o o':HO}
end
def aR{X:Cx}{E:Ex}{i:Nat}{x:Str}{e:Expr}{r:DE}{pos a:Pos}(b:X.N.Nodup)(hi:X.N[i]? = some x)(c:Loc X.env.scope x)(d:GE X e r)(f:swapsWith e (some (.Name x a)) pos.line X.env=pure false:=by rfl)(g:X.fn x=true\/X.env.scope.names.lookup x=some .local:=by first | exact .inl rfl | exact .inr rfl | assumption) :
  GS E X (.Assign [.Name x a] e pos) (cM i r):=dM1 λΓ=>aB1 b hi c (d.to Γ) f g
theorem yQ{z:Str}{i:Int}{K:Res->Prop}:OK1 (ixD (.str z) (.int i)) K=(z.length<=sizeLine/\OK1 (atI z.cps.toList i) λc=>K (.val (.str ⟨#[c]⟩))):=by
 show OK1 (if _ then _ else none) K=_;rw[bW,aN6]
theorem mP{z:Str}{K:Res->Prop}(h:z.length<=sizeLine):OK1 (mB [.str z]) K=K (.val (.int z.length)):=by
 show OK1 (if _ then _ else none) K=_;rw[bW];exact propext ⟨λh=>h.2,λk=>⟨h,k⟩⟩
noncomputable def fo(x:Option (Bool×D)):Option Sl:=x.map λp=>⟨if p.1=true then .own else .val,p.2⟩
theorem yS{x:Option (Bool×D)}{r:Sg}{s:Sl}{K:Sg->Prop}:PK 0 (fo x::r) s K=K (some s::r):=by
 cases x with
 | none=>rfl
 | some p=>
   obtain⟨b,d⟩:=p;cases b<;>rfl
@[irreducible] noncomputable def aW9(ow:List Nat)(g:DG)(t:DT)(e:DE)(items:List D)(a:Sg):=aU7 ow g t e items a
@[irreducible] noncomputable def cO3(g:DG)(b:DS)(items:List D)(σ:Sg):=bR7 g b items σ
@[irreducible] noncomputable def bD4(c:DT)(b:DS)(σ:Sg):=rY c b dD7 σ
section
variable{σ:Sg}{QS:Out->Prop}{Q:Res->Sg->Prop}{ri:DI}{g:DG}{b:DS}{a:DE}{ra:DA}
theorem pG:RS (qY ri g b) σ QS=RI ri σ λitems l a=>OK1 (cO3 g b items (lendO l a)) λo=>QS (aC0 l a o):=by
 unfold cO3;exact dO2
theorem jC{c:DT}:RS (tT c b) σ QS=OK1 (bD4 c b σ) QS:=by unfold bD4;rfl
theorem lE{ow:List Nat}{t:DT}{e:DE}:RE (cN ow ri g t e) σ Q=RI ri σ λitems l a=>items.length<=sizeLine/\OK1 (aW9 ow g t e items (dE ow (lendO l a))) λy=>Q (.own (.lst y.1)) (aB9 l a (nS ow (lendO l a) y.2)):=by
 unfold aW9;exact cX1
def hJ{items:List D}(P:Nat->Sg->Prop)(h0:P 0 σ)(e:∀ i d σ,items[i]? = some d->P i σ->OK1 (g d σ) λc=>RS b c λo=>∃ a,(o=.nx a\/o=.ct a)/\P (i+1) a){K:Out->Prop}(k:∀ σ',P items.length σ'->K (.nx σ')):OK1 (cO3 g b items σ) K:=by
 unfold cO3;exact cW9 P h0 e k
def cX7{items:List D}(P:Nat->Sg->Prop){K:Out->Prop}(h0:P 0 σ)(e:∀ i d σ,items[i]? = some d->P i σ->OK1 (g d σ) λc=>RS b c λo=>(∃ a,(o=.nx a\/o=.ct a)/\P (i+1) a)\/(∃ x a,o=.rt x a/\K (.rt x a))\/(∃ a,o=.bk a/\K (.nx a)))(k:∀ σ',P items.length σ'->K (.nx σ')):OK1 (cO3 g b items σ) K:=by
 unfold cO3;exact cX0 P h0 e k
def rF{c:DT}(P:Nat->Sg->Prop)(m:Nat)(hm:m < 1000000)(h0:P m σ)(e:∀ m σ,P m σ->RT c σ λt d=>if t=true then RS b d λo=>(∃ a m',(o=.nx a\/o=.ct a)/\m' < m/\P m' a)\/(∃ x a,o=.rt x a/\QS (.rt x a))\/(∃ a,o=.bk a/\QS (.nx a))else QS (.nx d)):OK1 (bD4 c b σ) QS:=by
 unfold bD4;exact bT1 P m hm h0 e
def kK{ow:List Nat}{t:DT}{e:DE}{K:List D×Sg->Prop}(items:List D)(a:Sg)(P:Nat->List D->Sg->Prop)(h0:P 0 [] a)
  (j:∀ i d acc a,items[i]? = some d->P i acc a->OK1 (g d a) λf=>RT t f λb c=>if b=true then RE e c λr h=>∃ v,r=.val v/\P (i+1) (acc++[v]) (dE ow h)else P (i+1) acc (dE ow c))
  (k:∀ acc a,P items.length acc a->K (acc,a)):OK1 (aW9 ow g t e items a) K:=by
 unfold aW9;exact xC items a P h0 j k
end
end Dv
namespace PySem
structure Fill(prog:Program)(w:World)(A:Around)(S I:Addr)(n:Nat)(P:Nat->Value->Prop)(J:Nat->Heap->Prop):Prop where
 put:∀ i v (s:Shared) (Q:Bool->Shared->Prop) (E:Value->Shared->Prop),i < n->P i v->J i s.heap ->
  (∀ b h' tk,J (i+1) h'->(∀ c o,c≠S->s.heap.get? c=some o->h'.get? c=some o)->Q b {s with heap:=h',toks:=tk})->wpAny (model prog w) A (setAdd S v) Q E s
 stay:∀ i h h',J i h->(∀ c o,c≠I->h.get? c=some o->h'.get? c=some o)->J i h'
section
variable{prog:Program}{w:World}{A:Around}{E:Value->Shared->Prop}{R:Result->Shared->Prop}{S I:Addr}{fp:List Addr}{n:Nat}{P:Nat->Value->Prop}{St J:Nat->Heap->Prop}
theorem aO8(W:Walks prog w A.in1 I fp [I] n P St)(F:Fill prog w A.in1 S I n P J)(l:S∉fp) :
  ∀ (k i:Nat) (s:Shared),i+k=n->St i s.heap->J i s.heap ->
    (∀ h' tk,J n h'->(∀ c o,c≠S->c≠I->s.heap.get? c=some o->h'.get? c=some o)->R (.ok (.ret .none)) {s with heap:=h',toks:=tk}) ->
    codeAny (model prog w) A (.builtin "set.update.loop" ⟨[.ref S,.ref I],[]⟩) R s
 | 0,i,s,m,st,j,q=>by
   have hi:i=n:=m;subst hi;refine a4k PyProof.Rows.F.entry_set_update_loop ?_;rw[a7g a8g _]
   (show wpAny _ A.in1 (pyNext (.ref I) >>= _) _ _ s;refine a3N (W.done s _ _ st λh' tk d=>?_))
   have p:∀ c o,c≠I->s.heap.get? c=some o->h'.get? c=some o:=λc o a e=>d c o (by simpa using a) e;exact a3S (q h' tk (F.stay _ _ _ j p) λc o _ a e=>p c o a e)
 | k+1,i,s,m,st,j,q=>by
   have hi:i < n:=by lia
   refine a4k PyProof.Rows.F.entry_set_update_loop ?_;rw[a7g a8g _]
   (show wpAny _ A.in1 (pyNext (.ref I) >>= _) _ _ s;refine a3N (W.item i s _ _ hi st λv u x y f g=>?_))
   have k1:∀ c o,c≠I->s.heap.get? c=some o->u.get? c=some o:=λc o a e=>g c o (by simpa using a) e
   (show wpAny _ A.in1 (holding [v] (setAdd S v) >>= _) _ _ _;refine a3N (a3V ?_))
   refine F.put i v _ _ _ hi y (F.stay _ _ _ j k1) λb B C D k2=>?_;refine a3S ⟨a4q a8g _,?_⟩;have h:St (i+1) B:=W.frame _ _ _ f λc a o e=>k2 c o (λz=>l (z ▸ a)) e;exact aO8 W F l k (i+1) _ (by lia) h D λh' tk E G=>q h' tk E λc o r t e=>G c o r t (k2 c o r (k1 c o t e))
def cX8{T b a:String}{args:List Value}{Q Q₁:Value->Shared->Prop}{s:Shared}(k:TypeCalled T b a)(l:checkTypeCall T ⟨args,[]⟩=pure ())
  (g:codeAny (model prog w) A.in1 (.call (.builtin b) ⟨.type T::args,[]⟩) (wants Q₁ E) s)
  (h:∀ obj d,Q₁ obj d->d.TypeIs obj T/\codeAny (model prog w) A.in1 (.call (.builtin a) ⟨obj::args,[]⟩) (wants (λr i=>r=.none/\Q obj i) E) d) :
  wpAny (model prog w) A (call (.type T) args) Q E s:=by
 obtain⟨n1,n2,⟨c,n,n3⟩,o,p,q,j⟩:=k;have t:=j.lookup;refine wpAny_call (codeAny_of_tree (a3S ⟨Code.quiet_builtin _ (by decide +kernel),a4k F.entry_type_call ?_⟩));rw[Around.under_plain (weight_type_call_type T args []) rfl]
 repeat (any_goals (first | assumption | wp_step))
 refine a4s g λr s1 f=>?_
 match r,f with
 | .error e,f=>exact f
 | .ok (.ret obj),f=>
   obtain⟨u,hi⟩:=h obj s1 f;have v:=j.bind obj
   repeat (any_goals (first | assumption | wp_step))
   refine a4s hi λr s2 f=>?_
   match r,f with
   | .error e,f=>exact f
   | .ok (.ret x),⟨m,y⟩=>
     subst m
     repeat (any_goals (first | assumption | wp_step))
end
open Sem (wp)
def aO9:typeLookup (.type "list") "keys"=pure none:=by rw[typeLookup_type,builtinLookup_eq_fast];kernel_rfl
def aP0:entryFor table "dict.update.loop"=some Builtin.«dict.update.loop»:=entryFor_of_tree (by kernel_rfl)
def mQ:plainId "dict.update.loop"=true:=by decide +kernel
section
variable{prog:Program}{w:World}{A:Around}{E:Value->Shared->Prop}
def bU0{s:Shared}{a:Addr}{o:Obj}{xs:Array Value}{k:Nat}{Q:Option Value->Shared->Prop}(l:s.heap.get? a=some o)(m:o.cls=.type "list")(f:o.data=.seq xs k)(hd:o.dict=none)(p:A.handled=none)
  (h:∀ h' tk,(∀ b o,s.heap.get? b=some o->h'.get? b=some o)->Q none {s with heap:=h',toks:=tk}):wpAny (model prog w) A (getAttr? (.ref a) "keys") Q E s:=by
 obtain⟨c,q,r,sl⟩:=o;simp only at m f hd;subst m f hd;obtain⟨t,g,d,tk,os⟩:=s;have n:∀ i,(⟨t,g,d,i,os⟩:Shared).TypeIs (.ref a) "list":=λ_=>⟨_,l,rfl⟩;have u:=sub_AttributeError;have v:=F.slot_list_getattribute.lookup;have x:=F.slot_list_getattribute.bind (.ref a);have y:=am_list_getattr_none;unfold getAttr? getAttrBy? getAttrBy
 repeat (any_goals (first | assumption | exact n _ | ((with_reducible show wpAny _ _ (call (Value.builtin "list.__getattribute__") _ _) _ _ _);refine a4n F.slot_list_getattribute (n _) am_entry_list_getattribute (F.args_list_getattribute_2 _ _) (meets_getattribute_miss_list a xs k sl "keys" _ aO9 (by decide) (by size_fits)) ⟨l,p,λh' i e j=>?_⟩) | wp_step))
 obtain⟨z,B,C⟩:=j.there;show wpAny _ _ (getattributeRaised _ _ _ _ _ _ _) _ _ _;unfold getattributeRaised hookOrError attributeErrorLeaves
 repeat (any_goals (first | assumption | wp_step))
 exact h _ _ j.keeps
def bI6{s:Shared}{a:Addr}{u x:Value}{Q:List Value->Shared->Prop}(f:s.heap.IsTuple a #[u,x])(h:Q [u,x] s):wpAny (model prog w) A (Builtin.Dict.pairItems (.ref a)) Q E s:=by
 obtain⟨⟨c,i,j,sl⟩,k,b,n,e⟩:=f;simp only at b e;subst b e;obtain⟨l,g,d,tk,os⟩:=s;have m:(⟨l,g,d,tk,os⟩:Shared).TypeIs (.ref a) "tuple":=⟨_,k,rfl⟩;unfold Builtin.Dict.pairItems
 repeat (any_goals (first | assumption | wp_step))
end
section
variable{prog:Program}{w:World}{A:Around}{E:Value->Shared->Prop}{R:Result->Shared->Prop}{d I:Addr}{fp:List Addr}{n:Nat}{P:Nat->Value->Prop}{St:Nat->Heap->Prop}{κ:Type}[DecidableEq κ]{knd:KeyKind prog w κ}
def bI7{K:Type}[DecidableEq K](l:List (K×Value))(k:K)(v:Value):(stored l k v).length<=l.length+1:=by
 unfold stored;split<;>simp
theorem dul(W:Walks prog w A.in1 I fp [I] n P St)(hd:d∉fp)(x:I≠d){h₀:Heap}(h0:∀ b o,h₀.get? b=some o->b≠d/\b≠I)(prs:List (κ×Value))(hn:prs.length=n)(hsz:n < 4000)
  (M:∀ i v p,P i v->prs[i]? = some p->∃ a u,v=.ref a/\h₀.IsTuple a #[u,p.2]/\knd.is p.1 u=true) :
  ∀ (k i:Nat) (c:Tok) (s:Shared) (kvs:List (κ×Value)),i+k=n->St i s.heap->s.heap.DictOf knd d kvs->kvs.length<=i->(∀ b o,h₀.get? b=some o->s.heap.get? b=some o) ->
    (∀ h' tk,h'.DictOf knd d ((prs.drop i).foldl (λl p=>stored l p.1 p.2) kvs)->(∀ b o,h₀.get? b=some o->h'.get? b=some o)->R (.ok (.ret .none)) {s with heap:=h',toks:=tk}) ->
    codeAny (model prog w) A (.builtin "dict.update.loop" ⟨[.ref d,.ref I,.int i c,.none],[]⟩) R s
 | 0,i,c,s,kvs,N,st,y,hl,B,q=>by
   have hi:i=n:=N;subst hi;refine a4k aP0 ?_;rw[a7g mQ _]
   (show wpAny _ A.in1 (pyNext (.ref I) >>= _) _ _ s;refine a3N (W.done s _ _ st λh' tk C=>?_))
   have O:∀ c o,c≠I->s.heap.get? c=some o->h'.get? c=some o:=λc o f e=>C c o (by simpa using f) e;rw[List.drop_of_length_le (by lia)]at q;have D:h'.DictOf knd d kvs:=let ⟨o,es,g,h,r⟩:=y;⟨o,es,g,O d o (a3e x) h,r⟩
   exact a3N (a3S (a3S (q h' tk D λb o e=>O b o (h0 b o e).2 (B b o e))))
 | k+1,i,c,s,kvs,N,st,y,hl,B,q=>by
   have hi:i < n:=by lia
   refine a4k aP0 ?_;rw[a7g mQ _]
   (show wpAny _ A.in1 (pyNext (.ref I) >>= _) _ _ s;refine a3N (W.item i s _ _ hi st λv j E Q F G=>?_))
   have k2:∀ c o,c≠I->s.heap.get? c=some o->j.get? c=some o:=λc o f e=>G c o (by simpa using f) e;have g:prs[i]? = some prs[i]:=a0a (by lia);obtain⟨a,u,rfl,S,T⟩:=M i v _ Q g;have m:∀ b o,h₀.get? b=some o->j.get? b=some o:=λb o e=>k2 b o (h0 b o e).2 (B b o e);have H:j.IsTuple a #[u,prs[i].2]:=let ⟨o,h,r⟩:=S;⟨o,m a o h,r⟩
   have J:j.DictOf knd d kvs:=let ⟨o,es,g,h,r⟩:=y;⟨o,es,g,k2 d o (a3e x) h,r⟩
   refine a3N (a3V (a3N (wpAny_tryCatch (bI6 (s:={s with heap:=j,toks:=E}) H ?_))));dsimp only;refine a3V (wpAny_dictSet_pairs (hsz:=by unfold sizeLine;lia) T J λU K t=>?_);refine a3S ⟨a4q mQ _,?_⟩;have L:St (i+1) U:=W.frame _ _ _ F λc f o e=>(t.2 c λz=>hd (z ▸ f)).trans e;have V:prs.drop i=prs[i]::prs.drop (i+1):=List.drop_eq_getElem_cons (by lia);refine dul W hd x h0 prs hn hsz M k (i+1) 0 _ _ (by lia) L K (a6c (bI7 ..) (by lia)) (λb o e=>(t.2 b (h0 b o e).1).trans (m b o e)) λh' tk X Y=>?_;refine q h' tk ?_ Y;rw[V];exact X
end
end PySem
namespace PySem
noncomputable abbrev bI8(es:Array (Int×Value))(a:Nat)(t:SetTable):Obj:={cls:=.type "set",dict:=none,data:=.set es a t}
noncomputable def rG(w:World):Bool:=!w.params.followText "set-order"
section
variable{prog:Program}{w:World}{A:Around}{E:Value->Shared->Prop}{s:Shared}
def cX9(a:Value){Q:Value->Shared->Prop}(h:Q (.ref s.heap.objs.size) {s with heap:=s.heap.push (bI8 #[] 0 (.fresh 0 0 (rG w)))}) :
  codeAny (model prog w) A (.call (.builtin "set.__new__") ⟨[.type "set",a],[]⟩) (wants Q E) s:=by
 refine codeAny_call_builtin F.plain_set_new F.entry_set_new (wpAny_of_eq (F.newCall_set_1 a) ?_);have b:=sub_set_self;unfold Builtin.«set.__new__» Builtin.Frozenset.newClass;obtain⟨c,g,d,tk,os⟩:=s
 wp_walk
 refine wpAny_askSetting (a3S ?_);simp only[newObj];exact a3N (wpAny_alloc (a3S (a3S h)))
end
section
variable{prog:Program}{w:World}{A:Around}{E:Value->Shared->Prop}{n:Nat}{P:Nat->Value->Prop}{St J:Nat->Heap->Prop}
structure Src(prog:Program)(w:World)(A:Around)(h₀:Heap)(l:Addr)(n:Nat)(P:Nat->Value->Prop) where
 T:String
 St:Addr->Nat->Heap->Prop
 ob:Obj
 ty:∃ o,h₀.get? l=some o/\o.cls=.type T
 n1:isSubtype (.type T) (.type "set")=pure false
 n2:isSubtype (.type T) (.type "frozenset")=pure false
 n3:(Value.type T==Value.type "dict")=false
 iter:∀ (A:Around) (s:Shared) (Q:Value->Shared->Prop) (E:Value->Shared->Prop),(∀ b o,h₀.get? b=some o->s.heap.get? b=some o)->Q (.ref s.heap.objs.size) {s with heap:=s.heap.push ob}->wpAny (model prog w) A (pyIter (.ref l)) Q E s
 free:ob.isFreed=false
 walk:∀ (A':Around),A'.handled=A.handled->∀ I,l≠I->Walks prog w A' I [I,l] [I] n P (St I)
 kU:∀ h:Heap,(∀ b o,h₀.get? b=some o->h.get? b=some o)->St h.objs.size 0 (h.push ob)
def cE8{s:Shared}{l:Addr}{Q:Value->Shared->Prop}(c:Src prog w A s.heap l n P)
  (L:∀ A':Around,A'.handled=A.handled->A'.units<=A.units+8->Fill prog w A' s.heap.objs.size (s.heap.objs.size+1) n P J)
  (B:∀ (h':Heap),h'.get? s.heap.objs.size=some (bI8 #[] 0 (.fresh 0 0 (rG w)))->(∀ b o,s.heap.get? b=some o->h'.get? b=some o)->J 0 h')
  (q:∀ h' tk,J n h'->(∀ b o,s.heap.get? b=some o->h'.get? b=some o)->Q (.ref s.heap.objs.size) {s with heap:=h',toks:=tk}) :
  wpAny (model prog w) A (call (.type "set") [.ref l]) Q E s:=by
 obtain⟨T,St,ob,⟨⟨t,k,m,j⟩,f,g⟩,n1,n2,n3,iter,free,walk,kU⟩:=c;simp only at g;subst g;have h:l < s.heap.objs.size:=a6b f;refine cX8 (Q₁:=λobj s₁=>obj=.ref s.heap.objs.size/\s₁={s with heap:=s.heap.push (bI8 #[] 0 (.fresh 0 0 (rG w)))}) F.called_set (F.typeCall_set_1 _) (cX9 _ ⟨rfl,rfl⟩) λobj s₁ Z0=>?_;obtain⟨C,D⟩:=Z0;subst C D;have u:(s.heap.push (bI8 #[] 0 (.fresh 0 0 (rG w)))).get? s.heap.objs.size=some (bI8 #[] 0 (.fresh 0 0 (rG w))):=a8b _ rfl;have a:∀ b o,s.heap.get? b=some o->(s.heap.push (bI8 #[] 0 (.fresh 0 0 (rG w)))).get? b=some o:=λb o e=>a5a _ e;have v:Shared.TypeIs {s with heap:=s.heap.push (bI8 #[] 0 (.fresh 0 0 (rG w)))} (.ref s.heap.objs.size) "set":=⟨_,u,rfl⟩;have G:Shared.TypeIs {s with heap:=s.heap.push (bI8 #[] 0 (.fresh 0 0 (rG w)))} (.ref l) T:=⟨_,a l _ f,rfl⟩;refine⟨v,codeAny_call_builtin F.called_set.init.plain F.entry_set_init (check_set_init_1 v ?_)⟩;have H:=a l _ f;unfold Builtin.«set.__init__» noKeywords Builtin.Frozenset.updateFrom;generalize p:pyIter=PI
 wp_walk
 subst p;refine iter _ _ _ _ a ?_;refine a3N (wpAny_runValue ?_);have x:(s.heap.push (bI8 #[] 0 (.fresh 0 0 (rG w)))).objs.size=s.heap.objs.size+1:=a5h ..;have ne:l≠s.heap.objs.size+1:=λz=>absurd h (by rw[z];exact Nat.not_lt.mpr (Nat.le_succ _));have i:=kU _ a;rw[x]at i;have r:((s.heap.push (bI8 #[] 0 (.fresh 0 0 (rG w)))).push ob).get? s.heap.objs.size=some (bI8 #[] 0 (.fresh 0 0 (rG w))):=a5a _ u;have d:∀ b o,s.heap.get? b=some o->((s.heap.push (bI8 #[] 0 (.fresh 0 0 (rG w)))).push ob).get? b=some o:=λb o e=>a5a _ (a b o e);show codeAny (model prog w) A.in1.in1 (.builtin "set.update.loop" ⟨[.ref s.heap.objs.size,.ref (s.heap.push (bI8 #[] 0 (.fresh 0 0 (rG w)))).objs.size],[]⟩) _ _;rw[x];refine aO8 (walk A.in1.in1.in1 rfl (s.heap.objs.size+1) ne) (L A.in1.in1.in1 rfl (by show A.units+1+1+1<=A.units+8;lia)) ?_ n 0 _ (a9f n) i (B _ r d) λh' tk I K=>?_;simp only[List.mem_cons,List.not_mem_nil,or_false,not_or];exact⟨a1d (Nat.lt_succ_self _),a7h h⟩;refine a3S (a3S ⟨rfl,q h' tk I λb o e=>?_⟩);have y:=a6b e;exact K b o (a1d y) (a1d (Nat.lt_succ_of_lt y)) (d b o e)
noncomputable def Src.list{s:Shared}(d:A.handled=none){l:Addr}{items:Array Value}(a:s.heap.IsList l items):Src prog w A s.heap l items.size (λi v=>items[i]? = some v) where
 T:="list"
 St:=λI i h=>h.IsListIter I l i/\h.IsList l items
 ob:={cls:=.type "list_iterator",data:=.fields #[.ref l,.int 0 0]}
 ty:=by obtain⟨o,f,g,_⟩:=a;exact⟨o,f,g⟩
 n1:=F.sub_list_set
 n2:=F.sub_list_frozenset
 n3:=by decide
 iter:=λA' s' Q E b j=>wpAny_pyIter_list (a.at λo e=>b l o e) j
 free:=rfl
 walk:=λA' ha I c=>Walks.list (ha.trans d) I l c items
 kU:=λh b=>⟨⟨_,a8b _ rfl,rfl,rfl⟩,(a.at λo e=>b l o e).push _⟩
def aX0:isSubtype (.type "tuple") (.type "set")=pure false:=by rw[isSubtype_type];kernel_rfl
def aA2:isSubtype (.type "tuple") (.type "frozenset")=pure false:=by rw[isSubtype_type];kernel_rfl
noncomputable def Src.tup{s:Shared}(d:A.handled=none){l:Addr}{items:Array Value}(a:s.heap.IsTuple l items):Src prog w A s.heap l items.size (λi v=>items[i]? = some v) where
 T:="tuple"
 St:=λI i h=>h.IsTupleIter I l i/\h.IsTuple l items
 ob:={cls:=.type "tuple_iterator",data:=.fields #[.ref l,.int 0 0]}
 ty:=by obtain⟨o,f,g,_⟩:=a;exact⟨o,f,g⟩
 n1:=aX0
 n2:=aA2
 n3:=by decide
 iter:=λA' s' Q E b j=>a4o (a.at λo e=>b l o e) j
 free:=rfl
 walk:=λA' ha I c=>Walks.tuple (ha.trans d) I l c items
 kU:=λh b=>⟨⟨_,a8b _ rfl,rfl,rfl⟩,(a.at λo e=>a5a _ (b l o e))⟩
end
open Sem (wp)
section
variable{prog:Program}{w:World}{A:Around}{E:Value->Shared->Prop}{κ:Type}[DecidableEq κ]{knd:KeyKind prog w κ}
def bI9{s:Shared}{l:Addr}{o:Obj}{c:List Value}{m:Nat}{prs:List (κ×Value)}{Q:Value->Shared->Prop}(H:A.handled=none)(x:s.heap.get? l=some o)(y:o.cls=.type "list")(g:o.data=.seq c.toArray m)(z:o.dict=none)
  (hn:prs.length=c.length) (hsz:prs.length < 4000) (J:∀ (i:Nat) v p,c[i]? = some v->prs[i]? = some p->∃ a u,v=.ref a/\s.heap.IsTuple a #[u,p.2]/\knd.is p.1 u=true)
  (q:∀ h' tk,h'.DictOf knd s.heap.objs.size (prs.foldl (λl p=>stored l p.1 p.2) [])->(∀ b o,s.heap.get? b=some o->h'.get? b=some o)->Q (.ref s.heap.objs.size) {s with heap:=h',toks:=tk}) :
  wpAny (model prog w) A (call (.type "dict") [.ref l]) Q E s:=by
 refine callType_codes (Q₁:=λobj s₁=>obj=.ref s.heap.objs.size/\s₁={s with heap:=s.heap.push {cls:=.type "dict",data:=.dict #[]}}) F.kt_called_dict (F.kt_typeCall_dict_1 _) F.entry_dict_init (kt_code_dict_new _ ⟨rfl,rfl⟩) ?_;rintro obj s₁ ⟨rfl,rfl⟩;have d:(s.heap.push {cls:=.type "dict",data:=.dict #[]}).DictOf knd s.heap.objs.size []:=Heap.DictOf.new s.heap;have f:∀ b o,s.heap.get? b=some o->(s.heap.push {cls:=.type "dict",data:=.dict #[]}).get? b=some o:=λb o e=>a5a _ e;have h:l < s.heap.objs.size:=a6b x;refine⟨d.typeIs,F.args_dict_init_2 _ _,?_⟩;have B:Shared.TypeIs {s with heap:=s.heap.push {cls:=.type "dict",data:=.dict #[]}} (.ref l) "list":=⟨_,f l _ x,y⟩;unfold Builtin.«dict.__init__» Builtin.Dict.selfAndRest;refine a3N (a3N (wpAny_notOrdered_dict d.typeIs (a3S ?_)));show wpAny _ _ (Builtin.Dict.updateFrom "dict.__init__" s.heap.objs.size (.ref l) [] .none) _ _ _;unfold Builtin.Dict.updateFrom;refine a3N (a4u B ?_);rw[a3O (by decide)];refine a3N (bU0 (f l _ x) y g z ?_ λj C k1=>?_);exact H
 rw[a3O (by rfl)];refine a3N (a4y ?_);have k:j.IsList l c.toArray:=⟨o,k1 l o (f l o x),y,m,g⟩;refine a3N (wpAny_pyIter_list (s:=⟨j,s.gens,s.drawn,C,s.os⟩) k ?_);refine a3S ⟨a4q mQ _,?_⟩;have t:j.DictOf knd s.heap.objs.size []:=let ⟨o,es,I,D,r⟩:=d;⟨o,es,I,k1 _ o D,r⟩
 have big:s.heap.objs.size < j.objs.size:=let ⟨o,es,I,D,r⟩:=t;a6b D
 have G:A.in1.in1.handled=none:=H;refine dul (h₀:=s.heap) (n:=c.toArray.size) (Walks.list G j.objs.size l (a1d (a0h h big)) c.toArray) ?_ (a7h big) (λb o e=>⟨a1d (a6b e),a1d (a0h (a6b e) big)⟩) prs (by simpa using hn) (by rw[List.size_toArray];lia) (λi v p K L=>J i v p (by simpa using K) L)
  c.toArray.size 0 0 _ [] (a9f _) ⟨⟨_,a8b _ rfl,rfl,rfl⟩,k.push _⟩ (t.push _) (a7a _) (λb o e=>a5a _ (k1 b o (f b o e))) λh' tk M N=>⟨rfl,q h' tk M N⟩
 simp only[List.mem_cons,List.not_mem_nil,or_false,not_or];exact⟨a1d big,a7h h⟩
end
def aI1:typeLookup (.type "tuple") "keys"=pure none:=by rw[typeLookup_type,builtinLookup_eq_fast];kernel_rfl
section
variable{prog:Program}{w:World}{A:Around}{E:Value->Shared->Prop}
def bJ0{s:Shared}{a:Addr}{o:Obj}{xs:Array Value}{k:Nat}{Q:Option Value->Shared->Prop}(l:s.heap.get? a=some o)(m:o.cls=.type "tuple")(f:o.data=.seq xs k)(hd:o.dict=none)(p:A.handled=none)
  (h:∀ h' tk,(∀ b o,s.heap.get? b=some o->h'.get? b=some o)->Q none {s with heap:=h',toks:=tk}):wpAny (model prog w) A (getAttr? (.ref a) "keys") Q E s:=by
 obtain⟨c,q,r,sl⟩:=o;simp only at m f hd;subst m f hd;obtain⟨t,g,d,tk,os⟩:=s;have n:∀ i,(⟨t,g,d,i,os⟩:Shared).TypeIs (.ref a) "tuple":=λ_=>⟨_,l,rfl⟩;have u:=sub_AttributeError;have v:=F.slot_tuple_getattribute.lookup;have x:=F.slot_tuple_getattribute.bind (.ref a);have y:=am_tuple_getattr_none;unfold getAttr? getAttrBy? getAttrBy
 repeat (any_goals (first | assumption | exact n _ | ((with_reducible show wpAny _ _ (call (Value.builtin "tuple.__getattribute__") _ _) _ _ _);refine a4n F.slot_tuple_getattribute (n _) am_entry_tuple_getattribute (F.args_tuple_getattribute_2 _ _) (meets_getattribute_miss_tuple a xs k sl "keys" _ aI1 (by decide) (by size_fits)) ⟨l,p,λh' i e j=>?_⟩) | wp_step))
 obtain⟨z,B,C⟩:=j.there;show wpAny _ _ (getattributeRaised _ _ _ _ _ _ _) _ _ _;unfold getattributeRaised hookOrError attributeErrorLeaves
 repeat (any_goals (first | assumption | wp_step))
 exact h _ _ j.keeps
end
section
variable{prog:Program}{w:World}{A:Around}{E:Value->Shared->Prop}{κ:Type}[DecidableEq κ]{knd:KeyKind prog w κ}
def aX1{s:Shared}{l:Addr}{o:Obj}{c:List Value}{m:Nat}{prs:List (κ×Value)}{Q:Value->Shared->Prop}(H:A.handled=none)(x:s.heap.get? l=some o)(y:o.cls=.type "tuple")(g:o.data=.seq c.toArray m)(z:o.dict=none)
  (hn:prs.length=c.length) (hsz:prs.length < 4000) (J:∀ (i:Nat) v p,c[i]? = some v->prs[i]? = some p->∃ a u,v=.ref a/\s.heap.IsTuple a #[u,p.2]/\knd.is p.1 u=true)
  (q:∀ h' tk,h'.DictOf knd s.heap.objs.size (prs.foldl (λl p=>stored l p.1 p.2) [])->(∀ b o,s.heap.get? b=some o->h'.get? b=some o)->Q (.ref s.heap.objs.size) {s with heap:=h',toks:=tk}) :
  wpAny (model prog w) A (call (.type "dict") [.ref l]) Q E s:=by
 refine callType_codes (Q₁:=λobj s₁=>obj=.ref s.heap.objs.size/\s₁={s with heap:=s.heap.push {cls:=.type "dict",data:=.dict #[]}}) F.kt_called_dict (F.kt_typeCall_dict_1 _) F.entry_dict_init (kt_code_dict_new _ ⟨rfl,rfl⟩) ?_;rintro obj s₁ ⟨rfl,rfl⟩;have d:(s.heap.push {cls:=.type "dict",data:=.dict #[]}).DictOf knd s.heap.objs.size []:=Heap.DictOf.new s.heap;have f:∀ b o,s.heap.get? b=some o->(s.heap.push {cls:=.type "dict",data:=.dict #[]}).get? b=some o:=λb o e=>a5a _ e;have h:l < s.heap.objs.size:=a6b x;refine⟨d.typeIs,F.args_dict_init_2 _ _,?_⟩;have B:Shared.TypeIs {s with heap:=s.heap.push {cls:=.type "dict",data:=.dict #[]}} (.ref l) "tuple":=⟨_,f l _ x,y⟩;unfold Builtin.«dict.__init__» Builtin.Dict.selfAndRest;refine a3N (a3N (wpAny_notOrdered_dict d.typeIs (a3S ?_)));show wpAny _ _ (Builtin.Dict.updateFrom "dict.__init__" s.heap.objs.size (.ref l) [] .none) _ _ _;unfold Builtin.Dict.updateFrom;refine a3N (a4u B ?_);rw[a3O (by decide)];refine a3N (bJ0 (f l _ x) y g z ?_ λj C k1=>?_);exact H
 rw[a3O (by rfl)];refine a3N (a4y ?_);have k:j.IsTuple l c.toArray:=⟨o,k1 l o (f l o x),y,m,g⟩;refine a3N (a4o (s:=⟨j,s.gens,s.drawn,C,s.os⟩) k ?_);refine a3S ⟨a4q mQ _,?_⟩;have t:j.DictOf knd s.heap.objs.size []:=let ⟨o,es,I,D,r⟩:=d;⟨o,es,I,k1 _ o D,r⟩
 have big:s.heap.objs.size < j.objs.size:=let ⟨o,es,I,D,r⟩:=t;a6b D
 have G:A.in1.in1.handled=none:=H;refine dul (h₀:=s.heap) (n:=c.toArray.size) (Walks.tuple G j.objs.size l (a1d (a0h h big)) c.toArray) ?_ (a7h big) (λb o e=>⟨a1d (a6b e),a1d (a0h (a6b e) big)⟩) prs (by simpa using hn) (by rw[List.size_toArray];lia) (λi v p K L=>J i v p (by simpa using K) L)
  c.toArray.size 0 0 _ [] (a9f _) ⟨⟨_,a8b _ rfl,rfl,rfl⟩,k.push _⟩ (t.push _) (a7a _) (λb o e=>a5a _ (k1 b o (f b o e))) λh' tk M N=>⟨rfl,q h' tk M N⟩
 simp only[List.mem_cons,List.not_mem_nil,or_false,not_or];exact⟨a1d big,a7h h⟩
end
end PySem
namespace L2
open PySem PySem.Spec PyProof.Rows
inductive PrsAt(H:Hp):List V->List (Key×V)->Prop
 | nil:PrsAt H [] []
 | cons {a:Addr} {k:Key} {v:V} {xs:List V} {prs:List (Key×V)}:H a=some (.tup [kV k,v])->PrsAt H xs prs->PrsAt H (.ref a::xs) ((k,v)::prs)
theorem PrsAt.raw{X:Cx}{pins:List (Addr×Obj)}{σ:St}{H:Hp}{s:Shared}(I:Inv X pins σ H s):∀ {xs:List V} {prs:List (Key×V)} {b:List Value},PrsAt H xs prs->dD xs b->∃ rs:List (Key×Value),KV prs rs/\rs.length=b.length /\
  ∀ (i:Nat) v p,b[i]? = some v->rs[i]? = some p->∃ a u,v=.ref a/\s.heap.IsTuple a #[u,p.2]/\(gG X.prog X.w).is p.1 u=true
 | _,_,_,.nil,.nil=>⟨[],.nil,rfl,λi v p h=>by simp at h⟩
 | _,_,_,.cons (a:=a) (k:=k) e t,.cons f g=>by
   obtain⟨rs,j,l,m⟩:=PrsAt.raw I t g;cases f;obtain⟨_,us,r,q,_⟩:=(show fE X.prog X.w H s.heap a _ from I.hok a _ e);cases r with
   | cons n c=>cases c with
     | cons c rc=>
       cases rc;refine⟨(k,_)::rs,.cons ⟨rfl,c⟩ j,by simp[l],λi v p hi d=>?_⟩;cases i with
       | zero=>
         simp at hi d;subst hi d;exact⟨a,_,rfl,q,cU6 n⟩
       | succ i=>exact m i v p (by simpa using hi) (by simpa using d)
def cO4:List V->Hp->VK->Prop:=λvs H Q=>∃ p xs prs,vs=[.ref p]/\(hR H p=some (true,xs)\/H p=some (.tup xs))/\PrsAt H xs prs/\prs.length < 4000/\∀ d,H d=none->Q (.ref d) (upd H d (.dK (pS [] prs)))
def bJ1{X:Cx}(t:X.calm=true):iW X (.type "dict") cO4:=by
 intro pins s σ H xs us Q I r h;obtain⟨p,ys,prs,rfl,a,v,C,q⟩:=h;obtain⟨u,rfl,y⟩:=zX r;cases y;rcases a with a | a
 ·obtain⟨c,d,⟨o,n,b,e,f,g⟩,z⟩:=I.list (fN a);obtain⟨rs,k1,k2,i⟩:=PrsAt.raw I v d;have A:prs.length=rs.length:=Paired.length k1;refine bI9 (knd:=gG X.prog X.w) (prs:=rs) (I.ok.hd t) b e g f k2 (by lia) i λh' tk j k=>?_;have hm:(pS [] prs).length<=sizeLine:=by
   have l:=kY prs [];rw[a5g]at l;rw[a4x];lia
  refine⟨.ref s.heap.objs.size,_,I.laid (t':=tk) k (a7a _) (cN4 hm ?_ (k1.merge .nil) j),rfl,q _ (I.hok.fresh (a7a _))⟩;have:=I.big;exact beq_eq_false_iff_ne.mpr (a7h this)
 ·obtain⟨z,c,d,⟨o,b,e,n,f⟩,m⟩:=(show fE X.prog X.w H s.heap p _ from I.hok p _ a);have g:o.dict=none:=by obtain⟨o',x,B⟩:=m;rw[b]at x;cases x;exact B
  obtain⟨rs,k1,k2,i⟩:=PrsAt.raw I v d;have A:prs.length=rs.length:=Paired.length k1;refine aX1 (knd:=gG X.prog X.w) (prs:=rs) (I.ok.hd t) b e f g k2 (by lia) i λh' tk j k=>?_;have hm:(pS [] prs).length<=sizeLine:=by
   have l:=kY prs [];rw[a5g]at l;rw[a4x];lia
  refine⟨.ref s.heap.objs.size,_,I.laid (t':=tk) k (a7a _) (cN4 hm ?_ (k1.merge .nil) j),rfl,q _ (I.hok.fresh (a7a _))⟩;have:=I.big;exact beq_eq_false_iff_ne.mpr (a7h this)
def dO8:R2:=λx y H Q=>∃ a v,x=.ref a/\dV0 H a y (some v)/\Q v H
def cE9{X:Cx}{o i:Expr}{pos:Pos}{a ty:TE}(b:X.A.units+1 < cLine)(c:PE X o a)(hi:PE X i ty)(d:dV1 i):PE X (.Subscript o i pos) (tOp dO8 a ty):=cU8 b c hi d
def cF0{κ:Type}[DecidableEq κ]{l:List (κ×V)}{k:κ}{v:V}(h:k∉l.map Prod.fst):bQ6 l k v=l++[(k,v)]:=by
 unfold bQ6;rw[a3P];simp only[List.any_eq_true,decide_eq_true_eq,not_exists,not_and];exact λp a e=>h (by rw[← e];exact List.mem_map_of_mem a)
theorem rH:∀ (prs acc:List (Key×V)),((acc++prs).map Prod.fst).Nodup->pS acc prs=acc++prs
 | [],acc,_=>by simp[pS]
 | p::prs,acc,h=>by
   show pS (bQ6 acc p.1 p.2) prs=_;have h':((acc.map Prod.fst)++p.1::prs.map Prod.fst).Nodup:=by simpa using h
   rw[cF0 λz=>(List.nodup_append.mp h').2.2 _ z p.1 (by simp) rfl,rH prs (acc++[(p.1,p.2)]) (by simpa using h)];simp
end L2
namespace Dv
open PySem L2 Mr
noncomputable def cF1:List D->Option (List (Str×D))
 | []=>some []
 | .tup [.str z,v]::r=>(cF1 r).map λl=>(z,v)::l
 | _=>none
noncomputable def bU1:FN:=λa=>match a with
 | [.lst l]=>(cF1 l).bind λprs=>if prs.length < 4000/\(prs.map Prod.fst).Nodup then some (.own (.dic (prs.map λp=>.str p.1) (prs.map Prod.snd)))else none
 | [.tup l]=>(cF1 l).bind λprs=>if prs.length < 4000/\(prs.map Prod.fst).Nodup then some (.own (.dic (prs.map λp=>.str p.1) (prs.map Prod.snd)))else none
 | _=>none
theorem aX2{H:Hp}:∀ {l:List D} {xs:List V} {prs:List (Str×D)},cF1 l=some prs->Rps H l xs->∃ ps:List (Key×V),PrsAt H xs ps/\ps.length=prs.length/\ps.map Prod.fst=prs.map (λp=>.inr p.1)/\Rps H (prs.map Prod.snd) (ps.map Prod.snd)
 | [],_,_,e,.nil=>by cases e;exact⟨[],.nil,rfl,rfl,.nil⟩
 | d::l,_,_,e,.cons a t=>by
   unfold cF1 at e;split at e;rename_i b;cases b
   ·rename_i z v r b;cases b;obtain⟨prs,f,g⟩:=a4c.mp e;subst g;obtain⟨ps,h,i,j,k⟩:=aX2 f t;obtain⟨p,xs,rfl,m,n⟩:=gU (.inl a);cases n with
    | cons ga c=>cases c with
      | cons c o=>
        cases o;cases ga;exact⟨(.inr z,_)::ps,.cons m h,by simp[i],by simp[j],.cons c k⟩
   ·cases e
def cF2:aU4 cO4 bU1:=by
 intro H r vs Q res vw e k;unfold bU1 at e;split at e
 ·rename_i l;obtain⟨prs,f,e⟩:=aE e;split at e
  ·rename_i g;cases e;obtain⟨x,rfl,a⟩:=aV3 vw;obtain⟨p,xs,rfl,h,i⟩:=iN a;obtain⟨ps,j,q,c,m⟩:=aX2 f i;refine⟨p,xs,ps,rfl,.inl h,j,by lia,λd hd=>k _ _ (bM hd) ⟨d,rfl,hd,?_⟩⟩;have nd:(ps.map Prod.fst).Nodup:=by
    rw[c,show prs.map (λp=>(Sum.inr p.1:Key))=(prs.map Prod.fst).map Sum.inr by simp];exact List.Pairwise.map _ (λa b n z=>n (by injection z)) g.2
   rw[rH ps [] (by simpa using nd),List.nil_append];refine⟨_,ps.map Prod.snd,aW,⟨?_,rfl⟩,m.mono (.same (bM hd))⟩;have:ps.map (λo=>cA7 o.1)=(ps.map Prod.fst).map cA7:=by simp
   rw[this,c];simp[cA7]
  ·cases e
 ·rename_i l;obtain⟨prs,f,e⟩:=aE e;split at e
  ·rename_i g;cases e;obtain⟨x,rfl,a⟩:=aV3 vw;obtain⟨p,xs,rfl,h,i⟩:=gU a;obtain⟨ps,j,q,c,m⟩:=aX2 f i;refine⟨p,xs,ps,rfl,.inr h,j,by lia,λd hd=>k _ _ (bM hd) ⟨d,rfl,hd,?_⟩⟩;have nd:(ps.map Prod.fst).Nodup:=by
    rw[c,show prs.map (λp=>(Sum.inr p.1:Key))=(prs.map Prod.fst).map Sum.inr by simp];exact List.Pairwise.map _ (λa b n z=>n (by injection z)) g.2
   rw[rH ps [] (by simpa using nd),List.nil_append];refine⟨_,ps.map Prod.snd,aW,⟨?_,rfl⟩,m.mono (.same (bM hd))⟩;have:ps.map (λo=>cA7 o.1)=(ps.map Prod.fst).map cA7:=by simp
   rw[this,c];simp[cA7]
  ·cases e
 ·cases e
noncomputable def aX3:List D->List D->Str->Option D
 | .str x::ks,v::vs,z=>if x=z then some v else aX3 ks vs z
 | _,_,_=>none
noncomputable def dO9:F2:=λd e=>match d,e with
 | .dic ks vs,.str z=>(aX3 ks vs z).map .val
 | _,_=>none
theorem bD5{H:Hp}{z:Str}{v:D}:∀ {kvs:List (Key×V)} {vs:List D},Rps H vs (kvs.map Prod.snd)->aX3 (kvs.map λc=>cA7 c.1) vs z=some v->∃ x,cA6 kvs (.inr z)=some x/\Rp H v x
 | [],_,_,h=>by cases h
 | (k,y)::kvs,_,.cons a t,h=>by
   cases k with
   | inl i=>cases h
   | inr x=>
     have h':(if x=z then some _ else aX3 (kvs.map λc=>cA7 c.1) _ z)=some v:=h;by_cases b:x=z;rw[a3O b]at h';cases h';subst b;exact⟨y,aF8 rfl,a⟩;rw[a3P b]at h';obtain⟨w,d,f⟩:=bD5 t h';exact⟨w,by rw[aF9 (λe=>b (by injection e))];exact d,f⟩
def cY0:aB7 dO8 dO9:=by
 intro H j l x y Q res v1 v2 e k;unfold dO9 at e;split at e
 ·rename_i ks vs z;obtain⟨v,f,rfl⟩:=a4c.mp e;obtain rfl:y=.str z:=by
   rcases v2 with r | ⟨p,_,o⟩;cases r;rfl;exact o.elim
  have g:∃ p u ws,x=.ref p/\Rd H p u/\cV0 u ks ws/\Rps H vs ws:=by
   rcases v1 with r | ⟨p,rfl,u,ws,c,b,d⟩
   ·cases r with
    | dic c b d=>exact⟨_,_,_,rfl,.inr ⟨_,c⟩,b,d⟩
   ·exact⟨p,u,ws,rfl,.inl c,b,d⟩
  obtain⟨p,u,ws,rfl,c,b,d⟩:=g;cases u with
  | dK kvs=>
    obtain⟨rfl,rfl⟩:=b;obtain⟨x,h,i⟩:=bD5 d f;exact⟨p,x,rfl,.inl ⟨kvs,.inr z,c,rfl,h.symm⟩,k _ _ (.refl _) i⟩
  | dT kvs=>
    obtain⟨rfl,rfl⟩:=b;cases kvs with
    | nil=>cases f
    | cons a t=>cases f
  | _=>exact b.elim
 ·cases e
def dP0{X:Cx}{a b:Expr}{c d:DE}{pos:Pos}(e:X.A.units+1 < cLine)(ha:GE X a c)(f:GE X b d)(g:dV1 b):GE X (.Subscript a b pos) (aX dO9 c d):=.mk λΓ=>peW (cE9 e (ha.to Γ) (f.to Γ) g) λ_ _ _=>pT cY0
end Dv
namespace L2
open PySem PySem.Spec PyProof.Rows
end L2
namespace Dv
open PySem L2 Mr
noncomputable def eF4:F2:=λd e=>match d,e with
 | .lst l,.int i=>if 0<=i/\i<=1000/\l.length<=1000 then some (.own (.lst (List.replicate i.toNat l).flatten))else none
 | _,_=>none
theorem cY1{l:List D}{i:Int}{K:Res->Prop}:OK1 (eF4 (.lst l) (.int i)) K=((0<=i/\i<=1000/\l.length<=1000)/\K (.own (.lst (List.replicate i.toNat l).flatten))):=by
 show OK1 (if _ then _ else none) K=_;rw[bW];rfl
end Dv
namespace Sx
open PySem PySem.W PyProof.Rows
structure Ord(c:Nat->Nat->Bool):Prop where
 ir:∀ a,c a a=false
 tr:∀ {a b d},c a b=true->c b d=true->c a d=true
 nt:∀ {a b d},c b a=false->c d b=false->c d a=false
noncomputable abbrev at0(p:Array Nat)(i:Nat):Nat:=p.getD i 0
def Up(c:Nat->Nat->Bool)(p:Array Nat)(k:Nat):Prop:=∀ i j,i<=j->j < k->c (at0 p j) (at0 p i)=false
def Dn(c:Nat->Nat->Bool)(p:Array Nat)(k:Nat):Prop:=∀ i j,i<=j->j < k->c (at0 p i) (at0 p j)=false
def Pm(N:Nat)(p:Array Nat):Prop:=p.toList.Perm (List.range N)
theorem Pm.size{N:Nat}{p:Array Nat}(h:Pm N p):p.size=N:=by have:=List.Perm.length_eq h;simpa using this
def Pm.lt{N:Nat}{p:Array Nat}(h:Pm N p){i:Nat}(hi:i < N):at0 p i < N:=by
 have b:=h.size;have a:i < p.size:=by lia
 have e:at0 p i=p[i]:=by simp[at0,Array.getD,a]
 rw[e];have:p[i]∈p.toList:=by simp
 exact a8c.mp (h.mem_iff.mp this)
def Pm.of{N:Nat}{p q:Array Nat}(h:Pm N p)(a:q.Perm p):Pm N q:=(Array.perm_iff_toList_perm.mp a).trans h
def aP1{p q:Array Nat}{i j:Nat}(h:p[i]? = q[j]?):at0 p i=at0 q j:=by simp[at0,Array.getD_eq_getD_getElem?,h]
def jT{p:Array Nat}{i j k:Nat}(a:j<=p.size):at0 (kas_rev p i j) k=if i<=k/\k < j then at0 p (i+j-1-k)else at0 p k:=by
 have e:=getElem?_mirror_all (xs:=p) (i:=i) (j:=j) a k;unfold kas_rev;by_cases h:i<=k/\k < j;rw[a3O h]at e ⊢;exact aP1 e;rw[a3P h]at e ⊢;exact aP1 e
def Pm.rev{N:Nat}{p:Array Nat}(h:Pm N p)(i j:Nat):Pm N (kas_rev p i j):=h.of (mirror_perm ..)
section
variable{N:Nat}{c:Nat->Nat->Bool}{cmp:Nat->Nat->(Bool->Shared->Prop)->Shared->Prop}{s:Shared}(O:Ord c)(hc:∀ i j C,i < N->j < N->C (c i j) s->cmp i j C s)
include O hc
theorem bU2{p:Array Nat}(e:Pm N p):∀ (f n:Nat) {G:Nat->Shared->Prop},1<=n->n+f<=N->Up c p n->(∀ m,n<=m->m<=n+f->Up c p m->(m=n+f\/c (at0 p m) (at0 p (m-1))=true)->G m s)->(kas_asc p f n).kasWp cmp G s
 | 0,n,G,l,o,a,q=>q n (a7a _) (a7a _) a (.inl rfl)
 | f+1,n,G,l,o,a,q=>by
   show cmp (at0 p n) (at0 p (n-1)) (λb s'=>(if b=true then KasT.ret n else kas_asc p f (n+1)).kasWp cmp G s') s;refine hc _ _ _ (e.lt (by lia)) (e.lt (by lia)) ?_;cases k:c (at0 p n) (at0 p (n-1))with
   | true=>rw[a3O rfl];exact q n (a7a _) (by lia) a (.inr k)
   | false=>
     rw[a3P a7b];refine bU2 e f (n+1) (by lia) (by lia) (λi j g u=>?_) λm v w r t=>q m (by lia) (by lia) r (by rcases t with z | z;exact .inl (by lia);exact .inr z);by_cases h:j < n;exact a i j g h
     ·have:j=n:=by lia
      subst this;by_cases d:i=j;subst d;exact O.ir _;exact O.nt (a i (j-1) (by lia) (by lia)) k
omit hc in
theorem Dn.turn{p:Array Nat}{n q:Nat}(hn:n<=p.size)(g:q+1<=n)(hd:Dn c p n)(e:∀ i j,n-(q+1)<=i->i < n->n-(q+1)<=j->j < n->c (at0 p i) (at0 p j)=false):Dn c (kas_rev p (n-(q+1)) n) n:=by
 intro i j a f;rw[jT hn,jT hn];by_cases b:n-(q+1)<=i/\i < n;rw[a3O b,a3O (by lia)];exact e _ _ (by lia) (by lia) (by lia) (by lia);rw[a3P b];by_cases d:n-(q+1)<=j/\j < n;rw[a3O d];exact hd i _ (by lia) (by lia);rw[a3P d];exact hd i j a f
omit hc in
theorem Dn.less{p:Array Nat}{n:Nat}(f:1<=n)(hd:Dn c p n)(d:c (at0 p n) (at0 p (n-1))=true):Dn c p (n+1):=by
 intro i j a g;by_cases b:j < n;exact hd i j a b;have:j=n:=by lia
 subst this;by_cases hi:i=j;subst hi;exact O.ir _;cases e:c (at0 p i) (at0 p j)with
 | false=>rfl
 | true=>
   have:=O.tr e d;rw[hd i (j-1) (by lia) (by lia)]at this;exact this.symm
theorem aI2:∀ (f:Nat) (p:Array Nat) (n q:Nat) {G:Array Nat×Nat×Nat->Shared->Prop},Pm N p->1<=n->n+f<=N->Dn c p n->q+1<=n->(∀ i j,n-(q+1)<=i->i < n->n-(q+1)<=j->j < n->c (at0 p i) (at0 p j)=false) ->
  (∀ a m g,Pm N a->n<=m->m<=n+f->Dn c a m->g+1<=m->(∀ i j,m-(g+1)<=i->i < m->m-(g+1)<=j->j < m->c (at0 a i) (at0 a j)=false)->G (a,m,g) s)->(kas_desc f p n q).kasWp cmp G s
 | 0,p,n,q,G,e,y,H,hd,v,he,k=>k p n q e (a7a _) (a7a _) hd v he
 | f+1,p,n,q,G,e,y,H,hd,v,he,k=>by
   have K:=e.size;show cmp (at0 p n) (at0 p (n-1)) (λb s'=>(if b=true then(if q > 0 then kas_desc f (kas_rev p (n-(q+1)) n) (n+1) 0 else kas_desc f p (n+1) 0)else KasT.ask (at0 p (n-1)) (at0 p n) λd=>if d=true then KasT.ret (p,n,q)else kas_desc f p (n+1) (q+1)).kasWp cmp G s') s;refine hc _ _ _ (e.lt (by lia)) (e.lt (by lia)) ?_;have one:∀ (a:Array Nat) i j,n+1-(0+1)<=i->i < n+1->n+1-(0+1)<=j->j < n+1->c (at0 a i) (at0 a j)=false:=λa i j h l w o=>by
    have:i=n:=by lia
    have:j=n:=by lia
    subst i;subst j;exact O.ir _
   cases hl:c (at0 p n) (at0 p (n-1))with
   | true=>
     rw[a3O rfl];by_cases r:q > 0
     ·rw[a3O r];have z:=Dn.turn O (by lia) v hd he;have A:at0 (kas_rev p (n-(q+1)) n) n=at0 p n:=by rw[jT (by lia),a3P (by lia)]
      have B:c (at0 (kas_rev p (n-(q+1)) n) n) (at0 (kas_rev p (n-(q+1)) n) (n-1))=true:=by
       rw[A,jT (by lia),a3O (by lia)]
       -- alike to I last one
       cases J:c (at0 p n) (at0 p (n-(q+1)+n-1-(n-1)))with
       | true=>rfl
       | false=>
         have:=O.nt (he (n-(q+1)+n-1-(n-1)) (n-1) (by lia) (by lia) (by lia) (by lia)) J;rw[hl]at this;exact this.symm
      refine aI2 f _ (n+1) 0 (e.rev _ _) (by lia) (by lia) (Dn.less O y z B) (by lia) (one _) λa m g h l w o t u=>k a m g h (by lia) (by lia) o t u
     ·rw[a3P r];exact aI2 f p (n+1) 0 e (by lia) (by lia) (Dn.less O y hd hl) (by lia) (one _) λa m g h l w o t u=>k a m g h (by lia) (by lia) o t u
   | false=>
     rw[a3P a7b];show cmp (at0 p (n-1)) (at0 p n) (λb s'=>(if b=true then KasT.ret (p,n,q)else kas_desc f p (n+1) (q+1)).kasWp cmp G s') s;refine hc _ _ _ (e.lt (by lia)) (e.lt (by lia)) ?_;cases E:c (at0 p (n-1)) (at0 p n)with
     | true=>rw[a3O rfl];exact k p n q e (a7a _) (by lia) hd v he
     | false=>
       rw[a3P a7b];have F:∀ i,n-(q+1)<=i->i < n->c (at0 p i) (at0 p n)=false/\c (at0 p n) (at0 p i)=false:=λi h l=>
        ⟨O.nt E (he i (n-1) h l (by lia) (by lia)),O.nt (he (n-1) i (by lia) (by lia) h l) hl⟩
       refine aI2 f p (n+1) (q+1) e (by lia) (by lia) (λi j C x=>?_) (by lia) (λi j h l w o=>?_) λa m g h l w o t u=>k a m g h (by lia) (by lia) o t u
       ·by_cases D:j < n;exact hd i j C D;have:j=n:=by lia
        subst this;by_cases hi:i=j;subst hi;exact O.ir _;exact O.nt E (hd i (j-1) (by lia) (by lia))
       ·by_cases hi:i=n;by_cases x:j=n;subst hi;subst x;exact O.ir _;subst hi;exact(F j (by lia) (by lia)).2;by_cases x:j=n;subst x;exact(F i (by lia) (by lia)).1;exact he i j (by lia) (by lia) (by lia) (by lia)
theorem bU3{p:Array Nat}{n:Nat}(a:Pm N p)(d:1<=n)(hn:n<=N)(hd:Dn c p n){G:Nat×Array Nat->Shared->Prop}(k:∀ m b,Pm N b->1<=m->m<=N->Up c b m->G (m,b) s):(kas_tail3 n N p).kasWp cmp G s:=by
 have g:=a.size;unfold kas_tail3;rw[KasT.kasWp_bind];refine bU2 O hc (a.rev 0 n) (N-n) n d (by lia) (λi j e h=>?_) λm l o f _=>k m _ (a.rev 0 n) (by lia) (by lia) f;rw[jT (by lia),jT (by lia),a3O (by lia),a3O (by lia)];exact hd _ _ (by lia) (by lia)
theorem yT{p:Array Nat}{n:Nat}(e:Pm N p)(h:1<=n)(hn:n+1<=N)(hd:Dn c p (n+1)){G:Nat×Array Nat->Shared->Prop}(k:∀ m a,Pm N a->1<=m->m<=N->Up c a m->G (m,a) s):(kas_descPart n N p).kasWp cmp G s:=by
 unfold kas_descPart;rw[KasT.kasWp_bind];refine aI2 O hc (N-(n+1)) p (n+1) 0 e (by lia) (by lia) hd (by lia) (λi j l o q r=>?_) λa m t b u v d f g=>?_
 ·have:i=n:=by lia
  have:j=n:=by lia
  subst i;subst j;exact O.ir _
 ·have w:=b.size;dsimp only;split;exact bU3 O hc (b.rev _ _) (by lia) (by lia) (Dn.turn O (by lia) f d g) k;exact bU3 O hc b (by lia) (by lia) d k
theorem cF3{p:Array Nat}(a:Pm N p)(y:1<=N){G:Nat×Array Nat->Shared->Prop}(k:∀ m l,Pm N l->1<=m->m<=N->Up c l m->G (m,l) s):(kas_count N p).kasWp cmp G s:=by
 have A:=a.size;unfold kas_count;rw[KasT.kasWp_bind];refine bU2 O hc a (N-1) 1 (a7a _) (by lia) (λi j d o=>?_) λn B C h t=>?_
 ·have:i=j:=by lia
  subst this;exact O.ir _
 ·by_cases e:n=N;subst e;rw[a3O (by simp)];exact k n p a (by lia) (a7a _) h;rw[a3P (by simpa using e)];have f:c (at0 p n) (at0 p (n-1))=true:=by rcases t with z | z;lia;exact z
  by_cases g:n > 1
  ·rw[a3O g];show cmp (at0 p 0) (at0 p (n-1)) (λb s'=>(if b=true then KasT.ret (n,p)else kas_descPart n N (kas_rev p 0 n)).kasWp cmp G s') s;refine hc _ _ _ (a.lt (by lia)) (a.lt (by lia)) ?_;cases u:c (at0 p 0) (at0 p (n-1))with
   | true=>rw[a3O rfl];exact k n p a (by lia) (by lia) h
   | false=>
     rw[a3P a7b]
     -- all of q are alike
     have r:∀ i j,i < n->j < n->c (at0 p i) (at0 p j)=false:=λi j hi o=>by
      have v:c (at0 p 0) (at0 p j)=false:=O.nt (h j (n-1) (by lia) (by lia)) u;have w:c (at0 p i) (at0 p 0)=false:=h 0 i (by lia) hi;exact O.nt v w
     refine yT O hc (a.rev 0 n) (by lia) (by lia) (Dn.less O (by lia) (λi j d o=>?_) ?_) k;rw[jT (by lia),jT (by lia),a3O (by lia),a3O (by lia)];exact r _ _ (by lia) (by lia)
     ·rw[jT (by lia),jT (by lia),a3P (by lia),a3O (by lia)];cases x:c (at0 p n) (at0 p (0+n-1-(n-1)))with
      | true=>rfl
      | false=>
        have:=O.nt (r (0+n-1-(n-1)) (n-1) (by lia) (by lia)) x;rw[f]at this;exact this.symm
  ·rw[a3P g];have:n=1:=by lia
   subst this;refine yT O hc a (a7a _) (by lia) (Dn.less O (a7a _) (λi j d o=>?_) f) k;have:i=j:=by lia
   subst this;exact O.ir _
theorem aI3{p:Array Nat}{k:Nat}(e:Pm N p)(j:k < N)(g:Up c p k):∀ (f l r:Nat) {G:Nat->Shared->Prop},l<=r->r<=k->r-l<=f->(∀ i,i < l->c (at0 p k) (at0 p i)=false)->(∀ i,r<=i->i < k->c (at0 p k) (at0 p i)=true) ->
  (∀ m,m<=k->(∀ i,i < m->c (at0 p k) (at0 p i)=false)->(∀ i,m<=i->i < k->c (at0 p k) (at0 p i)=true)->G m s)->(kas_place p k f l r).kasWp cmp G s
 | 0,l,r,G,u,h,v,a,b,q=>by
   have:l=r:=by lia
   subst this;exact q l h a b
 | f+1,l,r,G,u,h,v,a,b,q=>by
   unfold kas_place;split
   ·have:l=r:=by lia
    subst this;exact q l h a b
   ·show cmp (at0 p k) (at0 p ((l+r) / 2)) (λd s'=>(if d=true then kas_place p k f l ((l+r) / 2)else kas_place p k f ((l+r) / 2+1) r).kasWp cmp G s') s;refine hc _ _ _ (e.lt j) (e.lt (by lia)) ?_;cases t:c (at0 p k) (at0 p ((l+r) / 2))with
    | true=>
      rw[a3O rfl];refine aI3 e j g f l _ (by lia) (by lia) (by lia) a (λi n o=>?_) q;cases w:c (at0 p k) (at0 p i)with
      | true=>rfl
      | false=>
        have:=g ((l+r) / 2) i n o;have:=O.nt this w;rw[t]at this;exact this.symm
    | false=>
      rw[a3P a7b];refine aI3 e j g f _ r (by lia) h (by lia) (λi hi=>?_) b q;exact O.nt (g i ((l+r) / 2) (by lia) (by lia)) t
theorem cO5:∀ (f:Nat) (p:Array Nat) (k:Nat) {G:Array Nat->Shared->Prop},Pm N p->k+f=N->Up c p k->(∀ g,Pm N g->Up c g N->G g s)->(kas_bin f p k).kasWp cmp G s
 | 0,p,k,G,b,B,a,q=>by
   have:k=N:=by lia
   subst this;exact q p b a
 | f+1,p,k,G,b,B,a,q=>by
   have F:=b.size;unfold kas_bin;rw[KasT.kasWp_bind];refine aI3 O hc b (by lia) a k 0 k (a0d _) (a7a _) (by lia) (λi h=>absurd h (Nat.not_lt_zero _)) (λi o r=>by lia) λm hm o r=>?_;have t:∀ i,at0 (bubble p k (k-m)) i=if i=m then at0 p k else if m < i/\i<=k then at0 p (i-1)else at0 p i:=λi=>by
    have e:=getElem?_bubble (xs:=p) (src:=k) (by lia) (k-m) (by lia) i;have C:k-(k-m)=m:=by lia
    rw[C]at e;by_cases u:i=m;rw[a3O u]at e ⊢;exact aP1 e;rw[a3P u]at e ⊢;by_cases v:m < i/\i<=k;rw[a3O v]at e ⊢;exact aP1 e;rw[a3P v]at e ⊢;exact aP1 e
   refine cO5 f _ (k+1) (b.of (bubble_perm ..)) (by lia) (λi j l H=>?_) q;rw[t,t];by_cases w:j=m;rw[a3O w];by_cases d:i=m;rw[a3O d];exact O.ir _;rw[a3P d,a3P (by lia)];exact o i (by lia)
   ·rw[a3P w];by_cases d:i=m
    ·rw[a3O d,a3O (by lia)]
     -- D placed one is less y n behind it
     have x:=r (j-1) (by lia) (by lia);cases E:c (at0 p (j-1)) (at0 p k)with
     | false=>rfl
     | true=>have:=O.tr E x;rw[O.ir]at this;exact this.symm
    ·rw[a3P d];by_cases z:m < j/\j<=k;rw[a3O z];by_cases A:m < i/\i<=k;rw[a3O A];exact a _ _ (by lia) (by lia);rw[a3P A];exact a _ _ (by lia) (by lia);rw[a3P z,a3P (by lia)];exact a _ _ l (by lia)
theorem cY2(f:1<=N){G:Array Nat->Shared->Prop}(q:∀ p,Pm N p->Up c p N->G p s):(kas_sort N).kasWp cmp G s:=by
 unfold kas_sort;rw[KasT.kasWp_bind];refine cF3 O hc (p:=List.toArray (List.range N)) (.refl _) f λm a b g h d=>?_;dsimp only;split
 ·have e:max m 1=m:=by lia
  rw[e];exact cO5 O hc (N-m) a m b (by lia) d q
 ·have:m=N:=by lia
  subst this;exact q a b d
end
structure Lin{α:Type}(c:α->α->Bool):Prop where
 ir:∀ a,c a a=false
 tr:∀ {a b d},c a b=true->c b d=true->c a d=true
 tot:∀ {a b},c a b=false->c b a=false->a=b
def Lin.nt{α:Type}{c:α->α->Bool}(L:Lin c){a b d:α}(g:c b a=false)(e:c d b=false):c d a=false:=by
 cases h:c d a with
 | false=>rfl
 | true=>
   cases f:c a b with
   | true=>rw[L.tr h f]at e;cases e
   | false=>
     have:=L.tot f g;subst this;rw[h]at e;cases e
open Classical in
noncomputable def lx{α:Type}(c:α->α->Bool):List α->List α->Bool
 | _,[]=>false
 | [],_::_=>true
 | a::x,b::y=>if a=b then lx c x y else c a b
section
variable{α:Type}{c:α->α->Bool}
def dE2(a b:α)(x y:List α):lx c (a::x) (b::y)=(open Classical in if a=b then lx c x y else c a b):=by rw[lx]
theorem cF4:∀ x:List α,lx c x x=false
 | []=>by rw[lx]
 | a::x=>by rw[dE2,a3O rfl];exact cF4 x
theorem dP1(L:Lin c):∀ {x y z:List α},lx c x y=true->lx c y z=true->lx c x z=true
 | _,[],_,h,_=>by simp[lx]at h
 | _,_::_,[],_,h=>by simp[lx]at h
 | [],_::_,_::_,_,_=>by rw[lx]
 | a::x,b::y,d::z,f,e=>by
   rw[dE2]at f e ⊢;by_cases i:a=b;rw[a3O i]at f;subst i;by_cases g:a=d;rw[a3O g]at e ⊢;exact dP1 L f e;rw[a3P g]at e ⊢;exact e
   ·rw[a3P i]at f;by_cases g:b=d;rw[a3O g]at e;subst g;rw[a3P i];exact f;rw[a3P g]at e;have:=L.tr f e;rw[a3P λz=>?_];exact this;subst z;rw[L.ir]at this;cases this
theorem cO6(L:Lin c):∀ {x y:List α},lx c x y=false->lx c y x=false->x=y
 | [],[],_,_=>rfl
 | [],_::_,h,_=>by simp[lx]at h
 | _::_,[],_,h=>by simp[lx]at h
 | a::x,b::y,d,f=>by
   rw[dE2]at d f;by_cases e:a=b;rw[a3O e]at d;rw[a3O e.symm]at f;rw[e,cO6 L d f];rw[a3P e]at d;rw[a3P λz=>e z.symm]at f;exact absurd (L.tot d f) e
def bD6(L:Lin c):Lin (lx c):=⟨cF4,dP1 L,cO6 L⟩
end
def cY3:Lin (λa b:Nat=>decide (a < b)):=⟨λa=>by simp,λ{a b d} c e=>by simp at *;lia,λ{a b} c e=>by simp at *;lia⟩
theorem cO7:∀ (x y:List Nat),lx (λa b:Nat=>decide (a < b)) x y=decide (x < y)
 | [],[]=>by simp[lx]
 | _::_,[]=>by simp[lx]
 | [],_::_=>by simp[lx]
 | a::x,b::y=>by
   rw[dE2,cO7 x y];by_cases e:a=b;rw[a3O e];subst e;rw[decide_eq_decide,List.cons_lt_cons_iff];exact⟨λh=>.inr ⟨rfl,h⟩,λh=>h.elim (λz=>absurd z (a0f _)) λz=>z.2⟩;rw[a3P e,decide_eq_decide,List.cons_lt_cons_iff];exact⟨.inl,λh=>h.elim id λz=>absurd z.1 e⟩
noncomputable def slt(a b:Str):Bool:=decide (a.cps.toList < b.cps.toList)
def cY4:Lin slt:=by
 have L:=bD6 cY3;have e:∀ a b:Str,slt a b=lx (λa b:Nat=>decide (a < b)) a.cps.toList b.cps.toList:=λa b=>(cO7 _ _).symm;refine⟨λa=>by rw[e];exact L.ir _,λ{a b d} c f=>by rw[e]at *;exact L.tr c f,λ{a b} c f=>?_⟩;rw[e]at c f;have:=L.tot c f;cases a;cases b;exact a3W Str.mk (Array.toList_inj.mp this)
noncomputable abbrev tlS:List Str->List Str->Bool:=lx slt
def bU4:Lin tlS:=bD6 cY4
section
variable{prog:Program}{w:World}{A:Around}{E:Value->Shared->Prop}{s:Shared}
abbrev dV8(prog:Program)(w:World)(h:Heap)(k:List Str)(a:Addr):Prop:=IsTupleKey (strKind prog w) h k a
def eF5(prog:Program)(w:World)(h:Heap)(ks:List (List Str))(vs:List Value):Prop:=ks.length=vs.length/\∀ (i:Nat) v,vs[i]? = some v->∃ k a,ks[i]? = some k/\v=.ref a/\dV8 prog w h k a
theorem bU5{b:Bool}{Q:Bool->Shared->Prop}:∀ {x y:List Str} {xs ys:List Value} (i:Nat) (fin:Bool),ItemsAre (strKind prog w) x xs->ItemsAre (strKind prog w) y ys->fin=decide (xs.length+i < ys.length+i)->Q (tlS x y) s->KatLex prog w A b (decide (xs.length < ys.length)) Q (xs.zip ys) i s
 | _,_,_,_,i,fin,.nil,.nil,_,q=>by rw[show tlS [] []=false from cF4 _]at q;exact q
 | _,_,_,_,i,fin,.nil,.cons _ _,_,q=>by
   show Q (decide (0 < _)) s;rw[a3T (by simp)];rwa[show tlS [] (_::_)=true by unfold tlS;rw[lx]]at q
 | _,_,_,_,i,fin,.cons _ _,.nil,_,q=>by
   show Q (decide (_ < 0)) s;rw[a3Q (by simp)];rwa[show tlS (_::_) []=false by unfold tlS;rw[lx]]at q
 | _,_,_,_,i,fin,.cons (k:=a) (ks:=x) c f,.cons (k:=d) (ks:=y) g h,_,q=>by
   obtain⟨t,rfl⟩:=Value.isStrOf_shape c;obtain⟨u,rfl⟩:=Value.isStrOf_shape g;rw[List.zip_cons_cons];refine kat_cons (wpAny_eqBool_str ?_);rw[show tlS (a::x) (d::y)=_ from dE2 a d x y]at q;by_cases e:a=d;rw[a3O e]at q;rw[a3T e];refine kat_yes ?_;have:=bU5 (b:=b) (i+1) (decide (_+(i+1) < _+(i+1))) f h rfl q;simpa using this
   ·rw[a3P e]at q;rw[a3Q e];refine kat_no ?_;cases (b&&i==0)with
    | true=>exact oneLt_str q
    | false=>exact kat_one _ _ (lt_str q)
theorem aD1:∀ {k:List Str} {vs:List Value},ItemsAre (strKind prog w) k vs->∀ v∈vs,∃ i t,v=.str i t
 | _,_,.nil,v,a=>by simp at a
 | _,_,.cons b r,v,a=>by
   rcases a4b.mp a with rfl | a;obtain⟨t,e⟩:=Value.isStrOf_shape b;exact⟨_,t,e⟩;exact aD1 r v a
def dZ6{ks:List (List Str)}{vs:List Value}{Q:SortKind->Shared->Prop}(T:eF5 prog w s.heap ks vs)(y:0 < vs.length)(z:∀ k∈ks,k≠[])(q:Q (tuples' true) s):wpAny (model prog w) A (keyKind' vs.toArray) Q E s:=by
 have c:∀ (vs:List Value) (ks:List (List Str)),(∀ (i:Nat) v,vs[i]? = some v->∃ k a,ks[i]? = some k/\v=.ref a/\dV8 prog w s.heap k a)->(∀ k∈ks,k≠[])->∃ fs:List Value,KatTups s.heap vs fs/\fs.length=vs.length/\∀ v∈fs,∃ i t,v=.str i t:=by
  intro vs
  induction vs with
  | nil=>intro ks _ _;exact⟨[],KatTups.nil,rfl,by simp⟩
  | cons v r B=>
    intro ks l m;obtain⟨k,a,d,rfl,o,items,n,g,C,hd,hi⟩:=l 0 v rfl;cases ks with
    | nil=>simp at d
    | cons I ks=>
      simp at d;subst d;obtain⟨fs,e,p,h⟩:=B ks (λi u D=>l (i+1) u (by simpa using D)) λx b=>m x (a4a _ b);have j:=m _ a3a;cases hit:items.toList with
      | nil=>
        rw[hit]at hi;cases hi;exact absurd rfl j
      | cons f lS=>
        have F:items[0]? = some f:=by rw[← a4g,hit];rfl
        obtain⟨i,t,G⟩:=aD1 hi f (by rw[hit];exact a3a);refine⟨f::fs,KatTups.cons g C hd F e,by simp[p],λx b=>?_⟩;rcases a4b.mp b with rfl | b;exact⟨i,t,G⟩;exact h x b
 obtain⟨fs,e,p,h⟩:=c vs ks T.2 z;refine kat_kind (T:=.type "str") e (by lia) (λv H=>?_) (by decide) q;obtain⟨i,t,rfl⟩:=h v H;exact .now
end
end Sx
namespace Sx
open PySem PySem.SetTable
section
variable{t:SetTable}{hs:List Int}
end
section
variable{t:SetTable}{hs:List Int}{h:Int}{M:Nat}
end
section
variable{mask:Nat}{ow:Array (Option Nat)}{hs:List Int}
end
section
variable{t:SetTable}{hs:List Int}
end
end Sx
namespace PySem
open Sx
section
variable{prog:Program}{w:World}{A:Around}{E:Value->Shared->Prop}{s:Shared}
end
section
variable{prog:Program}{w:World}{A:Around}{E:Value->Shared->Prop}{s:Shared}{S:Addr}{led:Bool}{N:Addr->Prop}{ks:List (List Int)}{o:Obj}{es:Array (Int×Value)}{ep:Nat}{t:SetTable}
end
end PySem
namespace Sx
open PySem PySem.SetTable
end Sx
namespace PySem
open Sx
section
variable{prog:Program}{w:World}{A:Around}{E:Value->Shared->Prop}{s:Shared}{S:Addr}{led:Bool}{N:Addr->Prop}{ks:List (List Int)}{o:Obj}{es:Array (Int×Value)}{ep:Nat}{t:SetTable}
end
section
variable{prog:Program}{w:World}{A:Around}{S I:Addr}{led:Bool}{N:Addr->Prop}
end
section
variable{prog:Program}{w:World}{A:Around}{E:Value->Shared->Prop}{s:Shared}{S I:Addr}{N:Addr->Prop}{ks:List (List Int)}{o:Obj}{es:Array (Int×Value)}{ep:Nat}{t:SetTable}
end
open L2
section
variable{prog:Program}{w:World}{A:Around}{E:Value->Shared->Prop}{s:Shared}{S I:Addr}{N:Addr->Prop}{ks:List (List Int)}{o:Obj}{es:Array (Int×Value)}{ep:Nat}{t:SetTable}
end
end PySem
namespace Sx
open PySem PySem.W PyProof.Rows
section
variable{prog:Program}{w:World}{A:Around}{E:Value->Shared->Prop}{s:Shared}
end
end Sx
namespace PySem
open Sx PySem.W PyProof.Rows
section
variable{prog:Program}{w:World}{A:Around}{E:Value->Shared->Prop}{s:Shared}{S:Addr}{N:Addr->Prop}{ks:List (List Int)}{o:Obj}{es:Array (Int×Value)}{ep:Nat}{t:SetTable}
end
end PySem
namespace Dv
open PySem L2 Mr
section
variable{Γ:Gm}{H H0:Hp}{σ σ0:Sg}{σV σV0:St}{i:Nat}{v:V}
end
section
variable{K:W.Frag}{H:Hp}{C fI:Addr}{f:Str}{E:XK}{Q:Addr->Hp->Prop}
end
end Dv
namespace L2
open PySem PySem.Spec PyProof.Rows
end L2
namespace PySem
noncomputable def nud{κ:Type}[DecidableEq κ]:List κ->List κ->Nat
 | _,[]=>0
 | seen,k::r=>if k∈seen then nud seen r else nud (k::seen) r+1
section
variable{κ:Type}[DecidableEq κ]
theorem qQ:∀ (r:List κ) {a b:List κ},(∀ k,k∈a↔k∈b)->nud a r=nud b r
 | [],_,_,_=>rfl
 | k::r,a,b,h=>by
   show(if k∈a then nud a r else nud (k::a) r+1)=if k∈b then nud b r else nud (k::b) r+1
   by_cases c:k∈a;rw[a3O c,a3O ((h k).mp c),qQ r h];rw[a3P c,a3P λz=>c ((h k).mpr z),qQ r (a:=k::a) (b:=k::b) λx=>by simp only[List.mem_cons,h x]]
theorem bD7:∀ (r seen:List κ),nud seen r<=r.length
 | [],_=>a7a _
 | k::r,seen=>by
   show(if k∈seen then nud seen r else nud (k::seen) r+1)<=r.length+1;split;exact Nat.le_succ_of_le (bD7 r seen);exact Nat.succ_le_succ (bD7 r _)
theorem bU6:∀ (r seen:List κ),nud seen r=r.length↔r.Nodup/\∀ k∈r,k∉seen
 | [],_=>by simp[nud]
 | k::r,seen=>by
   show(if k∈seen then nud seen r else nud (k::seen) r+1)=r.length+1↔_;by_cases b:k∈seen;rw[a3O b];have:=bD7 r seen;constructor;intro h;lia;intro h;exact absurd b (h.2 k (by simp))
   ·rw[a3P b,Nat.add_right_cancel_iff,bU6 r (k::seen),a8e];constructor;rintro⟨d,c⟩;refine⟨⟨λz=>c k z (by simp),d⟩,λx a=>?_⟩;rcases a4b.mp a with rfl | a;exact b;exact λz=>c x a (a4a _ z);rintro⟨⟨d,c⟩,e⟩;refine⟨c,λx a z=>?_⟩;rcases a4b.mp z with rfl | z;exact d a;exact e x (a4a _ a) z
def aP2{r:List κ}:nud [] r=r.length↔r.Nodup:=by
 rw[bU6];simp
end
section
variable{prog:Program}{w:World}{A:Around}{κ:Type}[DecidableEq κ]{knd:KeyKind prog w κ}
def bU7{S I:Addr}{items:Array Value}{ks:List κ}(C:ks.length=items.size)(D:∀ (i:Nat) v,items[i]? = some v->∃ k,ks[i]? = some k/\knd.is k v=true/\v.scannable=true)(N:ks.length+1 < scanBound)(l:S≠I) :
  Fill prog w A S I items.size (λi v=>items[i]? = some v) (λi h=>∃ m,h.SetOf knd S (λk=>decide (k∈ks.take i)) m/\m<=i/\m+nud (ks.take i) (ks.drop i)=nud [] ks) where
 put:=λi v s Q E hi F ⟨m,G,hm,hn⟩ q=>by
  obtain⟨k,u,y,sc⟩:=D i v F;have n:i < ks.length:=by rw[C];exact hi
  have B:ks.take (i+1)=ks.take i++[k]:=by rw[a5e,u];rfl
  have H:ks.drop i=k::ks.drop (i+1):=by
   rw[List.drop_eq_getElem_cons n,(a2a.mp u).2]
  unfold setAdd;refine a3V (a3N (knd.pyHash y ?_));refine wpAny_setAddHashed_of (knd:=knd) y sc G (by lia) λh' p g=>?_;refine q _ h' _ ⟨if decide (k∈ks.take i)=true then m else m+1,?_,?_,?_⟩ λc o J e=>(p.2 c J).trans e
  ·have e:(λj=>decide (j∈ks.take i)||decide (j=k))=λj=>decide (j∈ks.take (i+1)):=by
    funext j;rw[B];simp[← Bool.decide_or]
   rw[e]at g;exact g
  ·split<;>lia
  ·rw[H]at hn;have f:m+(if k∈ks.take i then nud (ks.take i) (ks.drop (i+1))else nud (k::ks.take i) (ks.drop (i+1))+1)=nud [] ks:=hn;have K:nud (ks.take (i+1)) (ks.drop (i+1))=nud (k::ks.take i) (ks.drop (i+1)):=qQ _ λx=>by rw[B];simp[or_comm]
   rw[K];by_cases d:k∈ks.take i
   ·rw[a3O d]at f;rw[show(decide (k∈ks.take i))=true from a3T d,a3O rfl,← qQ (ks.drop (i+1)) (a:=ks.take i) (b:=k::ks.take i) λx=>⟨λz=>a4a _ z,λz=>by
     rcases a4b.mp z with rfl | z;exact d;exact z⟩]
    exact f
   ·rw[a3P d]at f;rw[show(decide (k∈ks.take i))=false from a3Q d,a3P a7b];lia
 stay:=λi h h' ⟨m,⟨o,es,L,t,M,r⟩,hm⟩ k=>⟨m,⟨o,es,L,t,k S o l M,r⟩,hm⟩
end
end PySem
namespace L2
open PySem PySem.Spec PyProof.Rows
def bD8{X:Cx}{id U:String}{x y:Str}{p c pos a:Pos}{e:Expr}{es:List Expr}{t:TA}{r:List V->Hp->VK->Prop}
  (m:∀ pins s σ H vs us Q,Inv X pins σ H s->dD vs us->r vs H Q->wpAny (model X.prog X.w) X.A (call (.type U) us) (λu s1=>wpAny (model X.prog X.w) X.A (call (.builtin id) [u]) (EP X pins σ Q) X.xe s1) X.xe s)
  (n:Gl X x) (hm:X.mg x=none) (o:bootBuiltins x=some (.builtin id)) (d:Gl X y) (f:X.mg y=none) (g:bootBuiltins y=some (.type U)) (ha:PA X (e::es) t)
  (hn:x≠"__name__":=by decide) (i:(x==("__debug__":Str))=false:=by decide) (j:y≠"__name__":=by decide) (b:(y==("__debug__":Str))=false:=by decide)
  (q:starEach (e::es) X.env=(false,eval e X.env)::starEach es X.env:=by rfl) (k:(backTo a (starEach es X.env)).any (·.1)=false:=by rfl)
  (l:starEach [.Call (.Name y c) (e::es) [] a] X.env=(false,eval (.Call (.Name y c) (e::es) [] a) X.env)::starEach [] X.env:=by rfl) :
  PE X (.Call (.Name x p) [.Call (.Name y c) (e::es) [] a] [] pos) (tCB r t):=by
 intro pins s σ H Q I h;refine a3Z (nA I n hm o (PyProof.Rows.callWith_builtin1 ?_ l (by rfl)) hn i);rw[l]
 (show wpAny _ _ (spliced ((false,eval (.Call (.Name y c) (e::es) [] a) X.env)::backTo pos (starEach [] X.env))) _ _ s;refine Calls.spliced_cons (a3Z (nA I d f g (a2f ?_ q k) j b)))
 exact thn (ha a pins s σ H _ I h) λus s1 ⟨vs,v,z,B,C⟩=>thn (m pins s1 σ v vs us Q z B C) λu s2 D=>Calls.spliced_nil D
def cF5{X:Cx}{pins:List (Addr×Obj)}{σ:St}{H:Hp}{s:Shared}{p:Addr}{b:Bool}{xs:List V}(I:Inv X pins σ H s)(c:X.calm=true)(h:hR H p=some (b,xs)) :
  ∃ items:List Value,dD xs items/\Nonempty (Src X.prog X.w X.A s.heap p items.toArray.size λi v=>items.toArray[i]? = some v):=by
 cases b with
 | true=>
   obtain⟨a,r,⟨o,n,d,e,g,f⟩,_⟩:=I.list (fN h);exact⟨a,r,⟨Src.list (I.ok.hd c) ⟨o,d,e,n,f⟩⟩⟩
 | false=>
   obtain⟨a,r,q,_⟩:=I.tuple (fJ h);exact⟨a,r,⟨Src.tup (I.ok.hd c) q⟩⟩
def bU8:List V->Hp->VK->Prop:=λvs H Q=>∃ p b zs,vs=[.ref p]/\hR H p=some (b,zs.map V.str)/\zs.length < 4000/\Q (.int (nud [] zs:Nat)) H
def yU{X:Cx}(y:X.calm=true):∀ pins s σ H vs us Q,Inv X pins σ H s->dD vs us->bU8 vs H Q ->
  wpAny (model X.prog X.w) X.A (call (.type "set") us) (λu s1=>wpAny (model X.prog X.w) X.A (call (.builtin "len") [u]) (EP X pins σ Q) X.xe s1) X.xe s:=by
 intro pins s σ H vs us Q I B h;obtain⟨p,b,zs,rfl,C,N,q⟩:=h;obtain⟨u,rfl,f⟩:=B.one;cases f;obtain⟨c,r,⟨g⟩⟩:=cF5 I y C;have a:zs.length=c.toArray.size:=by simpa using r.length
 refine cE8 g (λA' _ _=>bU7 (knd:=strKind X.prog X.w) (ks:=zs) a (λi v d=>?_) (by unfold scanBound;lia) (a1d (Nat.lt_succ_self _))) (λh' j _=>?_) λh' tk ⟨m,j,_,hm⟩ D=>?_
 ·rw[a8h]at d;have hi:i < zs.length:=by
   have:=(a2a.mp d).1;rw[a,a2b];exact this
  have l:zs[i]? = some zs[i]:=a0a hi;obtain⟨u,E,f⟩:=r.get (i:=i) (x:=.str zs[i]) (by rw[a3c,l];rfl);rw[E]at d;cases d;obtain⟨t,rfl⟩:=f;generalize zs[i]=z at l;exact⟨z,l,by simp[PySem.strKind,Value.isStrOf],rfl⟩
 ·exact⟨0,⟨_,#[],0,_,j,⟨rfl,rfl,rfl⟩,rfl,λe F=>by simp at F,λk=>by simp,by decide,by rfl,rfl⟩,a7a _,by simp⟩
 ·obtain⟨o,es,O,t,G,hex,hd,_,_,n,J,hn⟩:=j;have P:nud (zs.take c.toArray.size) (zs.drop c.toArray.size)=0:=by rw[← a,List.drop_length];rfl
  have K:es.size=nud [] zs:=by lia
  refine call_len_set G hex hd J (by unfold scanBound at n;lia) ?_;refine⟨.int (nud [] zs:Nat),H,?_,?_,q⟩;have L:Inv X pins σ H {s with heap:=h',toks:=tk}:=Inv.spun0 (ch:=[]) I (λb M=>by simp at M) λb o _ e=>D b o e;exact L.tok _;rw[K];exact⟨_,rfl⟩
end L2
namespace Dv
open PySem L2 Mr
noncomputable def pH:FN:=λb=>match b with
 | [d]=>(cD3 d).bind λx=>(rE x.2).bind λa=>if a.length < 4000 then some (.val (.int (nud [] a:Nat)))else none
 | _=>none
def aD2:aU4 bU8 pH:=by
 intro H j vs Q res vw e k;unfold pH at e;split at e
 ·obtain⟨⟨b,l⟩,g,e⟩:=aE e;obtain⟨h,c,e⟩:=aE e;dsimp only at c;split at e
  ·rename_i i;cases e;cases vw with
   | cons a t=>
     cases t;obtain⟨p,xs,rfl,d,f⟩:=bB6 a g;rw[sY c]at f;rw[f.strs_inv]at d;exact⟨p,b,h,rfl,d,i,k _ _ (.refl _) (.int _)⟩
  ·cases e
 ·cases e
theorem bD9{a:List Str}{K:Res->Prop}:OK1 (pH [.tup (a.map D.str)]) K=(a.length < 4000/\K (.val (.int (nud [] a:Nat)))):=by
 show OK1 ((rE (a.map D.str)).bind _) K=_;rw[mJ];show OK1 (if _ then _ else none) K=_;rw[bW];rfl
theorem dP2{a:List Str}{K:Res->Prop}:OK1 (pH [.lst (a.map D.str)]) K=(a.length < 4000/\K (.val (.int (nud [] a:Nat)))):=by
 show OK1 ((rE (a.map D.str)).bind _) K=_;rw[mJ];show OK1 (if _ then _ else none) K=_;rw[bW];rfl
end Dv
namespace L2
open PySem PySem.Spec PyProof.Rows Sx
section
variable{X:Cx}{o e:Expr}{es:List Expr}{to:TE}{t:TA}{name:Str}{apos cpos:Pos}{id:String}{r:V->List V->Hp->VK->Prop}
end
end L2
namespace Dv
open PySem L2 Mr Sx
noncomputable def aP3:List D->Option (List Int)
 | []=>some []
 | .int i::r=>(aP3 r).bind λl=>some (i::l)
 | _::_=>none
theorem aI4:∀ {l:List D} {a:List Int},aP3 l=some a->l=a.map D.int
 | [],_,h=>by cases h;rfl
 | .int s::r,_,h=>by
   obtain⟨l,b,c⟩:=aE h;cases c;rw[aI4 b];rfl
 | .non::_,_,h=>by cases h
 | .str _::_,_,h=>by cases h
 | .bl _::_,_,h=>by cases h
 | .tup _::_,_,h=>by cases h
 | .lst _::_,_,h=>by cases h
 | .dic _ _::_,_,h=>by cases h
def aP4(zs:List Int):aP3 (zs.map D.int)=some zs:=by
 induction zs with
 | nil=>rfl
 | cons b r a=>show(aP3 (r.map D.int)).bind _=_;rw[a];rfl
abbrev FT:=List D->D->Option D
noncomputable def dMT(f:FT)(a b:DE):DE:=λσ=>(a σ).bind λx=>match x.1 with
 | .val (.tup l)=>(b x.2).bind λy=>(rd y.2 y.1).bind λe=>(f l e).bind λd=>some (.val d,y.2)
 | _=>none
theorem dZ7{σ:Sg}{f:FT}{c g:DE}{Q:Res->Sg->Prop}:RE (dMT f c g) σ Q=RE c σ λx a=>OK1 (match x with | .val (.tup l)=>some l | _=>none) λl=>RE g a λy b=>RD b y λe=>OK1 (f l e) λd=>Q (.val d) b:=by
 unfold RE RD dMT;simp only[aS];congr 1;funext x;obtain⟨x,a⟩:=x;cases x with
 | val d=>
   cases d with
   | tup l=>simp only[aS];rfl
   | _=>rfl
 | _=>rfl
end Dv
namespace L2
end L2
namespace PySem.SeqAt
open PySem MeetsSeq MeetsSeq2 MeetsSeq3 SeqRoads2
end PySem.SeqAt
namespace L2
open PySem PySem.Spec PyProof.Rows Sx
end L2
namespace Dv
open PySem L2 Mr Sx
noncomputable def eF6:FT:=λl e=>match e with
 | .str z=>(rE l).bind λa=>if z∈a then some (.int (a.idxOf z:Nat))else none
 | _=>none
theorem cY5{a:List Str}{z:Str}{K:D->Prop}:OK1 (eF6 (a.map D.str) (.str z)) K=(z∈a/\K (.int (a.idxOf z:Nat))):=by
 show OK1 ((rE (a.map D.str)).bind _) K=_;rw[mJ];show OK1 (if _ then _ else none) K=_;rw[bW];rfl
end Dv
namespace Sx
open PySem PySem.W PyProof.Rows
def KAt{κ:Type}(At:Heap->κ->Value->Prop)(h:Heap)(ks:List κ)(vs:List Value):Prop:=ks.length=vs.length/\∀ (i:Nat) v,vs[i]? = some v->∃ k,ks[i]? = some k/\At h k v
structure Sk(prog:Program)(w:World)(κ:Type) where
 lt:κ->κ->Bool
 lin:Lin lt
 At:Heap->κ->Value->Prop
 live:∀ {h:Heap} {k:κ} {a:Addr},At h k (.ref a)->∃ o,h.get? a=some o
 stay:∀ {h h':Heap} {k:κ} {v:Value},At h k v->(∀ a o,v=.ref a->h.get? a=some o->h'.get? a=some o)->At h' k v
 kind:SortKind
 ok:List κ->Prop
 rm:Around->Prop
 kd:∀ {A:Around} {E:Value->Shared->Prop} {s:Shared} {ks:List κ} {vs:List Value} {Q:SortKind->Shared->Prop},KAt At s.heap ks vs->2<=vs.length->ok ks->Q kind s->wpAny (model prog w) A (keyKind' vs.toArray) Q E s
 ask:∀ {A:Around} {s:Shared} {k1 k2:κ} {v1 v2:Value} {C:Bool->Shared->Prop},rm A->At s.heap k1 v1->At s.heap k2 v2->C (lt k1 k2) s->wpAny (model prog w) A (keyLt' kind v1 v2) C (λ_ _=>False) s
section
variable{prog:Program}{w:World}{A:Around}{E:Value->Shared->Prop}{s:Shared}{κ:Type}[Inhabited κ]
def Sk.ord(S:Sk prog w κ)(ks:List κ):Ord λi j=>S.lt (ks.getD i default) (ks.getD j default):=⟨λa=>S.lin.ir _,S.lin.tr,S.lin.nt⟩
def Sk.stays(S:Sk prog w κ){h h':Heap}{ks:List κ}{vs:List Value}(X:KAt S.At h ks vs)(b:∀ a o,Value.ref a∈vs->h.get? a=some o->h'.get? a=some o):KAt S.At h' ks vs:=by
 refine⟨X.1,λi v e=>?_⟩;obtain⟨k,c,d⟩:=X.2 i v e;exact⟨k,c,S.stay d λa o f g=>b a o (by rw[← f];exact a0c e) g⟩
def Sk.asks(S:Sk prog w κ)(b:S.rm A){ks:List κ}{vs:List Value}{i j:Nat}{C:Bool->Shared->Prop}(T:KAt S.At s.heap ks vs)(hi:i < vs.length)(a:j < vs.length)(q:C (S.lt (ks.getD i default) (ks.getD j default)) s):kas_ask prog w A S.kind vs i j C s:=by
 obtain⟨k1,c,d⟩:=T.2 i vs[i] (a0a hi);obtain⟨k2,e,f⟩:=T.2 j vs[j] (a0a a);unfold kas_ask;rw[a6a,a0a hi,a6a,a0a a];rw[a6a,c,a6a,e]at q;exact S.ask b d f q
def dP3(S:Sk prog w κ)(J:S.rm A){ks:List κ}{vs:List Value}{D n:Nat}{P:PySem.Fin->Shared->Prop}(u:s.heap.get? D=some (seqObj "list" vs.toArray n))(K:Value.ref D∉vs)(T:KAt S.At s.heap ks vs)(v:vs.length < 64)(L:2<=vs.length->S.ok ks)
  (q:∀ h' p c,Pm vs.length p->Up (λi j=>S.lt (ks.getD i default) (ks.getD j default)) p vs.length->h'.get? D=some (seqObj "list" (List.toArray (p.toList.map λi=>vs.getD i Value.none)) c)->(∀ b ob,b≠D->s.heap.get? b=some ob->h'.get? b=some ob)->P (.done (.ret .none)) {s with heap:=h'}) :
  wpAny (model prog w) A (Builtin.«list.sort» ⟨[.ref D],[]⟩) P E s:=by
 have M:D < s.heap.objs.size:=a6b u;have F:vs.length<=sizeLine:=by rw[a4x];lia
 rw[list_sort_plain];refine a3N (listItems_at u rfl (a3N (listUpdate_at u rfl ?_ (by simpa using F) (a0d _))));obtain⟨x,m⟩:∃ x,(s.heap.update D (Obj.mapSeq λ_=>(#[]:Array Value))).get? D=some (seqObj "list" #[] x):=⟨_,get?_update_seq u λ_=>#[]⟩;refine a3N (seqEpoch_at m rfl (a3N (wpAny_newTuple ?_ (by simpa using F))));refine a3N (wpAny_newList ?_ (a0d _));refine a3V ?_;have kept:∀ b ob,b≠D->s.heap.get? b=some ob->(((s.heap.update D (Obj.mapSeq λ_=>(#[]:Array Value))).push (seqObj "tuple" vs.toArray 0)).push (seqObj "list" #[] 0)).get? b=some ob:=λb ob h e=>a5a _ (a5a _ ((Heap.get?_update_other _ _ (a3e h)).trans e));have a:(((s.heap.update D (Obj.mapSeq λ_=>(#[]:Array Value))).push (seqObj "tuple" vs.toArray 0)).push (seqObj "list" #[] 0)).get? D=some (seqObj "list" #[] x):=a5a _ (a5a _ m);show wpAny (model prog w) A _ P E {s with heap:=((s.heap.update D (Obj.mapSeq λ_=>(#[]:Array Value))).push (seqObj "tuple" vs.toArray 0)).push (seqObj "list" #[] 0)};generalize ((s.heap.update D (Obj.mapSeq λ_=>(#[]:Array Value))).push (seqObj "tuple" vs.toArray 0)).push (seqObj "list" #[] 0)=f at kept a ⊢;have H:KAt S.At f ks vs:=S.stays T λb ob h e=>kept b ob (λz=>K (z ▸ h)) e;dsimp only;have fin:∀ (out:Array Value) (p:Array Nat),out=List.toArray (p.toList.map λi=>vs.getD i Value.none)->Pm vs.length p->Up (λi j=>S.lt (ks.getD i default) (ks.getD j default)) p vs.length->out.size<=sizeLine+1 ->
   P (.done (.ret .none)) {s with heap:=f.update D (Obj.mapSeq λ_=>out)}:=λout p e k o _=>by
  obtain⟨y,B⟩:∃ y,(f.update D (Obj.mapSeq λ_=>out)).get? D=some (seqObj "list" out y):=⟨_,get?_update_seq a λ_=>out⟩;subst e;exact q _ p y k o B λb ob h e=>(Heap.get?_update_other _ _ (a3e h)).trans (kept b ob h e)
 by_cases l:vs.toArray.size < 2
 ·rw[a3O l,a3O l];refine a3N (a3S ?_);rw[StateT.run_pure];refine a3N (a3S ?_);dsimp only;refine a3N (seqEpoch_at a rfl ?_);have es:(arrOf (SortSt.mk' general' (vs.toArray.zip vs.toArray) #[] 7 none)).map (·.2)=vs.toArray:=by
   show(vs.toArray.zip vs.toArray).map (·.2)=vs.toArray;apply Array.toList_inj.mp;rw[Array.toList_map,Array.toList_zip,List.map_snd_zip (a7a _)]
  refine a3N (listUpdate_at a rfl ?_ (a0d _) (by rw[es];simp;lia));simp only[bne_self_eq_false,Bool.false_eq_true,if_false];rw[es];refine a3S (fin vs.toArray (List.toArray (List.range vs.length)) ?_ (.refl _) (λi j N I=>?_) (by simp;lia));apply Array.toList_inj.mp;show vs=(List.range vs.length).map λi=>vs.getD i Value.none;refine a2h λi=>?_;rw[a3c];by_cases hi:i < vs.length;rw[List.getElem?_range hi,a0a hi];simp[hi];rw[a7f (by lia),a7f (by simp;lia)];rfl;have:i=j:=by simp at l;lia
  subst this;exact S.lin.ir _
 ·rw[a3P l,a3P l];have g:2<=vs.length:=by simp at l;lia
  refine a3N (S.kd (s:={s with heap:=f}) H g (L g) ?_);refine a3N (a3Y (kat_run (s:={s with heap:=f}) (κ:=S.kind) (Q:=λd s'=>s'={s with heap:=f}/\failedOf d=none/\∃ p:Array Nat,Pm vs.length p/\Up (λi j=>S.lt (ks.getD i default) (ks.getD j default)) p vs.length/\(arrOf d).map (·.2)=List.toArray (p.toList.map λi=>vs.getD i Value.none))
   (G:=λp s'=>s'={s with heap:=f}/\Pm vs.length p/\Up (λi j=>S.lt (ks.getD i default) (ks.getD j default)) p vs.length) rfl g v (λp d s' Y O R ⟨U,V,W⟩=>⟨U,R,p,V,W,kat_snds rfl O⟩) ?_) ?_ λ_ _ e=>e)
  ·exact cY2 (S.ord ks) (λi j C hi I X=>S.asks (s:={s with heap:=f}) J H hi I X) (by lia) λp k o=>⟨rfl,k,o⟩
  ·rintro⟨⟨⟩,d⟩ s' ⟨rfl,hf,p,k,o,r⟩;dsimp only;refine a3N (seqEpoch_at a rfl ?_);have t:(List.toArray (p.toList.map λi=>vs.getD i Value.none)).size=vs.length:=by rw[a2b,a1a,a1g,k.size]
   rw[r];refine a3N (listUpdate_at a rfl ?_ (a0d _) (by show(List.toArray _).size<=_;rw[t];lia));rw[hf];simp only[bne_self_eq_false,Bool.false_eq_true,if_false];exact a3S (fin _ p rfl k o (by rw[t];lia))
def SoG(lt:κ->κ->Bool)(l:List κ):Prop:=l.Pairwise λx y=>lt y x=false
end
section
variable{κ:Type}{lt:κ->κ->Bool}
theorem cO8(L:Lin lt):∀ {l m:List κ},l.Perm m->SoG lt l->SoG lt m->l=m
 | [],m,p,_,_=>p.nil_eq
 | x::l,[],p,_,_=>absurd p.length_eq (by simp)
 | x::l,y::m,p,d,f=>by
   have b:=List.pairwise_cons.mp d;have c:=List.pairwise_cons.mp f;have e:x=y:=by
    rcases a4b.mp (p.mem_iff.mp (a3a (a:=x) (l:=l)))with e | g;exact e;rcases a4b.mp (p.mem_iff.mpr (a3a (a:=y) (l:=m)))with e | h;exact e.symm;exact(L.tot (b.1 y h) (c.1 x g)).symm
   subst e;rw[cO8 L (List.Perm.cons_inv p) b.2 c.2]
noncomputable def sG(lt:κ->κ->Bool)(ks:List κ):List κ:=Classical.epsilon (h:=⟨[]⟩) λl=>l.Perm ks/\SoG lt l
def cY6(L:Lin lt){ks l:List κ}(h:l.Perm ks)(s:SoG lt l):sG lt ks=l:=by
 have:=Classical.epsilon_spec (p:=λl:List κ=>l.Perm ks/\SoG lt l) ⟨l,h,s⟩;exact cO8 L (this.1.trans h.symm) this.2 s
def cF6(L:Lin lt)(ks:List κ):(sG lt ks).Perm ks/\SoG lt (sG lt ks):=by
 refine Classical.epsilon_spec (p:=λl:List κ=>l.Perm ks/\SoG lt l) ⟨ks.mergeSort λx y=>!lt y x,List.mergeSort_perm ..,?_⟩;have:=List.pairwise_mergeSort (le:=λx y=>!lt y x) (λa b c e d=>by simp at *;exact L.nt e d) (λa b=>by
  cases h:lt b a with
  | false=>simp
  | true=>
    cases d:lt a b with
    | false=>simp
    | true=>have:=L.tr h d;rw[L.ir]at this;cases this) ks
 exact this.imp λ{a b} h=>by simpa using h
def bU9{ks ls:List κ}(h:ls.Perm ks):sG lt ls=sG lt ks:=by
 unfold sG;congr 1;funext x;exact propext ⟨λ⟨p,q⟩=>⟨p.trans h,q⟩,λ⟨p,q⟩=>⟨p.trans h.symm,q⟩⟩
def cO9(L:Lin lt){ks ls:List κ}:sG lt ls=sG lt ks↔ls.Perm ks:=⟨λe=>(cF6 L ls).1.symm.trans (e ▸ (cF6 L ks).1),bU9⟩
end
noncomputable abbrev tlI:List Int->List Int->Bool:=lx λa b:Int=>decide (a < b)
def yV:Lin (λa b:Int=>decide (a < b)):=⟨λa=>by simp,λ{a b d} c e=>by simp at *;lia,λ{a b} c e=>by simp at *;lia⟩
def yX{α:Type}{xs:Array α}{i:Nat}{x:α}{r:List α}(h:xs.toList.drop i=x::r):i < xs.size/\xs[i]? = some x/\xs.toList.drop (i+1)=r:=by
 have hi:i < xs.toList.length:=by
  rcases Nat.lt_or_ge i xs.toList.length with h' | h';exact h';rw[List.drop_eq_nil_of_le h']at h;cases h
 rw[List.drop_eq_getElem_cons hi]at h;injection h with a b
 refine⟨by simpa using hi,?_,b⟩;rw[← a4g,a0a hi,a]
def aI5{α:Type}{xs:Array α}{i:Nat}(h:xs.toList.drop i=[])(hi:i<=xs.size):xs.size=i/\xs[i]? = none:=by
 have:=List.drop_eq_nil_iff.mp h;rw[a1g]at this;exact⟨by lia,Array.getElem?_eq_none (by lia)⟩
def cY7(l b:Addr)(items f:Array Value)(n n2:Nat)(I B:Option Addr)(sl sl2:Array (Option Value)):∀ (x y:List Int) (i:Nat) (v z:List Value),items.toList.drop i=v->f.toList.drop i=z->i<=items.size->i<=f.size->IntsAre v x->IntsAre z y ->
  Meets (Builtin.«list.__eq__.loop» ⟨[.ref l,.ref b,rawInt i,rawInt 0],[]⟩)
   (λA R s=>s.heap.get? l=some {cls:=.type "list",dict:=I,data:=.seq items n,slots:=sl}/\s.heap.get? b=some {cls:=.type "list",dict:=B,data:=.seq f n2,slots:=sl2} /\
    R (.ok (.ret (.bool (tlI x y)))) s):=by
 intro x
 induction x with
 | nil=>
   intro y i v z C p G D q u prog w A R s h;obtain⟨J,g,d,tk,os⟩:=s;obtain⟨m,o,h⟩:=h;cases q;obtain⟨K,E⟩:=aI5 C G;have j:items[((i:Nat):Int).toNat]? = none:=by simpa using E
   have F:i=f.size/\y=[]\/i < f.size/\∃ c r,y=c::r:=by
    cases u with
    | nil=>exact .inl ⟨(aI5 p D).1.symm,rfl⟩
    | cons c t r=>exact .inr ⟨(yX p).1,_,_,rfl⟩
   wp_walk using a3U m,a3U o
   rw[j]
   wp_walk using a3U m,a3U o
   show R (.ok (.ret (.bool (decide (items.size < f.size))))) _;rcases F with⟨a1,rfl⟩ | ⟨a1,c,r,rfl⟩;rw[a3Q (by lia)];rwa[show tlI [] []=false from cF4 _]at h;rw[a3T (by lia)];rwa[show tlI [] (c::r)=true by unfold tlI;rw[lx]]at h
 | cons a x L=>
   intro y i v z C p G D q u prog w A R s h;obtain⟨J,g,d,tk,os⟩:=s;obtain⟨m,o,h⟩:=h;cases q with
   | cons _ t1 q=>
   obtain⟨l1,M,N⟩:=yX C;have j:items[((i:Nat):Int).toNat]? = some (.int a t1):=by simpa using M
   cases u with
   | nil=>
     obtain⟨K,E⟩:=aI5 p D;have k:f[((i:Nat):Int).toNat]? = none:=by simpa using E
     wp_walk using a3U m,a3U o
     rw[j,k]
     wp_walk using a3U m,a3U o
     show R (.ok (.ret (.bool (decide (items.size < f.size))))) _;rw[a3Q (by lia)];rwa[show tlI (a::x) []=false by unfold tlI;rw[lx]]at h
   | cons c H u=>
     obtain⟨O,P,Q⟩:=yX p;have k:f[((i:Nat):Int).toNat]? = some (.int c H):=by simpa using P
     have S:((i:Int)+1)=((i+1:Nat):Int):=by push_cast;rfl
     rw[show tlI (a::x) (c::_)=_ from dE2 a c x _]at h
     wp_walk using a3U m,a3U o
     rw[j,k];refine a3N (wpAny_eqBool_int ?_);by_cases e:a=c
     ·rw[a3O e]at h;rw[show(a==c)=true from a4w.mpr e]
      wp_walk
      rw[S];exact⟨a4q MeetsSeq3.plain_eq_loop _,a4k MeetsSeq3.entry_eq_loop (by
       rw[a7g MeetsSeq3.plain_eq_loop _];exact L _ (i+1) _ _ N Q l1 O q u prog w A R _ ⟨m,o,h⟩)⟩
     ·rw[a3P e]at h;rw[show(a==c)=false by simpa using e]
      wp_walk using a3U m,a3U o
      rw[j,k];refine a3N (show wpAny _ _ (compareOp .Lt (.int a t1) (.int c H)) _ _ _ from lt_int ?_)
      wp_walk
      exact h
def cY8(l b:Addr)(items a:Array Value)(n n2:Nat)(e c:Option Addr)(sl sl2:Array (Option Value)){x y:List Int}(j:IntsAre items.toList x)(k:IntsAre a.toList y) :
  Meets (Builtin.«list.__lt__» ⟨[.ref l,.ref b],[]⟩)
   (λA R s=>s.heap.get? l=some {cls:=.type "list",dict:=e,data:=.seq items n,slots:=sl}/\s.heap.get? b=some {cls:=.type "list",dict:=c,data:=.seq a n2,slots:=sl2} /\
    R (.ok (.ret (.bool (tlI x y)))) s):=by
 intro prog w A R s h;obtain⟨m,g,d,tk,os⟩:=s;obtain⟨f,i,h⟩:=h;have o:=AutoSeq1.sub_list_list
 wp_walk using a3U f,a3U i
 exact⟨a4q MeetsSeq3.plain_eq_loop _,a4k MeetsSeq3.entry_eq_loop (by
  rw[a7g MeetsSeq3.plain_eq_loop _];exact cY7 l b items a n n2 e c sl sl2 x y 0 _ _ rfl rfl (a0d _) (a0d _) j k prog w A R _ ⟨f,i,h⟩)⟩
section
variable{prog:Program}{w:World}{A:Around}{E:Value->Shared->Prop}{s:Shared}
def dZ8(h:Heap)(k:List Int)(a:Addr):Prop:=∃ b n c sl,h.get? a=some {cls:=.type "list",dict:=c,data:=.seq b n,slots:=sl}/\IntsAre b.toList k
def cF7{a b:Addr}{x y:List Int}{Q:Bool->Shared->Prop}(d:A.units < cLine)(e:dZ8 s.heap x a)(f:dZ8 s.heap y b)(q:Q (tlI x y) s):wpAny (model prog w) A (keyLt' oneType' (.ref a) (.ref b)) Q E s:=by
 obtain⟨g,n1,h,s1,c,i⟩:=e;obtain⟨j,n2,k,s2,l,m⟩:=f;rw[keyLt'_oneType,oneLt'_eq];simp only[if_true];refine a3N (wpAny_cRoomFor d ?_);refine a3N (wpAny_callSpecialIfBound?_slot (T:="list") ⟨_,c,rfl⟩ F.slot_list_lt (a4n F.slot_list_lt ⟨_,c,rfl⟩ F.entry_list_lt (F.args_list_lt_2 _ _) (cY8 a b g j n1 n2 h k s1 s2 i m) ⟨c,l,?_⟩));exact a4i q
end
end Sx
namespace L2
open PySem PySem.Spec PyProof.Rows Sx
section
variable{κ:Type}[Inhabited κ]
def PKs(R:κ->V->Prop)(ks:List κ)(xs:List V):Prop:=ks.length=xs.length/\∀ (i:Nat) k x,ks[i]? = some k->xs[i]? = some x->R k x
def bE0(VAt:Hp->κ->V->Prop)(lt:κ->κ->Bool)(ok:List κ->Prop):List V->Hp->VK->Prop:=λvs H Q=>∃ (p:Addr) (b:Bool) (xs:List V) (ks:List κ),vs=[.ref p]/\hR H p=some (b,xs)/\PKs (VAt H) ks xs/\ks.length < 64/\(2<=ks.length->ok ks) /\
 ∀ r (ys:List V),H r=none->PKs (VAt H) (sG lt ks) ys->Q (.ref r) (upd H r (.lst ys))
def dD.get'{xs:List V}{us:List Value}(h:dD xs us){i:Nat}{u:Value}(e:us[i]? = some u):∃ x,xs[i]? = some x/\gC x u:=by
 have hi:=(a2a.mp e).1;have a:i < xs.length:=by rw[dD.length h];exact hi
 obtain⟨c,b,r⟩:=dD.get h (a0a a);rw[e]at b;cases b;exact⟨_,a0a a,r⟩
theorem aP5{xs:List V}{us:List Value}(h:dD xs us):∀ {p:List Nat},(∀ i∈p,i < xs.length)->dD (p.map λi=>xs.getD i .non) (p.map λi=>us.getD i Value.none)
 | [],_=>.nil
 | i::p,a=>by
   refine .cons ?_ (aP5 h λj b=>a j (a4a _ b));have hi:=a i a3a;obtain⟨u,e,r⟩:=dD.get h (a0a hi);show gC (xs.getD i .non) (us.getD i Value.none);rw[a6a,a0a hi,a6a,e];exact r
variable{X:Cx}
def rJ(S:Sk X.prog X.w κ){VAt:Hp->κ->V->Prop}(hV:∀ {pins σ H s k x u},Inv X pins σ H s->VAt H k x->gC x u->S.At s.heap k u)(hr:S.rm X.A.in1.in1):iW X (.builtin "sorted") (bE0 VAt S.lt S.ok):=by
 intro pins s σ H xs us Q I r h;obtain⟨p,b,zs,ks,rfl,Y,K,h64,L,q⟩:=h;have hl:=K.1;obtain⟨u,rfl,ru⟩:=zX r;cases ru;obtain⟨d,f,T,o,n,hT,g,B,hd,hsz⟩:∃ (d:List Value),dD zs d/\∃ (T:String) (o:Obj) (n:Nat),(T="list"\/T="tuple")/\s.heap.get? p=some o/\o.cls=.type T/\o.data=.seq d.toArray n/\zs.length<=sizeLine:=by
  cases b with
  | true=>
    obtain⟨d,f,y,M⟩:=I.list (fN Y);obtain⟨o,g,B,n,hd⟩:=y.isList;exact⟨d,f,"list",o,n,.inl rfl,g,B,hd,by simpa using M⟩
  | false=>
    obtain⟨d,f,y,M⟩:=I.tuple (fJ Y);obtain⟨o,g,B,n,hd⟩:=y;exact⟨d,f,"tuple",o,n,.inr rfl,g,B,hd,by simpa using M⟩
 have Z:d.length=ks.length:=by rw[← dD.length f,hl]
 refine Calls.call_function_entry kind_sorted plain_sorted entry_sorted (args_sorted1 _) ?_;unfold Builtin.«sorted»;refine a3N (m:=checkCount "sorted" 1 1 _) (a3S ?_);refine a3N (wpAny_collect_seq p hT g B hd (λh' N=>?_) (by simp only[List.size_toArray];lia));have O:Inv X pins σ H {s with heap:=h'}:=I.kept (t':=s.toks) N;have T1:KAt S.At h' ks d:=by
  refine⟨Z.symm,λi v e=>?_⟩;obtain⟨x,ex,rx⟩:=dD.get' f e;have hi:i < ks.length:=by have:=(a2a.mp ex).1;lia
  exact⟨ks[i],a0a hi,hV O (K.2 i _ _ (a0a hi) ex) rx⟩
 have alive:∀ a,Value.ref a∈d->a < h'.objs.size:=λa ha=>by
  obtain⟨i,hi⟩:=List.getElem?_of_mem ha;obtain⟨k,_,e⟩:=T1.2 i _ hi;obtain⟨o,g⟩:=S.live e;exact a6b g
 refine a3N (wpAny_newList ?_ (by simp;lia));have l:(h'.push (seqObj "list" d.toArray.toList.toArray 0)).get? h'.objs.size=some (seqObj "list" d.toArray 0):=by
  simpa using a8b (h:=h') (o:=seqObj "list" d.toArray.toList.toArray 0) rfl
 have up1:∀ b ob,h'.get? b=some ob->(h'.push (seqObj "list" d.toArray.toList.toArray 0)).get? b=some ob:=λb ob e=>a5a _ e;show wpAny _ _ _ _ _ {s with heap:=h'.push (seqObj "list" d.toArray.toList.toArray 0)};have P:Value.ref h'.objs.size∉d:=λz=>absurd (alive _ z) (a0f _);generalize h'.push (seqObj "list" d.toArray.toList.toArray 0)=F at l up1;refine a3N (a3V (a4p slot_list_sort ⟨_,l,rfl⟩ entry_list_sort (dP3 (s:={s with heap:=F}) S hr l P (S.stays T1 λb ob _ e=>up1 b ob e) (by lia) (λh=>L (by lia)) λR p c G hu U t=>⟨_,rfl,?_⟩) (args_list_sort _)));have keep:∀ b ob,h'.get? b=some ob->R.get? b=some ob:=λb ob e=>t b ob (λz=>absurd (a6b (z ▸ e)) (a0f _)) (up1 b ob e);rw[Z]at G hu;have hps:=G.size;have y:∀ i,i < ks.length->p.toList[i]? = some (at0 p i):=λi hi=>by
  have C:i < p.size:=by lia
  rw[a4g,Array.getElem?_eq_getElem C];simp[at0,Array.getD,C]
 have W:(p.toList.map λi=>ks.getD i default).Perm ks:=by
  have F:=List.Perm.map (λi=>ks.getD i default) G;have R:(List.range ks.length).map (λi=>ks.getD i default)=ks:=by
   refine a2h λi=>?_;rw[a3c];by_cases hi:i < ks.length;rw[List.getElem?_range hi,a0a hi];simp[hi];rw[a7f (by simp;lia),a7f (by lia)];rfl
  rw[R]at F;exact F
 have eS:sG S.lt ks=p.toList.map λi=>ks.getD i default:=by
  refine cY6 S.lin W (List.pairwise_iff_getElem.mpr λi j hi J ij=>?_);simp only[List.length_map,Array.length_toList]at hi J;have:=hu i j (by lia) (by lia);have e1:=y i (by lia);have e2:=y j (by lia);rw[List.getElem_map,List.getElem_map];rw[a0a (by rw[a1g];lia)]at e1 e2;rw[a0b e1,a0b e2];exact this
 have lt:∀ i∈p.toList,i < zs.length:=λi hi=>by
  have:=a8c.mp (G.mem_iff.mp hi);lia
 have l2:(sG S.lt ks).length=ks.length:=(cF6 S.lin ks).1.length_eq;refine a3S ⟨_,rfl,.ref h'.objs.size,_,O.laid (t':=s.toks) (o:=.lst (p.toList.map λi=>zs.getD i .non)) keep (a7a _) ⟨by rw[a1a,a1g];lia,_,c,aP5 f lt,U⟩,rfl,q _ _ (O.hok.fresh (a7a _)) ⟨by rw[eS,a1a,a1a],λi k x ek ex=>?_⟩⟩;rw[a3c]at ex;obtain⟨j,ej,rfl⟩:=a4c.mp ex;rw[eS,a3c,ej]at ek;have J:=lt j (a0c ej);have D:j < ks.length:=by lia
 have E:ks.getD j default=k:=a0b ek;rw[a6a,a0a D]at E;rw[a6a,a0a J];exact K.2 j k _ (by rw[a0a D,← E];rfl) (a0a J)
end
end L2
namespace Sx
open PySem PySem.W PyProof.Rows
noncomputable def skT(prog:Program)(w:World):Sk prog w (List Str) where
 lt:=tlS
 lin:=bU4
 At:=λh k v=>∃ a,v=.ref a/\dV8 prog w h k a
 live:=λZ1=>by obtain⟨a,e,o,_,_,g,_⟩:=Z1;cases e;exact⟨o,g⟩
 stay:=λ⟨a,e,o,c,n,g,r⟩ d=>⟨a,e,o,c,n,d a _ e g,r⟩
 kind:=tuples' true
 ok:=λks=>∀ k∈ks,k≠[]
 rm:=λ_=>True
 kd:=λ{A E s ks vs Q} T D d q=>dZ6 (ks:=ks) ⟨T.1,λi v e=>by obtain⟨k,f,a,j,l⟩:=T.2 i v e;exact⟨k,a,f,j,l⟩⟩ (by lia) d q
 ask:=λ{A s k1 k2 v1 v2 C} _ ⟨a1,m,F,p,n1,g1,_,t,u⟩ ⟨a2,x,G,y,n2,g2,_,z,B⟩ q=>by
  subst m x;refine kat_lt g1 t g2 z ?_;have:=bU5 (b:=true) (A:=A) 0 (decide (p.toList.length+0 < y.toList.length+0)) u B rfl q;simpa using this
noncomputable abbrev sX(ks:List (List Str)):List (List Str):=sG tlS ks
def bV0(ks:List (List Str)):(sX ks).Perm ks/\SoG tlS (sX ks):=cF6 bU4 ks
def aX4{ks ls:List (List Str)}(h:ls.Perm ks):sX ls=sX ks:=bU9 h
end Sx
namespace L2
open PySem PySem.Spec PyProof.Rows Sx
theorem yY{P:Program}{w:World}:∀ {k:List Str} {us:List Value},dD (k.map V.str) us->ItemsAre (strKind P w) k us
 | [],_,.nil=>.nil
 | x::k,_,.cons h t=>by
   obtain⟨tk,rfl⟩:=h;exact .cons (by show Value.isStrOf x (.str x tk)=true;simp[Value.isStrOf]) (yY t)
def cY9{X:Cx}{pins:List (Addr×Obj)}{σ:St}{H:Hp}{s:Shared}{a:Addr}{k:List Str}(I:Inv X pins σ H s)(h:H a=some (.tup (k.map V.str))):dV8 X.prog X.w s.heap k a:=by
 obtain⟨b,r,⟨o,c,d,n,hd⟩,_⟩:=I.tuple (fJ (eM h));exact⟨o,b.toArray,n,c,d,hd,by simpa using yY r⟩
def vT:Hp->List Str->V->Prop:=λH k x=>∃ a,x=.ref a/\H a=some (.tup (k.map V.str))
abbrev bV1:=bE0 vT tlS λks=>∀ k∈ks,k≠[]
def pI{X:Cx}:iW X (.builtin "sorted") bV1:=rJ (skT X.prog X.w) (VAt:=vT) (λI ⟨a,e,h⟩ r=>by subst e;cases r;exact⟨a,rfl,cY9 I h⟩) trivial
end L2
namespace Dv
open PySem L2 Mr Sx
noncomputable abbrev tS(k:List Str):D:=.tup (k.map D.str)
noncomputable def bJ2:List D->Option (List (List Str))
 | []=>some []
 | .tup l::r=>(rE l).bind λk=>(bJ2 r).bind λks=>some (k::ks)
 | _=>none
theorem bE1:∀ {l:List D} {ks:List (List Str)},bJ2 l=some ks->l=ks.map tS
 | [],_,h=>by cases h;rfl
 | .tup l::r,_,h=>by
   obtain⟨k,a,h⟩:=aE h;obtain⟨ks,b,h⟩:=aE h;cases h;rw[sY a,bE1 b];rfl
 | .non::_,_,h=>by cases h
 | .int _::_,_,h=>by cases h
 | .str _::_,_,h=>by cases h
 | .bl _::_,_,h=>by cases h
 | .lst _::_,_,h=>by cases h
 | .dic _ _::_,_,h=>by cases h
def bV2(ks:List (List Str)):bJ2 (ks.map tS)=some ks:=by
 induction ks with
 | nil=>rfl
 | cons k r a=>show(rE (k.map D.str)).bind _=_;rw[mJ];show(bJ2 (r.map tS)).bind _=_;rw[a];rfl
theorem cP0{H:Hp}:∀ {ks:List (List Str)} {xs:List V},Rps H (ks.map tS) xs->PKs (vT H) ks xs
 | [],_,.nil=>⟨rfl,λi k x e=>by simp at e⟩
 | k::ks,_,.cons a t=>by
   obtain⟨d,f⟩:=cP0 t;refine⟨by simp[d],λi h j b c=>?_⟩;cases i with
   | zero=>
     simp at b c;subst b c;obtain⟨p,xs,e,g,r⟩:=gU (.inl a);rw[r.strs_inv]at g;exact⟨p,e,g⟩
   | succ i=>exact f i h j (by simpa using b) (by simpa using c)
theorem bV3{H:Hp}:∀ {ks:List (List Str)} {xs:List V},PKs (vT H) ks xs->Rps H (ks.map tS) xs
 | [],[],_=>.nil
 | k::ks,x::xs,⟨b,c⟩=>.cons (by obtain⟨a,rfl,g⟩:=c 0 k x rfl rfl;exact .tup g (bB4 k)) (bV3 ⟨by simpa using b,λi d e f h=>c (i+1) d e (by simpa using f) (by simpa using h)⟩)
 | [],_::_,⟨b,_⟩=>by simp at b
 | _::_,[],⟨b,_⟩=>by simp at b
open Classical in
noncomputable def aD3:FN:=λa=>match a with
 | [d]=>(cD3 d).bind λx=>(bJ2 x.2).bind λks=>if ks.length < 64/\(2<=ks.length->∀ k∈ks,k≠[])then some (.own (.lst ((sX ks).map tS)))else none
 | _=>none
def rK:aU4 bV1 aD3:=by
 intro H q vs Q res vw e k;unfold aD3 at e;split at e
 ·obtain⟨⟨b,l⟩,m,e⟩:=aE e;obtain⟨ks,d,e⟩:=aE e;dsimp only at d;split at e
  ·rename_i f;cases e;cases vw with
   | cons a t=>
     cases t;obtain⟨p,xs,rfl,n,h⟩:=bB6 a m;rw[bE1 d]at h;refine⟨p,b,_,ks,rfl,n,cP0 h,f.1,f.2,λr ys c j=>?_⟩;refine k _ _ (bM c) ⟨r,rfl,c,_,aW,bV3 ⟨j.1,λi k x o ex=>?_⟩⟩;obtain⟨a,rfl,g⟩:=j.2 i k x o ex;exact⟨a,rfl,bM c _ _ g⟩
  ·cases e
 ·cases e
def bV4{ks:List (List Str)}{K:Res->Prop}:OK1 (aD3 [.lst (ks.map tS)]) K=((ks.length < 64/\(2<=ks.length->∀ k∈ks,k≠[]))/\K (.own (.lst ((sX ks).map tS)))):=by
 show OK1 ((bJ2 (ks.map tS)).bind _) K=_;rw[bV2];show OK1 (if _ then _ else none) K=_;rw[bW];rfl
end Dv
namespace L2
open PySem PySem.Spec PyProof.Rows
section
variable{X:Cx}
def cF8(w:X.calm=true):iW X (.builtin "any") (λxs H Q=>∃ (a:Addr) (bs:List Bool),xs=[.ref a]/\SqL X.K H a (bs.map V.bl)/\Q (.bl (bs.any id)) H):=by
 intro pins s σ H xs us Q I r h;obtain⟨a,bs,rfl,ha,q⟩:=h;obtain⟨u,rfl,y⟩:=zX r;cases y;obtain⟨c,l,p,F⟩:=I.list ha;have k:a < s.heap.objs.size:=by obtain⟨_,e,_⟩:=p.isList;exact a6b e
 have B:X.A.in1.handled=none:=I.ok.hd w;have d:=l.length;rw[a1a]at d;refine call_any_walk (wpAny_pyIter_list p.isList ?_);refine⟨s.heap.objs.size,[s.heap.objs.size,a],[s.heap.objs.size],c.toArray.size,_,_,λi=>(bs[i]?).getD true,rfl,Walks.list (A:=X.A.in1) B _ a (a1d k) c.toArray,
  ⟨⟨_,a8b _ rfl,rfl,rfl⟩,p.isList.push _⟩,λi v s' G J C m=>?_,λh' tk D=>?_⟩
 ·have hi:c[i]? = some v:=by simpa using C
  have n:i < c.length:=(a2a.mp hi).1;have g:i < bs.length:=by lia
  obtain⟨u,t,E⟩:=l.get (i:=i) (x:=V.bl bs[i]) (by rw[a3c,a0a g];rfl);rw[hi]at t;cases t;have e:v=Value.bool bs[i]:=E;subst e;simp only[List.getElem?_eq_getElem g,Option.getD_some]at m;exact a4i m
 ·have e:((List.range c.toArray.size).any λi=>(bs[i]?).getD true)=bs.any id:=by
   rw[a2b,← d,a0e,List.any_eq_true,List.any_eq_true];constructor;rintro⟨i,hi,j⟩;have f:=a8c.mp hi;rw[a0a f]at j;exact⟨_,a5b f,j⟩;rintro⟨b,g,j⟩;obtain⟨i,hi,rfl⟩:=a9d g;exact⟨i,a8c.mpr hi,by rw[a0a hi];exact j⟩
  rw[e];exact⟨.bl _,H,I.kept (t':=tk) λb o q=>D b o (λhm=>by
   have z:b=s.heap.objs.size:=by simpa using hm
   rw[z]at q;exact a0f _ (a6b q)) (a5a _ q),rfl,q⟩
end
end L2
namespace Dv
open PySem L2
def dP4(K:W.Frag):List V->Hp->L2.VK->Prop:=λxs H Q=>∃ (a:Addr) (bs:List Bool),xs=[.ref a]/\SqL K H a (bs.map V.bl)/\Q (.bl (bs.any id)) H
noncomputable def dP5:FN:=λa=>match a with
 | [.lst l]=>(aN1 l).map λbs=>.val (.bl (bs.any id))
 | _=>none
def bV5{K:W.Frag}:aU4 (dP4 K) dP5:=by
 intro H f vs Q res vw e k;unfold dP5 at e;split at e;obtain⟨bs,c,d⟩:=a4c.mp e;cases d;obtain⟨x,rfl,v⟩:=aV3 vw;obtain⟨p,xs,rfl,a,b⟩:=iN v;rw[aH1 c]at b;rw[b.bls_inv]at a;exact⟨p,bs,rfl,fN a,k _ H (.refl _) (.bl _)⟩;cases e
def aP6{X:Cx}(K:W.Frag)(a:X.K=K)(b:X.calm=true):iW X (.builtin "any") (dP4 K):=by rw[← a];exact cF8 b
theorem bE2{bs:List Bool}{K:Res->Prop}:OK1 (dP5 [.lst (bs.map D.bl)]) K=K (.val (.bl (bs.any id))):=by
 show OK1 ((aN1 (bs.map D.bl)).map λbs=>Res.val (.bl (bs.any id))) K=_;rw[aN2];rfl
end Dv
namespace Sx
open PySem PySem.W PyProof.Rows
noncomputable def skI(prog:Program)(w:World):Sk prog w Int where
 lt:=λa b=>decide (a < b)
 lin:=yV
 At:=λ_ k v=>∃ t,v=.int k t
 live:=λ⟨_,e⟩=>nomatch e
 stay:=λh _=>h
 kind:=oneType'
 ok:=λ_=>True
 rm:=λ_=>True
 kd:=λT c _ q=>kas_kind (T:=.type "int") c (λv d=>by
  obtain⟨i,hi⟩:=List.getElem?_of_mem d;obtain⟨k,_,t,rfl⟩:=T.2 i v hi;exact .now) (by decide) (by decide) q
 ask:=λ_ ⟨t,f⟩ ⟨u,g⟩ q=>by subst f g;rw[keyLt'_oneType];exact oneLt_int q
noncomputable def skL(prog:Program)(w:World):Sk prog w (List Int) where
 lt:=tlI
 lin:=bD6 yV
 At:=λh k v=>∃ a,v=.ref a/\dZ8 h k a
 live:=λZ1=>by obtain⟨a,e,c,n,d,sl,g,_⟩:=Z1;cases e;exact⟨_,g⟩
 stay:=λ⟨a,e,c,n,d,sl,g,r⟩ f=>⟨a,e,c,n,d,sl,f a _ e g,r⟩
 kind:=oneType'
 ok:=λ_=>True
 rm:=λA=>A.units < cLine
 kd:=λ{A E s ks vs Q} T j _ q=>kas_kind (T:=.type "list") j (λv l=>by
  obtain⟨i,hi⟩:=List.getElem?_of_mem l;obtain⟨k,_,a,rfl,c,n,d,sl,g,r⟩:=T.2 i v hi;exact λA' y z s' f m=>a4u (T:="list") ⟨_,f a _ g,rfl⟩ m) (by decide) (by decide) q
 ask:=λo ⟨a,p,t⟩ ⟨b,u,x⟩ q=>by subst p u;exact cF7 o t x q
end Sx
namespace L2
open PySem PySem.Spec PyProof.Rows Sx
def vI:Hp->Int->V->Prop:=λ_ k x=>x=.int k
def vL:Hp->List Int->V->Prop:=λH k x=>∃ a o,x=.ref a/\H a=some (.frz o (.lst (k.map V.int)))
abbrev cP1:=bE0 vI (λa b:Int=>decide (a < b)) λ_=>True
abbrev cP2:=bE0 vL tlI λ_=>True
def aD4{X:Cx}:iW X (.builtin "sorted") cP1:=rJ (skI X.prog X.w) (VAt:=vI) (λI e r=>by cases e;exact r) trivial
def rL{X:Cx}(l:X.A.units+64 < cLine):iW X (.builtin "sorted") cP2:=rJ (skL X.prog X.w) (VAt:=vL) (λI ⟨a,o,e,h'⟩ r=>by
 subst e;have h:=bA4 h';cases r;obtain⟨b,f,g,m⟩:=I.list (fN h);obtain⟨⟨c,i,j,sl⟩,k,d,n,hd⟩:=g.isList;simp only at d hd;subst d hd;exact⟨a,rfl,b.toArray,n,i,sl,k,by simpa using bH1 f⟩) (show X.A.units+1+1 < cLine by lia)
end L2
namespace Dv
open PySem L2 Mr Sx
noncomputable abbrev lI(k:List Int):D:=.lst (k.map D.int)
noncomputable def bJ3:List D->Option (List (List Int))
 | []=>some []
 | .lst l::r=>(aP3 l).bind λk=>(bJ3 r).bind λks=>some (k::ks)
 | _=>none
theorem bE3:∀ {l:List D} {ks:List (List Int)},bJ3 l=some ks->l=ks.map lI
 | [],_,h=>by cases h;rfl
 | .lst l::r,_,h=>by
   obtain⟨k,a,h⟩:=aE h;obtain⟨ks,b,h⟩:=aE h;cases h;rw[aI4 a,bE3 b];rfl
 | .non::_,_,h=>by cases h
 | .int _::_,_,h=>by cases h
 | .str _::_,_,h=>by cases h
 | .bl _::_,_,h=>by cases h
 | .tup _::_,_,h=>by cases h
 | .dic _ _::_,_,h=>by cases h
def bV6(ks:List (List Int)):bJ3 (ks.map lI)=some ks:=by
 induction ks with
 | nil=>rfl
 | cons k r a=>show(aP3 (k.map D.int)).bind _=_;rw[aP4];show(bJ3 (r.map lI)).bind _=_;rw[a];rfl
theorem cP3{H:Hp}:∀ {ks:List Int} {xs:List V},PKs (vI H) ks xs->Rps H (ks.map D.int) xs
 | [],[],_=>.nil
 | k::ks,x::xs,⟨a,b⟩=>.cons (by rw[show x=.int k from b 0 k x rfl rfl];exact .int k) (cP3 ⟨by simpa using a,λi c d e f=>b (i+1) c d (by simpa using e) (by simpa using f)⟩)
 | [],_::_,⟨a,_⟩=>by simp at a
 | _::_,[],⟨a,_⟩=>by simp at a
noncomputable def yZ:FN:=λc=>match c with
 | [d]=>(cD3 d).bind λx=>(aP3 x.2).bind λns=>if ns.length < 64 then some (.own (.lst ((sG (λa b:Int=>decide (a < b)) ns).map D.int)))else none
 | _=>none
def aP7:aU4 cP1 yZ:=by
 intro H o vs Q res vw e k;unfold yZ at e;split at e
 ·obtain⟨⟨b,l⟩,j,e⟩:=aE e;obtain⟨ks,d,e⟩:=aE e;dsimp only at d;split at e
  ·rename_i m;cases e;cases vw with
   | cons a t=>
     cases t;obtain⟨p,xs,rfl,n,f⟩:=bB6 a j;rw[aI4 d]at f;obtain rfl:=f.ints_inv;refine⟨p,b,_,ks,rfl,n,⟨by simp,λi k x c ex=>?_⟩,m,λ_=>trivial,λr ys g h=>?_⟩;rw[a3c,c]at ex;cases ex;rfl;exact k _ _ (bM g) ⟨r,rfl,g,_,aW,cP3 ⟨h.1,λi k x c ex=>h.2 i k x c ex⟩⟩
  ·cases e
 ·cases e
theorem cP4{H:Hp}:∀ {ks:List (List Int)} {xs:List V},Rps H (ks.map lI) xs->PKs (vL H) ks xs
 | [],_,.nil=>⟨rfl,λi k x e=>by simp at e⟩
 | k::ks,_,.cons a t=>by
   obtain⟨d,f⟩:=cP4 t;refine⟨by simp[d],λi h j b c=>?_⟩;cases i with
   | zero=>
     simp at b c;subst b c;cases a with
     | lst g r=>rw[r.ints_inv]at g;exact⟨_,_,rfl,g⟩
   | succ i=>exact f i h j (by simpa using b) (by simpa using c)
theorem bV7{H:Hp}:∀ {ks:List (List Int)} {xs:List V},PKs (vL H) ks xs->Rps H (ks.map lI) xs
 | [],[],_=>.nil
 | k::ks,x::xs,⟨b,c⟩=>.cons (by obtain⟨a,o,rfl,g⟩:=c 0 k x rfl rfl;exact .lst g (jJ k)) (bV7 ⟨by simpa using b,λi d e f h=>c (i+1) d e (by simpa using f) (by simpa using h)⟩)
 | [],_::_,⟨b,_⟩=>by simp at b
 | _::_,[],⟨b,_⟩=>by simp at b
noncomputable def qR:FN:=λa=>match a with
 | [d]=>(cD3 d).bind λx=>(bJ3 x.2).bind λks=>if ks.length < 64 then some (.own (.lst ((sG tlI ks).map lI)))else none
 | _=>none
def zA:aU4 cP2 qR:=by
 intro H s vs Q res vw e k;unfold qR at e;split at e
 ·obtain⟨⟨b,l⟩,j,e⟩:=aE e;obtain⟨ks,d,e⟩:=aE e;dsimp only at d;split at e
  ·rename_i m;cases e;cases vw with
   | cons a t=>
     cases t;obtain⟨p,xs,rfl,n,f⟩:=bB6 a j;rw[bE3 d]at f;refine⟨p,b,_,ks,rfl,n,cP4 f,m,λ_=>trivial,λr ys c h=>?_⟩;refine k _ _ (bM c) ⟨r,rfl,c,_,aW,bV7 ⟨h.1,λi k x q ex=>?_⟩⟩;obtain⟨a,o,rfl,g⟩:=h.2 i k x q ex;exact⟨a,o,rfl,bM c _ _ g⟩
  ·cases e
 ·cases e
theorem bV8{ks:List Int}{K:Res->Prop}:OK1 (yZ [.lst (ks.map D.int)]) K=(ks.length < 64/\K (.own (.lst ((sG (λa b:Int=>decide (a < b)) ks).map D.int)))):=by
 show OK1 ((aP3 (ks.map D.int)).bind _) K=_;rw[aP4];show OK1 (if _ then _ else none) K=_;rw[bW];rfl
theorem bV9{ks:List (List Int)}{K:Res->Prop}:OK1 (qR [.lst (ks.map lI)]) K=(ks.length < 64/\K (.own (.lst ((sG tlI ks).map lI)))):=by
 show OK1 ((bJ3 (ks.map lI)).bind _) K=_;rw[bV6];show OK1 (if _ then _ else none) K=_;rw[bW];rfl
end Dv
namespace L2
open PySem PySem.Spec PyProof.Rows
def cP5:V->List V->Hp->VK->Prop:=λx vs H Q=>∃ l xs i y,x=.ref l/\vs=[.int (i:Nat),y]/\H l=some (.lst xs)/\i<=xs.length/\xs.length < 1000/\Q .non (upd H l (.lst (xs.take i++y::xs.drop i)))
section
variable{X:Cx}
def cF9:MtM X "list.insert" cP5:=by
 intro pins s σ H x vs v us Q I g k h;obtain⟨l,xs,i,y,rfl,rfl,f,hi,B,q⟩:=h;cases g;obtain⟨u,b,rfl,⟨t,rfl⟩,m⟩:=k.two;obtain⟨z,a,n,r,C,e⟩:=I.lstM f;have sl:10000<=sizeLine:=by decide
 have o:¬(!Builtin.List.listFitsIndex (i:Int))=true:=by rw[fitsIndex_both (by lia) (by lia)];simp
 have p:a.toArray.size<=sizeLine:=by rw[a2b];lia
 have c:(if(i:Int) < 0 then((i:Int)+((a.toArray.size:Nat):Int)).toNat else min (i:Int).toNat a.toArray.size)=i:=by
  rw[a3P (by lia),a2b];lia
 generalize D:(i:Int)=j at *;have hm:=@AutoListH.list_insert_list_int_val_1 l a.toArray n j t b o p;have d:wpAny (model X.prog X.w) X.A (call (.builtin "list.insert") (.ref l::[.int j t,b])) (EP X pins σ Q) X.xe s:=a4n F.slot_list_insert ⟨_,e,rfl⟩ F.entry_list_insert (F.args_list_insert_3 _ _ _) hm ⟨e,by
  refine⟨.non,_,I.lset (its':=a.take i++b::a.drop i) f e ?_ ((r.take i).append (.cons m (r.drop i))) ?_,rfl,q⟩;show(a.toArray.extract 0 _).push b++a.toArray.extract _=_;rw[c];simp;exact a6h (by simp);rw[a8a,a6f,a9c,a1f];lia⟩
 exact d
def cG0(a:List Value):slicePick a.toArray none none (some (-1))=a.reverse.toArray:=by
 unfold slicePick sliceBounds sliceRange;simp only[List.size_toArray,Option.getD_some,show ¬ ((-1:Int) > 0) by decide,if_false];congr 1;have c:(if((a.length:Int)-1) > -1 then(((a.length:Int)-1)-(-1)-(-1)-1) / (-(-1))else 0).toNat=a.length:=by
  split;rw[show(-(-1):Int)=1 by decide,Int.ediv_one];lia;lia
 rw[c];rw[List.filterMap_map];have d:∀ k∈List.range a.length,((λx=>a.toArray[x]?) ∘ λk:Nat=>(((a.length:Int)-1) + -1*(k:Int)).toNat) k=some (a.getD (a.length-1-k) Value.none):=λk b=>by
  have b:=a8c.mp b;have:(((a.length:Int)-1) + -1*(k:Int)).toNat=a.length-1-k:=by lia
  show a.toArray[(((a.length:Int)-1) + -1*(k:Int)).toNat]? = _;rw[this,a8h,a6a,a0a (by lia)];rfl
 have e:∀ l:List Nat,(∀ k∈l,((λx=>a.toArray[x]?) ∘ λk:Nat=>(((a.length:Int)-1) + -1*(k:Int)).toNat) k=some (a.getD (a.length-1-k) Value.none))->l.filterMap ((λx=>a.toArray[x]?) ∘ λk:Nat=>(((a.length:Int)-1) + -1*(k:Int)).toNat)=l.map λk=>a.getD (a.length-1-k) Value.none:=λl=>by
  induction l with
  | nil=>intro _;rfl
  | cons x r f=>intro h;rw[List.filterMap_cons_some (h x a3a),f λk b=>h k (a4a _ b),a4e]
 rw[e _ d];refine a2h λi=>?_;rw[a3c];by_cases hi:i < a.length;rw[List.getElem?_range hi,List.getElem?_reverse hi,a0a (by lia)];show some (a.getD (a.length-1-i) Value.none)=_;rw[a6a,a0a (by lia)];rfl;rw[a7f (by simp;lia),a7f (by simp;lia)];rfl
def dP6:V->Hp->VK->Prop:=λx H Q=>∃ a xs,x=.ref a/\hR H a=some (true,xs)/\∀ p,H p=none->Q (.ref p) (upd H p (.lst xs.reverse))
def dP7{e:Expr}{f:TE}{st:Expr}{g:TE}{pos k:Pos}(l:PE X e f)(m:PE X st g)(n:∀ σ H Q,Q (.int (-1)) H->g σ H Q):PE X (.Subscript e (.Slice none none (some st) k) pos) (tUn dP6 f):=by
 intro pins s σ H Q I h;refine Subscript_ (thn (l pins s σ H _ I h) λv s1 Z0=>?_);obtain⟨x,c,p,w,z⟩:=Z0;obtain⟨a,xs,rfl,A,q⟩:=z;cases w;refine wpAny_Slice ?_;rw[evalPart_none];refine a3S (a3S ?_);rw[evalPart_some];refine thn (m pins s1 σ c _ p (n σ c (λx H'=>x=.int (-1)/\H'=c) ⟨rfl,rfl⟩)) λu s2 ⟨y,B,C,D,E,F⟩=>?_;subst E F;obtain⟨t,rfl⟩:=D;have d:Inv X pins σ B {s2 with heap:=s2.heap.push {cls:=.type "slice",data:=.fields #[.none,.none,.int (-1) t]}}:=C.kept (t':=s2.toks) λb ob q=>a5a _ q;obtain⟨G,r,i,J⟩:=d.list (fN A);have j:=r.length;refine tail_any (T:="list") (ops:=[.ref a,.ref s2.heap.objs.size]) i.isList.typeIs slot_list_getitem.lookup ?_ (by with_unfolding_all rfl);refine wpAny_getItem_list_slice i.isList (Heap.IsSliceOf.new ..) .none .none (.int (-1) t) (by simp) ?_ (by rw[List.size_toArray]<;>lia);rw[cG0];refine⟨.ref _,_,d.laid (t':=s2.toks) (o:=.lst xs.reverse) (λb ob q=>a5a _ q) (a7a _) ?_,rfl,q _ (d.hok.fresh (a7a _))⟩;exact⟨by rw[List.length_reverse];exact J,_,0,r.reverse,a8b _ rfl⟩
end
end L2
namespace Dv
open PySem L2 Mr
noncomputable def dP8:FM:=λd a=>match d,a with
 | .lst l,[.int i,y]=>if 0<=i/\i<=l.length/\l.length < 1000 then some (.lst (l.take i.toNat++y::l.drop i.toNat),.non)else none
 | _,_=>none
def cZ0:dV3 cP5 dP8:=by
 intro H d p j vs Q d' e g r c k;unfold dP8 at c;split at c
 ·split at c
  ·rename_i l i y hi;cases c;obtain⟨xs,h,f⟩:=mD g;cases r with
   | cons a t=>cases t with
     | cons b t=>
       cases t;cases a;have m:=f.length;refine⟨p,xs,i.toNat,_,rfl,by rw[Int.toNat_of_nonneg hi.1],h,by lia,by lia,k _ _ ⟨_,aW,?_⟩ .non⟩;exact((f.take i.toNat).append (.cons b (f.drop i.toNat))).mono (fL.ext g)
  ·cases c
 ·cases c
noncomputable def cZ1:F1:=λd=>match d with
 | .lst l=>some (.own (.lst l.reverse))
 | _=>none
def cG1:cV1 dP6 cZ1:=by
 intro H d x Q res v e k;unfold cZ1 at e;split at e;rename_i l;cases e;obtain⟨p,xs,rfl,b,c⟩:=iN v;refine⟨p,xs,rfl,b,λr a=>k _ _ (bM a) ⟨r,rfl,a,_,aW,?_⟩⟩;exact c.reverse.mono (.same (bM a));cases e
theorem bW0{l:List D}{K:Res->Prop}:OK1 (cZ1 (.lst l)) K=K (.own (.lst l.reverse)):=rfl
def dP9{X:Cx}{e st:Expr}{a:DE}{b:TE}{pos c:Pos}(d:GE X e a)(f:PE X st b)(g:∀ σ H Q,Q (.int (-1)) H->b σ H Q):GE X (.Subscript e (.Slice none none (some st) c) pos) (aG1 cZ1 a):=
 .mk λΓ=>peW (dP7 (d.to Γ) f g) λ_ _ _=>aG2 cG1
def cZ2{X:Cx}{e:Expr}{a:DE}{j pos b c d}(f:GE X e a):GE X (.Subscript e (.Slice none none (some (.UnaryOp .USub (.Constant (.int 1) j b) d)) c) pos) (aG1 cZ1 a):=dP9 f (dH4 aK4 gH) λσ H Q q=>⟨1,rfl,q⟩
def dQ0(C:MC):Prop:=∀ as (K a:Res->List Sl->Prop),(∀ r l,K r l->a r l)->C as K->C as a
structure GM1(E:Ex)(X:Cx)(st:Stmt)(m:MS):Prop where
 to:∀ Γ,PS X st (mTS Γ E m)
 mon:bB9 m
section
variable{X:Cx}{E:Ex}{st:Stmt}{ss lS:List Stmt}{r:DS}{a b m:MS}{pos:Pos}
def aD5:bB9 (RS r):=λ_ _ _ w q=>dL q w
def cP6{Γ:Gm}{D:Ends}{σV:St}{H:Hp}(h:mTS Γ E (RS r) D σV H):dTS Γ E r D σV H:=by
 obtain⟨σ,ok,q⟩:=h;obtain⟨o,e,q⟩:=jM.mp q;exact⟨σ,ok,o,e,q⟩
def bW1(h:GSs E X ss r):GM E X ss (RS r):=⟨λΓ=>dL6 (h.to Γ) λ_ _ _=>cP6,aD5⟩
def cZ3(h:GS E X st r):GM1 E X st (RS r):=⟨λΓ=>psW (h.to Γ) λ_ _ _=>cP6,aD5⟩
def dQ1(h:GM1 E X st m):GM E X [st] m:=⟨λΓ=>lT (h.to Γ),h.mon⟩
def sqM(b:MS)(Q:Out->Prop)(o:Out):Prop:=match o with
 | .nx a=>b a Q
 | o=>Q o
def bL1(a b:MS):MS:=λσ Q=>a σ (sqM b Q)
def zC(e:bB9 a)(g:bB9 b):bB9 (bL1 a b):=λσ Q h w q=>e σ _ _ (λo q=>by
 cases o with
 | nx d=>exact g d _ _ w q
 | rt r σ'=>exact w _ q
 | bk σ'=>exact w _ q
 | ct σ'=>exact w _ q
 | ex c f σ'=>exact w _ q) q
def aI6(e:GM1 E X st a)(g:GM E X lS b):GM E X (st::lS) (bL1 a b) where
 to:=λΓ=>dL6 (iQ (e.to Γ) (g.to Γ)) λD σV H ⟨σ,ok,q⟩=>⟨σ,ok,e.mon σ _ _ (λo q=>by
  cases o with
  | nx d=>exact λj k h i=>⟨d,h,g.mon d _ _ (λo q=>q.after i) q⟩
  | rt r σ'=>exact q
  | bk σ'=>exact q
  | ct σ'=>exact q
  | ex c f σ'=>exact q) q⟩
 mon:=zC e.mon g.mon
def mIf(t:DT)(a b:MS):MS:=λσ Q=>RT t σ λx c=>if x=true then a c Q else b c Q
def dZ9{c:Expr}{l k:List Stmt}{t:DT}(i:GT X c t)(ha:GM E X l a)(h:GM E X k b):GM1 E X (.If c l k pos) (mIf t a b) where
 to:=λΓ=>psW (bG2 (i.to Γ) (ha.to Γ) (h.to Γ)) λD σV H ⟨σ,ok,q⟩=>by
  obtain⟨⟨x,d⟩,j,q⟩:=jM.mp q;refine⟨σ,ok,x,d,j,λm f g=>?_⟩;dsimp only at q;split at q;rename_i e;rw[a3O e];exact⟨d,f,ha.mon _ _ _ (λo q=>q.after g) q⟩;rename_i e;rw[a3P e];exact⟨d,f,h.mon _ _ _ (λo q=>q.after g) q⟩
 mon:=λσ Q n w q=>dL q λx q=>by
  dsimp only at q ⊢;split at q;rename_i e;rw[a3O e];exact ha.mon _ _ _ w q;rename_i e;rw[a3P e];exact h.mon _ _ _ w q
def aA3(i n:Nat)(C:MC)(b:DA):MS:=λσ Q=>OK1 (b σ) λx=>OK1 (tV x.2 x.1) λas=>(as.length=n/\eW x.1=true)/\C as λy as'=>OK1 (dV4 i y (lB x.1 as' 0 x.2)) λa=>Q (.nx a)
def cG2{Γ:Gm}{i:Nat}{x:Res}{σ a c:Sg}{σV:St}{H H1:Hp}{v:V}(f:StOk Γ H1 a σV)(l:lV Γ H1 a σV x v)(g:Step σ σV H a σV H1)(m:Frh H x v)(k:dV4 i x a=some c) :
  StOk Γ H1 c (σV.set i (some v))/\Step σ σV H c (σV.set i (some v)) H1:=by
 cases x with
 | val d=>
   have b:(if gZ a i=true then some (a.set i (some ⟨.val,d⟩))else none)=some c:=k;split at b;rename_i h;cases b;exact⟨f.put h l,g.put h .val (.inl rfl)⟩;cases b
 | own d=>
   have b:(if gZ a i=true then some (a.set i (some ⟨.own,d⟩))else none)=some c:=k;split at b;rename_i h;cases b;obtain⟨p,rfl,n,o,q⟩:=l;exact⟨f.putOwn h n o q,g.put h .own (.inr ⟨rfl,λp e=>m _ p rfl e⟩)⟩;cases b
 | slot j=>cases k
def tD{i n:Nat}{C:MC}{a:DA}(b:dQ0 C):bB9 (aA3 i n C a):=λσ Q d w q=>dL q λx q=>dL q λas q=>⟨q.1,b _ _ _ (λy as' q=>dL q λc q=>w _ q) q.2⟩
def aX5{i n:Nat}{C:MC}{e:DA}{f:XK}(g:dQ0 C)(h:∀ Γ,PS X st (cR6 (bG8 (bR9 n C) [] f (dTA Γ e)) (aE8 i))):GM1 E X st (aA3 i n C e) where
 to:=λΓ=>psW (h Γ) λD σV H ⟨σ,ok,q⟩=>by
  obtain⟨⟨rs,a⟩,j,q⟩:=jM.mp q;obtain⟨as,k,⟨l,hn⟩,q⟩:=jM.mp q;refine⟨σ,ok,rs,a,j,λvs m b o d p=>?_⟩;show bR9 n C (vs++[]) m _ f;rw[a3g];obtain⟨r,c⟩:=aN0 k hn b o d p;refine⟨as,r,l,g _ _ _ (λy as' q v s po t=>?_) q⟩;obtain⟨u,w,x,z⟩:=c y as' v s po t;obtain⟨A,B,q⟩:=jM.mp q;obtain⟨F,G⟩:=cG2 u w x z B;exact q _ _ F G
 mon:=tD g
end
def zD{len:Nat}{m:MS}(hm:bB9 m):dQ0 (dD9 len m):=λas K b w q=>hm _ _ _ (λo q=>by
 cases o with
 | nx σ=>exact w _ _ q
 | rt r σ=>obtain⟨a,e,q⟩:=q;exact⟨a,e,w _ _ q⟩
 | bk σ=>exact q
 | ct σ=>exact q
 | ex c f σ=>exact q) q
def bJ4{C:MC}{K:W.Frag}{H:Hp}{a:Addr}{ns:List Int}(b:dQ0 C)(c:bS9 K=true)(d:dJ2 H)(f:SqL K H a (ns.map V.int))(h:C [⟨.val,.lst (ns.map D.int)⟩] λy _=>y=.val (.bl true)) :
  bR9 1 C [.ref a] H (λv _=>v=.bl true) (λ_ _ _=>False):=
 ⟨_,cW3 c d f,rfl,b _ _ _ (λy as' e v H' po g=>by subst e;cases g;rfl) h⟩
def bE4{Γ:Gm}{k:Nat}{ri:DE}{c g:Sg}{σV:St}{t:Hp}{d:D}{v:V}{Q:St->Hp->Prop}(h:StOk Γ t c σV)(J:Rp t d v)(e:aS6 k ri (dC d) c=some (.nx g))
  (kk:∀ u,StOk Γ u g σV->Step c σV t g σV u->Q σV u):dD3 (bK8 k) (dTE Γ ri) bN7 v σV t Q:=by
 have f:(if aM5 "list" k c=true then(ri c).bind λy=>(rd y.2 y.1).bind λF=>match F with
   | .int i=>(bR4 (λa _=>(dN3 i d a).map λb=>(b,.non)) k [] y.2).bind λz=>some (Out.nx z.2)
   | _=>none else none)=some (.nx g):=e
 split at f
 ·rename_i hn;obtain⟨⟨y,w⟩,K,f⟩:=aE f;obtain⟨F,L,f⟩:=aE f;obtain⟨s0,x,A,M⟩:=sT hn;obtain⟨p,B,ow⟩:=h.ownAt x A;dsimp only at f;split at f
  ·rename_i i;obtain⟨⟨z,N⟩,O,f⟩:=aE f;cases f;obtain⟨s,d',y',G,hm,P,rfl,rfl⟩:=jK O;obtain⟨b,H,R⟩:=a4c.mp P;cases R;refine⟨_,B,c,h,y,w,K,λvi S n T o f2=>?_⟩;obtain rfl:=eQ (T.vw n L);obtain⟨p',q,r⟩:=n.ownAt G (jP hm);rw[B]at q;cases q;have U:Rp S d v:=Rp.mono (o.ext h) J;obtain⟨m,W⟩:=s;cases W with
   | lst l=>
     obtain⟨j,X,Y⟩:=a4c.mp H;cases Y;obtain⟨xs,Z,I⟩:=mD r;refine⟨p,xs,i,j,rfl,rfl,Z,by rw[← I.length];exact X,?_⟩;obtain⟨C,E⟩:=n.write (d':=.lst (l.set j d)) (o':=.lst (xs.set j v)) G hm B ⟨_,aW,(I.set j U).mono (fL.ext r)⟩;exact kk _ C (o.trans E)
   | _=>cases H
  ·cases f
 ·cases f
noncomputable def cG3(k:Nat)(c f g:DE):DS:=λσ=>(g σ).bind λx=>match x.1 with
 | .val (.tup [d,e])=>(aS6 k c (dC d) x.2).bind λo=>match o with
   | .nx a=>(aS6 k f (dC e) a).bind λo=>match o with
     | .nx b=>some (.nx b)
     | _=>none
   | _=>none
 | _=>none
def cZ4{X:Cx}{E:Ex}{K:W.Frag}{st:Stmt}{k:Nat}{l m n:DE}(h:∀ Γ,PS X st (cR6 (dTE Γ n) (aT8 K 2 (bL7 (dD3 (bK8 k) (dTE Γ l) bN7) (bL7 (dD3 (bK8 k) (dTE Γ m) bN7) dU8))))):GS E X st (cG3 k l m n):=.mk λΓ=>psW (h Γ) λD σV H ⟨σ,ok,o,e,q⟩=>by
 obtain⟨⟨x,c⟩,r,e⟩:=aE e;refine⟨σ,ok,x,c,r,λv G a s f I=>?_⟩;dsimp only at e;split at e
 ·rename_i d J;obtain⟨L,u,e⟩:=aE e;split at e
  ·rename_i w;obtain⟨M,y,e⟩:=aE e;split at e
   ·rename_i z;cases e;obtain⟨p,xs,rfl,A,B⟩:=gU (.inl s);cases B with
    | cons C t=>cases t with
      | cons F t=>
        cases t;refine⟨_,eM A,rfl,_,_,rfl,bE4 a C u λN g b=>⟨_,_,rfl,bE4 g (Rp.mono (b.ext a) F) y λO i j=>⟨rfl,q _ _ i ((f.trans b).trans j)⟩⟩⟩
   ·cases e
  ·cases e
 ·cases e
theorem pJ{k:Nat}{f g c:DE}{σ:Sg}{Q:Out->Prop}:RS (cG3 k f g c) σ Q=RE c σ λx b=>OK1 (match x with | .val (.tup [d,e])=>some (d,e) | _=>none) λh=>
  RS (aS6 k f (dC h.1)) b λo=>OK1 (match o with | .nx a=>some a | _=>none) λa=>RS (aS6 k g (dC h.2)) a λo=>OK1 (match o with | .nx a=>some a | _=>none) λa=>Q (.nx a):=by
 unfold RS RE;show OK1 ((c σ).bind _) Q=_;rw[aS];congr 1;funext x;obtain⟨x,b⟩:=x;dsimp only;split
 ·show OK1 ((aS6 _ _ _ _).bind _) Q=OK1 (aS6 _ _ _ _) _;rw[aS];congr 1;funext o;cases o with
  | nx a=>
    show OK1 ((aS6 _ _ _ _).bind _) Q=OK1 (aS6 _ _ _ _) _;rw[aS];congr 1;funext o;cases o<;>rfl
  | _=>rfl
 ·rfl
end Dv
namespace L2
open PySem Dv
inductive FQ(Q:Hp->Prop):Hp->Prop
 | done {H:Hp}:Q H->FQ Q H
 | step {H:Hp} {p:Addr} {u:HO}:H p=some u->Fz u->(∀ o,FQ Q (upd H p (.frz o u)))->FQ Q H
def cZ5{P:Program}{w:World}{H₀ H:Hp}{fs ex:List Addr}{h₀ h:Heap}{p:Addr}{u:HO}(un:Un fs ex H₀ H h₀ h)(ok:HOk P w H h)(e:H p=some u)(c:Fz u):∃ o,Un fs ex H₀ (upd H p (.frz o u)) h₀ h/\HOk P w (upd H p (.frz o u)) h:=by
 have nt:∀ b xs,H b=some (.tup xs)->b≠p:=λb xs q z=>by subst z;rw[e]at q;cases q;exact c
 have f:∀ b o x,H b=some (.frz o x)->b≠p:=λb o x q z=>by subst z;rw[e]at q;cases q;exact c
 have no:∀ b x,H b=some (.own x)->b≠p:=λb x q z=>by subst z;rw[e]at q;cases q;exact c
 have g:∀ b x,H b=some (.tbl x)->b≠p:=λb x q z=>by subst z;rw[e]at q;cases q;exact c
 have i:∀ b,H b=none->b≠p:=λb q z=>by subst z;rw[e]at q;cases q
 obtain⟨o,j⟩:∃ o,h.get? p=some o:=by
  have:=ok p u e;cases u with
  | lst xs=>obtain⟨_,_,_,_,q⟩:=this;exact⟨_,q⟩
  | dK kvs=>obtain⟨_,_,_,_,ob,_,_,q,_⟩:=this;exact⟨_,q⟩
  | dT kvs=>obtain⟨_,_,_,_,ob,_,_,q,_⟩:=this;exact⟨_,q⟩
  | _=>exact c.elim
 have st:∀ a x,fE P w H h a x->fE P w (upd H p (.frz o u)) h a x:=λa x k=>
  k.stay (λ_ _ _ q=>q) (λb q=>by rw[aO (no b _ q)];exact q) λb xs q=>by rw[aO (nt b _ q)];exact q
 refine⟨o,⟨un.keep,un.slot,λb ob q n l=>?_,un.there,λb xs q=>?_,λb ob x q=>?_,λb ps q=>?_⟩,λa x q=>?_⟩;have:=un.free b ob q n l;rw[aO (i b this)];exact this;have:=un.tups b xs q;rw[aO (nt b _ this)];exact this;have:=un.frzs b ob x q;rw[aO (f b _ _ this)];exact this;obtain⟨m,d⟩:=un.tbls b ps q;exact⟨m,by rw[aO (g b _ d)];exact d⟩;by_cases ha:a=p;subst ha;rw[aW]at q;cases q;exact⟨j,st a u (ok a u e)⟩;rw[aO ha]at q;exact st a x (ok a x q)
def spF(sp:Sp):Sp:=λvs H Q E=>sp vs H (λv H'=>FQ (Q v) H') E
def FnOk.fz{P:Program}{w:World}{K:W.Frag}{mg:Str->Option Value}{base:Heap}{CX:CXT}{k:Nat}{f:Addr}{fd:FuncData}{ps:List Str}{sp:Sp}(F:FnOk P w K mg base CX k f fd ps sp):FnOk P w K mg base CX k f fd ps (spF sp):=
 ⟨λvs H Q E q=>F.len vs H _ E q,λA outer s H args us vs Q E g h i j l=>a4s (F.run A outer s H args us vs _ E g h i j l) λr s' q=>by
  cases r with
  | error e=>exact q
  | ok x=>
    cases x with
    | ret u=>
      obtain⟨v,H',m,n,c,d,p,t⟩:=(show CE outer P w H s _ u s' from q);show CE outer P w H s Q u s';clear q
      induction t with
      | done q=>exact⟨v,_,m,n,c,d,p,q⟩
      | step e y _ z=>
        obtain⟨o,a,b⟩:=cZ5 c d e y;exact z o a b
    | _=>exact q⟩
end L2
namespace Dv
open PySem L2 Mr
noncomputable abbrev qP(q:Str×List Str):D:=.tup [.str q.1,.tup (q.2.map D.str)]
noncomputable abbrev qD(qs:List (Str×List Str)):D:=.tup (qs.map qP)
def cZ6{H:Hp}{p:Addr}{i j m:Int}(b:H p=some (.lst [.int i,.int j])):ArgOk H [⟨.par,.lst [.int i,.int j]⟩,⟨.val,.int m⟩] [.ref p,.int m]:=by
 refine⟨rfl,λn s e=>?_,λn l s t q hn a c d f v1 v2=>?_,λn s e=>?_⟩
 ·match n,e with
  | 0,e=>cases e;exact⟨_,rfl,p,rfl,_,b,jJ [i,j]⟩
  | 1,e=>cases e;exact⟨_,rfl,.int m⟩
 ·match n,a,l,c with
  | 0,_,0,_=>exact hn rfl
  | 0,_,1,_=>cases v2
  | 1,a,_,_=>cases a;cases d
 ·match n,e with
  | 0,e=>cases e;exact λz=>nomatch z
  | 1,e=>cases e;exact λz=>nomatch z
def cZ7{p c:Addr}{i j m:Int}(h:cV7 [⟨.par,.lst [.int i,.int j]⟩,⟨.val,.int m⟩] [.ref p,.int m] c):c=p:=by
 obtain⟨n,s,e,mt,a⟩:=h
 match n,e with
 | 0,_=>cases a;rfl
 | 1,_=>cases a
def cG4{H H':Hp}{p:Addr}{i j a b m:Int}(po:PostOk [⟨.par,.lst [.int i,.int j]⟩,⟨.val,.int m⟩] [.ref p,.int m] H [⟨.par,.lst [.int a,.int b]⟩,⟨.val,.int m⟩] H'):hZ H' p/\SameBut p H H':=by
 refine⟨?_,λc o n e=>po.fr c o e λz=>n (cZ7 z)⟩;obtain⟨s',v,f,_,g,h⟩:=po.rel 0 _ rfl rfl;cases f;cases g;obtain⟨q,k,xs,d,l⟩:=(eN (s:=⟨.par,.lst [.int a,.int b]⟩) (λz=>nomatch z)).mp h;cases k;rw[Rps.ints_inv (ns:=[a,b]) l]at d;exact⟨a,b,d⟩
def dQ2{t:DT}{a b:MS}(ha:bB9 a)(d:bB9 b):bB9 (mIf t a b):=λσ Q e w q=>dL q λx q=>by
 dsimp only at q ⊢;split at q;rename_i c;rw[a3O c];exact ha _ _ _ w q;rename_i c;rw[a3P c];exact d _ _ _ w q
def dV9(ls:List (List Int)):Prop:=1<=ls.length/\ls.length<=6/\∀ l∈ls,l.length<=6/\(∀ n∈l,0<=n/\n < 6)/\l.Nodup/\l≠[]
noncomputable abbrev aP8(ls:List (List Int)):D:=.lst (ls.map λl=>.lst (l.map D.int))
def cRS:MC:=λas K=>∃ a b:Int,as=[⟨.par,.lst [.int a,.int b]⟩]/\∀ ls c d,dV9 ls->K (.own (aP8 ls)) [⟨.par,.lst [.int c,.int d]⟩]
def bW2:dQ0 cRS:=λas K f w ⟨a,b,e,q⟩=>⟨a,b,e,λls c d h=>w _ _ (q ls c d h)⟩
end Dv
namespace Mr
open PySem L2 Dv
noncomputable def jD:DS:=(bJ (iO (cK (aX gtI (aX ixD (aG 0) (dC (.int 0))) (dC (.int 0)))) (bJ (cM 2 (aX bC2 (aX ixD (aG 0) (dC (.int 0))) (aG 1)))
 (bJ (aS6 0 (dC (.int 0)) (aX dV6 (aX ixD (aG 0) (dC (.int 0))) (aG 1)))
 (gQ (aG 2)))) dI)
 (bJ (cM 3 (aX bC2 (aX aV2 (aX ixD (aG 0) (dC (.int 1))) (dC (.int 69623))) (dC (.int 2147483647))))
 (bJ (aS6 0 (dC (.int 1)) (aX iT (aX bC2 (aX iT (aX aV2 (aG 3) (dC (.int 48271))) (dC (.int 30103))) (dC (.int 2147483629))) (dC (.int 1))))
 (gQ (aX bC2 (aX dV6 (aX iT (aX aV2 (aG 3) (dC (.int 2147483647))) (aX ixD (aG 0) (dC (.int 1)))) (dC (.int 8191))) (aG 1))))))
noncomputable def aJ:Dv.Run:=pX 4 jD
noncomputable def eZ:DS:=(bJ (cM 2 (dCB sM (aC (aG 1) aL)))
 (bJ (cM 3 (kZ aL))
 (bJ (tT (cK (aX gtI (dCB mB (aC (aG 2) aL)) (dC (.int 0))))
 (gY (jI "list" 3 aS5 (aC (dFz (jI "list" 2 tX (aC (dFz (aV 2 aJ (aC (aG 0) (aC (dCB mB (aC (aG 2) aL)) aL)))) aL))) aL))))
 (gQ (aG 3)))))
noncomputable def aU:Dv.Run:=pX 4 eZ
noncomputable def jE:DS:=(gQ (dSl (aV 2 aU (aC (aG 0) (aC (aG 1) aL))) rD (dP (aX iT (dC (.int 1)) (aV 2 aJ (aC (aG 0) (aC (dCB bH9 (aC (dC (.int 4)) (aC (dCB mB (aC (aG 1) aL)) aL))) aL)))))))
noncomputable def cF:Dv.Run:=pX 2 jE
noncomputable def eD:DS:=(bJ (cM 1 (aX iT (dC (.int 1)) (aV 2 aJ (aC (aG 0) (aC (dC (.int 6)) aL)))))
 (bJ (cM 2 (aX iT (dC (.int 1)) (aV 2 aJ (aC (aG 0) (aC (dC (.int 6)) aL)))))
 (bJ (iO (cK (aX (eqD false) (aV 2 aJ (aC (aG 0) (aC (dC (.int 3)) aL))) (dC (.int 0)))) (gQ (cN [5] (sU (aC (aG 2) aL)) (dgN 5) iS (dFz (aV 2 cF (aC (aG 0) (aC (dCB aW8 (aC (aG 1) aL)) aL)))))) dI)
 (bJ (cM 3 (kZ (aC (dFz (aV 2 cF (aC (aG 0) (aC (dCB aW8 (aC (aG 1) aL)) aL)))) aL)))
 (bJ (cM 4 (dCB sM (aC (aX ixD (aG 3) (dC (.int 0))) aL)))
 (bJ (qY (sU (aC (aX dM6 (aG 2) (dC (.int 1))) aL)) (dgN 5)
 (bJ (cM 6 (aV 2 cF (aC (aG 0) (aC (aX ixD (aG 3) (aV 2 aJ (aC (aG 0) (aC (dCB mB (aC (aG 3) aL)) aL)))) aL))))
 (bJ (cM 7 (cN [8] (sU (aC (aG 1) aL)) (dgN 8) (cK (aX (inD true) (aG 8) (aG 4))) (dFz (aG 8))))
 (bJ (cM 6 (aX iT (dSl (aG 6) rD (dP (aV 2 aJ (aC (aG 0) (aC (aX iT (dCB mB (aC (aG 6) aL)) (dC (.int 1))) aL))))) (dSl (aG 7) rD (dP (aV 2 aJ (aC (aG 0) (aC (dC (.int 3)) aL)))))))
 (bJ (iO (cK (aX (eqD false) (aG 6) (kZ aL))) (cM 6 (dSl (aG 4) rD (dP (dC (.int 1))))) dI)
 (bJ (gY (jI "list" 3 aS5 (aC (dFz (dSl (aG 6) rD (dP (dC (.int 4))))) aL)))
 (gY (tQ "list" 4 bS5 (aC (cN [8] (dIt (aX ixD (aG 3) (aG1 cN8 (dC (.int 1))))) (dgN 8) (cK (aX (inD true) (aG 8) (aG 4))) (dFz (aG 8))) aL)))))))))
 (gQ (aG 3))))))))
noncomputable def cU:Dv.Run:=pX 9 eD
noncomputable def iF:DS:=(bJ (cM 2 (dC (.str "abcdefghijklmnopqrstuvwxyz")))
 (bJ (iO (cK (aX (eqD false) (aV 2 aJ (aC (aG 0) (aC (dC (.int 5)) aL))) (dC (.int 0)))) (bJ (dV5 3 4 (aC (aX ixD (aG 2) (aV 2 aJ (aC (aG 0) (aC (dC (.int 13)) aL)))) (aC (aX ixD (aG 2) (aX iT (dC (.int 13)) (aV 2 aJ (aC (aG 0) (aC (dC (.int 13)) aL))))) aL)))
 (gQ (dSl (kZ (aC (dFz (aG 3)) (aC (dFz (aX iT (aG 3) (aG 4))) (aC (dFz (aG 4)) (aC (dFz (aX iT (aG 4) (aG 3))) (aC (dFz (aX iT (aG 3) (aG 3))) (aC (dFz (aX iT (aX iT (aG 3) (aG 4)) (aG 3))) (aC (dFz (aX iT (aG 4) (aG 4))) (aC (dFz (aX iT (aX iT (aG 3) (aG 3)) (aG 4))) aL))))))))) rD (dP (aG 1))))) dI)
 (bJ (cM 5 (aG1 (bT2 "") (cN [10] (sU (aC (aV 2 aJ (aC (aG 0) (aC (dC (.int 5)) aL))) aL)) (dgN 10) iS (aX ixD (aG 2) (aV 2 aJ (aC (aG 0) (aC (dC (.int 26)) aL)))))))
 (bJ (cM 6 (aV 2 aJ (aC (aG 0) (aC (aX iT (dCB mB (aC (aG 5) aL)) (dC (.int 1))) aL))))
 (bJ (cM 7 (aV 2 aJ (aC (aG 0) (aC (dC (.int 26)) aL))))
 (bJ (cM 8 (aV 2 aJ (aC (aG 0) (aC (dC (.int 3)) aL))))
 (bJ (cM 9 (kZ aL))
 (bJ (qY (sU (aC (aG 1) aL)) (dgN 10)
 (bJ (cM 11 (aX iT (aX iT (dSl (aG 5) rD (dP (aG 6))) (aX ixD (aG 2) (aX bC2 (aX iT (aG 7) (aX aV2 (dC (.int 5)) (aG 10))) (dC (.int 26))))) (dSl (aG 5) (dP (aG 6)) rD)))
 (gY (jI "list" 9 aS5 (aC (dFz (aX iT (aG 11) (aX aV2 (dC (.str "z")) (dCB dE0 (aC (sK (aX (eqD false) (aG 8) (dC (.int 1))) (aX (eqD false) (aX bC2 (aG 10) (dC (.int 2))) (dC (.int 1)))) aL))))) aL)))))
 (gQ (aG 9))))))))))
noncomputable def dY:Dv.Run:=pX 12 iF
def eE:MS:=(bL1 (RS (cM 1 (aV 2 aJ (aC (aG 0) (aC (dC (.int 2)) aL)))))
 (bL1 (mIf (cK (aX (eqD false) (aG 1) (dC (.int 0)))) (aA3 2 1 cRS (aC (aG 0) aL)) (RS (cM 2 (aV 1 cU (aC (aG 0) aL)))))
 (RS (bJ (cM 3 (aV 2 aU (aC (aG 0) (aC (aV 2 dY (aC (aG 0) (aC (dC (.int 6)) aL))) aL))))
 (bJ (cM 4 (dFz (aG 3)))
 (bJ (iO (cK (aX gtI (aV 2 aJ (aC (aG 0) (aC (dC (.int 4)) aL))) (dC (.int 0)))) (cM 4 (aV 2 dY (aC (aG 0) (aC (dC (.int 6)) aL)))) dI)
 (bJ (cM 5 (kZ aL))
 (bJ (qY (bT5 (aV 2 aU (aC (aG 0) (aC (aG 2) aL)))) (lR 2 (cT (dgN 6) (cT (dgN 7) lA)))
 (gY (jI "list" 5 aS5 (aC (aS3 (aC (aX ixD (aG 4) (aG 6)) (aC (dCB aK1 (aC (cN [8] (dIt (aV 2 aU (aC (aG 0) (aC (aG 7) aL)))) (dgN 8) iS (aX ixD (aG 3) (aG 8))) aL)) aL))) aL))))
 (gQ (dCB aK1 (aC (aG 5) aL)))))))))))
def cG:MC:=dD9 9 eE
def dU:bB9 eE:=(zC aD5 (zC (dQ2 (tD bW2) aD5) aD5))
noncomputable def kL:DS:=(bJ (cM 2 (aX iT (aX aV2 (dC (.int 7919)) (aG 1)) (dC (.int 11))))
 (bJ (iO (cK (aX ltI (aG 1) (dCB mB (aC (aG 0) aL)))) (cM 2 (aX ixD (aG 0) (aG 1))) (iO (cK (aX gtI (dCB mB (aC (aG 0) aL)) (dC (.int 0)))) (cM 2 (aX iT (aG 2) (aX aV2 (aX bC2 (aX ixD (aG 0) (aX bC2 (aG 1) (dCB mB (aC (aG 0) aL)))) (dC (.int 2147483629))) (dC (.int 69623))))) dI))
 (bJ (cM 3 (aX iT (aX bC2 (aX iT (aX aV2 (aX bC2 (aG 2) (dC (.int 2147483629))) (dC (.int 48271))) (aX aV2 (dC (.int 40692)) (aG 1))) (dC (.int 2147483629))) (dC (.int 1))))
 (gQ (kZ (aC (dFz (aX aV2 (aG 2) (dCB dE0 (aC (aX geI (aG 2) (aX dY7 (dC (.int 10)) (dC (.int 18)))) aL)))) (aC (dFz (aG 3)) aL)))))))
noncomputable def cY:Dv.Run:=pX 4 kL
noncomputable def jU:DS:=(bJ (cM 1 (kZ aL))
 (bJ (qY (dIt (aG 0)) (lR 2 (cT (dgN 2) (cT (dgN 3) lA)))
 (gY (tQ "list" 1 bS5 (aC (cN [4] (dIt (aG 3)) (dgN 4) (cK (aX (inD true) (aG 4) (aG 1))) (dFz (aG 4))) aL))))
 (gQ (dCB aK1 (aC (aG 1) aL)))))
noncomputable def bB:Dv.Run:=pX 5 jU
noncomputable def fQ:DS:=(bJ (cM 2 (aX dO9 (dCB bU1 (aC (aG 0) aL)) (aG 1)))
 (bJ (cM 3 (cN [5,6] (dIt (aG 0)) (lR 2 (cT (dgN 5) (cT (dgN 6) lA))) (cK (aX (eqD true) (aG 5) (aG 1))) (aS3 (aC (dFz (aG 5)) (aC (dFz (aG 6)) aL)))))
 (bJ (cM 4 (cN [7] (dIt (aG 2)) (dgN 7) (cK (aX (eqD true) (cN [5,6] (dIt (aG 3)) (lR 2 (cT (dgN 5) (cT (dgN 6) lA))) (cK (aX (inD false) (aG 7) (aG 6))) (dC (.int 1))) (kZ aL))) (dFz (aG 7))))
 (gQ (cN [5,6] (dIt (aG 3)) (lR 2 (cT (dgN 5) (cT (dgN 6) lA))) (cK (dCB cD8 (aC (cN [7] (dIt (aG 4)) (dgN 7) iS (aX (inD false) (aG 7) (aG 6))) aL))) (dFz (aG 5)))))))
noncomputable def fA:Dv.Run:=pX 8 fQ
noncomputable def kM:DS:=(bJ (cM 1 (dCB sM (aC (aG 0) aL)))
 (bJ (tT (cK (aX gtI (dCB mB (aC (aG 1) aL)) (dC (.int 1))))
 (bJ (cM 2 (cN [3,4] (dIt (aG 1)) (lR 2 (cT (dgN 3) (cT (dgN 4) lA))) (cK (aX (eqD true) (aV 2 fA (aC (aG 1) (aC (aG 3) aL))) (kZ aL))) (dFz (aG 3))))
 (bJ (iO (cK (aX (eqD false) (aG 2) (kZ aL))) (gQ (dC (.bl false))) dI)
 (cM 1 (cN [5] (dIt (aG 1)) (dgN 5) (cK (aX (eqD true) (aX ixD (aG 5) (dC (.int 0))) (aX ixD (aG 2) (dC (.int 0))))) (dFz (aG 5)))))))
 (gQ (dC (.bl true)))))
noncomputable def eB:Dv.Run:=pX 6 kM
noncomputable def fB:DS:=(gQ (dCB aK1 (aC (cN [2,3] (dIt (aG 0)) (lR 2 (cT (dgN 2) (cT (dgN 3) lA))) iS (aS3 (aC (dFz (aG 2)) (aC (dCB aK1 (aC (cN [4] (dIt (aG 3)) (dgN 4) (cK (aX (inD false) (aG 4) (aG 1))) (dFz (aG 4))) aL)) aL)))) aL)))
noncomputable def dW:Dv.Run:=pX 5 fB
noncomputable def eG:DS:=(bJ (cM 2 (aV 2 aU (aC (aG 0) (aC (aV 1 bB (aC (aG 1) aL)) aL))))
 (bJ (iO (cK (aV 1 eB (aC (aG 1) aL))) (gQ (kZ aL)) dI)
 (bJ (qY (dIt (dCB sM (aC (aG 2) aL))) (dgN 3)
 (bJ (cM 4 (cN [9] (dIt (aG 2)) (dgN 9) (cK (aX (eqD true) (aG 9) (aG 3))) (dFz (aG 9))))
 (iO (bL0 (cK (aV 1 eB (aC (aV 2 dW (aC (aG 1) (aC (aG 4) aL))) aL)))) (cM 2 (dFz (aG 4))) dI)))
 (bJ (cM 5 (dSl (aG 2) rD (dP (dC (.int 1)))))
 (bJ (tT (cK (aX ltI (dCB mB (aC (aG 5) aL)) (dCB mB (aC (aG 2) aL))))
 (bJ (cM 6 (kZ aL))
 (bJ (qY (dIt (aG 1)) (lR 2 (cT (dgN 7) (cT (dgN 8) lA)))
 (iO (cK (aX (inD false) (aX ixD (aG 5) (aG1 cN8 (dC (.int 1)))) (aG 8))) (gY (tQ "list" 6 bS5 (aC (cN [3] (dIt (aG 2)) (dgN 3) (bK9 (cK (aX (inD false) (aG 3) (aG 8))) (cK (aX (inD true) (aG 3) (aG 5)))) (dFz (aG 3))) aL))) dI))
 (gY (jI "list" 5 aS5 (aC (aX ixD (aG 6) (dC (.int 0))) aL))))))
 (gQ (aG 5)))))))
noncomputable def cV:Dv.Run:=pX 10 eG
noncomputable def kN:DS:=(bJ (cM 2 (kZ aL))
 (bJ (qY (dIt (aG 0)) (lR 2 (cT (dgN 3) (cT (dgN 4) lA)))
 (bJ (cM 5 (dCB aK1 (aC (cN [6] (dIt (aG 1)) (dgN 6) (cK (aX (inD false) (aG 6) (aG 4))) (dFz (aG 6))) aL)))
 (iO (cK (aX (inD true) (aG 5) (aG 2))) (gY (jI "list" 2 aS5 (aC (dFz (aG 5)) aL))) dI)))
 (gQ (aG 2))))
noncomputable def jF:Dv.Run:=pX 7 kN
noncomputable def fR:DS:=(gQ (sK (aX (eqD true) (aG 0) (aG 1)) (dCB cD8 (aC (cN [2] (dIt (aG 0)) (dgN 2) iS (aX (inD false) (aG 2) (aG 1))) aL))))
noncomputable def fC:Dv.Run:=pX 3 fR
noncomputable def fS:DS:=(bJ (cM 2 (aV 2 jF (aC (aG 0) (aC (aG 1) aL))))
 (gQ (cN [3] (dIt (aG 2)) (dgN 3) (bL0 (cK (dCB dP5 (aC (cN [4] (dIt (aG 2)) (dgN 4) iS (dFz (aV 2 fC (aC (aG 3) (aC (aG 4) aL))))) aL)))) (dFz (aG 3)))))
noncomputable def fD:Dv.Run:=pX 5 fS
noncomputable def fT:DS:=(gQ (cN [1] (sU (aC (dCB mB (aC (aG 0) aL)) aL)) (dgN 1) iS (dFz (aX iT (dSl (aG 0) rD (dP (aG 1))) (dSl (aG 0) (dP (aX iT (aG 1) (dC (.int 1)))) rD)))))
noncomputable def cQ:Dv.Run:=pX 2 fT
noncomputable def gN:DS:=(bJ (cM 1 (cN [2] (sU (aC (aX dM6 (dCB mB (aC (aG 0) aL)) (dC (.int 1))) aL)) (dgN 2) iS (dFz (dSl (aG 0) (dP (aG 2)) (dP (aX iT (aG 2) (dC (.int 2))))))))
 (gQ (aX iT (aG 1) (kZ (aC (aS3 (aC (aX ixD (aG 0) (dC (.int 0))) (aC (aX ixD (aG 0) (aG1 cN8 (dC (.int 1)))) aL))) aL)))))
noncomputable def fU:Dv.Run:=pX 3 gN
noncomputable def kO:DS:=(bJ (iO (dOr (cK (aX ltI (dCB mB (aC (aG 1) aL)) (dC (.int 3)))) (cK (aX ltI (dCB pH (aC (aG 1) aL)) (dCB mB (aC (aG 1) aL))))) (gQ (dC (.bl false))) dI)
 (bJ (cM 2 (dCB aD3 (aC (aV 2 fD (aC (aG 0) (aC (aG 1) aL))) aL)))
 (gQ (dV2 (aX (eqD false) (aG 2) (dCB aD3 (aC (aV 1 cQ (aC (aG 1) aL)) aL))) (aX (eqD false) (aG 2) (dCB aD3 (aC (aV 1 fU (aC (aG 1) aL)) aL)))))))
noncomputable def cZ:Dv.Run:=pX 3 kO
noncomputable def iG:DS:=(bJ (cM 1 (kZ (aC (aS3 aL) aL)))
 (bJ (qY (dIt (aG 0)) (dgN 2)
 (cM 1 (aX iT (aG 1) (cN [3] (dIt (aG 1)) (dgN 3) iS (dFz (aX iT (aG 3) (aS3 (aC (dFz (aG 2)) aL))))))))
 (gQ (aG 1))))
noncomputable def gO:Dv.Run:=pX 4 iG
noncomputable def gP:DS:=(bJ (cM 1 (kZ aL))
 (bJ (qY (dIt (aG 0)) (lR 2 (cT (dgN 2) (cT (dgN 3) lA)))
 (gY (tQ "list" 1 bS5 (aC (cN [4] (dIt (aG 3)) (dgN 4) (cK (aX (inD true) (aG 4) (aG 1))) (dFz (aG 4))) aL))))
 (gQ (dCB aK1 (aC (aG 1) aL)))))
noncomputable def eU:Dv.Run:=pX 5 gP
noncomputable def eI:DS:=(gQ (dCB dP5 (aC (cN [3,4] (dIt (aG 0)) (lR 2 (cT (dgN 3) (cT (dgN 4) lA))) iS (sK (aX (inD false) (aG 1) (aG 4)) (aX (inD false) (aG 2) (aG 4)))) aL)))
noncomputable def dZ:Dv.Run:=pX 5 eI
noncomputable def mR:DS:=(bJ (cM 2 (dSl (aG 1) rD (dP (dC (.int 1)))))
 (bJ (qY (dIt (dSl (aG 1) (dP (dC (.int 1))) rD)) (dgN 3)
 (bJ (cM 4 (cN [5] (dIt (aG 1)) (dgN 5) (bK9 (cK (aX (inD true) (aG 5) (aG 2))) (cK (aV 3 dZ (aC (aG 0) (aC (aX ixD (aG 2) (aG1 cN8 (dC (.int 1)))) (aC (aG 5) aL)))))) (dFz (aG 5))))
 (cM 2 (aX iT (aG 2) (dCB aK1 (aC (dSl (aG 4) rD (dP (dC (.int 1)))) aL))))))
 (gQ (aG 2))))
noncomputable def kP:Dv.Run:=pX 6 mR
noncomputable def kQ:DS:=(bJ (qY (dIt (aV 1 gO (aC (aV 1 eU (aC (aG 0) aL)) aL))) (dgN 1)
 (bJ (cM 2 (aV 2 kP (aC (aG 0) (aC (aG 1) aL))))
 (iO (cK (aV 2 cZ (aC (aG 0) (aC (aG 2) aL)))) (gQ (aG 2)) dI)))
 (gQ (dC .non)))
noncomputable def jG:Dv.Run:=pX 3 kQ
noncomputable def fV:DS:=(bJ (cM 2 (aV 1 bB (aC (aG 0) aL)))
 (bJ (cM 3 (dCB mB (aC (aG 1) aL)))
 (bJ (iO (dOr (cK (aX ltI (aG 3) (dC (.int 3)))) (cK (aX ltI (dCB pH (aC (aG 1) aL)) (aG 3)))) (gQ (dC (.bl false))) dI)
 (bJ (iO (bL0 (cK (dCB cD8 (aC (cN [10] (dIt (aG 1)) (dgN 10) iS (aX (inD false) (aG 10) (aG 2))) aL)))) (gQ (dC (.bl false))) dI)
 (bJ (cM 4 (kZ aL))
 (bJ (qY (dIt (aG 0)) (lR 2 (cT (dgN 5) (cT (dgN 6) lA)))
 (gY (jI "list" 4 aS5 (aC (dFz (dCB yZ (aC (cN [11] (sU (aC (aG 3) aL)) (dgN 11) (cK (aX (inD false) (aX ixD (aG 1) (aG 11)) (aG 6))) (dFz (aG 11))) aL))) aL))))
 (bJ (cM 7 (kZ aL))
 (bJ (qY (dIt (aG 4)) (dgN 8)
 (bJ (cM 9 (cN [12] (dIt (aG 4)) (dgN 12) (bK9 (cK (aX (eqD true) (aG 8) (aG 12))) (cK (dCB cD8 (aC (cN [11] (dIt (aG 8)) (dgN 11) iS (aX (inD false) (aG 11) (aG 12))) aL)))) (dFz (aG 12))))
 (iO (bK9 (cK (aX (eqD false) (aG 9) (kZ aL))) (cK (aX (inD true) (aG 8) (aG 7)))) (gY (jI "list" 7 aS5 (aC (dFz (aG 8)) aL))) dI)))
 (bJ (cM 7 (dCB qR (aC (aG 7) aL)))
 (bJ (iO (cK (aX (eqD false) (aG 7) (dCB qR (aC (cN [13] (sU (aC (aG 3) aL)) (dgN 13) iS (dFz (cN [11] (sU (aC (aG 3) aL)) (dgN 11) (cK (aX (eqD true) (aG 11) (aG 13))) (dFz (aG 11))))) aL)))) (gQ (dC (.bl true))) dI)
 (gQ (sK (aX gtI (aG 3) (dC (.int 3))) (aX (eqD false) (aG 7) (dCB qR (aC (cN [11] (sU (aC (aG 3) aL)) (dgN 11) iS (dFz (dCB yZ (aC (kZ (aC (dFz (aG 11)) (aC (aX bC2 (aX iT (aG 11) (dC (.int 1))) (aG 3)) aL))) aL)))) aL)))))))))))))))
noncomputable def cS:Dv.Run:=pX 14 fV
noncomputable def eJ:DS:=(bJ (cM 1 (aV 1 jG (aC (aG 0) aL)))
 (bJ (iO (cK (aV 1 eB (aC (aG 0) aL))) (gQ (aX (isD false) (aG 1) (dC .non))) dI)
 (gQ (sK (aG1 (dE1 "tuple") (aG 1)) (aV 2 cS (aC (aG 0) (aC (aG 1) aL)))))))
noncomputable def bP:Dv.Run:=pX 2 eJ
noncomputable def fW:DS:=(bJ (cM 3 (dCB sM (aC (aG 2) aL)))
 (bJ (iO (cK (aX (eqD false) (aG 3) (kZ aL))) (cM 3 (dSl (aV 2 aU (aC (aG 0) (aC (aV 1 bB (aC (aG 1) aL)) aL))) rD (dP (aX iT (dC (.int 3)) (aV 2 aJ (aC (aG 0) (aC (dC (.int 4)) aL))))))) dI)
 (bJ (cM 4 (aV 2 aJ (aC (aG 0) (aC (dCB mB (aC (aG 3) aL)) aL))))
 (bJ (cM 5 (aV 2 aJ (aC (aG 0) (aC (dCB mB (aC (aG 3) aL)) aL))))
 (bJ (cM 6 (aV 2 aJ (aC (aG 0) (aC (dC (.int 8)) aL))))
 (bJ (iO (cK (aX ltI (aG 6) (dC (.int 2)))) (cM 3 (aX iT (dSl (aG 3) (dP (aG 4)) rD) (dSl (aG 3) rD (dP (aG 4))))) dI)
 (bJ (iO (dOr (cK (aX (eqD false) (aG 6) (dC (.int 1)))) (cK (aX (eqD false) (aG 6) (dC (.int 2))))) (cM 3 (aG1 cZ1 (aG 3))) dI)
 (bJ (iO (dOr (cK (aX (eqD false) (aG 6) (dC (.int 3)))) (cK (aX (eqD false) (aG 6) (dC (.int 4))))) (cG3 3 (aG 4) (aG 5) (aS3 (aC (aX ixD (aG 3) (aG 5)) (aC (aX ixD (aG 3) (aG 4)) aL)))) dI)
 (bJ (iO (cK (aX (eqD false) (aG 6) (dC (.int 5)))) (gY (jI "list" 3 tX (aC (dFz (aG 4)) aL))) dI)
 (bJ (iO (cK (aX (eqD false) (aG 6) (dC (.int 6)))) (gY (jI "list" 3 dP8 (aC (dFz (aG 4)) (aC (aX ixD (aV 1 bB (aC (aG 1) aL)) (aV 2 aJ (aC (aG 0) (aC (dCB mB (aC (aV 1 bB (aC (aG 1) aL)) aL)) aL)))) aL)))) dI)
 (bJ (iO (cK (aX (eqD false) (aG 6) (dC (.int 7)))) (aS6 3 (aG 4) (aX ixD (kZ (aC (dC (.str "zzzz")) (aC (aX ixD (aG 3) (aG 5)) aL))) (aV 2 aJ (aC (aG 0) (aC (dC (.int 2)) aL))))) dI)
 (gQ (dCB aK1 (aC (aG 3) aL))))))))))))))
noncomputable def eK:Dv.Run:=pX 7 fW
noncomputable def iH:DS:=(gQ (sK (aG1 (dE1 "bool") (aG 0)) (aX (eqD false) (aG 0) (aG 1))))
noncomputable def fH:Dv.Run:=pX 2 iH
def aD6:MS:=(bL1 (aA3 1 1 cG (aC (aV 2 cY (aC (aG 0) (aC (dC (.int 0)) aL))) aL))
 (bL1 (aA3 2 1 cG (aC (aV 2 cY (aC (aG 0) (aC (dC (.int 1)) aL))) aL))
 (RS (bJ (qY (dIt (aS3 (aC (dFz (aG 1)) (aC (dFz (aG 2)) aL)))) (dgN 3)
 (bJ (cM 4 (aV 2 cV (aC (aV 2 cY (aC (aG 0) (aC (dC (.int 2)) aL))) (aC (aG 3) aL))))
 (bJ (iO (dOr (bK9 (cK (aX (eqD true) (aG 4) (kZ aL))) (cK (aX (isD true) (aV 2 cZ (aC (aG 3) (aC (dCB aK1 (aC (aG 4) aL)) aL))) (dC (.bl true))))) (bL0 (cK (aV 1 bP (aC (aG 3) aL))))) (gQ (dC (.bl false))) dI)
 (qY (sU (aC (dC (.int 3)) (aC (dCB bS3 (aC (dC (.int 8)) (aC (dCB bH9 (aC (dC (.int 13)) (aC (dCB mB (aC (aG 0) aL)) aL))) aL))) aL))) (dgN 5)
 (bJ (cM 6 (aV 3 eK (aC (aV 2 cY (aC (aG 0) (aC (aG 5) aL))) (aC (aG 3) (aC (aG 4) aL)))))
 (iO (bL0 (cK (aV 2 fH (aC (aV 2 cZ (aC (aG 3) (aC (aG 6) aL))) (aC (aV 2 cS (aC (aG 3) (aC (aG 6) aL))) aL))))) (gQ (dC (.bl false))) dI))))))
 (gQ (sK (aV 1 bP (aC (aG 1) aL)) (aX (isD false) (aV 2 cZ (aC (aG 1) (aC (aS3 aL) aL))) (dC (.bl false)))))))))
def zE:MC:=dD9 7 aD6
def aX6:bB9 aD6:=(zC (tD (zD dU)) (zC (tD (zD dU)) aD5))
section
variable{P:Program}{w:World}{K:W.Frag}{mg:Str->Option Value}{base:Heap}{a:Adr}
def aX7(T:Txt K mg a):FnOk P w K mg base CX0 1 a.a0R a.a0v ["_law_box_here","_law_many"] (dsp 2 aJ):=by
 refine cP T.a0k yM (by decide) jD (λcdv A outer s H E b=>?_);have nd:=yM.nd;unfold jD;exact(aH (gR (bI bG6 rC (gL (aA (pv 0)) ge_int (λ_ _=>rfl)) ge_int (bF _)) (aH (aR (i:=2) nd rfl (Or.inl rfl) (bC lF jB (gL (aA (pv 0)) ge_int (λ_ _=>rfl)) (aA (pv 1))))
  (aH (bS6 (k:=0) (λΓ=>aZ5 (gE (bC bC4 bS8 (gL (aA (pv 0)) ge_int (λ_ _=>rfl)) (aA (pv 1))) Γ) (aK3 (pv 0) (gE ge_int Γ) pM)))
  (aM (bV (aA (pv 2)))))) cJ)
  (aH (aR (i:=3) nd rfl (Or.inl rfl) (bC lF jB (bC jQ jR (gL (aA (pv 0)) ge_int (λ_ _=>rfl)) ge_int) ge_int))
  (aH (bS6 (k:=0) (λΓ=>aZ5 (gE (bC bK bL (bC lF jB (bC bK bL (bC jQ jR (aA (pv 3)) ge_int) ge_int) ge_int) ge_int) Γ) (aK3 (pv 0) (gE ge_int Γ) pM)))
  (aM (bV (bC lF jB (bC bC4 bS8 (bC bK bL (bC jQ jR (aA (pv 3)) ge_int) (gL (aA (pv 0)) ge_int (λ_ _=>rfl))) ge_int) (aA (pv 1))))))))
def zF(T:Txt K mg a)(b:FnOk P w K mg base CX0 1 a.a0R a.a0v ["_law_box_here","_law_many"] (dsp 2 aJ)):FnOk P w K mg base CX0 2 a.a0B a.a0t ["_law_box_here","_law_things"] (dsp 2 aU):=by
 refine cP T.a0s mL (by decide) eZ (λcdv A outer s H E c=>?_);have nd:=mL.nd;unfold eZ;exact(aH (aR (i:=2) nd rfl (Or.inl rfl) (cA qA (λΓ=>cH jW (by rfl) T.a2N iE (gA (aB (aA (pv 1)) aF) Γ))))
  (aH (aR (i:=3) nd rfl (Or.inl rfl) (eV aF))
  (aH (aG7 (λΓ=>aE9 a1e (gT (bI bG6 rC (cA eA (λΓ=>aY bN (by rfl) T.a1n bR (gA (aB (aA (pv 2)) aF) Γ))) ge_int (bF _)) Γ)
  (gSs (aM (gK (iX mE (λΓ=>gS K (by rfl) a5c a6e a7e fM (pv 3) (gA (aB (cO (iX aN3 (λΓ=>gS K (by rfl) a5c F.slot_list_pop F.type_list_pop aZ9 (pv 2) (gA (aB (cO (aN (λΓ=>aK b (c.mono (by decide)) (by rfl) T.a0l T.a0k.kp (aZ T) .nil bG (gA (aB (aA (pv 0)) (aB (cA eA (λΓ=>aY bN (by rfl) T.a1n bR (gA (aB (aA (pv 2)) aF) Γ))) aF)) Γ)))) aF) Γ)))) aF) Γ))))) Γ)))
  (aM (bV (aA (pv 3)))))))
def aX8(T:Txt K mg a)(b:FnOk P w K mg base CX0 2 a.a0B a.a0t ["_law_box_here","_law_things"] (dsp 2 aU))(c:FnOk P w K mg base CX0 1 a.a0R a.a0v ["_law_box_here","_law_many"] (dsp 2 aJ)):FnOk P w K mg base CX0 3 a.a2H a.a1C ["_law_box_here","_law_things"] (dsp 2 cF):=by
 refine cP T.a1B yN (by decide) jE (λcdv A outer s H E d=>?_);have nd:=yN.nd;unfold jE;exact(aM (bV (dN (aN (λΓ=>aK b (d.mono (by decide)) (by rfl) T.a0y T.a0s.kp (eT T) .nil bG (gA (aB (aA (pv 0)) (aB (aA (pv 1)) aF)) Γ))) eX (eP (bC bK bL ge_int (aN (λΓ=>aK c (d.mono (by decide)) (by rfl) T.a0l T.a0k.kp (aZ T) .nil bG (gA (aB (aA (pv 0)) (aB (cA bC3 (λΓ=>aY (tH (by rfl)) (by rfl) T.a3D aH5 (gA (aB ge_int (aB (cA eA (λΓ=>aY bN (by rfl) T.a1n bR (gA (aB (aA (pv 1)) aF) Γ))) aF)) Γ))) aF)) Γ))))))))
def rM(T:Txt K mg a)(b:FnOk P w K mg base CX0 1 a.a0R a.a0v ["_law_box_here","_law_many"] (dsp 2 aJ))(d:FnOk P w K mg base CX0 3 a.a2H a.a1C ["_law_box_here","_law_things"] (dsp 2 cF)):FnOk P w K mg base CX0 4 a.a0Y a.a0D ["_law_box_here"] (dsp 1 cU):=by
 refine cP T.a1o kD (by decide) eD (λcdv A outer s H E c=>?_);have nd:=kD.nd;unfold eD;exact(aH (aR (i:=1) nd rfl (Or.inr rfl) (bC bK bL ge_int (aN (λΓ=>aK b (c.mono (by decide)) (by rfl) T.a0l T.a0k.kp (aZ T) .nil bG (gA (aB (aA (pv 0)) (aB ge_int aF)) Γ)))))
  (aH (aR (i:=2) nd rfl (Or.inl rfl) (bC bK bL ge_int (aN (λΓ=>aK b (c.mono (by decide)) (by rfl) T.a0l T.a0k.kp (aZ T) .nil bG (gA (aB (aA (pv 0)) (aB ge_int aF)) Γ)))))
  (aH (gR (bI (fP c.units) (dO (neg:=false)) (aN (λΓ=>aK b (c.mono (by decide)) (by rfl) T.a0l T.a0k.kp (aZ T) .nil bG (gA (aB (aA (pv 0)) (aB ge_int aF)) Γ))) ge_int (bF _)) (aM (bV (cC (ow:=[5]) (aT (by decide)) (λΓ=>bY (csc [5] (by kernel_rfl)) (gI (iY (λΓ=>dX (by rfl) T.a0A (gA (aB (aA (pv 2)) aF) Γ)) aS4) Γ) (λ_ _ _ _=>(aP (i:=5) nd rfl (Or.inl rfl) (.inr rfl))) (aQ (by decide)) (λ_ _ _ _=>eO) (λ_ _ _ _=>gE (cO (aN (λΓ=>aK d (c.mono (by decide)) (by rfl) T.a2x T.a1B.kp (mW T) .nil bG (gA (aB (aA (pv 0)) (aB (cA bD3 (λΓ=>aT9 (T:="list") (U:="range") (aG0 rfl) (by rfl) T.a2N iE (by rfl) T.a0A boot_range (gA (aB (aA (pv 1)) aF) Γ))) aF)) Γ)))) Γ))))) cJ)
  (aH (aR (i:=3) nd rfl (Or.inl rfl) (eV (aB (cO (aN (λΓ=>aK d (c.mono (by decide)) (by rfl) T.a2x T.a1B.kp (mW T) .nil bG (gA (aB (aA (pv 0)) (aB (cA bD3 (λΓ=>aT9 (T:="list") (U:="range") (aG0 rfl) (by rfl) T.a2N iE (by rfl) T.a0A boot_range (gA (aB (aA (pv 1)) aF) Γ))) aF)) Γ)))) aF)))
  (aH (aR (i:=4) nd rfl (Or.inr rfl) (cA qA (λΓ=>cH jW (by rfl) T.a2N iE (gA (aB (gL (aA (pv 3)) ge_int (λ_ _=>rfl)) aF) Γ))))
  (aH (iZ (own:=[5]) (aT (by decide)) (λΓ=>iM a1e rfl (gI (iY (λΓ=>dX (by rfl) T.a0A (gA (aB (bC bM4 bS1 (aA (pv 2)) ge_int) aF) Γ)) aS4) Γ) (aP (i:=5) nd rfl (Or.inl rfl))
  (gSs (aH (aR (i:=6) nd rfl (Or.inl rfl) (aN (λΓ=>aK d (c.mono (by decide)) (by rfl) T.a2x T.a1B.kp (mW T) .nil bG (gA (aB (aA (pv 0)) (aB (gL (aA (pv 3)) (aN (λΓ=>aK b (c.mono (by decide)) (by rfl) T.a0l T.a0k.kp (aZ T) .nil bG (gA (aB (aA (pv 0)) (aB (cA eA (λΓ=>aY bN (by rfl) T.a1n bR (gA (aB (aA (pv 3)) aF) Γ))) aF)) Γ))) (λ_ _=>rfl)) aF)) Γ))))
  (aH (jY (ow:=[8]) (i:=7) (aT (by decide)) (λΓ=>gX (i:=7) nd rfl rfl (csc [8] (by kernel_rfl)) (gI (iY (λΓ=>dX (by rfl) T.a0A (gA (aB (aA (pv 1)) aF) Γ)) aS4) Γ) (λ_ _ _ _=>(aP (i:=8) nd rfl (Or.inl rfl) (.inr rfl))) (aQ (by decide)) (λ_ _ _ _=>(dG (bI (iD c.units) (gF (neg:=true)) (aA (pv 8)) (aA (pv 4)) (by with_unfolding_all rfl)))) (λ_ _ _ _=>gE (cO (aA (pv 8))) Γ) rfl))
  (aH (aR (i:=6) nd rfl (Or.inl rfl) (bC bK bL (dN (aA (pv 6)) eX (eP (aN (λΓ=>aK b (c.mono (by decide)) (by rfl) T.a0l T.a0k.kp (aZ T) .nil bG (gA (aB (aA (pv 0)) (aB (bC bK bL (cA eA (λΓ=>aY bN (by rfl) T.a1n bR (gA (aB (aA (pv 6)) aF) Γ))) ge_int) aF)) Γ))))) (dN (aA (pv 7)) eX (eP (aN (λΓ=>aK b (c.mono (by decide)) (by rfl) T.a0l T.a0k.kp (aZ T) .nil bG (gA (aB (aA (pv 0)) (aB ge_int aF)) Γ)))))))
  (aH (gR (bI (fP c.units) (dO (neg:=false)) (aA (pv 6)) (eV aF) (bF _)) (aM (aR (i:=6) nd rfl (Or.inl rfl) (dN (aA (pv 4)) eX (eP ge_int)))) cJ)
  (aH (gK (iX mE (λΓ=>gS K (by rfl) a5c a6e a7e fM (pv 3) (gA (aB (cO (dN (aA (pv 6)) eX (eP ge_int))) aF) Γ))))
  (aM (gK (aG4 aH4 (λΓ=>gS K (by rfl) a5c F.slot_list_extend F.type_list_extend aH3 (pv 4) (gA (aB (cC (ow:=[8]) (aT (by decide)) (λΓ=>bY (csc [8] (by kernel_rfl)) (gI (cL K (by rfl) (gL (aA (pv 3)) (cD2 aK4 aG8 ge_int) (λ_ _=>rfl))) Γ) (λ_ _ _ _=>(aP (i:=8) nd rfl (Or.inl rfl) (.inr rfl))) (aQ (by decide)) (λ_ _ _ _=>(dG (bI (iD c.units) (gF (neg:=true)) (aA (pv 8)) (aA (pv 4)) (by with_unfolding_all rfl)))) (λ_ _ _ _=>gE (cO (aA (pv 8))) Γ))) aF) Γ)))))))))) Γ)))
  (aM (bV (aA (pv 3))))))))))
def aP9(T:Txt K mg a)(b:FnOk P w K mg base CX0 1 a.a0R a.a0v ["_law_box_here","_law_many"] (dsp 2 aJ)):FnOk P w K mg base CX0 2 a.a2G a.a1J ["_law_box_here","_law_many"] (dsp 2 dY):=by
 refine cP T.a1W sE (by decide) iF (λcdv A outer s H E c=>?_);have nd:=sE.nd;unfold iF;exact(aH (aR (i:=2) nd rfl (Or.inr rfl) bR0)
  (aH (gR (bI (fP c.units) (dO (neg:=false)) (aN (λΓ=>aK b (c.mono (by decide)) (by rfl) T.a0l T.a0k.kp (aZ T) .nil bG (gA (aB (aA (pv 0)) (aB ge_int aF)) Γ))) ge_int (bF _)) (aH (dM2 (i:=3) (j:=4) (λΓ=>dH3 (i:=3) (j:=4) rfl nd rfl rfl (by decide) rfl rfl (gA (aB (gL (aA (pv 2)) (aN (λΓ=>aK b (c.mono (by decide)) (by rfl) T.a0l T.a0k.kp (aZ T) .nil bG (gA (aB (aA (pv 0)) (aB ge_int aF)) Γ))) (λ_ _=>rfl)) (aB (gL (aA (pv 2)) (bC bK bL ge_int (aN (λΓ=>aK b (c.mono (by decide)) (by rfl) T.a0l T.a0k.kp (aZ T) .nil bG (gA (aB (aA (pv 0)) (aB ge_int aF)) Γ)))) (λ_ _=>rfl)) aF)) Γ) rfl))
  (aM (bV (dN (eV (aB (cO (aA (pv 3))) (aB (cO (bC bK bL (aA (pv 3)) (aA (pv 4)))) (aB (cO (aA (pv 4))) (aB (cO (bC bK bL (aA (pv 4)) (aA (pv 3)))) (aB (cO (bC bK bL (aA (pv 3)) (aA (pv 3)))) (aB (cO (bC bK bL (bC bK bL (aA (pv 3)) (aA (pv 4))) (aA (pv 3)))) (aB (cO (bC bK bL (aA (pv 4)) (aA (pv 4)))) (aB (cO (bC bK bL (bC bK bL (aA (pv 3)) (aA (pv 3))) (aA (pv 4)))) aF))))))))) eX (eP (aA (pv 1))))))) cJ)
  (aH (aR (i:=5) nd rfl (Or.inl rfl) (cX3 (sep:="") K (λΓ=>gS K (by rfl) F.plainAttrs_str F.slot_str_join F.type_str_join (cE2 K (by rfl)) cK4 (gA (aB (cC (ow:=[10]) (aT (by decide)) (λΓ=>bY (csc [10] (by kernel_rfl)) (gI (iY (λΓ=>dX (by rfl) T.a0A (gA (aB (aN (λΓ=>aK b (c.mono (by decide)) (by rfl) T.a0l T.a0k.kp (aZ T) .nil bG (gA (aB (aA (pv 0)) (aB ge_int aF)) Γ))) aF) Γ)) aS4) Γ) (λ_ _ _ _=>(aP (i:=10) nd rfl (Or.inl rfl) (.inr rfl))) (aQ (by decide)) (λ_ _ _ _=>eO) (λ_ _ _ _=>gE (gL (aA (pv 2)) (aN (λΓ=>aK b (c.mono (by decide)) (by rfl) T.a0l T.a0k.kp (aZ T) .nil bG (gA (aB (aA (pv 0)) (aB ge_int aF)) Γ))) (λ_ _=>rfl)) Γ))) aF) Γ))))
  (aH (aR (i:=6) nd rfl (Or.inl rfl) (aN (λΓ=>aK b (c.mono (by decide)) (by rfl) T.a0l T.a0k.kp (aZ T) .nil bG (gA (aB (aA (pv 0)) (aB (bC bK bL (cA eA (λΓ=>aY bN (by rfl) T.a1n bR (gA (aB (aA (pv 5)) aF) Γ))) ge_int) aF)) Γ))))
  (aH (aR (i:=7) nd rfl (Or.inl rfl) (aN (λΓ=>aK b (c.mono (by decide)) (by rfl) T.a0l T.a0k.kp (aZ T) .nil bG (gA (aB (aA (pv 0)) (aB ge_int aF)) Γ))))
  (aH (aR (i:=8) nd rfl (Or.inl rfl) (aN (λΓ=>aK b (c.mono (by decide)) (by rfl) T.a0l T.a0k.kp (aZ T) .nil bG (gA (aB (aA (pv 0)) (aB ge_int aF)) Γ))))
  (aH (aR (i:=9) nd rfl (Or.inl rfl) (eV aF))
  (aH (iZ (own:=[10]) (aT (by decide)) (λΓ=>iM a1e rfl (gI (iY (λΓ=>dX (by rfl) T.a0A (gA (aB (aA (pv 1)) aF) Γ)) aS4) Γ) (aP (i:=10) nd rfl (Or.inl rfl))
  (gSs (aH (aR (i:=11) nd rfl (Or.inl rfl) (bC bK bL (bC bK bL (dN (aA (pv 5)) eX (eP (aA (pv 6)))) (gL (aA (pv 2)) (bC lF jB (bC bK bL (aA (pv 7)) (bC jQ jR ge_int (aA (pv 10)))) ge_int) (λ_ _=>rfl))) (dN (aA (pv 5)) (eP (aA (pv 6))) eX)))
  (aM (gK (iX mE (λΓ=>gS K (by rfl) a5c a6e a7e fM (pv 9) (gA (aB (cO (bC bK bL (aA (pv 11)) (bC jQ jR bR0 (cA bS4 (λΓ=>cH aK6 (by rfl) T.a3F bD1 (gA (aB (tO (iA (fP c.units) (dO (neg:=false)) (aA (pv 8)) ge_int (bF _)) (rX (iA (fP c.units) (dO (neg:=false)) (bC lF jB (aA (pv 10)) ge_int) ge_int (bF _)))) aF) Γ)))))) aF) Γ)))))) Γ)))
  (aM (bV (aA (pv 9))))))))))))
def zG(T:Txt K mg a)(d:FnOk P w K mg base CX0 1 a.a0R a.a0v ["_law_box_here","_law_many"] (dsp 2 aJ))(f:FnOk P w K mg base CX0 4 a.a0S a.a0E ["_law_box_here"] (bR9 1 cRS))(g:FnOk P w K mg base CX0 4 a.a0Y a.a0D ["_law_box_here"] (dsp 1 cU))(c:FnOk P w K mg base CX0 2 a.a0B a.a0t ["_law_box_here","_law_things"] (dsp 2 aU))(e:FnOk P w K mg base CX0 2 a.a2G a.a1J ["_law_box_here","_law_many"] (dsp 2 dY)):FnOk P w K mg base CX0 5 a.a1K a.a0M ["_law_box_here"] (bR9 1 cG):=by
 refine aU8 T.a0U mM (by decide) eE dU (λcdv A outer s H E b=>GM.to ?_);have nd:=mM.nd;unfold eE;exact(aI6 (cZ3 (aR (i:=1) nd rfl (Or.inl rfl) (aN (λΓ=>aK d (b.mono (by decide)) (by rfl) T.a0l T.a0k.kp (aZ T) .nil bG (gA (aB (aA (pv 0)) (aB ge_int aF)) Γ)))))
  (aI6 (dZ9 (bI (fP b.units) (dO (neg:=false)) (aA (pv 1)) ge_int (bF _)) (dQ1 (aX5 bW2 (λΓ=>aB1 (i:=2) nd rfl (Or.inl rfl) (aK f (b.mono (by decide)) (by rfl) T.a2R T.a1s.kp (sN T) .nil bG (gA (aB (aA (pv 0)) aF) Γ))))) (bW1 (aM (aR (i:=2) nd rfl (Or.inl rfl) (aN (λΓ=>aK g (b.mono (by decide)) (by rfl) T.a2Q T.a1o.kp (sO T) .nil bG (gA (aB (aA (pv 0)) aF) Γ)))))))
  (bW1 (aH (aR (i:=3) nd rfl (Or.inr rfl) (aN (λΓ=>aK c (b.mono (by decide)) (by rfl) T.a0y T.a0s.kp (eT T) .nil bG (gA (aB (aA (pv 0)) (aB (aN (λΓ=>aK e (b.mono (by decide)) (by rfl) T.a2U T.a1W.kp (yO T) .nil bG (gA (aB (aA (pv 0)) (aB ge_int aF)) Γ))) aF)) Γ))))
  (aH (aR (i:=4) nd rfl (Or.inl rfl) (cO (aA (pv 3))))
  (aH (gR (bI bG6 rC (aN (λΓ=>aK d (b.mono (by decide)) (by rfl) T.a0l T.a0k.kp (aZ T) .nil bG (gA (aB (aA (pv 0)) (aB ge_int aF)) Γ))) ge_int (bF _)) (aM (aR (i:=4) nd rfl (Or.inl rfl) (aN (λΓ=>aK e (b.mono (by decide)) (by rfl) T.a2U T.a1W.kp (yO T) .nil bG (gA (aB (aA (pv 0)) (aB ge_int aF)) Γ))))) cJ)
  (aH (aR (i:=5) nd rfl (Or.inl rfl) (eV aF))
  (aH (iZ (own:=[6,7]) (lH (bX (aT (by decide)) (bX (aT (by decide)) iK))) (λΓ=>iM a1e rfl (gI (cX6 K (λΓ=>cX5 K (by rfl) (by rfl) T.a3s aA0 (gA (aB (aN (λΓ=>aK c (b.mono (by decide)) (by rfl) T.a0y T.a0s.kp (eT T) .nil bG (gA (aB (aA (pv 0)) (aB (aA (pv 2)) aF)) Γ))) aF) Γ))) Γ) (fG (n:=2) K rfl rfl (bO (aP (i:=6) nd rfl (Or.inl rfl)) (bO (aP (i:=7) nd rfl (Or.inl rfl)) gW)))
  (gSs (aM (gK (iX mE (λΓ=>gS K (by rfl) a5c a6e a7e fM (pv 5) (gA (aB (pV (aB (gL (aA (pv 4)) (aA (pv 6)) (λ_ _=>rfl)) (aB (cA jS (λΓ=>cH fO (by rfl) T.a1E eC (gA (aB (cC (ow:=[8]) (aT (by decide)) (λΓ=>bY (csc [8] (by kernel_rfl)) (gI (cL K (by rfl) (aN (λΓ=>aK c (b.mono (by decide)) (by rfl) T.a0y T.a0s.kp (eT T) .nil bG (gA (aB (aA (pv 0)) (aB (aA (pv 7)) aF)) Γ)))) Γ) (λ_ _ _ _=>(aP (i:=8) nd rfl (Or.inl rfl) (.inr rfl))) (aQ (by decide)) (λ_ _ _ _=>eO) (λ_ _ _ _=>gE (gL (aA (pv 3)) (aA (pv 8)) (λ_ _=>rfl)) Γ))) aF) Γ))) aF))) aF) Γ))))) Γ)))
  (aM (bV (cA jS (λΓ=>cH fO (by rfl) T.a1E eC (gA (aB (aA (pv 5)) aF) Γ)))))))))))))
def bJ5(T:Txt K mg a):FnOk P w K mg base CX0 1 a.a3l a.a2z ["_law_script","_law_k"] (dsp 2 cY):=by
 refine cP T.a1S aC6 (by decide) kL (λcdv A outer s H E b=>?_);have nd:=aC6.nd;unfold kL;exact(aH (aR (i:=2) nd rfl (Or.inl rfl) (bC bK bL (bC jQ jR ge_int (aA (pv 1))) ge_int))
  (aH (gR (bI zV nU (aA (pv 1)) (cA eA (λΓ=>aY bN (by rfl) T.a1n bR (gA (aB (aA (pv 0)) aF) Γ))) (bF _)) (aM (aR (i:=2) nd rfl (Or.inl rfl) (gL (aA (pv 0)) (aA (pv 1)) (λ_ _=>rfl)))) (aM (gR (bI bG6 rC (cA eA (λΓ=>aY bN (by rfl) T.a1n bR (gA (aB (aA (pv 0)) aF) Γ))) ge_int (bF _)) (aM (aR (i:=2) nd rfl (Or.inl rfl) (bC bK bL (aA (pv 2)) (bC jQ jR (bC lF jB (gL (aA (pv 0)) (bC lF jB (aA (pv 1)) (cA eA (λΓ=>aY bN (by rfl) T.a1n bR (gA (aB (aA (pv 0)) aF) Γ)))) (λ_ _=>rfl)) ge_int) ge_int)))) cJ)))
  (aH (aR (i:=3) nd rfl (Or.inl rfl) (bC bK bL (bC lF jB (bC bK bL (bC jQ jR (bC lF jB (aA (pv 2)) ge_int) ge_int) (bC jQ jR ge_int (aA (pv 1)))) ge_int) ge_int))
  (aM (bV (eV (aB (cO (bC jQ jR (aA (pv 2)) (cA bS4 (λΓ=>cH aK6 (by rfl) T.a3F bD1 (gA (aB (iA dX1 cW0 (aA (pv 2)) (bC dH7 cV9 ge_int ge_int) (bF _)) aF) Γ))))) (aB (cO (aA (pv 3))) aF))))))))
def aA4(T:Txt K mg a):FnOk P w K mg base CX0 1 a.a0P a.a0z ["_law_question_here"] (dsp 1 bB):=by
 refine cP T.a0w nJ (by decide) jU (λcdv A outer s H E b=>?_);have nd:=nJ.nd;unfold jU;exact(aH (aR (i:=1) nd rfl (Or.inr rfl) (eV aF))
  (aH (iZ (own:=[2,3]) (lH (bX (aT (by decide)) (bX (aT (by decide)) iK))) (λΓ=>iM a1e rfl (gI (cL K (by rfl) (aA (pv 0))) Γ) (fG (n:=2) K rfl rfl (bO (aP (i:=2) nd rfl (Or.inl rfl)) (bO (aP (i:=3) nd rfl (Or.inl rfl)) gW)))
  (gSs (aM (gK (aG4 aH4 (λΓ=>gS K (by rfl) a5c F.slot_list_extend F.type_list_extend aH3 (pv 1) (gA (aB (cC (ow:=[4]) (aT (by decide)) (λΓ=>bY (csc [4] (by kernel_rfl)) (gI (cL K (by rfl) (aA (pv 3))) Γ) (λ_ _ _ _=>(aP (i:=4) nd rfl (Or.inl rfl) (.inr rfl))) (aQ (by decide)) (λ_ _ _ _=>(dG (bI (iD b.units) (gF (neg:=true)) (aA (pv 4)) (aA (pv 1)) (by with_unfolding_all rfl)))) (λ_ _ _ _=>gE (cO (aA (pv 4))) Γ))) aF) Γ))))) Γ)))
  (aM (bV (cA jS (λΓ=>cH fO (by rfl) T.a1E eC (gA (aB (aA (pv 1)) aF) Γ)))))))
def aA5(T:Txt K mg a):FnOk P w K mg base CX0 1 a.a2l a.a0V ["_law_left","_law_kt"] (dsp 2 fA):=by
 refine cP T.a1Y nK (by decide) fQ (λcdv A outer s H E b=>?_);have nd:=nK.nd;unfold fQ;exact(aH (aR (i:=2) nd rfl (Or.inl rfl) (dP0 (dX8 b) (cA cF2 (λΓ=>cH (bJ1 rfl) (by rfl) T.a3G bT7 (gA (aB (aA (pv 0)) aF) Γ))) (aA (pv 1)) (λ_ _=>rfl)))
  (aH (aR (i:=3) nd rfl (Or.inr rfl) (cC (ow:=[5,6]) (lH (bX (aT (by decide)) (bX (aT (by decide)) iK))) (λΓ=>bY (csc [5,6] (by kernel_rfl)) (gI (cL K (by rfl) (aA (pv 0))) Γ) (λ_ _ _ _=>(fG (n:=2) K rfl rfl (bO (aP (i:=5) nd rfl (Or.inl rfl) (.inr rfl)) (bO (aP (i:=6) nd rfl (Or.inl rfl) (.inr rfl)) gW)))) (jX (dQ (aQ (by decide)) (dQ (aQ (by decide)) jV dS) dS)) (λ_ _ _ _=>(dG (bI (qB b.units) (dO (neg:=true)) (aA (pv 5)) (aA (pv 1)) (bF _)))) (λ_ _ _ _=>gE (pV (aB (cO (aA (pv 5))) (aB (cO (aA (pv 6))) aF))) Γ))))
  (aH (aR (i:=4) nd rfl (Or.inr rfl) (cC (ow:=[7]) (aT (by decide)) (λΓ=>bY (csc [7] (by kernel_rfl)) (gI (cL K (by rfl) (aA (pv 2))) Γ) (λ_ _ _ _=>(aP (i:=7) nd rfl (Or.inr rfl) (.inl rfl))) (aQ (by decide)) (λ_ _ _ _=>(dG (bI (qB b.units) (dO (neg:=true)) (cC (ow:=[5,6]) (lH (bX (aT (by decide)) (bX (aT (by decide)) iK))) (λΓ=>bY (csc [5,6] (by kernel_rfl)) (gI (cL K (by rfl) (aA (pv 3))) Γ) (λ_ _ _ _=>(fG (n:=2) K rfl rfl (bO (aP (i:=5) nd rfl (Or.inl rfl) (.inr rfl)) (bO (aP (i:=6) nd rfl (Or.inl rfl) (.inr rfl)) gW)))) (jX (dQ (aQ (by decide)) (dQ (aQ (by decide)) jV dS) dS)) (λ_ _ _ _=>(dG (bI (lJ b.units) (gF (neg:=false)) (aA (pv 7)) (aA (pv 6)) (by with_unfolding_all rfl)))) (λ_ _ _ _=>gE ge_int Γ))) (eV aF) (bF _)))) (λ_ _ _ _=>gE (cO (aA (pv 7))) Γ))))
  (aM (bV (cC (ow:=[5,6]) (lH (bX (aT (by decide)) (bX (aT (by decide)) iK))) (λΓ=>bY (csc [5,6] (by kernel_rfl)) (gI (cL K (by rfl) (aA (pv 3))) Γ) (λ_ _ _ _=>(fG (n:=2) K rfl rfl (bO (aP (i:=5) nd rfl (Or.inl rfl) (.inr rfl)) (bO (aP (i:=6) nd rfl (Or.inr rfl) (.inl rfl)) gW)))) (jX (dQ (aQ (by decide)) (dQ (aQ (by decide)) jV dS) dS)) (λ_ _ _ _=>(dG (lW (cA aH2 (λΓ=>aY (pZ K (by rfl) (by rfl)) (by rfl) T.a3A sZ (gA (aB (cC (ow:=[7]) (aT (by decide)) (λΓ=>bY (csc [7] (by kernel_rfl)) (gI (cL K (by rfl) (aA (pv 4))) Γ) (λ_ _ _ _=>(aP (i:=7) nd rfl (Or.inl rfl) (.inr rfl))) (aQ (by decide)) (λ_ _ _ _=>eO) (λ_ _ _ _=>gE (iA (lJ b.units) (gF (neg:=false)) (aA (pv 7)) (aA (pv 6)) (by with_unfolding_all rfl)) Γ))) aF) Γ)))))) (λ_ _ _ _=>gE (cO (aA (pv 5))) Γ))))))))
def bJ6(T:Txt K mg a)(c:FnOk P w K mg base CX0 1 a.a2l a.a0V ["_law_left","_law_kt"] (dsp 2 fA)):FnOk P w K mg base CX0 2 a.a2T a.a1P ["_law_question_here"] (dsp 1 eB):=by
 refine cP T.a2r aC7 (by decide) kM (λcdv A outer s H E b=>?_);have nd:=aC7.nd;unfold kM;exact(aH (aR (i:=1) nd rfl (Or.inr rfl) (cA qA (λΓ=>cH jW (by rfl) T.a2N iE (gA (aB (aA (pv 0)) aF) Γ))))
  (aH (aG7 (λΓ=>aE9 a1e (gT (bI bG6 rC (cA eA (λΓ=>aY bN (by rfl) T.a1n bR (gA (aB (aA (pv 1)) aF) Γ))) ge_int (bF _)) Γ)
  (gSs (aH (aR (i:=2) nd rfl (Or.inr rfl) (cC (ow:=[3,4]) (lH (bX (aT (by decide)) (bX (aT (by decide)) iK))) (λΓ=>bY (csc [3,4] (by kernel_rfl)) (gI (cL K (by rfl) (aA (pv 1))) Γ) (λ_ _ _ _=>(fG (n:=2) K rfl rfl (bO (aP (i:=3) nd rfl (Or.inl rfl) (.inr rfl)) (bO (aP (i:=4) nd rfl (Or.inl rfl) (.inr rfl)) gW)))) (jX (dQ (aQ (by decide)) (dQ (aQ (by decide)) jV dS) dS)) (λ_ _ _ _=>(dG (bI (qB b.units) (dO (neg:=true)) (aN (λΓ=>aK c (b.mono (by decide)) (by rfl) T.a3i T.a1Y.kp (aH6 T) .nil bG (gA (aB (aA (pv 1)) (aB (aA (pv 3)) aF)) Γ))) (eV aF) (bF _)))) (λ_ _ _ _=>gE (cO (aA (pv 3))) Γ))))
  (aH (gR (bI (fP b.units) (dO (neg:=false)) (aA (pv 2)) (eV aF) (bF _)) (aM (bV zY)) cJ)
  (aM (aR (i:=1) nd rfl (Or.inr rfl) (cC (ow:=[5]) (aT (by decide)) (λΓ=>bY (csc [5] (by kernel_rfl)) (gI (cL K (by rfl) (aA (pv 1))) Γ) (λ_ _ _ _=>(aP (i:=5) nd rfl (Or.inl rfl) (.inr rfl))) (aQ (by decide)) (λ_ _ _ _=>(dG (bI (qB b.units) (dO (neg:=true)) (gL (aA (pv 5)) ge_int (λ_ _=>rfl)) (gL (aA (pv 2)) ge_int (λ_ _=>rfl)) (bF _)))) (λ_ _ _ _=>gE (cO (aA (pv 5))) Γ))))))) Γ)))
  (aM (bV zY))))
def zH(T:Txt K mg a):FnOk P w K mg base CX0 1 a.a1I a.a0O ["_law_question_here","_law_columns_here"] (dsp 2 dW):=by
 refine cP T.a1M mO (by decide) fB (λcdv A outer s H E b=>?_);have nd:=mO.nd;unfold fB;exact(aM (bV (cA jS (λΓ=>cH fO (by rfl) T.a1E eC (gA (aB (cC (ow:=[2,3]) (lH (bX (aT (by decide)) (bX (aT (by decide)) iK))) (λΓ=>bY (csc [2,3] (by kernel_rfl)) (gI (cL K (by rfl) (aA (pv 0))) Γ) (λ_ _ _ _=>(fG (n:=2) K rfl rfl (bO (aP (i:=2) nd rfl (Or.inl rfl) (.inr rfl)) (bO (aP (i:=3) nd rfl (Or.inl rfl) (.inr rfl)) gW)))) (jX (dQ (aQ (by decide)) (dQ (aQ (by decide)) jV dS) dS)) (λ_ _ _ _=>eO) (λ_ _ _ _=>gE (pV (aB (cO (aA (pv 2))) (aB (cA jS (λΓ=>cH fO (by rfl) T.a1E eC (gA (aB (cC (ow:=[4]) (aT (by decide)) (λΓ=>bY (csc [4] (by kernel_rfl)) (gI (cL K (by rfl) (aA (pv 3))) Γ) (λ_ _ _ _=>(aP (i:=4) nd rfl (Or.inl rfl) (.inr rfl))) (aQ (by decide)) (λ_ _ _ _=>(dG (bI (lJ b.units) (gF (neg:=false)) (aA (pv 4)) (aA (pv 1)) (by with_unfolding_all rfl)))) (λ_ _ _ _=>gE (cO (aA (pv 4))) Γ))) aF) Γ))) aF))) Γ))) aF) Γ)))))
def rN(T:Txt K mg a)(d:FnOk P w K mg base CX0 2 a.a0B a.a0t ["_law_box_here","_law_things"] (dsp 2 aU))(e:FnOk P w K mg base CX0 1 a.a0P a.a0z ["_law_question_here"] (dsp 1 bB))(c:FnOk P w K mg base CX0 2 a.a2T a.a1P ["_law_question_here"] (dsp 1 eB))(f:FnOk P w K mg base CX0 1 a.a1I a.a0O ["_law_question_here","_law_columns_here"] (dsp 2 dW)):FnOk P w K mg base CX0 3 a.a0Z a.a0F ["_law_box_here","_law_question_here"] (dsp 2 cV):=by
 refine cP T.a1q kH (by decide) eG (λcdv A outer s H E b=>?_);have nd:=kH.nd;unfold eG;exact(aH (aR (i:=2) nd rfl (Or.inl rfl) (aN (λΓ=>aK d (b.mono (by decide)) (by rfl) T.a0y T.a0s.kp (eT T) .nil bG (gA (aB (aA (pv 0)) (aB (aN (λΓ=>aK e (b.mono (by decide)) (by rfl) T.a0N T.a0w.kp (gM T) .nil bG (gA (aB (aA (pv 1)) aF) Γ))) aF)) Γ))))
  (aH (gR (lW (aN (λΓ=>aK c (b.mono (by decide)) (by rfl) T.a2Y T.a2r.kp (yP T) .nil bG (gA (aB (aA (pv 1)) aF) Γ)))) (aM (bV (eV aF))) cJ)
  (aH (iZ (own:=[3]) (aT (by decide)) (λΓ=>iM a1e rfl (gI (cL K (by rfl) (cA qA (λΓ=>cH jW (by rfl) T.a2N iE (gA (aB (aA (pv 2)) aF) Γ)))) Γ) (aP (i:=3) nd rfl (Or.inr rfl))
  (gSs (aH (jY (ow:=[9]) (i:=4) (aT (by decide)) (λΓ=>gX (i:=4) nd rfl rfl (csc [9] (by kernel_rfl)) (gI (cL K (by rfl) (aA (pv 2))) Γ) (λ_ _ _ _=>(aP (i:=9) nd rfl (Or.inl rfl) (.inr rfl))) (aQ (by decide)) (λ_ _ _ _=>(dG (bI (qB b.units) (dO (neg:=true)) (aA (pv 9)) (aA (pv 3)) (bF _)))) (λ_ _ _ _=>gE (cO (aA (pv 9))) Γ) rfl))
  (aM (gR (aM4 (lW (aN (λΓ=>aK c (b.mono (by decide)) (by rfl) T.a2Y T.a2r.kp (yP T) .nil bG (gA (aB (aN (λΓ=>aK f (b.mono (by decide)) (by rfl) T.a2Z T.a1M.kp (aA1 T) .nil bG (gA (aB (aA (pv 1)) (aB (aA (pv 4)) aF)) Γ))) aF) Γ))))) (aM (aR (i:=2) nd rfl (Or.inl rfl) (cO (aA (pv 4))))) cJ))) Γ)))
  (aH (aR (i:=5) nd rfl (Or.inr rfl) (dN (aA (pv 2)) eX (eP ge_int)))
  (aH (aG7 (λΓ=>aE9 a1e (gT (bI zV nU (cA eA (λΓ=>aY bN (by rfl) T.a1n bR (gA (aB (aA (pv 5)) aF) Γ))) (cA eA (λΓ=>aY bN (by rfl) T.a1n bR (gA (aB (aA (pv 2)) aF) Γ))) (bF _)) Γ)
  (gSs (aH (aR (i:=6) nd rfl (Or.inl rfl) (eV aF))
  (aH (iZ (own:=[7,8]) (lH (bX (aT (by decide)) (bX (aT (by decide)) iK))) (λΓ=>iM a1e rfl (gI (cL K (by rfl) (aA (pv 1))) Γ) (fG (n:=2) K rfl rfl (bO (aP (i:=7) nd rfl (Or.inl rfl)) (bO (aP (i:=8) nd rfl (Or.inr rfl)) gW)))
  (gSs (aM (gR (bI (lJ b.units) (gF (neg:=false)) (gL (aA (pv 5)) (cD2 aK4 aG8 ge_int) (λ_ _=>rfl)) (aA (pv 8)) (by with_unfolding_all rfl)) (aM (gK (aG4 aH4 (λΓ=>gS K (by rfl) a5c F.slot_list_extend F.type_list_extend aH3 (pv 6) (gA (aB (cC (ow:=[3]) (aT (by decide)) (λΓ=>bY (csc [3] (by kernel_rfl)) (gI (cL K (by rfl) (aA (pv 2))) Γ) (λ_ _ _ _=>(aP (i:=3) nd rfl (Or.inl rfl) (.inr rfl))) (aQ (by decide)) (λ_ _ _ _=>(dG (GW.gt (aM3 (bI (lJ b.units) (gF (neg:=false)) (aA (pv 3)) (aA (pv 8)) (by with_unfolding_all rfl)) (tN (bI (iD b.units) (gF (neg:=true)) (aA (pv 3)) (aA (pv 5)) (by with_unfolding_all rfl))))))) (λ_ _ _ _=>gE (cO (aA (pv 3))) Γ))) aF) Γ))))) cJ)) Γ)))
  (aM (gK (iX mE (λΓ=>gS K (by rfl) a5c a6e a7e fM (pv 5) (gA (aB (gL (aA (pv 6)) ge_int (λ_ _=>rfl)) aF) Γ))))))) Γ)))
  (aM (bV (aA (pv 5)))))))))
def bJ7(T:Txt K mg a):FnOk P w K mg base CX0 1 a.a1p a.a2w ["question","columns"] (dsp 2 jF):=by
 refine cP T.a2V aC8 (by decide) kN (λcdv A outer s H E b=>?_);have nd:=aC8.nd;unfold kN;exact(aH (aR (i:=2) nd rfl (Or.inl rfl) (eV aF))
  (aH (iZ (own:=[3,4]) (lH (bX (aT (by decide)) (bX (aT (by decide)) iK))) (λΓ=>iM a1e rfl (gI (cL K (by rfl) (aA (pv 0))) Γ) (fG (n:=2) K rfl rfl (bO (aP (i:=3) nd rfl (Or.inl rfl)) (bO (aP (i:=4) nd rfl (Or.inr rfl)) gW)))
  (gSs (aH (aR (i:=5) nd rfl (Or.inl rfl) (cA jS (λΓ=>cH fO (by rfl) T.a1E eC (gA (aB (cC (ow:=[6]) (aT (by decide)) (λΓ=>bY (csc [6] (by kernel_rfl)) (gI (cL K (by rfl) (aA (pv 1))) Γ) (λ_ _ _ _=>(aP (i:=6) nd rfl (Or.inl rfl) (.inr rfl))) (aQ (by decide)) (λ_ _ _ _=>(dG (bI (lJ b.units) (gF (neg:=false)) (aA (pv 6)) (aA (pv 4)) (by with_unfolding_all rfl)))) (λ_ _ _ _=>gE (cO (aA (pv 6))) Γ))) aF) Γ))))
  (aM (gR (bI (iD b.units) (gF (neg:=true)) (aA (pv 5)) (aA (pv 2)) (by with_unfolding_all rfl)) (aM (gK (iX mE (λΓ=>gS K (by rfl) a5c a6e a7e fM (pv 2) (gA (aB (cO (aA (pv 5))) aF) Γ))))) cJ))) Γ)))
  (aM (bV (aA (pv 2))))))
def aA6(T:Txt K mg a):FnOk P w K mg base CX0 1 a.a0r a.a1j ["one","other"] (dsp 2 fC):=by
 refine cP T.a2m nL (by decide) fR (λcdv A outer s H E b=>?_);have nd:=nL.nd;unfold fR;exact(aM (bV (tO (iA (qB b.units) (dO (neg:=true)) (aA (pv 0)) (aA (pv 1)) (bF _)) (rX (cA aH2 (λΓ=>aY (pZ K (by rfl) (by rfl)) (by rfl) T.a3A sZ (gA (aB (cC (ow:=[2]) (aT (by decide)) (λΓ=>bY (csc [2] (by kernel_rfl)) (gI (cL K (by rfl) (aA (pv 0))) Γ) (λ_ _ _ _=>(aP (i:=2) nd rfl (Or.inl rfl) (.inr rfl))) (aQ (by decide)) (λ_ _ _ _=>eO) (λ_ _ _ _=>gE (iA (lJ b.units) (gF (neg:=false)) (aA (pv 2)) (aA (pv 1)) (by with_unfolding_all rfl)) Γ))) aF) Γ)))))))
def aA7(T:Txt K mg a)(b:FnOk P w K mg base CX0 1 a.a1p a.a2w ["question","columns"] (dsp 2 jF))(c:FnOk P w K mg base CX0 1 a.a0r a.a1j ["one","other"] (dsp 2 fC)):FnOk P w K mg base CX0 2 a.a0p a.a1k ["question","columns"] (dsp 2 fD):=by
 refine cP T.a1Z nM (by decide) fS (λcdv A outer s H E d=>?_);have nd:=nM.nd;unfold fS;exact(aH (aR (i:=2) nd rfl (Or.inr rfl) (aN (λΓ=>aK b (d.mono (by decide)) (by rfl) T.a3x T.a2V.kp (bT8 T) .nil bG (gA (aB (aA (pv 0)) (aB (aA (pv 1)) aF)) Γ))))
  (aM (bV (cC (ow:=[3]) (aT (by decide)) (λΓ=>bY (csc [3] (by kernel_rfl)) (gI (cL K (by rfl) (aA (pv 2))) Γ) (λ_ _ _ _=>(aP (i:=3) nd rfl (Or.inr rfl) (.inl rfl))) (aQ (by decide)) (λ_ _ _ _=>(dG (aM4 (lW (cA bV5 (λΓ=>aY (aP6 K (by rfl) (by rfl)) (by rfl) T.a3H bD0 (gA (aB (cC (ow:=[4]) (aT (by decide)) (λΓ=>bY (csc [4] (by kernel_rfl)) (gI (cL K (by rfl) (aA (pv 2))) Γ) (λ_ _ _ _=>(aP (i:=4) nd rfl (Or.inl rfl) (.inr rfl))) (aQ (by decide)) (λ_ _ _ _=>eO) (λ_ _ _ _=>gE (cO (aN (λΓ=>aK c (d.mono (by decide)) (by rfl) T.a3p T.a2m.kp (aH7 T) .nil bG (gA (aB (aA (pv 3)) (aB (aA (pv 4)) aF)) Γ)))) Γ))) aF) Γ))))))) (λ_ _ _ _=>gE (cO (aA (pv 3))) Γ))))))
def aA8(T:Txt K mg a):FnOk P w K mg base CX0 1 a.a0q a.a0T ["columns"] (dsp 1 cQ):=by
 refine cP T.a1V nN (by decide) fT (λcdv A outer s H E b=>?_);have nd:=nN.nd;unfold fT;exact(aM (bV (cC (ow:=[1]) (aT (by decide)) (λΓ=>bY (csc [1] (by kernel_rfl)) (gI (iY (λΓ=>dX (by rfl) T.a0A (gA (aB (cA eA (λΓ=>aY bN (by rfl) T.a1n bR (gA (aB (aA (pv 0)) aF) Γ))) aF) Γ)) aS4) Γ) (λ_ _ _ _=>(aP (i:=1) nd rfl (Or.inl rfl) (.inr rfl))) (aQ (by decide)) (λ_ _ _ _=>eO) (λ_ _ _ _=>gE (cO (bC bK bL (dN (aA (pv 0)) eX (eP (aA (pv 1)))) (dN (aA (pv 0)) (eP (bC bK bL (aA (pv 1)) ge_int)) eX))) Γ)))))
def aI7(T:Txt K mg a):FnOk P w K mg base CX0 1 a.neighbours a.a1y ["columns"] (dsp 1 fU):=by
 refine cP T.a2v qK (by decide) gN (λcdv A outer s H E b=>?_);have nd:=qK.nd;unfold gN;exact(aH (jY (ow:=[2]) (i:=1) (aT (by decide)) (λΓ=>gX (i:=1) nd rfl rfl (csc [2] (by kernel_rfl)) (gI (iY (λΓ=>dX (by rfl) T.a0A (gA (aB (bC bM4 bS1 (cA eA (λΓ=>aY bN (by rfl) T.a1n bR (gA (aB (aA (pv 0)) aF) Γ))) ge_int) aF) Γ)) aS4) Γ) (λ_ _ _ _=>(aP (i:=2) nd rfl (Or.inl rfl) (.inr rfl))) (aQ (by decide)) (λ_ _ _ _=>eO) (λ_ _ _ _=>gE (cO (dN (aA (pv 0)) (eP (aA (pv 2))) (eP (bC bK bL (aA (pv 2)) ge_int)))) Γ) rfl))
  (aM (bV (bC bK bL (aA (pv 1)) (eV (aB (pV (aB (gL (aA (pv 0)) ge_int (λ_ _=>rfl)) (aB (gL (aA (pv 0)) (cD2 aK4 aG8 ge_int) (λ_ _=>rfl)) aF))) aF))))))
def bJ8(T:Txt K mg a)(c:FnOk P w K mg base CX0 2 a.a0p a.a1k ["question","columns"] (dsp 2 fD))(d:FnOk P w K mg base CX0 1 a.a0q a.a0T ["columns"] (dsp 1 cQ))(e:FnOk P w K mg base CX0 1 a.neighbours a.a1y ["columns"] (dsp 1 fU)):FnOk P w K mg base CX0 3 a.a0Q a.a1O ["question","columns"] (dsp 2 cZ):=by
 refine cP T.a1R aC9 (by decide) kO (λcdv A outer s H E b=>?_);have nd:=aC9.nd;unfold kO;exact(aH (gR (GW.gt (bR1 (bI zV nU (cA eA (λΓ=>aY bN (by rfl) T.a1n bR (gA (aB (aA (pv 1)) aF) Γ))) (cD1 (by rfl) T.a3B) (bF _)) (aM2 (bI zV nU (cA aD2 (λΓ=>bD8 (id:="len") (U:="set") (yU rfl) (by rfl) T.a1n bR (by rfl) T.a3I bD2 (gA (aB (aA (pv 1)) aF) Γ))) (cA eA (λΓ=>aY bN (by rfl) T.a1n bR (gA (aB (aA (pv 1)) aF) Γ))) (bF _))))) (aM (bV zY)) cJ)
  (aH (aR (i:=2) nd rfl (Or.inl rfl) (cA rK (λΓ=>aY pI (by rfl) T.a1L eY (gA (aB (aN (λΓ=>aK c (b.mono (by decide)) (by rfl) T.a3m T.a1Z.kp (aH8 T) .nil bG (gA (aB (aA (pv 0)) (aB (aA (pv 1)) aF)) Γ))) aF) Γ))))
  (aM (bV (dY4 (iA (fP b.units) (dO (neg:=false)) (aA (pv 2)) (cA rK (λΓ=>aY pI (by rfl) T.a1L eY (gA (aB (aN (λΓ=>aK d (b.mono (by decide)) (by rfl) T.a3o T.a1V.kp (aH9 T) .nil bG (gA (aB (aA (pv 1)) aF) Γ))) aF) Γ))) (bF _)) (rX (iA (fP b.units) (dO (neg:=false)) (aA (pv 2)) (cA rK (λΓ=>aY pI (by rfl) T.a1L eY (gA (aB (aN (λΓ=>aK e (b.mono (by decide)) (by rfl) T.a3q T.a2v.kp (aO6 T) .nil bG (gA (aB (aA (pv 1)) aF) Γ))) aF) Γ))) (bF _))))))))
def aQ0(T:Txt K mg a):FnOk P w K mg base CX0 1 a.a0x a.a1H ["names"] (dsp 1 gO):=by
 refine cP T.a2E sF (by decide) iG (λcdv A outer s H E b=>?_);have nd:=sF.nd;unfold iG;exact(aH (aR (i:=1) nd rfl (Or.inl rfl) (eV (aB (pV aF) aF)))
  (aH (iZ (own:=[2]) (aT (by decide)) (λΓ=>iM a1e rfl (gI (cL K (by rfl) (aA (pv 0))) Γ) (aP (i:=2) nd rfl (Or.inr rfl))
  (gSs (aM (aR (i:=1) nd rfl (Or.inl rfl) (bC bK bL (aA (pv 1)) (cC (ow:=[3]) (aT (by decide)) (λΓ=>bY (csc [3] (by kernel_rfl)) (gI (cL K (by rfl) (aA (pv 1))) Γ) (λ_ _ _ _=>(aP (i:=3) nd rfl (Or.inl rfl) (.inr rfl))) (aQ (by decide)) (λ_ _ _ _=>eO) (λ_ _ _ _=>gE (cO (bC bK bL (aA (pv 3)) (pV (aB (cO (aA (pv 2))) aF)))) Γ)))))) Γ)))
  (aM (bV (aA (pv 1))))))
def aI8(T:Txt K mg a):FnOk P w K mg base CX0 1 a.a0u a.a1z ["question"] (dsp 1 eU):=by
 refine cP T.a2s qL (by decide) gP (λcdv A outer s H E b=>?_);have nd:=qL.nd;unfold gP;exact(aH (aR (i:=1) nd rfl (Or.inr rfl) (eV aF))
  (aH (iZ (own:=[2,3]) (lH (bX (aT (by decide)) (bX (aT (by decide)) iK))) (λΓ=>iM a1e rfl (gI (cL K (by rfl) (aA (pv 0))) Γ) (fG (n:=2) K rfl rfl (bO (aP (i:=2) nd rfl (Or.inl rfl)) (bO (aP (i:=3) nd rfl (Or.inl rfl)) gW)))
  (gSs (aM (gK (aG4 aH4 (λΓ=>gS K (by rfl) a5c F.slot_list_extend F.type_list_extend aH3 (pv 1) (gA (aB (cC (ow:=[4]) (aT (by decide)) (λΓ=>bY (csc [4] (by kernel_rfl)) (gI (cL K (by rfl) (aA (pv 3))) Γ) (λ_ _ _ _=>(aP (i:=4) nd rfl (Or.inl rfl) (.inr rfl))) (aQ (by decide)) (λ_ _ _ _=>(dG (bI (iD b.units) (gF (neg:=true)) (aA (pv 4)) (aA (pv 1)) (by with_unfolding_all rfl)))) (λ_ _ _ _=>gE (cO (aA (pv 4))) Γ))) aF) Γ))))) Γ)))
  (aM (bV (cA jS (λΓ=>cH fO (by rfl) T.a1E eC (gA (aB (aA (pv 1)) aF) Γ)))))))
def rO(T:Txt K mg a):FnOk P w K mg base CX0 1 a.a0n a.a0H ["question","one","other"] (dsp 3 dZ):=by
 refine cP T.a1x kI (by decide) eI (λcdv A outer s H E b=>?_);have nd:=kI.nd;unfold eI;exact(aM (bV (cA bV5 (λΓ=>aY (aP6 K (by rfl) (by rfl)) (by rfl) T.a3H bD0 (gA (aB (cC (ow:=[3,4]) (lH (bX (aT (by decide)) (bX (aT (by decide)) iK))) (λΓ=>bY (csc [3,4] (by kernel_rfl)) (gI (cL K (by rfl) (aA (pv 0))) Γ) (λ_ _ _ _=>(fG (n:=2) K rfl rfl (bO (aP (i:=3) nd rfl (Or.inl rfl) (.inr rfl)) (bO (aP (i:=4) nd rfl (Or.inl rfl) (.inr rfl)) gW)))) (jX (dQ (aQ (by decide)) (dQ (aQ (by decide)) jV dS) dS)) (λ_ _ _ _=>eO) (λ_ _ _ _=>gE (tO (iA (lJ b.units) (gF (neg:=false)) (aA (pv 1)) (aA (pv 4)) (by with_unfolding_all rfl)) (rX (iA (lJ b.units) (gF (neg:=false)) (aA (pv 2)) (aA (pv 4)) (by with_unfolding_all rfl)))) Γ))) aF) Γ)))))
def bW3(T:Txt K mg a)(b:FnOk P w K mg base CX0 1 a.a0n a.a0H ["question","one","other"] (dsp 3 dZ)):FnOk P w K mg base CX0 2 a.walked a.a2I ["question","columns"] (dsp 2 kP):=by
 refine cP T.a3j aO5 (by decide) mR (λcdv A outer s H E c=>?_);have nd:=aO5.nd;unfold mR;exact(aH (aR (i:=2) nd rfl (Or.inr rfl) (dN (aA (pv 1)) eX (eP ge_int)))
  (aH (iZ (own:=[3]) (aT (by decide)) (λΓ=>iM a1e rfl (gI (cL K (by rfl) (dN (aA (pv 1)) (eP ge_int) eX)) Γ) (aP (i:=3) nd rfl (Or.inl rfl))
  (gSs (aH (jY (ow:=[5]) (i:=4) (aT (by decide)) (λΓ=>gX (i:=4) nd rfl rfl (csc [5] (by kernel_rfl)) (gI (cL K (by rfl) (aA (pv 1))) Γ) (λ_ _ _ _=>(aP (i:=5) nd rfl (Or.inl rfl) (.inr rfl))) (aQ (by decide)) (λ_ _ _ _=>(dG (GW.gt (aM3 (bI (iD c.units) (gF (neg:=true)) (aA (pv 5)) (aA (pv 2)) (by with_unfolding_all rfl)) (tN (lW (aN (λΓ=>aK b (c.mono (by decide)) (by rfl) T.a2O T.a1x.kp (sQ T) .nil bG (gA (aB (aA (pv 0)) (aB (gL (aA (pv 2)) (cD2 aK4 aG8 ge_int) (λ_ _=>rfl)) (aB (aA (pv 5)) aF))) Γ))))))))) (λ_ _ _ _=>gE (cO (aA (pv 5))) Γ) rfl))
  (aM (aR (i:=2) nd rfl (Or.inr rfl) (bC bK bL (aA (pv 2)) (cA jS (λΓ=>cH fO (by rfl) T.a1E eC (gA (aB (dN (aA (pv 4)) eX (eP ge_int)) aF) Γ))))))) Γ)))
  (aM (bV (aA (pv 2))))))
def bJ9(T:Txt K mg a)(c:FnOk P w K mg base CX0 1 a.a0x a.a1H ["names"] (dsp 1 gO))(d:FnOk P w K mg base CX0 1 a.a0u a.a1z ["question"] (dsp 1 eU))(e:FnOk P w K mg base CX0 2 a.walked a.a2I ["question","columns"] (dsp 2 kP))(f:FnOk P w K mg base CX0 3 a.a0Q a.a1O ["question","columns"] (dsp 2 cZ)):FnOk P w K mg base CX0 4 a.a1v a.a2y ["question"] (dsp 1 jG):=by
 refine cP T.a2X aD0 (by decide) kQ (λcdv A outer s H E b=>?_);have nd:=aD0.nd;unfold kQ;exact(aH (iZ (own:=[1]) (aT (by decide)) (λΓ=>iM a1e rfl (gI (cL K (by rfl) (aN (λΓ=>aK c (b.mono (by decide)) (by rfl) T.a3u T.a2E.kp (aW6 T) .nil bG (gA (aB (aN (λΓ=>aK d (b.mono (by decide)) (by rfl) T.a3r T.a2s.kp (aO7 T) .nil bG (gA (aB (aA (pv 0)) aF) Γ))) aF) Γ)))) Γ) (aP (i:=1) nd rfl (Or.inl rfl))
  (gSs (aH (aR (i:=2) nd rfl (Or.inl rfl) (aN (λΓ=>aK e (b.mono (by decide)) (by rfl) T.a3z T.a3j.kp (cE6 T) .nil bG (gA (aB (aA (pv 0)) (aB (aA (pv 1)) aF)) Γ))))
  (aM (gR (lW (aN (λΓ=>aK f (b.mono (by decide)) (by rfl) T.a2F T.a1R.kp (qN T) .nil bG (gA (aB (aA (pv 0)) (aB (aA (pv 2)) aF)) Γ)))) (aM (bV (aA (pv 2)))) cJ))) Γ)))
  (aM (bV cN5)))
def aA9(T:Txt K mg a)(c:FnOk P w K mg base CX0 1 a.a0P a.a0z ["_law_question_here"] (dsp 1 bB)):FnOk P w K mg base CX0 2 a.a1F a.a0I ["_law_question_here","_law_columns_here"] (dsp 2 cS):=by
 refine cP T.a1A nO (by decide) fV (λcdv A outer s H E b=>?_);have nd:=nO.nd;unfold fV;exact(aH (aR (i:=2) nd rfl (Or.inr rfl) (aN (λΓ=>aK c (b.mono (by decide)) (by rfl) T.a0N T.a0w.kp (gM T) .nil bG (gA (aB (aA (pv 0)) aF) Γ))))
  (aH (aR (i:=3) nd rfl (Or.inr rfl) (cA eA (λΓ=>aY bN (by rfl) T.a1n bR (gA (aB (aA (pv 1)) aF) Γ))))
  (aH (gR (GW.gt (bR1 (bI zV nU (aA (pv 3)) ge_int (bF _)) (aM2 (bI zV nU (cA aD2 (λΓ=>bD8 (id:="len") (U:="set") (yU rfl) (by rfl) T.a1n bR (by rfl) T.a3I bD2 (gA (aB (aA (pv 1)) aF) Γ))) (aA (pv 3)) (bF _))))) (aM (bV zY)) cJ)
  (aH (gR (aM4 (lW (cA aH2 (λΓ=>aY (pZ K (by rfl) (by rfl)) (by rfl) T.a3A sZ (gA (aB (cC (ow:=[10]) (aT (by decide)) (λΓ=>bY (csc [10] (by kernel_rfl)) (gI (cL K (by rfl) (aA (pv 1))) Γ) (λ_ _ _ _=>(aP (i:=10) nd rfl (Or.inl rfl) (.inr rfl))) (aQ (by decide)) (λ_ _ _ _=>eO) (λ_ _ _ _=>gE (iA (lJ b.units) (gF (neg:=false)) (aA (pv 10)) (aA (pv 2)) (by with_unfolding_all rfl)) Γ))) aF) Γ))))) (aM (bV zY)) cJ)
  (aH (aR (i:=4) nd rfl (Or.inl rfl) (eV aF))
  (aH (iZ (own:=[5,6]) (lH (bX (aT (by decide)) (bX (aT (by decide)) iK))) (λΓ=>iM a1e rfl (gI (cL K (by rfl) (aA (pv 0))) Γ) (fG (n:=2) K rfl rfl (bO (aP (i:=5) nd rfl (Or.inl rfl)) (bO (aP (i:=6) nd rfl (Or.inr rfl)) gW)))
  (gSs (aM (gK (iX mE (λΓ=>gS K (by rfl) a5c a6e a7e fM (pv 4) (gA (aB (cO (cA aP7 (λΓ=>aY aD4 (by rfl) T.a1L eY (gA (aB (cC (ow:=[11]) (aT (by decide)) (λΓ=>bY (csc [11] (by kernel_rfl)) (gI (iY (λΓ=>dX (by rfl) T.a0A (gA (aB (aA (pv 3)) aF) Γ)) aS4) Γ) (λ_ _ _ _=>(aP (i:=11) nd rfl (Or.inl rfl) (.inr rfl))) (aQ (by decide)) (λ_ _ _ _=>(dG (bI (lJ b.units) (gF (neg:=false)) (gL (aA (pv 1)) (aA (pv 11)) (λ_ _=>rfl)) (aA (pv 6)) (by with_unfolding_all rfl)))) (λ_ _ _ _=>gE (cO (aA (pv 11))) Γ))) aF) Γ)))) aF) Γ))))) Γ)))
  (aH (aR (i:=7) nd rfl (Or.inl rfl) (eV aF))
  (aH (iZ (own:=[8]) (aT (by decide)) (λΓ=>iM a1e rfl (gI (cL K (by rfl) (aA (pv 4))) Γ) (aP (i:=8) nd rfl (Or.inr rfl))
  (gSs (aH (jY (ow:=[12]) (i:=9) (aT (by decide)) (λΓ=>gX (i:=9) nd rfl rfl (csc [12] (by kernel_rfl)) (gI (cL K (by rfl) (aA (pv 4))) Γ) (λ_ _ _ _=>(aP (i:=12) nd rfl (Or.inr rfl) (.inl rfl))) (aQ (by decide)) (λ_ _ _ _=>(dG (GW.gt (aM3 (bI (qB b.units) (dO (neg:=true)) (aA (pv 8)) (aA (pv 12)) (bF _)) (tN (lW (cA aH2 (λΓ=>aY (pZ K (by rfl) (by rfl)) (by rfl) T.a3A sZ (gA (aB (cC (ow:=[11]) (aT (by decide)) (λΓ=>bY (csc [11] (by kernel_rfl)) (gI (cL K (by rfl) (aA (pv 8))) Γ) (λ_ _ _ _=>(aP (i:=11) nd rfl (Or.inl rfl) (.inr rfl))) (aQ (by decide)) (λ_ _ _ _=>eO) (λ_ _ _ _=>gE (iA (lJ b.units) (gF (neg:=false)) (aA (pv 11)) (aA (pv 12)) (by with_unfolding_all rfl)) Γ))) aF) Γ))))))))) (λ_ _ _ _=>gE (cO (aA (pv 12))) Γ) rfl))
  (aM (gR (GW.gt (aM3 (bI (fP b.units) (dO (neg:=false)) (aA (pv 9)) (eV aF) (bF _)) (tN (bI (iD b.units) (gF (neg:=true)) (aA (pv 8)) (aA (pv 7)) (by with_unfolding_all rfl))))) (aM (gK (iX mE (λΓ=>gS K (by rfl) a5c a6e a7e fM (pv 7) (gA (aB (cO (aA (pv 8))) aF) Γ))))) cJ))) Γ)))
  (aH (aR (i:=7) nd rfl (Or.inl rfl) (cA zA (λΓ=>aY (rL b.units) (by rfl) T.a1L eY (gA (aB (aA (pv 7)) aF) Γ))))
  (aH (gR (bI (fP b.units) (dO (neg:=false)) (aA (pv 7)) (cA zA (λΓ=>aY (rL b.units) (by rfl) T.a1L eY (gA (aB (cC (ow:=[13]) (aT (by decide)) (λΓ=>bY (csc [13] (by kernel_rfl)) (gI (iY (λΓ=>dX (by rfl) T.a0A (gA (aB (aA (pv 3)) aF) Γ)) aS4) Γ) (λ_ _ _ _=>(aP (i:=13) nd rfl (Or.inr rfl) (.inl rfl))) (aQ (by decide)) (λ_ _ _ _=>eO) (λ_ _ _ _=>gE (cO (cC (ow:=[11]) (aT (by decide)) (λΓ=>bY (csc [11] (by kernel_rfl)) (gI (iY (λΓ=>dX (by rfl) T.a0A (gA (aB (aA (pv 3)) aF) Γ)) aS4) Γ) (λ_ _ _ _=>(aP (i:=11) nd rfl (Or.inl rfl) (.inr rfl))) (aQ (by decide)) (λ_ _ _ _=>(dG (bI (qB b.units) (dO (neg:=true)) (aA (pv 11)) (aA (pv 13)) (bF _)))) (λ_ _ _ _=>gE (cO (aA (pv 11))) Γ)))) Γ))) aF) Γ))) (bF _)) (aM (bV zY)) cJ)
  (aM (bV (tO (iA bG6 rC (aA (pv 3)) ge_int (bF _)) (rX (iA (fP b.units) (dO (neg:=false)) (aA (pv 7)) (cA zA (λΓ=>aY (rL b.units) (by rfl) T.a1L eY (gA (aB (cC (ow:=[11]) (aT (by decide)) (λΓ=>bY (csc [11] (by kernel_rfl)) (gI (iY (λΓ=>dX (by rfl) T.a0A (gA (aB (aA (pv 3)) aF) Γ)) aS4) Γ) (λ_ _ _ _=>(aP (i:=11) nd rfl (Or.inl rfl) (.inr rfl))) (aQ (by decide)) (λ_ _ _ _=>eO) (λ_ _ _ _=>gE (cO (cA aP7 (λΓ=>aY aD4 (by rfl) T.a1L eY (gA (aB (eV (aB (cO (aA (pv 11))) (aB (bC lF jB (bC bK bL (aA (pv 11)) ge_int) (aA (pv 3))) aF))) aF) Γ)))) Γ))) aF) Γ))) (bF _))))))))))))))))
def rP(T:Txt K mg a)(b:FnOk P w K mg base CX0 4 a.a1v a.a2y ["question"] (dsp 1 jG))(d:FnOk P w K mg base CX0 2 a.a2T a.a1P ["_law_question_here"] (dsp 1 eB))(e:FnOk P w K mg base CX0 2 a.a1F a.a0I ["_law_question_here","_law_columns_here"] (dsp 2 cS)):FnOk P w K mg base CX0 5 a.a1l a.a0G ["_law_question_here"] (dsp 1 bP):=by
 refine cP T.a0J kJ (by decide) eJ (λcdv A outer s H E f=>?_);have nd:=kJ.nd;unfold eJ;exact(aH (aR (i:=1) nd rfl (Or.inl rfl) (aN (λΓ=>aK b (f.mono (by decide)) (by rfl) T.a3y T.a2X.kp (bT9 T) .nil bG (gA (aB (aA (pv 0)) aF) Γ))))
  (aH (gR (lW (aN (λΓ=>aK d (f.mono (by decide)) (by rfl) T.a2Y T.a2r.kp (yP T) .nil bG (gA (aB (aA (pv 0)) aF) Γ)))) (aM (bV (iA cN0 (bS7 (neg:=false)) (aA (pv 1)) cN5 (bF _)))) cJ)
  (aM (bV (tO (cN9 (c:="tuple") K (by decide) (λΓ=>aY (aN5 K (by rfl)) (by rfl) T.a2M mK (bU (gE (aA (pv 1)) Γ) (bU (bL6 (v:=.ty "tuple") (by rfl) T.a1E eC rfl) gD)))) (rX (aN (λΓ=>aK e (f.mono (by decide)) (by rfl) T.a2K T.a1A.kp (qO T) .nil bG (gA (aB (aA (pv 0)) (aB (aA (pv 1)) aF)) Γ)))))))))
def aB0(T:Txt K mg a)(e:FnOk P w K mg base CX0 2 a.a0B a.a0t ["_law_box_here","_law_things"] (dsp 2 aU))(d:FnOk P w K mg base CX0 1 a.a0P a.a0z ["_law_question_here"] (dsp 1 bB))(c:FnOk P w K mg base CX0 1 a.a0R a.a0v ["_law_box_here","_law_many"] (dsp 2 aJ)):FnOk P w K mg base CX0 3 a.a2n a.a0X ["_law_box_here","_law_question_here","_law_columns_here"] (dsp 3 eK):=by
 refine cP T.a1U nP (by decide) fW (λcdv A outer s H E b=>?_);have nd:=nP.nd;unfold fW;exact(aH (aR (i:=3) nd rfl (Or.inl rfl) (cA qA (λΓ=>cH jW (by rfl) T.a2N iE (gA (aB (aA (pv 2)) aF) Γ))))
  (aH (gR (bI (fP b.units) (dO (neg:=false)) (aA (pv 3)) (eV aF) (bF _)) (aM (aR (i:=3) nd rfl (Or.inl rfl) (dN (aN (λΓ=>aK e (b.mono (by decide)) (by rfl) T.a0y T.a0s.kp (eT T) .nil bG (gA (aB (aA (pv 0)) (aB (aN (λΓ=>aK d (b.mono (by decide)) (by rfl) T.a0N T.a0w.kp (gM T) .nil bG (gA (aB (aA (pv 1)) aF) Γ))) aF)) Γ))) eX (eP (bC bK bL ge_int (aN (λΓ=>aK c (b.mono (by decide)) (by rfl) T.a0l T.a0k.kp (aZ T) .nil bG (gA (aB (aA (pv 0)) (aB ge_int aF)) Γ)))))))) cJ)
  (aH (aR (i:=4) nd rfl (Or.inl rfl) (aN (λΓ=>aK c (b.mono (by decide)) (by rfl) T.a0l T.a0k.kp (aZ T) .nil bG (gA (aB (aA (pv 0)) (aB (cA eA (λΓ=>aY bN (by rfl) T.a1n bR (gA (aB (aA (pv 3)) aF) Γ))) aF)) Γ))))
  (aH (aR (i:=5) nd rfl (Or.inl rfl) (aN (λΓ=>aK c (b.mono (by decide)) (by rfl) T.a0l T.a0k.kp (aZ T) .nil bG (gA (aB (aA (pv 0)) (aB (cA eA (λΓ=>aY bN (by rfl) T.a1n bR (gA (aB (aA (pv 3)) aF) Γ))) aF)) Γ))))
  (aH (aR (i:=6) nd rfl (Or.inl rfl) (aN (λΓ=>aK c (b.mono (by decide)) (by rfl) T.a0l T.a0k.kp (aZ T) .nil bG (gA (aB (aA (pv 0)) (aB ge_int aF)) Γ))))
  (aH (gR (bI zV nU (aA (pv 6)) ge_int (bF _)) (aM (aR (i:=3) nd rfl (Or.inl rfl) (bC bK bL (dN (aA (pv 3)) (eP (aA (pv 4))) eX) (dN (aA (pv 3)) eX (eP (aA (pv 4))))))) cJ)
  (aH (gR (GW.gt (bR1 (bI (fP b.units) (dO (neg:=false)) (aA (pv 6)) ge_int (bF _)) (aM2 (bI (fP b.units) (dO (neg:=false)) (aA (pv 6)) ge_int (bF _))))) (aM (aR (i:=3) nd rfl (Or.inl rfl) (cZ2 (aA (pv 3))))) cJ)
  (aH (gR (GW.gt (bR1 (bI (fP b.units) (dO (neg:=false)) (aA (pv 6)) ge_int (bF _)) (aM2 (bI (fP b.units) (dO (neg:=false)) (aA (pv 6)) ge_int (bF _))))) (aM (cZ4 (k:=3) (λΓ=>aZ5 (gE (pV (aB (gL (aA (pv 3)) (aA (pv 5)) (λ_ _=>rfl)) (aB (gL (aA (pv 3)) (aA (pv 4)) (λ_ _=>rfl)) aF))) Γ) (fG (n:=2) K rfl rfl (bO (aK3 (pv 3) (gE (aA (pv 4)) Γ) pM) (bO (aK3 (pv 3) (gE (aA (pv 5)) Γ) pM) gW)))))) cJ)
  (aH (gR (bI (fP b.units) (dO (neg:=false)) (aA (pv 6)) ge_int (bF _)) (aM (gK (iX aN3 (λΓ=>gS K (by rfl) a5c F.slot_list_pop F.type_list_pop aZ9 (pv 3) (gA (aB (cO (aA (pv 4))) aF) Γ))))) cJ)
  (aH (gR (bI (fP b.units) (dO (neg:=false)) (aA (pv 6)) ge_int (bF _)) (aM (gK (iX cZ0 (λΓ=>gS K (by rfl) a5c F.slot_list_insert F.type_list_insert cF9 (pv 3) (gA (aB (cO (aA (pv 4))) (aB (gL (aN (λΓ=>aK d (b.mono (by decide)) (by rfl) T.a0N T.a0w.kp (gM T) .nil bG (gA (aB (aA (pv 1)) aF) Γ))) (aN (λΓ=>aK c (b.mono (by decide)) (by rfl) T.a0l T.a0k.kp (aZ T) .nil bG (gA (aB (aA (pv 0)) (aB (cA eA (λΓ=>aY bN (by rfl) T.a1n bR (gA (aB (aN (λΓ=>aK d (b.mono (by decide)) (by rfl) T.a0N T.a0w.kp (gM T) .nil bG (gA (aB (aA (pv 1)) aF) Γ))) aF) Γ))) aF)) Γ))) (λ_ _=>rfl)) aF)) Γ))))) cJ)
  (aH (gR (bI (fP b.units) (dO (neg:=false)) (aA (pv 6)) ge_int (bF _)) (aM (bS6 (k:=3) (λΓ=>aZ5 (gE (gL (eV (aB bR0 (aB (gL (aA (pv 3)) (aA (pv 5)) (λ_ _=>rfl)) aF))) (aN (λΓ=>aK c (b.mono (by decide)) (by rfl) T.a0l T.a0k.kp (aZ T) .nil bG (gA (aB (aA (pv 0)) (aB ge_int aF)) Γ))) (λ_ _=>rfl)) Γ) (aK3 (pv 3) (gE (aA (pv 4)) Γ) pM)))) cJ)
  (aM (bV (cA jS (λΓ=>cH fO (by rfl) T.a1E eC (gA (aB (aA (pv 3)) aF) Γ))))))))))))))))
def aQ1(T:Txt K mg a):FnOk P w K mg base CX0 1 a.a2L a.a1G ["_law_found","_law_due"] (dsp 2 fH):=by
 refine cP T.a2C sH (by decide) iH (λcdv A outer s H E b=>?_);have nd:=sH.nd;unfold iH;exact(aM (bV (tO (cN9 (c:="bool") K (by decide) (λΓ=>aY (aN5 K (by rfl)) (by rfl) T.a2M mK (bU (gE (aA (pv 0)) Γ) (bU (bL6 (v:=.ty "bool") (by rfl) T.a3E bT6 rfl) gD)))) (rX (iA (fP b.units) (dO (neg:=false)) (aA (pv 0)) (aA (pv 1)) (bF _))))))
def dQ3(T:Txt K mg a)(e:FnOk P w K mg base CX0 5 a.a1K a.a0M ["_law_box_here"] (bR9 1 cG))(c:FnOk P w K mg base CX0 1 a.a3l a.a2z ["_law_script","_law_k"] (dsp 2 cY))(g:FnOk P w K mg base CX0 3 a.a0Z a.a0F ["_law_box_here","_law_question_here"] (dsp 2 cV))(d:FnOk P w K mg base CX0 3 a.a0Q a.a1O ["question","columns"] (dsp 2 cZ))(f:FnOk P w K mg base CX0 5 a.a1l a.a0G ["_law_question_here"] (dsp 1 bP))(h:FnOk P w K mg base CX0 3 a.a2n a.a0X ["_law_box_here","_law_question_here","_law_columns_here"] (dsp 3 eK))(j:FnOk P w K mg base CX0 1 a.a2L a.a1G ["_law_found","_law_due"] (dsp 2 fH))(k:FnOk P w K mg base CX0 2 a.a1F a.a0I ["_law_question_here","_law_columns_here"] (dsp 2 cS)):FnOk P w K mg base CX0 6 a.law a.a3C ["_law_script"] (bR9 1 zE):=by
 refine aU8 T.a3L cO2 (by decide) aD6 aX6 (λcdv A outer s H E b=>GM.to ?_);have nd:=cO2.nd;unfold aD6;exact(aI6 (aX5 (zD dU) (λΓ=>aB1 (i:=1) nd rfl (Or.inl rfl) (aK e (b.mono (by decide)) (by rfl) T.a2A T.a0U.kp (nQ T) .nil bG (gA (aB (aN (λΓ=>aK c (b.mono (by decide)) (by rfl) T.a2J T.a1S.kp (qM T) .nil bG (gA (aB (aA (pv 0)) (aB ge_int aF)) Γ))) aF) Γ))))
  (aI6 (aX5 (zD dU) (λΓ=>aB1 (i:=2) nd rfl (Or.inl rfl) (aK e (b.mono (by decide)) (by rfl) T.a2A T.a0U.kp (nQ T) .nil bG (gA (aB (aN (λΓ=>aK c (b.mono (by decide)) (by rfl) T.a2J T.a1S.kp (qM T) .nil bG (gA (aB (aA (pv 0)) (aB ge_int aF)) Γ))) aF) Γ))))
  (bW1 (aH (iZ (own:=[3]) (aT (by decide)) (λΓ=>iM a1e rfl (gI (cL K (by rfl) (pV (aB (cO (aA (pv 1))) (aB (cO (aA (pv 2))) aF)))) Γ) (aP (i:=3) nd rfl (Or.inl rfl))
  (gSs (aH (aR (i:=4) nd rfl (Or.inl rfl) (aN (λΓ=>aK g (b.mono (by decide)) (by rfl) T.a2P T.a1q.kp (sP T) .nil bG (gA (aB (aN (λΓ=>aK c (b.mono (by decide)) (by rfl) T.a2J T.a1S.kp (qM T) .nil bG (gA (aB (aA (pv 0)) (aB ge_int aF)) Γ))) (aB (aA (pv 3)) aF)) Γ))))
  (aH (gR (GW.gt (bR1 (GW.gt (aM3 (bI (qB b.units) (dO (neg:=true)) (aA (pv 4)) (eV aF) (bF _)) (tN (bI cU4 (bS7 (neg:=true)) (aN (λΓ=>aK d (b.mono (by decide)) (by rfl) T.a2F T.a1R.kp (qN T) .nil bG (gA (aB (aA (pv 3)) (aB (cA jS (λΓ=>cH fO (by rfl) T.a1E eC (gA (aB (aA (pv 4)) aF) Γ))) aF)) Γ))) zY (bF _))))) (aM2 (aM4 (lW (aN (λΓ=>aK f (b.mono (by decide)) (by rfl) T.a2q T.a0J.kp (lP T) .nil bG (gA (aB (aA (pv 3)) aF) Γ)))))))) (aM (bV zY)) cJ)
  (aM (iZ (own:=[5]) (aT (by decide)) (λΓ=>iM a1e rfl (gI (cV4 (λΓ=>bM2 (by rfl) T.a0A (gA (aB ge_int (aB (cA cD9 (λΓ=>aY (bM8 (by rfl)) (by rfl) T.a3J cE5 (gA (aB ge_int (aB (cA bC3 (λΓ=>aY (tH (by rfl)) (by rfl) T.a3D aH5 (gA (aB ge_int (aB (cA eA (λΓ=>aY bN (by rfl) T.a1n bR (gA (aB (aA (pv 0)) aF) Γ))) aF)) Γ))) aF)) Γ))) aF)) Γ)) dM4) Γ) (aP (i:=5) nd rfl (Or.inl rfl))
  (gSs (aH (aR (i:=6) nd rfl (Or.inl rfl) (aN (λΓ=>aK h (b.mono (by decide)) (by rfl) T.a3n T.a1U.kp (aI0 T) .nil bG (gA (aB (aN (λΓ=>aK c (b.mono (by decide)) (by rfl) T.a2J T.a1S.kp (qM T) .nil bG (gA (aB (aA (pv 0)) (aB (aA (pv 5)) aF)) Γ))) (aB (aA (pv 3)) (aB (aA (pv 4)) aF))) Γ))))
  (aM (gR (aM4 (lW (aN (λΓ=>aK j (b.mono (by decide)) (by rfl) T.a3t T.a2C.kp (aW7 T) .nil bG (gA (aB (aN (λΓ=>aK d (b.mono (by decide)) (by rfl) T.a2F T.a1R.kp (qN T) .nil bG (gA (aB (aA (pv 3)) (aB (aA (pv 6)) aF)) Γ))) (aB (aN (λΓ=>aK k (b.mono (by decide)) (by rfl) T.a2K T.a1A.kp (qO T) .nil bG (gA (aB (aA (pv 3)) (aB (aA (pv 6)) aF)) Γ))) aF)) Γ))))) (aM (bV zY)) cJ))) Γ)))))) Γ)))
  (aM (bV (tO (aN (λΓ=>aK f (b.mono (by decide)) (by rfl) T.a2q T.a0J.kp (lP T) .nil bG (gA (aB (aA (pv 1)) aF) Γ))) (rX (iA cN0 (bS7 (neg:=false)) (aN (λΓ=>aK d (b.mono (by decide)) (by rfl) T.a2F T.a1R.kp (qN T) .nil bG (gA (aB (aA (pv 1)) (aB (pV aF) aF)) Γ))) zY (bF _))))))))))
end
end Mr
namespace Dv
open PySem L2 Mr
mutual
def smp:D->Bool
 | .non=>true
 | .int _=>true
 | .str z=>PyData.strOk z
 | .tup l=>smps l
 | .lst l=>smps l
 | _=>false
def smps:List D->Bool
 | []=>true
 | d::r=>smp d&&smps r
end
mutual
theorem bW4:∀ {d:D},smp d=true->(nE d).canLay0=true
 | .non,_=>rfl
 | .int _,_=>rfl
 | .str z,h=>h
 | .tup l,h=>smps_lay (l:=l) h
 | .lst l,h=>smps_lay (l:=l) h
 | .bl _,h=>nomatch h
 | .dic _ _,h=>nomatch h
theorem smps_lay:∀ {l:List D},smps l=true->PyData.canLayAll0 (toPys l)=true
 | [],_=>rfl
 | d::r,h=>by
   have h':smp d=true/\smps r=true:=by simpa[smps]using h
   show((nE d).canLay0&&PyData.canLayAll0 (toPys r))=true;rw[bW4 h'.1,smps_lay h'.2];rfl
end
mutual
theorem bW5:∀ {d e:D},smp d=true->smp e=true->(PyData.eqv (nE d) (nE e)=true↔d=e)
 | .non,e,_,he=>by cases e<;>simp_all [nE,PyData.eqv,smp]
 | .str x,e,_,he=>by cases e<;>simp_all [nE,PyData.eqv,smp]
 | .int i,e,_,he=>by cases e<;>simp_all [nE,PyData.eqv,smp]
 | .tup l,e,hd,he=>by
   cases e with
   | tup m=>
     show PyData.eqvAll (toPys l) (toPys m)=true↔_;rw[eqvs_smp (l:=l) (m:=m) hd he,D.tup.injEq]
   | _=>simp_all [nE,PyData.eqv,smp]
 | .lst l,e,hd,he=>by
   cases e with
   | lst m=>
     show PyData.eqvAll (toPys l) (toPys m)=true↔_;rw[eqvs_smp (l:=l) (m:=m) hd he,D.lst.injEq]
   | _=>simp_all [nE,PyData.eqv,smp]
 | .bl _,_,h,_=>nomatch h
 | .dic _ _,_,h,_=>nomatch h
theorem eqvs_smp:∀ {l m:List D},smps l=true->smps m=true->(PyData.eqvAll (toPys l) (toPys m)=true↔l=m)
 | [],[],_,_=>by simp[toPys,PyData.eqvAll]
 | [],e::m,_,_=>by simp[toPys,PyData.eqvAll]
 | d::l,[],_,_=>by simp[toPys,PyData.eqvAll]
 | d::l,e::m,hd,he=>by
   have a:smp d=true/\smps l=true:=by simpa[smps]using hd
   have b:smp e=true/\smps m=true:=by simpa[smps]using he
   show((nE d).eqv (nE e)&&PyData.eqvAll (toPys l) (toPys m))=true↔_;rw[a5f,bW5 a.1 b.1,eqvs_smp a.2 b.2,List.cons.injEq]
end
structure Ok(n:Nat)(d:D):Prop where
 smp:Dv.smp d=true
 dep:(nE d).depth<=n
theorem aX9:∀ {l:List D},(∀ d∈l,smp d=true)->smps l=true
 | [],_=>rfl
 | d::r,h=>by
   show(smp d&&smps r)=true;rw[h d a3a,aX9 λx a=>h x (a4a _ a)];rfl
theorem aY0{n:Nat}:∀ {l:List D},(∀ d∈l,(nE d).depth<=n)->PyData.depthAll (toPys l)<=n
 | [],_=>a0d _
 | d::r,h=>Nat.max_le.mpr ⟨h d a3a,aY0 λx a=>h x (a4a _ a)⟩
theorem Ok.lst{n:Nat}{l:List D}(h:∀ d∈l,Ok n d):Ok (n+1) (.lst l):=⟨aX9 λd hd=>(h d hd).smp,Nat.succ_le_succ (aY0 λd hd=>(h d hd).dep)⟩
theorem Ok.tup{n:Nat}{l:List D}(h:∀ d∈l,Ok n d):Ok (n+1) (.tup l):=⟨aX9 λd hd=>(h d hd).smp,Nat.succ_le_succ (aY0 λd hd=>(h d hd).dep)⟩
theorem Ok.int{n:Nat}{i:Int}:Ok n (.int i):=⟨rfl,a0d _⟩
theorem Ok.str{n:Nat}{z:Str}(h:∀ c∈z.cps.toList,c < 128):Ok n (.str z):=by
 refine⟨?_,a0d _⟩;show PyData.strOk z=true;unfold PyData.strOk;rw[← Array.all_toList,a6g];intro c a;have:=h c a;simp;lia
def Ok.cmp{n:Nat}{d:D}(h:Ok n d)(hn:n<=60):mG d=true:=by
 unfold mG;rw[bW4 h.smp,a3T (a6c h.dep hn)];rfl
def bW6{n m:Nat}{d e:D}(a:Ok n d)(b:Ok m e):zZ d e=decide (d=e):=by
 rw[a0e,a3R];exact bW5 a.smp b.smp
def sI{neg:Bool}{n m:Nat}{d e:D}(a:Ok n d)(b:Ok m e)(hn:n<=60)(hm:m<=60){K:Res->Prop}(k:K (.val (.bl (if neg=true then !decide (d=e)else decide (d=e))))):OK1 (eqD neg d e) K:=by
 unfold eqD;rw[a3O ⟨a.cmp hn,b.cmp hm⟩,bW6 a b];exact k
def zI{neg:Bool}{n:Nat}{l:List D}(h:∀ d∈l,Ok n d)(hn:n < 60){K:Res->Prop}(k:K (.val (.bl (if neg=true then !l.isEmpty else l.isEmpty)))):OK1 (eqD neg (.lst l) (.lst [])) K:=by
 refine sI (n:=n+1) (m:=1) (.lst h) (.lst (n:=0) λ_ z=>absurd z List.not_mem_nil) (by lia) (by decide) ?_;rw[show decide (D.lst l=D.lst [])=l.isEmpty by rw[a0e,a3R,D.lst.injEq,List.isEmpty_iff]];exact k
theorem cP7{n m:Nat}{d:D}(h:Ok n d):∀ {l:List D},(∀ x∈l,Ok m x)->(l.any λy=>zZ y d)=decide (d∈l)
 | [],_=>by simp
 | x::r,hl=>by
   rw[List.any_cons,cP7 h λy a=>hl y (a4a _ a),bW6 (hl x a3a) h,a0e,Bool.or_eq_true,a3R,a3R,a3R,a4b,eq_comm]
def cP8{neg:Bool}{n m:Nat}{d:D}{l:List D}{b:Bool}(c:Ok n d)(a:∀ x∈l,Ok m x)(hn:n<=60)(hm:m < 60){K:Res->Prop}(k:K (.val (.bl (if neg=true then !decide (d∈l)else decide (d∈l))))):OK1 (inD neg d (if b=true then .lst l else .tup l)) K:=by
 have e:inD neg d (if b=true then .lst l else .tup l)=if mG d=true/\mG (if b=true then .lst l else .tup l)=true then some (.val (.bl (if neg then !(l.any λy=>zZ y d)else l.any λy=>zZ y d)))else none:=by
  cases b<;>cases d<;>rfl
 have f:mG (if b=true then .lst l else .tup l)=true:=by
  cases b;exact(Ok.tup a).cmp (by lia);exact(Ok.lst a).cmp (by lia)
 rw[e,a3O ⟨c.cmp hn,f⟩,cP7 c a];exact k
def rQ{neg:Bool}{n m:Nat}{d:D}{l:List D}(a:Ok n d)(c:∀ x∈l,Ok m x)(hn:n<=60)(hm:m < 60){K:Res->Prop}(k:K (.val (.bl (if neg=true then !decide (d∈l)else decide (d∈l))))):OK1 (inD neg d (.lst l)) K:=cP8 (b:=true) a c hn hm k
def cZ8{neg:Bool}{n m:Nat}{d:D}{l:List D}(a:Ok n d)(c:∀ x∈l,Ok m x)(hn:n<=60)(hm:m < 60){K:Res->Prop}(k:K (.val (.bl (if neg=true then !decide (d∈l)else decide (d∈l))))):OK1 (inD neg d (.tup l)) K:=cP8 (b:=false) a c hn hm k
end Dv
namespace Mr
open PySem L2 Dv
local macro_rules | `(tactic| walk_at "dx")=>do
 let l:=("cW5 tZ uA uB uC uD uE uF uG uH uI uJ uK uL uM uN uO aV4 uP mH nV uQ uR nW nX nY uT uU aV5 uV uW aV6 uX uY uZ vA vB vC nZ oA vD vE vF vG vH oB vJ oC vK vM vN vO vP yS vQ vR vS oE oF vU vV vW vX vY vZ wA pJ wB wC aV7 oG lC oH wD wE oJ wR wT wU wV wW wX wY wZ xA pG aV8 xB oU oV lE jC yQ mP pF pE xE oW oX oY xF xG xH xI xJ aV9 aW0 aW1 aW2 xK xL xM oZ pA xN pB xO xP pC lD xQ pD aN7 xR xS xT xU aW3 xV cX2 xW xX mI bZ xY xZ yA yB wF wG wH wI wJ wK wL wM wN oK oM oN oO wO wP wQ reduceIte".splitOn " ").toArray.map fun s=>Lean.mkIdent s.toName
 let m:=("yC yD yE aN8 aW4 Int.reducePow Int.reduceNeg Int.reduceLT Int.reduceLE Nat.reducePow Nat.reduceLT Int.reduceToNat Nat.reduceLeDiff yH yF aW5 yG oP oQ oR oS List.set_cons_zero List.set_cons_succ eW bC0 List.length_cons List.length_nil Nat.reduceAdd Nat.zero_add true_and and_true and_self Bool.not_false Bool.not_true Bool.false_eq_true Bool.true_and Bool.and_true Bool.or_false decide_eq_true_eq".splitOn " ").toArray.map fun s=>Lean.mkIdent s.toName
 `(tactic| simp only[$[↓$l:ident],*,$[$m:ident],*])
def sl2:(2<=sizeLine):=by decide
def dA{a b m:Int}(h:0 < m)(c:m < 18446744073709551616){K:Res->List Sl->Prop}(k:∀ d e f,0<=d->d < m->K (.val (.int d)) [⟨.par,.lst [.int e,.int f]⟩,⟨.val,.int m⟩]):CK aJ [⟨.par,.lst [.int a,.int b]⟩,⟨.val,.int m⟩] K:=by
 unfold aJ;rw[eR];show RS jD [_,_,none,none] _;unfold jD;walk_at "dx";rw[aN8 h c];split;exact⟨h,True.intro,k _ _ _ (a2i _ (by lia)) (a1h _ h)⟩;exact⟨h,k _ _ _ (a2i _ (by lia)) (a1h _ h)⟩
def bW7{ns:List Int}{i:Int}(h0:0<=i)(a:i < (ns.length:Int)):∃ c,atI (ns.map D.int) i=some (.int c):=by
 obtain⟨c,b⟩:=bP5 (ys:=ns) h0 a;exact⟨c,by rw[bP6,b];rfl⟩
def bE5{ns:List Int}{n:Int}(h0:0<=n)(e:n < 1000){K:Res->List Sl->Prop}(k:∀ a b,K (.own (.lst [.int a,.int b])) [⟨.val,.lst (ns.map D.int)⟩,⟨.val,.int n⟩]):CK cY [⟨.val,.lst (ns.map D.int)⟩,⟨.val,.int n⟩] K:=by
 unfold cY;rw[eR];show RS kL [_,_,none,none] _;unfold kL;walk_at "dx";split;rename_i d;obtain⟨c,d⟩:=bW7 (ns:=ns) h0 (by simpa using d);rw[d];walk_at "dx";exact⟨sl2,k _ _⟩;split;rename_i d;refine⟨d,?_⟩;obtain⟨c,d⟩:=bW7 (ns:=ns) (i:=n % ((ns.map D.int).length:Int)) (a2i _ (by lia)) (by have:=a1h n d;simpa using this);rw[d];walk_at "dx";exact⟨sl2,k _ _⟩;exact⟨sl2,k _ _⟩
def qS{lo:Int}{n i:Nat}{d:D}(h:(sL lo n)[i]? = some d):i < n/\d=.int (lo+i):=by
 unfold sL at h;rw[a3c]at h;cases e:(List.range n)[i]? with
 | none=>rw[e]at h;cases h
 | some k=>
   rw[e]at h;obtain⟨hi,a⟩:=a2a.mp e;rw[a4f]at hi;rw[List.getElem_range]at a;subst a;exact⟨hi,(a0b h).symm⟩
def cD(lo:Int)(n:Nat):(sL lo n).length=n:=by simp[sL]
def bW8{α:Type}{l:List α}{i:Int}{c:α}(h:atI l i=some c):c∈l:=by
 unfold atI at h;obtain⟨j,_,a⟩:=aE h;exact a0c a
def cP9{l:List D}{d:Int}(h0:0<=d)(a:d < (l.length:Int))(b:d < 9223372036854775808){K:D×D->Prop}(k:∀ y r,(y::r).Perm l->r.length+1=l.length->K (.lst r,y)):OK1 (tX (.lst l) [.int d]) K:=by
 obtain⟨n,rfl⟩:∃ n:Nat,d=n:=⟨d.toNat,by lia⟩;have hn:n < l.length:=by lia
 unfold tX;dsimp only;rw[a3O ⟨by lia,by lia⟩];have e:ixN l.length (n:Int)=some n:=by
  unfold ixN;rw[a3O (by lia),a3O (by lia)];simp
 rw[e];show OK1 ((l[n]?).map _) K;rw[a0a hn];exact k _ _ (aB5 l n hn) (by rw[List.length_eraseIdx_of_lt hn];lia)
def pK{a b:Int}{xs:List D}{m:Md}{t:D}(hm:m=.par/\t=.lst xs\/m=.val/\t=.lst xs\/m=.val/\t=.tup xs)(q:xs.length<=1000){K:Res->List Sl->Prop}(k:∀ ys e f,ys.Perm xs->K (.own (.lst ys)) [⟨.par,.lst [.int e,.int f]⟩,⟨m,t⟩]) :
  CK aU [⟨.par,.lst [.int a,.int b]⟩,⟨m,t⟩] K:=by
 unfold aU;rw[eR];show RS eZ [_,_,none,none] _;unfold eZ;rcases hm with⟨rfl,rfl⟩ | ⟨rfl,rfl⟩ | ⟨rfl,rfl⟩
 all_goals
  walk_at "dx";refine⟨a0d _,?_⟩;refine rF (λm τ=>∃ e f bD found,m=bD.length/\bD.length<=xs.length/\found.length+bD.length=xs.length/\(found++bD).Perm xs/\τ=[some ⟨.par,.lst [.int e,.int f]⟩,some _,some ⟨.own,.lst bD⟩,some ⟨.own,.lst found⟩]) xs.length (by lia) ⟨a,b,xs,[],rfl,a7a _,by simp,.refl _,rfl⟩ ?_;rintro m τ ⟨e,f,bD,found,rfl,i,j,h,rfl⟩;walk_at "dx";split;rename_i c;refine dA (by simpa using c) (by lia) λd l n o p=>?_;walk_at "dx";refine cP9 o (by simpa using p) (by lia) λy r g s=>?_;refine⟨a6d (by lia:found.length < 1001) (by decide),.inl ⟨_,r.length,.inl rfl,by lia,l,n,r,found++[y],rfl,by lia,by rw[a8a];simp only[List.length_cons,List.length_nil];lia,?_,rfl⟩⟩;rw[List.append_assoc];exact(List.Perm.append_left found g).trans h;rename_i c;have:bD=[]:=List.eq_nil_of_length_eq_zero (by lia);subst this;exact k found e f (by simpa using h)
def aD7(l:List D){n:Int}(h:0<=n):aK0 l none (some n)=l.take n.toNat:=by
 obtain⟨k,rfl⟩:=Int.eq_ofNat_of_zero_le h;unfold aK0;rw[HT.sIx_none,HT.sIx_nat,List.drop_zero,Nat.sub_zero,a9h];by_cases h:k<=l.length;rw[Nat.min_eq_left h];rw[Nat.min_eq_right (by lia),List.take_length,a6h (by lia)]
def cG5(l:List D){n:Int}(h:0<=n):aK0 l (some n) none=l.drop n.toNat:=by
 obtain⟨k,rfl⟩:=Int.eq_ofNat_of_zero_le h;unfold aK0;rw[HT.sIx_none,HT.sIx_nat,a9h];by_cases h:k<=l.length;rw[Nat.min_eq_left h,a6h (by rw[a1f];lia)];rw[Nat.min_eq_right (by lia),List.drop_length,List.drop_of_length_le (by lia),List.take_nil]
def aY1{a b:Int}{xs:List D}{m:Md}{t:D}(hm:m=.par/\t=.lst xs\/m=.val/\t=.lst xs\/m=.val/\t=.tup xs)(h0:xs≠[])(e:xs.length<=1000){K:Res->List Sl->Prop}
  (k:∀ ys f g,ys≠[]->ys.length<=4->(∀ y∈ys,y∈xs)->(xs.Nodup->ys.Nodup)->K (.own (.lst ys)) [⟨.par,.lst [.int f,.int g]⟩,⟨m,t⟩]):CK cF [⟨.par,.lst [.int a,.int b]⟩,⟨m,t⟩] K:=by
 have p:0 < xs.length:=List.length_pos_iff.mpr h0;have h:∃ n:Int,(if(xs.length:Int) < 4 then(xs.length:Int)else 4)=n/\1<=n/\n<=4:=⟨_,rfl,by split<;>lia,by split<;>lia⟩;obtain⟨n,i,n1,q⟩:=h;unfold cF;rw[eR];show RS jE [_,_] _;unfold jE;rcases hm with⟨rfl,rfl⟩ | ⟨rfl,rfl⟩ | ⟨rfl,rfl⟩
 all_goals
  walk_at "dx"
  first | refine⟨by decide,pK (xs:=xs) (by simp) e λys j l c=>?_⟩ | refine pK (xs:=xs) (by simp) e λys j l c=>?_
  walk_at "dx";rw[i];refine dA (by lia) (by lia) λd r s u v=>?_;walk_at "dx";rw[aD7 _ (by lia)];have w:=c.length_eq;refine k _ _ _ (λz=>?_) ?_ (λy o=>c.mem_iff.mp (a8d o)) λnd=>(c.nodup_iff.mpr nd).sublist (List.take_sublist _ _);have:=a3W List.length z;rw[a9c,a5g]at this;lia;rw[a9c];lia
def Tx(z:Str):Prop:=z.length<=100/\∀ c∈z.cps.toList,c < 128
theorem aD8{z:Str}{lo hi:Option Int}{K:Res->Prop}:SK (.str z) lo hi K=(z.length<=sizeLine/\K (.val (.str (Txt.slice z lo hi)))):=by
 show OK1 (if _ then _ else none) K=_;rw[bW];rfl
theorem rR{z:Str}{i:Int}{K:Res->Prop}:OK1 (aV2 (.str z) (.int i)) K=((z.length<=1000/\0<=i/\i<=1000)/\K (.val (.str (Txt.mul z i)))):=by
 unfold aV2;dsimp only;rw[bW];rfl
theorem bK0{i:Nat}{σ a:Sg}:nS [i] σ a=a.set i (σ[i]?.getD none):=rfl
def cG6:(Str.ofString "abcdefghijklmnopqrstuvwxyz").cps.toList.length=26:=by decide
def aF6(z:Str):z.length=z.cps.toList.length:=by show z.cps.size=_;simp
def zJ(x y:Str):(x++y).cps.toList=x.cps.toList++y.cps.toList:=by show(x.cps++y.cps).toList=_;simp
theorem zK(x y:Str):(x++y).length=x.length+y.length:=by rw[aF6,aF6,aF6,zJ,a8a]
def As(z:Str):Prop:=∀ c∈z.cps.toList,c < 128
def bW9{x y:Str}(b:As x)(d:As y):As (x++y):=by
 intro c a;rw[zJ]at a;rcases a3b.mp a with h | h;exact b c h;exact d c h
def bE6{z:Str}(h:As z)(lo hi:Option Int):As (Txt.slice z lo hi):=by
 intro c a;unfold Txt.slice at a;split at a;exact h c a;simp only[List.mem_filterMap]at a;obtain⟨i,_,hi⟩:=a;exact h c (Array.mem_toList_iff.mpr (Array.mem_of_getElem? hi))
theorem slice_le(z:Str)(lo hi:Option Int):(Txt.slice z lo hi).length<=z.length:=Txt.slice_le z lo hi
local macro_rules | `(tactic| walk_at "dx")=>do
 let l:=("aD8 rR cW5 tZ uA uB uC uD uE uF uG uH uI uJ uK uL uM uN uO aV4 uP mH nV uQ uR nW nX nY uT uU aV5 uV uW aV6 uX uY uZ vA vB vC nZ oA vD vE vF vG vH oB vJ oC vK vM vN vO vP yS vQ vR vS oE oF vU vV vW vX vY vZ wA pJ wB wC aV7 oG lC oH wD wE oJ wR wT wU wV wW wX wY wZ xA pG aV8 xB oU oV lE jC yQ mP pF pE xE oW oX oY xF xG xH xI xJ aV9 aW0 aW1 aW2 xK xL xM oZ pA xN pB xO xP pC lD xQ pD aN7 xR xS xT xU aW3 xV cX2 xW xX mI bZ xY xZ yA yB wF wG wH wI wJ wK wL wM wN oK oM oN oO wO wP wQ reduceIte".splitOn " ").toArray.map fun s=>Lean.mkIdent s.toName
 let m:=("yC yD yE aN8 aW4 Int.reducePow Int.reduceNeg Int.reduceLT Int.reduceLE Nat.reducePow Nat.reduceLT Int.reduceToNat Nat.reduceLeDiff yH yF aW5 yG oP oQ oR oS bK0 List.getElem?_cons_succ List.getElem?_cons_zero Option.getD_some List.set_cons_zero List.set_cons_succ eW bC0 List.length_cons List.length_nil Nat.reduceAdd Nat.zero_add true_and and_true and_self Bool.not_false Bool.not_true Bool.false_eq_true Bool.true_and Bool.and_true Bool.or_false decide_eq_true_eq".splitOn " ").toArray.map fun s=>Lean.mkIdent s.toName
 `(tactic| simp only[$[↓$l:ident],*,$[$m:ident],*])
theorem bX0:∀ (a:List Str),(∀ z∈a,z.length<=1)->(a.map (·.length)).sum<=a.length
 | [],_=>by simp
 | z::r,h=>by
   have c:=h z a3a;have d:=bX0 r λy b=>h y (a4a _ b);simp only[List.map_cons,List.sum_cons,List.length_cons];lia
def cZ9{e:Int}(b:0<=e)(d:e < 26):∃ c,atI (Str.ofString "abcdefghijklmnopqrstuvwxyz").cps.toList e=some c/\c < 128:=by
 obtain⟨c,a⟩:=bP5 (ys:=(Str.ofString "abcdefghijklmnopqrstuvwxyz").cps.toList) b (by rw[cG6];exact d);exact⟨c,a,cU9 c (bW8 a)⟩
def bE7{c:Nat}(h:c < 128):As ⟨#[c]⟩:=by
 intro x a;have:x=c:=by simpa using a
 subst this;exact h
def tx1{c:Nat}(h:c < 128):Tx ⟨#[c]⟩:=⟨by show 1<=100;decide,bE7 h⟩
def aD9{x y:Str}{m n:Nat}(a:x.length<=m/\As x)(b:y.length<=n/\As y):(x++y).length<=m+n/\As (x++y):=⟨by rw[zK];lia,bW9 a.2 b.2⟩
theorem aS4(c:Nat):Str.length ⟨#[c]⟩=1:=rfl
def dQ4{m:Int}(h:m=0\/m=1):(Txt.mul "z" m).length<=1/\As (Txt.mul "z" m):=by
 rcases h with rfl | rfl;exact⟨by decide,by unfold As;decide⟩;exact⟨by decide,by unfold As;decide⟩
def zm2(p:Prop)[Decidable p]:(if p then(1:Int)else 0)=0\/(if p then(1:Int)else 0)=1:=by
 split;exact .inr rfl;exact .inl rfl
def aY2{e:Int}(a:0<=e)(b:e < 26):atI (Str.ofString "abcdefghijklmnopqrstuvwxyz").cps.toList e=some (97+e.toNat):=by
 have h:∀ n:Fin 26,atI (Str.ofString "abcdefghijklmnopqrstuvwxyz").cps.toList ((n:Nat):Int)=some (97+(n:Nat)):=by decide
 have:=h ⟨e.toNat,by lia⟩;rwa[show((e.toNat:Nat):Int)=e by lia]at this
def cG7{ys:List Str}(h:∀ (i j:Nat) y,i < j->ys[i]? = some y->ys[j]? = some y->False):ys.Nodup:=by
 rw[List.nodup_iff_pairwise_ne,List.pairwise_iff_getElem];intro i j hi b a z;exact h i j ys[i] a (a0a hi) (by rw[z];exact a0a b)
def bE8{a b:Int}{K:Res->List Sl->Prop}(k:∀ (zs:List Str) B C,zs.length=6->zs.Nodup->(∀ z∈zs,Tx z)->K (.own (.lst (zs.map D.str))) [⟨.par,.lst [.int B,.int C]⟩,⟨.val,.int 6⟩]) :
  CK dY [⟨.par,.lst [.int a,.int b]⟩,⟨.val,.int 6⟩] K:=by
 unfold dY;rw[eR];show RS iF [_,_,none,none,none,none,none,none,none,none,none,none] _;unfold iF;walk_at "dx";refine dA (by decide) (by decide) λn W X n0 n5=>?_;walk_at "dx";split
 ·refine dA (by decide) (by decide) λp J L p0 p1=>?_;walk_at "dx";rw[aY2 p0 (by lia)];walk_at "dx";refine⟨by decide,dA (by decide) (by decide) λq a3 b3 q0 q1=>?_⟩;walk_at "dx";rw[aY2 (e:=13+q) (by lia) (by lia)];walk_at "dx";simp only[zK,aS4];have l1:∀ {c:Nat},c < 128->Str.length ⟨#[c]⟩<=1/\As ⟨#[c]⟩:=λh=>⟨a7a 1,bE7 h⟩;have E:∀ {x:Str} {n:Nat},n<=100->x.length<=n/\As x->Tx x:=λhn h=>⟨a6c h.1 hn,h.2⟩;have g:97+p.toNat < 128:=by lia
  have s:97+(13+q).toNat < 128:=by lia
  have ne:97+p.toNat≠97+(13+q).toNat:=by lia
  revert g s ne;generalize 97+p.toNat=u;generalize 97+(13+q).toNat=v;intro g s ne;have A:∀ x y:Nat,(⟨#[x]⟩:Str)++⟨#[y]⟩=⟨#[x,y]⟩:=λ_ _=>rfl;refine⟨by decide,⟨rfl,rfl,by decide⟩,by decide,by decide,by decide,by decide,by decide,by decide,by decide,by decide,by decide,?_⟩;refine k [⟨#[u]⟩,⟨#[u]⟩++⟨#[v]⟩,⟨#[v]⟩,⟨#[v]⟩++⟨#[u]⟩,⟨#[u]⟩++⟨#[u]⟩,⟨#[u]⟩++⟨#[v]⟩++⟨#[u]⟩] _ _ rfl ?_ ?_;rw[A,A,A,show(⟨#[u,v]⟩:Str)++⟨#[u]⟩=⟨#[u,v,u]⟩from rfl];simp[ne,Ne.symm ne];intro z l;simp only[List.mem_cons,List.not_mem_nil,or_false]at l;rcases l with rfl | rfl | rfl | rfl | rfl | rfl;exact tx1 g;exact E (by decide) (aD9 (l1 g) (l1 s));exact tx1 s;exact E (by decide) (aD9 (l1 s) (l1 g));exact E (by decide) (aD9 (l1 g) (l1 g));exact E (by decide) (aD9 (aD9 (l1 g) (l1 s)) (l1 g))
 ·refine dA (by decide) (by decide) λn W X n0 n5=>?_;walk_at "dx";refine⟨by lia,by rw[cD];exact a6c (by lia:n.toNat<=5) (by decide),?_⟩;refine kK _ _ (λi acc τ=>i<=5/\∃ (zs:List Str) (B C:Int),acc=zs.map D.str/\zs.length=i/\(∀ z∈zs,z.length<=1/\As z)/\τ=[some ⟨.par,.lst [.int B,.int C]⟩,some ⟨.val,.int 6⟩,some ⟨.val,.str "abcdefghijklmnopqrstuvwxyz"⟩,none,none,none,none,none,none,none,none,none]) ⟨by lia,[],W,X,rfl,rfl,by simp,rfl⟩ ?_ ?_;rintro i d acc τ hd ⟨_,zs,B,C,rfl,Y,l,rfl⟩;obtain⟨hi,rfl⟩:=qS hd;walk_at "dx";refine dA (by decide) (by decide) λe J L e0 M=>?_;walk_at "dx";refine⟨by decide,?_⟩;obtain⟨c,N,O⟩:=cZ9 e0 M;rw[N];walk_at "dx";refine⟨_,rfl,by lia,zs++[⟨#[c]⟩],J,L,by rw[a1c];rfl,by rw[a8a,Y];rfl,?_,rfl⟩;intro z P;rcases a3b.mp P with h | h;exact l z h;rw[a1b]at h;subst h;exact⟨a7a 1,bE7 O⟩;rintro acc τ ⟨h5,zs,B,C,rfl,Y,l,rfl⟩;have hs:=bX0 zs λz h=>(l z h).1;rw[cX4];refine⟨by simp only[show(Str.ofString "").length=0 by decide];lia,?_⟩;have I:=aU2 (m:=128) (sep:=Str.ofString "") (by decide) zs λz h=>(l z h).2;have o:(Txt.join (Str.ofString "") zs).length<=5:=by
   refine a6c (cT9 _ _) ?_;simp only[show(Str.ofString "").length=0 by decide];lia
  revert I o;generalize Txt.join (Str.ofString "") zs=x;intro I o;have Q:x.length<=sizeLine:=a6c o (by decide);walk_at "dx";rw[mP Q];walk_at "dx";refine dA (by lia) (by lia) λk1 J L k10 k11=>?_;walk_at "dx";refine dA (by lia) (by lia) λk2 a3 b3 k20 k21=>?_;walk_at "dx";refine dA (by lia) (by lia) λk3 a4 b4 k30 k31=>?_;walk_at "dx";refine⟨a0d _,?_⟩;refine hJ (λi τ=>i<=6/\∃ (ys:List Str) (F o2:Option Sl),((F=none/\o2=none)\/∃ d e,F=some ⟨.val,d⟩/\o2=some ⟨.val,e⟩)/\ys.length=i/\(∀ (j:Nat) y,ys[j]? = some y->Tx y/\∃ t,y.cps.toList=(Txt.slice x none (some k1)).cps.toList++(97+((k2+5*(j:Int)) % 26).toNat)::t)/\τ=[some ⟨.par,.lst [.int a4,.int b4]⟩,some ⟨.val,.int 6⟩,some ⟨.val,.str "abcdefghijklmnopqrstuvwxyz"⟩,none,none,some ⟨.val,.str x⟩,some ⟨.val,.int k1⟩,some ⟨.val,.int k2⟩,some ⟨.val,.int k3⟩,some ⟨.own,.lst (ys.map D.str)⟩,F,o2]) ⟨by lia,[],none,none,.inl ⟨rfl,rfl⟩,rfl,(λj y h=>by simp at h),rfl⟩ ?_ ?_
  ·rintro i d τ hd ⟨_,ys,F,o2,R,r,f,rfl⟩;obtain⟨hi,rfl⟩:=qS hd;have N:=aY2 (e:=(k2+5*(0+(i:Int))) % 26) (a2i _ (by decide)) (a1h _ (by decide));have O:97+((k2+5*(0+(i:Int))) % 26).toNat < 128:=by
    have:=a1h (k2+5*(0+(i:Int))) (b:=26) (by decide);lia
   have l1:=slice_le x none (some k1);have l2:=slice_le x (some k1) none;have g1:=bE6 (z:=x) I none (some k1);have g2:=bE6 (z:=x) I (some k1) none;have sl:100<=sizeLine:=by decide
   have done:∀ (w:Str) (t:Str) ,(w.length<=20/\As w)->(t.length<=1/\As t)->Tx (w++t):=λw t hw S=>by
    have:=aD9 hw S;exact⟨by lia,this.2⟩
   have fin:∀ t:Str,(t.length<=1/\As t)->∀ (j:Nat) y,(ys++[Txt.slice x none (some k1)++⟨#[97+((k2+5*(0+(i:Int))) % 26).toNat]⟩++Txt.slice x (some k1) none++t])[j]? = some y->Tx y/\∃ t,y.cps.toList=(Txt.slice x none (some k1)).cps.toList++(97+((k2+5*(j:Int)) % 26).toNat)::t:=λt S j y h=>by
    by_cases G:j < ys.length;rw[a2g G]at h;exact f j y h;have T:j=i:=by
     have:=(a2a.mp h).1;rw[a8a,List.length_singleton]at this;lia
    subst T;rw[a0g (by lia),r,Nat.sub_self]at h;obtain rfl:=a0b h;refine⟨done _ _ ⟨?_,bW9 (bW9 g1 (bE7 O)) g2⟩ S,(Txt.slice x (some k1) none).cps.toList++t.cps.toList,?_⟩;rw[zK,zK,aS4];lia;rw[zJ,zJ,zJ,Int.zero_add];simp
   rcases R with⟨rfl,rfl⟩ | ⟨d,e,rfl,rfl⟩
   all_goals
    walk_at "dx";rw[N];walk_at "dx";have U:=dQ4 (zm2 ((0+(i:Int)) % 2=1));have z0:=dQ4 (m:=0) (.inl rfl);have Z:=zm2 ((0+(i:Int)) % 2=1);simp only[zK,aS4];revert Z U;generalize (if(0+(i:Int)) % 2=1 then(1:Int)else 0)=zz;intro U Z;refine⟨by lia,by decide,by lia,by lia,by lia,?_⟩;have H:(List.map D.str ys).length < sizeLine:=by rw[a1a];lia
    split;exact⟨⟨by decide,by lia,by lia⟩,by lia,H,_,.inl rfl,by lia,ys++[_],_,_,.inr ⟨_,_,rfl,rfl⟩,by rw[a8a,r];rfl,fin _ U,by rw[a1c];rfl⟩;exact⟨by decide,by lia,H,_,.inl rfl,by lia,ys++[_],_,_,.inr ⟨_,_,rfl,rfl⟩,by rw[a8a,r];rfl,fin _ z0,by rw[a1c];rfl⟩
  ·rintro τ ⟨_,ys,F,o2,R,r,f,rfl⟩;rw[cD]at r;have hn:ys.Nodup:=cG7 λi j y hij h1 h2=>by
    obtain⟨_,t1,M⟩:=f i y h1;obtain⟨_,E,A⟩:=f j y h2;rw[M]at A;have e3:=(List.cons.inj (List.append_cancel_left A)).1;have G:=(a2a.mp h2).1;rw[r]at G;have h6:j < 6:=by lia
    lia
   have V:∀ z∈ys,Tx z:=λz l=>by
    obtain⟨j,G⟩:=List.mem_iff_getElem?.mp l;exact(f j z G).1
   rcases R with⟨rfl,rfl⟩ | ⟨d,e,rfl,rfl⟩
   all_goals
    walk_at "dx";exact k _ _ _ r hn V
theorem aQ2{l:List D}{K:List D->Prop}:OK1 (aM8 (.tup l)) K=K l:=rfl
theorem aQ3{l:List D}{K:List D->Prop}:OK1 (aM8 (.lst l)) K=K l:=rfl
theorem aQ4{l:List D}{K:List D->Prop}:OK1 (dV7 (.tup l)) K=K l:=rfl
theorem aQ5{l:List D}{K:List D->Prop}:OK1 (dV7 (.lst l)) K=K l:=rfl
theorem aQ6{i:Nat}{σ:Sg}:dE [i] σ=σ.set i none:=rfl
theorem aQ7{i j:Nat}{σ:Sg}:dE [i,j] σ=(σ.set i none).set j none:=rfl
theorem bX1{i j:Nat}{σ a:Sg}:nS [i,j] σ a=(a.set i (σ[i]?.getD none)).set j (σ[j]?.getD none):=rfl
theorem aQ8{i j:Int}{K:Res->Prop}:OK1 (eqD true (.int i) (.int j)) K=K (.val (.bl (!decide (i=j)))):=by
 have h:OK1 (eqD false (.int i) (.int j)) (λr=>r=.val (.bl (decide (i=j)))):=by rw[aN7]
 unfold eqD at h ⊢;split at h
 ·rename_i a;rw[a3O a];have h':Res.val (.bl (if false=true then !zZ (.int i) (.int j)else zZ (.int i) (.int j)))=.val (.bl (decide (i=j))):=h;have e:zZ (.int i) (.int j)=decide (i=j):=by simpa using h'
  show K (.val (.bl (if true=true then !zZ (.int i) (.int j)else zZ (.int i) (.int j))))=_;rw[a3O rfl,e]
 ·exact h.elim
noncomputable def ov(b:Bool)(d:D):Option Sl:=if b=true then some ⟨.val,d⟩else none
theorem aQ9{b:Bool}{d:D}{r:Sg}{s:Sl}{K:Sg->Prop}:Dv.PK 0 (ov b d::r) s K=K (some s::r):=by cases b<;>rfl
theorem zL{l m:List D}{K:D×D->Prop}:OK1 (bS5 (.lst l) [.lst m]) K=(l.length+m.length<=sizeLine/\K (.lst (l++m),.non)):=by
 unfold bS5;dsimp only[cD3];show OK1 (if _ then _ else none) K=_;rw[bW];rfl
theorem aR0{b:MS}{Q:Out->Prop}{σ:Sg}:sqM b Q (.nx σ)=b σ Q:=rfl
theorem dQ5{d:D}{r:Sg}:lendO (some 0) (some ⟨.own,d⟩::r)=some ⟨.lent,d⟩::r:=rfl
theorem dQ6{d:D}{r:Sg}:lendO (some 0) (some ⟨.par,d⟩::r)=some ⟨.lent,d⟩::r:=rfl
theorem dQ7{d:D}{r:Sg}:lendO (some 0) (some ⟨.val,d⟩::r)=some ⟨.val,d⟩::r:=rfl
theorem dQ8{d:D}{r:Sg}:lendO (some 0) (some ⟨.lent,d⟩::r)=some ⟨.lent,d⟩::r:=rfl
theorem dQ9{i:Nat}{o:Option Sl}{r:Sg}:lendO (some (i+1)) (o::r)=o::lendO (some i) r:=by
 show lend (i+1) (o::r)=o::lend i r;unfold lend;rw[a2d];generalize r[i]? = x
 match x with
 | none=>rfl
 | some none=>rfl
 | some (some ⟨.own,_⟩)=>rfl
 | some (some ⟨.par,_⟩)=>rfl
 | some (some ⟨.val,_⟩)=>rfl
 | some (some ⟨.lent,_⟩)=>rfl
theorem dR0{d e:D}{m:Md}{a r:Sg}:aB9 (some 0) (some ⟨.own,e⟩::a) (some ⟨m,d⟩::r)=some ⟨.own,d⟩::r:=rfl
theorem dR1{d e:D}{m:Md}{a r:Sg}:aB9 (some 0) (some ⟨.par,e⟩::a) (some ⟨m,d⟩::r)=some ⟨.par,d⟩::r:=rfl
theorem dR2{d e:D}{m:Md}{a r:Sg}:aB9 (some 0) (some ⟨.val,e⟩::a) (some ⟨m,d⟩::r)=some ⟨m,d⟩::r:=rfl
theorem dR3{d e:D}{m:Md}{a r:Sg}:aB9 (some 0) (some ⟨.lent,e⟩::a) (some ⟨m,d⟩::r)=some ⟨m,d⟩::r:=rfl
theorem dR4{i:Nat}{o o':Option Sl}{a r:Sg}:aB9 (some (i+1)) (o::a) (o'::r)=o'::aB9 (some i) a r:=by
 show unl (i+1) (o::a) (o'::r)=o'::unl i a r;unfold unl;rw[a2d,a2d];generalize a[i]? = x;generalize r[i]? = y
 match x,y with
 | none,_=>rfl
 | some none,_=>rfl
 | some (some _),none=>rfl
 | some (some _),some none=>rfl
 | some (some ⟨.own,_⟩),some (some _)=>rfl
 | some (some ⟨.par,_⟩),some (some _)=>rfl
 | some (some ⟨.val,_⟩),some (some _)=>rfl
 | some (some ⟨.lent,_⟩),some (some _)=>rfl
theorem dR5{i:Nat}{σ a:Sg}:aC0 (some i) σ (.nx a)=.nx (aB9 (some i) σ a):=rfl
theorem dR6{i:Nat}{σ a:Sg}{x:Res}:aC0 (some i) σ (.rt x a)=.rt x (aB9 (some i) σ a):=rfl
local macro_rules | `(tactic| walk_at "dx")=>do
 let l:=("aR0 zL aQ9 aQ3 aQ2 aQ4 aQ5 aQ8 aD8 rR cW5 tZ uA uB uC uD uE uF uG uH uI uJ uK uL uM uN uO aV4 uP mH nV uQ uR nW nX nY uT uU aV5 uV uW aV6 uX uY uZ vA vB vC nZ oA vD vE vF vG vH oB vJ oC vK vM vN vO vP yS vQ vR vS oE oF vU vV vW vX vY vZ wA pJ wB wC aV7 oG lC oH wD wE oJ wR wT wU wV wW wX wY wZ xA pG aV8 xB oU oV lE jC yQ mP pF pE xE oW oX oY xF xG xH xI xJ aV9 aW0 aW1 aW2 xK xL xM oZ pA xN pB xO xP pC lD xQ pD aN7 xR xS xT xU aW3 xV cX2 xW xX mI bZ xY xZ yA yB wF wG wH wI wJ wK wL wM wN oK oM oN oO wO wP wQ reduceIte".splitOn " ").toArray.map fun s=>Lean.mkIdent s.toName
 let m:=("aQ6 aQ7 bX1 yC yD yE aN8 aW4 Int.reducePow Int.reduceNeg Int.reduceLT Int.reduceLE Nat.reducePow Nat.reduceLT Int.reduceToNat Nat.reduceLeDiff yH dQ5 dQ6 dQ7 dQ8 dQ9 dR0 dR1 dR2 dR3 dR4 dR5 dR6 yF aW5 yG oP oQ oR oS bK0 List.getElem?_cons_succ List.getElem?_cons_zero Option.getD_some List.set_cons_zero List.set_cons_succ eW bC0 List.length_cons List.length_nil Nat.reduceAdd Nat.zero_add true_and and_true and_self Bool.not_false Bool.not_true Bool.false_eq_true Bool.true_and Bool.and_true Bool.or_false decide_eq_true_eq".splitOn " ").toArray.map fun s=>Lean.mkIdent s.toName
 `(tactic| simp only[$[↓$l:ident],*,$[$m:ident],*])
def aE0{α:Type}(f:α->D){l:List α}{i:Int}(h0:0<=i)(b:i < (l.length:Int)):∃ c,atI (l.map f) i=some (f c)/\c∈l:=by
 obtain⟨c,a⟩:=bP5 (ys:=l) h0 b;exact⟨c,by rw[bP6,a];rfl,bW8 a⟩
def bX2{r:DT}{σ:Sg}{Q a:Bool->Sg->Prop}(h:RT r σ Q)(w:∀ b c,Q b c->a b c):RT r σ a:=dL h λx=>w x.1 x.2
def bX3{r:DE}{σ:Sg}{Q a:Res->Sg->Prop}(h:RE r σ Q)(w:∀ b c,Q b c->a b c):RE r σ a:=dL h λx=>w x.1 x.2
def iI{α:Type}{g:D->Sg->Option Sg}{ow:List Nat}{t:DT}{e:DE}{K:List D×Sg->Prop}(f:α->D)(u:α->D)(xs:List α){a:Sg}(l:Sg)(p:a=l)
  (q:∀ x∈xs,OK1 (g (u x) l) λc=>RT t c λb h=>b=true/\RE e h λr j=>r=.val (f x)/\dE ow j=l) (k:K (xs.map f,l)):OK1 (aW9 ow g t e (xs.map u) a) K:=by
 subst p;refine kK _ _ (λi acc τ'=>acc=(xs.take i).map f/\τ'=a) ⟨rfl,rfl⟩ ?_ ?_;rintro i d acc τ' hd ⟨rfl,rfl⟩;rw[a3c]at hd;obtain⟨x,n,rfl⟩:=a4c.mp hd;refine dL (q x (a0c n)) λc s=>bX2 s λb h m=>?_;obtain⟨rfl,m⟩:=m;rw[a3O rfl];refine bX3 m λr j o=>?_;exact⟨_,o.1,by rw[a5e,n,a1c];rfl,o.2⟩;rintro acc τ' ⟨rfl,rfl⟩;rw[a1a,List.take_length];exact k
def bE{α:Type}{g:D->Sg->Option Sg}{ow:List Nat}{t:DT}{e:DE}{K:List D×Sg->Prop}(p:α->Bool)(f:α->D)(u:α->D)(xs:List α){a:Sg}(j:Sg)(n:a=j)
  (w:∀ x∈xs,OK1 (g (u x) j) λl=>RT t l λb c=>b=p x/\dE ow c=j/\RE e c λr m=>r=.val (f x)/\dE ow m=j) (k:K ((xs.filter p).map f,j)):OK1 (aW9 ow g t e (xs.map u) a) K:=by
 subst n;refine kK _ _ (λi acc τ'=>acc=((xs.take i).filter p).map f/\τ'=a) ⟨rfl,rfl⟩ ?_ ?_
 ·rintro i d acc τ' hd ⟨rfl,rfl⟩;rw[a3c]at hd;obtain⟨x,s,rfl⟩:=a4c.mp hd;refine dL (w x (a0c s)) λl y=>bX2 y λb c q=>?_;obtain⟨rfl,q,z⟩:=q;have n:(xs.take (i+1)).filter p=(xs.take i).filter p++(if p x=true then[x]else[]):=by
   rw[a5e,s,List.filter_append];cases h:p x<;>simp[h]
  by_cases o:p x=true;rw[a3O o];refine bX3 z λr m v=>?_;exact⟨_,v.1,by rw[n,a3O o,a1c];rfl,v.2⟩;rw[a3P o];exact⟨by rw[n,a3P o,a3g],q⟩
 ·rintro acc τ' ⟨rfl,rfl⟩;rw[a1a,List.take_length];exact k
def iL{α:Type}{f:α->D}{l:List α}{i:Nat}{d:D}(h:(l.map f)[i]? = some d):∃ y,l[i]? = some y/\d=f y:=by
 rw[a3c]at h;obtain⟨y,e,rfl⟩:=a4c.mp h;exact⟨y,e,rfl⟩
def aR1{α:Type}{l:List α}{i:Nat}{y:α}(h:l[i]? = some y):l.take i++[y]=l.take (i+1):=by
 rw[a5e,h];rfl
def cG8{α:Type}(f:α->D)(p:α->Bool)(l:List α){ow:List Nat}{g:DG}{e:DE}{K:List D×Sg->Prop}{a:Sg}
  (n:∀ y∈l,OK1 (g (f y) a) λb=>RE e b λr c=>r=.val (.bl (p y))/\dE ow c=a) (k:K ((l.map p).map D.bl,a)):OK1 (aW9 ow g iS e (l.map f) a) K:=by
 refine kK _ _ (λi acc τ'=>acc=((l.take i).map p).map D.bl/\τ'=a) ⟨rfl,rfl⟩ ?_ ?_;rintro i d acc τ' hd ⟨rfl,rfl⟩;obtain⟨y,j,rfl⟩:=iL hd;refine dL (n y (a0c j)) λb h=>?_;rw[mH,a3O rfl];refine dL h λr m=>⟨_,m.1,?_,m.2⟩;rw[← aR1 j,a1c,a1c];rfl;rintro acc τ' ⟨rfl,rfl⟩;rw[a1a,List.take_length];exact k
def bE9{α:Type}(p:α->Bool)(l:List α):(l.map p).all id=l.all p:=by rw[List.all_map];rfl
def aF0{x y:Str}:decide (D.str x=D.str y)=decide (x=y):=by rw[a0e,a3R,a3R,D.str.injEq]
def bX4{neg:Bool}{x y:Str}(a:As x)(b:As y){K:Res->Prop}(k:K (.val (.bl (if neg=true then !decide (x=y)else decide (x=y))))):OK1 (eqD neg (.str x) (.str y)) K:=
 sI (n:=0) (m:=0) (.str a) (.str b) (by decide) (by decide) (by rw[aF0];exact k)
def pL{α:Type}[DecidableEq α](f:α->D)(a:∀ x y,f x=f y->x=y){x:α}{l:List α}:decide (f x∈l.map f)=decide (x∈l):=by
 rw[a0e,a3R,a3R,a2c];exact⟨λ⟨y,b,c⟩=>a y x c ▸ b,λh=>⟨x,h,rfl⟩⟩
def aI9(x y:Str)(h:D.str x=D.str y):x=y:=by injection h
def oks{n:Nat}{a:List Str}(h:∀ z∈a,As z):∀ d∈a.map D.str,Ok n d:=λd hd=>by
 obtain⟨z,b,rfl⟩:=a2c.mp hd;exact .str (h z b)
def aY3{neg:Bool}{z:Str}{a:List Str}(b:As z)(h:∀ z∈a,As z){K:Res->Prop}(k:K (.val (.bl (if neg=true then !decide (z∈a)else decide (z∈a))))):OK1 (inD neg (.str z) (.lst (a.map D.str))) K:=
 rQ (n:=0) (m:=0) (.str b) (oks h) (by decide) (by decide) (by rw[pL D.str aI9];exact k)
def jH{neg:Bool}{z:Str}{a:List Str}(b:As z)(h:∀ z∈a,As z){K:Res->Prop}(k:K (.val (.bl (if neg=true then !decide (z∈a)else decide (z∈a))))):OK1 (inD neg (.str z) (.tup (a.map D.str))) K:=
 cZ8 (n:=0) (m:=0) (.str b) (oks h) (by decide) (by decide) (by rw[pL D.str aI9];exact k)
noncomputable def dF(qs:List (Str×List Str)):List Str:=qs.foldl (λacc q=>acc++q.2.filter λc=>!decide (c∈acc)) []
def aE1(qs:List (Str×List Str))(q:Str×List Str):dF (qs++[q])=dF qs++q.2.filter λc=>!decide (c∈dF qs):=by
 unfold dF;rw[List.foldl_append];rfl
def Qn(qs:List (Str×List Str)):Prop:=qs.length<=100/\∀ q∈qs,Tx q.1/\q.2.length<=100/\∀ z∈q.2,Tx z
def mS{qs:List (Str×List Str)}{z:Str}(h:z∈dF qs):∃ q∈qs,z∈q.2:=by
 have a:∀ (l:List (Str×List Str)) (acc:List Str),z∈l.foldl (λacc q=>acc++q.2.filter λc=>!decide (c∈acc)) acc->z∈acc\/∃ q∈l,z∈q.2:=by
  intro l
  induction l with
  | nil=>intro acc h;exact .inl h
  | cons q r b=>
    intro acc h;rcases b _ h with h | ⟨d,e,f⟩;rcases a3b.mp h with h | h;exact .inl h;exact .inr ⟨q,a3a,(List.mem_filter.mp h).1⟩;exact .inr ⟨d,a4a _ e,f⟩
 rcases a qs [] h with h | h;cases h;exact h
def bX5{qs:List (Str×List Str)}{n:Nat}(h:∀ q∈qs,q.2.length<=n):(dF qs).length<=qs.length*n:=by
 have a:∀ (l:List (Str×List Str)) (acc:List Str),(∀ q∈l,q.2.length<=n)->(l.foldl (λacc q=>acc++q.2.filter λc=>!decide (c∈acc)) acc).length<=acc.length+l.length*n:=by
  intro l
  induction l with
  | nil=>intro acc _;simp
  | cons q r b=>
    intro acc h;have d:=b (acc++q.2.filter λc=>!decide (c∈acc)) λx e=>h x (a4a _ e);have f:=h q a3a;have g:=List.length_filter_le (λc=>!decide (c∈acc)) q.2;rw[a8a]at d;rw[List.foldl_cons,a6f,Nat.succ_mul];lia
 have:=a qs [] h;rw[a5g,a9f]at this;exact this
def bK1{α:Type}{l:List α}{i:Nat}{y:α}(h:l[i]? = some y):l.take (i+1)=l.take i++[y]:=(aR1 h).symm
def aY4{qs:List (Str×List Str)}(l:Qn qs){Q:Out->Prop}(k:∀ b e f g,Q (.nx [some ⟨.val,qD qs⟩,some ⟨.own,.lst ((dF qs).map D.str)⟩,ov b f,ov e g,none])) :
  OK1 (cO3 (lR 2 (cT (dgN 2) (cT (dgN 3) lA))) (gY (tQ "list" 1 bS5 (aC (cN [4] (dIt (aG 3)) (dgN 4) (cK (aX (inD true) (aG 4) (aG 1))) (dFz (aG 4))) aL))) (qs.map qP) [some ⟨.val,qD qs⟩,some ⟨.own,.lst []⟩,none,none,none]) Q:=by
 have sl:20000<=sizeLine:=by decide
 have s:∀ i,∀ z∈dF (qs.take i),As z:=λi z t=>by
  obtain⟨q,m,o⟩:=mS t;exact((l.2 q (a8d m)).2.2 z o).2
 have u:∀ i,(dF (qs.take i)).length<=10000:=λi=>by
  have m:=bX5 (qs:=qs.take i) (n:=100) λq h=>(l.2 q (a8d h)).2.1;have o:=l.1;have r:(qs.take i).length<=100:=by rw[a9c];lia
  have w:=Nat.mul_le_mul_right 100 r;lia
 refine hJ (λi p=>∃ b e f g,p=[_,some ⟨.own,.lst ((dF (qs.take i)).map D.str)⟩,ov b f,ov e g,none]) ⟨false,false,.non,.non,rfl⟩ ?_ ?_
 ·rintro i d p hd ⟨b,e,f,g,rfl⟩;obtain⟨q,j,rfl⟩:=iL hd;have a:=l.2 q (a0c j);walk_at "dx";refine⟨a6c (by rw[a1a];exact a.2.1) (by decide),bE (λc=>!decide (c∈dF (qs.take i))) D.str D.str q.2 [_,_,_,_,none] rfl (λc v=>?_) ?_⟩;walk_at "dx";refine aY3 (a.2.2 c v).2 (s i) ?_;walk_at "dx";walk_at "dx";refine⟨by
   rw[a1a,a1a];have m:=u i;have o:=List.length_filter_le (λc=>!decide (c∈dF (qs.take i))) q.2;have r:=a.2.1;lia,_,.inl rfl,true,true,.str q.1,.tup (q.2.map D.str),?_⟩
  rw[bK1 j,aE1,a1c];rfl
 ·rintro p ⟨b,e,f,g,rfl⟩;rw[a1a,List.take_length];exact k b e f g
def aE2{qs:List (Str×List Str)}(a:Qn qs){K:Res->List Sl->Prop}(k:K (.val (.tup ((dF qs).map D.str))) [⟨.val,qD qs⟩]):CK eU [⟨.val,qD qs⟩] K:=by
 unfold eU;rw[eR];show RS gP [_,none,none,none,none] _;unfold gP;walk_at "dx";refine⟨a0d _,aY4 a λb c d e=>?_⟩;walk_at "dx";exact k
def fX{qs:List (Str×List Str)}{z:Str}:z∈dF qs↔∃ q∈qs,z∈q.2:=by
 refine⟨mS,λZ0=>?_⟩;obtain⟨q,a,b⟩:=Z0;have d:∀ (l:List (Str×List Str)) (acc:List Str),(z∈acc\/∃ q∈l,z∈q.2)->z∈l.foldl (λacc q=>acc++q.2.filter λc=>!decide (c∈acc)) acc:=by
  intro l
  induction l with
  | nil=>
    intro acc h;rcases h with h | ⟨q,h,_⟩;exact h;cases h
  | cons q r e=>
    intro acc h;refine e _ ?_;by_cases ha:z∈acc;exact .inl (a7d _ ha)
    ·rcases h with h | ⟨f,a,b⟩;exact absurd h ha;rcases a4b.mp a with rfl | a;exact .inl (a9b _ (List.mem_filter.mpr ⟨b,by simp[ha]⟩));exact .inr ⟨f,a,b⟩
 exact d qs [] (.inr ⟨q,a,b⟩)
noncomputable def wo(qs:List (Str×List Str))(z:Str):List (Str×List Str):=qs.filter λq=>!decide (q.1=z)
def aR2{qs:List (Str×List Str)}{z:Str}{q:Str×List Str}(h:q∈wo qs z):q∈qs/\q.1≠z:=by
 have:=List.mem_filter.mp h;exact⟨this.1,by simpa using this.2⟩
theorem Qn.wo{qs:List (Str×List Str)}(h:Qn qs)(z:Str):Qn (wo qs z):=⟨a6c (List.length_filter_le _ _) h.1,λq a=>h.2 q (aR2 a).1⟩
local macro_rules | `(tactic| walk_at "dx")=>do
 let l:=("bV8 bV9 bW0 aR0 bE2 mI bC6 bD9 zL aQ9 aQ3 aQ2 aQ4 aQ5 aQ8 aD8 rR cW5 tZ uA uB uC uD uE uF uG uH uI uJ uK uL uM uN uO aV4 uP mH nV uQ uR nW nX nY uT uU aV5 uV uW aV6 uX uY uZ vA vB vC nZ oA vD vE vF vG vH oB vJ oC vK vM vN vO vP yS vQ vR vS oE oF vU vV vW vX vY vZ wA pJ wB wC aV7 oG lC oH wD wE oJ wR wT wU wV wW wX wY wZ xA pG aV8 xB oU oV lE jC yQ mP pF pE xE oW oX oY xF xG xH xI xJ aV9 aW0 aW1 aW2 xK xL xM oZ pA xN pB xO xP pC lD xQ pD aN7 xR xS xT xU aW3 xV cX2 xW xX mI bZ xY xZ yA yB wF wG wH wI wJ wK wL wM wN oK oM oN oO wO wP wQ reduceIte".splitOn " ").toArray.map fun s=>Lean.mkIdent s.toName
 let m:=("aQ6 aQ7 bX1 yC yD yE aN8 aW4 Int.reducePow Int.reduceNeg Int.reduceLT Int.reduceLE Nat.reducePow Nat.reduceLT Int.reduceToNat Nat.reduceLeDiff yH dQ5 dQ6 dQ7 dQ8 dQ9 dR0 dR1 dR2 dR3 dR4 dR5 dR6 yF aW5 yG oP oQ oR oS bK0 List.getElem?_cons_succ List.getElem?_cons_zero Option.getD_some List.set_cons_zero List.set_cons_succ eW bC0 List.length_cons List.length_nil Nat.reduceAdd Nat.zero_add true_and and_true and_self Bool.not_false Bool.not_true Bool.false_eq_true Bool.true_and Bool.and_true Bool.or_false decide_eq_true_eq".splitOn " ").toArray.map fun s=>Lean.mkIdent s.toName
 `(tactic| simp only[$[↓$l:ident],*,$[$m:ident],*])
noncomputable def shr(cs:List Str)(o:List (Str×List Str)):List Str:=cs.filter λc=>decide (c∈dF o)
noncomputable def dA0(bD:List (Str×List Str))(z:Str)(cs:List Str):List (Option Str):=
 if(wo bD z).length=0 then[none]else((wo bD z).filter λo=>(shr cs (wo bD z)).all λc=>decide (c∈o.2)).map λo=>some o.1
def mT{qs:List (Str×List Str)}(h:Qn qs):∀ z∈dF qs,As z:=λz a=>by
 obtain⟨q,b,c⟩:=mS a;exact((h.2 q b).2.2 z c).2
noncomputable def bK2(bD:List (Str×List Str)):List (Str×Option Str):=bD.flatMap λq=>(dA0 bD q.1 q.2).map λh=>(q.1,h)
theorem dA1:∀ (l:List (Str×List Str)),cF1 (l.map qP)=some (l.map λq=>(q.1,.tup (q.2.map D.str)))
 | []=>rfl
 | q::r=>by
   show(cF1 (r.map qP)).map _=_;rw[dA1 r];rfl
def dA2{l:List (Str×List Str)}(a:l.length < 4000)(hn:(l.map Prod.fst).Nodup){K:Res->Prop}(k:K (.own (.dic (l.map λq=>.str q.1) (l.map λq=>.tup (q.2.map D.str))))):OK1 (bU1 [.lst (l.map qP)]) K:=by
 show OK1 ((cF1 (l.map qP)).bind _) K;rw[dA1];show OK1 (if _ then _ else none) K;rw[a3O ⟨by rw[a1a];exact a,by rw[List.map_map];exact hn⟩,List.map_map,List.map_map];exact k
def cG9{l:List (Str×List Str)}(a:l.length < 4000)(hn:(l.map Prod.fst).Nodup){K:Res->Prop}(k:K (.own (.dic (l.map λq=>.str q.1) (l.map λq=>.tup (q.2.map D.str))))):OK1 (bU1 [qD l]) K:=by
 show OK1 ((cF1 (l.map qP)).bind _) K;rw[dA1];show OK1 (if _ then _ else none) K;rw[a3O ⟨by rw[a1a];exact a,by rw[List.map_map];exact hn⟩,List.map_map,List.map_map];exact k
noncomputable def iP(l:List (Str×List Str))(z:Str):List Str:=((l.find? λq=>decide (q.1=z)).map Prod.snd).getD []
theorem cQ0{z:Str}:∀ {l:List (Str×List Str)},(∃ q∈l,q.1=z)->aX3 (l.map λq=>.str q.1) (l.map λq=>.tup (q.2.map D.str)) z=some (.tup ((iP l z).map D.str))
 | [],⟨q,h,_⟩=>nomatch h
 | p::r,⟨q,h,e⟩=>by
   show(if p.1=z then some (D.tup (p.2.map D.str))else aX3 (r.map λq=>.str q.1) (r.map λq=>.tup (q.2.map D.str)) z)=_;by_cases a:p.1=z;rw[a3O a];unfold iP;rw[List.find?_cons_of_pos (by simpa using a)];rfl
   ·rw[a3P a,cQ0 ⟨q,by
     rcases a4b.mp h with rfl | h;exact absurd e a;exact h,e⟩]
    unfold iP;rw[List.find?_cons_of_neg (by simpa using a)]
def dR7{l:List (Str×List Str)}{z:Str}(h:∃ q∈l,q.1=z){K:Res->Prop}(k:K (.val (.tup ((iP l z).map D.str)))):OK1 (dO9 (.dic (l.map λq=>.str q.1) (l.map λq=>.tup (q.2.map D.str))) (.str z)) K:=by
 show OK1 ((aX3 _ _ z).map Res.val) K;rw[cQ0 h];exact k
def aE3{l:List (Str×List Str)}{z:Str}(h:∃ q∈l,q.1=z):∃ q∈l,q.1=z/\q.2=iP l z:=by
 unfold iP;cases e:l.find? λq=>decide (q.1=z)with
 | none=>
   obtain⟨q,a,b⟩:=h;have:=List.find?_eq_none.mp e q a;exact absurd b (by simpa using this)
 | some q=>exact⟨q,List.mem_of_find?_eq_some e,by simpa using List.find?_some e,rfl⟩
noncomputable def wnt(cs:List Str)(o:List (Str×List Str)):List Str:=cs.filter λc=>!(o.filter λq=>decide (c∈q.2)).isEmpty
noncomputable def mZ(bD:List (Str×List Str))(z:Str):List Str:=((wo bD z).filter λo=>(wnt (iP bD z) (wo bD z)).all λc=>decide (c∈o.2)).map Prod.fst
def aY5{bD:List (Str×List Str)}{z:Str}{m:Md}{t:D}(hm:(m=.par/\t=.lst (bD.map qP))\/(m=.lent/\t=.lst (bD.map qP))\/(m=.val/\t=qD bD))(a:Qn bD)(hn:(bD.map Prod.fst).Nodup)(g:∃ q∈bD,q.1=z){K:Res->List Sl->Prop}
  (k:K (.own (.lst ((mZ bD z).map D.str))) [⟨m,t⟩,⟨.val,.str z⟩]):CK fA [⟨m,t⟩,⟨.val,.str z⟩] K:=by
 have sl:1000<=sizeLine:=by decide
 have i:As z:=by obtain⟨q,v,rfl⟩:=g;exact(a.2 q v).1.2
 obtain⟨u,b,w,e⟩:=aE3 g;have f:∀ c∈iP bD z,As c:=λc j=>((a.2 u b).2.2 c (e ▸ j)).2;have l:(iP bD z).length<=100:=e ▸ (a.2 u b).2.1;have p:=a.wo z;have A:=p.1;have r:∀ c∈wnt (iP bD z) (wo bD z),As c:=λc h=>f c (List.mem_filter.mp h).1;have B:(wnt (iP bD z) (wo bD z)).length<=100:=a6c (List.length_filter_le _ _) l;unfold fA;rw[eR];show RS fQ [_,_,none,none,none,none,none,none] _;unfold fQ;have C:=a.1;rcases hm with⟨rfl,rfl⟩ | ⟨rfl,rfl⟩ | ⟨rfl,rfl⟩
 all_goals
  walk_at "dx"
  first | refine dA2 (by lia) hn ?_ | refine cG9 (by lia) hn ?_
  walk_at "dx";refine dR7 g ?_;walk_at "dx";refine⟨by rw[a1a];lia,bE (λq=>!decide (q.1=z)) qP qP bD [_,_,_,none,none,none,none,none] rfl (λq h=>?_) ?_⟩;walk_at "dx";refine bX4 (a.2 q h).1.2 i ?_;walk_at "dx";exact sl2;walk_at "dx";refine⟨by rw[a1a];lia,bE (λc=>!((wo bD z).filter λq=>decide (c∈q.2)).isEmpty) D.str D.str (iP bD z) [_,_,_,some ⟨.own,.lst ((wo bD z).map qP)⟩,none,none,none,none] rfl (λc j=>?_) ?_⟩
  ·walk_at "dx";refine⟨by rw[a1a];lia,bE (λq=>decide (c∈q.2)) (λ_=>.int 1) qP (wo bD z) [_,_,_,_,none,none,none,_] rfl (λq h=>?_) ?_⟩;walk_at "dx";refine jH (f c j) (λx s=>((p.2 q h).2.2 x s).2) ?_;walk_at "dx";walk_at "dx";refine⟨a0d _,zI (n:=0) (λd hd=>?_) (by decide) ?_⟩;obtain⟨_,_,rfl⟩:=a2c.mp hd;exact .int
   rw[List.isEmpty_map];walk_at "dx"
  ·walk_at "dx";refine⟨by rw[a1a];lia,bE (λo=>(wnt (iP bD z) (wo bD z)).all λc=>decide (c∈o.2)) (λo=>.str o.1) qP (wo bD z) [_,_,_,some ⟨.lent,.lst ((wo bD z).map qP)⟩,some ⟨.own,.lst ((wnt (iP bD z) (wo bD z)).map D.str)⟩,none,none,none] rfl (λq h=>?_) ?_⟩
   ·walk_at "dx";refine⟨by rw[a1a];lia,cG8 D.str (λc=>decide (c∈q.2)) (wnt (iP bD z) (wo bD z)) (λy E=>?_) ?_⟩
    ·walk_at "dx";refine jH (r y E) (λx s=>((p.2 q h).2.2 x s).2) ?_;walk_at "dx"
     try rfl
    ·walk_at "dx";rw[bE9]
   ·walk_at "dx";unfold mZ at k;rw[List.map_map]at k;exact k
noncomputable def dR8(bD:List (Str×List Str))(z:Str):Bool:=decide (z∈bD.map Prod.fst)
def aJ0{bD:List (Str×List Str)}{z:Str}:dR8 bD z=true↔∃ q∈bD,q.1=z:=by
 unfold dR8;rw[a3R,a2c]
noncomputable def cH0(bD:List (Str×List Str))(p:Str×Option Str):Bool:=dR8 bD p.1&&(!(decide (bD.length=1)&&p.2.isSome) && !(decide (1 < bD.length) && !decide (p.2∈(mZ bD p.1).map some)))
def dR9(bD:List (Str×List Str))(z:Str):((wo bD z).map Prod.fst).Sublist (bD.map Prod.fst):=(List.filter_sublist).map _
def cH1{bD:List (Str×List Str)}{z:Str}(a:Qn bD):∀ x∈mZ bD z,Tx x:=λx b=>by
 obtain⟨q,c,rfl⟩:=a2c.mp b;exact(a.2 q (aR2 (List.mem_filter.mp c).1).1).1
def dA3{z:Str}{r:List (Str×List Str)}(h:∀ q∈r,q.1≠z):wo r z=r:=List.filter_eq_self.mpr λq a=>by simpa using h q a
theorem bF0{z:Str}:∀ {bD:List (Str×List Str)},(bD.map Prod.fst).Nodup->(∃ q∈bD,q.1=z)->(wo bD z).length+1=bD.length
 | [],_,⟨q,h,_⟩=>nomatch h
 | p::r,hn,⟨q,h,e⟩=>by
   rw[a4e,a8e]at hn;by_cases a:p.1=z;have:wo (p::r) z=wo r z:=List.filter_cons_of_neg (by simpa using a);rw[this,dA3 λq b c=>hn.1 (by rw[a,← c];exact List.mem_map_of_mem b),a6f]
   ·have:wo (p::r) z=p::wo r z:=List.filter_cons_of_pos (by simpa using a);rw[this,a6f,a6f,bF0 hn.2 ⟨q,by
     rcases a4b.mp h with rfl | h;exact absurd e a
     ·exact h,e⟩]
def dA4(cs:List Str)(o:List (Str×List Str)):shr cs o=wnt cs o:=by
 unfold shr wnt;congr 1;funext c;rw[a0e,a3R,fX];simp only[Bool.not_eq_true',← Bool.not_eq_true,List.isEmpty_iff,List.filter_eq_nil_iff,decide_eq_true_eq];constructor;rintro⟨q,a,b⟩ h;exact h q a b;intro h;exact a5d λn=>h λq a b=>n ⟨q,a,b⟩
def cQ1{bD:List (Str×List Str)}(hn:(bD.map Prod.fst).Nodup){p q:Str×List Str}(d:p∈bD)(g:q∈bD)(e:p.1=q.1):p=q:=by
 induction bD with
 | nil=>cases d
 | cons a r h=>
   rw[a4e,a8e]at hn;rcases a4b.mp d with rfl | c;rcases a4b.mp g with rfl | b;rfl;exact absurd (List.mem_map_of_mem (f:=Prod.fst) b) (e ▸ hn.1);rcases a4b.mp g with rfl | b;exact absurd (List.mem_map_of_mem (f:=Prod.fst) c) (e ▸ hn.1);exact h hn.2 c b
def dA5{bD:List (Str×List Str)}(hn:(bD.map Prod.fst).Nodup)(p:Str×Option Str):decide (p∈bK2 bD)=cH0 bD p:=by
 obtain⟨z,h⟩:=p;by_cases b:∃ q∈bD,q.1=z
 ·obtain⟨j,k,c,l⟩:=aE3 b;have o:=bF0 hn b;have d:dR8 bD z=true:=aJ0.mpr b;have e:(z,h)∈bK2 bD↔h∈dA0 bD z (iP bD z):=by
   unfold bK2;rw[List.mem_flatMap];constructor
   ·rintro⟨q,f,i⟩;obtain⟨h',m,a⟩:=a2c.mp i;injection a with a n
    subst n;have:q=j:=cQ1 hn f k (a.trans c.symm);rw[← l,← this,← a];exact m
   ·intro g;exact⟨j,k,a2c.mpr ⟨h,by rw[c,l];exact g,by rw[c]⟩⟩
  rw[a0e,a3R,e];unfold cH0 dA0;rw[d];by_cases h0:(wo bD z).length=0;rw[a3O h0,a3T (by lia:bD.length=1),a3Q (by lia:¬ 1 < bD.length)];cases h<;>simp;rw[a3P h0,a3Q (by lia:¬ bD.length=1),a3T (by lia:1 < bD.length),dA4];unfold mZ;rw[List.map_map];simp[Function.comp_def]
 ·have d:dR8 bD z=false:=Bool.eq_false_iff.mpr λz=>b (aJ0.mp z);unfold cH0;rw[d,Bool.false_and];refine a3Q λg=>b ?_;obtain⟨q,f,i⟩:=List.mem_flatMap.mp g;obtain⟨h',_,a⟩:=a2c.mp i;injection a with a _
  exact⟨q,f,a⟩
theorem zM{P:Int->Prop}:∀ {ys:List D},(∀ y∈ys,∃ n,P n/\y=.int n)->∃ l:List Int,ys=l.map D.int/\l.length=ys.length/\∀ n∈l,P n
 | [],_=>⟨[],rfl,rfl,λ_ h=>absurd h List.not_mem_nil⟩
 | y::r,h=>by
   obtain⟨n,hn,rfl⟩:=h y a3a;obtain⟨l,rfl,d,b⟩:=zM λy c=>h y (a4a _ c);exact⟨n::l,rfl,by simp,λx a=>by
    rcases a4b.mp a with rfl | a;exact hn
    ·exact b x a⟩
def dA6{n:Nat}{y:D}(h:y∈sL 0 n):∃ i:Int,(0<=i/\i < n)/\y=.int i:=by
 obtain⟨j,a⟩:=List.mem_iff_getElem?.mp h;obtain⟨c,b⟩:=qS a;exact⟨0+j,by lia,b⟩
def dS0{n:Nat}(h:0 < n):sL 0 n≠[]:=λz=>by have:=a3W List.length z;rw[cD]at this;simp at this;lia
def okI{n:Nat}{l:List Int}:∀ d∈l.map D.int,Ok n d:=λd hd=>by
 obtain⟨i,_,rfl⟩:=a2c.mp hd;exact .int
def aR3{n:Nat}{k:Int}(h0:0<=k)(a:k < n):ixN n k=some k.toNat:=by
 unfold ixN;rw[a3O h0,a3O (by lia)]
def cH2:∀ l:List Int,(l.take 1).Nodup
 | []=>.nil
 | [a]=>by simp
 | a::b::r=>by simp
def bX6{l:List Int}(h:(l.map D.int).Nodup):l.Nodup:=(List.pairwise_map.mp h).imp λ{a b} q e=>q (by rw[e])
def cQ2{l:List Int}(h:l.Nodup):(l.map D.int).Nodup:=List.pairwise_map.mpr (h.imp λ{a b} q e=>q (by injection e))
def dS1(lo:Int)(n:Nat):(sL lo n).Nodup:=by
 unfold sL;exact List.pairwise_map.mpr (List.nodup_range.imp λ{a b} q e=>q (by injection e with e;lia))
def dS2{a b m:Int}(o:1<=m)(p:m<=6){K:Res->List Sl->Prop}(k:∀ (l:List Int) c d,l≠[]->l.length<=4->((∀ n∈l,0<=n/\n < m)/\l.Nodup)->K (.own (.lst (l.map D.int))) [⟨.par,.lst [.int c,.int d]⟩,⟨.par,.lst (sL 0 m.toNat)⟩]) :
  CK cF [⟨.par,.lst [.int a,.int b]⟩,⟨.par,.lst (sL 0 m.toNat)⟩] K:=by
 refine aY1 (.inl ⟨rfl,rfl⟩) (dS0 (by lia)) (by rw[cD];lia) λys c d e q f g=>?_;obtain⟨l,rfl,r,h⟩:=zM (P:=λn=>0<=n/\n < m) λy j=>by
  obtain⟨i,hi,rfl⟩:=dA6 (f y j);exact⟨i,by lia,rfl⟩
 exact k l c d (λz=>e (by rw[z];rfl)) (by lia) ⟨h,bX6 (g (dS1 _ _))⟩
noncomputable def dA7:DS:=bJ (gY (jI "list" 3 aS5 (aC (dFz (dSl (aG 6) rD (dP (dC (.int 4))))) aL)))
 (gY (tQ "list" 4 bS5 (aC (cN [8] (dIt (aX ixD (aG 3) (aG1 cN8 (dC (.int 1))))) (dgN 8) (cK (aX (inD true) (aG 8) (aG 4))) (dFz (aG 8))) aL)))
noncomputable abbrev plS(a b m c:Int)(ls:List (List Int))(us:List Int)(d e f:Option Sl):Sg:=[some ⟨.par,.lst [.int a,.int b]⟩,some ⟨.val,.int m⟩,some ⟨.val,.int c⟩,some ⟨.own,aP8 ls⟩,some ⟨.own,.lst (us.map D.int)⟩,d,e,f,none]
structure PlI(m:Int)(ls:List (List Int))(us:List Int):Prop where
 le:∀ l∈ls,l≠[]/\l.length<=4/\(∀ n∈l,0<=n/\n < m)/\l.Nodup/\∀ n∈l,n∈us
 un:us≠[]
 ul:us.length<=4*ls.length
 um:∀ n∈us,0<=n/\n < m
def bX7{α:Type}(l:List α)(x:α):atI (l++[x]) (-1)=some x:=by
 unfold atI ixN;rw[a3P (by decide),a3O (by rw[a8a,List.length_singleton];lia)];show(l++[x])[(-1+((l++[x]).length:Int)).toNat]? = _;rw[show(-1+((l++[x]).length:Int)).toNat=l.length by rw[a8a,List.length_singleton];lia,a0g (a7a _),Nat.sub_self];rfl
def dS3{a b m c:Int}{ls:List (List Int)}{us l:List Int}{f g:Option Sl}(e:PlI m ls us)(B:ls.length<=6)(j:l≠[])(hm:(∀ n∈l,0<=n/\n < m)/\l.Nodup){Q:Out->Prop}
  (k:∀ d,PlI m (ls++[l.take 4]) d->Q (.nx (plS a b m c (ls++[l.take 4]) d f (some ⟨.own,.lst (l.map D.int)⟩) g))):RS dA7 (plS a b m c ls us f (some ⟨.own,.lst (l.map D.int)⟩) g) Q:=by
 have sl:10000<=sizeLine:=by decide
 have o:=e.ul;have p:(l.take 4).length<=4:=by rw[a9c];lia
 have q:aK0 (l.map D.int) none (some 4)=(l.take 4).map D.int:=by rw[aD7 _ (by decide),a0i];rfl
 have r:ls.map (λl=>D.lst (l.map D.int))++[D.lst ((l.take 4).map D.int)]=(ls++[l.take 4]).map (λl=>D.lst (l.map D.int)):=by rw[a1c];rfl
 unfold dA7 plS aP8;walk_at "dx";rw[q];refine⟨by rw[a1a];lia,?_⟩;rw[bX7];walk_at "dx";refine⟨by rw[a1a];lia,bE (λn=>!decide (n∈us)) D.int D.int (l.take 4) [_,_,_,_,_,_,_,_,none] rfl (λn hn=>?_) ?_⟩;walk_at "dx";refine rQ (n:=0) (m:=0) .int okI (by decide) (by decide) ?_;rw[pL D.int λx y h=>by injection h];walk_at "dx";walk_at "dx";have C:=List.length_filter_le (λn=>!decide (n∈us)) (l.take 4);refine⟨by rw[a1a,a1a];lia,?_⟩;rw[r,← a1c];refine k _ ⟨λx s=>?_,λz=>e.un (List.append_eq_nil_iff.mp z).1,by rw[a8a,a8a,List.length_singleton];lia,λn hn=>?_⟩
 ·rcases a3b.mp s with h | h;obtain⟨t,u,v,w,A⟩:=e.le x h;exact⟨t,u,v,w,λn hn=>a7d _ (A n hn)⟩;rw[a1b.mp h];refine⟨λz=>?_,p,λn hn=>hm.1 n (a8d hn),hm.2.sublist (List.take_sublist _ _),λn hn=>?_⟩
  rotate_left
  ·by_cases i:n∈us;exact a7d _ i;exact a9b _ (List.mem_filter.mpr ⟨hn,by simp[i]⟩)
  rw[List.take_eq_nil_iff]at z;rcases z with z | z;lia;exact j z
 ·rcases a3b.mp hn with h | h;exact e.um n h;exact hm.1 n (a8d (List.mem_filter.mp h).1)
def cH3{a b:Int}{K:Res->List Sl->Prop}(k:∀ ls g r,dV9 ls->K (.own (aP8 ls)) [⟨.par,.lst [.int g,.int r]⟩]):CK cU [⟨.par,.lst [.int a,.int b]⟩] K:=by
 have sl:10000<=sizeLine:=by decide
 unfold cU;rw[eR];show RS eD [_,none,none,none,none,none,none,none,none] _;rw[show eD=bJ (cM 1 (aX iT (dC (.int 1)) (aV 2 aJ (aC (aG 0) (aC (dC (.int 6)) aL)))))
  (bJ (cM 2 (aX iT (dC (.int 1)) (aV 2 aJ (aC (aG 0) (aC (dC (.int 6)) aL)))))
  (bJ (iO (cK (aX (eqD false) (aV 2 aJ (aC (aG 0) (aC (dC (.int 3)) aL))) (dC (.int 0)))) (gQ (cN [5] (sU (aC (aG 2) aL)) (dgN 5) iS (dFz (aV 2 cF (aC (aG 0) (aC (dCB aW8 (aC (aG 1) aL)) aL)))))) dI)
  (bJ (cM 3 (kZ (aC (dFz (aV 2 cF (aC (aG 0) (aC (dCB aW8 (aC (aG 1) aL)) aL)))) aL)))
  (bJ (cM 4 (dCB sM (aC (aX ixD (aG 3) (dC (.int 0))) aL)))
  (bJ (qY (sU (aC (aX dM6 (aG 2) (dC (.int 1))) aL)) (dgN 5)
  (bJ (cM 6 (aV 2 cF (aC (aG 0) (aC (aX ixD (aG 3) (aV 2 aJ (aC (aG 0) (aC (dCB mB (aC (aG 3) aL)) aL)))) aL))))
  (bJ (cM 7 (cN [8] (sU (aC (aG 1) aL)) (dgN 8) (cK (aX (inD true) (aG 8) (aG 4))) (dFz (aG 8))))
  (bJ (cM 6 (aX iT (dSl (aG 6) rD (dP (aV 2 aJ (aC (aG 0) (aC (aX iT (dCB mB (aC (aG 6) aL)) (dC (.int 1))) aL))))) (dSl (aG 7) rD (dP (aV 2 aJ (aC (aG 0) (aC (dC (.int 3)) aL)))))))
  (bJ (iO (cK (aX (eqD false) (aG 6) (kZ aL))) (cM 6 (dSl (aG 4) rD (dP (dC (.int 1))))) dI) dA7)))))
  (gQ (aG 3)))))))from rfl]
 walk_at "dx";refine dA (by decide) (by decide) λm0 a1 b1 m00 m01=>?_;walk_at "dx";refine dA (by decide) (by decide) λc0 a2 b2 c00 c01=>?_;walk_at "dx";refine dA (by decide) (by decide) λw a3 b3 w0 w1=>?_;walk_at "dx";generalize hm:1+m0=m;generalize hc:1+c0=c;split
 ·refine⟨by lia,by rw[cD];lia,kK _ _ (λi acc τ=>∃ (ls:List (List Int)) (g r:Int),acc=ls.map (λl=>.lst (l.map D.int))/\ls.length=i/\(∀ l∈ls,l.length<=6/\(∀ n∈l,0<=n/\n < 6)/\l.Nodup/\l≠[])/\τ=[some ⟨.par,.lst [.int g,.int r]⟩,some ⟨.val,.int m⟩,some ⟨.val,.int c⟩,none,none,none,none,none,none]) ⟨[],a3,b3,rfl,rfl,λ_ h=>absurd h List.not_mem_nil,rfl⟩ ?_ ?_⟩;rintro i d acc τ hd ⟨ls,g,r,rfl,s,f,rfl⟩;walk_at "dx";refine⟨by lia,dS2 (by lia) (by lia) λl G H l0 F u=>?_⟩;walk_at "dx";refine⟨_,rfl,ls++[l],G,H,by rw[a1c];rfl,by rw[a8a,s];rfl,λx B=>?_,rfl⟩;rcases a3b.mp B with h | h;exact f x h;rw[a1b.mp h];exact⟨by lia,λn hn=>by have:=u.1 n hn;lia,u.2,l0⟩;rintro acc τ ⟨ls,g,r,rfl,s,f,rfl⟩;rw[cD]at s;walk_at "dx";exact k ls g r ⟨by lia,by lia,f⟩
 ·refine⟨by lia,dS2 (by lia) (by lia) λl G H l0 F u=>?_⟩;walk_at "dx";refine⟨by lia,by lia,hJ (λi τ=>∃ g r ls us I J L M,ls.length=i+1/\PlI m ls us/\τ=plS g r m c ls us (ov I J) (fo L) (fo M)) ⟨G,H,[l],l,false,.non,none,none,rfl,⟨λx B=>by rw[a1b.mp B];exact⟨l0,F,u.1,u.2,λ_ h=>h⟩,l0,by simpa using F,u.1⟩,rfl⟩ ?_ ?_⟩
  ·rintro i d τ hd ⟨g,r,ls,us,I,J,L,M,f,t,rfl⟩;obtain⟨hi,rfl⟩:=qS hd;have lsl:(ls.map λl=>D.lst (l.map D.int)).length=ls.length:=a1a _;unfold plS aP8;walk_at "dx";refine dA (by lia) (by lia) λj a5 b5 j0 N=>?_;obtain⟨l,el,s⟩:=aE0 (λl:List Int=>D.lst (l.map D.int)) (l:=ls) (i:=j) j0 (by lia);obtain⟨l0,F,u,O,Q⟩:=t.le l s;walk_at "dx";rw[el];walk_at "dx";refine aY1 (.inr (.inl ⟨rfl,rfl⟩)) (λz=>l0 (List.map_eq_nil_iff.mp z)) (by rw[a1a];lia) λys a6 b6 y0 y4 ym yn=>?_;obtain⟨o,rfl,ho,C⟩:=zM (P:=λn=>(0<=n/\n < m)/\n∈us) (ys:=ys) λy hy=>by
    obtain⟨n,hn,rfl⟩:=a2c.mp (ym y hy);exact⟨n,⟨u n hn,Q n hn⟩,rfl⟩
   have R:o.Nodup:=bX6 (yn (cQ2 O));walk_at "dx";refine⟨by lia,by rw[cD];lia,bE (λn:Nat=>!decide ((0+(n:Int))∈us)) (λn=>.int (0+(n:Int))) (λn=>.int (0+(n:Int))) (List.range m.toNat) [_,_,_,_,_,_,_,_,none] rfl (λn hn=>?_) ?_⟩;walk_at "dx";refine rQ (n:=0) (m:=0) .int okI (by decide) (by decide) ?_;rw[pL D.int λx y h=>by injection h];walk_at "dx"
   obtain⟨fs,ef,hf1,E,S⟩:∃ fs:List Int,((List.range m.toNat).filter λn:Nat=>!decide ((0+(n:Int))∈us)).map (λn:Nat=>D.int (0+(n:Int)))=fs.map D.int/\fs.length<=6/\(∀ n∈fs,(0<=n/\n < m)/\n∉us)/\fs.Nodup:=by
    refine⟨((List.range m.toNat).filter λn:Nat=>!decide ((0+(n:Int))∈us)).map λn:Nat=>0+(n:Int),by rw[List.map_map];rfl,?_,λn hn=>?_,List.pairwise_map.mpr ((List.nodup_range.sublist List.filter_sublist).imp λ{a b} q e=>q (by lia))⟩;rw[a1a];have:=List.length_filter_le (λn:Nat=>!decide ((0+(n:Int))∈us)) (List.range m.toNat);rw[a4f]at this;lia;obtain⟨x,B,rfl⟩:=a2c.mp hn;have h1:=a8c.mp (List.mem_filter.mp B).1;have h2:=(List.mem_filter.mp B).2;exact⟨by lia,by simpa using h2⟩
   walk_at "dx";rw[ef];have lo:(o.map D.int).length<=4:=y4;refine dA (by lia) (by lia) λN a7 b7 T j11=>?_;walk_at "dx";refine dA (by decide) (by decide) λX Y Z U j21=>?_;walk_at "dx";obtain⟨p,ep,hp1,V⟩:∃ p:List Int,aK0 (o.map D.int) none (some N)++aK0 (fs.map D.int) none (some X)=p.map D.int/\p.length<=10/\(∀ n∈p,0<=n/\n < m)/\p.Nodup:=by
    refine⟨o.take N.toNat++fs.take X.toNat,by rw[aD7 _ T,aD7 _ U,a1c,a0i,a0i],?_,λn hn=>?_,List.nodup_append.mpr ⟨R.sublist (List.take_sublist _ _),S.sublist (List.take_sublist _ _),λa ha b hb e=>(E b (a8d hb)).2 (by rw[← e];exact(C a (a8d ha)).2)⟩⟩;rw[a8a,a9c,a9c];rw[a1a]at lo;lia;rcases a3b.mp hn with h | h;exact(C n (a8d h)).1;exact(E n (a8d h)).1
   have W:=a3W List.length ep;rw[a8a,a1a]at W;rw[ep];refine⟨by lia,a0d _,zI (n:=0) okI (by decide) ?_⟩;rw[List.isEmpty_map];walk_at "dx";split
   ·have e1:aK0 (us.map D.int) none (some 1)=(us.take 1).map D.int:=by rw[aD7 _ (by decide),a0i];rfl
    rw[e1];refine dS3 t (by lia) (λz=>?_) ⟨λn hn=>t.um n (a8d hn),cH2 us⟩ λv A=>?_;rw[List.take_eq_nil_iff]at z;rcases z with z | z;lia;exact t.un z;exact⟨_,.inl rfl,Y,Z,_,v,true,_,some (true,_),some (true,_),by rw[a8a,f];rfl,A,rfl⟩
   ·rename_i h0;refine dS3 t (by lia) (λz=>h0 (by rw[z];rfl)) V λv A=>?_;exact⟨_,.inl rfl,Y,Z,_,v,true,_,some (true,_),some (true,_),by rw[a8a,f];rfl,A,rfl⟩
  ·rintro τ ⟨g,r,ls,us,I,J,L,M,f,t,rfl⟩;rw[cD]at f;unfold plS;walk_at "dx";exact k ls g r ⟨by lia,by lia,λl s=>⟨by have:=(t.le l s).2.1;lia,λn hn=>by have:=(t.le l s).2.2.1 n hn;lia,(t.le l s).2.2.2.1,(t.le l s).1⟩⟩
def bX8{as:List Sl}{K:Res->List Sl->Prop}{o:Out}(h:aC2 as K o):eD2 as K o:=by
 cases o with
 | nx σ=>exact h
 | rt r σ=>exact jM.mp h
 | bk σ=>exact h
 | ct σ=>exact h
 | ex c f σ=>exact h
noncomputable def dA8:DS:=bJ (cM 5 (kZ aL))
 (bJ (qY (bT5 (aV 2 aU (aC (aG 0) (aC (aG 2) aL)))) (lR 2 (cT (dgN 6) (cT (dgN 7) lA)))
 (gY (jI "list" 5 aS5 (aC (aS3 (aC (aX ixD (aG 4) (aG 6)) (aC (dCB aK1 (aC (cN [8] (dIt (aV 2 aU (aC (aG 0) (aC (aG 7) aL)))) (dgN 8) iS (aX ixD (aG 3) (aG 8))) aL)) aL))) aL))))
 (gQ (dCB aK1 (aC (aG 5) aL))))
noncomputable def dA9:DS:=bJ (cM 3 (aV 2 aU (aC (aG 0) (aC (aV 2 dY (aC (aG 0) (aC (dC (.int 6)) aL))) aL))))
 (bJ (cM 4 (dFz (aG 3)))
 (bJ (iO (cK (aX gtI (aV 2 aJ (aC (aG 0) (aC (dC (.int 4)) aL))) (dC (.int 0)))) (cM 4 (aV 2 dY (aC (aG 0) (aC (dC (.int 6)) aL)))) dI) dA8))
structure Qw(qs:List (Str×List Str)):Prop where
 l1:1<=qs.length
 l6:qs.length<=6
 qn:Qn qs
 nd:(qs.map Prod.fst).Nodup
 cd:∀ q∈qs,q.2.Nodup
 ne:∀ q∈qs,q.2≠[]
 cs:∃ cs:List Str,cs.length=6/\∀ q∈qs,∀ z∈q.2,z∈cs
theorem bF1{P:List Int->Prop}:∀ {ys:List D},(∀ y∈ys,∃ l,P l/\y=.lst (l.map D.int))->∃ ls:List (List Int),ys=ls.map (λl=>.lst (l.map D.int))/\ls.length=ys.length/\∀ l∈ls,P l
 | [],_=>⟨[],rfl,rfl,λ_ h=>absurd h List.not_mem_nil⟩
 | y::r,h=>by
   obtain⟨n,hn,rfl⟩:=h y a3a;obtain⟨l,rfl,d,b⟩:=bF1 λy c=>h y (a4a _ c);exact⟨n::l,rfl,by simp,λx a=>by
    rcases a4b.mp a with rfl | a;exact hn
    ·exact b x a⟩
theorem bX9{P:Str->Prop}:∀ {ys:List D},(∀ y∈ys,∃ z,P z/\y=.str z)->∃ l:List Str,ys=l.map D.str/\∀ z∈l,P z
 | [],_=>⟨[],rfl,by simp⟩
 | y::r,h=>by
   obtain⟨z,b,rfl⟩:=h y a3a;obtain⟨l,rfl,c⟩:=bX9 λy d=>h y (a4a _ d);exact⟨z::l,rfl,λx a=>by
    rcases a4b.mp a with rfl | a;exact b
    ·exact c x a⟩
def bY0{cs:List Str}{n:Int}(h0:0<=n)(a:n < (cs.length:Int)):∃ c,atI (cs.map D.str) n=some (.str c)/\c∈cs/\cs.getD n.toNat default=c:=by
 have hn:n.toNat < cs.length:=by lia
 refine⟨cs[n.toNat],?_,a5b hn,by rw[a6a,a0a hn];rfl⟩;unfold atI;rw[aR3 h0 (by rw[a1a];exact a)];show(cs.map D.str)[n.toNat]? = _;rw[a3c,a0a hn];rfl
def dS4{a b a0 b0 w:Int}{ls:List (List Int)}{cs o:List Str}{m:Md}(hm:m=.val\/m=.own)(hs:dV9 ls)(L:cs.Nodup)(hc:cs.length=6)(M:∀ z∈cs,Tx z)(ht:o.length=6)(N:∀ z∈o,Tx z)(O:o.Nodup){K:Res->List Sl->Prop}
  (k:∀ qs x A,Qw qs->K (.val (qD qs)) [⟨.par,.lst [.int x,.int A]⟩]) :
  RS dA8 [some ⟨.par,.lst [.int a,.int b]⟩,some ⟨.val,.int w⟩,some ⟨.own,aP8 ls⟩,some ⟨.val,.lst (cs.map D.str)⟩,some ⟨m,.lst (o.map D.str)⟩,none,none,none,none] (aC2 [⟨.par,.lst [.int a0,.int b0]⟩] K):=by
 have sl:10000<=sizeLine:=by decide
 obtain⟨s1,s6,sm⟩:=hs;unfold dA8 aP8;rcases hm with rfl | rfl
 all_goals
  walk_at "dx";refine⟨a0d _,by decide,pK (xs:=ls.map λl=>D.lst (l.map D.int)) (.inl ⟨rfl,rfl⟩) (by rw[a1a];lia) λys a1 b1 hp=>?_⟩;obtain⟨Q,rfl,hml,R⟩:=bF1 (P:=λl=>l.length<=6/\(∀ n∈l,0<=n/\n < 6)/\l.Nodup/\l≠[]) (ys:=ys) λy B=>by
   obtain⟨l,hl,rfl⟩:=a2c.mp (hp.mem_iff.mp B);exact⟨l,sm l hl,rfl⟩
  have S:=hp.length_eq;rw[a1a,a1a]at S;walk_at "dx";refine hJ (λi τ=>i<=6/\∃ x A T d6 U V,∃ qs:List (Str×List Str),qs.map Prod.fst=o.take i/\(∀ q∈qs,q.2.length<=6/\(∀ z∈q.2,Tx z/\z∈cs)/\q.2.Nodup/\q.2≠[])/\τ=[some ⟨.par,.lst [.int x,.int A]⟩,_,_,_,_,some ⟨.own,.lst (qs.map qP)⟩,ov T d6,ov U V,none]) ⟨by lia,a1,b1,false,.non,false,.non,[],rfl,λ_ h=>absurd h List.not_mem_nil,rfl⟩ ?_ ?_
  ·rintro i d τ hd ⟨hi6,x,A,T,d6,U,V,qs,f,g,rfl⟩;obtain⟨y,B,rfl⟩:=kA hd;obtain⟨l,C,rfl⟩:=iL B;have him:i < Q.length:=(a2a.mp C).1;obtain⟨hl6',W,E,F⟩:=R l (a0c C);have X:qs.length=i:=by
    have:=a3W List.length f;rw[a1a,a9c]at this;lia
   have G:o[i]? = some o[i]:=a0a (by lia);have H:atI (o.map D.str) (((0+i:Nat):Int))=some (.str o[i]):=by
    unfold atI;rw[aR3 (by lia) (by rw[a1a];lia)];show(o.map D.str)[((0+i:Nat):Int).toNat]? = _;rw[a9h,a9f,a3c,G];rfl
   walk_at "dx";simp only[Nat.zero_add]at H ⊢;rw[H];walk_at "dx";refine pK (xs:=l.map D.int) (.inr (.inl ⟨rfl,rfl⟩)) (by rw[a1a];lia) λzs a2 b2 s=>?_;obtain⟨js,rfl,hjl,t⟩:=zM (P:=λn=>0<=n/\n < 6) (ys:=zs) λy B=>by
    obtain⟨n,hn,rfl⟩:=a2c.mp (s.mem_iff.mp B);exact⟨n,W n hn,rfl⟩
   have Y:=s.length_eq;rw[a1a,a1a]at Y;walk_at "dx";refine⟨by rw[a1a];lia,kK _ _ (λj acc τ=>∃ us:List Str,acc=us.map D.str/\us.length=j/\(∀ z∈us,Tx z/\z∈cs)/\us=(js.take j).map (λn=>cs.getD n.toNat default)/\τ=[some ⟨.par,.lst [.int a2,.int b2]⟩,_,_,_,_,_,_,_,none]) ⟨[],rfl,rfl,λ_ h=>absurd h List.not_mem_nil,rfl,rfl⟩ ?_ ?_⟩;rintro j d acc τ hd ⟨us,rfl,u,v,r,rfl⟩;obtain⟨n,hn,rfl⟩:=iL hd;have Z:=t n (a0c hn);obtain⟨c,ec,I,hce⟩:=bY0 (cs:=cs) (n:=n) Z.1 (by lia);walk_at "dx";rw[ec];walk_at "dx";refine⟨_,rfl,us++[c],by rw[a1c];rfl,by rw[a8a,u];rfl,λz J=>?_,by rw[r,a5e,hn,a1c,← hce];rfl⟩;rcases a3b.mp J with h | h;exact v z h;rw[a1b.mp h];exact⟨M c I,I⟩;rintro acc τ ⟨us,rfl,u,v,r,rfl⟩;rw[a1a]at u;rw[a1a,List.take_length]at r;have jnd:js.Nodup:=bX6 (s.nodup_iff.mpr (cQ2 E));have und:us.Nodup:=by
    rw[r];exact List.pairwise_map.mpr (jnd.imp_of_mem λ{a b} ha hb q e=>q (by
     have h1:=t a ha;have h2:=t b hb;have i1:a.toNat < cs.length:=by lia
     have i2:b.toNat < cs.length:=by lia
     rw[a6a,a6a,a0a i1,a0a i2]at e;have e':cs[a.toNat]=cs[b.toNat]:=e;have:=(List.getElem?_inj i1 L).mp (show cs[a.toNat]? = cs[b.toNat]? by rw[a0a i1,a0a i2,e']);lia))
   walk_at "dx";refine⟨by lia,by rw[a1a];lia,_,.inl rfl,by lia,a2,b2,true,_,true,_,qs++[(o[i],us)],by rw[a1c,f,a5e,G];rfl,λq p=>?_,by rw[a1c];rfl⟩;rcases a3b.mp p with h | h;exact g q h;rw[a1b.mp h];exact⟨by show us.length<=6;lia,v,und,λz=>F (List.length_eq_zero_iff.mp (by have e:us.length=0:=(List.length_eq_zero_iff.mpr z);lia))⟩
  ·rintro τ ⟨_,x,A,T,d6,U,V,qs,f,g,rfl⟩;rw[jN,a1a]at f;have X:qs.length=Q.length:=by
    have:=a3W List.length f;rw[a1a,a9c]at this;lia
   walk_at "dx";refine k qs x A ⟨by lia,by lia,⟨by lia,λq p=>⟨N _ ?_,by have:=(g q p).1;lia,λz J=>((g q p).2.1 z J).1⟩⟩,by rw[f];exact O.sublist (List.take_sublist _ _),λq p=>(g q p).2.2.1,λq p=>(g q p).2.2.2,cs,hc,λq p z J=>((g q p).2.1 z J).2⟩;have:q.1∈o.take Q.length:=by rw[← f];exact List.mem_map_of_mem p
   exact a8d this
def dS5{a b a0 b0 w:Int}{ls:List (List Int)}(g:dV9 ls){K:Res->List Sl->Prop}(k:∀ qs i j,Qw qs->K (.val (qD qs)) [⟨.par,.lst [.int i,.int j]⟩]) :
  RS dA9 [some ⟨.par,.lst [.int a,.int b]⟩,some ⟨.val,.int w⟩,some ⟨.own,aP8 ls⟩,none,none,none,none,none,none] (aC2 [⟨.par,.lst [.int a0,.int b0]⟩] K):=by
 unfold dA9;walk_at "dx";refine bE8 λh t u l m o=>?_;walk_at "dx";refine pK (xs:=h.map D.str) (.inl ⟨rfl,rfl⟩) (by rw[a1a];lia) λys x A f=>?_;obtain⟨cs,rfl,d⟩:=bX9 (P:=Tx) (ys:=ys) λy p=>by
  obtain⟨z,q,rfl⟩:=a2c.mp (f.mem_iff.mp p);exact⟨z,o z q,rfl⟩
 have c:=f.length_eq;rw[a1a,a1a,l]at c;have e:cs.Nodup:=by
  have:(h.map D.str).Nodup:=List.Pairwise.map _ (λa b n z=>n (aI9 _ _ z)) m;have:=f.nodup_iff.mpr this;exact List.Pairwise.of_map D.str (λa b n z=>n (by rw[z])) this
 walk_at "dx";refine dA (by decide) (by decide) λv B C E v1=>?_;walk_at "dx";split;refine bE8 λF G H r tn s=>?_;walk_at "dx";exact dS4 (.inr rfl) g e c d r s tn k;exact dS4 (.inl rfl) g e c d c d e k
def zN{a b:Int}{K:Res->List Sl->Prop}(k:∀ qs c d,Qw qs->K (.val (qD qs)) [⟨.par,.lst [.int c,.int d]⟩]):cG [⟨.par,.lst [.int a,.int b]⟩] K:=by
 unfold cG dD9;refine dU _ _ _ (λo h=>bX8 h) ?_;show eE [_,none,none,none,none,none,none,none,none] _;rw[show eE=bL1 (RS (cM 1 (aV 2 aJ (aC (aG 0) (aC (dC (.int 2)) aL))))) (bL1 (mIf (cK (aX (eqD false) (aG 1) (dC (.int 0)))) (aA3 2 1 cRS (aC (aG 0) aL)) (RS (cM 2 (aV 1 cU (aC (aG 0) aL))))) (RS dA9))from rfl];show RS _ _ (sqM _ _);walk_at "dx";refine dA (by decide) (by decide) λw f g i j=>?_;walk_at "dx";unfold bL1 mIf;walk_at "dx";split;show _/\cRS _ _;exact⟨⟨rfl,rfl⟩,f,g,rfl,λls c d e=>dS5 e k⟩;refine cH3 λls c d e=>?_;walk_at "dx";exact dS5 e k
end Mr
namespace Hy
open Classical
section
variable{α:Type}{E E':List (List α)}{S S' l:List α}{v:α}
def Top(E:List (List α))(S:List α)(v:α):Prop:=∃ e∈E,∀ f∈E,v∈f->∀ x∈S,x∈f->x∈e
def El(E:List (List α)):List α->Prop
 | []=>True
 | v::b=>Top E (v::b) v/\El E b
def Acy(E:List (List α))(S:List α):Prop:=∃ l,(∀ x,x∈l↔x∈S)/\El E l
def Top.mono(h:Top E S v)(w:∀ x∈S',x∈S):Top E S' v:=by
 obtain⟨e,a,q⟩:=h;exact⟨e,a,λf b c x d=>q f b c x (w x d)⟩
theorem El.filter(p:α->Bool):∀ {l:List α},El E l->El E (l.filter p)
 | [],_=>True.intro
 | v::b,⟨t,q⟩=>by
   by_cases c:p v=true;rw[List.filter_cons_of_pos c];refine⟨t.mono λx a=>?_,q.filter p⟩;rcases a4b.mp a with e | a;rw[e];exact a3a;exact a4a _ (List.mem_filter.mp a).1;rw[List.filter_cons_of_neg c];exact q.filter p
def Acy.sub(h:Acy E S)(w:∀ x∈S',x∈S):Acy E S':=by
 obtain⟨l,m,q⟩:=h;refine⟨l.filter λx=>decide (x∈S'),λx=>?_,q.filter _⟩;rw[List.mem_filter,a3R];exact⟨λh=>h.2,λh=>⟨(m x).mpr (w x h),h⟩⟩
def Acy.cons(t:Top E S v)(c:v∈S)(h:Acy E (S.filter λx=>decide (x≠v))):Acy E S:=by
 obtain⟨l,m,q⟩:=h;have b:∀ x,x∈v::l↔x∈S:=λx=>by
  rw[a4b,m,List.mem_filter,a3R];constructor;rintro(rfl | h);exact c;exact h.1;intro a;by_cases e:x=v;exact .inl e;exact .inr ⟨a,e⟩
 exact⟨v::l,b,t.mono λx a=>(b x).mp a,q⟩
theorem El.ear{e f:List α}(c:∀ g,g∈E↔g=e\/g∈E')(k:f∈E')(m:∀ x∈e,(∃ g∈E',x∈g)->x∈f):∀ {l:List α},El E l->El E' l
 | [],_=>True.intro
 | v::b,⟨⟨t,n,q⟩,r⟩=>by
   refine⟨?_,r.ear c k m⟩;rcases(c t).mp n with rfl | h;exact⟨f,k,λg d i x j a=>m x (q g ((c g).mpr (.inr d)) i x j a) ⟨g,d,a⟩⟩;exact⟨t,h,λg d i x j a=>q g ((c g).mpr (.inr d)) i x j a⟩
theorem El.pre{e:List α}(d:e∈E){b:List α}(f:El E b):∀ {a:List α},(∀ v∈a,∀ g∈E,v∈g->g=e)->El E (a++b)
 | [],_=>f
 | v::a,h=>⟨⟨e,d,λg i c x _ j=>by rw[← h v a3a g i c];exact j⟩,f.pre d λv c=>h v (a4a _ c)⟩
theorem El.back{e f:List α}(d:∀ g,g∈E↔g=e\/g∈E')(k:f∈E')(h:∀ x∈e,(∃ g∈E',x∈g)->x∈f):∀ {l:List α},El E' l->(∀ x∈l,x∈e->∃ g∈E',x∈g)->El E l
 | [],_,_=>True.intro
 | v::b,⟨⟨t,m,q⟩,r⟩,np=>by
   refine⟨⟨t,(d t).mpr (.inr m),λg n i x c a=>?_⟩,r.back d k h λx c=>np x (a4a _ c)⟩;rcases(d g).mp n with rfl | j;exact q f k (h v i (np v a3a i)) x c (h x a (np x c a));exact q g j i x c a
def dB0{e f:List α}(a:∀ g,g∈E↔g=e\/g∈E')(d:f∈E')(i:∀ x∈e,(∃ g∈E',x∈g)->x∈f):Acy E S↔Acy E' S:=by
 constructor;rintro⟨l,m,q⟩;exact⟨l,m,q.ear a d i⟩;rintro⟨l,m,q⟩;refine⟨l.filter (λx=>decide (x∈e/\¬ ∃ g∈E',x∈g))++l.filter (λx=>!decide (x∈e/\¬ ∃ g∈E',x∈g)),λx=>?_,?_⟩;rw[← m x,a3b,List.mem_filter,List.mem_filter];constructor;rintro(h | h)<;>exact h.1;intro h;by_cases j:x∈e/\¬ ∃ g∈E',x∈g;exact .inl ⟨h,a3T j⟩;exact .inr ⟨h,by rw[a3Q j];rfl⟩;refine El.pre ((a e).mpr (.inl rfl)) (El.back a d i (q.filter _) λx k b=>?_) λv n g o c=>?_;have:=(List.mem_filter.mp k).2;by_cases h:∃ g∈E',x∈g;exact h;rw[a3T (p:=x∈e/\¬ ∃ g∈E',x∈g) ⟨b,h⟩]at this;cases this;have:=of_decide_eq_true (List.mem_filter.mp n).2;rcases(a g).mp o with h | h;exact h;exact absurd ⟨g,h,c⟩ this.2
theorem El.has_ear(s:2<=E.length):∀ {l:List α},El E l->∃ i j,i < E.length/\j < E.length/\i≠j/\∀ x∈l,x∈E[i]?.getD []->(∃ k,k≠i/\k < E.length/\x∈E[k]?.getD [])->x∈E[j]?.getD []
 | [],_=>⟨0,1,by lia,by lia,by decide,λ_ h=>nomatch h⟩
 | v::b,⟨⟨t,u,q⟩,r⟩=>by
   obtain⟨i,j,hi,w,y,h⟩:=r.has_ear s;obtain⟨n,c,rfl⟩:=a9d u;have m:∀ {k:Nat} (f:k < E.length),E[k]?.getD []=E[k]:=λf=>by rw[a0a f];rfl
   by_cases p:v∈E[i]?.getD []/\(∃ k,k≠i/\k < E.length/\v∈E[k]?.getD [])/\v∉E[j]?.getD [];obtain⟨v1,⟨k,A,o,v2⟩,B⟩:=p;by_cases e:n=i;subst e;refine⟨k,n,o,c,A,λx d g _=>?_⟩;rw[m o]at g v2;rw[m c];exact q _ (a5b o) v2 x d g;refine⟨i,n,hi,c,λz=>e z.symm,λx d a _=>?_⟩;rw[m hi]at a v1;rw[m c];exact q _ (a5b hi) v1 x d a
   ·refine⟨i,j,hi,w,y,λx d a f=>?_⟩;rcases a4b.mp d with rfl | d;by_cases z:x∈E[j]?.getD [];exact z;exact absurd ⟨a,f,z⟩ p;exact h x d a f
def Tg(E:List (List α))(x y:α):Prop:=∃ f∈E,x∈f/\y∈f
theorem Tg.symm{x y:α}(h:Tg E x y):Tg E y x:=by obtain⟨f,a,b,c⟩:=h;exact⟨f,a,c,b⟩
def Clq(E:List (List α))(C:List α):Prop:=∀ x∈C,∀ y∈C,Tg E x y
theorem El.conf(d:E≠[]):∀ {l:List α},El E l->∀ {C:List α},(∀ x∈C,x∈l)->Clq E C->∃ e∈E,∀ x∈C,x∈e
 | [],_,C,s,_=>by
   obtain⟨e,i⟩:=List.exists_mem_of_ne_nil E d;exact⟨e,i,λx a=>absurd (s x a) List.not_mem_nil⟩
 | v::b,⟨⟨t,j,q⟩,r⟩,C,s,c=>by
   by_cases g:v∈C
   ·exact⟨t,j,λx a=>by
     obtain⟨f,k,m,n⟩:=c v g x a;exact q f k m x (s x a) n⟩
   ·exact r.conf d (λx a=>by
     rcases a4b.mp (s x a)with e | h;rw[e]at a;exact absurd a g
     ·exact h) c
theorem Acy.conf(a:E≠[])(h:Acy E S){C:List α}(s:∀ x∈C,x∈S)(c:Clq E C):∃ e∈E,∀ x∈C,x∈e:=by
 obtain⟨l,m,q⟩:=h;exact q.conf a (λx b=>(m x).mpr (s x b)) c
theorem El.out:∀ {l:List α},El E l->∀ {B:List α},Clq E B->∀ {z:α},z∈l->z∉B->∃ d∈l,d∉B/\Top E l d
 | v::b,⟨u,r⟩,B,c,z,C,D=>by
   by_cases o:v∈B
   ·obtain⟨t,w,q⟩:=u;obtain⟨f,F,A,_⟩:=c v o v o;have G:v∈t:=q f F A v a3a A;by_cases ha:∀ x∈b,x∈t
    ·have k:∀ x∈v::b,x∈t:=λx a=>by
      rcases a4b.mp a with e | h;rw[e];exact G;exact ha x h
     exact⟨z,C,D,t,w,λg _ _ x a _=>k x a⟩
    ·obtain⟨y,m⟩:=Classical.not_forall.mp ha;obtain⟨m,H⟩:=Classical.not_imp.mp m;obtain⟨d,hd,I,e,J,K⟩:=r.out (B:=b.filter λx=>decide (x∈t)) (λx a y m=>⟨t,w,of_decide_eq_true (List.mem_filter.mp a).2,of_decide_eq_true (List.mem_filter.mp m).2⟩) m λh=>H (of_decide_eq_true (List.mem_filter.mp h).2);have L:d∉t:=λh=>I (List.mem_filter.mpr ⟨hd,a3T h⟩);have no:∀ g∈E,d∈g->v∉g:=λg j p s=>L (q g j s d (a4a _ hd) p);refine⟨d,a4a _ hd,λh=>?_,e,J,λg j n x a i=>?_⟩;obtain⟨g,j,p,s⟩:=c d h v o;exact no g j p s;rcases a4b.mp a with z | h;rw[z]at i;exact absurd i (no g j n);exact K g j n x h i
   ·exact⟨v,a3a,o,u⟩
theorem Acy.out(h:Acy E S){B:List α}(c:Clq E B){z:α}(a:z∈S)(b:z∉B):∃ d∈S,d∉B/\Top E S d:=by
 obtain⟨l,m,q⟩:=h;obtain⟨d,e,f,g⟩:=q.out c ((m z).mpr a) b;exact⟨d,(m d).mp e,f,g.mono λx i=>(m x).mpr i⟩
def Acy.top(h:Acy E S)(a:S≠[]):∃ d∈S,Top E S d:=by
 obtain⟨z,b⟩:=List.exists_mem_of_ne_nil S a;obtain⟨d,c,_,e⟩:=h.out (B:=[]) (λx f=>nomatch f) b List.not_mem_nil;exact⟨d,c,e⟩
end
section
variable{α:Type}{A:α->α->Prop}{W:α->Prop}
def Ch(A:α->α->Prop):List α->Prop
 | a::b::r=>A a b/\Ch A (b::r)
 | _=>True
theorem bF2{b:α}{r:List α}:∀ {l:List α},Ch A (l++[b])->Ch A (b::r)->Ch A (l++b::r)
 | [],_,h=>h
 | [a],d,h=>⟨d.1,h⟩
 | a::c::l,d,h=>⟨d.1,bF2 (l:=c::l) d.2 h⟩
theorem bY1{b:α}{r:List α}:∀ {l:List α},Ch A (l++b::r)->Ch A (l++[b])
 | [],_=>True.intro
 | [a],h=>⟨h.1,True.intro⟩
 | a::c::l,h=>⟨h.1,bY1 (l:=c::l) h.2⟩
theorem bF3{b:α}{r:List α}:∀ {l:List α},Ch A (l++b::r)->Ch A (b::r)
 | [],h=>h
 | [a],h=>h.2
 | a::c::l,h=>bF3 (l:=c::l) h.2
def aY6{a b:α}{l:List α}(h:Ch A (l++[a]))(q:A a b):Ch A (l++[a,b]):=bF2 h ⟨q,True.intro⟩
theorem cQ3(sy:∀ x y,A x y->A y x):∀ {l:List α},Ch A l->Ch A l.reverse
 | [],_=>True.intro
 | [a],_=>True.intro
 | a::b::r,h=>by
   have:=cQ3 sy (l:=b::r) h.2;rw[List.reverse_cons]at this ⊢;rw[List.reverse_cons,List.append_assoc];exact aY6 this (sy _ _ h.1)
def Cl(A:α->α->Prop)(l:List α):Prop:=∀ (p q r:List α) (a b:α),l=p++a::q++b::r->q≠[]->¬ A a b
theorem bF4:∀ {l:List α},Ch A l->∀ {i:Nat} {a b:α},l[i]? = some a->l[i+1]? = some b->A a b
 | [],_,i,a,b,h,_=>by simp at h
 | [c],_,i,a,b,_,h=>by simp at h
 | c::d::r,h,0,a,b,e,f=>by
   simp at e f;rw[← e,← f];exact h.1
 | c::d::r,h,i+1,a,b,e,f=>bF4 (l:=d::r) h.2 (by simpa using e) (by simpa using f)
def bY2{l:List α}(h:Cl A l){i j:Nat}{a b:α}(ha:l[i]? = some a)(e:l[j]? = some b)(p:i+1 < j):¬ A a b:=by
 have hi:=(a2a.mp ha);have d:=(a2a.mp e);obtain⟨hi,f⟩:=hi;obtain⟨d,g⟩:=d;refine h (l.take i) ((l.drop (i+1)).take (j-i-1)) (l.drop (j+1)) a b ?_ ?_
 ·have k:l=l.take i++a::l.drop (i+1):=by
   rw[← f,← List.drop_eq_getElem_cons hi,List.take_append_drop]
  have m:l.drop (i+1)=(l.drop (i+1)).take (j-i-1)++b::l.drop (j+1):=by
   have c:j-i-1 < (l.drop (i+1)).length:=by rw[a1f];lia
   have n:(l.drop (i+1))[j-i-1]=b:=by rw[List.getElem_drop,← g];congr 1;lia
   have o:(l.drop (i+1)).drop (j-i-1+1)=l.drop (j+1):=by rw[List.drop_drop];congr 1;lia
   conv=>lhs;rw[← List.take_append_drop (j-i-1) (l.drop (i+1)),List.drop_eq_getElem_cons c,n,o]
  conv=>lhs;rw[k,m]
  simp
 ·intro z;have:=a3W List.length z;rw[a9c,a1f,a5g]at this;lia
theorem cH4{x y:α}(g:¬ A x y):∀ (n:Nat) (p:List α),p.length<=n->Ch A (x::(p++[y]))->(∀ c∈p,W c)->∃ q,Ch A (x::(q++[y]))/\(∀ c∈q,W c)/\Cl A (x::(q++[y]))
 | n,p,hn,t,hw=>by
   by_cases h:Cl A (x::(p++[y]));exact⟨p,t,hw,h⟩
   ·obtain⟨l,q,r,a,b,e,D,j⟩:∃ l q r a b,x::(p++[y])=l++a::q++b::r/\q≠[]/\A a b:=by
     unfold Cl at h;simp only[Classical.not_forall,Classical.not_not]at h;obtain⟨l,q,r,a,b,w,z,E⟩:=h;exact⟨l,q,r,a,b,w,z,E⟩
    have F:0 < q.length:=List.length_pos_iff.mpr D;have k:Ch A (l++a::b::r):=by
     rw[e]at t;have w:Ch A (l++[a]):=by rw[List.append_assoc]at t;exact bY1 t
     have z:Ch A (b::r):=bF3 (l:=l++a::q) t;exact bF2 w ⟨j,z⟩
    -- G eB2 stay
    have H:=a3W List.length e;simp at H;rcases List.eq_nil_or_concat r with v | ⟨m,s,v⟩
    ·subst v;have I:b=y:=by
      have B:(x::p)++[y]=(l++a::q)++[b]:=by simpa using e
      have:=(List.append_inj' B rfl).2;injection this with h _;exact h.symm
     subst I;cases l with
     | nil=>
       injection (show x::(p++[b])=a::(q++[b]) by simpa using e)with o _
       rw[← o]at j;exact absurd j g
     | cons C i=>
       injection (show x::(p++[b])=C::(i++a::(q++[b])) by simpa using e)with o u
       subst o;have d:p=i++a::q:=by
        have:p++[b]=(i++a::q)++[b]:=by rw[u];simp
        exact List.append_cancel_right this
       refine match n with
        | 0=>by rw[d]at hn;simp at hn
        | n+1=>cH4 g n (i++[a]) (by rw[d]at hn;simp at hn ⊢;lia) (by simpa using k) λc f=>hw c (by rw[d];rcases a3b.mp f with h | h;exact a7d _ h;rw[a1b.mp h];simp)
    ·rw[List.concat_eq_append]at v;subst v;have J:s=y:=by
      have B:(x::p)++[y]=(l++a::(q++b::m))++[s]:=by simpa using e
      have:=(List.append_inj' B rfl).2;injection this with h _;exact h.symm
     subst J;cases l with
     | nil=>
       injection (show x::(p++[s])=a::((q++b::m)++[s]) by simpa using e)with o u
       subst o;have d:p=q++b::m:=List.append_cancel_right u;refine match n with
        | 0=>by rw[d]at hn;simp at hn
        | n+1=>cH4 g n (b::m) (by rw[d]at hn;simp at hn ⊢;lia) (by simpa using k) λc f=>hw c (by rw[d];exact a9b _ f)
     | cons C i=>
       injection (show x::(p++[s])=C::((i++a::(q++b::m))++[s]) by simpa using e)with o u
       subst o;have d:p=i++a::(q++b::m):=List.append_cancel_right u;refine match n with
        | 0=>by rw[d]at hn;simp at hn
        | n + 1=>cH4 g n (i++a::b::m) (by rw[d]at hn;simp at hn ⊢;lia) (by simpa using k) λc f=>hw c (by
            rw[d];rcases a3b.mp f with h | h;exact a7d _ h
            ·rcases a4b.mp h with h | h;rw[h];simp
             ·simp;exact .inr (.inr (.inr (by simpa using h))))
 termination_by n=>n
inductive Rc(A:α->α->Prop)(W:α->Prop)(y:α):α->Prop
 | refl:W y->Rc A W y y
 | step {c d:α}:Rc A W y c->A c d->W d->Rc A W y d
def Rc.w{y c:α}(h:Rc A W y c):W c:=by
 cases h with
 | refl h=>exact h
 | step _ _ h=>exact h
def Rc.way{y c:α}(h:Rc A W y c):∃ t u,y::t=u++[c]/\Ch A (y::t)/\∀ d∈y::t,W d:=by
 induction h with
 | refl h=>exact⟨[],[],rfl,True.intro,λd hd=>by rw[a1b.mp hd];exact h⟩
 | @step c d _ a w g=>
   obtain⟨t,u,e,b,i⟩:=g;refine⟨t++[d],y::t,rfl,?_,λx f=>?_⟩
   ·have:y::(t++[d])=u++[c,d]:=by
     rw[← List.cons_append,e];simp
    rw[this];rw[e]at b;exact aY6 b a
   ·rw[← List.cons_append]at f;rcases a3b.mp f with h | h;exact i x h;rw[a1b.mp h];exact w
def dB1(sy:∀ x y,A x y->A y x){y c d b a:α}(m:Rc A W y c)(n:Rc A W y d)(o:A b c)(q:A d a):∃ p:List α,Ch A (b::(p++[a]))/\∀ z∈p,W z:=by
 obtain⟨t,u,e,k1,k2⟩:=m.way;obtain⟨f,r,j,g,i⟩:=n.way;have s:t.reverse++[y]=c::u.reverse:=by
  have:=a3W List.reverse e;simpa using this
 have v:Ch A (t.reverse++[y]):=by
  have:=cQ3 sy k1;rwa[List.reverse_cons]at this
 have w:Ch A (y::(f++[a])):=by
  have:y::(f++[a])=r++[d,a]:=by rw[← List.cons_append,j];simp
  rw[this];rw[j]at g;exact aY6 g q
 have k:=bF2 v w;refine⟨t.reverse++y::f,?_,λz B=>?_⟩
 ·have l:(t.reverse++y::f)++[a]=c::(u.reverse++(f++[a])):=by
   have:(t.reverse++y::f)++[a]=(t.reverse++[y])++(f++[a]):=by simp
   rw[this,s];rfl
  have C:t.reverse++y::(f++[a])=c::(u.reverse++(f++[a])):=by rw[← l];simp
  rw[C]at k;rw[l];exact⟨o,k⟩
 ·rcases a3b.mp B with h | h;exact k2 z (a4a _ (List.mem_reverse.mp h));exact i z h
end
section
variable{α:Type}{E:List (List α)}{S Z:List α}
structure RingA(E:List (List α))(Z:List α):Prop where
 nd:Z.Nodup
 n:3<=Z.length
 one:∀ u∈Z,∃ e∈E,∀ x∈Z,x∈e↔x≠u
 no:∀ e∈E,∃ u∈Z,u∉e
structure RingB(E:List (List α))(Z:List α):Prop where
 nd:Z.Nodup
 n:4<=Z.length
 tg:∀ (i j:Nat) x y,i < j->Z[i]? = some x->Z[j]? = some y->(Tg E x y↔j=i+1\/i=0/\j+1=Z.length)
def RingA.clq(h:RingA E Z):Clq E Z:=λx i y j=>by
 obtain⟨u,k,l,m⟩:∃ u∈Z,u≠x/\u≠y:=by
  have hn:=h.n;have nd:=h.nd
  match Z,hn,nd with
  | a::b::c::r,_,nd=>
    simp only[List.nodup_cons,List.mem_cons,not_or]at nd;by_cases f:a≠x/\a≠y;exact⟨a,by simp,f⟩
    ·by_cases g:b≠x/\b≠y;exact⟨b,by simp,g⟩
     ·refine⟨c,by simp,λe=>?_,λe=>?_⟩;subst e;by_cases d:a=y;exact g ⟨λz=>nd.2.1.1 z,λz=>nd.1.1 (d.trans z.symm)⟩;exact f ⟨λz=>nd.1.2.1 z,d⟩;subst e;by_cases d:a=x;exact g ⟨λz=>nd.1.1 (d.trans z.symm),λz=>nd.2.1.1 z⟩;exact f ⟨d,λz=>nd.1.2.1 z⟩
 obtain⟨e,o,q⟩:=h.one u k;exact⟨e,o,(q x i).mpr (a3e l),(q y j).mpr (a3e m)⟩
def aY7{z a b:α}(ha:a∈Z)(c:b∈Z)(d:Tg E z a)(h:Tg E z b)(i:¬ Tg E a b):¬ Top E Z z:=λ⟨e,he,q⟩=>by
 obtain⟨f,j,k,l⟩:=d;obtain⟨g,m,n,o⟩:=h;exact i ⟨e,he,q f j k a ha l,q g m n b c o⟩
def RingB.not(h:RingB E Z):¬ Acy E Z:=λa=>by
 have hn:=h.n;obtain⟨d,hd,t⟩:=a.top (λz=>by rw[z]at hn;simp at hn);obtain⟨i,hi,rfl⟩:=a9d hd;have g:∀ (j:Nat) (b:j < Z.length),Z[j]? = some Z[j]:=λj b=>a0a b;have m:∀ (j:Nat) (b:j < Z.length),Z[j]∈Z:=λj b=>a5b b;have T:=λ(i j:Nat) (hi:i < Z.length) (b:j < Z.length) (c:i < j)=>h.tg i j _ _ c (g i hi) (g j b);by_cases h0:i=0;subst h0;refine aY7 (m 1 (by lia)) (m (Z.length-1) (by lia)) ((T 0 1 hi (by lia) (by lia)).mpr (.inl rfl)) ((T 0 (Z.length-1) hi (by lia) (by lia)).mpr (.inr ⟨rfl,by lia⟩)) (λz=>?_) t;have:=(T 1 (Z.length-1) (by lia) (by lia) (by lia)).mp z;lia;by_cases e:i+1=Z.length;refine aY7 (m (i-1) (by lia)) (m 0 (by lia)) ((T (i-1) i (by lia) hi (by lia)).mpr (.inl (by lia))).symm ((T 0 i (by lia) hi (by lia)).mpr (.inr ⟨rfl,e⟩)).symm (λz=>?_) t;have:=(T 0 (i-1) (by lia) (by lia) (by lia)).mp z.symm;lia;refine aY7 (m (i-1) (by lia)) (m (i+1) (by lia)) ((T (i-1) i (by lia) hi (by lia)).mpr (.inl (by lia))).symm ((T i (i+1) hi (by lia) (by lia)).mpr (.inl rfl)) (λz=>?_) t;have:=(T (i-1) (i+1) (by lia) (by lia) (by lia)).mp z;lia
structure Mn(E:List (List α))(S:List α):Prop where
 ne:E≠[]
 nd:S.Nodup
 no:¬ Acy E S
 one:∀ v∈S,Acy E (S.filter λx=>decide (x≠v))
def Mn.top(h:Mn E S){v:α}(a:v∈S):¬ Top E S v:=λt=>h.no (Acy.cons t a (h.one v a))
def Mn.self(h:Mn E S){v:α}(c:v∈S):Tg E v v:=by
 by_cases b:∃ f∈E,v∈f;obtain⟨f,a,q⟩:=b;exact⟨f,a,q,q⟩;obtain⟨e,d⟩:=List.exists_mem_of_ne_nil E h.ne;exact absurd ⟨e,d,λf a q=>absurd ⟨f,a,q⟩ b⟩ (h.top c)
theorem Mn.sub(h:Mn E S){T:List α}(w:∀ x∈T,x∈S){v:α}(b:v∈S)(nv:v∉T):Acy E T:=
 (h.one v b).sub λx a=>List.mem_filter.mpr ⟨w x a,a3T λe=>nv (by rw[← e];exact a)⟩
def Mn.all(h:Mn E S)(c:Clq E S):RingA E S:=by
 have big:∀ e∈E,¬ ∀ x∈S,x∈e:=λe g q=>by
  have m:S≠[]:=λz=>by subst z;exact h.no ⟨[],λ_=>Iff.rfl,True.intro⟩
  obtain⟨v,o⟩:=List.exists_mem_of_ne_nil S m;exact h.top o ⟨e,g,λ_ _ _ x f _=>q x f⟩
 refine⟨h.nd,?_,λu i=>?_,λe g=>?_⟩
 ·match S,h,c,big with
  | [],h,_,_=>exact absurd ⟨[],λ_=>Iff.rfl,True.intro⟩ h.no
  | [a],h,c,big=>
    obtain⟨e,g,q,_⟩:=c a (by simp) a (by simp);exact absurd (λx f=>by rw[a1b.mp f];exact q) (big e g)
  | [a,b],h,c,big=>
    obtain⟨e,g,p,s⟩:=c a (by simp) b (by simp);refine absurd (λx f=>?_) (big e g);rcases a4b.mp f with e | f;rw[e];exact p;rw[a1b.mp f];exact s
  | a::b::d::r,_,_,_=>simp
 ·obtain⟨e,g,q⟩:=(h.one u i).conf h.ne (λ_ h=>h) λx f y j=>c x (List.mem_filter.mp f).1 y (List.mem_filter.mp j).1;have l:∀ x∈S,x≠u->x∈e:=λx f n=>q x (List.mem_filter.mpr ⟨f,a3T n⟩);refine⟨e,g,λx f=>⟨λk z=>?_,l x f⟩⟩;subst z;refine big e g λy j=>?_;by_cases z:y=x;rw[z];exact k;exact l y j z
 ·obtain⟨u,i⟩:=Classical.not_forall.mp (big e g);obtain⟨t,w⟩:=Classical.not_imp.mp i;exact⟨u,t,w⟩
def Ad(E:List (List α))(x y:α):Prop:=x≠y/\Tg E x y
def Ad.sy(x y:α)(h:Ad E x y):Ad E y x:=⟨h.1.symm,h.2.symm⟩
def cH5{b a:α}{q:List α}(hn:b≠a)(f:Ch (Ad E) (b::(q++[a])))(l:Cl (Ad E) (b::(q++[a]))):(b::(q++[a])).Nodup:=by
 refine List.pairwise_iff_getElem.mpr λi j hi c p e=>?_;have g:∀ (k:Nat) (m:k < (b::(q++[a])).length),(b::(q++[a]))[k]? = some (b::(q++[a]))[k]:=λk m=>a0a m;by_cases h:j+1 < (b::(q++[a])).length;have:=bF4 f (g j c) (g (j+1) h);rw[← e]at this;exact bY2 l (g i hi) (g (j+1) h) (by lia) this;have d:j+1=(b::(q++[a])).length:=by lia
 by_cases h0:i=0
 ·subst h0;refine hn ?_;have o:(b::(q++[a]))[0]=b:=rfl;have n:(b::(q++[a]))[j]? = some a:=by
   have:j=q.length+1:=by simp at d;lia
   subst this;simp
  rw[g j c,← e,o]at n;exact a0b n
 ·have:=bF4 f (g (i-1) (by lia)) (by rw[show i-1+1=i by lia];exact g i hi);rw[e]at this;exact bY2 l (g (i-1) (by lia)) (g j c) (by lia) this
def rnd{x b a:α}{q:List α}(A:Tg E x b)(l:Tg E x a)(B:∀ c∈q,¬ Tg E x c)(C:x≠b)(m:x≠a)(D:x∉q)(hn:b≠a)(H:∀ z∈b::(q++[a]),Tg E z z)(F:¬ Tg E b a)(n:Ch (Ad E) (b::(q++[a])))(v:Cl (Ad E) (b::(q++[a]))):RingB E (x::b::(q++[a])):=by
 have nd:=cH5 hn n v;have G:q≠[]:=λz=>by subst z;exact F n.1.2
 have I:0 < q.length:=List.length_pos_iff.mpr G;have len:(x::b::(q++[a])).length=q.length+3:=by simp
 refine⟨a8e.mpr ⟨λh=>?_,nd⟩,by lia,λi j u w J g d=>?_⟩;rcases a4b.mp h with h | h;exact C h;rcases a3b.mp h with h | h;exact D h;exact m (a1b.mp h);rw[len];obtain⟨f,rfl⟩:∃ f,j=f+1:=⟨j-1,by lia⟩;rw[a2d]at d;have o:=(a2a.mp d).1;have y:f < q.length+2:=by simpa using o
 by_cases h0:i=0
 ·subst h0;cases g;by_cases p:f=0;subst p;cases d;exact⟨λ_=>.inl rfl,λ_=>A⟩;by_cases r:f=q.length+1
  ·subst r;have:w=a:=by
    have:(b::(q++[a]))[q.length+1]? = some a:=by simp
    rw[this]at d;exact(a0b d).symm
   subst this;exact⟨λ_=>.inr ⟨rfl,by lia⟩,λ_=>l⟩
  ·obtain⟨k,rfl⟩:∃ k,f=k+1:=⟨f-1,by lia⟩;rw[a2d,a2g (by lia)]at d;exact⟨λz=>absurd z (B w (a0c d)),λz=>by lia⟩
 ·obtain⟨s,rfl⟩:∃ s,i=s+1:=⟨i-1,by lia⟩;rw[a2d]at g;by_cases t:f=s+1;subst t;exact⟨λ_=>.inl rfl,λ_=>(bF4 n g d).2⟩;have:=bY2 v g d (by lia);refine⟨λz=>absurd ⟨λe=>?_,z⟩ this,λz=>by lia⟩;subst e;have:=(List.getElem?_inj (a2a.mp g).1 nd).mp (g.trans d.symm);lia
def Mn.round(h:Mn E S)(c:¬ Clq E S):∃ Z,RingB E Z/\∀ z,z∈Z↔z∈S:=by
 obtain⟨x,j,y,n,o⟩:∃ x∈S,∃ y∈S,¬ Tg E x y:=by
  unfold Clq at c;simp only[Classical.not_forall]at c;obtain⟨x,j,y,n,q⟩:=c;exact⟨x,j,y,n,q⟩
 let W:α->Prop:=λc=>c∈S/\¬ Tg E x c
 let R:α->Prop:=Rc (Ad E) W y
 let P:α->Prop:=λb=>b≠x/\Tg E x b/\∃ c,R c/\Tg E b c
 let B:List α:=S.filter λb=>decide (P b)
 have i:∀ {b},b∈B↔b∈S/\P b:=λ{b}=>by
  show b∈S.filter _↔_;rw[List.mem_filter,a3R]
 let D:List α:=S.filter λb=>decide (R b\/P b)
 have a:∀ {b},b∈D↔b∈S/\(R b\/P b):=λ{b}=>by
  show b∈S.filter _↔_;rw[List.mem_filter,a3R]
 have L:=h.self j;have u:∀ {c},R c->W c:=λr=>Rc.w r;have xD:x∉D:=λz=>by
  rcases(a.mp z).2 with r | r;exact(u r).2 L;exact r.1 rfl
 have aD:Acy E D:=h.sub (λz g=>(a.mp g).1) j xD;have yR:R y:=.refl ⟨n,o⟩;have C:¬ Clq E B:=λcB=>by
  obtain⟨d,hd,dB,e,he,q⟩:=aD.out cB (a.mpr ⟨n,.inl yR⟩) λz=>o (i.mp z).2.2.1;have v:R d:=by
   rcases(a.mp hd).2 with r | r;exact r;exact absurd (i.mpr ⟨(a.mp hd).1,r⟩) dB
  refine h.top (a.mp hd).1 ⟨e,he,λf M N w hw O=>q f M N w (a.mpr ⟨hw,?_⟩) O⟩;have k:Tg E d w:=⟨f,M,N,O⟩;by_cases Q:Tg E x w;refine .inr ⟨λz=>?_,Q,d,v,k.symm⟩;subst z;exact(u v).2 k.symm;by_cases T:d=w;rw[← T];exact .inl v;exact .inl (.step v ⟨T,k⟩ ⟨hw,Q⟩)
 obtain⟨b,hb,l,F,m⟩:∃ b∈B,∃ l∈B,¬ Tg E b l:=by
  unfold Clq at C;simp only[Classical.not_forall]at C;obtain⟨x,j,y,n,q⟩:=C;exact⟨x,j,y,n,q⟩
 obtain⟨U,bx,V,c,X,bc⟩:=i.mp hb;obtain⟨G,H,s,c',t,I⟩:=i.mp F;have nb:b≠l:=λz=>m (z ▸ h.self U);have ab:Ad E b c:=⟨λz=>(u X).2 (z ▸ V),bc⟩;have J:Ad E c' l:=⟨λz=>(u t).2 (z ▸ s),I.symm⟩;obtain⟨p,p1,p2⟩:=dB1 Ad.sy X t ab J;obtain⟨q,q1,K,q3⟩:=cH4 (A:=Ad E) (W:=W) (x:=b) (y:=l) (λz=>m z.2) p.length p (a7a _) p1 p2;have inS:∀ z∈b::(q++[l]),z∈S:=λz g=>by
  rcases a4b.mp g with e | g;rw[e];exact U;rcases a3b.mp g with g | g;exact(K z g).1;rw[a1b.mp g];exact G
 have Y:=rnd (E:=E) (x:=x) V s (λc hc=>(K c hc).2) (a3e bx) (a3e H) (λz=>(K x z).2 L) nb (λz g=>h.self (inS z g)) m q1 q3;refine⟨_,Y,λz=>⟨λg=>?_,λg=>?_⟩⟩;rcases a4b.mp g with e | g;rw[e];exact j;exact inS z g;by_cases hh:z∈x::b::(q++[l]);exact hh;refine absurd (h.sub (λw hw=>?_) g hh) Y.not;rcases a4b.mp hw with e | hw;rw[e];exact j;exact inS w hw
theorem dS6(c:E≠[]):∀ (n:Nat) (S:List α),S.length<=n->S.Nodup->¬ Acy E S->∃ T,T.Sublist S/\Mn E T
 | n,S,hn,nd,h=>by
   by_cases d:∃ v∈S,¬ Acy E (S.filter λx=>decide (x≠v))
   ·obtain⟨v,a,q⟩:=d;have sl:(S.filter λx=>decide (x≠v)).length < S.length:=by
     have b:=List.length_filter_le (λx=>decide (x≠v)) S;refine Nat.lt_of_le_of_ne b λe=>?_;have:=List.length_filter_eq_length_iff.mp e v a;exact absurd rfl (of_decide_eq_true this)
    match n with
    | 0=>lia
    | n+1=>
      obtain⟨T,f,g⟩:=dS6 c n _ (by lia) (nd.sublist List.filter_sublist) q;exact⟨T,f.trans List.filter_sublist,g⟩
   ·refine⟨S,List.Sublist.refl _,c,nd,h,λv a=>?_⟩;by_cases z:Acy E (S.filter λx=>decide (x≠v));exact z;exact absurd ⟨v,a,z⟩ d
def dB2(b:E≠[])(nd:S.Nodup)(h:¬ Acy E S):∃ T,T.Sublist S/\Mn E T/\(RingA E T\/∃ Z,RingB E Z/\∀ z,z∈Z↔z∈T):=by
 obtain⟨T,d,a⟩:=dS6 b S.length S (a7a _) nd h;refine⟨T,d,a,?_⟩;by_cases c:Clq E T;exact .inl (a.all c);exact .inr (a.round c)
end
end Hy
namespace Mr
open PySem Sx
noncomputable def inS(cs own:List Str):List Str:=cs.filter λc=>decide (c∈own)
noncomputable def gB(qs:List (Str×List Str))(cs:List Str):List (List Str):=qs.foldl (λacc q=>if inS cs q.2∈acc then acc else acc++[inS cs q.2]) []
noncomputable def bY3(a b:List Str):Bool:=!decide (a=b)&&a.all λc=>decide (c∈b)
noncomputable def cI(qs:List (Str×List Str))(cs:List Str):List (List Str):=(gB qs cs).filter λa=>!((gB qs cs).any λb=>bY3 a b)
noncomputable def abo(cs:List Str):List (List Str):=(List.range cs.length).map λi=>cs.take i++cs.drop (i+1)
noncomputable def nbr(cs:List Str):List (List Str):=((List.range (cs.length-1)).map λi=>(cs.drop i).take 2)++[[cs.getD 0 default,cs.getD (cs.length-1) default]]
def bQ{cs own:List Str}{c:Str}:c∈inS cs own↔c∈cs/\c∈own:=by
 unfold inS;rw[List.mem_filter,a3R]
def bF5{cs e f:List Str}(h:∀ c∈cs,c∈e↔c∈f):inS cs e=inS cs f:=List.filter_congr λc a=>decide_eq_decide.mpr (h c a)
def mX(qs:List (Str×List Str))(q:Str×List Str)(cs:List Str):gB (qs++[q]) cs=if inS cs q.2∈gB qs cs then gB qs cs else gB qs cs++[inS cs q.2]:=by
 unfold gB;rw[List.foldl_append];rfl
def dH(qs:List (Str×List Str))(cs:List Str):(gB qs cs).Nodup/\∀ x,x∈gB qs cs↔∃ q∈qs,x=inS cs q.2:=by
 have g:∀ n,∀ qs:List (Str×List Str),qs.length=n->(gB qs cs).Nodup/\∀ x,x∈gB qs cs↔∃ q∈qs,x=inS cs q.2:=by
  intro n
  induction n with
  | zero=>
    intro qs h;rw[List.length_eq_zero_iff.mp h];exact⟨.nil,λx=>by simp[gB]⟩
  | succ n o=>
    intro qs h;rcases List.eq_nil_or_concat qs with e | ⟨l,q,e⟩;rw[e]at h;cases h
    ·rw[List.concat_eq_append]at e;subst e;obtain⟨k,i⟩:=o l (by simpa using h);rw[mX];split;rename_i hm;refine⟨k,λx=>⟨λp=>?_,λ⟨c,j,e⟩=>?_⟩⟩;obtain⟨c,f,d⟩:=(i x).mp p;exact⟨c,a7d _ f,d⟩;rcases a3b.mp j with h | h;exact(i x).mpr ⟨c,h,e⟩;rw[a1b.mp h]at e;rw[e];exact hm
     ·rename_i hm;refine⟨List.nodup_append.mpr ⟨k,by simp,λa ha b m z=>hm (by rw[List.mem_singleton]at m;rw[← m,← z];exact ha)⟩,λx=>?_⟩;rw[a3b,i,a1b];constructor;rintro(⟨c,f,d⟩ | h);exact⟨c,a7d _ f,d⟩;exact⟨q,by simp,h⟩;rintro⟨c,f,d⟩;rcases a3b.mp f with h | h;exact .inl ⟨c,h,d⟩;rw[a1b.mp h]at d;exact .inr d
 exact g _ qs rfl
def zO(qs:List (Str×List Str))(cs:List Str):(gB qs cs).length<=qs.length:=by
 have a:∀ n,∀ qs:List (Str×List Str),qs.length=n->(gB qs cs).length<=n:=by
  intro n
  induction n with
  | zero=>intro qs h;rw[List.length_eq_zero_iff.mp h];exact a7a _
  | succ n b=>
    intro qs h;rcases List.eq_nil_or_concat qs with e | ⟨l,q,e⟩;rw[e]at h;cases h;rw[List.concat_eq_append]at e;subst e;have:=b l (by simpa using h);rw[mX];split;lia;rw[a8a,List.length_singleton];lia
 exact a _ qs rfl
def bF6{a b:List Str}:bY3 a b=true↔a≠b/\∀ c∈a,c∈b:=by
 unfold bY3;simp[List.all_eq_true]
def cE{qs:List (Str×List Str)}{cs a:List Str}:a∈cI qs cs↔a∈gB qs cs/\∀ b∈gB qs cs,(∀ c∈a,c∈b)->a=b:=by
 unfold cI;rw[List.mem_filter,Bool.not_eq_true',List.any_eq_false];refine and_congr_right λ_=>⟨λh b d f=>?_,λh b d z=>?_⟩;by_cases e:a=b;exact e;exact absurd (bF6.mpr ⟨e,f⟩) (h b d);obtain⟨g,i⟩:=bF6.mp z;exact g (h b d i)
def qT(qs:List (Str×List Str))(cs:List Str):(cI qs cs).Nodup:=(dH qs cs).1.sublist List.filter_sublist
def bK3(qs:List (Str×List Str))(cs:List Str):(cI qs cs).length<=qs.length:=a6c (List.length_filter_le _ _) (zO qs cs)
def qU{cs e f:List Str}(nd:cs.Nodup)(h:∀ c∈inS cs e,c∈inS cs f):(inS cs e).length<=(inS cs f).length:=nd_le (nd.sublist List.filter_sublist) h where
 nd_le {l m:List Str} (g:l.Nodup) (h:∀ x∈l,x∈m):l.length<=m.length:=by
  induction l generalizing m with
  | nil=>exact a0d _
  | cons x l i=>
    obtain⟨n1,n2⟩:=a8e.mp g;have:=i (m:=m.erase x) n2 λy d=>(List.mem_erase_of_ne (a:=y) (b:=x) (λz=>n1 (by rw[← z];exact d))).mpr (h y (a4a _ d));have e:=List.length_erase_of_mem (h x a3a);have p:0 < m.length:=List.length_pos_of_mem (h x a3a);rw[a6f];lia
theorem aR4{qs:List (Str×List Str)}{cs:List Str}(nd:cs.Nodup):∀ (n:Nat) (q:Str×List Str),q∈qs->cs.length-(inS cs q.2).length<=n->∃ a∈cI qs cs,∀ c∈inS cs q.2,c∈a
 | n,q,p,hn=>by
   have hm:inS cs q.2∈gB qs cs:=((dH qs cs).2 _).mpr ⟨q,p,rfl⟩;by_cases h:∀ b∈gB qs cs,(∀ c∈inS cs q.2,c∈b)->inS cs q.2=b;exact⟨_,cE.mpr ⟨hm,h⟩,λ_ h=>h⟩
   ·obtain⟨b,k,g,d⟩:∃ b∈gB qs cs,(∀ c∈inS cs q.2,c∈b)/\inS cs q.2≠b:=by
     apply a5d;intro z;exact h λb k g=>a5d λd=>z ⟨b,k,g,d⟩
    obtain⟨f,l,rfl⟩:=((dH qs cs).2 b).mp k;have u:(inS cs f.2).length<=cs.length:=List.length_filter_le _ _;have r:(inS cs q.2).length < (inS cs f.2).length:=by
     refine Nat.lt_of_le_of_ne (qU nd g) λe=>d ?_;refine bF5 λc j=>⟨λh=>(bQ.mp (g c (bQ.mpr ⟨j,h⟩))).2,λh=>?_⟩;apply a5d;intro z;have s:∀ x∈inS cs q.2,x∈(inS cs f.2).erase c:=λx o=>(List.mem_erase_of_ne (λe=>z (by rw[← e];exact(bQ.mp o).2))).mpr (g x o);have t:=qU.nd_le (nd.sublist List.filter_sublist) s;have i:c∈inS cs f.2:=bQ.mpr ⟨j,h⟩;rw[List.length_erase_of_mem i]at t;have:0 < (inS cs f.2).length:=List.length_pos_of_mem i;have v:(inS cs q.2).length=(inS cs f.2).length:=e;unfold inS at *;lia
    match n with
    | 0=>lia
    | n+1=>
      obtain⟨a,ha,m⟩:=aR4 nd n f l (by lia);exact⟨a,ha,λc j=>m c (g c j)⟩
def aJ1{cs a:List Str}(nd:cs.Nodup):a∈abo cs↔∃ u∈cs,a=cs.filter λc=>decide (c≠u):=by
 have b:∀ (i:Nat) (hi:i < cs.length),cs.take i++cs.drop (i+1)=cs.filter λc=>decide (c≠cs[i]):=λi hi=>by
  have e:cs=cs.take i++cs[i]::cs.drop (i+1):=by rw[← List.drop_eq_getElem_cons hi,List.take_append_drop]
  have d:=nd;rw[e]at d;obtain⟨n1,n2,n3⟩:=List.nodup_append.mp d;generalize j:cs[i]=x at *
  conv=>rhs;rw[e]
  rw[List.filter_append,List.filter_cons_of_neg (by simp),List.filter_eq_self.mpr,List.filter_eq_self.mpr];intro c g;exact a3T λz=>(a8e.mp n2).1 (by rw[← z];exact g);intro c g;exact a3T λz=>n3 c g x a3a z
 unfold abo;rw[a2c];constructor;rintro⟨i,hi,rfl⟩;have f:=a8c.mp hi;exact⟨cs[i],a5b f,b i f⟩;rintro⟨u,h,rfl⟩;obtain⟨i,hi,rfl⟩:=a9d h;exact⟨i,a8c.mpr hi,b i hi⟩
def zP{cs a:List Str}(n2:2<=cs.length):a∈nbr cs↔∃ i j x y,i < j/\cs[i]? = some x/\cs[j]? = some y/\(j=i+1\/i=0/\j+1=cs.length)/\a=[x,y]:=by
 have two:∀ i (hi:i+1 < cs.length),(cs.drop i).take 2=[cs[i],cs[i+1]]:=λi hi=>by
  rw[List.drop_eq_getElem_cons (by lia),List.drop_eq_getElem_cons hi];rfl
 unfold nbr;rw[a3b,a2c,a1b];constructor;rintro(⟨i,hi,rfl⟩ | rfl);have b:=a8c.mp hi;exact⟨i,i+1,cs[i],cs[i+1],by lia,a0a (by lia),a0a (by lia),.inl rfl,two i (by lia)⟩;refine⟨0,cs.length-1,cs[0],cs[cs.length-1],by lia,a0a (by lia),a0a (by lia),.inr ⟨rfl,by lia⟩,?_⟩;rw[a6a,a6a,a0a (by lia),a0a (by lia)];rfl;rintro⟨i,j,x,y,f,c,d,h,rfl⟩;obtain⟨hi,rfl⟩:=a2a.mp c;obtain⟨e,rfl⟩:=a2a.mp d;rcases h with rfl | ⟨rfl,h⟩;exact .inl ⟨i,a8c.mpr (by lia),two i e⟩;refine .inr ?_;have:j=cs.length-1:=by lia
 subst this;rw[a6a,a6a,a0a (by lia),a0a (by lia)];rfl
open Hy
noncomputable abbrev edg(qs:List (Str×List Str)):List (List Str):=qs.map Prod.snd
def dM{qs:List (Str×List Str)}{e:List Str}:e∈edg qs↔∃ q∈qs,q.2=e:=a2c
open Classical in
noncomputable def isR(qs:List (Str×List Str))(cs:List Str):Bool:=decide (3<=cs.length)&&(decide cs.Nodup&&(decide (sX (cI qs cs)=sX (abo cs))||decide (sX (cI qs cs)=sX (nbr cs))))
def cQ4{a b:List (List Str)}(h:sX a=sX b):∀ x,x∈a↔x∈b:=λx=>by
 rw[← (bV0 a).1.mem_iff,h,(bV0 b).1.mem_iff]
def bY4{a b:List (List Str)}(ha:a.Nodup)(c:b.Nodup)(h:∀ x,x∈a↔x∈b):sX a=sX b:=aX4 ((List.perm_ext_iff_of_nodup ha c).mpr h)
def zQ{qs:List (Str×List Str)}{cs:List Str}(h:isR qs cs=true):3<=cs.length/\cs.Nodup/\((∀ x,x∈cI qs cs↔x∈abo cs)\/∀ x,x∈cI qs cs↔x∈nbr cs):=by
 unfold isR at h;simp only[Bool.and_eq_true,Bool.or_eq_true,decide_eq_true_eq]at h;exact⟨h.1,h.2.1,h.2.2.imp cQ4 cQ4⟩
def lQ{cs:List Str}(nd:cs.Nodup){i j:Nat}{x y:Str}(a:cs[i]? = some x)(b:cs[j]? = some y)(n:i≠j):x≠y:=λe=>by
 subst e;exact n ((List.getElem?_inj (a2a.mp a).1 nd).mp (a.trans b.symm))
def bY5{qs:List (Str×List Str)}{cs a:List Str}(h:a∈cI qs cs){x y:Str}(b:x∈a)(c:y∈a):Tg (edg qs) x y:=by
 obtain⟨q,d,rfl⟩:=((dH qs cs).2 a).mp (cE.mp h).1;exact⟨q.2,dM.mpr ⟨q,d,rfl⟩,(bQ.mp b).2,(bQ.mp c).2⟩
def aY8{qs:List (Str×List Str)}{cs:List Str}(h:isR qs cs=true):¬ Acy (edg qs) cs/\∀ c∈cs,∃ q∈qs,c∈q.2:=by
 obtain⟨n3,nd,hw⟩:=zQ h;have g:∀ (j:Nat) (l:j < cs.length),cs[j]? = some cs[j]:=λj l=>a0a l
 -- L a set has of F bY3 in a cI one
 have within:∀ e∈edg qs,∃ a∈cI qs cs,∀ c∈cs,c∈e->c∈a:=λe t=>by
  obtain⟨q,n,rfl⟩:=dM.mp t;obtain⟨a,ha,s⟩:=aR4 nd cs.length q n (Nat.sub_le _ _);exact⟨a,ha,λc r n=>s c (bQ.mpr ⟨r,n⟩)⟩
 rcases hw with hw | hw
 ·have o:∀ x∈cs,∀ y∈cs,∃ u∈cs,u≠x/\u≠y:=λx _ y _=>by
   have M:=lQ nd (g 0 (by lia)) (g 1 (by lia)) (by decide);have N:=lQ nd (g 0 (by lia)) (g 2 (by lia)) (by decide);have O:=lQ nd (g 1 (by lia)) (g 2 (by lia)) (by decide);by_cases p:cs[0]≠x/\cs[0]≠y;exact⟨_,a5b _,p⟩;by_cases G:cs[1]≠x/\cs[1]≠y;exact⟨_,a5b _,G⟩;refine⟨cs[2],a5b _,λe=>?_,λe=>?_⟩;by_cases w:cs[0]=y;exact G ⟨λz=>O (z.trans e.symm),λz=>M (w.trans z.symm)⟩;exact p ⟨λz=>N (z.trans e.symm),w⟩;by_cases w:cs[0]=x;exact G ⟨λz=>M (w.trans z.symm),λz=>O (z.trans e.symm)⟩;exact p ⟨w,λz=>N (z.trans e.symm)⟩
  have tg:∀ x∈cs,∀ y∈cs,Tg (edg qs) x y:=λx C y D=>by
   obtain⟨u,E,P,Q⟩:=o x C y D;have ha:=(hw _).mpr ((aJ1 nd).mpr ⟨u,E,rfl⟩);exact bY5 ha (List.mem_filter.mpr ⟨C,a3T (a3e P)⟩) (List.mem_filter.mpr ⟨D,a3T (a3e Q)⟩)
  refine⟨λa=>?_,λc r=>?_⟩;obtain⟨f,m,_⟩:=tg cs[0] (a5b _) cs[0] (a5b _);obtain⟨e,t,q⟩:=a.conf (List.ne_nil_of_mem m) (λ_ h=>h) tg;obtain⟨b,H,s⟩:=within e t;obtain⟨u,E,rfl⟩:=(aJ1 nd).mp ((hw b).mp H);exact of_decide_eq_true (List.mem_filter.mp (s u E (q u E))).2 rfl;obtain⟨f,m,p,_⟩:=tg c r c r;obtain⟨q,n,rfl⟩:=dM.mp m;exact⟨q,n,p⟩
 ·have d:∀ (i j:Nat) x y,i < j->cs[i]? = some x->cs[j]? = some y->(j=i+1\/i=0/\j+1=cs.length)->Tg (edg qs) x y:=λi j x y R C D h=>by
   have ha:=(hw [x,y]).mpr ((zP (by lia)).mpr ⟨i,j,x,y,R,C,D,h,rfl⟩);exact bY5 ha (by simp) (by simp)
  -- each one has two neighbours
  have two:∀ (i:Nat) (hi:i < cs.length),∃ j k,∃ (l:j < cs.length) (A:k < cs.length),j≠k/\j≠i/\k≠i/\Tg (edg qs) cs[i] cs[j]/\Tg (edg qs) cs[i] cs[k]:=λi hi=>by
   by_cases h0:i=0;subst h0;exact⟨1,cs.length-1,by lia,by lia,by lia,by lia,by lia,d 0 1 _ _ (by lia) (g _ _) (g _ _) (.inl rfl),d 0 (cs.length-1) _ _ (by lia) (g _ _) (g _ _) (.inr ⟨rfl,by lia⟩)⟩;by_cases p:i+1=cs.length;exact⟨i-1,0,by lia,by lia,by lia,by lia,by lia,(d (i-1) i _ _ (by lia) (g _ _) (g _ _) (.inl (by lia))).symm,(d 0 i _ _ (by lia) (g _ _) (g _ _) (.inr ⟨rfl,p⟩)).symm⟩;exact⟨i-1,i+1,by lia,by lia,by lia,by lia,by lia,(d (i-1) i _ _ (by lia) (g _ _) (g _ _) (.inl (by lia))).symm,d i (i+1) _ _ (by lia) (g _ _) (g _ _) (.inl rfl)⟩
  refine⟨λa=>?_,λc r=>?_⟩
  ·obtain⟨v,S,e,t,q⟩:=a.top (λz=>by rw[z]at n3;simp at n3);obtain⟨i,hi,rfl⟩:=a9d S;obtain⟨j,k,l,A,T,U,V,⟨f,m,B,W⟩,⟨X,I,J,K⟩⟩:=two i hi;have Y:=q f m B _ (a5b l) W;have Z:=q X I J _ (a5b A) K;have m3:=q f m B _ (a5b hi) B;obtain⟨b,H,s⟩:=within e t;obtain⟨_,_,x,y,_,_,_,_,rfl⟩:=(zP (by lia)).mp ((hw b).mp H);have s1:=s _ (a5b l) Y;have s2:=s _ (a5b A) Z;have s3:=s _ (a5b hi) m3;have d1:=lQ nd (g j l) (g k A) T;have d2:=lQ nd (g j l) (g i hi) U;have d3:=lQ nd (g k A) (g i hi) V;simp only[List.mem_cons,List.not_mem_nil,or_false]at s1 s2 s3;rcases s1 with s1 | s1<;>rcases s2 with s2 | s2<;>rcases s3 with s3 | s3<;>first
    | exact d1 (s1.trans s2.symm)
    | exact d2 (s1.trans s3.symm)
    | exact d3 (s2.trans s3.symm)
  ·obtain⟨i,hi,rfl⟩:=a9d r;obtain⟨j,k,_,_,_,_,_,⟨f,m,B,_⟩,_⟩:=two i hi;obtain⟨q,n,rfl⟩:=dM.mp m;exact⟨q,n,B⟩
def dS7{cs:List Str}(nd:cs.Nodup):(abo cs).Nodup:=by
 unfold abo;refine List.pairwise_map.mpr ((List.nodup_range).imp_of_mem λ{i j} hi d n e=>n ?_);have a:=a8c.mp hi;have f:=a8c.mp d;apply a5d;intro z;have g:cs[i]∉cs.take i++cs.drop (i+1):=λh=>by
  have e:cs=cs.take i++cs[i]::cs.drop (i+1):=by rw[← List.drop_eq_getElem_cons a,List.take_append_drop]
  have b:=nd;rw[e]at b;obtain⟨n1,n2,n3⟩:=List.nodup_append.mp b;rcases a3b.mp h with h | h;exact n3 _ h _ a3a rfl;exact(a8e.mp n2).1 h
 have c:cs[i]∈cs.take j++cs.drop (j+1):=by
  rcases Nat.lt_or_ge i j with h | h;exact a7d _ (a0c (i:=i) (by rw[List.getElem?_take_of_lt h];exact a0a a));refine a9b _ (a0c (i:=i-(j+1)) ?_);rw[List.getElem?_drop,show j+1+(i-(j+1))=i by lia];exact a0a a
 rw[← e]at c;exact g c
def dS8{cs:List Str}(nd:cs.Nodup)(n3:3<=cs.length):(nbr cs).Nodup:=by
 have g:∀ (j:Nat) (c:j < cs.length),cs[j]? = some cs[j]:=λj c=>a0a c;have two:∀ i (hi:i+1 < cs.length),(cs.drop i).take 2=[cs[i],cs[i+1]]:=λi hi=>by
  rw[List.drop_eq_getElem_cons (by lia),List.drop_eq_getElem_cons hi];rfl
 unfold nbr;refine List.nodup_append.mpr ⟨List.pairwise_map.mpr ((List.nodup_range).imp_of_mem λ{i j} hi c n e=>n ?_),by simp,λa ha b m e=>?_⟩
 ·obtain⟨i,hi,rfl⟩:=a2c.mp ha;have d:=a8c.mp hi;rw[a1b.mp m,two i (by lia),a6a,a6a,g 0 (by lia),g (cs.length-1) (by lia)]at e;injection e with f h
  injection h with h _
  have k:cs[i]=cs[0]:=f;have l:cs[i+1]=cs[cs.length-1]:=h;by_cases h0:i=0;subst h0;exact lQ nd (g 1 (by lia)) (g (cs.length-1) (by lia)) (by lia) l;exact lQ nd (g i (by lia)) (g 0 (by lia)) h0 k
 ·have d:=a8c.mp hi;have o:=a8c.mp c;rw[two i (by lia),two j (by lia)]at e;injection e with f _
  apply a5d;intro z;exact lQ nd (g i (by lia)) (g j (by lia)) z f
def bY6{qs:List (Str×List Str)}{cs:List Str}(h:RingA (edg qs) cs):isR qs cs=true:=by
 have g:∀ x,x∈cI qs cs↔x∈abo cs:=λx=>by
  rw[aJ1 h.nd];have k:∀ u∈cs,(cs.filter λc=>decide (c≠u))∈cI qs cs:=λu f=>by
   obtain⟨e,r,q⟩:=h.one u f;obtain⟨t,i,rfl⟩:=dM.mp r;have s:(cs.filter λc=>decide (c≠u))=inS cs t.2:=List.filter_congr λc a=>decide_eq_decide.mpr (q c a).symm;rw[s];refine cE.mpr ⟨((dH qs cs).2 _).mpr ⟨t,i,rfl⟩,λb v l=>?_⟩;obtain⟨m,j,rfl⟩:=((dH qs cs).2 b).mp v;refine bF5 λc a=>⟨λd=>(bQ.mp (l c (bQ.mpr ⟨a,d⟩))).2,λd=>?_⟩;rw[q c a];intro z;subst z;obtain⟨w,o,y⟩:=h.no m.2 (dM.mpr ⟨m,j,rfl⟩);refine y ?_;by_cases p:w=c;rw[p];exact d;exact(bQ.mp (l w (bQ.mpr ⟨o,(q w o).mpr p⟩))).2
  constructor;intro A;obtain⟨B,C⟩:=cE.mp A;obtain⟨t,i,rfl⟩:=((dH qs cs).2 x).mp B;obtain⟨u,f,D⟩:=h.no t.2 (dM.mpr ⟨t,i,rfl⟩);exact⟨u,f,C _ (cE.mp (k u f)).1 λc a=>List.mem_filter.mpr ⟨(bQ.mp a).1,a3T λz=>D (by rw[← z];exact(bQ.mp a).2)⟩⟩;rintro⟨u,f,rfl⟩;exact k u f
 unfold isR;rw[a3T h.n,a3T h.nd,a3T (bY4 (qT qs cs) (dS7 h.nd) g)];rfl
def bY7{qs:List (Str×List Str)}{cs:List Str}(h:RingB (edg qs) cs):isR qs cs=true:=by
 have hn:=h.n;have nd:=h.nd;have g:∀ (j:Nat) (f:j < cs.length),cs[j]? = some cs[j]:=λj f=>a0a f;have T:=λ(i j:Nat) (hi:i < cs.length) (f:j < cs.length) (l:i < j)=>h.tg i j _ _ l (g i hi) (g j f)
 -- three never I in one
 have v:∀ (i j k:Nat) (hi:i < cs.length) (f:j < cs.length) (s:k < cs.length),i < j->j < k->∀ e∈edg qs,cs[i]∈e->cs[j]∈e->cs[k]∈e->False:=λi j k hi f s l Z e t o p V=>by
  have a1:=(T i j hi f l).mp ⟨e,t,o,p⟩;have a2:=(T j k f s Z).mp ⟨e,t,p,V⟩;have a3:=(T i k hi s (by lia)).mp ⟨e,t,o,V⟩;lia
 have two:∀ (i j:Nat) (hi:i < cs.length) (f:j < cs.length),i < j->∀ q∈qs,cs[i]∈q.2->cs[j]∈q.2->inS cs q.2=[cs[i],cs[j]]:=λi j hi f l q u o p=>by
  have F:∀ c∈inS cs q.2,c=cs[i]\/c=cs[j]:=λc r=>by
   obtain⟨C,w⟩:=bQ.mp r;obtain⟨k,s,rfl⟩:=a9d C;have t:q.2∈edg qs:=dM.mpr ⟨q,u,rfl⟩;by_cases J:k=i;subst J;exact .inl rfl;by_cases e2:k=j;subst e2;exact .inr rfl;exfalso;rcases Nat.lt_or_ge k i with h | h;exact v k i j s hi f h l q.2 t w o p;rcases Nat.lt_or_ge k j with h' | h';exact v i k j hi s f (by lia) h' q.2 t o w p;exact v i j k hi f s l (by lia) q.2 t o p w
  have J:inS cs q.2=cs.filter λc=>decide (c=cs[i]\/c=cs[j]):=List.filter_congr λc r=>decide_eq_decide.mpr ⟨λhm=>F c (bQ.mpr ⟨r,hm⟩),λz=>by
   rcases z with z | z<;>rw[z];exact o;exact p⟩
  rw[J];have e:cs=cs.take i++cs[i]::((cs.drop (i+1)).take (j-i-1)++cs[j]::cs.drop (j+1)):=by
   have C:cs=cs.take i++cs[i]::cs.drop (i+1):=by rw[← List.drop_eq_getElem_cons hi,List.take_append_drop]
   have K:j-i-1 < (cs.drop (i+1)).length:=by rw[a1f];lia
   have h3:(cs.drop (i+1))[j-i-1]=cs[j]:=by rw[List.getElem_drop];congr 1;lia
   have h4:(cs.drop (i+1)).drop (j-i-1+1)=cs.drop (j+1):=by rw[List.drop_drop];congr 1;lia
   have w:cs.drop (i+1)=(cs.drop (i+1)).take (j-i-1)++cs[j]::cs.drop (j+1):=by
    conv=>lhs;rw[← List.take_append_drop (j-i-1) (cs.drop (i+1)),List.drop_eq_getElem_cons K,h3,h4]
   conv=>lhs;rw[C,w]
  have D:=nd;rw[e]at D;obtain⟨_,n2,n3⟩:=List.nodup_append.mp D;obtain⟨W,n5⟩:=a8e.mp n2;obtain⟨_,n6,n7⟩:=List.nodup_append.mp n5;have n8:=(a8e.mp n6).1;generalize G:cs[i]=x at *;generalize X:cs[j]=y at *
  conv=>lhs;rw[e]
  have f0:(cs.take i).filter (λc=>decide (c=x\/c=y))=[]:=List.filter_eq_nil_iff.mpr λc r z=>by
   rcases of_decide_eq_true z with z | z;exact n3 c r x (by simp) z;exact n3 c r y (by simp) z
  have f1:((cs.drop (i+1)).take (j-i-1)).filter (λc=>decide (c=x\/c=y))=[]:=List.filter_eq_nil_iff.mpr λc r z=>by
   rcases of_decide_eq_true z with z | z;exact W (by rw[← z];exact a7d _ r);exact n7 c r y (by simp) z
  have f2:(cs.drop (j+1)).filter (λc=>decide (c=x\/c=y))=[]:=List.filter_eq_nil_iff.mpr λc r z=>by
   rcases of_decide_eq_true z with z | z;exact W (by rw[← z];exact a9b _ (a4a _ r));exact n8 (by rw[← z];exact r)
  rw[List.filter_append,f0,List.filter_cons_of_pos (by simp),List.filter_append,f1,List.filter_cons_of_pos (by simp),f2];rfl
 have E:∀ (i j:Nat) (hi:i < cs.length) (f:j < cs.length),i < j->(j=i+1\/i=0/\j+1=cs.length)->[cs[i],cs[j]]∈cI qs cs:=λi j hi f l L=>by
  obtain⟨e,t,o,p⟩:=(T i j hi f l).mpr L;obtain⟨q,u,rfl⟩:=dM.mp t;rw[← two i j hi f l q u o p];refine cE.mpr ⟨((dH qs cs).2 _).mpr ⟨q,u,rfl⟩,λb hb F=>?_⟩;obtain⟨q',M,rfl⟩:=((dH qs cs).2 b).mp hb;have k1:=(bQ.mp (F _ (bQ.mpr ⟨a5b hi,o⟩))).2;have k2:=(bQ.mp (F _ (bQ.mpr ⟨a5b f,p⟩))).2;rw[two i j hi f l q u o p,two i j hi f l q' M k1 k2]
 have N:∀ x,x∈cI qs cs↔x∈nbr cs:=λx=>by
  rw[zP (by lia)];constructor
  ·intro G;obtain⟨C,w⟩:=cE.mp G;obtain⟨q,u,rfl⟩:=((dH qs cs).2 x).mp C
   -- a A of one in it
   have nb:∀ (i:Nat) (hi:i < cs.length),∃ a∈cI qs cs,cs[i]∈a:=λi hi=>by
    by_cases O:i+1=cs.length;exact⟨_,E 0 i (by lia) hi (by lia) (.inr ⟨rfl,O⟩),by simp⟩;exact⟨_,E i (i+1) hi (by lia) (by lia) (.inl rfl),by simp⟩
   have dM4:∀ a∈cI qs cs,∀ c∈a,(∀ d∈inS cs q.2,d=c)->inS cs q.2=a:=λa ha c r hd=>w a (cE.mp ha).1 λd P=>by rw[hd d P];exact r
   by_cases Q:∃ i j,∃ (hi:i < cs.length) (f:j < cs.length),i < j/\cs[i]∈q.2/\cs[j]∈q.2;obtain⟨i,j,hi,f,l,o,p⟩:=Q;exact⟨i,j,_,_,l,g i hi,g j f,(T i j hi f l).mp ⟨q.2,dM.mpr ⟨q,u,rfl⟩,o,p⟩,two i j hi f l q u o p⟩;have one:∃ (i:Nat) (hi:i < cs.length),∀ d∈inS cs q.2,d=cs[i]:=by
    by_cases h0:∃ (i:Nat) (hi:i < cs.length),cs[i]∈q.2;obtain⟨i,hi,m⟩:=h0;refine⟨i,hi,λd hd=>?_⟩;obtain⟨R,H⟩:=bQ.mp hd;obtain⟨k,s,rfl⟩:=a9d R;rcases Nat.lt_trichotomy i k with z | z | z;exact absurd ⟨i,k,hi,s,z,m,H⟩ Q;subst z;rfl;exact absurd ⟨k,i,s,hi,z,H,m⟩ Q;refine⟨0,by lia,λd hd=>?_⟩;obtain⟨R,H⟩:=bQ.mp hd;obtain⟨k,s,rfl⟩:=a9d R;exact absurd ⟨k,s,H⟩ h0
   obtain⟨i,hi,hd⟩:=one
   -- then a pair with Y one is S
   obtain⟨a,ha,U⟩:=nb i hi;have ea:=dM4 a ha _ U hd;exfalso;by_cases O:i+1=cs.length;have B:=E 0 i (by lia) hi (by lia) (.inr ⟨rfl,O⟩);have:=dM4 _ B cs[i] (by simp) hd;have:=hd cs[0] (by rw[this];simp);exact lQ nd (g 0 (by lia)) (g i hi) (by lia) this;have B:=E i (i+1) hi (by lia) (by lia) (.inl rfl);have:=dM4 _ B cs[i] (by simp) hd;have:=hd cs[i+1] (by rw[this];simp);exact lQ nd (g (i+1) (by lia)) (g i hi) (by lia) this
  ·rintro⟨i,j,x,y,l,G,X,L,rfl⟩;obtain⟨hi,rfl⟩:=a2a.mp G;obtain⟨f,rfl⟩:=a2a.mp X;exact E i j hi f l L
 unfold isR;rw[a3T (show 3<=cs.length by lia),a3T nd,a3T (bY4 (qT qs cs) (dS8 nd (by lia)) N),Bool.or_true];rfl
end Mr
namespace Hy
open Classical
section
variable{α:Type}{E:List (List α)}{T Z W:List α}
structure Rn(E:List (List α))(T:List α):Prop where
 few:∀ z∈T,∀ x∈T,∀ y∈T,∀ w∈T,x≠z->y≠z->w≠z->Tg E z x->Tg E z y->Tg E z w->x≠y->w=x\/w=y
 two:∀ z∈T,∀ x∈T,∃ y∈T,y≠z/\y≠x/\Tg E z y
 all:∀ P:α->Prop,(∃ z∈T,P z)->(∀ z∈T,∀ w∈T,P z->w≠z->Tg E z w->P w)->∀ z∈T,P z
def RingB.ad(h:RingB E Z){i j:Nat}(hi:i < Z.length)(b:j < Z.length)(n:i≠j):Tg E Z[i] Z[j]↔(j=i+1\/i=j+1\/i=0/\j+1=Z.length\/j=0/\i+1=Z.length):=by
 have g:∀ (j:Nat) (b:j < Z.length),Z[j]? = some Z[j]:=λj b=>a0a b;rcases Nat.lt_or_ge i j with c | c
 ·rw[h.tg i j _ _ c (g i hi) (g j b)];constructor;rintro(a | a);exact .inl a;exact .inr (.inr (.inl a));intro a;lia
 ·have:=h.tg j i _ _ (by lia) (g j b) (g i hi);rw[show Tg E Z[i] Z[j]↔Tg E Z[j] Z[i]from⟨Tg.symm,Tg.symm⟩,this];constructor;rintro(a | a);exact .inr (.inl a);exact .inr (.inr (.inr a));intro a;lia
theorem RingB.ne(h:RingB E Z){i j:Nat}(hi:i < Z.length)(a:j < Z.length):Z[i]=Z[j]↔i=j:=⟨λe=>(List.getElem?_inj hi h.nd).mp (by rw[a0a hi,a0a a,e]),λe=>by subst e;rfl⟩
def RingB.rn(h:RingB E Z)(m:∀ z,z∈Z↔z∈T):Rn E T:=by
 have hn:=h.n;have d:∀ z∈T,∃ (i:Nat) (hi:i < Z.length),Z[i]=z:=λz l=>a9d ((m z).mpr l);have mem:∀ (i:Nat) (hi:i < Z.length),Z[i]∈T:=λi hi=>(m _).mp (a5b hi);refine⟨λz l x q y C w r t u v D F G H=>?_,λz l x q=>?_,λP I o=>?_⟩;obtain⟨i,hi,rfl⟩:=d z l;obtain⟨a,ha,rfl⟩:=d x q;obtain⟨b,J,rfl⟩:=d y C;obtain⟨c,o,rfl⟩:=d w r;rw[Ne,h.ne]at t u v H;rw[h.ad hi ha (a3e t)]at D;rw[h.ad hi J (a3e u)]at F;rw[h.ad hi o (a3e v)]at G;rw[h.ne,h.ne];lia
 ·obtain⟨i,hi,rfl⟩:=d z l;obtain⟨a,ha,rfl⟩:=d x q;have f:∀ (j:Nat) (p:j < Z.length),j≠i->j≠a->(j=i+1\/i=j+1\/i=0/\j+1=Z.length\/j=0/\i+1=Z.length)->∃ y∈T,y≠Z[i]/\y≠Z[a]/\Tg E Z[i] y:=λj p A K L=>
   ⟨Z[j],mem j p,λe=>A ((h.ne p hi).mp e),λe=>K ((h.ne p ha).mp e),(h.ad hi p (a3e A)).mpr L⟩
  by_cases h0:i=0;by_cases B:a=1;exact f (Z.length-1) (by lia) (by lia) (by lia) (by lia);exact f 1 (by lia) (by lia) (by lia) (by lia);by_cases O:i+1=Z.length;by_cases B:a=0;exact f (i-1) (by lia) (by lia) (by lia) (by lia);exact f 0 (by lia) (by lia) (by lia) (by lia);by_cases B:a=i+1;exact f (i-1) (by lia) (by lia) (by lia) (by lia);exact f (i+1) (by lia) (by lia) (by lia) (by lia)
 ·obtain⟨z,l,M⟩:=I;obtain⟨i,hi,rfl⟩:=d z l;have up:∀ k (g:i+k < Z.length),P Z[i+k]:=by
   intro k
   induction k with
   | zero=>intro g;exact M
   | succ k s=>
     intro g;exact o Z[i+k] (mem _ _) Z[i+(k+1)] (mem _ _) (s (by lia)) (λe=>by have:=(h.ne g (by lia)).mp e;lia) ((h.ad (by lia) g (by lia)).mpr (.inl (by lia)))
  have N:P Z[0]:=by
   have:=up (Z.length-1-i) (by lia);have e:i+(Z.length-1-i)=Z.length-1:=by lia
   simp only[e]at this;exact o Z[Z.length-1] (mem _ _) Z[0] (mem _ _) this (λe=>by have:=(h.ne (by lia) (by lia)).mp e;lia) ((h.ad (by lia) (by lia) (by lia)).mpr (.inr (.inr (.inr ⟨rfl,by lia⟩))))
  have all:∀ k (g:k < Z.length),P Z[k]:=by
   intro k
   induction k with
   | zero=>intro g;exact N
   | succ k s=>
     intro g;exact o Z[k] (mem _ _) Z[k+1] (mem _ _) (s (by lia)) (λe=>by have:=(h.ne g (by lia)).mp e;lia) ((h.ad (by lia) g (by lia)).mpr (.inl rfl))
  intro w r;obtain⟨k,g,rfl⟩:=d w r;exact all k g
structure Wy(E:List (List α))(T W:List α):Prop where
 nd:W.Nodup
 sub:∀ w∈W,w∈T
 ch:∀ (i:Nat) (h:i+1 < W.length),Tg E W[i] W[i+1]
theorem Wy.ne(h:Wy E T W){i j:Nat}(hi:i < W.length)(a:j < W.length):W[i]=W[j]↔i=j:=⟨λe=>(List.getElem?_inj hi h.nd).mp (by rw[a0a hi,a0a a,e]),λe=>by subst e;rfl⟩
def Wy.mid(h:Wy E T W)(r:Rn E T){i:Nat}(h0:0 < i)(hi:i+1 < W.length){w:α}(b:w∈T)(d:w≠W[i])(t:Tg E W[i] w):w=W[i-1]\/w=W[i+1]:=by
 have m:∀ (j:Nat) (a:j < W.length),W[j]∈T:=λj a=>h.sub _ (a5b a);have c:=h.ch (i-1) (by lia);have e:i-1+1=i:=by lia
 simp only[e]at c;refine r.few W[i] (m _ _) W[i-1] (m _ _) W[i+1] (m _ _) w b (λz=>by have:=(h.ne (by lia) (by lia)).mp z;lia) (λz=>by have:=(h.ne hi (by lia)).mp z;lia) d c.symm (h.ch i hi) t λz=>by have:=(h.ne (by lia) hi).mp z;lia
def Wy.on(h:Wy E T W)(r:Rn E T)(o:0 < W.length)(out:∃ z∈T,z∉W):∃ c∈T,c∉W/\Tg E (W[W.length-1]'(by lia)) c:=by
 apply a5d;intro st;have m:∀ (j:Nat) (f:j < W.length),W[j]∈T:=λj f=>h.sub _ (a5b f);have b:∀ w∈T,Tg E (W[W.length-1]'(by lia)) w->w∈W:=λw e t=>a5d λz=>st ⟨w,e,z,t⟩;obtain⟨z,s,u⟩:=out;refine u (r.all (· ∈ W) ⟨W[0],m 0 o,a5b o⟩ (λa ha w e g p t=>?_) z s);obtain⟨i,hi,rfl⟩:=a9d g;by_cases D:i+1=W.length
 ·have:i=W.length-1:=by lia
  subst this;exact b w e t
 ·by_cases h0:i=0
  ·subst h0
   -- k b l other d is k first one
   have v:2<=W.length:=by lia
   obtain⟨y,x,A,B,ty⟩:=r.two (W[W.length-1]'(by lia)) (m _ _) (W[W.length-2]'(by lia)) (m _ _);have C:=b y x ty;obtain⟨j,f,rfl⟩:=a9d C;have q:j≠W.length-1:=λz=>A (by subst z;rfl);have F:j≠W.length-2:=λz=>B (by subst z;rfl);by_cases n:j=0;subst n;rcases r.few W[0] (m _ _) W[1] (m _ _) (W[W.length-1]'(by lia)) (m _ _) w e (λz=>by have:=(h.ne (by lia) (by lia)).mp z;lia) (λz=>q ((h.ne (by lia) (by lia)).mp z).symm) p (h.ch 0 (by lia)) ty.symm t (λz=>by have:=(h.ne (by lia) (by lia)).mp z;lia)with z | z;rw[z];exact a5b _;rw[z];exact a5b _;have:=h.mid r (i:=j) (by lia) (by lia) (m (W.length-1) (by lia)) (λz=>q ((h.ne (by lia) (by lia)).mp z).symm) ty.symm;rcases this with z | z;have:=(h.ne (by lia) (by lia)).mp z;lia;have:=(h.ne (by lia) (by lia)).mp z;lia
  ·rcases h.mid r (i:=i) (by lia) (by lia) e p t with z | z;rw[z];exact a5b _;rw[z];exact a5b _
def Wy.ring(h:Wy E T W)(r:Rn E T)(n:4<=W.length)(d:∀ z∈T,z∈W):RingB E W:=by
 have m:∀ (j:Nat) (a:j < W.length),W[j]∈T:=λj a=>h.sub _ (a5b a);refine⟨h.nd,n,λi j x y q e b=>?_⟩;obtain⟨hi,rfl⟩:=a2a.mp e;obtain⟨a,rfl⟩:=a2a.mp b;constructor
 ·intro t;by_cases f:j=i+1;exact .inl f;by_cases h0:i=0;subst h0;by_cases c:j+1=W.length;exact .inr ⟨rfl,c⟩;rcases h.mid r (i:=j) (by lia) (by lia) (m 0 hi) (λz=>by have:=(h.ne hi a).mp z;lia) t.symm with z | z;have:=(h.ne hi (by lia)).mp z;lia;have:=(h.ne hi (by lia)).mp z;lia;rcases h.mid r (i:=i) (by lia) (by lia) (m j a) (λz=>by have:=(h.ne a hi).mp z;lia) t with z | z;have:=(h.ne a (by lia)).mp z;lia;have:=(h.ne a (by lia)).mp z;lia
 ·rintro(rfl | ⟨rfl,c⟩);exact h.ch i a;obtain⟨y,b,g,l,ty⟩:=r.two W[0] (m _ _) W[1] (m _ _);obtain⟨k,o,rfl⟩:=a9d (d y b);have s:k≠0:=λz=>g (by subst z;rfl);have k1:k≠1:=λz=>l (by subst z;rfl);by_cases p:k+1=W.length
  ·have:k=j:=by lia
   subst this;exact ty
  ·rcases h.mid r (i:=k) (by lia) (by lia) (m 0 hi) (λz=>by have:=(h.ne hi o).mp z;lia) ty.symm with z | z;have:=(h.ne hi (by lia)).mp z;lia;have:=(h.ne hi (by lia)).mp z;lia
end
end Hy
namespace Mr
open PySem Sx Hy
noncomputable def aE4(qs:List (Str×List Str))(x y:Str):Bool:=qs.any λq=>decide (x∈q.2)&&decide (y∈q.2)
def aE5{qs:List (Str×List Str)}{x y:Str}:aE4 qs x y=true↔Tg (edg qs) x y:=by
 unfold aE4;rw[List.any_eq_true];constructor;rintro⟨q,a,h⟩;simp only[Bool.and_eq_true,decide_eq_true_eq]at h;exact⟨q.2,dM.mpr ⟨q,a,rfl⟩,h.1,h.2⟩;rintro⟨e,he,b,c⟩;obtain⟨q,a,rfl⟩:=dM.mp he;exact⟨q,a,by simp[b,c]⟩
noncomputable def ahd(qs:List (Str×List Str))(cs way:List Str):List Str:=cs.filter λc=>!decide (c∈way)&&aE4 qs (way.getLast?.getD default) c
noncomputable def zR(qs:List (Str×List Str))(cs way:List Str):List Str:=way++(ahd qs cs way).take 1
noncomputable def wlk(qs:List (Str×List Str))(cs:List Str):List Str:=(cs.drop 1).foldl (λw _=>zR qs cs w) (cs.take 1)
def bY8{E:List (List Str)}{T W:List Str}(h:Wy E T W)(h0:0 < W.length){c:Str}(f:c∈T)(n:c∉W)(t:Tg E (W[W.length-1]'(by lia)) c):Wy E T (W++[c]):=by
 refine⟨List.nodup_append.mpr ⟨h.nd,by simp,λa ha b e z=>n (by rw[List.mem_singleton]at e;rw[← e,← z];exact ha)⟩,λw hw=>?_,λi hi=>?_⟩;rcases a3b.mp hw with hw | hw;exact h.sub w hw;rw[a1b.mp hw];exact f;rw[a8a,List.length_singleton]at hi;by_cases d:i+1 < W.length;rw[List.getElem_append_left (by lia),List.getElem_append_left d];exact h.ch i d;have:i=W.length-1:=by lia
 subst this;rw[List.getElem_append_left (by lia),List.getElem_append_right (by lia)];simp only[List.getElem_singleton];exact t
def bY9{E:List (List Str)}{T:List Str}(h:Mn E T):RingA E T\/∃ Z,RingB E Z/\∀ z,z∈Z↔z∈T:=by
 by_cases c:Clq E T;exact .inl (h.all c);exact .inr (h.round c)
def dS9{E:List (List Str)}{T W:List Str}(h:Mn E T)(w:Wy E T W)(h0:0 < W.length)(lt:W.length < T.length):∃ c∈T,c∉W/\Tg E (W[W.length-1]'(by lia)) c:=by
 have out:∃ z∈T,z∉W:=by
  apply a5d;intro z;have:=qU.nd_le h.nd (m:=W) λy b=>a5d λn=>z ⟨y,b,n⟩;lia
 rcases bY9 h with r | ⟨Z,d,m⟩;obtain⟨z,a,e⟩:=out;exact⟨z,a,e,r.clq _ (w.sub _ (a5b _)) z a⟩;exact w.on (d.rn m) h0 out
def cQ5{qs:List (Str×List Str)}{T W:List Str}(h:Mn (edg qs) T)(w:Wy (edg qs) T W)(l:W.length=T.length):isR qs W=true:=by
 have i:∀ z∈T,z∈W:=λz j=>by
  apply a5d;intro n;have o:=qU.nd_le w.nd (m:=T.erase z) λy k=>(List.mem_erase_of_ne (a:=y) (b:=z) (λe=>n (by rw[← e];exact k))).mpr (w.sub y k);rw[List.length_erase_of_mem j]at o;have:=List.length_pos_of_mem j;lia
 rcases bY9 h with r | ⟨Z,c,m⟩;refine bY6 ⟨w.nd,by rw[l];exact r.n,λu d=>?_,λe f=>?_⟩;obtain⟨e,f,q⟩:=r.one u (w.sub u d);exact⟨e,f,λx g=>q x (w.sub x g)⟩;obtain⟨u,d,p⟩:=r.no e f;exact⟨u,i u d,p⟩;refine bY7 (w.ring (c.rn m) ?_ i);have:Z.length<=T.length:=qU.nd_le c.nd λx g=>(m x).mp g;have:=c.n;lia
def cQ6{qs:List (Str×List Str)}{T:List Str}(mn:Mn (edg qs) T):Wy (edg qs) T (wlk qs T)/\(wlk qs T).length=T.length:=by
 cases T with
 | nil=>exact⟨⟨.nil,(λ_ h=>nomatch h),(λi h=>absurd (show i+1 < 0 from h) (by lia))⟩,rfl⟩
 | cons t r=>
   have g:∀ (l:List Str) (W:List Str),Wy (edg qs) (t::r) W->0 < W.length->W.length+l.length<=(t::r).length->Wy (edg qs) (t::r) (l.foldl (λw _=>zR qs (t::r) w) W)/\(l.foldl (λw _=>zR qs (t::r) w) W).length=W.length+l.length:=by
    intro l
    induction l with
    | nil=>intro W h _ _;exact⟨h,rfl⟩
    | cons x l n=>
      intro W h h0 o;rw[a6f]at o;obtain⟨c,p,q,ct⟩:=dS9 mn h h0 (by lia);have j:W.getLast?.getD default=W[W.length-1]'(by lia):=by rw[List.getLast?_eq_getElem?,a0a (by lia)];rfl
      have k:c∈ahd qs (t::r) W:=by
       unfold ahd;rw[List.mem_filter,j];exact⟨p,by rw[aE5.mpr ct];simp[q]⟩
      obtain⟨f,m,e⟩:∃ f m,ahd qs (t::r) W=f::m:=by
       cases he:ahd qs (t::r) W with
       | nil=>rw[he]at k;cases k
       | cons a b=>exact⟨a,b,rfl⟩
      have d:f∈ahd qs (t::r) W:=by rw[e];exact a3a
      unfold ahd at d;rw[List.mem_filter,j]at d;obtain⟨k1,k2⟩:=d;simp only[Bool.and_eq_true,Bool.not_eq_true',decide_eq_false_iff_not]at k2;have s:zR qs (t::r) W=W++[f]:=by unfold zR;rw[e];rfl
      rw[List.foldl_cons,s];obtain⟨u,v⟩:=n (W++[f]) (bY8 h h0 k1 k2.1 (aE5.mp k2.2)) (by rw[a8a];lia) (by rw[a8a,List.length_singleton];lia);exact⟨u,by rw[v,a8a,List.length_singleton,a6f];lia⟩
   obtain⟨k1,k2⟩:=g r [t] ⟨by simp,λw y=>by rw[List.mem_singleton.mp y];exact a3a,λi h=>absurd h (by simp)⟩ (by simp) (by simp;lia);exact⟨k1,by show(r.foldl _ [t]).length=_;rw[k2];simp;lia⟩
def cH6{qs:List (Str×List Str)}{T:List Str}(h:Mn (edg qs) T):isR qs (wlk qs T)=true:=cQ5 h (cQ6 h).1 (cQ6 h).2
noncomputable def zU(cs:List Str):List (List Str):=cs.foldl (λps c=>ps++ps.map λa=>a++[c]) [[]]
def aR5(cs:List Str)(c:Str):zU (cs++[c])=zU cs++(zU cs).map λa=>a++[c]:=by unfold zU;rw[List.foldl_append];rfl
def aJ2(cs:List Str):(zU cs).length=2 ^ cs.length/\(∀ T,T.Sublist cs->T∈zU cs)/\∀ T∈zU cs,T.Sublist cs:=by
 have f:∀ n,∀ cs:List Str,cs.length=n->(zU cs).length=2 ^ n/\(∀ T,T.Sublist cs->T∈zU cs)/\∀ T∈zU cs,T.Sublist cs:=by
  intro n
  induction n with
  | zero=>
    intro cs h;rw[List.length_eq_zero_iff.mp h];refine⟨rfl,λT d=>?_,λT d=>?_⟩;rw[List.sublist_nil.mp d];exact a1b.mpr rfl;rw[a1b.mp d];exact List.Sublist.refl _
  | succ n k=>
    intro cs h;rcases List.eq_nil_or_concat cs with e | ⟨l,c,e⟩;rw[e]at h;cases h
    ·rw[List.concat_eq_append]at e;subst e;obtain⟨m,g,i⟩:=k l (by simpa using h);rw[aR5];refine⟨by rw[a8a,a1a,m,Nat.pow_succ];lia,λT d=>?_,λT d=>?_⟩
     ·obtain⟨a,b,rfl,j,o⟩:=List.sublist_append_iff.mp d;have p:b=[]\/b=[c]:=by
       cases o with
       | cons _ h=>exact .inl (List.sublist_nil.mp h)
       | cons_cons _ h=>right;rw[List.sublist_nil.mp h]
      rcases p with rfl | rfl;rw[a3g];exact a7d _ (g a j);exact a9b _ (a2c.mpr ⟨a,g a j,rfl⟩)
     ·rcases a3b.mp d with d | d;exact(i T d).trans (List.sublist_append_left _ _);obtain⟨a,ha,rfl⟩:=a2c.mp d;exact(i a ha).append (List.Sublist.refl _)
 exact f _ cs rfl
noncomputable def aJ3(qs:List (Str×List Str)):Option (List Str):=((zU (dF qs)).map (wlk qs)).find? (isR qs)
def bK4{qs:List (Str×List Str)}(h0:qs≠[])(nd:(dF qs).Nodup)(h:¬ Acy (edg qs) (dF qs)):∃ w,aJ3 qs=some w/\isR qs w=true:=by
 obtain⟨T,a,b,_⟩:=dB2 (E:=edg qs) (λz=>h0 (List.map_eq_nil_iff.mp z)) nd h;have c:=cH6 b;unfold aJ3;cases e:((zU (dF qs)).map (wlk qs)).find? (isR qs)with
 | none=>exact absurd c (by simpa using List.find?_eq_none.mp e (wlk qs T) (List.mem_map_of_mem ((aJ2 _).2.1 T a)))
 | some w=>exact⟨w,rfl,List.find?_some e⟩
def Cov(qs:List (Str×List Str))(S:List Str):Prop:=∀ q∈qs,∀ z∈q.2,z∈S
theorem Cov.wo{qs:List (Str×List Str)}{S:List Str}(h:Cov qs S)(z:Str):Cov (wo qs z) S:=λq a=>h q (aR2 a).1
def dT0{qs:List (Str×List Str)}{z:Str}{q:Str×List Str}(h:q∈qs)(n:q.1≠z):q∈wo qs z:=List.mem_filter.mpr ⟨h,by simpa using n⟩
def eA0{qs:List (Str×List Str)}(h:(qs.map Prod.fst).Nodup)(z:Str):((wo qs z).map Prod.fst).Nodup:=h.sublist (dR9 qs z)
def tE{bD:List (Str×List Str)}{p:Str×Option Str}:p∈bK2 bD↔∃ q∈bD,q.1=p.1/\p.2∈dA0 bD q.1 q.2:=by
 unfold bK2;rw[List.mem_flatMap];constructor;rintro⟨q,a,h⟩;obtain⟨x,b,rfl⟩:=a2c.mp h;exact⟨q,a,rfl,b⟩;rintro⟨q,a,e,h⟩;exact⟨q,a,a2c.mpr ⟨p.2,h,by rw[e]⟩⟩
def dB3{bD:List (Str×List Str)}(hn:(bD.map Prod.fst).Nodup)(b:2<=bD.length){q:Str×List Str}(a:q∈bD):(wo bD q.1).length≠0:=by
 have:=bF0 hn ⟨q,a,rfl⟩;lia
def dT1{bD:List (Str×List Str)}(hn:(bD.map Prod.fst).Nodup){q:Str×List Str}(b:q∈bD)(g:List Str):g∈edg bD↔g=q.2\/g∈edg (wo bD q.1):=by
 rw[dM,dM];constructor;rintro⟨t,a,rfl⟩;by_cases e:t.1=q.1;rw[cQ1 hn a b e];exact .inl rfl;exact .inr ⟨t,dT0 a e,rfl⟩;rintro(rfl | ⟨t,a,rfl⟩);exact⟨q,b,rfl⟩;exact⟨t,(aR2 a).1,rfl⟩
def dB4{bD:List (Str×List Str)}{S:List Str}(hn:(bD.map Prod.fst).Nodup)(h:2<=bD.length){p:Str×Option Str}(i:p∈bK2 bD):Acy (edg bD) S↔Acy (edg (wo bD p.1)) S:=by
 obtain⟨q,d,e,a⟩:=tE.mp i;unfold dA0 at a;rw[a3P (dB3 hn h d)]at a;obtain⟨f,b,_⟩:=a2c.mp a;obtain⟨b,ha⟩:=List.mem_filter.mp b;rw[← e];refine dB0 (e:=q.2) (f:=f.2) (dT1 hn d) (dM.mpr ⟨f,b,rfl⟩) λx j Z0=>?_;obtain⟨g,k,c⟩:=Z0;obtain⟨t,l,rfl⟩:=dM.mp k;have:=a6g.mp ha x (List.mem_filter.mpr ⟨j,a3T (fX.mpr ⟨t,l,c⟩)⟩);exact of_decide_eq_true this
def dB5{bD:List (Str×List Str)}{S:List Str}(hn:(bD.map Prod.fst).Nodup)(f:2<=bD.length)(n:Cov bD S)(h:Acy (edg bD) S):bK2 bD≠[]:=λz=>by
 obtain⟨l,m,q⟩:=h;obtain⟨i,j,hi,b,o,p⟩:=q.has_ear (by rw[a1a];exact f);rw[a1a]at hi b;have d:∀ {k:Nat} (a:k < bD.length),(edg bD)[k]?.getD []=bD[k].2:=λa=>by rw[a3c,a0a a];rfl
 have ne:bD[j].1≠bD[i].1:=λe=>o ((List.getElem?_inj (l:=bD.map Prod.fst) (by rw[a1a];exact hi) hn).mp (by rw[a3c,a3c,a0a hi,a0a b];exact a3W some e.symm));have:(bD[i].1,some bD[j].1)∈bK2 bD:=by
  refine tE.mpr ⟨bD[i],a5b hi,rfl,?_⟩;unfold dA0;rw[a3P (dB3 hn f (a5b hi))];refine a2c.mpr ⟨bD[j],List.mem_filter.mpr ⟨dT0 (a5b b) ne,a6g.mpr λc r=>a3T ?_⟩,rfl⟩;obtain⟨g,s⟩:=List.mem_filter.mp r;obtain⟨t,u,ct⟩:=fX.mp (of_decide_eq_true s);obtain⟨v,w⟩:=aR2 u;obtain⟨k,a,rfl⟩:=a9d v;have:=p c ((m c).mpr (n _ (a5b hi) c g)) (by rw[d hi];exact g) ⟨k,λz=>w (by subst z;rfl),by rw[a1a];exact a,by rw[d a];exact ct⟩;rwa[d b]at this
 rw[z]at this;cases this
def dB6(q:Str×List Str)(S:List Str):Acy (edg [q]) S:=by
 refine⟨S,λ_=>Iff.rfl,?_⟩
 induction S with
 | nil=>trivial
 | cons v b c=>exact⟨⟨q.2,by simp,λf d _ x _ a=>by rw[show f=q.2 by simpa using d]at a;exact a⟩,c⟩
open L2 Dv
local macro_rules | `(tactic| walk_at "dx")=>do
 let l:=("bV8 bV9 bW0 aR0 bE2 mI bC6 bD9 zL aQ9 aQ3 aQ2 aQ4 aQ5 aQ8 aD8 rR cW5 tZ uA uB uC uD uE uF uG uH uI uJ uK uL uM uN uO aV4 uP mH nV uQ uR nW nX nY uT uU aV5 uV uW aV6 uX uY uZ vA vB vC nZ oA vD vE vF vG vH oB vJ oC vK vM vN vO vP yS vQ vR vS oE oF vU vV vW vX vY vZ wA pJ wB wC aV7 oG lC oH wD wE oJ wR wT wU wV wW wX wY wZ xA pG aV8 xB oU oV lE jC yQ mP pF pE xE oW oX oY xF xG xH xI xJ aV9 aW0 aW1 aW2 xK xL xM oZ pA xN pB xO xP pC lD xQ pD aN7 xR xS xT xU aW3 xV cX2 xW xX mI bZ xY xZ yA yB wF wG wH wI wJ wK wL wM wN oK oM oN oO wO wP wQ reduceIte".splitOn " ").toArray.map fun s=>Lean.mkIdent s.toName
 let m:=("aQ6 aQ7 bX1 yC yD yE aN8 aW4 Int.reducePow Int.reduceNeg Int.reduceLT Int.reduceLE Nat.reducePow Nat.reduceLT Int.reduceToNat Nat.reduceLeDiff yH dQ5 dQ6 dQ7 dQ8 dQ9 dR0 dR1 dR2 dR3 dR4 dR5 dR6 yF aW5 yG oP oQ oR oS bK0 List.getElem?_cons_succ List.getElem?_cons_zero Option.getD_some List.set_cons_zero List.set_cons_succ eW bC0 List.length_cons List.length_nil Nat.reduceAdd Nat.zero_add true_and and_true and_self Bool.not_false Bool.not_true Bool.false_eq_true Bool.true_and Bool.and_true Bool.or_false decide_eq_true_eq".splitOn " ").toArray.map fun s=>Lean.mkIdent s.toName
 `(tactic| simp only[$[↓$l:ident],*,$[$m:ident],*])
def sl4:10000<=sizeLine:=by decide
def bZ0{k:List Str}(h:∀ z∈k,As z):Ok 1 (tS k):=.tup (oks h)
def bZ1(x y:List Str)(h:tS x=tS y):x=y:=by
 injection h with h
 exact(List.map_inj_right aI9).mp h
def aR6{cs:List Str}(j:cs.length<=6){K:Res->List Sl->Prop}(k:K (.own (.lst ((zU cs).map tS))) [⟨.val,tS cs⟩]):CK gO [⟨.val,tS cs⟩] K:=by
 have sl:=sl4;unfold gO;rw[eR];show RS iG [_,none,none,none] _;unfold iG;walk_at "dx";refine⟨a0d _,by decide,hJ (λi a=>i<=6/\∃ b d,a=[some ⟨.val,tS cs⟩,some ⟨.own,.lst ((zU (cs.take i)).map tS)⟩,ov b d,none]) ⟨by decide,false,.non,rfl⟩ ?_ ?_⟩
 ·rintro i d a hd ⟨hi,b,d',rfl⟩;obtain⟨c,f,rfl⟩:=iL hd;have l:(zU (cs.take i)).length<=64:=by
   rw[(aJ2 _).1,a9c];exact a6c (Nat.pow_le_pow_right (by decide) (by lia:min i cs.length<=6)) (by decide)
  have g:=(a2a.mp f).1;have h:∀ T∈zU (cs.take i),T.length<=6:=λT e=>by have:=((aJ2 _).2.2 T e).length_le;rw[a9c]at this;lia
  walk_at "dx";refine⟨by rw[a1a];lia,iI (λT=>tS (T++[c])) tS (zU (cs.take i)) [_,_,_,none] rfl (λT e=>?_) ?_⟩;have:=h T e;walk_at "dx";exact⟨by decide,by rw[a1a];lia,by show Res.val (.tup _)=.val (.tup ((T++[c]).map D.str));rw[a1c];rfl⟩;walk_at "dx";refine⟨by rw[a1a,a1a];lia,_,.inl rfl,by lia,true,.str c,?_⟩;rw[show cs.take (i+1)=cs.take i++[c] by rw[a5e,f];rfl,aR5,a1c,List.map_map];rfl
 ·rintro a ⟨_,b,d,rfl⟩;walk_at "dx";rw[a1a,List.take_length];exact k
def aY9{qs:List (Str×List Str)}{x y:Str}(b:Qn qs)(c:As x)(d:As y){K:Res->List Sl->Prop}(k:K (.val (.bl (aE4 qs x y))) [⟨.val,qD qs⟩,⟨.val,.str x⟩,⟨.val,.str y⟩]):CK dZ [⟨.val,qD qs⟩,⟨.val,.str x⟩,⟨.val,.str y⟩] K:=by
 have sl:=sl4;unfold dZ;rw[eR];show RS eI [_,_,_,none,none] _;unfold eI;walk_at "dx";refine⟨by rw[a1a];have:=b.1;lia,iI (λq=>.bl (decide (x∈q.2)&&decide (y∈q.2))) qP qs [_,_,_,none,none] rfl (λq a=>?_) ?_⟩;have ha:∀ z∈q.2,As z:=λz e=>((b.2 q a).2.2 z e).2;walk_at "dx";refine jH c ha ?_;walk_at "dx";split;rename_i h;refine jH d ha ?_;walk_at "dx";rw[a3T h];rfl;rename_i h;rw[a3Q h];rfl;rw[show(qs.map λq=>D.bl (decide (x∈q.2)&&decide (y∈q.2)))=(qs.map λq=>decide (x∈q.2)&&decide (y∈q.2)).map D.bl by rw[List.map_map];rfl];walk_at "dx";rw[List.any_map];exact k
def rS(l:List Str){n:Int}(h:0<=n):aK0 (l.map D.str) none (some n)=(l.take n.toNat).map D.str:=by rw[aD7 _ h,a0i]
def zS(l:List Str){n:Int}(h:0<=n):aK0 (l.map D.str) (some n) none=(l.drop n.toNat).map D.str:=by rw[cG5 _ h,List.map_drop]
def dB7{l:List D}{i:Nat}(h:0<=(0+(i:Int)))(hi:i+2<=l.length):aK0 l (some (0+(i:Int))) (some (0+(i:Int)+2))=(l.drop i).take 2:=by
 unfold aK0;have a:HT.sIx l.length 0 (some (0+(i:Int)))=i:=by rw[show(0+(i:Int))=((i:Nat):Int) by lia,HT.sIx_nat];lia
 have b:HT.sIx l.length l.length (some (0+(i:Int)+2))=i+2:=by rw[show(0+(i:Int)+2)=((i+2:Nat):Int) by lia,HT.sIx_nat];lia
 rw[a,b,show i+2-i=2 by lia]
def qV{α:Type}{o:Option α}{x:α}{K:α->Prop}(e:o=some x)(k:K x):OK1 o K:=jM.mpr ⟨x,e,k⟩
def aJ4{l:List Str}(h:l≠[]):atI (l.map D.str) (-1)=some (.str (l.getLast?.getD default)):=by
 rcases List.eq_nil_or_concat l with e | ⟨r,c,e⟩;exact absurd e h;rw[List.concat_eq_append]at e;subst e;rw[a1c];show atI (r.map D.str++[D.str c]) (-1)=_;rw[bX7];simp
def bZ2{qs:List (Str×List Str)}{cs:List Str}(s:Qn qs)(n:∀ z∈cs,As z)(v:cs.length<=100){K:Res->List Sl->Prop}(k:(∀ z∈wlk qs cs,z∈cs)->(wlk qs cs).length<=cs.length->K (.val (tS (wlk qs cs))) [⟨.val,qD qs⟩,⟨.val,tS cs⟩]):CK kP [⟨.val,qD qs⟩,⟨.val,tS cs⟩] K:=by
 have sl:=sl4;unfold kP;rw[eR];show RS mR [_,_,none,none,none,none] _;unfold mR;walk_at "dx";rw[rS _ (by decide),zS _ (by decide)];show OK1 (cO3 _ _ ((cs.drop 1).map D.str) _) _;refine hJ (λi o=>∃ W b d p,o=[some ⟨.val,qD qs⟩,some ⟨.val,tS cs⟩,some ⟨.val,tS W⟩,ov b d,fo p,none]/\W=((cs.drop 1).take i).foldl (λw _=>zR qs cs w) (cs.take 1)/\(∀ z∈W,z∈cs)/\W.length<=min 1 cs.length+i/\(i < (cs.drop 1).length->W≠[])) ⟨cs.take 1,false,.non,none,rfl,rfl,λz a=>a8d a,by rw[a9c];lia,λh z=>?_⟩ ?_ ?_;rw[a1f]at h;have:=a3W List.length z;rw[a9c,a5g]at this;lia
 ·rintro i d o hd ⟨W,b,d',p,rfl,m,f,j,q⟩;obtain⟨c,l,rfl⟩:=iL hd;have hi:=(a2a.mp l).1;have g:=q hi;rw[a1f]at hi;have r:∀ z∈W,As z:=λz a=>n z (f z a);have t:As (W.getLast?.getD default):=by
   rw[List.getLast?_eq_some_getLast g];exact r _ (List.getLast_mem g)
  walk_at "dx";refine⟨by rw[a1a];lia,bE (λc=>!decide (c∈W)&&aE4 qs (W.getLast?.getD default) c) D.str D.str cs [_,_,_,_,_,none] rfl (λz a=>?_) ?_⟩;walk_at "dx";refine jH (n z a) r ?_;walk_at "dx";by_cases h:z∈W;simp only[decide_eq_true h,Bool.not_true];walk_at "dx";rfl;simp only[decide_eq_false h,Bool.not_false];walk_at "dx";rw[aJ4 g];walk_at "dx";refine aY9 s t (n z a) ?_;walk_at "dx";walk_at "dx";rw[rS _ (by decide)];have u:((cs.filter λc=>!decide (c∈W)&&aE4 qs (W.getLast?.getD default) c).take (1:Int).toNat)=(ahd qs cs W).take 1:=rfl;rw[u];have x:((ahd qs cs W).take 1).length<=1:=by rw[a9c];lia
  refine⟨by rw[a1a,a1a];lia,_,.inl rfl,zR qs cs W,true,_,some (true,_),by unfold zR;rw[← a1c];rfl,by rw[show(cs.drop 1).take (i+1)=(cs.drop 1).take i++[c] by rw[a5e,l];rfl,List.foldl_append,← m];rfl,λz a=>?_,by unfold zR;rw[a8a];lia,λ_ z=>?_⟩;unfold zR at a;rcases a3b.mp a with h | h;exact f z h;exact(List.mem_filter.mp (a8d h)).1;unfold zR at z;exact g (List.append_eq_nil_iff.mp z).1
 ·rintro o ⟨W,b,d,p,rfl,m,f,j,_⟩;rw[a1a,List.take_length]at m;rw[a1a,a1f]at j;have e:W=wlk qs cs:=m;subst e;walk_at "dx";exact k f (by lia)
def bK5{qs:List (Str×List Str)}{cs:List Str}(u:Qn qs)(e:∀ z∈cs,As z)(y:cs.length<=100){K:Res->List Sl->Prop}(k:K (.own (.lst ((gB qs cs).map tS))) [⟨.val,qD qs⟩,⟨.val,tS cs⟩]):CK jF [⟨.val,qD qs⟩,⟨.val,tS cs⟩] K:=by
 have sl:=sl4;have w:=u.1;unfold jF;rw[eR];show RS kN [_,_,none,none,none,none,none] _;unfold kN;walk_at "dx";refine⟨a0d _,hJ (λi f=>∃ g j l m n o,f=[some ⟨.val,qD qs⟩,some ⟨.val,tS cs⟩,some ⟨.own,.lst ((gB (qs.take i) cs).map tS)⟩,ov g j,ov l m,ov n o,none]) ⟨false,.non,false,.non,false,.non,rfl⟩ ?_ ?_⟩
 ·rintro i d f hd ⟨g,j,l,m,n,o,rfl⟩;obtain⟨q,b,rfl⟩:=iL hd;have p:=a0c b;have ha:∀ z∈q.2,As z:=λz a=>((u.2 q p).2.2 z a).2;have sa:∀ k∈gB (qs.take i) cs,∀ z∈k,As z:=λk r z a=>by
   obtain⟨t,_,rfl⟩:=((dH _ _).2 k).mp r;exact e z (bQ.mp a).1
  have x:=zO (qs.take i) cs;rw[a9c]at x;walk_at "dx";refine⟨by rw[a1a];lia,bE (λc=>decide (c∈q.2)) D.str D.str cs [_,_,_,_,_,_,none] rfl (λz a=>?_) ?_⟩;walk_at "dx";refine jH (e z a) ha ?_;walk_at "dx";walk_at "dx";show OK1 (inD true (tS (inS cs q.2)) (.lst ((gB (qs.take i) cs).map tS))) _;refine rQ (bZ0 λz a=>e z (bQ.mp a).1) (λd hd=>by obtain⟨k,r,rfl⟩:=a2c.mp hd;exact bZ0 (sa k r)) (by decide) (by decide) ?_;rw[pL tS bZ1];walk_at "dx";have v:qs.take (i+1)=qs.take i++[q]:=by rw[a5e,b];rfl
  split
  ·rename_i s;have h:¬ inS cs q.2∈gB (qs.take i) cs:=by simpa using s
   refine⟨by rw[a1a];lia,_,.inl rfl,true,.str q.1,true,tS q.2,true,tS (inS cs q.2),?_⟩;rw[v,mX,a3P h,a1c];rfl
  ·rename_i s;have h:inS cs q.2∈gB (qs.take i) cs:=by simpa using s
   refine⟨_,.inl rfl,true,.str q.1,true,tS q.2,true,tS (inS cs q.2),?_⟩;rw[v,mX,a3O h];rfl
 ·rintro f ⟨g,j,l,m,n,o,rfl⟩;walk_at "dx";rw[a1a,List.take_length];exact k
def dB8{a b:List Str}(ha:∀ z∈a,As z)(d:∀ z∈b,As z)(g:a.length<=100){K:Res->List Sl->Prop}(k:K (.val (.bl (bY3 a b))) [⟨.val,tS a⟩,⟨.val,tS b⟩]):CK fC [⟨.val,tS a⟩,⟨.val,tS b⟩] K:=by
 have sl:=sl4;unfold fC;rw[eR];show RS fR [_,_,none] _;unfold fR;walk_at "dx";refine sI (bZ0 ha) (bZ0 d) (by decide) (by decide) ?_;rw[show decide (tS a=tS b)=decide (a=b)from decide_eq_decide.mpr ⟨bZ1 a b,λe=>by rw[e]⟩];walk_at "dx";by_cases h:a=b;rw[a3T h,a3P (by decide)];unfold bY3 at k;rw[a3T h]at k;exact k;rw[a3Q h,a3O (by decide)];refine⟨by rw[a1a];lia,cG8 D.str (λc=>decide (c∈b)) a ?_ ?_⟩;intro y f;walk_at "dx";refine jH (ha y f) d ?_;walk_at "dx";walk_at "dx";rw[bE9];unfold bY3 at k;rw[a3Q h]at k;exact k
def bZ3{qs:List (Str×List Str)}{cs:List Str}(c:Qn qs)(d:∀ z∈cs,As z)(e:cs.length<=100){K:Res->List Sl->Prop}(k:K (.own (.lst ((cI qs cs).map tS))) [⟨.val,qD qs⟩,⟨.val,tS cs⟩]):CK fD [⟨.val,qD qs⟩,⟨.val,tS cs⟩] K:=by
 have sl:=sl4;have f:=c.1;have sa:∀ k∈gB qs cs,(∀ z∈k,As z)/\k.length<=100:=λk g=>by
  obtain⟨t,_,rfl⟩:=((dH _ _).2 k).mp g;exact⟨λz h=>d z (bQ.mp h).1,a6c (List.length_filter_le _ _) e⟩
 have j:=zO qs cs;unfold fD;rw[eR];show RS fS [_,_,none,none,none] _;unfold fS;walk_at "dx";refine bK5 c d e ?_;walk_at "dx";refine⟨by rw[a1a];lia,bE (λa=>!((gB qs cs).any λb=>bY3 a b)) tS tS (gB qs cs) [_,_,_,none,none] rfl (λa ha=>?_) ?_⟩;walk_at "dx";refine⟨by rw[a1a];lia,iI (λb=>.bl (bY3 a b)) tS (gB qs cs) [_,_,_,_,none] rfl (λb i=>?_) ?_⟩;walk_at "dx";refine dB8 (sa a ha).1 (sa b i).1 (sa a ha).2 ?_;walk_at "dx";rw[show((gB qs cs).map λb=>D.bl (bY3 a b))=((gB qs cs).map λb=>bY3 a b).map D.bl by rw[List.map_map];rfl];walk_at "dx";rw[List.any_map];rfl;walk_at "dx";exact k
local macro_rules | `(tactic| walk_at "dy")=>`(tactic| simp -implicitDefEqProofs only[↓aR0,↓bE2,↓mI,↓bC6,↓cW6,↓bD9,↓dP2,↓dZ7,↓cY5,↓zL,↓aQ9,↓aQ3,↓aQ2,↓aQ4,↓aQ5,↓aQ8,aQ6,aQ7,bX1,↓aD8,↓rR,↓cW5,↓tZ,↓uA,↓uB,↓uC,↓uD,↓uE,↓uF,↓uG,↓uH,↓uI,↓uJ,↓uK,↓uL,↓uM,↓uN,↓dN6,↓uO,↓aV4,↓uP,↓mH,↓nV,↓dZ1,↓uQ,↓uR,↓nW,↓nX,↓nY,↓uT,↓uU,↓aV5,↓uV,↓uW,↓aV6,↓uX,↓uY,↓uZ,↓vA,↓vB,↓vC,↓nZ,↓oA,↓vD,↓vE,↓vF,↓vG,↓vH,↓oB,↓vJ,↓oC,↓vK,↓vM,↓vN,↓vO,↓vP,↓yS,↓vQ,↓vR,↓vS,↓cW7,↓oE,↓oF,↓vU,↓vV,↓vW,↓vX,↓vY,↓vZ,↓wA,↓pJ,↓cY1,↓wB,↓wC,↓dN8,↓aV7,↓oG,↓lC,↓oH,↓wD,↓wE,↓oJ,↓wR,↓wT,↓wU,↓wV,↓wW,↓wX,↓wY,↓wZ,↓xA,↓pG,↓aV8,↓xB,↓oU,↓oV,↓lE,↓jC,
 ↓yQ,↓mP,↓pF,↓pE,↓xE,↓oW,↓oX,↓oY,↓xF,↓xG,↓xH,↓xI,↓xJ,↓aV9,↓aW0,↓aW1,↓aW2,↓xK,↓xL,↓xM,↓oZ,↓pA,↓xN,↓pB,↓xO,↓xP,↓pC,↓lD,↓xQ,↓pD,↓aN7,↓xR,↓xS,↓xT,↓xU,↓aW3,↓xV,↓cX2,↓xW,↓xX,↓mI,↓bZ,yC,yD,dO4,yE,aN8,aW4,Int.reducePow,Int.reduceNeg,Int.reduceLT,Int.reduceLE,Nat.reducePow,Nat.reduceLT,Int.reduceToNat,Nat.reduceLeDiff,↓xY,↓xZ,↓dO3,↓yA,↓yB,yH,dQ5,dQ6,dQ7,dQ8,dQ9,dR0,dR1,dR2,dR3,dR4,dR5,dR6,yF,aW5,yG,↓wF,↓wG,↓wH,↓wI,↓wJ,↓wK,↓wL,↓wM,↓wN,↓oK,↓oM,↓oN,↓oO,↓wO,↓wP,↓wQ,oP,oQ,oR,oS,bK0,a2d,List.getElem?_cons_zero,Option.getD_some,List.set_cons_zero,List.set_cons_succ,eW,bC0,a6f,a5g,Nat.reduceAdd,a9f,true_and,and_true,and_self,Bool.not_false,Bool.not_true,Bool.false_eq_true,Bool.true_and,Bool.and_true,Bool.or_false,↓reduceIte,a3R])
def dT2{cs:List Str}(f:cs.length<=100):cQ [⟨.val,tS cs⟩]=some (.own (.lst ((abo cs).map tS)),[⟨.val,tS cs⟩]):=by
 have sl:=sl4;have a:∀ K:Res->List Sl->Prop,K (.own (.lst ((abo cs).map tS))) [⟨.val,tS cs⟩]->∃ x,cQ [⟨.val,tS cs⟩]=some x/\K x.1 x.2:=by
  intro K k;apply jM.mp;show CK cQ [⟨.val,tS cs⟩] K;unfold cQ;rw[eR];show RS fT [_,none] _;unfold fT;walk_at "dy";refine⟨by rw[a1a];lia,by rw[cD,a1a];lia,?_⟩;rw[a1a,a9h];refine iI (λi:Nat=>tS (cs.take i++cs.drop (i+1))) (λi:Nat=>.int (0+(i:Int))) (List.range cs.length) [_,none] rfl (λi hi=>?_) ?_;have b:=a8c.mp hi;walk_at "dx";rw[rS _ (by lia),zS _ (by lia),show(0+(i:Int)).toNat=i by lia,show(0+(i:Int)+1).toNat=i+1 by lia];refine⟨by rw[a1a,a1a,a9c,a1f];lia,?_⟩;show Res.val (.tup _)=.val (.tup ((cs.take i++cs.drop (i+1)).map D.str));rw[a1c];walk_at "dx";unfold abo at k;rw[List.map_map]at k;exact k
 obtain⟨x,e,c,d⟩:=a (λr as'=>r=.own (.lst ((abo cs).map tS))/\as'=[⟨.val,tS cs⟩]) ⟨rfl,rfl⟩;rw[e];exact a3W some (Prod.ext c d)
def dT3{cs:List Str}(a:cs.length<=100){K:Res->List Sl->Prop}:CK cQ [⟨.val,tS cs⟩] K=K (.own (.lst ((abo cs).map tS))) [⟨.val,tS cs⟩]:=by
 unfold CK;rw[dT2 a,bZ]
def dT4{cs:List Str}(a:3<=cs.length)(c:cs.length<=100){K:Res->List Sl->Prop}(k:K (.own (.lst ((nbr cs).map tS))) [⟨.val,tS cs⟩]):CK fU [⟨.val,tS cs⟩] K:=by
 have sl:=sl4;unfold fU;rw[eR];show RS gN [_,none,none] _;unfold gN;walk_at "dx";refine⟨by rw[a1a];lia,by rw[cD,a1a];lia,?_⟩;rw[a1a,show((cs.length:Int)-1).toNat=cs.length-1 by lia];refine iI (λi:Nat=>tS ((cs.drop i).take 2)) (λi:Nat=>.int (0+(i:Int))) (List.range (cs.length-1)) [_,none,none] rfl (λi hi=>?_) ?_;have b:=a8c.mp hi;walk_at "dx";show Res.val (.tup _)=.val (.tup (((cs.drop i).take 2).map D.str));rw[dB7 (by lia) (by rw[a1a];lia),← List.map_drop,← a0i];walk_at "dx";refine qV (x:=.str (cs.getD 0 default)) ?_ (qV (x:=.str (cs.getD (cs.length-1) default)) ?_ ⟨by decide,by decide,by rw[a1a,a4f];lia,?_⟩)
 ·have h0:0 < cs.length:=by lia
  unfold atI;rw[aR3 (by decide) (by rw[a1a];lia)];show(cs.map D.str)[0]? = _;rw[a3c,a0a h0,a6a,a0a h0];rfl
 ·rw[aJ4 (λz=>by rw[z]at a;simp at a),List.getLast?_eq_getElem?,a6a]
 ·unfold nbr at k;rw[a1c,List.map_map]at k;exact k
def cQ7{cs:List Str}:(nud [] cs < cs.length)↔¬ cs.Nodup:=by
 have h:=bU6 cs [];have l:=bD7 cs [];constructor;intro z nd;have:=h.mpr ⟨nd,λ_ _=>List.not_mem_nil⟩;lia;intro nd;refine Nat.lt_of_le_of_ne l λe=>nd (h.mp e).1
def bF7{ks:List (List Str)}(h:∀ k∈ks,∀ z∈k,As z):Ok 2 (.lst (ks.map tS)):=.lst λd hd=>by obtain⟨k,a,rfl⟩:=a2c.mp hd;exact bZ0 (h k a)
def bZ4{a b:List (List Str)}:(D.lst (a.map tS)=D.lst (b.map tS))↔a=b:=⟨λh=>by injection h with h;exact(List.map_inj_right bZ1).mp h,λe=>by rw[e]⟩
def mY{qs:List (Str×List Str)}{cs:List Str}(A:Qn qs)(M:qs.length<=60)(f:∀ z∈cs,As z)(B:cs.length<=60){K:Res->List Sl->Prop}(k:K (.val (.bl (isR qs cs))) [⟨.val,qD qs⟩,⟨.val,tS cs⟩]):CK cZ [⟨.val,qD qs⟩,⟨.val,tS cs⟩] K:=by
 have sl:=sl4;unfold cZ;rw[eR];show RS kO [_,_,none] _;unfold kO;walk_at "dx";rw[a1a];by_cases N:cs.length < 3
 ·rw[a3O (by lia)];have:isR qs cs=false:=by unfold isR;rw[a3Q (by lia)];rfl
  rw[this]at k;exact k
 ·rw[a3P (by lia)];refine⟨by lia,?_⟩;by_cases e:cs.Nodup
  ·have C:nud [] cs=cs.length:=aP2.mpr e;rw[a3P (by lia)];have p:∀ k∈cI qs cs,∀ z∈k,As z:=λk d z m=>by
    obtain⟨t,_,rfl⟩:=((dH _ _).2 k).mp (cE.mp d).1;exact f z (bQ.mp m).1
   have O:=bK3 qs cs
   -- of two unlike ones none is empty
   have E:2<=(cI qs cs).length->∀ k∈cI qs cs,k≠[]:=λF k d z=>by
    subst z;obtain⟨_,h0⟩:=cE.mp d
    match hw:cI qs cs,F with
    | a::b::r,_=>
      have nd:=qT qs cs;have ha:a∈cI qs cs:=by rw[hw];simp
      have G:b∈cI qs cs:=by rw[hw];simp
      have H:=h0 a (cE.mp ha).1 λc f=>absurd f List.not_mem_nil;have I:=h0 b (cE.mp G).1 λc f=>absurd f List.not_mem_nil;rw[hw,← H,← I]at nd;simp at nd
   have q:∀ k∈abo cs,(∀ z∈k,As z)/\k≠[]:=λk d=>by
    obtain⟨u,P,rfl⟩:=(aJ1 e).mp d;refine⟨λz m=>f z (List.mem_filter.mp m).1,λz=>?_⟩;have g:∀ (j:Nat) (s:j < cs.length),cs[j]? = some cs[j]:=λj s=>a0a s;have h0:=List.filter_eq_nil_iff.mp z cs[0] (a5b _);have v:=List.filter_eq_nil_iff.mp z cs[1] (a5b _);simp only[decide_eq_true_eq,Classical.not_not]at h0 v;exact lQ e (g 0 (by lia)) (g 1 (by lia)) (by decide) (h0.trans v.symm)
   have w:∀ k∈nbr cs,(∀ z∈k,As z)/\k≠[]:=λk d=>by
    obtain⟨i,j,x,y,_,J,L,_,rfl⟩:=(zP (by lia)).mp d;refine⟨λz m=>?_,by simp⟩;simp only[List.mem_cons,List.not_mem_nil,or_false]at m;rcases m with rfl | rfl;exact f _ (a0c J);exact f _ (a0c L)
   have Q:(abo cs).length=cs.length:=by unfold abo;rw[a1a,a4f]
   have R:(nbr cs).length=cs.length:=by unfold nbr;rw[a8a,a1a,a4f,List.length_singleton];lia
   have sa:∀ {l:List (List Str)},(∀ k∈l,∀ z∈k,As z)->∀ k∈sX l,∀ z∈k,As z:=λ{l} h k d=>h k ((bV0 l).1.mem_iff.mp d);refine bZ3 A f (by lia) ?_;walk_at "dx";rw[bV4];refine⟨⟨by lia,E⟩,?_⟩;walk_at "dx";have n:cs.length<=100:=a6c B (by decide);rw[dT3 n];walk_at "dx";rw[bV4];refine⟨⟨by lia,λ_ k d=>(q k d).2⟩,?_⟩;walk_at "dx";refine sI (bF7 (sa p)) (bF7 (sa λk d=>(q k d).1)) (by decide) (by decide) ?_;rw[show decide (D.lst ((sX (cI qs cs)).map tS)=D.lst ((sX (abo cs)).map tS))=decide (sX (cI qs cs)=sX (abo cs))from decide_eq_decide.mpr bZ4];walk_at "dx";by_cases o:sX (cI qs cs)=sX (abo cs)
   ·rw[a3O o];have:isR qs cs=true:=by unfold isR;rw[a3T (by lia:3<=cs.length),a3T e,a3T o];rfl
    rw[this]at k;exact k
   ·rw[a3P o];refine dT4 (by lia) (by lia) ?_;walk_at "dx";rw[bV4];refine⟨⟨by lia,λ_ k d=>(w k d).2⟩,?_⟩;walk_at "dx";refine sI (bF7 (sa p)) (bF7 (sa λk d=>(w k d).1)) (by decide) (by decide) ?_;rw[show decide (D.lst ((sX (cI qs cs)).map tS)=D.lst ((sX (nbr cs)).map tS))=decide (sX (cI qs cs)=sX (nbr cs))from decide_eq_decide.mpr bZ4];have:isR qs cs=decide (sX (cI qs cs)=sX (nbr cs)):=by unfold isR;rw[a3T (by lia:3<=cs.length),a3T e,a3Q o,Bool.true_and,Bool.true_and,Bool.false_or]
    rw[this]at k;walk_at "dx";exact k
  ·have:=cQ7.mpr e;rw[a3O (by lia)];have:isR qs cs=false:=by unfold isR;rw[a3Q e,Bool.false_and,Bool.and_false]
   rw[this]at k;exact k
def bK6{qs:List (Str×List Str)}(c:Qn qs)(o:qs.length<=60)(p:(dF qs).length<=6){K:Res->List Sl->Prop}(k:K (.val (match aJ3 qs with | some w=>tS w | none=>.non)) [⟨.val,qD qs⟩]):CK jG [⟨.val,qD qs⟩] K:=by
 have sl:=sl4;have q:=mT c;unfold jG;rw[eR];show RS kQ [_,none,none] _;unfold kQ;walk_at "dx";refine aE2 c ?_;walk_at "dx";refine aR6 p ?_;walk_at "dx";refine cX7 (λi h=>(((zU (dF qs)).take i).map (wlk qs)).find? (isR qs)=none/\∃ b d j d',h=[some ⟨.val,qD qs⟩,ov b d,ov j d']) ⟨rfl,false,.non,false,.non,rfl⟩ ?_ ?_
 ·rintro i d h hd ⟨a,b,s,j,t,rfl⟩;obtain⟨T,f,rfl⟩:=iL hd;have m:=(aJ2 _).2.2 T (a0c f);have u:=m.length_le;have n:∀ z∈T,As z:=λz l=>q z (m.subset l);walk_at "dx";refine bZ2 c n (by lia) λr v=>?_;walk_at "dx";refine mY c o (λz l=>n z (r z l)) (by lia) ?_;walk_at "dx";have hi:=(a2a.mp f).1;by_cases g:isR qs (wlk qs T)=true
  ·rw[a3O g];refine .inr (.inl ⟨_,_,rfl,?_⟩);have:aJ3 qs=some (wlk qs T):=by
    unfold aJ3;have e:zU (dF qs)=(zU (dF qs)).take i++T::(zU (dF qs)).drop (i+1):=by
     conv=>lhs;rw[← List.take_append_drop i (zU (dF qs)),List.drop_eq_getElem_cons hi,(a2a.mp f).2]
    rw[e,a1c,List.find?_append,a,a4e,List.find?_cons_of_pos g];rfl
   rw[this]at k;walk_at "dx";exact k
  ·rw[a3P g];refine .inl ⟨_,.inl rfl,?_,true,_,true,_,rfl⟩;rw[a5e,f,a1c,List.find?_append,a];show[wlk qs T].find? (isR qs)=none;rw[List.find?_cons_of_neg g];rfl
 ·rintro h ⟨a,b,d,j,d',rfl⟩;rw[a1a,List.take_length]at a;walk_at "dx";rw[show aJ3 qs=none from a]at k;exact k
def cH7:∀ {qs:List (Str×List Str)},(∀ q∈qs,q.2.Nodup)->(dF qs).Nodup:=by
 intro qs;have c:∀ n,∀ qs:List (Str×List Str),qs.length=n->(∀ q∈qs,q.2.Nodup)->(dF qs).Nodup:=by
  intro n
  induction n with
  | zero=>intro qs h _;rw[List.length_eq_zero_iff.mp h];exact .nil
  | succ n d=>
    intro qs h hd;rcases List.eq_nil_or_concat qs with e | ⟨l,q,e⟩;rw[e]at h;cases h;rw[List.concat_eq_append]at e;subst e;rw[aE1];refine List.nodup_append.mpr ⟨d l (by simpa using h) λq f=>hd q (a7d _ f),(hd q (by simp)).sublist List.filter_sublist,λa ha b g e=>?_⟩;have:=(List.mem_filter.mp g).2;rw[← e]at this;simp[ha]at this
 exact c _ qs rfl
def Qw.cn{qs:List (Str×List Str)}(h:Qw qs):(dF qs).Nodup/\(dF qs).length<=6:=by
 have nd:=cH7 h.cd;obtain⟨cs,b,c⟩:=h.cs;refine⟨nd,?_⟩;rw[← b];exact qU.nd_le nd λz a=>by
  obtain⟨q,d,a⟩:=mS a;exact c q d z a
abbrev cH8(qs:List (Str×List Str)):Prop:=Acy (edg qs) (dF qs)
def cH9(qs:List (Str×List Str)):Cov qs (dF qs):=λq a z b=>fX.mpr ⟨q,a,b⟩
def fY{qs:List (Str×List Str)}(a:Qn qs){K:Res->List Sl->Prop}(k:K (.val (tS (dF qs))) [⟨.val,qD qs⟩]):CK bB [⟨.val,qD qs⟩] K:=by
 have:bB=eU:=rfl;rw[this];exact aE2 a k
end Mr
namespace Hy
section
variable{α:Type}{E E':List (List α)}{S S':List α}
open Classical in
def Acy.wide(d:E≠[])(f:∀ e∈E,∀ x∈e,x∈S')(a:Acy E S'):Acy E S:=by
 obtain⟨l,m,q⟩:=a.sub (S':=S.filter λx=>decide (x∈S')) λx b=>by simpa using(List.mem_filter.mp b).2
 obtain⟨e,h⟩:=List.exists_mem_of_ne_nil _ d;refine⟨(S.filter λx=>!decide (x∈S'))++l,λx=>?_,El.pre h q λv i g j c=>?_⟩;rw[a3b,m,List.mem_filter,List.mem_filter];by_cases b:x∈S'<;>simp[b];have:=(List.mem_filter.mp i).2;simp[f g j v c]at this
end
end Hy
namespace Mr
open PySem L2 Dv Sx Hy
local macro_rules | `(tactic| walk_at "dx")=>do
 let l:=("bV8 bV9 bW0 aR0 bE2 mI bC6 bD9 zL aQ9 aQ3 aQ2 aQ4 aQ5 aQ8 aD8 rR cW5 tZ uA uB uC uD uE uF uG uH uI uJ uK uL uM uN uO aV4 uP mH nV uQ uR nW nX nY uT uU aV5 uV uW aV6 uX uY uZ vA vB vC nZ oA vD vE vF vG vH oB vJ oC vK vM vN vO vP yS vQ vR vS oE oF vU vV vW vX vY vZ wA pJ wB wC aV7 oG lC oH wD wE oJ wR wT wU wV wW wX wY wZ xA pG aV8 xB oU oV lE jC yQ mP pF pE xE oW oX oY xF xG xH xI xJ aV9 aW0 aW1 aW2 xK xL xM oZ pA xN pB xO xP pC lD xQ pD aN7 xR xS xT xU aW3 xV cX2 xW xX mI bZ xY xZ yA yB wF wG wH wI wJ wK wL wM wN oK oM oN oO wO wP wQ reduceIte".splitOn " ").toArray.map fun s=>Lean.mkIdent s.toName
 let m:=("aQ6 aQ7 bX1 yC yD yE aN8 aW4 Int.reducePow Int.reduceNeg Int.reduceLT Int.reduceLE Nat.reducePow Nat.reduceLT Int.reduceToNat Nat.reduceLeDiff yH dQ5 dQ6 dQ7 dQ8 dQ9 dR0 dR1 dR2 dR3 dR4 dR5 dR6 yF aW5 yG oP oQ oR oS bK0 List.getElem?_cons_succ List.getElem?_cons_zero Option.getD_some List.set_cons_zero List.set_cons_succ eW bC0 List.length_cons List.length_nil Nat.reduceAdd Nat.zero_add true_and and_true and_self Bool.not_false Bool.not_true Bool.false_eq_true Bool.true_and Bool.and_true Bool.or_false decide_eq_true_eq".splitOn " ").toArray.map fun s=>Lean.mkIdent s.toName
 `(tactic| simp only[$[↓$l:ident],*,$[$m:ident],*])
def aR7{bD:List (Str×List Str)}(hn:(bD.map Prod.fst).Nodup)(b:2<=bD.length){z:Str}(a:∃ q∈bD,q.1=z){h:Str}:(z,some h)∈bK2 bD↔h∈mZ bD z:=by
 have:=dA5 hn (z,some h);rw[← decide_eq_true_iff (p:=(z,some h)∈bK2 bD),this];unfold cH0;rw[aJ0.mpr a,a3Q (by lia:¬ bD.length=1),a3T (by lia:1 < bD.length)];simp
def cI0{bD:List (Str×List Str)}(hn:(bD.map Prod.fst).Nodup)(c:2<=bD.length)(h:∀ q∈bD,mZ bD q.1=[]):bK2 bD=[]:=by
 refine List.eq_nil_iff_forall_not_mem.mpr λp g=>?_;obtain⟨q,b,e,d⟩:=tE.mp g;have a:=d;unfold dA0 at a;rw[a3P (dB3 hn c b)]at a;obtain⟨f,_,i⟩:=a2c.mp a;have:(q.1,some f.1)∈bK2 bD:=tE.mpr ⟨q,b,rfl,by rw[i];exact d⟩;have:=(aR7 hn c ⟨q,b,rfl⟩).mp this;rw[h q b]at this;cases this
def aJ5{α i:Type}(f:α->i){ys m:List i}(h:ys.Perm m):∀ {l:List α},m=l.map f->∃ l':List α,ys=l'.map f/\l'.Perm l:=by
 induction h with
 | nil=>intro l e;exact⟨[],rfl,by rw[List.map_eq_nil_iff.mp e.symm]⟩
 | cons x _ j=>
   intro l e;obtain⟨a,r,rfl,rfl,c⟩:=List.map_eq_cons_iff.mp e.symm;obtain⟨l',rfl,p⟩:=j c.symm;exact⟨a::l',rfl,p.cons a⟩
 | swap x y _=>
   intro l e;obtain⟨a,r,rfl,rfl,c⟩:=List.map_eq_cons_iff.mp e.symm;obtain⟨b,s,rfl,rfl,rfl⟩:=List.map_eq_cons_iff.mp c;exact⟨b::a::s,rfl,.swap _ _ _⟩
 | trans _ _ d g=>
   intro l e;obtain⟨q,c,k⟩:=g e;obtain⟨l1,n,o⟩:=d c;exact⟨l1,n,o.trans k⟩
def cQ8{qs:List (Str×List Str)}(h:1<=qs.length):edg qs≠[]:=λz=>by
 have:=a3W List.length z;rw[show edg qs=qs.map Prod.snd from rfl,a1a,a5g]at this;lia
noncomputable def aJ6(qs:List (Str×List Str))(cs:List Str):List (Str×List Str):=qs.map λq=>(q.1,q.2.filter λc=>decide (c∈cs))
def cI1(qs:List (Str×List Str))(cs:List Str):(aJ6 qs cs).map Prod.fst=qs.map Prod.fst:=by unfold aJ6;rw[List.map_map];rfl
def bF8{qs:List (Str×List Str)}{cs:List Str}{o:Str×List Str}(h:o∈aJ6 qs cs):∃ q∈qs,o.1=q.1/\∀ c,c∈o.2↔c∈q.2/\c∈cs:=by
 obtain⟨q,a,rfl⟩:=a2c.mp h;exact⟨q,a,rfl,λc=>by rw[List.mem_filter,a3R]⟩
def Qn.cut{qs:List (Str×List Str)}(h:Qn qs)(cs:List Str):Qn (aJ6 qs cs):=by
 refine⟨by unfold aJ6;rw[a1a];exact h.1,λo b=>?_⟩;obtain⟨q,a,rfl⟩:=a2c.mp b;exact⟨(h.2 q a).1,a6c (List.length_filter_le _ _) (h.2 q a).2.1,λz c=>(h.2 q a).2.2 z (List.mem_filter.mp c).1⟩
theorem bZ5{E d:List (List Str)}{S:List Str}(k:∀ e∈E,∃ h∈d,∀ c∈S,c∈e↔c∈h)(m:∀ h∈d,∃ e∈E,∀ c∈S,c∈h↔c∈e):∀ {l:List Str},(∀ x∈l,x∈S)->El E l->El d l
 | [],_,_=>True.intro
 | v::b,hl,⟨⟨t,o,q⟩,r⟩=>by
   obtain⟨p,i,s⟩:=k t o;refine⟨⟨p,i,λg u w x a j=>?_⟩,bZ5 k m (λx a=>hl x (a4a _ a)) r⟩;obtain⟨f,y,n⟩:=m g u;exact(s x (hl x a)).mp (q f y ((n v (hl v a3a)).mp w) x a ((n x (hl x a)).mp j))
def bZ6{qs:List (Str×List Str)}{S:List Str}(h:1<=qs.length):cH8 (aJ6 qs S)↔Acy (edg qs) S:=by
 have r:(aJ6 qs S).length=qs.length:=by unfold aJ6;rw[a1a]
 have k:∀ e∈edg qs,∃ i∈edg (aJ6 qs S),∀ c∈S,c∈e↔c∈i:=λe d=>by
  obtain⟨q,j,rfl⟩:=dM.mp d;exact⟨_,dM.mpr ⟨_,a2c.mpr ⟨q,j,rfl⟩,rfl⟩,λc f=>by rw[List.mem_filter];simp[f]⟩
 have n:∀ i∈edg (aJ6 qs S),∃ e∈edg qs,∀ c∈S,c∈i↔c∈e:=λe d=>by
  obtain⟨o,g,rfl⟩:=dM.mp d;obtain⟨q,j,_,f⟩:=bF8 g;exact⟨q.2,dM.mpr ⟨q,j,rfl⟩,λc h=>by rw[f];simp[h]⟩
 have p:cH8 (aJ6 qs S)↔Acy (edg (aJ6 qs S)) S:=⟨λa=>a.wide (cQ8 (by lia)) λe d x b=>by
   obtain⟨o,g,rfl⟩:=dM.mp d;exact fX.mpr ⟨o,g,b⟩,λa=>a.sub λx b=>by
   obtain⟨o,g,b⟩:=mS b;obtain⟨q,_,_,f⟩:=bF8 g;exact((f x).mp b).2⟩
 rw[p];constructor;rintro⟨l,m,q⟩;exact⟨l,m,bZ5 n k (λx b=>(m x).mp b) q⟩;rintro⟨l,m,q⟩;exact⟨l,m,bZ5 k n (λx b=>(m x).mp b) q⟩
def aZ0{qs:List (Str×List Str)}{cs:List Str}(a:Qn qs)(d:∀ z∈cs,As z){K:Res->List Sl->Prop}(k:K (.val (qD (aJ6 qs cs))) [⟨.val,qD qs⟩,⟨.par,.lst (cs.map D.str)⟩]):CK dW [⟨.val,qD qs⟩,⟨.par,.lst (cs.map D.str)⟩] K:=by
 have sl:1000<=sizeLine:=by decide
 have f:=a.1;unfold dW;rw[eR];show RS fB [_,_,none,none,none] _;unfold fB;walk_at "dx";refine⟨by rw[a1a];lia,iI (λq=>qP (q.1,q.2.filter λc=>decide (c∈cs))) qP qs [_,_,none,none,none] rfl (λq h=>?_) ?_⟩;have:=(a.2 q h).2.1;walk_at "dx";refine⟨by rw[a1a];lia,bE (λc=>decide (c∈cs)) D.str D.str q.2 [_,_,_,_,none] rfl (λc b=>?_) ?_⟩;walk_at "dx";refine aY3 ((a.2 q h).2.2 c b).2 d ?_;walk_at "dx";walk_at "dx";exact sl2;walk_at "dx";have e:qD (aJ6 qs cs)=D.tup (qs.map λq=>qP (q.1,q.2.filter λc=>decide (c∈cs))):=by unfold qD aJ6;rw[List.map_map];rfl
 rw[e]at k;exact k
open Classical in
noncomputable def acB(qs:List (Str×List Str)):Bool:=decide (cH8 qs)
def mU{qs:List (Str×List Str)}:acB qs=true↔cH8 qs:=by unfold acB;simp
def bZ7{qs:List (Str×List Str)}(u:Qn qs)(hn:(qs.map Prod.fst).Nodup)(A:1<=qs.length){K:Res->List Sl->Prop}(k:K (.val (.bl (acB qs))) [⟨.val,qD qs⟩]):CK eB [⟨.val,qD qs⟩] K:=by
 have sl:1000<=sizeLine:=by decide
 have B:=u.1;unfold eB;rw[eR];show RS kM [_,none,none,none,none,none] _;unfold kM;walk_at "dx";refine rF (λm τ=>∃ bD l,m=bD.length/\Qn bD/\(bD.map Prod.fst).Nodup/\1<=bD.length/\bD.length<=qs.length/\Cov bD (dF qs)/\(cH8 qs↔Acy (edg bD) (dF qs))/\τ=[some ⟨.val,qD qs⟩,some ⟨.own,.lst (bD.map qP)⟩,fo l,none,none,none]) qs.length (by lia) ⟨qs,none,rfl,u,hn,A,a7a _,cH9 qs,Iff.rfl,rfl⟩ ?_;rintro m τ ⟨bD,l,rfl,c,b,l1,G,v,o,rfl⟩;walk_at "dx";rw[a1a];by_cases j:2<=bD.length
 ·rw[a3O (by lia)];refine⟨by lia,bE (λq:Str×List Str=>!(mZ bD q.1).isEmpty) (λq=>.str q.1) qP bD [_,some ⟨.lent,.lst (bD.map qP)⟩,fo l,none,none,none] rfl (λq a=>?_) ?_⟩;walk_at "dx";refine aY5 (.inr (.inl ⟨rfl,rfl⟩)) c b ⟨q,a,rfl⟩ ?_;walk_at "dx";refine⟨a0d _,zI (n:=0) (oks λz d=>(cH1 c z d).2) (by decide) ?_⟩;walk_at "dx";cases mZ bD q.1<;>rfl;walk_at "dx";have C:(bD.filter λq=>!(mZ bD q.1).isEmpty).map (λq=>D.str q.1)=((bD.filter λq=>!(mZ bD q.1).isEmpty).map Prod.fst).map D.str:=by rw[List.map_map];rfl
  have p:∀ z∈(bD.filter λq=>!(mZ bD q.1).isEmpty).map Prod.fst,(∃ q∈bD,q.1=z)/\mZ bD z≠[]:=λz d=>by
   obtain⟨q,f,rfl⟩:=a2c.mp d;obtain⟨f,w⟩:=List.mem_filter.mp f;exact⟨⟨q,f,rfl⟩,λe=>by rw[e]at w;cases w⟩
  rw[C];generalize E:(bD.filter λq=>!(mZ bD q.1).isEmpty).map Prod.fst=S at p;have g:∀ z∈S,As z:=λz d=>by obtain⟨⟨q,f,e⟩,_⟩:=p z d;rw[← e];exact(c.2 q f).1.2
  refine⟨a0d _,zI (n:=0) (oks g) (by decide) ?_⟩;walk_at "dx";cases S with
  | nil=>
    have F:bK2 bD=[]:=cI0 b j λq a=>by
     cases e:mZ bD q.1 with
     | nil=>rfl
     | cons x y=>
       have:q.1∈(bD.filter λq=>!(mZ bD q.1).isEmpty).map Prod.fst:=a2c.mpr ⟨q,List.mem_filter.mpr ⟨a,by rw[e];rfl⟩,rfl⟩;rw[E]at this;cases this
    rw[a3O (show(List.map D.str []).isEmpty=true from rfl)];have:acB qs=false:=Bool.eq_false_iff.mpr λz=>dB5 b j v (o.mp (mU.mp z)) F;rw[this]at k;exact .inr (.inl ⟨_,_,rfl,k⟩)
  | cons z r=>
    rw[a3P (λz=>nomatch z)];obtain⟨h,s⟩:=p z a3a;obtain⟨H,t⟩:=List.exists_mem_of_ne_nil _ s;have i:=(aR7 b j h).mpr t;have I:=bF0 b h;refine⟨by rw[a1a];lia,bE (λq:Str×List Str=>!decide (q.1=z)) qP qP bD [_,some ⟨.lent,.lst (bD.map qP)⟩,_,none,none,none] rfl (λq a=>?_) ?_⟩;walk_at "dx";refine qV (x:=.str z) (by rw[a4e];exact eC6) ?_;refine bX4 (c.2 q a).1.2 (g z a3a) ?_;walk_at "dx";walk_at "dx";exact .inl ⟨_,_,.inl rfl,by lia,wo bD z,some (true,_),rfl,c.wo z,eA0 b z,by lia,by lia,v.wo z,o.trans (dB4 b j i),rfl⟩
 ·rw[a3P (by lia)];obtain⟨q,rfl⟩:=List.length_eq_one_iff.mp (by lia:bD.length=1);rw[mU.mpr (o.mpr (dB6 _ _))]at k;exact k
noncomputable def iJ(cs own:List Str):List Int:=((List.range cs.length).filter λk:Nat=>decide (cs.getD k default∈own)).map λk:Nat=>0+(k:Int)
noncomputable def tr(cs:List Str)(l:List Int):List Str:=l.map λk=>cs.getD k.toNat default
def cI2(cs:List Str):(List.range cs.length).map (λk=>cs.getD k default)=cs:=by
 refine a2h λi=>?_;rw[a3c];by_cases hi:i < cs.length;rw[List.getElem?_range hi,a0a hi];simp[hi];rw[a7f (by simp;lia),a7f (by lia)];rfl
def dB9(cs own:List Str):tr cs (iJ cs own)=inS cs own:=by
 unfold tr iJ inS;rw[List.map_map]
 conv=>rhs;rw[← cI2 cs]
 rw[List.filter_map];refine List.map_congr_left λk _=>?_;show cs.getD (0+(k:Int)).toNat default=cs.getD k default;rw[show(0+(k:Int)).toNat=k by lia]
def cI3{cs a b:List Str}(h:∀ c∈cs,c∈a↔c∈b):iJ cs a=iJ cs b:=by
 unfold iJ;congr 1;refine List.filter_congr λk d=>decide_eq_decide.mpr (h _ ?_);have:=a8c.mp d;rw[a6a,a0a this];exact a5b this
def aR8(cs own:List Str):iJ cs (inS cs own)=iJ cs own:=cI3 λc a=>by rw[bQ];exact⟨λh=>h.2,λh=>⟨a,h⟩⟩
def aR9(cs own:List Str):SoG (λa b:Int=>decide (a < b)) (iJ cs own):=by
 unfold SoG iJ;refine List.pairwise_map.mpr ((List.pairwise_lt_range.sublist List.filter_sublist).imp λ{a b} h=>?_);simp;lia
def eA1(cs own:List Str):sG (λa b:Int=>decide (a < b)) (iJ cs own)=iJ cs own:=cY6 yV (.refl _) (aR9 cs own)
def aS0{cs own:List Str}{x:Int}:x∈iJ cs own↔∃ k:Nat,k < cs.length/\cs.getD k default∈own/\x=0+(k:Int):=by
 unfold iJ;rw[a2c];constructor;rintro⟨k,c,rfl⟩;obtain⟨a,b⟩:=List.mem_filter.mp c;exact⟨k,a8c.mp a,by simpa using b,rfl⟩;rintro⟨k,a,b,rfl⟩;exact⟨k,List.mem_filter.mpr ⟨a8c.mpr a,by simpa using b⟩,rfl⟩
def cQ9{cs a b:List Str}(nd:cs.Nodup):(∀ x∈iJ cs a,x∈iJ cs b)↔∀ c∈inS cs a,c∈inS cs b:=by
 constructor
 ·intro h c i;obtain⟨d,f⟩:=bQ.mp i;obtain⟨k,g,rfl⟩:=a9d d;have e:cs.getD k default=cs[k]:=by rw[a6a,a0a g];rfl
  obtain⟨j,_,l,n⟩:=aS0.mp (h (0+(k:Int)) (aS0.mpr ⟨k,g,by rw[e];exact f,rfl⟩));have:j=k:=by lia
  subst this;exact bQ.mpr ⟨d,by rw[← e];exact l⟩
 ·intro h x m;obtain⟨k,d,f,rfl⟩:=aS0.mp m;have e:cs.getD k default=cs[k]:=by rw[a6a,a0a d];rfl
  have:=h cs[k] (bQ.mpr ⟨a5b d,by rw[← e];exact f⟩);exact aS0.mpr ⟨k,d,by rw[e];exact(bQ.mp this).2,rfl⟩
def cR0{cs a b:List Str}:iJ cs a=iJ cs b↔inS cs a=inS cs b:=⟨λh=>by rw[← dB9,← dB9,h],λh=>by rw[← aR8 cs a,h,aR8]⟩
noncomputable def grt(ls:List (List Int)):List (List Int):=ls.foldl (λg x=>if((ls.filter λo=>!decide (x=o)&&x.all λk=>decide (k∈o))=[])/\x∉g then g++[x]else g) []
def dT5(ls:List (List Int)):(grt ls).Nodup/\∀ x,x∈grt ls↔x∈ls/\∀ o∈ls,(∀ k∈x,k∈o)->x=o:=by
 have top:∀ x,((ls.filter λo=>!decide (x=o)&&x.all λk=>decide (k∈o))=[])↔∀ o∈ls,(∀ k∈x,k∈o)->x=o:=λx=>by
  rw[List.filter_eq_nil_iff];constructor;intro h o f i;have:=h o f;simp only[Bool.and_eq_true,Bool.not_eq_true',decide_eq_false_iff_not,List.all_eq_true,decide_eq_true_eq,not_and]at this;exact a5d λn=>this n i;intro h o f;simp only[Bool.and_eq_true,Bool.not_eq_true',decide_eq_false_iff_not,List.all_eq_true,decide_eq_true_eq,not_and];exact λn i=>n (h o f i)
 have j:∀ (l g:List (List Int)),g.Nodup->(l.foldl (λg x=>if((ls.filter λo=>!decide (x=o)&&x.all λk=>decide (k∈o))=[])/\x∉g then g++[x]else g) g).Nodup /\
   ∀ x,x∈l.foldl (λg x=>if((ls.filter λo=>!decide (x=o)&&x.all λk=>decide (k∈o))=[])/\x∉g then g++[x]else g) g↔x∈g\/x∈l/\∀ o∈ls,(∀ k∈x,k∈o)->x=o:=by
  intro l
  induction l with
  | nil=>intro g d;exact⟨d,λx=>by simp⟩
  | cons y r q=>
    intro g d;rw[List.foldl_cons];split
    ·rename_i h;obtain⟨m,p⟩:=q (g++[y]) (List.nodup_append.mpr ⟨d,by simp,λa ha b s z=>h.2 (by rw[List.mem_singleton.mp s]at z;rw[← z];exact ha)⟩);refine⟨m,λx=>?_⟩;rw[p,a3b,a1b,a4b];constructor;rintro((c | rfl) | c);exact .inl c;exact .inr ⟨.inl rfl,(top x).mp h.1⟩;exact .inr ⟨.inr c.1,c.2⟩;rintro(c | ⟨rfl | c,e⟩);exact .inl (.inl c);exact .inl (.inr rfl);exact .inr ⟨c,e⟩
    ·rename_i h;obtain⟨m,p⟩:=q g d;refine⟨m,λx=>?_⟩;rw[p,a4b];constructor;rintro(c | c);exact .inl c;exact .inr ⟨.inr c.1,c.2⟩;rintro(c | ⟨rfl | c,e⟩);exact .inl c;refine .inl (a5d λn=>h ⟨(top x).mpr e,n⟩);exact .inr ⟨c,e⟩
 obtain⟨k1,k2⟩:=j ls [] .nil;exact⟨k1,λx=>(k2 x).trans (by simp)⟩
def cI4{qs:List (Str×List Str)}{cs:List Str}(nd:cs.Nodup):(grt (qs.map λq=>iJ cs q.2)).Perm ((cI qs cs).map (iJ cs)):=by
 obtain⟨l,m⟩:=dT5 (qs.map λq=>iJ cs q.2);have d:∀ a∈cI qs cs,inS cs a=a:=λa ha=>by
  obtain⟨q,_,rfl⟩:=((dH qs cs).2 a).mp (cE.mp ha).1;exact bF5 λc r=>by rw[bQ];exact⟨λh=>h.2,λh=>⟨r,h⟩⟩
 have f:((cI qs cs).map (iJ cs)).Nodup:=by
  refine List.pairwise_map.mpr ((qT qs cs).imp_of_mem λ{a b} ha g n e=>n ?_);rw[← d a ha,← d b g];exact cR0.mp e
 refine(List.perm_ext_iff_of_nodup l f).mpr λx=>?_;rw[m,a2c,a2c];constructor;rintro⟨⟨q,i,rfl⟩,h⟩;refine⟨inS cs q.2,cE.mpr ⟨((dH qs cs).2 _).mpr ⟨q,i,rfl⟩,λb g j=>?_⟩,aR8 cs q.2⟩;obtain⟨o,k,rfl⟩:=((dH qs cs).2 b).mp g;exact cR0.mp (h (iJ cs o.2) (a2c.mpr ⟨o,k,rfl⟩) ((cQ9 nd).mpr j));rintro⟨a,ha,rfl⟩;obtain⟨s,t⟩:=cE.mp ha;obtain⟨q,i,e⟩:=((dH qs cs).2 a).mp s;refine⟨⟨q,i,by rw[e,aR8]⟩,λo k j=>?_⟩;obtain⟨p,u,rfl⟩:=a2c.mp k;have:a=inS cs p.2:=t (inS cs p.2) (((dH qs cs).2 _).mpr ⟨p,u,rfl⟩) (by have:=(cQ9 nd).mp j;rw[d a ha]at this;exact this);rw[this,aR8]
def bF9{cs:List Str}(nd:cs.Nodup){i j:Nat}{hi:i < cs.length}{a:j < cs.length}:cs[i]=cs[j]↔i=j:=⟨λe=>(List.getElem?_inj hi nd).mp (by rw[a0a hi,a0a a,e]),λe=>by subst e;rfl⟩
noncomputable def aI(n:Nat):List (List Int):=(List.range n).map λj:Nat=>((List.range n).filter λk:Nat=>!decide (0+(k:Int)=0+(j:Int))).map λk:Nat=>0+(k:Int)
def eA2{cs:List Str}(nd:cs.Nodup):aI cs.length=(abo cs).map (iJ cs):=by
 unfold aI abo;rw[List.map_map];refine List.map_congr_left λj b=>?_;have b:=a8c.mp b;show _=iJ cs (cs.take j++cs.drop (j+1));unfold iJ;congr 1;refine List.filter_congr λk a=>?_;have a:=a8c.mp a;have e:cs.getD k default=cs[k]:=by rw[a6a,a0a a];rfl
 rw[a0e,a3R,e];simp only[Bool.not_eq_true',decide_eq_false_iff_not];rw[a3b,List.mem_take_iff_getElem,List.mem_drop_iff_getElem];constructor;intro h;by_cases c:k < j;exact .inl ⟨k,by lia,rfl⟩;exact .inr ⟨k-(j+1),by lia,by congr 1;lia⟩;rintro(⟨i,hi,g⟩ | ⟨i,hi,g⟩) z;have:=(bF9 nd).mp g;lia;have:=(bF9 nd).mp g;lia
noncomputable def nI(n:Nat):List (List Int):=(List.range n).map λk:Nat=>sG (λa b:Int=>decide (a < b)) [0+(k:Int),(0+(k:Int)+1) % (n:Int)]
def bZ8{cs:List Str}(nd:cs.Nodup){i j:Nat}(hi:i < cs.length)(c:j < cs.length)(m:i≠j){l:List Int}(f:l.Perm [(i:Int),(j:Int)]):sG (λa b:Int=>decide (a < b)) l=iJ cs [cs[i],cs[j]]:=by
 refine cY6 yV ?_ (aR9 _ _);refine List.Perm.trans ?_ f.symm;have n1:(iJ cs [cs[i],cs[j]]).Nodup:=by
  unfold iJ;exact List.pairwise_map.mpr ((List.nodup_range.sublist List.filter_sublist).imp λ{a b} h e=>h (by lia))
 refine(List.perm_ext_iff_of_nodup n1 (by simp;lia)).mpr λx=>?_;rw[aS0];constructor
 ·rintro⟨k,g,hm,rfl⟩;have e:cs.getD k default=cs[k]:=by rw[a6a,a0a g];rfl
  rw[e]at hm;simp only[List.mem_cons,List.not_mem_nil,or_false]at hm ⊢;rcases hm with hm | hm;have:=(bF9 nd).mp hm;lia;have:=(bF9 nd).mp hm;lia
 ·intro d;simp only[List.mem_cons,List.not_mem_nil,or_false]at d;rcases d with rfl | rfl;exact⟨i,hi,by rw[a6a,a0a hi];simp,by lia⟩;exact⟨j,c,by rw[a6a,a0a c];simp,by lia⟩
def eA3{cs:List Str}(nd:cs.Nodup)(n3:3<=cs.length):nI cs.length=(nbr cs).map (iJ cs):=by
 obtain⟨m,hm⟩:∃ m,cs.length=m+1:=⟨cs.length-1,by lia⟩;unfold nI nbr;rw[a1c,List.map_map,hm,List.range_succ,a1c,Nat.add_sub_cancel];congr 1
 ·refine List.map_congr_left λk a=>?_;have a:=a8c.mp a;have e:(cs.drop k).take 2=[cs[k],cs[k+1]]:=by
   rw[List.drop_eq_getElem_cons (by lia),List.drop_eq_getElem_cons (by lia)];rfl
  show _=iJ cs ((cs.drop k).take 2);rw[e];refine bZ8 nd (by lia) (by lia) (by lia) ?_;rw[Int.zero_add,Int.emod_eq_of_lt (by lia) (by lia)];exact .refl _
 ·show[_]=[iJ cs _];congr 1;rw[a6a,a6a,a0a (by lia),a0a (by lia)];refine bZ8 nd (by lia) (by lia) (by lia) ?_;rw[Int.zero_add,show((m:Int)+1) % ((m+1:Nat):Int)=((0:Nat):Int) by simp];exact .swap _ _ _
def cR1{cs:List Str}{a b:List (List Str)}(ha:∀ x∈a,inS cs x=x)(c:∀ x∈b,inS cs x=x):(a.map (iJ cs)).Perm (b.map (iJ cs))↔a.Perm b:=by
 refine⟨λh=>?_,λh=>h.map _⟩;have back:∀ l:List (List Str),(∀ x∈l,inS cs x=x)->(l.map (iJ cs)).map (tr cs)=l:=λl d=>by
  rw[List.map_map]
  conv=>rhs;rw[← List.map_id l]
  exact List.map_congr_left λx e=>by show tr cs (iJ cs x)=x;rw[dB9,d x e]
 have:=h.map (tr cs);rwa[back a ha,back b c]at this
def bZ9{cs l:List Str}(h:l.Sublist cs):cs.Nodup->inS cs l=l:=by
 induction h with
 | slnil=>intro _;rfl
 | @cons l cs a h b=>
   intro nd;obtain⟨n1,n2⟩:=a8e.mp nd;show(a::cs).filter _=l;rw[List.filter_cons_of_neg (by simpa using λz=>n1 (h.subset z))];exact b n2
 | @cons_cons l cs a h b=>
   intro nd;obtain⟨n1,n2⟩:=a8e.mp nd;show(a::cs).filter _=a::l;rw[List.filter_cons_of_pos (by simp)];congr 1;rw[← b n2];refine List.filter_congr λc d=>decide_eq_decide.mpr ?_;rw[b n2,a4b];exact⟨λh=>h.resolve_left λz=>n1 (z ▸ d),.inr⟩
def eA4{cs:List Str}(nd:cs.Nodup):∀ x∈abo cs,inS cs x=x:=λx a=>by
 obtain⟨i,_,rfl⟩:=a2c.mp a;refine bZ9 ?_ nd
 conv=>rhs;rw[← List.take_append_drop i cs]
 exact(List.Sublist.refl _).append (List.drop_sublist_drop_left cs (by lia))
def eA5{cs:List Str}(nd:cs.Nodup)(n3:3<=cs.length):∀ x∈nbr cs,inS cs x=x:=λx c=>by
 obtain⟨i,j,a,b,f,ha,d,_,rfl⟩:=(zP (by lia)).mp c;obtain⟨hi,rfl⟩:=a2a.mp ha;obtain⟨g,rfl⟩:=a2a.mp d;refine bZ9 ?_ nd;have e:(cs[i]::cs.drop (i+1)).Sublist cs:=by rw[← List.drop_eq_getElem_cons hi];exact List.drop_sublist _ _
 refine List.Sublist.trans (List.Sublist.cons_cons _ (List.singleton_sublist.mpr ?_)) e;exact List.mem_drop_iff_getElem.mpr ⟨j-(i+1),by lia,by congr 1;lia⟩
def dT6{qs:List (Str×List Str)}{cs:List Str}:∀ a∈cI qs cs,inS cs a=a:=λa ha=>by
 obtain⟨q,_,rfl⟩:=((dH qs cs).2 a).mp (cE.mp ha).1;exact bF5 λc b=>by rw[bQ];exact⟨λh=>h.2,λh=>⟨b,h⟩⟩
def cR2{a b:List (List Str)}:sX a=sX b↔a.Perm b:=⟨λe=>(bV0 a).1.symm.trans (e ▸ (bV0 b).1),aX4⟩
def three{cs:List Str}(n:cs.length=3):(nbr cs).Perm (abo cs):=by
 match cs,n with
 | [a,b,c],_=>
   show[[a,b],[b,c],[a,c]].Perm [[b,c],[a,c],[a,b]];exact(List.Perm.swap _ _ _).trans ((List.Perm.swap _ _ _).cons _)
def dC0{qs:List (Str×List Str)}{cs:List Str}(n3:3<=cs.length)(nd:cs.Nodup):isR qs cs=true↔(sG tlI (grt (qs.map λq=>iJ cs q.2))=sG tlI (aI cs.length)\/3 < cs.length/\sG tlI (grt (qs.map λq=>iJ cs q.2))=sG tlI (nI cs.length)):=by
 have L:=bD6 yV;have a:=cI4 (qs:=qs) nd;have b:sG tlI (grt (qs.map λq=>iJ cs q.2))=sG tlI (aI cs.length)↔sX (cI qs cs)=sX (abo cs):=by
  rw[cO9 L,cR2,eA2 nd,← cR1 dT6 (eA4 nd)];exact⟨λh=>a.symm.trans h,λh=>a.trans h⟩
 have c:sG tlI (grt (qs.map λq=>iJ cs q.2))=sG tlI (nI cs.length)↔sX (cI qs cs)=sX (nbr cs):=by
  rw[cO9 L,cR2,eA3 nd n3,← cR1 dT6 (eA5 nd n3)];exact⟨λh=>a.symm.trans h,λh=>a.trans h⟩
 rw[b,c];unfold isR;simp only[Bool.and_eq_true,Bool.or_eq_true,decide_eq_true_eq];constructor;rintro⟨_,_,h | h⟩;exact .inl h;by_cases d:3 < cs.length;exact .inr ⟨d,h⟩;exact .inl (h.trans (aX4 (three (by lia))));rintro(h | ⟨_,h⟩);exact⟨n3,nd,.inl h⟩;exact⟨n3,nd,.inr h⟩
noncomputable def dC1:DS:=(bJ (cM 7 (dCB qR (aC (aG 7) aL)))
 (bJ (iO (cK (aX (eqD false) (aG 7) (dCB qR (aC (cN [13] (sU (aC (aG 3) aL)) (dgN 13) iS (dFz (cN [11] (sU (aC (aG 3) aL)) (dgN 11) (cK (aX (eqD true) (aG 11) (aG 13))) (dFz (aG 11))))) aL)))) (gQ (dC (.bl true))) dI)
 (gQ (sK (aX gtI (aG 3) (dC (.int 3))) (aX (eqD false) (aG 7) (dCB qR (aC (cN [11] (sU (aC (aG 3) aL)) (dgN 11) iS (dFz (dCB yZ (aC (kZ (aC (dFz (aG 11)) (aC (aX bC2 (aX iT (aG 11) (dC (.int 1))) (aG 3)) aL))) aL)))) aL)))))))
noncomputable def dC2:DS:=(bJ (cM 7 (kZ aL))
 (bJ (qY (dIt (aG 4)) (dgN 8)
 (bJ (cM 9 (cN [12] (dIt (aG 4)) (dgN 12) (bK9 (cK (aX (eqD true) (aG 8) (aG 12))) (cK (dCB cD8 (aC (cN [11] (dIt (aG 8)) (dgN 11) iS (aX (inD false) (aG 11) (aG 12))) aL)))) (dFz (aG 12))))
 (iO (bK9 (cK (aX (eqD false) (aG 9) (kZ aL))) (cK (aX (inD true) (aG 8) (aG 7)))) (gY (jI "list" 7 aS5 (aC (dFz (aG 8)) aL))) dI)))
 dC1))
noncomputable def dC3:DS:=(bJ (cM 4 (kZ aL))
 (bJ (qY (dIt (aG 0)) (lR 2 (cT (dgN 5) (cT (dgN 6) lA)))
 (gY (jI "list" 4 aS5 (aC (dFz (dCB yZ (aC (cN [11] (sU (aC (aG 3) aL)) (dgN 11) (cK (aX (inD false) (aX ixD (aG 1) (aG 11)) (aG 6))) (dFz (aG 11))) aL))) aL))))
 dC2))
def cI5{n:Nat}(k:List Int):Ok (n+1) (lI k):=.lst okI
def cA0(x y:List Int)(h:lI x=lI y):x=y:=by
 injection h with h
 exact(List.map_inj_right λa b e=>by injection e).mp h
def aE6{n:Nat}(ks:List (List Int)):∀ d∈ks.map lI,Ok (n+1) d:=λd hd=>by
 obtain⟨k,_,rfl⟩:=a2c.mp hd;exact cI5 k
noncomputable abbrev irS(qs:List (Str×List Str))(cs:List Str)(n:Int)(ss:List (List Int))(a b c d e:Option Sl):Sg:=[some ⟨.val,qD qs⟩,some ⟨.val,tS cs⟩,some ⟨.val,tS (dF qs)⟩,some ⟨.val,.int n⟩,some ⟨.own,.lst (ss.map lI)⟩,a,b,c,d,e,none,none,none,none]
def eA6{qs:List (Str×List Str)}{cs:List Str}{m:Int}{n:Nat}(hm:m.toNat=n){ss c:List (List Int)}{l o p:Bool}{q d6 r:D}{s:Option (Bool×D)}(n3:3<=n)(t:n<=60)(x:c.length<=60){K:Res->List Sl->Prop}
  (k:∀ b:Bool,(b=true↔(sG tlI c=sG tlI (aI n)\/3 < n/\sG tlI c=sG tlI (nI n)))->K (.val (.bl b)) [⟨.val,qD qs⟩,⟨.val,tS cs⟩]):RS dC1 (irS qs cs m ss (ov l q) (ov o d6) (some ⟨.own,.lst (c.map lI)⟩) (ov p r) (fo s)) (aC2 [⟨.val,qD qs⟩,⟨.val,tS cs⟩] K):=by
 have sl:1000<=sizeLine:=by decide
 unfold dC1 irS;walk_at "dx";have y:(aI n).length=n:=by unfold aI;rw[a1a,a4f]
 have A:(nI n).length=n:=by unfold nI;rw[a1a,a4f]
 refine⟨by lia,⟨by lia,by lia⟩,by rw[cD];lia,?_⟩;rw[hm];refine iI (λj:Nat=>lI (((List.range n).filter λk:Nat=>!decide (0+(k:Int)=0+(j:Int))).map λk:Nat=>0+(k:Int))) (λi:Nat=>.int (0+(i:Int))) (List.range n) [_,_,_,_,_,_,_,_,_,_,none,none,none,none] rfl (λj u=>?_) ?_;walk_at "dx";refine⟨⟨by lia,by lia⟩,by rw[cD];lia,?_⟩;rw[hm];refine bE (λk:Nat=>!decide (0+(k:Int)=0+(j:Int))) (λi:Nat=>.int (0+(i:Int))) (λi:Nat=>.int (0+(i:Int))) (List.range n) [_,_,_,_,_,_,_,_,_,_,none,none,none,_] rfl (λi hi=>?_) ?_;walk_at "dx";walk_at "dx";show _=Res.val (D.lst (List.map D.int (List.map _ _)));rw[List.map_map];rfl;walk_at "dx";have v:(List.range n).map (λj:Nat=>lI (((List.range n).filter λk:Nat=>!decide (0+(k:Int)=0+(j:Int))).map λk:Nat=>0+(k:Int)))=(aI n).map lI:=by unfold aI;rw[List.map_map];rfl
 have f:m=(n:Int):=by lia
 rw[v];walk_at "dx";refine⟨by lia,sI (n:=2) (m:=2) (.lst (aE6 _)) (.lst (aE6 _)) (by decide) (by decide) ?_⟩;have inj:∀ a b:List (List Int),(D.lst (a.map lI)=D.lst (b.map lI))↔a=b:=λa b=>⟨λh=>by injection h with h;exact(List.map_inj_right cA0).mp h,λe=>by rw[e]⟩;walk_at "dx";by_cases d:sG tlI c=sG tlI (aI n);rw[a3O ((inj _ _).mpr d)];exact k true ⟨λ_=>.inl d,λ_=>rfl⟩;rw[a3P λz=>d ((inj _ _).mp z)];by_cases g:3 < n
 ·rw[a3O (by lia)];refine⟨⟨by lia,by lia⟩,by rw[cD];lia,?_⟩;rw[hm];refine iI (λi:Nat=>lI (sG (λa b:Int=>decide (a < b)) [0+(i:Int),(0+(i:Int)+1) % m])) (λi:Nat=>.int (0+(i:Int))) (List.range n) [_,_,_,_,_,_,_,_,_,_,none,none,none,none] rfl (λj u=>?_) ?_;walk_at "dx";refine⟨by lia,sl2,?_⟩;rw[show[D.int (0+(j:Int)),D.int ((0+(j:Int)+1) % m)]=[0+(j:Int),(0+(j:Int)+1) % m].map D.int from rfl];walk_at "dx";walk_at "dx";have w:(List.range n).map (λi:Nat=>lI (sG (λa b:Int=>decide (a < b)) [0+(i:Int),(0+(i:Int)+1) % m]))=(nI n).map lI:=by unfold nI;rw[List.map_map,f];rfl
  rw[w];walk_at "dx";refine⟨by lia,sI (n:=2) (m:=2) (.lst (aE6 _)) (.lst (aE6 _)) (by decide) (by decide) ?_⟩;walk_at "dx";refine k _ ?_;rw[decide_eq_true_iff,inj];exact⟨λh=>.inr ⟨g,h⟩,λh=>(h.resolve_left d).2⟩
 ·rw[a3P (by lia)];exact k false ⟨(λz=>nomatch z),λh=>(h.elim d λz=>g z.1).elim⟩
def eA7{ls:List (List Int)}{i:Nat}{x:List Int}(h:ls[i]? = some x):(ls.take (i+1)).foldl (λg x=>if((ls.filter λo=>!decide (x=o)&&x.all λk=>decide (k∈o))=[])/\x∉g then g++[x]else g) []=(λg=>if((ls.filter λo=>!decide (x=o)&&x.all λk=>decide (k∈o))=[])/\x∉g then g++[x]else g) ((ls.take i).foldl (λg x=>if((ls.filter λo=>!decide (x=o)&&x.all λk=>decide (k∈o))=[])/\x∉g then g++[x]else g) []):=by
 rw[a5e,h,List.foldl_append];rfl
def eA8{qs:List (Str×List Str)}{cs:List Str}{m:Int}{n:Nat}(hm:m.toNat=n){ss:List (List Int)}{A B:Bool}{C d6:D}(n3:3<=n)(q:n<=60)(sl:ss.length<=60)(E:∀ s∈ss,s.length<=60){K:Res->List Sl->Prop}
  (k:∀ b:Bool,(b=true↔(sG tlI (grt ss)=sG tlI (aI n)\/3 < n/\sG tlI (grt ss)=sG tlI (nI n)))->K (.val (.bl b)) [⟨.val,qD qs⟩,⟨.val,tS cs⟩]):RS dC2 (irS qs cs m ss (ov A C) (ov B d6) none none none) (aC2 [⟨.val,qD qs⟩,⟨.val,tS cs⟩] K):=by
 have sz:1000<=sizeLine:=by decide
 unfold dC2 irS;walk_at "dx";refine⟨a0d _,?_⟩;refine hJ (λi τ=>∃ t u p,∃ gs:List (List Int),gs=(ss.take i).foldl (λg x=>if((ss.filter λo=>!decide (x=o)&&x.all λk=>decide (k∈o))=[])/\x∉g then g++[x]else g) []/\gs.length<=i/\τ=[some ⟨.val,qD qs⟩,some ⟨.val,tS cs⟩,some ⟨.val,tS (dF qs)⟩,some ⟨.val,.int m⟩,some ⟨.lent,.lst (ss.map lI)⟩,ov A C,ov B d6,some ⟨.own,.lst (gs.map lI)⟩,ov t u,fo p,none,none,none,none]) ⟨false,.non,none,[],rfl,a7a _,rfl⟩ ?_ ?_
 ·rintro i d τ hd ⟨t,u,p,gs,f,j,rfl⟩;obtain⟨x,v,rfl⟩:=iL hd;have w:=a0c v;have F:=(a2a.mp v).1;have G:=E x w;have c:=eA7 v;rw[← f]at c;dsimp only at c;walk_at "dx";refine⟨by rw[a1a];lia,bE (λo=>!decide (x=o)&&x.all λk=>decide (k∈o)) lI lI ss [_,_,_,_,_,_,_,_,_,fo p,none,none,none,none] rfl (λo I=>?_) ?_⟩
  ·walk_at "dx";refine sI (n:=1) (m:=1) (cI5 x) (cI5 o) (by decide) (by decide) ?_;rw[show decide (lI x=lI o)=decide (x=o)from decide_eq_decide.mpr ⟨cA0 x o,λe=>by rw[e]⟩];walk_at "dx";by_cases l:x=o;rw[a3T l];rfl;rw[a3Q l];rw[a3O (show(!false)=true from rfl)];refine⟨by rw[a1a];lia,cG8 D.int (λk=>decide (k∈o)) x (λy J=>?_) ?_⟩
   ·walk_at "dx";refine rQ (n:=0) (m:=0) .int okI (by decide) (by decide) ?_;rw[pL D.int λa b e=>by injection e];walk_at "dx"
    try rfl
   ·walk_at "dx";rw[bE9]
  ·walk_at "dx";refine⟨a0d _,zI (n:=1) (aE6 _) (by decide) ?_⟩;rw[List.isEmpty_map];walk_at "dx";generalize ss.filter (λo=>!decide (x=o)&&x.all λk=>decide (k∈o))=H at c ⊢;cases H with
   | cons a r=>
     rw[a3P (λz=>nomatch z)];rw[a3P (λz=>nomatch z.1)]at c;exact⟨_,.inl rfl,true,_,some (true,_),gs,c.symm,by lia,rfl⟩
   | nil=>
     rw[a3O (show([]:List (List Int)).isEmpty=true from rfl)];refine rQ (n:=1) (m:=1) (cI5 x) (aE6 gs) (by decide) (by decide) ?_;rw[pL lI cA0];walk_at "dx";by_cases h:x∈gs;rw[a3P (by simpa using h)];rw[a3P (λz=>z.2 h)]at c;exact⟨_,.inl rfl,true,_,some (true,_),gs,c.symm,by lia,rfl⟩;rw[a3O (by simpa using h)];rw[a3O ⟨rfl,h⟩]at c;refine⟨by rw[a1a];lia,_,.inl rfl,true,_,some (true,_),gs++[x],c.symm,by rw[a8a,List.length_singleton];lia,by rw[a1c];rfl⟩
 ·rintro τ ⟨t,u,p,gs,f,j,rfl⟩;rw[a1a,List.take_length]at f;rw[a1a]at j;walk_at "dx";subst f;exact eA6 hm n3 q (by lia) k
def eA9{qs:List (Str×List Str)}{cs:List Str}{m:Int}{n:Nat}(hm:m.toNat=n)(hn:cs.length=n)(v:Qn qs)(e:qs.length<=60)(w:∀ z∈cs,As z)(n3:3<=n)(f:n<=60){K:Res->List Sl->Prop}
  (k:∀ b:Bool,(b=true↔(sG tlI (grt (qs.map λq=>iJ cs q.2))=sG tlI (aI n)\/3 < n/\sG tlI (grt (qs.map λq=>iJ cs q.2))=sG tlI (nI n)))->K (.val (.bl b)) [⟨.val,qD qs⟩,⟨.val,tS cs⟩]):RS dC3 [some ⟨.val,qD qs⟩,some ⟨.val,tS cs⟩,some ⟨.val,tS (dF qs)⟩,some ⟨.val,.int m⟩,none,none,none,none,none,none,none,none,none,none] (aC2 [⟨.val,qD qs⟩,⟨.val,tS cs⟩] K):=by
 have sz:1000<=sizeLine:=by decide
 unfold dC3;walk_at "dx";refine⟨a0d _,?_⟩;refine hJ (λi g=>∃ h l o d6,g=[some ⟨.val,qD qs⟩,some ⟨.val,tS cs⟩,some ⟨.val,tS (dF qs)⟩,some ⟨.val,.int m⟩,some ⟨.own,.lst (((qs.take i).map λq=>iJ cs q.2).map lI)⟩,ov h l,ov o d6,none,none,none,none,none,none,none]) ⟨false,.non,false,.non,rfl⟩ ?_ ?_
 ·rintro i d g hd ⟨h,l,o,d6,rfl⟩;obtain⟨q,a,rfl⟩:=iL hd;have p:=a0c a;have y:=(a2a.mp a).1;walk_at "dx";refine⟨⟨by lia,by lia⟩,by rw[cD];lia,?_⟩;rw[hm];refine bE (λk:Nat=>decide (cs.getD k default∈q.2)) (λi:Nat=>.int (0+(i:Int))) (λi:Nat=>.int (0+(i:Int))) (List.range n) [_,_,_,_,_,_,_,none,none,none,none,none,none,none] rfl (λj u=>?_) ?_;have u:=a8c.mp u;obtain⟨c,A,r,t⟩:=bY0 (cs:=cs) (n:=0+(j:Int)) (by lia) (by lia);walk_at "dx";rw[A];walk_at "dx";refine jH (w c r) (λx B=>((v.2 q p).2.2 x B).2) ?_;walk_at "dx";rw[← t,show(0+(j:Int)).toNat=j by lia];walk_at "dx";have C:((List.range n).filter λk:Nat=>decide (cs.getD k default∈q.2)).map (λi:Nat=>D.int (0+(i:Int)))=(iJ cs q.2).map D.int:=by unfold iJ;rw[List.map_map,hn];rfl
  have F:(iJ cs q.2).length<=60:=by
   unfold iJ;rw[a1a];exact a6c (List.length_filter_le _ _) (by rw[a4f];lia)
  rw[C];walk_at "dx";rw[eA1];refine⟨by lia,by rw[a1a,a1a,a9c];lia,_,.inl rfl,true,.str q.1,true,.tup (q.2.map D.str),?_⟩;rw[a5e,a,a1c,a1c];rfl
 ·rintro g ⟨h,l,o,d6,rfl⟩;rw[a1a,List.take_length];refine eA8 hm n3 f (by rw[a1a];exact e) (λs E=>?_) k;obtain⟨q,_,rfl⟩:=a2c.mp E;unfold iJ;rw[a1a];exact a6c (List.length_filter_le _ _) (by rw[a4f];lia)
def nR{qs:List (Str×List Str)}{cs:List Str}(f:Qn qs)(g:qs.length<=60)(e:∀ z∈cs,As z)(h:cs.length<=60){K:Res->List Sl->Prop}(k:K (.val (.bl (isR qs cs))) [⟨.val,qD qs⟩,⟨.val,tS cs⟩]):CK cS [⟨.val,qD qs⟩,⟨.val,tS cs⟩] K:=by
 have sz:1000<=sizeLine:=by decide
 have i:=mT f;unfold cS;rw[eR];show RS fV [_,_,none,none,none,none,none,none,none,none,none,none,none,none] _;rw[show fV=(bJ (cM 2 (aV 1 bB (aC (aG 0) aL)))
 (bJ (cM 3 (dCB mB (aC (aG 1) aL)))
 (bJ (iO (dOr (cK (aX ltI (aG 3) (dC (.int 3)))) (cK (aX ltI (dCB pH (aC (aG 1) aL)) (aG 3)))) (gQ (dC (.bl false))) dI)
 (bJ (iO (bL0 (cK (dCB cD8 (aC (cN [10] (dIt (aG 1)) (dgN 10) iS (aX (inD false) (aG 10) (aG 2))) aL)))) (gQ (dC (.bl false))) dI)
 dC3))))from rfl]
 walk_at "dx";refine fY f ?_;walk_at "dx";rw[a1a];by_cases p:cs.length < 3
 ·rw[a3O (by lia)];have:isR qs cs=false:=by unfold isR;rw[a3Q (by lia)];rfl
  rw[this]at k;exact k
 ·rw[a3P (by lia)];refine⟨by lia,?_⟩;by_cases a:cs.Nodup
  ·have j:nud [] cs=cs.length:=aP2.mpr a;rw[a3P (by lia)];refine⟨by lia,cG8 D.str (λc=>decide (c∈dF qs)) cs (λy l=>?_) ?_⟩
   ·walk_at "dx";refine jH (e y l) i ?_;walk_at "dx"
    try rfl
   ·walk_at "dx";rw[bE9];by_cases d:∀ c∈cs,c∈dF qs;rw[a3P (by simpa using d)];refine eA9 (m:=(cs.length:Int)) (n:=cs.length) (by lia) rfl f g e (by lia) h λb o=>?_;have:b=isR qs cs:=a0e.mpr (o.trans (dC0 (by lia) a).symm);rw[this];exact k;rw[a3O (by simpa using d)];have:isR qs cs=false:=Bool.eq_false_iff.mpr λz=>d λc e=>fX.mpr ((aY8 z).2 c e);rw[this]at k;exact k
  ·rw[a3O (by have:=cQ7.mpr a;lia)];have:isR qs cs=false:=by unfold isR;rw[a3Q a];simp
   rw[this]at k;exact k
noncomputable def nrs(qs:List (Str×List Str))(T W:List Str):List Str:=qs.flatMap λq=>if W.getLast?.getD default∈q.2 then T.filter λc=>decide (c∈q.2) && !decide (c∈W)else[]
def cA1{qs:List (Str×List Str)}{T W:List Str}{c:Str}:c∈nrs qs T W↔c∈T/\c∉W/\Tg (edg qs) (W.getLast?.getD default) c:=by
 unfold nrs;rw[List.mem_flatMap];constructor;rintro⟨q,b,h⟩;split at h;rename_i f;obtain⟨d,a⟩:=List.mem_filter.mp h;simp only[Bool.and_eq_true,Bool.not_eq_true',decide_eq_false_iff_not,decide_eq_true_eq]at a;exact⟨d,a.2,q.2,dM.mpr ⟨q,b,rfl⟩,f,a.1⟩;cases h;rintro⟨d,a,e,he,g,i⟩;obtain⟨q,b,rfl⟩:=dM.mp he;refine⟨q,b,?_⟩;rw[a3O g];exact List.mem_filter.mpr ⟨d,by simp[a,i]⟩
structure Gr(qs:List (Str×List Str))(l0 T:List Str)(i:Nat):Prop where
 nd:T.Nodup
 sub:∀ c∈T,c∈l0
 no:¬ Acy (edg qs) T
 one:∀ c∈l0.take i,c∈T->Acy (edg qs) (T.filter λx=>decide (x≠c))
def Gr.off{qs:List (Str×List Str)}{l0 T:List Str}{i:Nat}{c:Str}(g:Gr qs l0 T i)(d:l0[i]? = some c)(h:¬ Acy (edg qs) (T.filter λx=>!decide (x=c))):Gr qs l0 (T.filter λx=>!decide (x=c)) (i+1):=by
 refine⟨g.nd.sublist List.filter_sublist,λx a=>g.sub x (List.mem_filter.mp a).1,h,λx a b=>?_⟩;obtain⟨e,f⟩:=List.mem_filter.mp b;rw[a5e,d]at a;rcases a3b.mp a with a | a;refine(g.one x a e).sub λy j=>?_;obtain⟨k,l⟩:=List.mem_filter.mp j;exact List.mem_filter.mpr ⟨(List.mem_filter.mp k).1,l⟩;have:x=c:=by simpa using a
 subst this;simp at f
def Gr.on{qs:List (Str×List Str)}{l0 T:List Str}{i:Nat}{c:Str}(g:Gr qs l0 T i)(d:l0[i]? = some c)(h:Acy (edg qs) (T.filter λx=>!decide (x=c))):Gr qs l0 T (i+1):=by
 refine⟨g.nd,g.sub,g.no,λx a b=>?_⟩;rw[a5e,d]at a;rcases a3b.mp a with a | a;exact g.one x a b;have:x=c:=by simpa using a
 subst this;refine h.sub λy e=>?_;obtain⟨f,j⟩:=List.mem_filter.mp e;exact List.mem_filter.mpr ⟨f,by simpa using j⟩
def Gr.mn{qs:List (Str×List Str)}{l0 T:List Str}(g:Gr qs l0 T l0.length)(h:1<=qs.length):Mn (edg qs) T:=⟨cQ8 h,g.nd,g.no,λv a=>by
 have:=g.one v (by rw[List.take_length];exact g.sub v a) a;exact this.sub λy b=>by obtain⟨c,d⟩:=List.mem_filter.mp b;exact List.mem_filter.mpr ⟨c,by simpa using d⟩⟩
noncomputable def cA2:DS:=(bJ (cM 5 (dSl (aG 2) rD (dP (dC (.int 1)))))
 (bJ (tT (cK (aX ltI (dCB mB (aC (aG 5) aL)) (dCB mB (aC (aG 2) aL))))
 (bJ (cM 6 (kZ aL))
 (bJ (qY (dIt (aG 1)) (lR 2 (cT (dgN 7) (cT (dgN 8) lA)))
 (iO (cK (aX (inD false) (aX ixD (aG 5) (aG1 cN8 (dC (.int 1)))) (aG 8))) (gY (tQ "list" 6 bS5 (aC (cN [3] (dIt (aG 2)) (dgN 3) (bK9 (cK (aX (inD false) (aG 3) (aG 8))) (cK (aX (inD true) (aG 3) (aG 5)))) (dFz (aG 3))) aL))) dI))
 (gY (jI "list" 5 aS5 (aC (aX ixD (aG 6) (dC (.int 0))) aL))))))
 (gQ (aG 5))))
def dT7{a b a0 b0:Int}{qs:List (Str×List Str)}{T:List Str}{J:Md}(L:J=.own\/J=.val){f:Bool}{g:D}{M:Option (Bool×D)}(h:Qw qs)(mn:Mn (edg qs) T)(N:∀ c∈T,c∈dF qs){K:Res->List Sl->Prop}
  (k:∀ W:List Str,isR qs W=true->(∀ c∈W,c∈dF qs)->W.length<=6->K (.own (.lst (W.map D.str))) [⟨.par,.lst [.int a,.int b]⟩,⟨.val,qD qs⟩]):RS cA2 [some ⟨.par,.lst [.int a,.int b]⟩,some ⟨.val,qD qs⟩,some ⟨J,.lst (T.map D.str)⟩,ov f g,fo M,none,none,none,none,none] (aC2 [⟨.par,.lst [.int a0,.int b0]⟩,⟨.val,qD qs⟩] K):=by
 have sl:1000<=sizeLine:=by decide
 have S:=h.qn;have q6:=h.l6;have T6:T.length<=6:=a6c (qU.nd_le mn.nd N) h.cn.2;have y:∀ c∈T,As c:=λc n=>mT S c (N c n);have T0:T≠[]:=λz=>mn.no ⟨[],by simp[z],True.intro⟩;obtain⟨t,r,rfl⟩:∃ t r,T=t::r:=by
  cases T with
  | nil=>exact absurd rfl T0
  | cons t r=>exact⟨t,r,rfl⟩
 generalize A:t::r=T at *;unfold cA2;rcases L with rfl | rfl
 all_goals
  walk_at "dx";rw[rS _ (by decide)];refine rF (λm τ=>∃ W f g U o p u v,m=T.length-W.length/\Wy (edg qs) T W/\0 < W.length/\W.length<=T.length/\τ=[some ⟨.par,.lst [.int a,.int b]⟩,some ⟨.val,qD qs⟩,some ⟨_,.lst (T.map D.str)⟩,ov f g,fo M,some ⟨.own,.lst (W.map D.str)⟩,fo U,ov o p,ov u v,none]) (T.length-1) (by lia) ⟨[t],f,g,none,false,.non,false,.non,by simp,⟨by simp,λw hw=>by rw[List.mem_singleton.mp hw,← A];exact a3a,λi hi=>absurd hi (by simp)⟩,by simp,by rw[← A];simp,by rw[← A];rfl⟩ ?_;rintro m τ ⟨W,f,g,U,o,p,u,v,rfl,E,H,wl,rfl⟩;walk_at "dx";rw[a1a,a1a];by_cases O:W.length < T.length
  ·rw[a3O (by lia)];refine⟨a0d _,?_⟩;have P:W≠[]:=λz=>by rw[z]at H;exact absurd H (by decide)
   have Q:W.getLast?.getD default∈W:=by rw[List.getLast?_eq_getElem?,a0a (by lia)];exact a5b _
   have F:∀ c∈W,As c:=λc n=>y c (E.sub c n);refine hJ (λi τ=>∃ f g o p u v,(nrs (qs.take i) T W).length<=6*i/\τ=[some ⟨.par,.lst [.int a,.int b]⟩,some ⟨.val,qD qs⟩,some ⟨_,.lst (T.map D.str)⟩,ov f g,fo M,some ⟨.own,.lst (W.map D.str)⟩,some ⟨.own,.lst ((nrs (qs.take i) T W).map D.str)⟩,ov o p,ov u v,none]) ⟨f,g,o,p,u,v,by simp[nrs],rfl⟩ ?_ ?_
   ·rintro i d τ hd ⟨f,g,o,p,u,v,V,rfl⟩;obtain⟨q,B,rfl⟩:=iL hd;have R:=a0c B;have hil:=(a2a.mp B).1;have G:∀ x∈q.2,As x:=λx hx=>((S.2 q R).2.2 x hx).2;have C:nrs (qs.take (i+1)) T W=nrs (qs.take i) T W++(if W.getLast?.getD default∈q.2 then T.filter λc=>decide (c∈q.2) && !decide (c∈W)else[]):=by
     unfold nrs;rw[a5e,B,List.flatMap_append];simp
    walk_at "dx";rw[aJ4 P];walk_at "dx";refine jH (F _ Q) G ?_;walk_at "dx";by_cases j:W.getLast?.getD default∈q.2
    ·rw[a3O j];rw[a3O j]at C;have fl:(T.filter λc=>decide (c∈q.2) && !decide (c∈W)).length<=T.length:=List.length_filter_le _ _;refine⟨by rw[a1a];lia,bE (λc=>decide (c∈q.2) && !decide (c∈W)) D.str D.str T [_,_,_,none,_,_,_,_,_,_] rfl (λc n=>?_) ?_⟩;walk_at "dx";refine jH (y c n) G ?_;walk_at "dx";by_cases l:c∈q.2;rw[a3O l];refine aY3 (y c n) F ?_;walk_at "dx";rw[a3T l,Bool.true_and];rw[a3P l,a3Q l];rfl;walk_at "dx";refine⟨by rw[a1a,a1a];lia,_,.inl rfl,f,g,true,.str q.1,true,.tup (q.2.map D.str),by rw[C,a8a];lia,?_⟩;rw[C,a1c];rfl
    ·rw[a3P j];rw[a3P j,a3g]at C;exact⟨_,.inl rfl,f,g,true,_,true,_,by rw[C];lia,by rw[C];rfl⟩
   ·rintro τ ⟨f,g,o,p,u,v,V,rfl⟩;rw[a1a,List.take_length]at V;rw[a1a,List.take_length];obtain⟨c,c1,c2,c3⟩:=dS9 mn E H O;have X:W.getLast?.getD default=W[W.length-1]'(by lia):=by rw[List.getLast?_eq_getElem?,a0a (by lia)];rfl
    have Y:c∈nrs qs T W:=cA1.mpr ⟨c1,c2,by rw[X];exact c3⟩;obtain⟨e,s,I⟩:∃ e s,nrs qs T W=e::s:=by
     cases I:nrs qs T W with
     | nil=>rw[I]at Y;cases Y
     | cons e s=>exact⟨e,s,rfl⟩
    obtain⟨e1,e2,Z⟩:=cA1.mp (show e∈nrs qs T W by rw[I];exact a3a);rw[X]at Z;walk_at "dx";rw[I];refine qV (x:=.str e) (by rw[a4e];exact eC6) ?_;refine⟨by rw[a1a];lia,.inl ⟨_,_,.inl rfl,?_,W++[e],f,g,some (true,_),o,p,u,v,rfl,bY8 E H e1 e2 Z,by rw[a8a];lia,by rw[a8a,List.length_singleton];lia,by rw[a1c];rfl⟩⟩;rw[a8a,List.length_singleton];lia
  ·rw[a3P (by lia)];exact k W (cQ5 mn E (by lia)) (λc n=>N c (E.sub c n)) (by lia)
theorem Qw.cut{qs:List (Str×List Str)}(h:Qw qs)(cs:List Str):Qn (aJ6 qs cs)/\((aJ6 qs cs).map Prod.fst).Nodup/\1<=(aJ6 qs cs).length:=⟨h.qn.cut cs,by rw[cI1];exact h.nd,by unfold aJ6;rw[a1a];exact h.l1⟩
def cI6{a b:Int}{qs:List (Str×List Str)}(h:Qw qs){K:Res->List Sl->Prop}
  (k:∀ (W:List Str) B C,(W=[]/\cH8 qs\/isR qs W=true/\¬ cH8 qs)->(∀ c∈W,c∈dF qs)->W.length<=6->K (.own (.lst (W.map D.str))) [⟨.par,.lst [.int B,.int C]⟩,⟨.val,qD qs⟩]):CK cV [⟨.par,.lst [.int a,.int b]⟩,⟨.val,qD qs⟩] K:=by
 have sl:1000<=sizeLine:=by decide
 have p:=h.qn;have O:=h.l6;have A:=mT p;have P:=h.cn.2;unfold cV;rw[eR];show RS eG [_,_,none,none,none,none,none,none,none,none] _;rw[show eG=(bJ (cM 2 (aV 2 aU (aC (aG 0) (aC (aV 1 bB (aC (aG 1) aL)) aL))))
 (bJ (iO (cK (aV 1 eB (aC (aG 1) aL))) (gQ (kZ aL)) dI)
 (bJ (qY (dIt (dCB sM (aC (aG 2) aL))) (dgN 3)
 (bJ (cM 4 (cN [9] (dIt (aG 2)) (dgN 9) (cK (aX (eqD true) (aG 9) (aG 3))) (dFz (aG 9))))
 (iO (bL0 (cK (aV 1 eB (aC (aV 2 dW (aC (aG 1) (aC (aG 4) aL))) aL)))) (cM 2 (dFz (aG 4))) dI)))
 cA2)))from rfl]
 walk_at "dx";refine fY p ?_;walk_at "dx";refine pK (xs:=(dF qs).map D.str) (.inr (.inr ⟨rfl,rfl⟩)) (by rw[a1a];lia) λys r s E=>?_;obtain⟨l0,rfl,e⟩:=aJ5 D.str E rfl;have Q:=e.length_eq;walk_at "dx";refine bZ7 p h.nd h.l1 ?_;walk_at "dx";by_cases m:cH8 qs;rw[a3O (mU.mpr m)];exact⟨a0d _,k [] r s (.inl ⟨rfl,m⟩) (λc f=>nomatch f) (by decide)⟩;rw[a3P λz=>m (mU.mp z)];refine hJ (λi τ=>∃ (T:List Str) (n:Md) (t:Bool) (u:D) (v:Option (Bool×D)),(n=.own\/n=.val)/\Gr qs l0 T i/\τ=[some ⟨.par,.lst [.int r,.int s]⟩,some ⟨.val,qD qs⟩,some ⟨n,.lst (T.map D.str)⟩,ov t u,fo v,none,none,none,none,none]) ⟨l0,.own,false,.non,none,.inl rfl,⟨e.nodup_iff.mpr h.cn.1,λc f=>f,λz=>m (z.sub λx w=>e.mem_iff.mpr w),λc f=>by simp at f⟩,rfl⟩ ?_ ?_
 ·rintro i d τ hd ⟨T,n,t,u,v,j,g,rfl⟩;obtain⟨c,l,rfl⟩:=iL hd;have y:=a0c l;have o:∀ c∈T,As c:=λc f=>A c (e.mem_iff.mp (g.sub c f));have F:T.length<=6:=a6c (qU.nd_le g.nd g.sub) (by lia);rcases j with rfl | rfl
  all_goals
   walk_at "dx";refine⟨by rw[a1a];lia,bE (λx=>!decide (x=c)) D.str D.str T [_,_,_,_,_,none,none,none,none,none] rfl (λx w=>?_) ?_⟩;walk_at "dx";refine bX4 (o x w) (A c (e.mem_iff.mp y)) ?_;walk_at "dx";walk_at "dx";refine aZ0 p (λz G=>o z (List.mem_filter.mp G).1) ?_;walk_at "dx";obtain⟨H,I,J⟩:=h.cut (T.filter λx=>!decide (x=c));refine bZ7 H I J ?_;walk_at "dx";by_cases q:Acy (edg qs) (T.filter λx=>!decide (x=c));rw[mU.mpr ((bZ6 h.l1).mpr q),a3P (by decide)];exact⟨_,.inl rfl,T,_,true,.str c,some (true,_),by simp,g.on l q,rfl⟩;rw[Bool.eq_false_iff.mpr λz=>q ((bZ6 h.l1).mp (mU.mp z)),a3O (by decide)];exact⟨_,.inl rfl,_,.val,true,.str c,some (false,_),.inr rfl,g.off l q,rfl⟩
 ·rintro τ ⟨T,n,t,u,v,j,g,rfl⟩;rw[a1a]at g;exact dT7 j h (g.mn h.l1) (λc f=>e.mem_iff.mp (g.sub c f)) λW L M N=>k W r s (.inr ⟨L,m⟩) M N
def cI7{b:Bool}{K:Res->List Sl->Prop}(k:K (.val (.bl true)) [⟨.val,.bl b⟩,⟨.val,.bl b⟩]):CK fH [⟨.val,.bl b⟩,⟨.val,.bl b⟩] K:=by
 unfold fH;rw[eR];show RS iH [_,_] _;unfold iH;walk_at "dx";have e:eqD false (.bl b) (.bl b)=some (.val (.bl true)):=by cases b<;>rfl
 rw[a3O (by decide),e];exact k
def cA3{i n:Nat}{C:MC}{d:DA}{σ:Sg}{Q:Out->Prop}:aA3 i n C d σ Q=RA d σ λrs a=>AK a rs λas=>(as.length=n/\eW rs=true)/\C as λy as'=>BK rs as' a λb=>PtK i y b λc=>Q (.nx c):=by
 unfold aA3 RA AK BK PtK;congr 1;funext x;congr 1;funext as;apply propext;constructor;rintro⟨h,q⟩;simp only[cE1 h.2]at q;exact⟨h,q⟩;rintro⟨h,q⟩;simp only[← cE1 h.2]at q;exact⟨h,q⟩
def aZ1{qs:List (Str×List Str)}(h:Qw qs){K:Res->List Sl->Prop}(k:K (.val (.bl true)) [⟨.val,qD qs⟩]):CK bP [⟨.val,qD qs⟩] K:=by
 have sl:1000<=sizeLine:=by decide
 have o:=h.l6;unfold bP;rw[eR];show RS eJ [_,none] _;unfold eJ;walk_at "dx";refine bK6 h.qn (by lia) h.cn.2 ?_;walk_at "dx";refine bZ7 h.qn h.nd h.l1 ?_;walk_at "dx";by_cases d:cH8 qs
 ·rw[a3O (mU.mpr d)];have:aJ3 qs=none:=by
   cases e:aJ3 qs with
   | none=>rfl
   | some w=>
     have a:isR qs w=true:=by
      unfold aJ3 at e;simpa using List.find?_some e
     obtain⟨g,i⟩:=aY8 a;exact absurd (d.sub λc j=>fX.mpr (i c j)) g
  rw[this];have l:isD false .non .non=some (.val (.bl true)):=by first | rfl | simp[isD]
  refine qV (x:=.val (.bl true)) l ?_;walk_at "dx";exact k
 ·rw[a3P λz=>d (mU.mp z)];obtain⟨w,m,a⟩:=bK4 (λz=>by have:=h.l1;rw[z]at this;exact absurd this (by decide)) h.cn.1 d;have b:∀ z∈w,z∈dF qs:=λz f=>fX.mpr ((aY8 a).2 z f);have n:w.length<=6:=a6c (qU.nd_le (zQ a).2.1 b) h.cn.2;rw[m];walk_at "dx";refine qV (x:=.val (.bl true)) rfl ?_;walk_at "dx";refine nR h.qn (by lia) (λz f=>mT h.qn z (b z f)) (by lia) ?_;rw[a];walk_at "dx";exact k
noncomputable def dC4:DS:=(bJ (iO (cK (aX (eqD false) (aG 6) (dC (.int 7)))) (aS6 3 (aG 4) (aX ixD (kZ (aC (dC (.str "zzzz")) (aC (aX ixD (aG 3) (aG 5)) aL))) (aV 2 aJ (aC (aG 0) (aC (dC (.int 2)) aL))))) dI)
 (gQ (dCB aK1 (aC (aG 3) aL))))
noncomputable def dC5:DS:=(bJ (iO (cK (aX (eqD false) (aG 6) (dC (.int 6)))) (gY (jI "list" 3 dP8 (aC (dFz (aG 4)) (aC (aX ixD (aV 1 bB (aC (aG 1) aL)) (aV 2 aJ (aC (aG 0) (aC (dCB mB (aC (aV 1 bB (aC (aG 1) aL)) aL)) aL)))) aL)))) dI) dC4)
noncomputable def cI8:DS:=(bJ (iO (cK (aX (eqD false) (aG 6) (dC (.int 5)))) (gY (jI "list" 3 tX (aC (dFz (aG 4)) aL))) dI) dC5)
noncomputable def dC6:DS:=(bJ (iO (dOr (cK (aX (eqD false) (aG 6) (dC (.int 3)))) (cK (aX (eqD false) (aG 6) (dC (.int 4))))) (cG3 3 (aG 4) (aG 5) (aS3 (aC (aX ixD (aG 3) (aG 5)) (aC (aX ixD (aG 3) (aG 4)) aL)))) dI) cI8)
noncomputable def dC7:DS:=(bJ (iO (dOr (cK (aX (eqD false) (aG 6) (dC (.int 1)))) (cK (aX (eqD false) (aG 6) (dC (.int 2))))) (cM 3 (aG1 cZ1 (aG 3))) dI) dC6)
noncomputable def dC8:DS:=(bJ (iO (cK (aX ltI (aG 6) (dC (.int 2)))) (cM 3 (aX iT (dSl (aG 3) (dP (aG 4)) rD) (dSl (aG 3) rD (dP (aG 4))))) dI) dC7)
noncomputable abbrev chS(a b:Int)(qs:List (Str×List Str))(W l:List Str)(i j w:Int):Sg:=[some ⟨.par,.lst [.int a,.int b]⟩,some ⟨.val,qD qs⟩,some ⟨.par,.lst (W.map D.str)⟩,some ⟨.own,.lst (l.map D.str)⟩,some ⟨.val,.int i⟩,some ⟨.val,.int j⟩,some ⟨.val,.int w⟩]
section
variable{a b a0 b0:Int}{qs:List (Str×List Str)}{W l:List Str}{i j w:Int}{K:Res->List Sl->Prop}
def dT8(n:0<=i)(o:0<=j)(hi:w=5\/i < l.length/\j < l.length)(m:l.length<=9)(ha:∀ z∈l,As z)
  (k:∀ (l:List Str) p q,l.length<=9->(∀ z∈l,As z)->K (.val (tS l)) [⟨.par,.lst [.int p,.int q]⟩,⟨.val,qD qs⟩,⟨.par,.lst (W.map D.str)⟩]):RS dC4 (chS a b qs W l i j w) (aC2 [⟨.par,.lst [.int a0,.int b0]⟩,⟨.val,qD qs⟩,⟨.par,.lst (W.map D.str)⟩] K):=by
 have sl:1000<=sizeLine:=by decide
 unfold dC4 chS;walk_at "dx";split
 ·rename_i y;obtain⟨hi,r⟩:=hi.resolve_left (by lia);obtain⟨c,s,g⟩:=aE0 D.str (l:=l) (i:=j) o r;rw[s];walk_at "dx";refine⟨sl2,dA (by decide) (by decide) λd A B t u=>?_⟩;obtain⟨e,v,f⟩:=aE0 D.str (l:=[Str.ofString "zzzz",c]) (i:=d) t (by simpa using u);have h:As e:=by
   simp only[List.mem_cons,List.not_mem_nil,or_false]at f;rcases f with rfl | rfl;exact(show ∀ c∈_,c < 128 by decide);exact ha _ g
  walk_at "dx";rw[show[D.str (Str.ofString "zzzz"),D.str c]=[Str.ofString "zzzz",c].map D.str from rfl,v];walk_at "dx";refine qV (aR3 n (by rw[a1a];exact hi)) ?_;rw[← List.map_set];exact k _ _ _ (by rw[a9e];exact m) λz x=>(List.mem_or_eq_of_mem_set x).elim (ha z) λe=>by rw[e];exact h
 ·exact k l a b m ha
def dT9(h:Qw qs)(f:0<=i)(m:0<=j)(hi:w=5\/i < l.length/\j < l.length)(y:l.length<=8)(ha:∀ z∈l,As z)
  (k:∀ (l:List Str) r s,l.length<=9->(∀ z∈l,As z)->K (.val (tS l)) [⟨.par,.lst [.int r,.int s]⟩,⟨.val,qD qs⟩,⟨.par,.lst (W.map D.str)⟩]):RS dC5 (chS a b qs W l i j w) (aC2 [⟨.par,.lst [.int a0,.int b0]⟩,⟨.val,qD qs⟩,⟨.par,.lst (W.map D.str)⟩] K):=by
 have sl:1000<=sizeLine:=by decide
 unfold dC5 chS;walk_at "dx";split
 ·rename_i A;obtain⟨hi,B⟩:=hi.resolve_left (by lia);have C:0 < (dF qs).length:=by
   obtain⟨q,n⟩:=List.exists_mem_of_length_pos (l:=qs) h.l1;obtain⟨c,t⟩:=List.exists_mem_of_ne_nil _ (h.ne q n);exact List.length_pos_of_mem (fX.mpr ⟨q,n,t⟩)
  have E:=h.cn.2;refine fY h.qn ?_;walk_at "dx";refine fY h.qn ?_;walk_at "dx";refine dA (by rw[a1a];lia) (by rw[a1a];lia) λd F G u o=>?_;obtain⟨c,v,g⟩:=aE0 D.str (l:=dF qs) (i:=d) u (by rw[a1a]at o;exact o);walk_at "dx";rw[v];walk_at "dx";have x:dP8 (.lst (l.map D.str)) [.int i,.str c]=some (.lst ((l.take i.toNat++c::l.drop i.toNat).map D.str),.non):=by
   show(if 0<=i/\i<=((l.map D.str).length:Int)/\(l.map D.str).length < 1000 then some (D.lst ((l.map D.str).take i.toNat++.str c::(l.map D.str).drop i.toNat),D.non)else none)=_;rw[a3O ⟨f,by rw[a1a];lia,by rw[a1a];lia⟩,a1c,a4e,a0i,List.map_drop]
  refine qV x ?_;have p:(l.take i.toNat++c::l.drop i.toNat).length=l.length+1:=by rw[a8a,a6f,a9c,a1f];lia
  exact dT8 f m (.inr (by rw[p];lia)) (by rw[p];lia) (λz e=>by
   rcases a3b.mp e with e | e;exact ha z (a8d e);rcases a4b.mp e with rfl | e;exact mT h.qn _ g;exact ha z (List.mem_of_mem_drop e)) k
 ·exact dT8 f m hi (by lia) ha k
def dU0(h:Qw qs)(d:0<=i)(e:0<=j)(hi:i < l.length/\j < l.length)(m:l.length<=8)(ha:∀ z∈l,As z)
  (k:∀ (l:List Str) n o,l.length<=9->(∀ z∈l,As z)->K (.val (tS l)) [⟨.par,.lst [.int n,.int o]⟩,⟨.val,qD qs⟩,⟨.par,.lst (W.map D.str)⟩]):RS cI8 (chS a b qs W l i j w) (aC2 [⟨.par,.lst [.int a0,.int b0]⟩,⟨.val,qD qs⟩,⟨.par,.lst (W.map D.str)⟩] K):=by
 have sl:1000<=sizeLine:=by decide
 unfold cI8 chS;walk_at "dx";split
 ·rename_i p;refine cP9 (l:=l.map D.str) d (by rw[a1a];exact hi.1) (by lia) λy r q u=>?_;obtain⟨f,g,c⟩:=aJ5 D.str q rfl;cases f with
  | nil=>cases g
  | cons z f=>
    injection g with v s
    subst s;walk_at "dx";have:=c.length_eq;rw[a6f]at this;exact dT9 h d e (.inl p) (by lia) (λz t=>ha z (c.mem_iff.mp (a4a _ t))) k
 ·exact dT9 h d e (.inr hi) m ha k
def dU1(h:Qw qs)(d:0<=i)(f:0<=j)(hi:i < l.length/\j < l.length)(o:l.length<=8)(ha:∀ z∈l,As z)
  (k:∀ (l:List Str) r s,l.length<=9->(∀ z∈l,As z)->K (.val (tS l)) [⟨.par,.lst [.int r,.int s]⟩,⟨.val,qD qs⟩,⟨.par,.lst (W.map D.str)⟩]):RS dC6 (chS a b qs W l i j w) (aC2 [⟨.par,.lst [.int a0,.int b0]⟩,⟨.val,qD qs⟩,⟨.par,.lst (W.map D.str)⟩] K):=by
 have sl:1000<=sizeLine:=by decide
 obtain⟨c,p,m⟩:=aE0 D.str (l:=l) (i:=i) d hi.1;obtain⟨e,q,n⟩:=aE0 D.str (l:=l) (i:=j) f hi.2;have go:RS cI8 (chS a b qs W ((l.set i.toNat e).set j.toNat c) i j w) (aC2 [⟨.par,.lst [.int a0,.int b0]⟩,⟨.val,qD qs⟩,⟨.par,.lst (W.map D.str)⟩] K):=dU0 h d f (by rw[a9e,a9e];exact hi) (by rw[a9e,a9e];exact o) (λz g=>by
  rcases List.mem_or_eq_of_mem_set g with g | rfl;rcases List.mem_or_eq_of_mem_set g with g | rfl;exact ha z g;exact ha _ n;exact ha _ m) k
 unfold chS at go;rw[List.map_set,List.map_set]at go;unfold dC6 chS;walk_at "dx";split;rw[q,p];walk_at "dx";refine⟨sl2,qV (aR3 d (by rw[a1a];exact hi.1)) (qV (aR3 f (by rw[a9e,a1a];exact hi.2)) go)⟩;split;rw[q,p];walk_at "dx";refine⟨sl2,qV (aR3 d (by rw[a1a];exact hi.1)) (qV (aR3 f (by rw[a9e,a1a];exact hi.2)) go)⟩;exact dU0 h d f hi o ha k
def dU2(h:Qw qs)(c:0<=i)(d:0<=j)(hi:i < l.length/\j < l.length)(e:l.length<=8)(ha:∀ z∈l,As z)
  (k:∀ (l:List Str) f g,l.length<=9->(∀ z∈l,As z)->K (.val (tS l)) [⟨.par,.lst [.int f,.int g]⟩,⟨.val,qD qs⟩,⟨.par,.lst (W.map D.str)⟩]):RS dC7 (chS a b qs W l i j w) (aC2 [⟨.par,.lst [.int a0,.int b0]⟩,⟨.val,qD qs⟩,⟨.par,.lst (W.map D.str)⟩] K):=by
 have sl:1000<=sizeLine:=by decide
 have go:=dU1 (a:=a) (b:=b) (a0:=a0) (b0:=b0) (l:=l.reverse) (w:=w) h c d (by rw[List.length_reverse];exact hi) (by rw[List.length_reverse];exact e) (λz m=>ha z (List.mem_reverse.mp m)) k;unfold chS at go;rw[List.map_reverse]at go;unfold dC7 chS;walk_at "dx";split;exact go;split;exact go;exact dU1 h c d hi e ha k
def eB0(h:Qw qs)(c:0<=i)(d:0<=j)(hi:i < l.length/\j < l.length)(e:l.length<=8)(ha:∀ z∈l,As z)
  (k:∀ (l:List Str) g m,l.length<=9->(∀ z∈l,As z)->K (.val (tS l)) [⟨.par,.lst [.int g,.int m]⟩,⟨.val,qD qs⟩,⟨.par,.lst (W.map D.str)⟩]):RS dC8 (chS a b qs W l i j w) (aC2 [⟨.par,.lst [.int a0,.int b0]⟩,⟨.val,qD qs⟩,⟨.par,.lst (W.map D.str)⟩] K):=by
 have sl:1000<=sizeLine:=by decide
 have f:(l.drop i.toNat++l.take i.toNat).length=l.length:=by rw[a8a,a1f,a9c];lia
 have go:=dU2 (a:=a) (b:=b) (a0:=a0) (b0:=b0) (l:=l.drop i.toNat++l.take i.toNat) (w:=w) h c d (by rw[f];exact hi) (by rw[f];exact e) (λz n=>(a3b.mp n).elim (λh=>ha z (List.mem_of_mem_drop h)) λh=>ha z (a8d h)) k;unfold chS at go;rw[a1c]at go;unfold dC8 chS;walk_at "dx";split;rw[rS _ c,zS _ c];refine⟨by rw[a1a,a1a,a1f,a9c];lia,go⟩;exact dU2 h c d hi e ha k
noncomputable def dC9:DS:=(bJ (cM 4 (aV 2 aJ (aC (aG 0) (aC (dCB mB (aC (aG 3) aL)) aL))))
 (bJ (cM 5 (aV 2 aJ (aC (aG 0) (aC (dCB mB (aC (aG 3) aL)) aL))))
 (bJ (cM 6 (aV 2 aJ (aC (aG 0) (aC (dC (.int 8)) aL))))
 dC8)))
def dU3(h:Qw qs)(e:l≠[])(f:l.length<=8)(g:∀ z∈l,As z)(k:∀ (l:List Str) m n,l.length<=9->(∀ z∈l,As z)->K (.val (tS l)) [⟨.par,.lst [.int m,.int n]⟩,⟨.val,qD qs⟩,⟨.par,.lst (W.map D.str)⟩]):RS dC9 [some ⟨.par,.lst [.int a,.int b]⟩,some ⟨.val,qD qs⟩,some ⟨.par,.lst (W.map D.str)⟩,some ⟨.own,.lst (l.map D.str)⟩,none,none,none] (aC2 [⟨.par,.lst [.int a0,.int b0]⟩,⟨.val,qD qs⟩,⟨.par,.lst (W.map D.str)⟩] K):=by
 have sl:1000<=sizeLine:=by decide
 have l0:=List.length_pos_iff.mpr e;unfold dC9;walk_at "dx";refine dA (by rw[a1a];lia) (by rw[a1a];lia) λi q r o c=>?_;rw[a1a]at c;walk_at "dx";refine dA (by rw[a1a];lia) (by rw[a1a];lia) λj s t p d=>?_;rw[a1a]at d;walk_at "dx";refine dA (by decide) (by decide) λw u v x y=>?_;walk_at "dx";exact eB0 h o p ⟨c,d⟩ f g k
def bK7(h:Qw qs)(s:W.length<=6)(ha:∀ z∈W,As z)
  (k:∀ (l:List Str) g i,l.length<=9->(∀ z∈l,As z)->K (.val (tS l)) [⟨.par,.lst [.int g,.int i]⟩,⟨.val,qD qs⟩,⟨.par,.lst (W.map D.str)⟩]):CK eK [⟨.par,.lst [.int a,.int b]⟩,⟨.val,qD qs⟩,⟨.par,.lst (W.map D.str)⟩] K:=by
 have sl:1000<=sizeLine:=by decide
 have j:=mT h.qn;have u:=h.cn.2;have v:0 < (dF qs).length:=by
  obtain⟨q,f⟩:=List.exists_mem_of_length_pos (l:=qs) h.l1;obtain⟨c,m⟩:=List.exists_mem_of_ne_nil _ (h.ne q f);exact List.length_pos_of_mem (fX.mpr ⟨q,f,m⟩)
 unfold eK;rw[eR];show RS fW [_,_,_,none,none,none,none] _;rw[show fW=(bJ (cM 3 (dCB sM (aC (aG 2) aL)))
 (bJ (iO (cK (aX (eqD false) (aG 3) (kZ aL))) (cM 3 (dSl (aV 2 aU (aC (aG 0) (aC (aV 1 bB (aC (aG 1) aL)) aL))) rD (dP (aX iT (dC (.int 3)) (aV 2 aJ (aC (aG 0) (aC (dC (.int 4)) aL))))))) dI)
 dC9))from rfl]
 walk_at "dx";refine⟨a0d _,zI (n:=0) (oks ha) (by decide) ?_⟩;rw[List.isEmpty_map];walk_at "dx";cases W with
 | nil=>
   rw[a3O (show([]:List Str).isEmpty=true from rfl)];refine fY h.qn ?_;walk_at "dx";refine pK (xs:=(dF qs).map D.str) (.inr (.inr ⟨rfl,rfl⟩)) (by rw[a1a];lia) λys w x o=>?_;obtain⟨l0,rfl,e⟩:=aJ5 D.str o rfl;have y:=e.length_eq;walk_at "dx";refine dA (by decide) (by decide) λd A B C E=>?_;walk_at "dx";rw[rS _ (by lia)];refine dU3 h (λz=>?_) (a6c (List.length_take_le' _ _) (by lia)) (λz p=>j z (e.mem_iff.mp (a8d p))) k;have:=a3W List.length z;rw[a9c,a5g]at this;lia
 | cons t r=>
   rw[a3P (λz=>nomatch z)];exact dU3 h (λz=>nomatch z) (by lia) ha k
end
noncomputable def dD0:DS:=(qY (sU (aC (dC (.int 3)) (aC (dCB bS3 (aC (dC (.int 8)) (aC (dCB bH9 (aC (dC (.int 13)) (aC (dCB mB (aC (aG 0) aL)) aL))) aL))) aL))) (dgN 5)
 (bJ (cM 6 (aV 3 eK (aC (aV 2 cY (aC (aG 0) (aC (aG 5) aL))) (aC (aG 3) (aC (aG 4) aL)))))
 (iO (bL0 (cK (aV 2 fH (aC (aV 2 cZ (aC (aG 3) (aC (aG 6) aL))) (aC (aV 2 cS (aC (aG 3) (aC (aG 6) aL))) aL))))) (gQ (dC (.bl false))) dI)))
noncomputable def dD1:DS:=(bJ (cM 4 (aV 2 cV (aC (aV 2 cY (aC (aG 0) (aC (dC (.int 2)) aL))) (aC (aG 3) aL))))
 (bJ (iO (dOr (bK9 (cK (aX (eqD true) (aG 4) (kZ aL))) (cK (aX (isD true) (aV 2 cZ (aC (aG 3) (aC (dCB aK1 (aC (aG 4) aL)) aL))) (dC (.bl true))))) (bL0 (cK (aV 1 bP (aC (aG 3) aL))))) (gQ (dC (.bl false))) dI)
 dD0))
section
variable{ns:List Int}{q1 q2 qs:List (Str×List Str)}{Q:Out->Prop}
def dU4(h:Qw qs){W:List Str}(n:W.length<=6)(ha:∀ z∈W,As z){e f:Bool}{g d6:D}(k:∀ o e g f d6,Q (.nx [some ⟨.val,.lst (ns.map D.int)⟩,some ⟨.val,qD q1⟩,some ⟨.val,qD q2⟩,some ⟨.val,qD qs⟩,fo o,ov e g,ov f d6])) :
  RS dD0 [some ⟨.val,.lst (ns.map D.int)⟩,some ⟨.val,qD q1⟩,some ⟨.val,qD q2⟩,some ⟨.val,qD qs⟩,some ⟨.own,.lst (W.map D.str)⟩,ov e g,ov f d6] Q:=by
 have sl:1000<=sizeLine:=by decide
 have q:=h.l6;obtain⟨c,p,r,s⟩:∃ c:Int,(if(if(((ns.map D.int).length:Nat):Int) < 13 then(((ns.map D.int).length:Nat):Int)else 13) > 8 then(if(((ns.map D.int).length:Nat):Int) < 13 then(((ns.map D.int).length:Nat):Int)else 13)else 8)=c/\8<=c/\c<=13:=⟨_,rfl,by split<;>lia,by split<;>(try split)<;>lia⟩;unfold dD0;walk_at "dx";rw[p];refine⟨by lia,?_⟩;refine hJ (λi m=>∃ e g f d6,m=[some ⟨.val,.lst (ns.map D.int)⟩,some ⟨.val,qD q1⟩,some ⟨.val,qD q2⟩,some ⟨.val,qD qs⟩,some ⟨.own,.lst (W.map D.str)⟩,ov e g,ov f d6]) ⟨e,g,f,d6,rfl⟩ ?_ ?_
 ·rintro i d m hd ⟨e,g,f,d6,rfl⟩;obtain⟨hi,rfl⟩:=qS hd;walk_at "dx";refine bE5 (by lia) (by lia) λa b=>?_;walk_at "dx";refine bK7 h n ha λl t u v j=>?_;walk_at "dx";refine mY h.qn (by lia) j (by lia) ?_;walk_at "dx";refine nR h.qn (by lia) j (by lia) ?_;walk_at "dx";refine cI7 ?_;walk_at "dx";exact⟨_,.inl rfl,true,_,true,_,rfl⟩
 ·rintro m ⟨e,g,f,d6,rfl⟩;exact k (some (true,_)) e g f d6
def eB1(h:Qw qs){f:Option (Bool×D)}{g i:Bool}{j d6:D}(k:∀ f g j i d6,Q (.nx [some ⟨.val,.lst (ns.map D.int)⟩,some ⟨.val,qD q1⟩,some ⟨.val,qD q2⟩,some ⟨.val,qD qs⟩,fo f,ov g j,ov i d6])) :
  RS dD1 [some ⟨.val,.lst (ns.map D.int)⟩,some ⟨.val,qD q1⟩,some ⟨.val,qD q2⟩,some ⟨.val,qD qs⟩,fo f,ov g j,ov i d6] Q:=by
 have sl:1000<=sizeLine:=by decide
 have t:=h.l6;have p:=mT h.qn;unfold dD1;walk_at "dx";refine bE5 (by decide) (by decide) λa b=>?_;walk_at "dx";refine cI6 h λW u v q l e=>?_;have d:∀ c∈W,As c:=λc r=>p c (l c r);walk_at "dx";refine⟨a0d _,zI (n:=0) (oks d) (by decide) ?_⟩;rw[List.isEmpty_map];walk_at "dx";have s:isD true (.bl true) (.bl true)=some (.val (.bl false)):=rfl;rcases q with⟨rfl,ac⟩ | ⟨o,ac⟩;rw[a3P (by decide)];refine aZ1 h ?_;walk_at "dx";exact dU4 h e d k;have m:W.isEmpty=false:=by
  cases W with
  | nil=>have:=(zQ o).1;exact absurd this (by decide)
  | cons=>rfl
 rw[m,a3O (by decide)];refine mY h.qn (by lia) d (by lia) ?_;rw[o];walk_at "dx";refine qV s ?_;walk_at "dx";refine aZ1 h ?_;walk_at "dx";exact dU4 h e d k
end
def cI9(ns:List Int)(hn:ns.length<=63):zE [⟨.val,.lst (ns.map D.int)⟩] λy _=>y=.val (.bl true):=by
 have sl:10000<=sizeLine:=by decide
 unfold zE dD9;refine aX6 _ _ _ (λo h=>bX8 h) ?_;show aD6 [_,none,none,none,none,none,none] _;rw[show aD6=(bL1 (aA3 1 1 cG (aC (aV 2 cY (aC (aG 0) (aC (dC (.int 0)) aL))) aL))
 (bL1 (aA3 2 1 cG (aC (aV 2 cY (aC (aG 0) (aC (dC (.int 1)) aL))) aL))
 (RS (bJ (qY (dIt (aS3 (aC (dFz (aG 1)) (aC (dFz (aG 2)) aL)))) (dgN 3) dD1)
 (gQ (sK (aV 1 bP (aC (aG 1) aL)) (aX (isD false) (aV 2 cZ (aC (aG 1) (aC (aS3 aL) aL))) (dC (.bl false)))))))))from rfl]
 unfold bL1;rw[cA3];walk_at "dx";refine bE5 (by decide) (by decide) λa b=>?_;walk_at "dx";refine zN λk t u j=>?_;walk_at "dx";rw[cA3];walk_at "dx";refine bE5 (by decide) (by decide) λv w=>?_;walk_at "dx";refine zN λq A B r=>?_;walk_at "dx";refine⟨sl2,?_⟩;refine hJ (λi l=>∃ m p c e f g d6,l=[some ⟨.val,.lst (ns.map D.int)⟩,some ⟨.val,qD k⟩,some ⟨.val,qD q⟩,ov m p,fo c,ov e f,ov g d6]) ⟨false,.non,none,false,.non,false,.non,rfl⟩ ?_ ?_
 ·rintro i d l hd ⟨m,p,c,e,f,g,d6,rfl⟩;obtain⟨qs,rfl,h⟩:∃ qs,d=qD qs/\Qw qs:=by
   match i,hd with
   | 0,hd=>exact⟨k,by simpa using hd.symm,j⟩
   | 1,hd=>exact⟨q,by simpa using hd.symm,r⟩
   | n+2,hd=>simp at hd
  walk_at "dx";refine eB1 h λc e f g d6=>?_;exact⟨_,.inl rfl,true,_,c,e,f,g,d6,rfl⟩
 ·rintro l ⟨m,p,c,e,f,g,d6,rfl⟩;walk_at "dx";refine aZ1 j ?_;walk_at "dx";have C:=j.l6;refine⟨a0d _,mY (cs:=[]) j.qn (by lia) (λz s=>nomatch s) (by decide) ?_⟩;have:isR k []=false:=by unfold isR;rw[a3Q (by decide)];rfl
  rw[this];walk_at "dx";refine qV (x:=.val (.bl true)) rfl ?_;walk_at "dx"
end Mr
namespace Mr
open PySem L2
def aS1(H0 H:Hp)(es:List V):Prop:=∀ e∈es,∃ (w:Addr) (ns:List Int),e=.ref w/\H w=some (.lst (ns.map V.int))/\ns.length<=5/\((∀ n∈ns,0<=n/\n < 6)/\ns.Nodup/\ns≠[])/\H0 w=none
def LoI(m:Int)(H:Hp)(e:V):Prop:=∃ (w:Addr) (ns:List Int),e=.ref w/\H w=some (.lst (ns.map V.int))/\∀ n∈ns,n < m
def LoI.mono{m:Int}{H H':Hp}{e:V}(h:LoI m H e)(k:∀ w o,e=.ref w->H w=some o->H' w=some o):LoI m H' e:=by
 obtain⟨w,ns,a,b,c⟩:=h;exact⟨w,ns,a,k w _ a b,c⟩
theorem LoI.ne{m:Int}{H:Hp}{e:V}{l:Addr}(h:LoI m H e)(c:H l=none):e≠.ref l:=λz=>by
 obtain⟨w,ns,a,b,d⟩:=h;rw[z]at a;cases a;rw[c]at b;cases b
def aJ7{α:Type}{l:List α}{x:α}(h:l.Nodup)(d:x∉l):(l++[x]).Nodup:=List.nodup_append.mpr ⟨h,by simp,λa ha b c z=>d (by rw[List.mem_singleton]at c;subst c;rw[← z];exact ha)⟩
noncomputable abbrev i6:List V:=(List.range 6).map λ(i:Nat)=>V.int (i:Int)
def zT:Sps:=λ_ vs H Q _=>∃ p q:Addr,vs=[.ref p,.ref q]/\hZ H p/\H q=some (.lst i6) /\
 ∀ (r:Addr) (ns:List Int) H',H r=none->H' r=some (.lst (ns.map V.int))->ns.length<=5->((∀ n∈ns,0<=n/\n < 6)/\ns.Nodup/\ns≠[])->hZ H' p->SameBut p H H'->Q (.ref r) H'
def kR:Sps:=λ_ vs H Q _=>∃ p:Addr,vs=[.ref p]/\hZ H p /\
 ∀ (r:Addr) (es:List V) H',H r=none->H' r=some (.lst es)->1<=es.length->es.length<=6->aS1 H H' es->hZ H' p->SameBut p H H'->Q (.ref r) H'
def aJ8{H:Hp}{w s:Addr}{ns:List Int}{es:List V}(h:H w=some (.lst (ns.map V.int)))(h':H s=some (.lst es))(a:V.ref w∈es):w≠s:=λz=>by
 subst z;rw[h]at h';injection h' with h'
 injection h' with h'
 rw[← h']at a;obtain⟨n,_,e⟩:=a2c.mp a;cases e
local macro_rules | `(tactic| walk_at "sx")=>do
 let l:=("cM0 bO6 cM1 bO8 cM2 cM3 bO7 bA3 bO9 bO1 bO2 eC2 dJ5 dJ6 cL5 cT4 dJ7 bO3 dJ8 cL6 dJ9 cL7 bO4 cL8 bO5 bA2 cL9 cM4 bP0 bP1 dK0 dK1 aL6 bP2 bP3 bB0 cM6 cM7 cN2 dK7 cN1 bP7 cM8 bP8 bA5 bP9 bQ0 reduceIte aL8 aL9 bQ1 bQ2 bQ3 bB1 bQ4 bB2 dL2".splitOn " ").toArray.map fun s=>Lean.mkIdent s.toName
 let m:=("eC5 List.set_cons_zero List.set_cons_succ Int.reducePow Int.reduceNeg Int.reduceLT Int.reduceLE Int.reduceAdd".splitOn " ").toArray.map fun s=>Lean.mkIdent s.toName
 `(tactic| simp only[$[↓$l:ident],*,$[$m:ident],*])
local macro_rules | `(tactic| walk_at "sy")=>do
 let l:=("bO6 cM1 bO8 cM2 cM3 bO7 bA3 bO9 bO1 bO2 eC2 dJ5 dJ6 cL5 cT4 dJ7 bO3 dJ8 cL6 dJ9 cL7 bO4 cL8 bO5 bA2 cL9 cM4 bP0 bP1 dK0 dK1 aL6 bP2 bP3 bB0 cM6 cM7 cN2 dK7 cN1 bP7 cM8 bP8 bA5 bP9 bQ0 reduceIte aL8 aL9 bQ1 bQ2 bQ3 bB1 bQ4 bB2 dL2".splitOn " ").toArray.map fun s=>Lean.mkIdent s.toName
 let m:=("eC5 List.set_cons_zero List.set_cons_succ Int.reducePow Int.reduceNeg Int.reduceLT Int.reduceLE Int.reduceAdd".splitOn " ").toArray.map fun s=>Lean.mkIdent s.toName
 `(tactic| simp only[$[↓$l:ident],*,$[$m:ident],*])
section
variable{P:Program}{w:World}{K:W.Frag}{mg:Str->Option Value}{base:Heap}{a:Adr}
def qW(T:Txt K mg a)(Z:FnOk P w K mg base CX0 1 a.a0R a.a0v ["_law_box_here","_law_many"] (tM K))(a0L:FnOk P w K mg base CX0 3 a.a2H a.a1C ["_law_box_here","_law_things"] (zT K)):FnOk P w K mg base CX0 4 a.a0S a.a0E ["_law_box_here"] (kR K):=by
 refine T.a1s.ok kB (λvs H Q E h=>?_) (λcdv A outer s H vs Q E S h=>?_);obtain⟨p,rfl,_⟩:=h;rfl;obtain⟨p,rfl,hb,k⟩:=h;have nd:=kB.nd;refine⟨_,(iQ (aB1 (i:=1) nd rfl (Or.inr rfl) (bG5 bA9 gH (aK Z (S.mono (by decide)) rfl T.a0l T.a0k.kp (aZ T) .nil bG (bU (pv 0) (bU gH gD)))))
  (iQ (gX (i:=2) nd rfl rfl (csc [4] (by kernel_rfl)) (dX rfl T.a0A (bU (pv 1) gD)) (λ_ _ _ _=>(aP (i:=4) nd rfl (Or.inl rfl) (.inr rfl))) (aQ (by decide)) (λ_ _ _ _=>aF3) (λ_ _ _ _=>(cK7 (bU (pv 4) (bU (bG5 lF (bG5 bA9 (pv 4) gH) (pv 1)) gD)))) rfl)
  (iQ (bG2 (kS (bA8 S.units) (aK Z (S.mono (by decide)) rfl T.a0l T.a0k.kp (aZ T) .nil bG (bU (pv 0) (bU gH gD))) gH (bF _)) (iQ (aB1 (i:=1) nd rfl (Or.inr rfl) (aY (tH rfl) (by rfl) T.a3D (aH5) (bU (pv 1) (bU gH gD))))
  (lT (gX (i:=2) nd rfl rfl (csc [5] (by kernel_rfl)) (dX rfl T.a0A (bU (pv 1) gD)) (λ_ _ _ _=>(aP (i:=5) nd rfl (Or.inr rfl) (.inl rfl))) (aQ (by decide)) (λ_ _ _ _=>aF3) (λ_ _ _ _=>(bY (csc [4] (by kernel_rfl)) (dX rfl T.a0A (bU (pv 1) gD)) (λ_ _ _ _=>(aP (i:=4) nd rfl (Or.inl rfl) (.inr rfl))) (aQ (by decide)) (λ_ _ _ _=>(bA0 (kS (dL1 S.units) (pv 4) (pv 5) (bF _)))) (λ_ _ _ _=>(pv 4)))) rfl))) tF)
  (iQ (iM a1e rfl (bQ5 K rfl (pv 2)) (aP (i:=3) nd rfl (Or.inl rfl))
  (lT (bG2 (PW.pt (aZ4 (kS zV (pv 1) gH (bF _)) (aZ4 (kS zV (aY bN (by rfl) T.a1n (bR) (bU (pv 3) gD)) gH (bF _)) (aS9 (kS (bA8 S.units) (aK Z (S.mono (by decide)) rfl T.a0l T.a0k.kp (aZ T) .nil bG (bU (pv 0) (bU gH gD))) gH (bF _)))))) (lT (aE7 (gS K rfl a5c a6e a7e fM (pv 3) (bU (bG5 bA9 (pv 1) (aK Z (S.mono (by decide)) rfl T.a0l T.a0k.kp (aZ T) .nil bG (bU (pv 0) (bU (bG5 bM4 gH (pv 1)) gD)))) gD)))) tF)))
  (iQ (bG2 (PW.pt (aZ4 (kS zV (aY bN (by rfl) T.a1n (bR) (bU (pv 2) gD)) gH (bF _)) (aS9 (kS (bA8 S.units) (aK Z (S.mono (by decide)) rfl T.a0l T.a0k.kp (aZ T) .nil bG (bU (pv 0) (bU gH gD))) gH (bF _))))) (lT (aE7 (gS K rfl a5c a6e a7e fM (pv 2) (bU (aK a0L (S.mono (by decide)) rfl T.a2x T.a1B.kp (mW T) .nil bG (bU (pv 0) (bU (aT9 (T:="list") (U:="range") (aG0 rfl) (by rfl) T.a2N iE (by rfl) T.a0A boot_range (bU gH gD)) gD))) gD)))) tF)
  (iQ (bG2 (kS (bA8 S.units) (aK Z (S.mono (by decide)) rfl T.a0l T.a0k.kp (aZ T) .nil bG (bU (pv 0) (bU gH gD))) gH (bF _)) (lT (aE7 (cU5 K rfl a5c F.slot_list_pop F.type_list_pop dJ0 (pv 2)))) tF)
  (lT (cK5 (pv 2))))))))),?_⟩
 rw[show kU ["_law_box_here","_law_many","_law_found","_law_own","_law_k","_law_j"] [.ref p]=([some (.ref p),none,none,none,none,none]:St)from rfl];have b:∀ {w:Addr},H w=none->w≠p:=λhw z=>by subst z;obtain⟨i',j',e'⟩:=hb;rw[hw]at e';cases e'
 have mono:∀ {H' H'':Hp} {es:List V},aS1 H H' es->(∀ w,H w=none->∀ o,H' w=some o->H'' w=some o)->aS1 H H'' es:=λho hk e c=>by
  obtain⟨w,ns,e1,v,e3,e4,e5⟩:=ho e c;exact⟨w,ns,e1,hk w e5 _ v,e3,e4,e5⟩
 have u:∀ {H' H'':Hp} {es:List V},aS1 H H' es->SameBut p H' H''->aS1 H H'' es:=λho hs=>mono ho λw hw o e=>hs w o (b hw) e;have G:∀ {H':Hp} {es:List V} {l:Addr} {o:HO},aS1 H H' es->H' l=none->aS1 H (upd H' l o) es:=λho t=>mono ho λw _ o e=>by rw[aO (bH e t)];exact e
 try walk_at "sy"
 rw[cM0]
 try walk_at "sy"
 refine cT7 ⟨p,4,rfl,hb,by decide,by decide,λd1 H1 d10 d11 hb1 hs1=>?_⟩
 try walk_at "sy"
 have m0:3<=3+d1:=by lia
 have m6:3+d1<=6:=by lia
 generalize hmm:(3+d1:Int)=m at m0 m6 ⊢;clear hmm d10 d11 d1;refine aM0 (λσ' H'=>∃ (s:Addr) (es:List V),σ'=[some (V.ref p),some (V.int m),some (V.ref s),none,none,none]/\H s=none/\H' s=some (.lst es)/\es.length=m.toNat/\aS1 H H' es/\hZ H' p/\SameBut p H H'/\es.Nodup/\∀ e∈es,LoI m H' e) ?_ ?_
 ·clear hb1 hs1;rintro σ' H2 ⟨s,es,rfl,d,f,hel,g,hb2,hs2,hen,hlo⟩;refine aM0 (λσ' H'=>∃ (m':Int) (s':Addr) (es':List V),σ'=[some (V.ref p),some (V.int m'),some (V.ref s'),none,none,none]/\3<=m'/\m'<=6/\H s'=none/\H' s'=some (.lst es')/\es'.length=m'.toNat/\aS1 H H' es'/\hZ H' p/\SameBut p H H'/\es'.Nodup/\∀ e∈es',LoI m' H' e) ?_ ?_
  ·clear d f hel g hb2 hs2 m0 m6 hen hlo;rintro σ' H3 ⟨m,s,es,rfl,m0,m6,d,f,hel,g,hb3,L,hen,hlo⟩;refine aM0 (λσ' H'=>∃ o3:Option V,σ'=[some (V.ref p),some (V.int m),some (V.ref s),o3,none,none]/\H' s=some (.lst es)/\aS1 H H' es/\hZ H' p/\SameBut p H H') ?_ ?_
   ·clear f g hb3 L;rintro σ' H4 ⟨o3,rfl,f,g,hb4,hs4⟩;refine aM0 (λσ' H'=>∃ es':List V,σ'=[some (V.ref p),some (V.int m),some (V.ref s),o3,none,none]/\H' s=some (.lst es')/\3<=es'.length/\es'.length<=6/\aS1 H H' es'/\hZ H' p/\SameBut p H H') ?_ ?_
    ·clear f g hb4 hs4 hel;rintro σ' H5 ⟨es,rfl,f,hl3,hl6,g,hb5,M⟩;refine aM0 (λσ' H'=>∃ es':List V,σ'=[some (V.ref p),some (V.int m),some (V.ref s),o3,none,none]/\H' s=some (.lst es')/\1<=es'.length/\es'.length<=6/\aS1 H H' es'/\hZ H' p/\SameBut p H H') ?_ ?_
     ·clear f hl3 hl6 g hb5 M;rintro σ' H6 ⟨es,rfl,f,hl1,hl6,g,hb6,I⟩
      try walk_at "sx"
      exact k s es H6 d f hl1 hl6 g hb6 I
     ·intro C hC
      try walk_at "sx"
      refine cT7 ⟨p,4,rfl,hb5,by decide,by decide,λd6 H6 d60 d61 hb6 I=>?_⟩
      try walk_at "sx"
      have D:=I s _ (b d) f;refine cL1 (λ_=>?_) (λ_=>hC _ _ ⟨es,rfl,D,by lia,hl6,u g I,hb6,M.trans I⟩);refine⟨tyL D,s,es,es[es.length-1],rfl,rfl,D,a0a (by lia),?_⟩;refine hC _ _ ⟨es.dropLast,rfl,aW,by rw[List.length_dropLast];lia,by rw[List.length_dropLast];lia,?_,hb6.put (b d),(M.trans I).put d⟩;intro e c;have he':=List.dropLast_subset _ c;obtain⟨B,W,f1,f2,f3,f4,f5⟩:=(u g I) e he';have hne:B≠s:=aJ8 f2 D (by rw[← f1];exact he');exact⟨B,W,f1,by rw[aO hne];exact f2,f3,f4,f5⟩
    ·intro C hC;have skip:∀ H',hZ H' p->SameBut p H4 H'->C [some (V.ref p),some (V.int m),some (V.ref s),o3,none,none] H':=λH' hb' O=>
      hC _ _ ⟨es,rfl,O s _ (b d) f,by lia,by lia,u g O,hb',hs4.trans O⟩
     try walk_at "sx"
     rw[aB4 (sS f)]
     try walk_at "sx"
     refine cL1 (λt=>?_) (λ_=>?_)
     ·have hl6:(es.length:Int) < 6:=by simpa using t
      refine cT7 ⟨p,3,rfl,hb4,by decide,by decide,λd5 H5 d50 d51 hb5 M=>?_⟩
      try walk_at "sx"
      refine cL1 (λ_=>?_) (λ_=>skip _ hb5 M);have hse5:=M s _ (b d) f;refine⟨tyL hse5,6,rfl,by decide,by decide,λq hq=>?_⟩;have hsq:SameBut p H5 (upd H5 q (.lst i6)):=SameBut.refl.upd hq;refine cT7 ⟨p,q,rfl,hb5.upd hq,aW,λr ns H6 S e6 n5 nm hb6 I=>?_⟩;have hs56:=hsq.trans I;have D:=hs56 s _ (b d) hse5;have hs45:=hs4.trans M;refine⟨s,es,_,rfl,rfl,D,Nat.lt_of_le_of_lt (by lia:es.length<=6) (by decide),?_⟩;refine hC _ _ ⟨es++[.ref r],rfl,aW,by simp;lia,by simp;lia,?_,hb6.put (b d),(hs45.trans hs56).put d⟩;intro e c;rcases a3b.mp c with h | h;obtain⟨B,W,f1,f2,f3,f4,f5⟩:=(u g (M.trans hs56)) e h;have hne:B≠s:=aJ8 f2 D (by rw[← f1];exact h);exact⟨B,W,f1,by rw[aO hne];exact f2,f3,f4,f5⟩;rw[a1b.mp h];have hrs:r≠s:=(bH (hsq s _ (b d) hse5) S).symm;exact⟨r,ns,rfl,by rw[aO hrs];exact e6,n5,nm,(hs45.trans hsq).none (hb5.upd hq) S⟩
     ·try refine dX9 ?_
      exact skip _ hb4 SameBut.refl
   ·intro C hC
    try walk_at "sx"
    refine up (cC4 (sS f)) ?_;refine dK4 (aL7 (xs:=es)) (λi σ H'=>∃ o3:Option V,σ=[some (V.ref p),some (V.int m),some (V.ref s),o3,none,none]/\H' s=some (.lst es)/\aS1 H H' es/\hZ H' p/\SameBut p H H'/\∀ (j:Nat) e,i<=j->es[j]? = some e->LoI m H' e) ⟨none,rfl,f,g,hb3,L,λj e _ c=>hlo e (a0c c)⟩ ?_ ?_ ?_;rintro i σ H' ⟨o3,_,X,_⟩;exact SqL.of X
    ·rintro i x σ H' hx ⟨o3,rfl,X,J,R,h6,h7⟩;have hxm:=a0c hx;obtain⟨w,ns,rfl,ww,wl,⟨wn,wd⟩,w0⟩:=J x hxm;have wlo:∀ n∈ns,n < m:=by
      obtain⟨B,W,e1,v,e3⟩:=h7 i _ (a7a _) hx;cases e1;rw[ww]at v;injection v with v;injection v with v
      intro n hn;have:V.int n∈W.map V.int:=by rw[← v];exact List.mem_map_of_mem hn
      obtain⟨n',hn',e⟩:=a2c.mp this;cases e;exact e3 n hn'
     have h7':∀ {H'':Hp},(∀ B o,B≠w->H B=none->H' B=some o->H'' B=some o)->∀ (j:Nat) e,i+1<=j->es[j]? = some e->LoI m H'' e:=λ{H''} hk j e hj c=>by
      have hem:=a0c c;refine(h7 j e (by lia) c).mono λB o e1 v=>hk B o (λz=>?_) ?_ v;subst z e1;have:=(List.getElem?_inj (a2a.mp hx).1 hen).mp (hx.trans c.symm);lia;obtain⟨w'',_,f1,_,_,_,f5⟩:=J e hem;rw[e1]at f1;cases f1;exact f5
     have hws:w≠s:=aJ8 ww X hxm;have skip:∀ H'',hZ H'' p->SameBut p H' H''->∃ o3:Option V,[some (V.ref p),some (V.int m),some (V.ref s),some (V.ref w),none,none]=[some (V.ref p),some (V.int m),some (V.ref s),o3,none,none]/\H'' s=some (.lst es)/\aS1 H H'' es/\hZ H'' p/\SameBut p H H''/\∀ (j:Nat) e,i+1<=j->es[j]? = some e->LoI m H'' e:=λH'' hb' O=>
      ⟨_,rfl,O s _ (b d) X,u J O,hb',h6.trans O,h7' λB o _ hw e=>O B o (b hw) e⟩
     try walk_at "sx"
     refine cL1 (λhm=>?_) (λ_=>?_)
     ·have hm6:m < 6:=by simpa using hm
      rw[aB4 (sS ww)]
      try walk_at "sx"
      refine cL1 (λt=>?_) (λ_=>?_)
      ·rw[a1a]at t;have hl4:(ns.length:Int) < 4:=by simpa using t
       refine cT7 ⟨p,3,rfl,R,by decide,by decide,λd7 H7 d70 d71 hb7 hs7=>?_⟩
       try walk_at "sx"
       refine cL1 (λ_=>?_) (λ_=>skip _ hb7 hs7);have ww7:=hs7 w _ (b w0) ww;refine⟨tyL ww7,?_⟩;refine cT7 ⟨p,6-m,rfl,hb7,by lia,by lia,λd8 H8 d80 d81 hb8 hs8=>?_⟩;have ww8:=hs8 w _ (b w0) ww7
       try walk_at "sx"
       have Y:=hs7.trans hs8;refine⟨w,_,_,rfl,rfl,ww8,by rw[a1a];exact Nat.lt_of_le_of_lt (by lia:ns.length<=10) (by decide),?_⟩;refine⟨_,rfl,by rw[aO hws.symm];exact Y s _ (b d) X,?_,hb8.put (b w0),(h6.trans Y).put w0,h7' λB o hw hw0 e=>by rw[aO hw];exact Y B o (b hw0) e⟩;intro e c;obtain⟨B,W,e1,v,e3,e4,e5⟩:=(u J Y) e c;by_cases hww:B=w;subst hww;rw[ww8]at v;refine⟨B,ns++[m+d8],e1,by rw[aW];simp,by simp;lia,⟨?_,aJ7 wd.1 λhm'=>(by have:=wlo _ hm';lia),λz=>by simp at z⟩,e5⟩;intro n hn;rcases a3b.mp hn with h | h;exact wn n h;rw[a1b.mp h];lia;exact⟨B,W,e1,by rw[aO hww];exact v,e3,e4,e5⟩
      ·try refine dX9 ?_
       exact skip _ R SameBut.refl
     ·try refine dX9 ?_
      exact skip _ R SameBut.refl
    ·rintro σ H' ⟨o3,rfl,X,J,R,h6,_⟩;exact hC _ _ ⟨o3,rfl,X,J,R,h6⟩
  ·intro C hC
   try walk_at "sx"
   refine cT7 ⟨p,2,rfl,hb2,by decide,by decide,λd3 H3 d30 d31 hb3 L=>?_⟩
   try walk_at "sx"
   refine cL1 (λ_=>?_) (λ_=>hC _ _ ⟨m,s,es,rfl,m0,m6,d,L s _ (b d) f,hel,u g L,hb3,hs2.trans L,hen,λe c=>(hlo e c).mono λB o e1 v=>L B o (b (by obtain⟨w'',_,f1,_,_,_,f5⟩:=g e c;rw[e1]at f1;cases f1;exact f5)) v⟩);obtain⟨m',hm',m0',m5'⟩:∃ m',min m 5=m'/\3<=m'/\m'<=5:=⟨_,rfl,by lia,by lia⟩;rw[hm'];have hs3':=hs2.trans L;refine⟨m',rfl,by lia,by lia,?_⟩;refine aT7 (P:=λ_=>True) pQ (λi ys H'=>ys.length=i/\aS1 H H' ys/\hZ H' p/\SameBut p H H'/\ys.Nodup/\∀ e∈ys,LoI m' H' e) ⟨rfl,(λe c=>nomatch c),hb3,hs3',.nil,(λe c=>nomatch c)⟩ ?_ (by rw[fZ];exact a6c (by lia:m'.toNat<=6) (by decide)) ?_ ?_;rintro i ys H' ⟨h1,_⟩;exact⟨trivial,by lia⟩
   ·rintro i x ys H' N hx ⟨h1,X,J,R,h6,h7⟩ hN;obtain⟨hi,rfl⟩:=pP hx
    try walk_at "sx"
    refine⟨m',rfl,by lia,by lia,?_⟩;refine aT7 (P:=λ_=>True) pQ (λj us H''=>j<=5/\∃ ws:List Int,us=ws.map V.int/\ws.length<=j/\(∀ n∈ws,0<=n/\n < 6)/\H''=H'/\ws.Nodup/\(∀ n∈ws,n < j)/\(j<=m'.toNat/\(j<=i->j<=ws.length)/\j<=ws.length+1)) ⟨by lia,[],rfl,a7a _,(λz hz=>nomatch hz),rfl,.nil,(λz hz=>nomatch hz),a0d _,λ_=>a0d _,a0d _⟩ ?_ (by rw[fZ];exact a6c (by lia:m'.toNat<=6) (by decide)) ?_ ?_;rintro j us H'' ⟨_,ws,rfl,h,_,rfl,_⟩;exact⟨trivial,by rw[a1a];exact h⟩
    ·rintro j y us H'' N2 hy ⟨_,ws,rfl,g1,g2,rfl,g3,g4,g5⟩ hN2;obtain⟨hj,rfl⟩:=pP hy
     try walk_at "sx"
     refine cL1 (λ_=>?_) (λhne=>?_)
     ·refine hN2 _ _ ⟨by lia,ws++[0+(j:Int)],by simp,by simp;lia,?_,rfl,aJ7 g3 (λhm'=>by have:=g4 _ hm';lia),(λn hn=>by
       rcases a3b.mp hn with h | h;have:=g4 n h;lia;rw[a1b.mp h];lia),by lia,by rw[a8a,List.length_singleton];lia,by rw[a8a,List.length_singleton];lia⟩
      intro n hn;rcases a3b.mp hn with h | h;exact g2 n h;rw[a1b.mp h];lia
     ·have hji:j=i:=by simp at hne;lia
      exact hN2 _ _ ⟨by lia,ws,rfl,by lia,g2,rfl,g3,(λn hn=>by have:=g4 n hn;lia),by lia,by lia,by lia⟩
    ·rintro us H'' ⟨gj,ws,rfl,g1,g2,rfl,g3,g4,g5⟩ l t;have hws:ws≠[]:=λz=>by have:=g5.2.2;rw[z,fZ]at this;simp at this;lia
     refine hN _ _ ⟨by simp[h1],?_,J.upd t,R.upd t,aJ7 h6 (λz=>(h7 _ z).ne t rfl),λe c=>?_⟩
     rotate_left
     ·rcases a3b.mp c with h | h
      ·exact(h7 e h).mono λB o _ v=>by rw[aO (bH v t)];exact v
      ·rw[a1b.mp h];exact⟨l,ws,rfl,aW,λn hn=>by have:=g4 n hn;lia⟩
     intro e c;rcases a3b.mp c with h | h;exact(G X t) e h;rw[a1b.mp h];exact⟨l,ws,rfl,aW,by lia,⟨g2,g3,hws⟩,R.none J t⟩
   ·rintro ys H' ⟨h1,X,J,R,h6,h7⟩ l t
    try walk_at "sx"
    rw[fZ]at h1;exact hC _ _ ⟨m',l,ys,rfl,m0',by lia,R.none J t,aW,h1,G X t,J.upd t,R.upd t,h6,λe c=>(h7 e c).mono λB o _ v=>by rw[aO (bH v t)];exact v⟩
 ·intro C hC
  try walk_at "sx"
  refine⟨m,rfl,by lia,by lia,?_⟩;refine aT7 (P:=λ_=>True) pQ (λi ys H'=>ys.length=i/\aS1 H H' ys/\hZ H' p/\SameBut p H H'/\ys.Nodup/\∀ e∈ys,LoI m H' e) ⟨rfl,(λe c=>nomatch c),hb1,hs1,.nil,(λe c=>nomatch c)⟩ ?_ (by rw[fZ];exact a6c (by lia:m.toNat<=6) (by decide)) ?_ ?_;rintro i ys H' ⟨h1,_⟩;exact⟨trivial,by lia⟩
  ·rintro i x ys H' N hx ⟨h1,X,J,R,h6,h7⟩ hN;obtain⟨hi,rfl⟩:=pP hx
   try walk_at "sx"
   rw[dK6 (by lia)];have hmod0:0<=(0+(i:Int)+1) % m:=a2i _ (by lia);have hmod1:(0+(i:Int)+1) % m < m:=a1h _ (by lia);have hmod2:(0+(i:Int))≠(0+(i:Int)+1) % m:=λz=>by
    by_cases h:(0+(i:Int)+1) < m;rw[Int.emod_eq_of_lt (by lia) h]at z;lia;have:(0+(i:Int)+1)=m:=by lia
    rw[this,Int.emod_self]at z;lia
   refine⟨by show 2<=sizeLine;decide,λl t=>?_⟩;refine hN _ _ ⟨by simp[h1],?_,J.upd t,R.upd t,aJ7 h6 (λz=>(h7 _ z).ne t rfl),λe c=>?_⟩
   rotate_left
   ·rcases a3b.mp c with h | h
    ·exact(h7 e h).mono λB o _ v=>by rw[aO (bH v t)];exact v
    ·rw[a1b.mp h];refine⟨l,[0+(i:Int),(0+(i:Int)+1) % m],rfl,aW,λn hn=>?_⟩;simp only[List.mem_cons,List.not_mem_nil,or_false]at hn;rcases hn with rfl | rfl<;>lia
   intro e c;rcases a3b.mp c with h | h;exact(G X t) e h;rw[a1b.mp h];refine⟨l,[0+(i:Int),(0+(i:Int)+1) % m],rfl,aW,by show 2<=5;decide,⟨?_,a8e.mpr ⟨λz=>hmod2 (a1b.mp z),by simp⟩,λz=>nomatch z⟩,R.none J t⟩;intro n hn;simp only[List.mem_cons,List.not_mem_nil,or_false]at hn;rcases hn with rfl | rfl<;>lia
  ·rintro ys H' ⟨h1,X,J,R,h6,h7⟩ l t
   try walk_at "sx"
   rw[fZ]at h1;exact hC _ _ ⟨l,ys,rfl,R.none J t,aW,h1,G X t,J.upd t,R.upd t,h6,λe c=>(h7 e c).mono λB o _ v=>by rw[aO (bH v t)];exact v⟩
end
open Dv
def cA4{K:W.Frag}(vs:List V)(H:Hp)(Q:L2.VK)(E:XK)(h:tM K vs H Q E):dsp 2 aJ vs H Q E:=by
 obtain⟨p,m,rfl,⟨i,j,n⟩,m0,w,k⟩:=h;have r:=dA (a:=i) (b:=j) (m:=m) m0 (by lia) (K:=λres as'=>∃ d c f,0<=d/\d < m/\res=.val (.int d)/\as'=[⟨.par,.lst [.int c,.int f]⟩,⟨.val,.int m⟩]) λd c f g l=>⟨d,c,f,g,l,rfl,rfl⟩;obtain⟨⟨res,as'⟩,e,d,c,f,g,l,o,q⟩:=jM.mp r;cases o;cases q;refine⟨_,_,_,cZ6 n,rfl,e,λv H' po s=>?_⟩;cases s;obtain⟨t,u⟩:=cG4 po;exact k d H' g l t u
noncomputable abbrev d6:List D:=(List.range 6).map λ(i:Nat)=>D.int (i:Int)
def cA5{K:W.Frag}(vs:List V)(H:Hp)(Q:L2.VK)(E:XK)(h:zT K vs H Q E):dsp 2 cF vs H Q E:=by
 obtain⟨p,q,rfl,⟨i,j,G⟩,w,k⟩:=h;have g:p≠q:=λz=>by
  subst z;rw[G]at w;cases w
 have M:∀ {H':Hp} {xs:List V},Rps H' d6 xs->xs=i6:=λr=>Rps.ints_inv (ns:=(List.range 6).map λ(i:Nat)=>(i:Int)) r;have N:Rps H d6 i6:=jJ ((List.range 6).map λ(i:Nat)=>(i:Int));have r:=aY1 (a:=i) (b:=j) (xs:=d6) (m:=.par) (t:=.lst d6) (.inl ⟨rfl,rfl⟩) (by decide) (by decide) (K:=λres as'=>∃ ys d f,(ys.length<=4/\ys≠[])/\((∀ y∈ys,y∈d6)/\ys.Nodup)/\res=.own (.lst ys)/\as'=[⟨.par,.lst [.int d,.int f]⟩,⟨.par,.lst d6⟩]) λys d f h0 A O R=>⟨ys,d,f,⟨A,h0⟩,⟨O,R (List.pairwise_map.mpr (List.nodup_range.imp λ{a b} q e=>q (by injection e with e;lia)))⟩,rfl,rfl⟩;obtain⟨⟨res,as'⟩,e,ys,d,f,I,A,S,T⟩:=jM.mp r;cases S;cases T;refine⟨[⟨.par,.lst [.int i,.int j]⟩,⟨.par,.lst d6⟩],_,_,⟨rfl,λn s es=>?_,λn l s t c hn es U m1 m2 v1 v2=>?_,λn s es=>?_⟩,rfl,e,λv H' po X=>?_⟩
 ·match n,es with
  | 0,es=>cases es;exact⟨_,rfl,p,rfl,_,G,jJ [i,j]⟩
  | 1,es=>cases es;exact⟨_,rfl,q,rfl,_,w,N⟩
 ·match n,es,l,U with
  | 0,_,0,_=>exact hn rfl
  | 0,_,1,_=>cases v1;cases v2;exact g rfl
  | 1,_,0,_=>cases v1;cases v2;exact g rfl
  | 1,_,1,_=>exact hn rfl
 ·match n,es with
  | 0,es=>cases es;exact λz=>nomatch z
  | 1,es=>cases es;exact λz=>nomatch z
 ·obtain⟨r,rfl,Y,xs,B,C⟩:=X;obtain⟨ns,rfl,Z,D⟩:=zM (P:=λn=>0<=n/\n < 6) (ys:=ys) λy hy=>by
   obtain⟨x,B,rfl⟩:=a2c.mp (A.1 y hy);have:=a8c.mp B;exact⟨x,by lia,rfl⟩
  rw[C.ints_inv]at B;obtain⟨s0,v0,f1,f2,f3,f4⟩:=po.rel 0 _ rfl rfl;cases f1;cases f3;obtain⟨_,g0,xs0,J,g2⟩:=(eN (s:=⟨.par,.lst [.int d,.int f]⟩) (λz=>nomatch z)).mp f4;cases g0;rw[Rps.ints_inv (ns:=[d,f]) g2]at J;obtain⟨s1,v1,u1,u2,u3,u4⟩:=po.rel 1 _ rfl rfl;cases u1;cases u3;obtain⟨_,w0,xs1,L,w2⟩:=(eN (s:=⟨.par,.lst d6⟩) (λz=>nomatch z)).mp u4;cases w0;rw[M w2]at L;refine k r ns H' Y B (by have:=I.1;lia) ⟨D,(List.pairwise_map.mp A.2).imp λ{a b} q e=>q (by rw[e]),λz=>I.2 (by rw[z];rfl)⟩ ⟨d,f,J⟩ λc o hc F=>?_;by_cases u:c=q;subst u;rw[w]at F;cases F;exact L;refine po.fr c o F λ⟨n,s,es,mt,ev⟩=>?_
  match n,es with
  | 0,_=>cases ev;exact hc rfl
  | 1,_=>cases ev;exact u rfl
theorem aJ9{H0:Hp}{r:Addr}{In:Hp->Prop}(e:∀ H w o u,In H->H0 w=none->w≠r->In (upd H w (.frz o u))){Q:Hp->Prop}:∀ (todo done:List (V×List Int)) (H:Hp),In H ->
  (∀ x∈todo,∃ w,x.1=.ref w/\(H w=some (.lst (x.2.map V.int))\/∃ o,H w=some (.frz o (.lst (x.2.map V.int))))/\H0 w=none/\w≠r) ->
  (∀ x∈done,∃ w o,x.1=.ref w/\H w=some (.frz o (.lst (x.2.map V.int)))) ->
  (∀ H',In H'->(∀ x∈done++todo,∃ w o,x.1=.ref w/\H' w=some (.frz o (.lst (x.2.map V.int))))->Q H')->FQ Q H
 | [],done,H,hi,_,hd,k=>.done (k H hi (by rw[a3g];exact hd))
 | x::todo,done,H,hi,l,hd,k=>by
   obtain⟨w,m,d,p,q⟩:=l x a3a;have g:=λy f=>l y (a4a _ f);have n:∀ H',In H'->(∀ y∈(done++[x])++todo,∃ w o,y.1=.ref w/\H' w=some (.frz o (.lst (y.2.map V.int))))->Q H':=λH' a b=>k H' a (by rw[List.append_assoc]at b;exact b);rcases d with d | ⟨o,d⟩
   ·refine .step d True.intro λo=>aJ9 e todo (done++[x]) _ (e _ _ _ _ hi p q) (λy f=>?_) (λy f=>?_) n
    ·obtain⟨u,j,c,s,t⟩:=g y f;refine⟨u,j,?_,s,t⟩;by_cases i:u=w
     ·subst i;rw[aW];rcases c with c | ⟨o',c⟩
      ·rw[d]at c;injection c with c
       rw[c];exact .inr ⟨o,rfl⟩
      ·rw[d]at c;cases c
     ·rw[aO i];exact c
    ·rcases a3b.mp f with h | h;obtain⟨u,o',j,c⟩:=hd y h;exact⟨u,o',j,by rw[aO (λz=>by subst z;rw[d]at c;cases c)];exact c⟩;rw[a1b.mp h];exact⟨w,o,m,aW⟩
   ·refine aJ9 e todo (done++[x]) H hi g (λy f=>?_) n;rcases a3b.mp f with h | h;exact hd y h;rw[a1b.mp h];exact⟨w,o,m,d⟩
theorem bG0{H0 H:Hp}{r:Addr}{es:List V}(b:∀ w (ns:List Int),H w=some (.lst (ns.map V.int))->V.ref w∈es->w≠r):∀ {l:List V},(∀ e∈l,e∈es)->aS1 H0 H l->∃ ps:List (V×List Int),ps.map Prod.fst=l/\(∀ x∈ps,x.2.length<=5/\(∀ n∈x.2,0<=n/\n < 6)/\x.2.Nodup/\x.2≠[]) /\
  ∀ x∈ps,∃ w,x.1=.ref w/\(H w=some (.lst (x.2.map V.int))\/∃ o,H w=some (.frz o (.lst (x.2.map V.int))))/\H0 w=none/\w≠r
 | [],_,_=>⟨[],rfl,λ_ h=>absurd h List.not_mem_nil,λ_ h=>absurd h List.not_mem_nil⟩
 | e::l,hm,c=>by
   obtain⟨ps,g,i,j⟩:=bG0 b (λx a=>hm x (a4a _ a)) λx a=>c x (a4a _ a);obtain⟨w,ns,d,f,k,m,p⟩:=c e a3a;refine⟨(e,ns)::ps,by rw[a4e,g],λx a=>?_,λx a=>?_⟩;rcases a4b.mp a with rfl | a;exact⟨k,m⟩;exact i x a;rcases a4b.mp a with rfl | a;exact⟨w,d,.inl f,p,b w ns f (by rw[← d];exact hm e a3a)⟩;exact j x a
theorem aS2{H:Hp}:∀ {ps:List (V×List Int)},(∀ x∈ps,∃ w o,x.1=.ref w/\H w=some (.frz o (.lst (x.2.map V.int))))->Rps H (ps.map λx=>.lst (x.2.map D.int)) (ps.map Prod.fst)
 | [],_=>.nil
 | x::r,h=>by
   obtain⟨w,o,a,b⟩:=h x a3a;rw[a4e,a4e,a];exact .cons (.lst b (jJ _)) (aS2 λy c=>h y (a4a _ c))
def dD2{K:W.Frag}(vs:List V)(H:Hp)(Q:L2.VK)(E:XK)(h:bR9 1 cRS vs H Q E):spF (kR K) vs H Q E:=by
 obtain⟨as,v,f,a,b,rfl,q⟩:=h;obtain⟨Y,I,J⟩:=v.rel 0 _ rfl;obtain⟨p,rfl,xs,j,k⟩:=(eN (s:=⟨.par,.lst [.int a,.int b]⟩) (λz=>nomatch z)).mp J;rw[Rps.ints_inv (ns:=[a,b]) k]at j;have L:vs=[.ref p]:=by
  have f:=v.len
  match vs,f with
  | [x],_=>cases I;rfl
 subst L;refine⟨p,rfl,⟨a,b,j⟩,λr es H' k y l1 l6 M N O=>?_⟩;obtain⟨ps,A,B,P⟩:=bG0 (r:=r) (es:=es) (λw ns R hm=>aJ8 R y hm) (λe h=>h) M;refine aJ9 (H0:=H) (r:=r) (In:=λd=>d r=some (.lst es)/\hZ d p/\SameBut p H d) (λd w o u ⟨m,g,i⟩ t S=>⟨by rw[aO S.symm];exact m,g.put (λz=>by subst z;rw[j]at t;cases t),i.put t⟩) ps [] H' ⟨y,N,O⟩ P (λ_ h=>absurd h List.not_mem_nil) λd ⟨m,⟨C,D,g⟩,i⟩ T=>?_;have U:ps.length=es.length:=by rw[← A,a1a]
 have F:=aS2 (ps:=ps) T;rw[A]at F;refine q (ps.map Prod.snd) C D ⟨by rw[a1a];lia,by rw[a1a];lia,λl f=>?_⟩ (.ref r) d ⟨λn s e mt=>?_,λc o e n=>i c o (λz=>n ⟨0,_,rfl,rfl,by rw[z];rfl⟩) e,λc e=>?_⟩ ⟨r,rfl,k,es,m,by rw[List.map_map];exact F⟩;obtain⟨x,G,rfl⟩:=a2c.mp f;exact⟨by have:=(B x G).1;lia,(B x G).2⟩
 ·match n,e with
  | 0,e=>cases e;exact⟨_,_,rfl,rfl,rfl,p,rfl,_,g,jJ [C,D]⟩
 ·cases X:H c with
  | none=>rfl
  | some o=>
    by_cases z:c=p;subst z;rw[g]at e;cases e;rw[i c o z X]at e;cases e
noncomputable def adr:Adr:=⟨87,Hd.dF5,99,Hd.dF7,106,Hd.cJ1,116,Hd.cJ3,111,Hd.cJ2,92,Hd.dF6,121,Hd.cJ4,80,Hd.dF4,126,Hd.cJ5,131,Hd.cJ6,141,Hd.cJ8,136,Hd.cJ7,146,Hd.cJ9,29,Hd.dE5,34,Hd.dE6,39,Hd.dE7,49,Hd.dE9,44,Hd.dE8,56,Hd.dF0,19,Hd.dE3,24,Hd.dE4,61,Hd.dF1,66,Hd.dF2,73,Hd.dF3,151,Hd.cK0,165,Hd.cK2,158,Hd.cK1,172,Hd.cK3,179,Hd.aZ2⟩
def qX{K:W.Frag}{x q:Str}{s:Stmt}{f:Addr}{fd:FuncData}(m:Value)(c:Addr)(e:fd=W.fnOf x q (aT3 s) (qZ s) (bA s) .none .none .none m none (.ref c) .none)(l:K.lookup f=some ⟨.type "function",none,.func fd,#[]⟩)(d:W.codeIn K (.ref c) q=true)(k:W.keepIn K (.ref f)=true):Fun K x q s f fd:=⟨⟨_,_,_,_,_,_,_,_,_,e,l,d⟩,k⟩
def txt{P:Params}{h:Heap}{mg:Str->Option Value}(X:(Hd.KF P).In h)(G:h.Ns mainGlobals mg):Txt (Hd.KF P) mg adr:=⟨a3d X G (by kernel_rfl),
qX (.str "law_mostrows_k48_rings_looked_at" 267) 86 (by kernel_rfl) (by kernel_rfl) (by kernel_rfl) (by kernel_rfl),
a3d X G (by kernel_rfl),
qX (.str "law_mostrows_k48_rings_looked_at" 267) 98 (by kernel_rfl) (by kernel_rfl) (by kernel_rfl) (by kernel_rfl),
a3d X G (by kernel_rfl),
qX (.str "law_mostrows_k48_rings_looked_at" 267) 105 (by kernel_rfl) (by kernel_rfl) (by kernel_rfl) (by kernel_rfl),
a3d X G (by kernel_rfl),
qX (.str "law_mostrows_k48_rings_looked_at" 267) 115 (by kernel_rfl) (by kernel_rfl) (by kernel_rfl) (by kernel_rfl),
a3d X G (by kernel_rfl),
qX (.str "law_mostrows_k48_rings_looked_at" 267) 110 (by kernel_rfl) (by kernel_rfl) (by kernel_rfl) (by kernel_rfl),
a3d X G (by kernel_rfl),
qX (.str "law_mostrows_k48_rings_looked_at" 267) 91 (by kernel_rfl) (by kernel_rfl) (by kernel_rfl) (by kernel_rfl),
a3d X G (by kernel_rfl),
qX (.str "law_mostrows_k48_rings_looked_at" 267) 120 (by kernel_rfl) (by kernel_rfl) (by kernel_rfl) (by kernel_rfl),
a3d X G (by kernel_rfl),
qX (.str "law_mostrows_k48_rings_looked_at" 267) 79 (by kernel_rfl) (by kernel_rfl) (by kernel_rfl) (by kernel_rfl),
a3d X G (by kernel_rfl),
qX (.str "law_mostrows_k48_rings_looked_at" 267) 125 (by kernel_rfl) (by kernel_rfl) (by kernel_rfl) (by kernel_rfl),
a3d X G (by kernel_rfl),
qX (.str "law_mostrows_k48_rings_looked_at" 267) 130 (by kernel_rfl) (by kernel_rfl) (by kernel_rfl) (by kernel_rfl),
a3d X G (by kernel_rfl),
qX (.str "law_mostrows_k48_rings_looked_at" 267) 140 (by kernel_rfl) (by kernel_rfl) (by kernel_rfl) (by kernel_rfl),
a3d X G (by kernel_rfl),
qX (.str "law_mostrows_k48_rings_looked_at" 267) 135 (by kernel_rfl) (by kernel_rfl) (by kernel_rfl) (by kernel_rfl),
a3d X G (by kernel_rfl),
qX (.str "law_mostrows_k48_rings_looked_at" 267) 145 (by kernel_rfl) (by kernel_rfl) (by kernel_rfl) (by kernel_rfl),
a3d X G (by kernel_rfl),
qX (.str "mostrows.rings" 203) 28 (by kernel_rfl) (by kernel_rfl) (by kernel_rfl) (by kernel_rfl),
a3d X G (by kernel_rfl),
qX (.str "mostrows.rings" 203) 33 (by kernel_rfl) (by kernel_rfl) (by kernel_rfl) (by kernel_rfl),
a3d X G (by kernel_rfl),
qX (.str "mostrows.rings" 203) 38 (by kernel_rfl) (by kernel_rfl) (by kernel_rfl) (by kernel_rfl),
a3d X G (by kernel_rfl),
qX (.str "mostrows.rings" 203) 48 (by kernel_rfl) (by kernel_rfl) (by kernel_rfl) (by kernel_rfl),
a3d X G (by kernel_rfl),
qX (.str "mostrows.rings" 203) 43 (by kernel_rfl) (by kernel_rfl) (by kernel_rfl) (by kernel_rfl),
a3d X G (by kernel_rfl),
qX (.str "mostrows.rings" 203) 55 (by kernel_rfl) (by kernel_rfl) (by kernel_rfl) (by kernel_rfl),
a3d X G (by kernel_rfl),
qX (.str "mostrows.parts" 187) 18 (by kernel_rfl) (by kernel_rfl) (by kernel_rfl) (by kernel_rfl),
a3d X G (by kernel_rfl),
qX (.str "mostrows.questions" 195) 23 (by kernel_rfl) (by kernel_rfl) (by kernel_rfl) (by kernel_rfl),
a3d X G (by kernel_rfl),
qX (.str "mostrows.rings" 203) 60 (by kernel_rfl) (by kernel_rfl) (by kernel_rfl) (by kernel_rfl),
a3d X G (by kernel_rfl),
qX (.str "mostrows.rings" 203) 65 (by kernel_rfl) (by kernel_rfl) (by kernel_rfl) (by kernel_rfl),
a3d X G (by kernel_rfl),
qX (.str "mostrows.rings" 203) 72 (by kernel_rfl) (by kernel_rfl) (by kernel_rfl) (by kernel_rfl),
a3d X G (by kernel_rfl),
qX (.str "law_mostrows_k48_rings_looked_at" 267) 150 (by kernel_rfl) (by kernel_rfl) (by kernel_rfl) (by kernel_rfl),
a3d X G (by kernel_rfl),
qX (.str "law_mostrows_k48_rings_looked_at" 267) 164 (by kernel_rfl) (by kernel_rfl) (by kernel_rfl) (by kernel_rfl),
a3d X G (by kernel_rfl),
qX (.str "law_mostrows_k48_rings_looked_at" 267) 157 (by kernel_rfl) (by kernel_rfl) (by kernel_rfl) (by kernel_rfl),
a3d X G (by kernel_rfl),
qX (.str "law_mostrows_k48_rings_looked_at" 267) 171 (by kernel_rfl) (by kernel_rfl) (by kernel_rfl) (by kernel_rfl),
a3d X G (by kernel_rfl),
qX (.str "law_mostrows_k48_rings_looked_at" 267) 178 (by kernel_rfl) (by kernel_rfl) (by kernel_rfl) (by kernel_rfl),
a2e X G (by kernel_rfl),
a2e X G (by kernel_rfl),
a2e X G (by kernel_rfl),
a2e X G (by kernel_rfl),
a2e X G (by kernel_rfl),
a2e X G (by kernel_rfl),
a2e X G (by kernel_rfl),
a2e X G (by kernel_rfl),
a2e X G (by kernel_rfl),
a2e X G (by kernel_rfl),
a2e X G (by kernel_rfl),
a2e X G (by kernel_rfl),
a2e X G (by kernel_rfl),
a2e X G (by kernel_rfl),
a2e X G (by kernel_rfl),
⟨205,a3d X G (by kernel_rfl)⟩⟩
def dU5{P:Program}{w:World}{mg:Str->Option Value}{base:Heap}(T:Txt (Hd.KF w.params) mg adr):FnOk P w (Hd.KF w.params) mg base CX0 6 179 Hd.aZ2 ["_law_script"] (bR9 1 zE):=by
 have a:=aX7 (P:=P) (w:=w) (base:=base) T;have b:=zF (P:=P) (w:=w) (base:=base) T a;have d:=aX8 (P:=P) (w:=w) (base:=base) T b a;have h:=a.imp (cA4 (K:=Hd.KF w.params));have i:=d.imp (cA5 (K:=Hd.KF w.params));have j:=(qW (P:=P) (w:=w) (base:=base) T h i).fz.imp (dD2 (K:=Hd.KF w.params));have k:=rM (P:=P) (w:=w) (base:=base) T a d;have l:=aP9 (P:=P) (w:=w) (base:=base) T a;have m:=zG (P:=P) (w:=w) (base:=base) T a j k b l;have n:=bJ5 (P:=P) (w:=w) (base:=base) T;have c:=aA4 (P:=P) (w:=w) (base:=base) T;have o:=aA5 (P:=P) (w:=w) (base:=base) T;have e:=bJ6 (P:=P) (w:=w) (base:=base) T o;have p:=zH (P:=P) (w:=w) (base:=base) T;have q:=rN (P:=P) (w:=w) (base:=base) T b c e p;have r:=bJ7 (P:=P) (w:=w) (base:=base) T;have s:=aA6 (P:=P) (w:=w) (base:=base) T;have t:=aA7 (P:=P) (w:=w) (base:=base) T r s;have u:=aA8 (P:=P) (w:=w) (base:=base) T;have v:=aI7 (P:=P) (w:=w) (base:=base) T;have f:=bJ8 (P:=P) (w:=w) (base:=base) T t u v;have x:=aQ0 (P:=P) (w:=w) (base:=base) T;have y:=aI8 (P:=P) (w:=w) (base:=base) T;have z:=rO (P:=P) (w:=w) (base:=base) T;have A:=bW3 (P:=P) (w:=w) (base:=base) T z;have B:=bJ9 (P:=P) (w:=w) (base:=base) T x y A f;have g:=aA9 (P:=P) (w:=w) (base:=base) T c;have C:=rP (P:=P) (w:=w) (base:=base) T B e g;have D:=aB0 (P:=P) (w:=w) (base:=base) T b c a;have E:=aQ1 (P:=P) (w:=w) (base:=base) T;have F:=dQ3 (P:=P) (w:=w) (base:=base) T m n q f C D E g;exact F
def cJ0:W.WalkO Hd.Vw [] (W.XL Hd.Vw []) (W.InK Hd.KF) PySem.Challenge.rw_mostrows_k48_rings_looked_at.row.toRowW Hd.dW0 [] (λf vs=>PySem.call f vs):=by
 refine L2.cT0 (l:=PySem.Challenge.rw_mostrows_k48_rings_looked_at) (K:=Hd.KF) (n:=63) (k:=6) (x:="_law_script") (CX:=λ_=>CX0) (sp:=λw=>bR9 1 zE) rfl (by decide) (by kernel_rfl) ⟨rfl,by decide,by decide⟩ (λw h Y=>Y) (λw mg i h X G e=>?_) (λw _ a ns b c d=>bJ4 (zD aX6) (by kernel_rfl) c d (cI9 ns b)) λ_ _ _ _ _ z=>z;have T:=txt X G;have g:=T.a3K.symm.trans e;cases g;exact⟨Hd.aZ2,λs v=>.of_eq (by kernel_rfl),λbase _ _=>dU5 T⟩
end Mr
open PySem PySem.W PyProof.Rows
theorem PySem.Challenge.cw_mostrows_k48_rings_looked_at_holds : PySem.Challenge.rw_mostrows_k48_rings_looked_at.Holds :=
 Hd.eB2 Mr.cJ0
#print axioms PySem.Challenge.cw_mostrows_k48_rings_looked_at_holds
