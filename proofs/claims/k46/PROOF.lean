import PyProof.Rows.All
import Wide.All
import OpenK.AllK
import Wide.FinOn
import Lean
import PyProof.EqAt
import PyProof.EqKinds
import PyProof.TupleCall
import PyProof.FitsBits
import PyProof.Rows.RuleM_int
import PyProof.P3In
import PyProof.NeData
import PyProof.NoPylong
import PyProof.Draws
import PyProof.ZipIter
import PyProof.EnumMake
import PyProof.StationsW
import PyProof.RulesAs
import PyProof.ExcClass2
import PyProof.Rows.Exc
import OpenK.KMake
import PyProof.InstStoreFacts
import OpenK.KCls
import PyProof.ExcArgsOwn
import PyProof.ExcAttrAll.ValueError
import PyProof.FitsInt
import PyProof.FString
import PyProof.FString4
import PyProof.StrLawsRepr
import PyProof.NsDelKeeps
import PyProof.WalksMore
import PyProof.SetNew
import PyProof.SetKind
import PyProof.Rows.SetFrom
import PyProof.AttrMissHeap
import PyProof.ListMulAny
import PyProof.Rows.SortKeyStr
import PyProof.DictKinds
import PySem.SetOps
import PyProof.SetScanFacts
import PyProof.TupleKey
import PyProof.IsRules
import PyProof.SetRoads
import PyProof.AutoListH
import PyProof.FactsAll.list_3
import PyProof.DictRoadsH
import PySem.Challenge.RW_mostrows_k46_ears_told
set_option compiler.extract_closed false
set_option Elab.async false
set_option linter.all false
set_option maxRecDepth 100000
set_option maxHeartbeats 4000000
def a3Z:=@PySem.wpAny_bind
def a4i:=@if_pos
def a4j:=@if_neg
def a4k:=@decide_eq_false
def a4l:=@PySem.wpAny_pure
def a4m:=@decide_eq_true_eq
def a4n:=@decide_eq_true
def a4o:=@PySem.wpAny_loadPart'
def a4p:=@PySem.wpAny_holding
def a4q:=@congrArg
def a4r:=@PySem.wpAny_mono
def a4s:=@PySem.wpAny_truthy_bool
def a4t:=@PySem.wpAny_newObj_type
def a4u:=@PySem.wpAny_Call_Name_kw
def a4v:=@PySem.wpAny_passesOwn
def a4w:=@PySem.codeAny_builtin
def a4x:=@PySem.wpAny_call_entry
def a4y:=@PySem.wpAny_getItem_str_slice
def a4z:=@if_true
def a4A:=@PySem.call_meets
def a4B:=@PySem.wpAny_pyIter_tuple
def a4C:=@if_false
def a4D:=@PySem.plainId_quiet
def a4E:=@PySem.sizeLine_eq
def a4F:=@PySem.wpAny_field
def a4G:=@PySem.codeAny_mono
def a4H:=@PySem.wpAny_typeOf
def a4I:=@bne_self_eq_false
def a4J:=@PySem.wpAny_standAt
def a4K:=@beq_iff_eq
def a4L:=@PySem.wpAny_rule
def a0a:=@List.getElem?_eq_getElem
def a1a:=@List.length_map
def a2a:=@List.getElem?_eq_some_iff
def a3a:=@List.mem_cons_self
def a4a:=@PySem.Heap.get?_push_of_some
def a5a:=@List.getD_eq_getElem?_getD
def a6a:=@List.mem_cons_of_mem
def a7a:=@Option.some.inj
def a8a:=@Nat.le_refl
def a9a:=@List.mem_singleton
def a0b:=@List.getElem?_set_ne
def a1b:=@List.size_toArray
def a2b:=@List.mem_cons
def a3b:=@List.length_append
def a4b:=@PySem.Heap.lt_size
def a5b:=@List.mem_append
def a6b:=@List.getElem_mem
def a7b:=@List.mem_of_getElem?
def a8b:=@List.getElem?_map
def a9b:=@Bool.false_ne_true
def a0c:=@PySem.Heap.get?_push_size
def a1c:=@List.mem_append_right
def a2c:=@List.mem_map
def a3c:=@List.map_append
def a4c:=@Nat.le_trans
def a5c:=@Nat.zero_le
def a6c:=@Option.map_eq_some_iff
def a7c:=@PySem.F.plainAttrs_list
def a8c:=@List.getElem?_set_self
def a9c:=@List.mem_range
def a0d:=@PySem.W.mg_of
def a1d:=@Nat.ne_of_lt
def a2d:=@List.getElem?_cons_succ
def a3d:=@List.getElem?_eq_none_iff
def a4d:=@Classical.byContradiction
def a5d:=@Nat.lt_of_lt_of_le
def a6d:=@List.mem_append_left
def a7d:=@List.getElem_of_mem
def a8d:=@List.length_take
def a9d:=@Bool.eq_iff_iff
def a0e:=@Ne.symm
def a1e:=@PySem.F.slot_list_append
def a2e:=@PySem.F.type_list_append
def a3e:=@List.mem_of_mem_take
def a4e:=@PySem.PassesOwn.never
def a5e:=@Nat.lt_irrefl
def a6e:=@PySem.W.mg_none_of
def a7e:=@List.nodup_cons
def a8e:=@List.map_cons
def a9e:=@List.getElem?_eq_none
def a0f:=@PyProof.Rows.slot_tuple_getitem
def a1f:=@List.length_range
def a2f:=@List.take_add_one
def a3f:=@Bool.and_eq_true
def a4f:=@PyProof.Rows.callWith_type1
def a5f:=@Array.length_toList
def a6f:=@PySem.W.kia_one
def a7f:=@List.length_drop
def a8f:=@List.length_cons
def a9f:=@Array.getElem?_toList
def a0g:=@Nat.zero_add
def a1g:=@List.getElem?_append_right
def a2g:=@PySem.Heap.get?_update_other
def a3g:=@List.getElem?_append_left
def a4g:=@List.append_nil
def a5g:=@List.length_set
def a6g:=@List.all_eq_true
def a7g:=@PySem.Around.under_plainId
def a8g:=@PyProof.Rows.F.plain_set_update_loop
def a9g:=@List.ext_getElem?
def a0h:=@PySem.F.slot_tuple_iterator_next
def a1h:=@Nat.lt_trans
def a2h:=@Int.emod_lt_of_pos
def a3h:=@List.length_nil
def a4h:=@PySem.mem_of_lookup
def a5h:=@List.lookup_cons
def a6h:=@PySem.Heap.size_push
def a7h:=@Nat.ne_of_gt
def a8h:=@Int.toNat_natCast
def a9h:=@Bool.and_false
def a0i:=@Nat.le_of_lt
def a1i:=@List.pairwise_cons
def a2i:=@Int.emod_nonneg
def a3i:=@List.map_take
namespace Hd
open PySem PySem.W
noncomputable def top(i:Nat):Stmt:=PySem.Challenge.pw_mostrows_k46_ears_told.main.body.getD i (.Pass ⟨0,0,0,0⟩)
noncomputable def kG(x q:Str)(s:Stmt)(m:Value)(c:Addr):FuncData:=match s with
 | .FunctionDef _ a b _ _ _ e _ _ _=>fnOf x q a b e .none .none .none m none (.ref c) .none
 | _=>default
noncomputable def dP9:DefRec:=match top 37 with
 | .FunctionDef n a b _ _ _ e _ _ p=>⟨n,a,b,e,p⟩
 | _=>⟨"",default,[],default,default⟩
noncomputable def kE(P:Params)(x:Str)(t:Tok)(v:Value):DictEntry:=⟨PyData.keyHash P x,.str x t,v⟩
noncomputable def kT(l:List Value):Obj:=⟨.type "tuple",none,.seq l.toArray 0,#[]⟩
noncomputable def kF(f:FuncData):Obj:=⟨.type "function",none,.func f,#[]⟩
noncomputable def dB5:=kG "columns_of" "columns_of" (top 1) (.str "mostrows.questions" 187) 18
noncomputable def dB6:=kG "all_parts" "all_parts" (top 3) (.str "mostrows.parts" 195) 23
noncomputable def dB7:=kG "sets_in" "sets_in" (top 6) (.str "mostrows.rings" 203) 28
noncomputable def dB8:=kG "lies_within" "lies_within" (top 7) (.str "mostrows.rings" 203) 33
noncomputable def dB9:=kG "widest_sets" "widest_sets" (top 8) (.str "mostrows.rings" 203) 38
noncomputable def dC0:=kG "neighbours" "neighbours" (top 9) (.str "mostrows.rings" 203) 43
noncomputable def dC1:=kG "all_but_one" "all_but_one" (top 10) (.str "mostrows.rings" 203) 48
noncomputable def dC2:=kG "is_ring" "is_ring" (top 11) (.str "mostrows.rings" 203) 55
noncomputable def dC3:=kG "stand_together" "stand_together" (top 12) (.str "mostrows.rings" 203) 60
noncomputable def dC4:=kG "walked" "walked" (top 13) (.str "mostrows.rings" 203) 65
noncomputable def dC5:=kG "ring_of" "ring_of" (top 14) (.str "mostrows.rings" 203) 72
noncomputable def dC6:=kG "without" "without" (top 16) (.str "mostrows.ears" 267) 77
noncomputable def dC7:=kG "has_all" "has_all" (top 17) (.str "mostrows.ears" 267) 82
noncomputable def dC8:=kG "holders_of" "holders_of" (top 18) (.str "mostrows.ears" 267) 87
noncomputable def dC9:=kG "ears_in" "ears_in" (top 19) (.str "mostrows.ears" 267) 92
noncomputable def cI4:=kG "taken_off" "taken_off" (top 20) (.str "mostrows.ears" 267) 99
noncomputable def cI5:=kG "ears" "ears" (top 21) (.str "mostrows.ears" 267) 106
noncomputable def cI6:=kG "_law_box" "_law_box" (top 23) (.str "law_mostrows_k46_ears_told" 311) 113
noncomputable def cI7:=kG "_law_take" "_law_take" (top 24) (.str "law_mostrows_k46_ears_told" 311) 120
noncomputable def cI8:=kG "_law_names" "_law_names" (top 25) (.str "law_mostrows_k46_ears_told" 311) 125
noncomputable def cI9:=kG "_law_shuffled" "_law_shuffled" (top 26) (.str "law_mostrows_k46_ears_told" 311) 132
noncomputable def cJ0:=kG "_law_some" "_law_some" (top 27) (.str "law_mostrows_k46_ears_told" 311) 139
noncomputable def cJ1:=kG "_law_plain_sets" "_law_plain_sets" (top 28) (.str "law_mostrows_k46_ears_told" 311) 144
noncomputable def cJ2:=kG "_law_round_sets" "_law_round_sets" (top 29) (.str "law_mostrows_k46_ears_told" 311) 149
noncomputable def cJ3:=kG "_law_question" "_law_question" (top 30) (.str "law_mostrows_k46_ears_told" 311) 154
noncomputable def cJ4:=kG "_law_columns" "_law_columns" (top 31) (.str "law_mostrows_k46_ears_told" 311) 159
noncomputable def cJ5:=kG "_law_holders" "_law_holders" (top 32) (.str "law_mostrows_k46_ears_told" 311) 164
noncomputable def cJ6:=kG "_law_taken_off" "_law_taken_off" (top 33) (.str "law_mostrows_k46_ears_told" 311) 169
noncomputable def cJ7:=kG "_law_shows" "_law_shows" (top 34) (.str "law_mostrows_k46_ears_told" 311) 174
noncomputable def cJ8:=kG "_law_is_ring" "_law_is_ring" (top 35) (.str "law_mostrows_k46_ears_told" 311) 179
noncomputable def cJ9:=kG "_law_right" "_law_right" (top 36) (.str "law_mostrows_k46_ears_told" 311) 184
noncomputable def aY8:=kG "law" "law" (top 37) (.str "law_mostrows_k46_ears_told" 311) 191
noncomputable def kC(x:Str)(a:Tok)(q:Str)(b c:Tok)(d e f:Int)(g:Addr)(h:Int)(i j k l:Addr)(m n:Int)(o:Tok):Obj:=⟨.type "code",none,.fields #[.str x a,.str q b,.str "/claim/cut.py" c,.int d 0,.int e 0,.int 0 0,.int 0 0,.int f 0,.ref g,.bool true,.int h 0,.ref i,.none,.ref j,.ref k,.ref l,.int m 0,.int n 0,.str "/claim/cut.py" o],#[]⟩
noncomputable def KF(P:Params):W.Frag:=[
(2,⟨.none,none,(.dict #[] 0),#[]⟩),
(3,⟨(.type "dict"),none,(.dict #[kE P "__name__" 165 (.str "law_mostrows_k46_ears_told" 311),kE P "__doc__" 166 .none,kE P "__package__" 167 .none,kE P "__loader__" 168 (.builtin "__main__.__loader__#opaque"),kE P "__spec__" 169 .none,kE P "__annotations__" 170 (.ref 6),kE P "__builtins__" 171 (.ref 4),kE P "__file__" 173 (.str "/claim/cut.py" 172),kE P "__cached__" 174 .none,kE P "columns_of" 194 (.ref 19),kE P "all_parts" 202 (.ref 24),kE P "FEWEST" 206 (.int 3 205),kE P "sets_in" 212 (.ref 29),kE P "lies_within" 218 (.ref 34),kE P "widest_sets" 224 (.ref 39),kE P "neighbours" 230 (.ref 44),kE P "all_but_one" 236 (.ref 49),kE P "is_ring" 245 (.ref 56),kE P "stand_together" 251 (.ref 61),kE P "walked" 257 (.ref 66),kE P "ring_of" 266 (.ref 73),kE P "without" 274 (.ref 78),kE P "has_all" 280 (.ref 83),kE P "holders_of" 286 (.ref 88),kE P "ears_in" 292 (.ref 93),kE P "taken_off" 302 (.ref 100),kE P "ears" 310 (.ref 107),kE P "_law_box" 322 (.ref 114),kE P "_law_take" 332 (.ref 121),kE P "_law_names" 338 (.ref 126),kE P "_law_shuffled" 348 (.ref 133),kE P "_law_some" 356 (.ref 140),kE P "_law_plain_sets" 362 (.ref 145),kE P "_law_round_sets" 368 (.ref 150),kE P "_law_question" 374 (.ref 155),kE P "_law_columns" 380 (.ref 160),kE P "_law_holders" 386 (.ref 165),kE P "_law_taken_off" 392 (.ref 170),kE P "_law_shows" 398 (.ref 175),kE P "_law_is_ring" 404 (.ref 180),kE P "_law_right" 410 (.ref 185),kE P "law" 421 (.ref 192)] 42),#[]⟩),
(15,kT []),
(18,⟨(.type "code"),none,(.fields #[(.str "columns_of" 189),(.str "columns_of" 190),(.str "/claim/cut.py" 191),(.int 2 0),(.int 1 0),(.int 0 0),(.int 0 0),(.int 3 0),(.ref 15),(.bool true),(.int 181 0),(.ref 16),.none,.none,.none,(.ref 17),(.int 192 0),(.int 2 0),(.str "/claim/cut.py" 193)]),#[]⟩),
(19,kF dB5),
(20,kT []),
(23,⟨(.type "code"),none,(.fields #[(.str "all_parts" 197),(.str "all_parts" 198),(.str "/claim/cut.py" 199),(.int 8 0),(.int 1 0),(.int 0 0),(.int 0 0),(.int 3 0),(.ref 20),(.bool true),(.int 181 0),(.ref 21),.none,.none,.none,(.ref 22),(.int 200 0),(.int 8 0),(.str "/claim/cut.py" 201)]),#[]⟩),
(24,kF dB6),
(25,kT []),
(28,⟨(.type "code"),none,(.fields #[(.str "sets_in" 207),(.str "sets_in" 208),(.str "/claim/cut.py" 209),(.int 15 0),(.int 2 0),(.int 0 0),(.int 0 0),(.int 3 0),(.ref 25),(.bool true),(.int 181 0),(.ref 26),.none,.none,.none,(.ref 27),(.int 210 0),(.int 15 0),(.str "/claim/cut.py" 211)]),#[]⟩),
(29,kF dB7),
(30,kT []),
(33,⟨(.type "code"),none,(.fields #[(.str "lies_within" 213),(.str "lies_within" 214),(.str "/claim/cut.py" 215),(.int 22 0),(.int 2 0),(.int 0 0),(.int 0 0),(.int 3 0),(.ref 30),(.bool true),(.int 181 0),(.ref 31),.none,.none,.none,(.ref 32),(.int 216 0),(.int 22 0),(.str "/claim/cut.py" 217)]),#[]⟩),
(34,kF dB8),
(35,kT []),
(38,⟨(.type "code"),none,(.fields #[(.str "widest_sets" 219),(.str "widest_sets" 220),(.str "/claim/cut.py" 221),(.int 24 0),(.int 2 0),(.int 0 0),(.int 0 0),(.int 3 0),(.ref 35),(.bool true),(.int 181 0),(.ref 36),.none,.none,.none,(.ref 37),(.int 222 0),(.int 24 0),(.str "/claim/cut.py" 223)]),#[]⟩),
(39,kF dB9),
(40,kT []),
(43,⟨(.type "code"),none,(.fields #[(.str "neighbours" 225),(.str "neighbours" 226),(.str "/claim/cut.py" 227),(.int 27 0),(.int 1 0),(.int 0 0),(.int 0 0),(.int 3 0),(.ref 40),(.bool true),(.int 181 0),(.ref 41),.none,.none,.none,(.ref 42),(.int 228 0),(.int 27 0),(.str "/claim/cut.py" 229)]),#[]⟩),
(44,kF dC0),
(45,kT []),
(48,⟨(.type "code"),none,(.fields #[(.str "all_but_one" 231),(.str "all_but_one" 232),(.str "/claim/cut.py" 233),(.int 30 0),(.int 1 0),(.int 0 0),(.int 0 0),(.int 3 0),(.ref 45),(.bool true),(.int 181 0),(.ref 46),.none,.none,.none,(.ref 47),(.int 234 0),(.int 30 0),(.str "/claim/cut.py" 235)]),#[]⟩),
(49,kF dC1),
(50,kT []),
(52,kT [(.str "question" 240),(.str "columns" 241),(.str "found" 242)]),
(53,kT []),
(55,kC "is_ring" 237 "is_ring" 238 239 32 2 3 50 181 51 52 53 54 243 32 244),
(56,kF dC2),
(57,kT []),
(60,⟨(.type "code"),none,(.fields #[(.str "stand_together" 246),(.str "stand_together" 247),(.str "/claim/cut.py" 248),(.int 37 0),(.int 3 0),(.int 0 0),(.int 0 0),(.int 3 0),(.ref 57),(.bool true),(.int 181 0),(.ref 58),.none,.none,.none,(.ref 59),(.int 249 0),(.int 37 0),(.str "/claim/cut.py" 250)]),#[]⟩),
(61,kF dC3),
(62,kT []),
(65,⟨(.type "code"),none,(.fields #[(.str "walked" 252),(.str "walked" 253),(.str "/claim/cut.py" 254),(.int 39 0),(.int 2 0),(.int 0 0),(.int 0 0),(.int 3 0),(.ref 62),(.bool true),(.int 181 0),(.ref 63),.none,.none,.none,(.ref 64),(.int 255 0),(.int 39 0),(.str "/claim/cut.py" 256)]),#[]⟩),
(66,kF dC4),
(67,kT []),
(69,kT [(.str "question" 261),(.str "columns" 262),(.str "way" 263)]),
(70,kT []),
(72,kC "ring_of" 258 "ring_of" 259 260 45 1 3 67 181 68 69 70 71 264 45 265),
(73,kF dC5),
(74,kT []),
(77,⟨(.type "code"),none,(.fields #[(.str "without" 269),(.str "without" 270),(.str "/claim/cut.py" 271),(.int 52 0),(.int 2 0),(.int 0 0),(.int 0 0),(.int 3 0),(.ref 74),(.bool true),(.int 181 0),(.ref 75),.none,.none,.none,(.ref 76),(.int 272 0),(.int 52 0),(.str "/claim/cut.py" 273)]),#[]⟩),
(78,kF dC6),
(79,kT []),
(82,⟨(.type "code"),none,(.fields #[(.str "has_all" 275),(.str "has_all" 276),(.str "/claim/cut.py" 277),(.int 54 0),(.int 2 0),(.int 0 0),(.int 0 0),(.int 3 0),(.ref 79),(.bool true),(.int 181 0),(.ref 80),.none,.none,.none,(.ref 81),(.int 278 0),(.int 54 0),(.str "/claim/cut.py" 279)]),#[]⟩),
(83,kF dC7),
(84,kT []),
(87,⟨(.type "code"),none,(.fields #[(.str "holders_of" 281),(.str "holders_of" 282),(.str "/claim/cut.py" 283),(.int 56 0),(.int 3 0),(.int 0 0),(.int 0 0),(.int 3 0),(.ref 84),(.bool true),(.int 181 0),(.ref 85),.none,.none,.none,(.ref 86),(.int 284 0),(.int 56 0),(.str "/claim/cut.py" 285)]),#[]⟩),
(88,kF dC8),
(89,kT []),
(92,⟨(.type "code"),none,(.fields #[(.str "ears_in" 287),(.str "ears_in" 288),(.str "/claim/cut.py" 289),(.int 62 0),(.int 1 0),(.int 0 0),(.int 0 0),(.int 3 0),(.ref 89),(.bool true),(.int 181 0),(.ref 90),.none,.none,.none,(.ref 91),(.int 290 0),(.int 62 0),(.str "/claim/cut.py" 291)]),#[]⟩),
(93,kF dC9),
(94,kT []),
(96,kT [(.str "question" 296),(.str "left" 297),(.str "taken" 298),(.str "found" 299)]),
(97,kT []),
(99,kC "taken_off" 293 "taken_off" 294 295 67 1 3 94 181 95 96 97 98 300 67 301),
(100,kF cI4),
(101,kT []),
(103,kT [(.str "question" 306),(.str "taken" 307)]),
(104,kT []),
(106,kC "ears" 303 "ears" 304 305 76 1 3 101 181 102 103 104 105 308 76 309),
(107,kF cI5),
(108,kT []),
(110,kT [(.str "_law_script" 316),(.str "_law_k" 317),(.str "_law_cell" 318),(.str "_law_seed" 319)]),
(111,kT []),
(113,kC "_law_box" 313 "_law_box" 314 315 82 2 3 108 181 109 110 111 112 320 82 321),
(114,kF cI6),
(115,kT []),
(117,kT [(.str "_law_box_here" 326),(.str "_law_many" 327),(.str "_law_digit" 328),(.str "_law_one" 329)]),
(118,kT []),
(120,kC "_law_take" 323 "_law_take" 324 325 90 2 3 115 181 116 117 118 119 330 90 331),
(121,kF cI7),
(122,kT []),
(125,⟨(.type "code"),none,(.fields #[(.str "_law_names" 333),(.str "_law_names" 334),(.str "/claim/cut.py" 335),(.int 98 0),(.int 2 0),(.int 0 0),(.int 0 0),(.int 3 0),(.ref 122),(.bool true),(.int 181 0),(.ref 123),.none,.none,.none,(.ref 124),(.int 336 0),(.int 98 0),(.str "/claim/cut.py" 337)]),#[]⟩),
(126,kF cI8),
(127,kT []),
(129,kT [(.str "_law_box_here" 342),(.str "_law_things" 343),(.str "_law_left" 344),(.str "_law_found" 345)]),
(130,kT []),
(132,kC "_law_shuffled" 339 "_law_shuffled" 340 341 112 2 3 127 181 128 129 130 131 346 112 347),
(133,kF cI9),
(134,kT []),
(136,kT [(.str "_law_box_here" 352),(.str "_law_things" 353)]),
(137,kT []),
(139,kC "_law_some" 349 "_law_some" 350 351 118 2 3 134 181 135 136 137 138 354 118 355),
(140,kF cJ0),
(141,kT []),
(144,⟨(.type "code"),none,(.fields #[(.str "_law_plain_sets" 357),(.str "_law_plain_sets" 358),(.str "/claim/cut.py" 359),(.int 120 0),(.int 1 0),(.int 0 0),(.int 0 0),(.int 3 0),(.ref 141),(.bool true),(.int 181 0),(.ref 142),.none,.none,.none,(.ref 143),(.int 360 0),(.int 120 0),(.str "/claim/cut.py" 361)]),#[]⟩),
(145,kF cJ1),
(146,kT []),
(149,⟨(.type "code"),none,(.fields #[(.str "_law_round_sets" 363),(.str "_law_round_sets" 364),(.str "/claim/cut.py" 365),(.int 136 0),(.int 1 0),(.int 0 0),(.int 0 0),(.int 3 0),(.ref 146),(.bool true),(.int 181 0),(.ref 147),.none,.none,.none,(.ref 148),(.int 366 0),(.int 136 0),(.str "/claim/cut.py" 367)]),#[]⟩),
(150,kF cJ2),
(151,kT []),
(154,⟨(.type "code"),none,(.fields #[(.str "_law_question" 369),(.str "_law_question" 370),(.str "/claim/cut.py" 371),(.int 150 0),(.int 1 0),(.int 0 0),(.int 0 0),(.int 3 0),(.ref 151),(.bool true),(.int 181 0),(.ref 152),.none,.none,.none,(.ref 153),(.int 372 0),(.int 150 0),(.str "/claim/cut.py" 373)]),#[]⟩),
(155,kF cJ3),
(156,kT []),
(159,⟨(.type "code"),none,(.fields #[(.str "_law_columns" 375),(.str "_law_columns" 376),(.str "/claim/cut.py" 377),(.int 164 0),(.int 1 0),(.int 0 0),(.int 0 0),(.int 3 0),(.ref 156),(.bool true),(.int 181 0),(.ref 157),.none,.none,.none,(.ref 158),(.int 378 0),(.int 164 0),(.str "/claim/cut.py" 379)]),#[]⟩),
(160,kF cJ4),
(161,kT []),
(164,⟨(.type "code"),none,(.fields #[(.str "_law_holders" 381),(.str "_law_holders" 382),(.str "/claim/cut.py" 383),(.int 169 0),(.int 2 0),(.int 0 0),(.int 0 0),(.int 3 0),(.ref 161),(.bool true),(.int 181 0),(.ref 162),.none,.none,.none,(.ref 163),(.int 384 0),(.int 169 0),(.str "/claim/cut.py" 385)]),#[]⟩),
(165,kF cJ5),
(166,kT []),
(169,⟨(.type "code"),none,(.fields #[(.str "_law_taken_off" 387),(.str "_law_taken_off" 388),(.str "/claim/cut.py" 389),(.int 174 0),(.int 2 0),(.int 0 0),(.int 0 0),(.int 3 0),(.ref 166),(.bool true),(.int 181 0),(.ref 167),.none,.none,.none,(.ref 168),(.int 390 0),(.int 174 0),(.str "/claim/cut.py" 391)]),#[]⟩),
(170,kF cJ6),
(171,kT []),
(174,⟨(.type "code"),none,(.fields #[(.str "_law_shows" 393),(.str "_law_shows" 394),(.str "/claim/cut.py" 395),(.int 186 0),(.int 2 0),(.int 0 0),(.int 0 0),(.int 3 0),(.ref 171),(.bool true),(.int 181 0),(.ref 172),.none,.none,.none,(.ref 173),(.int 396 0),(.int 186 0),(.str "/claim/cut.py" 397)]),#[]⟩),
(175,kF cJ7),
(176,kT []),
(179,⟨(.type "code"),none,(.fields #[(.str "_law_is_ring" 399),(.str "_law_is_ring" 400),(.str "/claim/cut.py" 401),(.int 197 0),(.int 2 0),(.int 0 0),(.int 0 0),(.int 3 0),(.ref 176),(.bool true),(.int 181 0),(.ref 177),.none,.none,.none,(.ref 178),(.int 402 0),(.int 197 0),(.str "/claim/cut.py" 403)]),#[]⟩),
(180,kF cJ8),
(181,kT []),
(184,⟨(.type "code"),none,(.fields #[(.str "_law_right" 405),(.str "_law_right" 406),(.str "/claim/cut.py" 407),(.int 216 0),(.int 2 0),(.int 0 0),(.int 0 0),(.int 3 0),(.ref 181),(.bool true),(.int 181 0),(.ref 182),.none,.none,.none,(.ref 183),(.int 408 0),(.int 216 0),(.str "/claim/cut.py" 409)]),#[]⟩),
(185,kF cJ9),
(186,kT []),
(188,kT [(.str "_law_script" 414),(.str "_law_first" 415),(.str "_law_second" 416),(.str "_law_question_here" 417),(.str "_law_due" 418)]),
(189,kT []),
(191,kC "law" 411 "law" 412 413 229 1 3 186 181 187 188 189 190 419 229 420),
(192,kF aY8)]
noncomputable def Vw:Program:=view PySem.Challenge.pw_mostrows_k46_ears_told [1,3,5,6,7,8,9,10,11,12,13,14,16,17,18,19,20,21,23,24,25,26,27,28,29,30,31,32,33,34,35,36,37]
def dX8:PySem.Challenge.rw_mostrows_k46_ears_told.wellSaid=true:=by kernel_rfl
def aK:LeftO PySem.Challenge.rw_mostrows_k46_ears_told.row.prog Vw [] (λs=>xlAt Vw [] s&&recOk (RowW.records PySem.Challenge.rw_mostrows_k46_ears_told.row.toRowW) s) (λs=>[2,3,15,18,19,20,23,24,25,28,29,30,33,34,35,38,39,40,43,44,45,48,49,50,52,53,55,56,57,60,61,62,65,66,67,69,70,72,73,74,77,78,79,82,83,84,87,88,89,92,93,94,96,97,99,100,101,103,104,106,107,108,110,111,113,114,115,117,118,120,121,122,125,126,127,129,130,132,133,134,136,137,139,140,141,144,145,146,149,150,151,154,155,156,159,160,161,164,165,166,169,170,171,174,175,176,179,180,181,184,185,186,188,189,191,192].map s.heap.get?) (λw=>(KF w.params).map λp=>some p.2) 1996:=λw=>by kernel_rfl
def dV5(h:WalkO Vw [] (XL Vw []) (InK KF) PySem.Challenge.rw_mostrows_k46_ears_told.row.toRowW dP9 [] (λf vs=>PySem.call f vs)):PySem.Challenge.rw_mostrows_k46_ears_told.Holds:=
 holds_law dX8 λe=>holds_open (d:=dP9) (kwd:=[]) aK (InK.of λ_=>by kernel_rfl) InK.keeps (λs e=>xl_of s (Bool.and_eq_true_iff.mp e).1) XL.keeps (by kernel_rfl) (by kernel_rfl) (by kernel_rfl) (λs e=>recFacts_of (Bool.and_eq_true_iff.mp e).2) (by kernel_rfl) e (by kernel_rfl) ⟨rfl,rfl,rfl,rfl,rfl,by decide +kernel⟩ (by w_witness2) h
end Hd
namespace L2
open PySem PySem.Spec PyProof.Rows
abbrev Key:=Sum Int Str
noncomputable def bF2:Key->Value->Bool
 | .inl k,v=>Value.isInt k v
 | .inr x,v=>Value.isStrOf x v
noncomputable def dX9(w:World):Key->Int
 | .inl k=>hashInt k
 | .inr x=>hashStr w x
def eE:∀ {k:Key} {v:Value},bF2 k v=true->(∃ i t,k=Sum.inl i/\v=Value.int i t)\/(∃ x t,k=Sum.inr x/\v=Value.str x t)
 | .inl i,v,h=>by
   obtain⟨t,e⟩:=Value.isInt_shape (k:=i) (v:=v) h;exact .inl ⟨i,t,rfl,e⟩
 | .inr x,v,h=>by
   obtain⟨t,e⟩:=Value.isStrOf_shape (x:=x) (v:=v) h;exact .inr ⟨x,t,rfl,e⟩
def bK5(i:Int)(t:Tok):bF2 (.inl i) (.int i t)=true:=by simp[bF2,Value.isInt]
def bK6(x:Str)(t:Tok):bF2 (.inr x) (.str x t)=true:=by simp[bF2,Value.isStrOf]
def dD0(a b:Int):decide ((Sum.inl a:Key)=Sum.inl b)=(a==b):=by
 by_cases e:a=b;subst e;simp;have h:¬ (Sum.inl a:Key)=Sum.inl b:=λq=>e (Sum.inl.inj q);rw[a4k h];exact(beq_eq_false_iff_ne.mpr e).symm
def dD1(a b:Str):decide ((Sum.inr a:Key)=Sum.inr b)=decide (a=b):=by
 by_cases e:a=b;subst e;simp;have h:¬ (Sum.inr a:Key)=Sum.inr b:=λq=>e (Sum.inr.inj q);rw[a4k h,a4k e]
def dD2(a:Int)(b:Str):decide ((Sum.inl a:Key)=Sum.inr b)=false:=a4k (λq=>nomatch q)
def dD3(a:Str)(b:Int):decide ((Sum.inr a:Key)=Sum.inl b)=false:=a4k (λq=>nomatch q)
noncomputable def fO(prog:Program)(w:World):PySem.KeyKind prog w Key where
 is:=bF2
 hash:=dX9 w
 inj:=λv a b ha f=>by
  rcases eE ha with⟨i,t,rfl,rfl⟩ | ⟨x,t,rfl,rfl⟩
  ·rcases eE f with⟨j,u,rfl,e⟩ | ⟨y,u,rfl,e⟩
   ·injection e with c _;rw[c]
   ·exact nomatch e
  ·rcases eE f with⟨j,u,rfl,e⟩ | ⟨y,u,rfl,e⟩;exact nomatch e;injection e with c _;rw[c]
 byValue:=λk v h=>by
  rcases eE h with⟨i,t,rfl,rfl⟩ | ⟨x,t,rfl,rfl⟩<;>rfl
 pyHash:=λd h=>by
  rcases eE d with⟨i,t,rfl,rfl⟩ | ⟨x,t,rfl,rfl⟩;exact wpAny_pyHash_int h;exact wpAny_pyHash_str h
 eqBool:=λg d h=>by
  rcases eE g with⟨i,t,rfl,rfl⟩ | ⟨x,t,rfl,rfl⟩;rcases eE d with⟨j,u,rfl,rfl⟩ | ⟨y,u,rfl,rfl⟩;rw[dD0]at h;exact wpAny_eqBool_int h;rw[dD2]at h;exact SeqAt.EqAt.int_str i t y u _ _ _ _ h;rcases eE d with⟨j,u,rfl,rfl⟩ | ⟨y,u,rfl,rfl⟩;rw[dD3]at h;exact SeqAt.EqAt.str_int x t j u _ _ _ _ h;rw[dD1]at h;exact wpAny_eqBool_str h
 «strs»:=λk x t v h=>by
  rcases eE h with⟨i,u,rfl,e⟩ | ⟨y,u,rfl,e⟩;exact nomatch e;injection e with c _
  subst c;cases v<;>rfl
def aT3(prog:Program)(w:World)(i:Int)(t:Tok):(fO prog w).is (.inl i) (.int i t)=true:=bK5 i t
def aT4(prog:Program)(w:World)(x:Str)(t:Tok):(fO prog w).is (.inr x) (.str x t)=true:=bK6 x t
inductive V where
 | non | bl (b:Bool) | int (i:Int) | str (x:Str) | byt (b:Array UInt8) | flt (b:UInt64) | ref (a:Addr) | ty (n:String)
 deriving DecidableEq
def fN:V->Value->Prop
 | .non,u=>u=Value.none
 | .bl b,u=>u=Value.bool b
 | .int i,u=>∃ t,u=Value.int i t
 | .str x,u=>∃ t,u=Value.str x t
 | .byt b,u=>∃ t,u=Value.bytes b t
 | .flt b,u=>∃ t,u=Value.float b t
 | .ref a,u=>u=Value.ref a
 | .ty n,u=>u=Value.type n
abbrev cQ:List V->List Value->Prop:=Paired fN
theorem cQ.length{xs:List V}{us:List Value}(r:cQ xs us):xs.length=us.length:=Paired.length r
theorem cQ.get:∀ {xs:List V} {us:List Value} {i:Nat} {x:V},cQ xs us->xs[i]? = some x->∃ u,us[i]? = some u/\fN x u
 | _,_,_,_,.nil,e=>by simp at e
 | _,_,0,_,.cons r _,e=>by simp at e;subst e;exact⟨_,rfl,r⟩
 | _,_,i+1,x,.cons _ t,e=>by
   obtain⟨u,a,b⟩:=cQ.get (i:=i) (x:=x) t (by simpa using e);exact⟨u,by simpa using a,b⟩
theorem cQ.set{x:V}{u:Value}(r:fN x u):∀ {xs:List V} {us:List Value} (i:Nat),cQ xs us->cQ (xs.set i x) (us.set i u)
 | _,_,_,.nil=>.nil
 | _,_,0,.cons _ t=>.cons r t
 | _,_,i+1,.cons q t=>.cons q (cQ.set r i t)
theorem cQ.append:∀ {xs ys:List V} {us ws:List Value},cQ xs us->cQ ys ws->cQ (xs++ys) (us++ws)
 | _,_,_,_,.nil,s=>s
 | _,_,_,_,.cons r t,s=>.cons r (cQ.append t s)
theorem cQ.take:∀ {xs:List V} {us:List Value} (n:Nat),cQ xs us->cQ (xs.take n) (us.take n)
 | _,_,0,_=>.nil
 | _,_,_+1,.nil=>.nil
 | _,_,n+1,.cons r t=>.cons r (cQ.take n t)
theorem cQ.drop:∀ {xs:List V} {us:List Value} (n:Nat),cQ xs us->cQ (xs.drop n) (us.drop n)
 | _,_,0,r=>r
 | _,_,_+1,.nil=>.nil
 | _,_,n+1,.cons _ t=>cQ.drop n t
def bZ9:Option V->Option Value->Prop
 | some v,some u=>fN v u
 | none,none=>True
 | _,_=>False
def KV{κ:Type}:List (κ×V)->List (κ×Value)->Prop:=Paired λ(p:κ×V) (q:κ×Value)=>p.1=q.1/\fN p.2 q.2
noncomputable def kV:Key->V
 | .inl i=>.int i
 | .inr x=>.str x
inductive Tk where
 | s (x:Str) | p (a b:Tk)
deriving DecidableEq
noncomputable def bK7(w:World):Tk->Int
 | .s x=>hashStr w x
 | .p a b=>reduceHash (Builtin.Tuple.tupleHashOf [bK7 w a,bK7 w b])
inductive HO where
 | lst (xs:List V)
 | tup (xs:List V)
 | dK (kvs:List (Key×V)) | dT (kvs:List (List Key×V)) | dM (kvs:List (Tk×V))
 | set (S:Int->Bool) (n:Nat)
 | ins (C dx:Addr) (fs:List (Str×V))
 | own (x:Addr)
 | xd (fs:List (Str×V))
 | met (f x:Addr)
 | rng (lo hi:Int)
 | frz (o:Obj) (u:HO)
 | tbl (ps:Array Value)
 | ext (φ:Heap->Prop)
abbrev Hp:=Addr->Option HO
noncomputable def upd(H:Hp)(a:Addr)(o:HO):Hp:=λb=>if b=a then some o else H b
def aR{H:Hp}{a:Addr}{o:HO}:upd H a o a=some o:=by unfold upd;rw[a4i rfl]
def aL{H:Hp}{a b:Addr}{o:HO}(h:b≠a):upd H a o b=H b:=by unfold upd;rw[a4j h]
def cQ2{H:Hp}{a:Addr}{o u:HO}:upd (upd H a o) a u=upd H a u:=by
 funext b;unfold upd;split<;>rfl
def bD{H:Hp}{a b:Addr}{o:HO}(h:H a=some o)(h':H b=none):a≠b:=by
 intro e;subst e;rw[h]at h';cases h'
def cK0(H:Hp):Tk->V->Prop
 | .s x,v=>v=.str x
 | .p a b,v=>∃ q x y,v=.ref q/\H q=some (.tup [x,y])/\cK0 H a x/\cK0 H b y
theorem cK0.mono{H H':Hp}(a:∀ b xs,H b=some (.tup xs)->H' b=some (.tup xs)):∀ {k:Tk} {v:V},cK0 H k v->cK0 H' k v
 | .s _,_,h=>h
 | .p _ _,_,⟨q,x,y,e,c,d,f⟩=>⟨q,x,y,e,a _ _ c,cK0.mono a d,cK0.mono a f⟩
def dY0(h:Heap)(a:Addr):Prop:=∃ o,h.get? a=some o/\o.dict=none
section
variable(P:Program)(w:World)
def eR(H:Hp)(h:Heap)(a:Addr):HO->Prop
 | .lst xs=>xs.length<=sizeLine/\∃ (b:List Value) (n:Nat),cQ xs b/\h.get? a=some {cls:=.type "list",data:=.seq b.toArray n}
 | .tup xs=>xs.length<=sizeLine/\∃ b:List Value,cQ xs b/\IsTup h a b.toArray/\dY0 h a
 | .dK kvs=>kvs.length<=sizeLine/\(a==sysModules)=false/\∃ vs,KV kvs vs/\h.DictOf (fO P w) a vs
 | .dT kvs=>kvs.length<=sizeLine/\(a==sysModules)=false/\∃ xs:List (List Key×Addr×Value),
   Paired (λ(p:List Key×V) (q:List Key×Addr×Value)=>p.1=q.1/\H q.2.1=some (.tup (p.1.map kV))/\fN p.2 q.2.2) kvs xs /\
   ∃ o es c,h.get? a=some o/\o.ExactDict/\o.data=.dict es c/\es.toList=xs.map (entryOfKey (tupleKind (fO P w)))/\(xs.map (·.1)).Nodup
 | .dM kvs=>kvs.length<=sizeLine/\(a==sysModules)=false/\∃ xs:List (Tk×Value×Value),Paired (λ(p:Tk×V) (q:Tk×Value×Value)=>p.1=q.1/\(∃ y,cK0 H p.1 y/\fN y q.2.1)/\fN p.2 q.2.2) kvs xs /\
   ∃ o es c,h.get? a=some o/\o.ExactDict/\o.data=.dict es c/\es.toList=xs.map (λx=>⟨bK7 w x.1,x.2.1,x.2.2⟩)/\(xs.map (·.1)).Nodup
 | .set S n=>h.SetOf (intKind P w) a S n
 | .ins C dx fs=>H dx=some (.own a)/\fs.length<=1000/\dx≠a/\h.get? a=some (W.instObj C dx) /\
   ∃ mA,h.Ns1 dx mA/\(∀ f,bZ9 (fs.lookup f) (mA f))/\Within mA (fs.map (·.1))
 | .own _=>∃ o,h.get? a=some o
 | .xd fs=>∃ mA,h.Ns1 a mA/\∀ f,bZ9 (fs.lookup f) (mA f)
 | .rng lo hi=>∃ t u v,h.get? a=some {cls:=.type "range",data:=.fields #[.int lo t,.int hi u,.int 1 v]}
 | .frz o u=>h.get? a=some o/\eR H h a u
 | .tbl ps=>h.get? a=some {cls:=.none,data:=.fields ps}
 | .met f x=>h.get? a=some (W.methodObj (.ref f) (.ref x))
 | .ext φ=>φ h/\(∃ o,h.get? a=some o)/\∀ d e:Heap,φ d->(∀ o,d.get? a=some o->e.get? a=some o)->φ e
def HOk(H:Hp)(h:Heap):Prop:=∀ a o,H a=some o->eR P w H h a o
end
section
variable{P:Program}{w:World}{H H':Hp}{h h':Heap}{a:Addr}{o:HO}
theorem eR.lt(x:eR P w H h a o):a < h.objs.size:=by
 cases o with
 | lst xs=>obtain⟨_,_,_,_,e⟩:=x;exact a4b e
 | tup xs=>obtain⟨_,_,_,p,_⟩:=x;exact p.lt
 | dK kvs=>obtain⟨_,_,_,_,o,_,_,e,_⟩:=x;exact a4b e
 | dT kvs=>obtain⟨_,_,_,_,o,_,_,e,_⟩:=x;exact a4b e
 | dM kvs=>obtain⟨_,_,_,_,o,_,_,e,_⟩:=x;exact a4b e
 | set S n=>obtain⟨o,_,_,_,e,_⟩:=x;exact a4b e
 | ins C dx fs=>obtain⟨_,_,_,e,_⟩:=x;exact a4b e
 | own y=>obtain⟨_,e⟩:=x;exact a4b e
 | xd fs=>obtain⟨_,⟨_,_,_,e,_⟩,_⟩:=x;exact a4b e
 | rng lo hi=>obtain⟨_,_,_,e⟩:=x;exact a4b e
 | frz ob u=>obtain⟨e,_⟩:=x;exact a4b e
 | tbl ps=>exact a4b (show h.get? a=some _ from x)
 | met f y=>exact a4b (show h.get? a=some _ from x)
 | ext φ=>obtain⟨_,⟨_,e⟩,_⟩:=x;exact a4b e
theorem Paired.mapP{α e:Type}{F G:α->e->Prop}:∀ {c:List α} {d:List e},Paired F c d->(∀ a b,F a b->G a b)->Paired G c d
 | _,_,.nil,_=>.nil
 | _,_,.cons r t,f=>.cons (f _ _ r) (Paired.mapP t f)
def eR.stay(x:eR P w H h a o)(k:∀ b u,(b=a\/H b=some (.own a))->h.get? b=some u->h'.get? b=some u)
  (s:∀ b,H b=some (.own a)->H' b=some (.own a)) (m:∀ b xs,H b=some (.tup xs)->H' b=some (.tup xs)):eR P w H' h' a o:=by
 induction o with
 | lst xs=>obtain⟨z,i,n,r,e⟩:=x;exact⟨z,i,n,r,k _ _ (.inl rfl) e⟩
 | tup xs=>obtain⟨z,i,r,⟨ob,e,c⟩,⟨j,l,A⟩⟩:=x;exact⟨z,i,r,⟨ob,k _ _ (.inl rfl) e,c⟩,⟨j,k _ _ (.inl rfl) l,A⟩⟩
 | dK kvs=>obtain⟨z,y,vs,r,ob,es,g,e,c⟩:=x;exact⟨z,y,vs,r,ob,es,g,k _ _ (.inl rfl) e,c⟩
 | dT kvs=>
   obtain⟨z,y,xs,r,ob,es,g,e,c⟩:=x;exact⟨z,y,xs,Paired.mapP r λp q z=>⟨z.1,m _ _ z.2.1,z.2.2⟩,ob,es,g,k _ _ (.inl rfl) e,c⟩
 | dM kvs=>
   obtain⟨z,y,xs,r,ob,es,g,e,c⟩:=x;exact⟨z,y,xs,Paired.mapP r λp q z=>⟨z.1,let ⟨y,a,b⟩:=z.2.1;⟨y,a.mono m,b⟩,z.2.2⟩,ob,es,g,k _ _ (.inl rfl) e,c⟩
 | set S n=>obtain⟨ob,es,g,t,e,c⟩:=x;exact⟨ob,es,g,t,k _ _ (.inl rfl) e,c⟩
 | ins C dx fs=>
   obtain⟨d,z,ne,e,mA,⟨od,es,g,l,c⟩,r⟩:=x;exact⟨s _ d,z,ne,k _ _ (.inl rfl) e,mA,⟨od,es,g,k _ _ (.inr d) l,c⟩,r⟩
 | own y=>obtain⟨ob,e⟩:=x;exact⟨ob,k _ _ (.inl rfl) e⟩
 | xd fs=>obtain⟨mA,⟨od,es,g,e,c⟩,r⟩:=x;exact⟨mA,⟨od,es,g,k _ _ (.inl rfl) e,c⟩,r⟩
 | rng lo hi=>obtain⟨t,u,v,e⟩:=x;exact⟨t,u,v,k _ _ (.inl rfl) e⟩
 | frz ob u B=>obtain⟨e,q⟩:=x;exact⟨k _ _ (.inl rfl) e,B q⟩
 | tbl ps=>
   have e:h.get? a=some {cls:=.none,data:=.fields ps}:=x;show h'.get? a=some {cls:=.none,data:=.fields ps};exact k a _ (.inl rfl) e
 | met f y=>
   have e:h.get? a=some (W.methodObj (.ref f) (.ref y)):=x;show h'.get? a=some (W.methodObj (.ref f) (.ref y));exact k a _ (.inl rfl) e
 | ext φ=>obtain⟨p,⟨o,e⟩,st⟩:=x;exact⟨st _ _ p λo q=>k _ _ (.inl rfl) q,⟨o,k _ _ (.inl rfl) e⟩,st⟩
theorem HOk.lt(x:HOk P w H h)(e:H a=some o):a < h.objs.size:=(x a o e).lt
def HOk.fresh(x:HOk P w H h)(e:h.objs.size<=a):H a=none:=by
 cases q:H a with
 | none=>rfl
 | some u=>exact absurd (a5d (x.lt q) e) (a5e _)
def HOk.kept(x:HOk P w H h)(k:∀ b u,h.get? b=some u->h'.get? b=some u):HOk P w H h':=λa o e=>
 (x a o e).stay (λb u _ q=>k b u q) (λ_ q=>q) λ_ _ q=>q
def HOk.laid(x:HOk P w H h)(k:∀ b u,h.get? b=some u->h'.get? b=some u)(g:h.objs.size<=a)(d:eR P w (upd H a o) h' a o):HOk P w (upd H a o) h':=λb u e=>by
 have hn:=x.fresh g;by_cases f:b=a;subst f;rw[aR]at e;cases e;exact d;rw[aL f]at e;exact(x b u e).stay (λc v _ q=>k c v q) (λc q=>by rw[aL (bD q hn)];exact q) λc xs q=>by rw[aL (bD q hn)];exact q
end
def Rd(H:Hp)(a:Addr)(u:HO):Prop:=H a=some u\/∃ o,H a=some (.frz o u)
theorem Rd.ok{P:Program}{w:World}{H:Hp}{h:Heap}{a:Addr}{u:HO}(r:Rd H a u)(x:HOk P w H h):eR P w H h a u:=by
 rcases r with r | ⟨o,r⟩;exact x a u r;obtain⟨_,q⟩:=x a _ r;exact q
def Mut:Option HO->Prop
 | some (.lst _)=>True
 | some (.dK _)=>True
 | some (.dT _)=>True
 | some (.dM _)=>True
 | some (.set _ _)=>True
 | some (.ins _ _ _)=>True
 | some (.ext _)=>True
 | _=>False
section
variable{P:Program}{w:World}{H:Hp}{h h':Heap}{x e:Addr}{o':HO}
def HOk.write(ok:HOk P w H h)(mu:Mut (H x))(m:e=x\/H e=some (.own x))(k:∀ b u,b≠e->h.get? b=some u->h'.get? b=some u)(j:∃ u,h'.get? e=some u)
  (l:eR P w (upd H x o') h' x o'):HOk P w (upd H x o') h':=λb u q=>by
 have d:∀ c y,H c=some (.own y)->c≠x:=λc y r z=>by subst z;rw[r]at mu;exact mu
 have f:∀ c xs,H c=some (.tup xs)->c≠x:=λc xs r z=>by subst z;rw[r]at mu;exact mu
 by_cases g:b=x;subst g;rw[aR]at q;cases q;exact l;rw[aL g]at q;by_cases a:b=e
 ·have n:H b=some (.own x):=by
   rcases m with z | z;exact absurd (a.trans z) g;rw[a];exact z
  rw[q]at n;cases n;obtain⟨v,o⟩:=j;exact⟨v,by rw[a];exact o⟩
 ·refine(ok b u q).stay (λc v i r=>k c v ?_ r) (λc r=>by rw[aL (d c b r)];exact r) λc xs r=>by rw[aL (f c xs r)];exact r
  rcases i with rfl | i;exact a;rintro rfl;rcases m with z | z;exact d c b i z;rw[i]at z;cases z;exact g rfl
end
structure Un(fs ex:List Addr)(H H':Hp)(h h':Heap):Prop where
 keep:∀ b o,h.get? b=some o->H b=none->b∉fs->b∉ex->h'.get? b=some o
 slot:∀ b o,h.get? b=some o->H b=none->b∈fs->b∉ex->∃ sl,h'.get? b=some {o with slots:=sl}
 free:∀ b o,h.get? b=some o->H b=none->b∉ex->H' b=none
 there:∀ b o,h.get? b=some o->b∉ex->∃ o',h'.get? b=some o'
 tups:∀ b xs,H b=some (.tup xs)->H' b=some (.tup xs)
 frzs:∀ b o u,H b=some (.frz o u)->H' b=some (.frz o u)
 tbls:∀ b ps,H b=some (.tbl ps)->∃ more,H' b=some (.tbl (ps++more))
section
variable{fs fs' ex ex':List Addr}{H H1 H2:Hp}{h h1 h2 h':Heap}{a x e:Addr}{o:HO}
def Un.any(u:Un fs ex H H1 h h1){b:Addr}{ob:Obj}(q:h.get? b=some ob)(n:H b=none)(a:b∉ex):∃ sl,h1.get? b=some {ob with slots:=sl}:=by
 by_cases c:b∈fs;exact u.slot b ob q n c a;exact⟨ob.slots,u.keep b ob q n c a⟩
def Un.kept(k:∀ b u,h.get? b=some u->h'.get? b=some u):Un fs ex H H h h':=
 ⟨λb ob q _ _ _=>k b ob q,λb ob q _ _ _=>⟨ob.slots,k b ob q⟩,λ_ _ _ n _=>n,λb ob q _=>⟨ob,k b ob q⟩,λ_ _ q=>q,λ_ _ _ q=>q,λ_ ps q=>⟨#[],by rw[q];simp⟩⟩
def Un.refl:Un fs ex H H h h:=Un.kept λ_ _ q=>q
def Un.laid(k:∀ b u,h.get? b=some u->h'.get? b=some u)(c:h.objs.size<=a)(hn:H a=none):Un fs ex H (upd H a o) h h' where
 keep:=λb u q _ _ _=>k b u q
 slot:=λb u q _ _ _=>⟨u.slots,k b u q⟩
 free:=λb u q n _=>by rw[aL (a1d (a5d (a4b q) c))];exact n
 there:=λb u q _=>⟨u,k b u q⟩
 tups:=λb xs q=>by rw[aL (bD q hn)];exact q
 frzs:=λb u xs q=>by rw[aL (bD q hn)];exact q
 tbls:=λb ps q=>⟨#[],by rw[aL (bD q hn),q];simp⟩
def Un.write(mu:Mut (H x))(g:e=x\/H e=some (.own x))(k:∀ b u,b≠e->h.get? b=some u->h'.get? b=some u)(c:∃ u,h'.get? e=some u):Un fs ex H (upd H x o) h h':=by
 have d:∀ b,H b=none->b≠x:=λb n z=>by subst z;rw[n]at mu;exact mu
 have f:∀ b,H b=none->b≠e:=λb n z=>by
  subst z;rcases g with r | r;exact d b n r;rw[n]at r;cases r
 have hm:∀ b u,H b=some u->¬ Mut (some u)->b≠x:=λb u q i z=>by subst z;rw[q]at mu;exact i mu
 refine⟨λb u q n _ _=>k b u (f b n) q,λb u q n _ _=>⟨u.slots,k b u (f b n) q⟩,λb u q n _=>by rw[aL (d b n)];exact n,λb u q _=>?_,
  λb xs q=>by rw[aL (hm b _ q λz=>z)];exact q,λb u xs q=>by rw[aL (hm b _ q λz=>z)];exact q,λb ps q=>⟨#[],by rw[aL (hm b _ q λz=>z),q];simp⟩⟩
 by_cases a:b=e;subst a;exact c;exact⟨u,k b u a q⟩
end
noncomputable def trk(h:Heap)(H:Hp):List Addr:=(List.range h.objs.size).filter λa=>(H a).isSome
noncomputable def cA0(h:Heap)(H:Hp):Heap:=W.hideAll h (trk h H)
def bK8(h:Heap)(H:Hp):(cA0 h H).objs.size=h.objs.size:=W.hideAll_size _ _
def cA1{h:Heap}{H:Hp}{b:Addr}{o:Obj}(e:h.get? b=some o)(n:H b=none):(cA0 h H).get? b=some o:=
 W.hideAll_get _ e λhm=>by
  have q:(H b).isSome=true:=(List.mem_filter.mp hm).2;rw[n]at q;simp at q
def cQ3{h:Heap}{H:Hp}{b:Addr}{o:Obj}(e:(cA0 h H).get? b=some o):h.get? b=some o/\H b=none:=by
 have a:h.get? b=some o:=W.of_hideAll (trk h H) e;refine⟨a,?_⟩;cases q:H b with
 | none=>rfl
 | some x=>
   have hm:b∈trk h H:=List.mem_filter.mpr ⟨a9c.mpr (a4b a),by simp[q]⟩;have z:(cA0 h H).get? b=none:=W.hideAll_none (trk h H) hm;rw[z]at e;cases e
noncomputable def cQ4(g h:Heap)(L:Addr):List (Addr×Obj):=(List.range h.objs.size).filterMap λa=>if a=L\/(g.get? a).isSome=true then none else(h.get? a).map λo=>(a,o)
noncomputable def nK(g h:Heap)(L d:Addr):List (Addr×Obj):=(cQ4 g h L).filter λp=>decide (p.1≠d)
structure Mod(K:W.Frag)(mg:Str->Option Value)(base:Heap):Prop where
 kin:K.In base
 glob:base.Ns mainGlobals mg
 blt:∃ mb,base.Ns builtinsNs mb/\∀ x:Str,x≠"__name__"->mb x=bootBuiltins x
 nolimit:base.NoLimit
structure Cx where
 prog:Program
 w:World
 K:W.Frag
 mg:Str->Option Value
 base:Heap
 A:Around
 N:List Str
 s₀:Shared
 H₀:Hp
 env:Env
 outer:List Env
 stack:List Env
 ex:List Addr
 fn:Str->Bool
 calm:Bool
 pn:List (Addr×Obj)
 xe:Value->Shared->Prop
noncomputable def frs(l:List Env):List Addr:=l.filterMap (·.frame)
noncomputable abbrev Cx.fs(X:Cx):List Addr:=frs X.outer
def Vis(sc:Scope)(x:Str):Prop:=sc.names.lookup x=some .local\/sc.names.lookup x=some .cell\/sc.names.lookup x=some .free
def Loc(sc:Scope)(x:Str):Prop:=sc.names.lookup x=some .local\/sc.names.lookup x=some .cell
def dY1(env:Env)(h:Heap)(m:Str->Option Value)(x:Str)(u:Value):Prop:=
 (env.kindOf x=some .local/\m x=some u)\/((env.kindOf x=some .cell\/env.kindOf x=some .free)/\∃ c,env.cells.lookup x=some c/\h.IsCell c (some u))
structure Cx.Ok(X:Cx):Prop where
 mod:Mod X.K X.mg X.base
 kind:X.env.scope.kind=.function
 glob:X.env.globals=mainGlobals
 blt:X.env.builtins=builtinsNs
 above:X.s₀.heap.objs.size<=X.env.locals
 inj:∀ x y c,X.env.cells.lookup x=some c->X.env.cells.lookup y=some c->x=y
 has:∀ x,(X.env.kindOf x=some .cell\/X.env.kindOf x=some .free)->∃ c,X.env.cells.lookup x=some c
 cab:∀ x c,X.fn x=true->X.env.cells.lookup x=some c->X.s₀.heap.objs.size<=c
 hd:X.calm=true->X.A.handled=none
 frames:X.A.frames=some X.stack
 stk:X.stack=X.outer\/(X.stack=X.env::X.outer/\X.env.frame=some X.env.locals)
 exf:∀ b∈X.ex,b≠X.env.locals/\∀ x c,X.env.cells.lookup x=some c->c≠b
 bs:∀ b o,X.base.get? b=some o->X.s₀.heap.get? b=some o/\X.H₀ b=none
 bsz:X.base.objs.size<=X.s₀.heap.objs.size
 noex:∀ b o,X.base.get? b=some o->b∉X.ex
 exfs:∀ b∈X.ex,b∉X.fs
 funs:X.s₀.heap.FunFrames X.base X.outer
 frf:∀ b∈X.fs,X.H₀ b=none
structure Inv(X:Cx)(pins:List (Addr×Obj))(σ:List (Option V))(H:Hp)(s:Shared):Prop where
 ok:X.Ok
 os:s.os=X.s₀.os
 bare:AllBare s.gens
 base:Un X.fs X.ex X.H₀ H X.s₀.heap s.heap
 loc:∃ m,s.heap.Ns X.env.locals m/\∀ (i:Nat) (x:Str) (v:V),X.N[i]? = some x->σ[i]? = some (some v)->Vis X.env.scope x->∃ u,fN v u/\dY1 X.env s.heap m x u
 cell:∀ x c,X.env.cells.lookup x=some c->∃ v,s.heap.IsCell c v
 free:H X.env.locals=none
 freeC:∀ x c,X.env.cells.lookup x=some c->H c=none
 pin:∀ p∈X.pn++pins,s.heap.get? p.1=some p.2/\H p.1=none/\p.1≠X.env.locals/\p.1∉X.fs/\∀ v,p.2.data≠.cell v
 hok:HOk X.prog X.w H s.heap
 len:σ.length=X.N.length
section
variable{X:Cx}{pins:List (Addr×Obj)}{σ:List (Option V)}{H H':Hp}{s:Shared}{h':Heap}
def Cx.Ok.nofr(ok:X.Ok){b:Addr}{o:Obj}(e:X.base.get? b=some o):b∉X.fs:=λa=>by
 have:=(ok.funs.mem a).1;rw[e]at this;cases this
theorem Inv.bs(I:Inv X pins σ H s):∀ b o,X.base.get? b=some o->s.heap.get? b=some o/\H b=none:=λb o e=>
 ⟨I.base.keep b o (I.ok.bs b o e).1 (I.ok.bs b o e).2 (I.ok.nofr e) (I.ok.noex b o e),I.base.free b o (I.ok.bs b o e).1 (I.ok.bs b o e).2 (I.ok.noex b o e)⟩
def Inv.bk(I:Inv X pins σ H s):∀ b o,X.base.get? b=some o->s.heap.get? b=some o:=λb o e=>(I.bs b o e).1
theorem Inv.mod(I:Inv X pins σ H s):Mod X.K X.mg X.base:=I.ok.mod
def Inv.kIn(I:Inv X pins σ H s):X.K.In s.heap:=I.ok.mod.kin.keeps I.bk
theorem Inv.lt(I:Inv X pins σ H s):X.env.locals < s.heap.objs.size:=let ⟨_,hn,_⟩:=I.loc;hn.lt
def Inv.sz(I:Inv X pins σ H s):X.s₀.heap.objs.size<=s.heap.objs.size:=a4c I.ok.above (a0i I.lt)
def Inv.nofs(I:Inv X pins σ H s){a:Addr}(h:s.heap.objs.size<=a):a∉X.fs:=λb=>by
 obtain⟨_,o,c,_⟩:=I.ok.funs.mem b;exact absurd (a5d (a4b c) (a4c I.sz h)) (a5e _)
def Inv.cne(I:Inv X pins σ H s):∀ x c,X.env.cells.lookup x=some c->c≠X.env.locals:=λx c e z=>by
 obtain⟨v,o,d,hd⟩:=I.cell x c e;obtain⟨m,⟨o',es,f,a,b,_⟩,_⟩:=I.loc;rw[z,a]at d;cases d;rw[b]at hd;cases hd
theorem Inv.funs(I:Inv X pins σ H s):s.heap.FunFrames X.base X.outer:=by
 have all:∀ (l:List Env),(∀ b∈frs l,b∈X.fs)->X.s₀.heap.FunFrames X.base l->s.heap.FunFrames X.base l:=by
  intro l
  induction l with
  | nil=>intro _ _;trivial
  | cons env r g=>
    intro f h;obtain⟨i,⟨L,o,a,hn,j,hd⟩,k⟩:=h;have c:L∈X.fs:=f L (by unfold frs;rw[List.filterMap_cons,a];exact a3a);obtain⟨sl,e⟩:=I.base.slot L o j (I.ok.frf L c) c λz=>I.ok.exfs L z c;exact⟨i,⟨L,_,a,hn,e,hd⟩,g (λb d=>f b (by unfold frs;rw[List.filterMap_cons,a];exact a6a _ d)) k⟩
 exact all X.outer (λ_ d=>d) I.ok.funs
theorem Inv.stack(I:Inv X pins σ H s):s.heap.FunFrames X.base X.stack:=by
 rcases I.ok.stk with e | ⟨e,a⟩;rw[e];exact I.funs;rw[e];obtain⟨m,hn,_⟩:=I.loc;refine .cons (by rw[I.ok.kind];decide) a hn ?_ I.funs;exact Heap.get?_none_of_le (a4c I.ok.bsz I.ok.above)
def Inv.stkSub(I:Inv X pins σ H s):∀ b∈frs X.stack,b∈X.env.locals::X.fs:=λb a=>by
 rcases I.ok.stk with e | ⟨e,c⟩;rw[e]at a;exact a6a _ a;rw[e]at a;unfold frs at a;rw[List.filterMap_cons,c]at a;exact a
def Inv.stkFree(I:Inv X pins σ H s):∀ b∈frs X.stack,H b=none:=λb a=>by
 rcases a2b.mp (I.stkSub b a)with e | a;rw[e];exact I.free;obtain⟨_,o,c,_⟩:=I.ok.funs.mem a;exact I.base.free b o c (I.ok.frf b a) λz=>I.ok.exfs b z a
def Inv.step{g':Array GenState}{t':Nat}{d':Drawn}{ch:List Addr}(I:Inv X pins σ H s)
  (f:∀ b∈ch,(b∈X.ex\/X.s₀.heap.objs.size<=b)/\b≠X.env.locals/\(∀ x c,X.env.cells.lookup x=some c->c≠b)/\∀ p∈X.pn++pins,p.1≠b)
  (keep:∀ b o,b≠X.env.locals->b∉X.fs->b∉ch->s.heap.get? b=some o->H b=none->h'.get? b=some o)
  (slot:∀ b o,b≠X.env.locals->b∈X.fs->b∉ch->s.heap.get? b=some o->H b=none->∃ sl,h'.get? b=some {o with slots:=sl}) (free:∀ b o,b∉ch->s.heap.get? b=some o->H b=none->H' b=none)
  (there:∀ b o,b∉ch->s.heap.get? b=some o->∃ o',h'.get? b=some o')
  (tups:∀ b xs,H b=some (.tup xs)->H' b=some (.tup xs)) (frzs:∀ b o u,H b=some (.frz o u)->H' b=some (.frz o u)) (tbls:∀ b ps,H b=some (.tbl ps)->∃ more,H' b=some (.tbl (ps++more)))
  (ns:∀ m,s.heap.Ns X.env.locals m->h'.Ns X.env.locals m) (hok:HOk X.prog X.w H' h') (J:AllBare g') :
  Inv X pins σ H' {s with heap:=h',gens:=g',drawn:=d',toks:=t'}:=by
 have B:∀ b o,X.s₀.heap.get? b=some o->b≠X.env.locals:=λb o e=>a1d (a5d (a4b e) I.ok.above);have j:∀ b o,X.s₀.heap.get? b=some o->b∉X.ex->b∉ch:=λb o e a y=>by
  rcases(f b y).1 with z | z;exact a z;exact absurd (a5d (a4b e) z) (a5e _)
 have g:∀ x c,X.env.cells.lookup x=some c->∀ v,s.heap.IsCell c v->h'.IsCell c v:=λx c e v ⟨o,A,hd⟩=>by
  have h:c∉ch:=λz=>(f c z).2.2.1 x c e rfl;by_cases E:c∈X.fs;obtain⟨sl,q⟩:=slot c o (I.cne x c e) E h A (I.freeC x c e);exact⟨_,q,hd⟩;exact⟨o,keep c o (I.cne x c e) E h A (I.freeC x c e),hd⟩
 refine⟨I.ok,I.os,J,⟨λb o e n y a=>?_,λb o e n y a=>?_,λb o e n a=>?_,λb o e a=>?_,λb xs e=>tups b xs (I.base.tups b xs e),λb o xs e=>frzs b o xs (I.base.frzs b o xs e),λb ps e=>?_⟩,?_,λx c e=>?_,?_,λx c e=>?_,λp F=>?_,hok,I.len⟩;exact keep b o (B b o e) y (j b o e a) (I.base.keep b o e n y a) (I.base.free b o e n a);obtain⟨sl,t⟩:=I.base.slot b o e n y a;obtain⟨D,C⟩:=slot b _ (B b o e) y (j b o e a) t (I.base.free b o e n a);exact⟨D,C⟩;obtain⟨o',t⟩:=I.base.there b o e a;exact free b o' (j b o e a) t (I.base.free b o e n a);obtain⟨o',t⟩:=I.base.there b o e a;exact there b o' (j b o e a) t;obtain⟨K,t⟩:=I.base.tbls b ps e;obtain⟨L,C⟩:=tbls b _ t;exact⟨K++L,by rw[C,Array.append_assoc]⟩;obtain⟨m,hn,M⟩:=I.loc;refine⟨m,ns m hn,λi x v t C N=>?_⟩;obtain⟨u,r,l⟩:=M i x v t C N;refine⟨u,r,?_⟩;rcases l with l | ⟨k,c,e,z⟩;exact .inl l;exact .inr ⟨k,c,e,g x c e _ z⟩;obtain⟨v,z⟩:=I.cell x c e;exact⟨v,g x c e v z⟩;obtain⟨m,⟨o,_,_,A,_⟩,_⟩:=I.loc;exact free _ o (λz=>(f _ z).2.1 rfl) A I.free;obtain⟨v,o,A,hd⟩:=I.cell x c e;exact free c o (λz=>(f c z).2.2.1 x c e rfl) A (I.freeC x c e);obtain⟨e,n,ne,G,d⟩:=I.pin p F;have h:p.1∉ch:=λz=>(f p.1 z).2.2.2 p F rfl;exact⟨keep p.1 p.2 ne G h e n,free p.1 p.2 h e n,ne,G,d⟩
def Inv.un{t':Nat}(I:Inv X pins σ H s)(u:Un X.fs [] H H' s.heap h')(hok:HOk X.prog X.w H' h'):Inv X pins σ H' {s with heap:=h',toks:=t'}:=by
 obtain⟨m,⟨o,es,j,g,r⟩,_⟩:=id I.loc;obtain⟨sl,h⟩:=u.any g I.free (by simp);exact I.step (g':=s.gens) (d':=s.drawn) (ch:=[]) (λ_ z=>nomatch z) (λb o _ c _ e n=>u.keep b o e n c (by simp)) (λb o _ c _ e n=>u.slot b o e n c (by simp)) (λb o _ e n=>u.free b o e n (by simp)) (λb o _ e=>u.there b o e (by simp)) u.tups u.frzs u.tbls (λk hm=>by
  obtain⟨o',d,f,a,i⟩:=hm;rw[g]at a;cases a;exact⟨_,d,f,h,i⟩) hok I.bare
def Inv.call{g':Array GenState}{t':Nat}{d':Drawn}{ch:List Addr}(I:Inv X pins σ H s)(u:Un (frs X.stack) ch H H' s.heap h')(hok:HOk X.prog X.w H' h')(k:AllBare g')
  (d:∀ b∈ch,(b∈X.ex\/X.s₀.heap.objs.size<=b)/\b≠X.env.locals/\(∀ x c,X.env.cells.lookup x=some c->c≠b)/\∀ p∈X.pn++pins,p.1≠b) :
  Inv X pins σ H' {s with heap:=h',gens:=g',drawn:=d',toks:=t'}:=by
 obtain⟨m,⟨o,es,t,j,r⟩,_⟩:=id I.loc;obtain⟨sl,g⟩:=u.any j I.free λz=>(d _ z).2.1 rfl;exact I.step (ch:=ch) d (λb o g l a e n=>u.keep b o e n (λz=>(a2b.mp (I.stkSub b z)).elim g l) a) (λb o _ _ a e n=>u.any e n a) (λb o a e n=>u.free b o e n a) (λb o a e=>u.there b o e a) u.tups u.frzs u.tbls (λv hm=>by
  obtain⟨o',h,i,f,q⟩:=hm;rw[j]at f;cases f;exact⟨_,h,i,g,q⟩) hok k
def Inv.turned{t':Nat}{it:Addr}(I:Inv X pins σ H s)(k:∀ b o,b≠it->s.heap.get? b=some o->h'.get? b=some o)(hn:H it=none)(f:it≠X.env.locals)
  (g:it∈X.ex\/X.s₀.heap.objs.size<=it) (h:∀ x c,X.env.cells.lookup x=some c->c≠it) (i:∀ p∈X.pn++pins,p.1≠it):Inv X pins σ H {s with heap:=h',toks:=t'}:=by
 have d:∀ b u,H b=some u->b≠it:=λb u e z=>by rw[z,hn]at e;cases e
 refine I.step (g':=s.gens) (d':=s.drawn) (ch:=[it]) (λb j=>?_) (λb o _ _ a e _=>k b o (λz=>a (by simp[z])) e) (λb o _ _ a e _=>⟨o.slots,k b o (λz=>a (by simp[z])) e⟩) (λ_ _ _ _ n=>n)
  (λb o a e=>⟨o,k b o (λz=>a (by simp[z])) e⟩) (λ_ _ e=>e) (λ_ _ _ e=>e) (λb ps e=>⟨#[],by rw[e];simp⟩) (λm hm=>?_) (λb u e=>?_) I.bare
 ·have e:b=it:=by simpa using j
  subst e;exact⟨g,f,h,i⟩
 ·obtain⟨o,es,l,t,r⟩:=hm;exact⟨o,es,l,k _ o (a0e f) t,r⟩
 ·refine(I.hok b u e).stay (λc v a q=>k c v ?_ q) (λ_ q=>q) λ_ _ q=>q;rcases a with z | z;rw[z];exact d b u e;exact d c _ z
def Inv.tok(I:Inv X pins σ H s)(t:Nat):Inv X pins σ H {s with toks:=t}:=I.un (h':=s.heap) (t':=t) Un.refl I.hok
theorem Inv.kept{t':Nat}(I:Inv X pins σ H s)(k:∀ b u,s.heap.get? b=some u->h'.get? b=some u):Inv X pins σ H {s with heap:=h',toks:=t'}:=I.un (Un.kept k) (I.hok.kept k)
theorem Inv.laid{a:Addr}{o:HO}{t':Nat}(I:Inv X pins σ H s)(k:∀ b u,s.heap.get? b=some u->h'.get? b=some u)(c:s.heap.objs.size<=a)(d:eR X.prog X.w (upd H a o) h' a o) :
  Inv X pins σ (upd H a o) {s with heap:=h',toks:=t'}:=I.un (Un.laid k c (I.hok.fresh c)) (I.hok.laid k c d)
theorem Inv.write{x e:Addr}{o:HO}{t':Nat}(I:Inv X pins σ H s)(mu:Mut (H x))(d:e=x\/H e=some (.own x))(k:∀ b u,b≠e->s.heap.get? b=some u->h'.get? b=some u)(a:∃ u,h'.get? e=some u)
  (c:eR X.prog X.w (upd H x o) h' x o):Inv X pins σ (upd H x o) {s with heap:=h',toks:=t'}:=I.un (Un.write mu d k a) (I.hok.write mu d k a c)
def Inv.weak{σ':List (Option V)}(I:Inv X pins σ H s)(b:σ'.length=σ.length)(w:∀ (i:Nat) v,σ'[i]? = some (some v)->σ[i]? = some (some v)):Inv X pins σ' H s:=
 ⟨I.ok,I.os,I.bare,I.base,let ⟨m,hn,a⟩:=I.loc;⟨m,hn,λi x v c d e=>a i x v c (w i v d) e⟩,I.cell,I.free,I.freeC,I.pin,I.hok,b.trans I.len⟩
def Inv.pins_of{a:List (Addr×Obj)}(I:Inv X pins σ H s)(h:∀ p∈a,s.heap.get? p.1=some p.2/\H p.1=none/\p.1≠X.env.locals/\p.1∉X.fs/\∀ v,p.2.data≠.cell v):Inv X a σ H s:=
 ⟨I.ok,I.os,I.bare,I.base,I.loc,I.cell,I.free,I.freeC,λp b=>(a5b.mp b).elim (λz=>I.pin p (a6d _ z)) (h p),I.hok,I.len⟩
def aY9{N:List Str}(c:N.Nodup){i j:Nat}{x:Str}(a:N[i]? = some x)(b:N[j]? = some x):i=j:=by
 obtain⟨f,d⟩:=a2a.mp a;obtain⟨g,e⟩:=a2a.mp b;exact(List.getElem_inj c).mp (d.trans e.symm)
def aL1{M:Model}{A:Around}{E:Value->Shared->Prop}{i:Nat}{x:Str}{v:V}{u:Value}{Q:Unit->Shared->Prop}(I:Inv X pins σ H s)(hN:X.N.Nodup)(hi:X.N[i]? = some x)(B:Loc X.env.scope x)(r:fN v u)
  (h:∀ s',Inv X pins (σ.set i (some v)) H s'->(∃ a,Heap.SameBut a s.heap s'.heap/\(a=X.env.locals\/X.env.cells.lookup x=some a))->Q () s') (hf:X.fn x=true\/X.env.scope.names.lookup x=some .local:=by first | exact .inl rfl | exact .inr rfl | assumption):wpAny M A (storeName X.env x u) Q E s:=by
 obtain⟨m,hn,hl⟩:=id I.loc;have O:(X.env.scope.kind==.class||(X.env.scope.kind==.module&&X.env.locals != X.env.globals))=false:=by rw[I.ok.kind];rfl
 have F:i < σ.length:=by rw[I.len];exact(a2a.mp hi).1
 have cne:=I.cne;have g:∀ {a:Addr} {h':Heap},(∃ o,s.heap.get? a=some o/\H a=none)->Heap.SameBut a s.heap h'->HOk X.prog X.w H h':=λ{a h'} ha f b ob e=>by
  obtain⟨_,_,C⟩:=ha;refine(I.hok b ob e).stay (λc U t q=>(f.2 c ?_).trans q) (λ_ q=>q) λ_ _ q=>q;rintro rfl;rcases t with rfl | t;rw[C]at e;cases e;rw[C]at t;cases t
 rcases B with G | G
 ·refine wpAny_storeName_local G hn (λh' Y f=>?_) O;obtain⟨oL,_,_,Z,_⟩:=id hn;refine h _ ⟨I.ok,I.os,I.bare,⟨λb o e n J B=>?_,λb o e n J B=>?_,I.base.free,λb o e B=>?_,I.base.tups,I.base.frzs,I.base.tbls⟩,⟨_,Y,λj y v' l D e3=>?_⟩,λy c e=>?_,I.free,I.freeC,λp hp=>?_,g ⟨oL,Z,I.free⟩ f,by simpa using I.len⟩ ⟨_,f,.inl rfl⟩;exact(f.2 b (a1d (a5d (a4b e) I.ok.above))).trans (I.base.keep b o e n J B);obtain⟨sl,l⟩:=I.base.slot b o e n J B;exact⟨sl,(f.2 b (a1d (a5d (a4b e) I.ok.above))).trans l⟩;obtain⟨o',l⟩:=I.base.there b o e B;exact⟨o',(f.2 b (a1d (a5d (a4b e) I.ok.above))).trans l⟩;by_cases K:j=i;subst K;rw[hi]at l;cases l;rw[a8c F]at D;cases D;exact⟨u,r,.inl ⟨G,by simp⟩⟩;rw[a0b (a0e K)]at D;obtain⟨u',r',q⟩:=hl j y v' l D e3;refine⟨u',r',?_⟩;rcases q with⟨k,e⟩ | ⟨k,c,e,z⟩;refine .inl ⟨k,?_⟩;have:y≠x:=λe=>K (aY9 hN l (e ▸ hi));simp[this,e];exact .inr ⟨k,c,e,z.sameBut f (cne y c e)⟩;obtain⟨U,z⟩:=I.cell y c e;exact⟨U,z.sameBut f (cne y c e)⟩;obtain⟨e,n,ne,nf,d⟩:=I.pin p hp;exact⟨(f.2 p.1 ne).trans e,n,ne,nf,d⟩
 ·have L:X.fn x=true:=by
   rcases hf with z | z;exact z;rw[z]at G;cases G
  obtain⟨c,t⟩:=I.ok.has x (.inl G);obtain⟨U,z⟩:=I.cell x c t;refine wpAny_storeName_cell I.ok.kind G t z (λh' P f=>?_);obtain⟨oc,R,S⟩:=id z;refine h {s with heap:=h'} ⟨I.ok,I.os,I.bare,⟨λb o e n J B=>?_,λb o e n J B=>?_,I.base.free,λb o e B=>?_,I.base.tups,I.base.frzs,I.base.tbls⟩,⟨m,hn.sameBut f (a0e (cne x c t)),λj y v' l D e3=>?_⟩,λy W e=>?_,I.free,I.freeC,λp hp=>?_,g ⟨oc,R,I.freeC x c t⟩ f,by simpa using I.len⟩ ⟨c,f,.inr t⟩;exact(f.2 b (a1d (a5d (a4b e) (I.ok.cab x c L t)))).trans (I.base.keep b o e n J B);obtain⟨sl,l⟩:=I.base.slot b o e n J B;exact⟨sl,(f.2 b (a1d (a5d (a4b e) (I.ok.cab x c L t)))).trans l⟩;obtain⟨o',l⟩:=I.base.there b o e B;exact⟨o',(f.2 b (a1d (a5d (a4b e) (I.ok.cab x c L t)))).trans l⟩;by_cases K:j=i;subst K;rw[hi]at l;cases l;rw[a8c F]at D;cases D;exact⟨u,r,.inr ⟨.inl G,c,t,P⟩⟩;rw[a0b (a0e K)]at D;obtain⟨u',r',q⟩:=hl j y v' l D e3;refine⟨u',r',?_⟩;rcases q with q | ⟨k,W,e,z'⟩;exact .inl q;refine .inr ⟨k,W,e,z'.sameBut f ?_⟩;rintro rfl;exact K (aY9 hN l (I.ok.inj _ _ _ e t ▸ hi));by_cases T:W=c;subst T;exact⟨_,P⟩;obtain⟨w2,z2⟩:=I.cell y W e;exact⟨w2,z2.sameBut f T⟩;obtain⟨e,n,ne,nf,d⟩:=I.pin p hp;refine⟨(f.2 p.1 ?_).trans e,n,ne,nf,d⟩;intro q;rw[q,R]at e;have q':oc=p.2:=a7a e;exact d U (by rw[← q'];exact S)
def wH{M:Model}{A:Around}{E:Value->Shared->Prop}{i:Nat}{x:Str}{v:V}{u:Value}{Q:Unit->Shared->Prop}(I:Inv X pins σ H s)(a:X.N.Nodup)(hi:X.N[i]? = some x)(b:Loc X.env.scope x)(r:fN v u)
  (h:∀ s',Inv X pins (σ.set i (some v)) H s'->Q () s') (c:X.fn x=true\/X.env.scope.names.lookup x=some .local:=by first | exact .inl rfl | exact .inr rfl | assumption):wpAny M A (storeName X.env x u) Q E s:=
 aL1 I a hi b r (λs' d _=>h s' d) c
def Inv.call'{s':Shared}{ch:List Addr}(I:Inv X pins σ H s)(d:s'.os=s.os)(u:Un (frs X.stack) ch H H' s.heap s'.heap)(hok:HOk X.prog X.w H' s'.heap)(f:AllBare s'.gens)
  (a:∀ b∈ch,(b∈X.ex\/X.s₀.heap.objs.size<=b)/\b≠X.env.locals/\(∀ x c,X.env.cells.lookup x=some c->c≠b)/\∀ p∈X.pn++pins,p.1≠b):Inv X pins σ H' s':=by
 obtain⟨h',g',d',t',o'⟩:=s';have e:o'=s.os:=d;subst e;exact I.call (g':=g') (t':=t') (d':=d') u hok f a
end
abbrev XK:=Value->Option Addr->Hp->Prop
abbrev St:=List (Option V)
abbrev VK:=V->Hp->Prop
abbrev TE:=St->Hp->VK->Prop
abbrev TT:=St->Hp->(Bool->Hp->Prop)->Prop
abbrev TA:=St->Hp->(List V->Hp->Prop)->Prop
structure Ends where
 nx:St->Hp->Prop
 rt:VK
 bk:St->Hp->Prop:=λ_ _=>False
 ct:St->Hp->Prop:=λ_ _=>False
abbrev TS:=Ends->St->Hp->Prop
def EP(X:Cx)(pins:List (Addr×Obj))(σ:St)(Q:VK)(u:Value)(s':Shared):Prop:=∃ v H',Inv X pins σ H' s'/\fN v u/\Q v H'
def TP(X:Cx)(pins:List (Addr×Obj))(σ:St)(Q:Bool->Hp->Prop)(b:Bool)(s':Shared):Prop:=∃ H',Inv X pins σ H' s'/\Q b H'
def AP(X:Cx)(pins:List (Addr×Obj))(σ:St)(Q:List V->Hp->Prop)(us:List Value)(s':Shared):Prop:=∃ vs H',Inv X pins σ H' s'/\cQ vs us/\Q vs H'
def SP(X:Cx)(pins:List (Addr×Obj))(D:Ends)(f:Flow)(s':Shared):Prop:=
 match f with
 | .next=>∃ σ' H',Inv X pins σ' H' s'/\D.nx σ' H'
 | .brk=>∃ σ' H',Inv X pins σ' H' s'/\D.bk σ' H'
 | .cont=>∃ σ' H',Inv X pins σ' H' s'/\D.ct σ' H'
 | .ret u=>∃ v σ' H',Inv X pins σ' H' s'/\fN v u/\D.rt v H'
def PE(X:Cx)(e:Expr)(t:TE):Prop:=
 ∀ (pins:List (Addr×Obj)) (s:Shared) (σ:St) (H:Hp) (Q:VK),Inv X pins σ H s->t σ H Q->wpAny (model X.prog X.w) X.A (eval e X.env) (EP X pins σ Q) X.xe s
def PT(X:Cx)(e:Expr)(t:TT):Prop:=
 ∀ (pins:List (Addr×Obj)) (s:Shared) (σ:St) (H:Hp) (Q:Bool->Hp->Prop),Inv X pins σ H s->t σ H Q->wpAny (model X.prog X.w) X.A (isTrue e X.env (eval e X.env)) (TP X pins σ Q) X.xe s
def PW(X:Cx)(e:Expr)(t:TT):Prop:=
 ∀ (a:Sem Value) (pins:List (Addr×Obj)) (s:Shared) (σ:St) (H:Hp) (Q:Bool->Hp->Prop),Inv X pins σ H s->t σ H Q->wpAny (model X.prog X.w) X.A (isTrue e X.env a) (TP X pins σ Q) X.xe s
def PW.pt{X:Cx}{e:Expr}{t:TT}(h:PW X e t):PT X e t:=h _
def PA(X:Cx)(es:List Expr)(t:TA):Prop:=
 ∀ (a:Pos) (pins:List (Addr×Obj)) (s:Shared) (σ:St) (H:Hp) (Q:List V->Hp->Prop),Inv X pins σ H s->t σ H Q->wpAny (model X.prog X.w) X.A (spliced (backTo a (starEach es X.env))) (AP X pins σ Q) X.xe s
def PS(X:Cx)(st:Stmt)(t:TS):Prop:=
 ∀ (pins:List (Addr×Obj)) (s:Shared) (σ:St) (H:Hp) (D:Ends),Inv X pins σ H s->t D σ H->wpAny (model X.prog X.w) X.A (exec st X.env) (SP X pins D) X.xe s
def PSs(X:Cx)(st:List Stmt)(t:TS):Prop:=
 ∀ (pins:List (Addr×Obj)) (s:Shared) (σ:St) (H:Hp) (D:Ends),Inv X pins σ H s->t D σ H->wpAny (model X.prog X.w) X.A (execs st X.env) (SP X pins D) X.xe s
def thn{α:Type}{t:Sem α}{Q b:α->Shared->Prop}{M:Model}{A:Around}{E:Value->Shared->Prop}{s:Shared}(h:wpAny M A t Q E s)(c:∀ a s,Q a s->b a s):wpAny M A t b E s:=a4r h c λ_ _ x=>x
section
variable{X:Cx}
def cA2(i:Nat):TE:=λσ H Q=>∃ v,σ[i]? = some (some v)/\Q v H
def tC(v:V):TE:=λ_ H Q=>Q v H
def dD4{i:Nat}{x:Str}{pos:Pos}(g:X.N[i]? = some x)(j:Vis X.env.scope x)(hd:(x==("__debug__":Str))=false:=by decide)(d:(x==("__classdict__":Str))=false:=by decide):PE X (.Name x pos) (cA2 i):=by
 intro pins s σ H Q I h;obtain⟨v,e,h⟩:=h;obtain⟨m,hn,k⟩:=I.loc;obtain⟨u,r,l⟩:=k i x v g e j;have fin:EP X pins σ Q u s:=⟨v,H,I,r,h⟩;rcases l with⟨b,hm⟩ | ⟨b,c,f,a⟩;exact wpAny_Name (wpAny_loadName_local I.ok.kind b hn hm fin) hd;rcases b with b | b;exact wpAny_Name (wpAny_loadName_cell I.ok.kind b f a fin) hd;exact wpAny_Name (wpAny_loadName_free I.ok.kind b f a fin d) hd
def fX{i j pos}:PE X (.Constant (.int i) j pos) (tC (.int i)):=λ_ _ _ H _ I h=>wpAny_Constant_int ⟨.int i,H,I.tok _,⟨_,rfl⟩,h⟩
def dQ0{b j pos}:PE X (.Constant (.bool b) j pos) (tC (.bl b)):=λ_ _ _ H _ I h=>Constant_bool ⟨.bl b,H,I,rfl,h⟩
def dD5{j pos}:PE X (.Constant .none j pos) (tC .non):=λ_ _ _ H _ I h=>Constant_none ⟨.non,H,I,rfl,h⟩
def bK9{x j pos}:PE X (.Constant (.str x) j pos) (tC (.str x)):=λ_ _ _ H _ I h=>Calls.Constant_str ⟨.str x,H,I.tok _,⟨_,rfl⟩,h⟩
def Gl(X:Cx)(x:Str):Prop:=X.env.kindOf x=some .globalImplicit
def bL0{E:Value->Shared->Prop}{pins:List (Addr×Obj)}{s:Shared}{σ:St}{H:Hp}{x:Str}{u:Value}{pos:Pos}{Q:Value->Shared->Prop}(I:Inv X pins σ H s)(a:Gl X x)(hm:X.mg x=some u)(h:Q u s)
  (hd:(x==("__debug__":Str))=false:=by decide):wpAny (model X.prog X.w) X.A (eval (.Name x pos) X.env) Q E s:=
 Calls.Name_function_global I.ok.kind a (Calls.loadGlobal_global (by rw[I.ok.glob];exact I.mod.glob.keeps I.bk) hm h) hd
def pK{E:Value->Shared->Prop}{pins:List (Addr×Obj)}{s:Shared}{σ:St}{H:Hp}{x:Str}{u:Value}{pos:Pos}{Q:Value->Shared->Prop}(I:Inv X pins σ H s)(a:Gl X x)(hm:X.mg x=none)(b:bootBuiltins x=some u)(h:Q u s)
  (hn:x≠"__name__":=by decide) (hd:(x==("__debug__":Str))=false:=by decide):wpAny (model X.prog X.w) X.A (eval (.Name x pos) X.env) Q E s:=by
 obtain⟨mb,c,d⟩:=I.mod.blt;exact Calls.Name_function_global I.ok.kind a (Calls.loadGlobal_builtin (by rw[I.ok.glob];exact I.mod.glob.keeps I.bk) hm (by rw[I.ok.blt];exact c.keeps I.bk) ((d x hn).trans b) h) hd
def cQ5{x:Str}{v:V}{u:Value}{pos:Pos}(a:Gl X x)(hm:X.mg x=some u)(r:fN v u)(hd:(x==("__debug__":Str))=false:=by decide):PE X (.Name x pos) (tC v):=
 λ_ _ _ H _ I h=>bL0 I a hm ⟨v,H,I,r,h⟩ hd
def aE7{x:Str}{v:V}{u:Value}{pos:Pos}(a:Gl X x)(hm:X.mg x=none)(b:bootBuiltins x=some u)(r:fN v u)(hn:x≠"__name__":=by decide)(hd:(x==("__debug__":Str))=false:=by decide):PE X (.Name x pos) (tC v):=
 λ_ _ _ H _ I h=>pK I a hm b ⟨v,H,I,r,h⟩ hn hd
variable{a b:Expr}{ta tb:TE}{pos:Pos}
def tB(t:TE):TT:=λσ H Q=>t σ H λx a=>∃ c,x=.bl c/\Q c a
def dD6{e:Expr}{t:TE}(h:PE X e t)(b:∀ a,isTrue e X.env a=(do let v ← a;standAt e.pos;holding [v] (truthy v)):=by intro _;rfl):PT X e (tB t):=by
 intro pins s σ H Q I c;refine isTrue_plain (thn (h pins s σ H _ I c) λv s1 Z0=>?_) (b _);obtain⟨x,f,g,i,j⟩:=Z0;obtain⟨d,rfl,q⟩:=j;cases i;exact a4s ⟨f,g,q⟩
variable{tA tB':TT}{nK:List Expr}
def dV6(t u:TT):TT:=λσ H Q=>t σ H λc a=>if c=true then u σ a Q else Q false a
def tOr(t u:TT):TT:=λσ H Q=>t σ H λc a=>if c=true then Q true a else u σ a Q
def dY2(t:TT):TT:=λσ H Q=>t σ H λc a=>Q (!c) a
def aT5(ha:PT X a tA):PW X (.BoolOp .And [a] pos) tA:=by
 intro b pins s σ H Q I h;refine isTrue_and (thn (ha pins s σ H Q I h) λc s1 e=>?_);cases c with
 | true=>exact isTrue_and_nil e
 | false=>exact e
def dD7(ha:PT X a tA):PW X (.BoolOp .Or [a] pos) tA:=by
 intro b pins s σ H Q I h;refine isTrue_or (thn (ha pins s σ H Q I h) λc s1 e=>?_);cases c with
 | false=>exact isTrue_or_nil e
 | true=>exact e
def aZ0(ha:PT X a tA)(g:PW X (.BoolOp .And (b::nK) pos) tB'):PW X (.BoolOp .And (a::b::nK) pos) (dV6 tA tB'):=by
 intro i pins s σ H Q I h;refine isTrue_and (thn (ha pins s σ H _ I h) λc s1 Z0=>?_);obtain⟨d,e,f⟩:=Z0;cases c with
 | true=>exact g i pins s1 σ d Q e f
 | false=>exact⟨d,e,f⟩
def dQ1(ha:PT X a tA)(g:PW X (.BoolOp .Or (b::nK) pos) tB'):PW X (.BoolOp .Or (a::b::nK) pos) (tOr tA tB'):=by
 intro i pins s σ H Q I h;refine isTrue_or (thn (ha pins s σ H _ I h) λc s1 Z0=>?_);obtain⟨d,e,f⟩:=Z0;cases c with
 | true=>exact⟨d,e,f⟩
 | false=>exact g i pins s1 σ d Q e f
def dD8(ha:PT X a tA):PT X (.UnaryOp .Not a pos) (dY2 tA):=by
 intro pins s σ H Q I h;exact isTrue_not (ha pins s σ H (λc b=>Q (!c) b) I h)
def dQ2(ta tb:TE):TE:=λσ H Q=>ta σ H λx a=>∃ c,x=.bl c/\if c=true then tb σ a Q else Q (.bl false) a
def dY3(ta tb:TE):TE:=λσ H Q=>ta σ H λx a=>∃ c,x=.bl c/\if c=true then Q (.bl true) a else tb σ a Q
def dD9{op}{t:TE}(h:PE X a t):PE X (.BoolOp op [a] pos) t:=λpins s σ H Q I b=>BoolOp_one (h pins s σ H Q I b)
def dE0(ha:PE X a ta)(g:PE X (.BoolOp .And (b::nK) pos) tb):PE X (.BoolOp .And (a::b::nK) pos) (dQ2 ta tb):=by
 intro pins s σ H Q I h;refine BoolOp_and (thn (ha pins s σ H _ I h) λv s1 Z0=>?_);obtain⟨x,e,f,i,d⟩:=Z0;obtain⟨c,rfl,d⟩:=d;cases i;refine a4s ?_;cases c with
 | true=>exact g pins s1 σ e Q f d
 | false=>exact⟨.bl false,e,f,rfl,d⟩
def dQ3(ha:PE X a ta)(g:PE X (.BoolOp .Or (b::nK) pos) tb):PE X (.BoolOp .Or (a::b::nK) pos) (dY3 ta tb):=by
 intro pins s σ H Q I h;refine BoolOp_or (thn (ha pins s σ H _ I h) λv s1 Z0=>?_);obtain⟨x,e,f,i,d⟩:=Z0;obtain⟨c,rfl,d⟩:=d;cases i;refine a4s ?_;cases c with
 | false=>exact g pins s1 σ e Q f d
 | true=>exact⟨.bl true,e,f,rfl,d⟩
end
def SqL(K:W.Frag)(H:Hp)(a:Addr)(xs:List V):Prop:=
 Rd H a (.lst xs) \/
  ∃ (o:Obj) (its:Array Value) (n:Nat),K.lookup a=some o/\o.cls=.type "list"/\o.dict=none/\o.data=.seq its n/\its.size<=sizeLine/\cQ xs its.toList
def SqT(K:W.Frag)(H:Hp)(a:Addr)(xs:List V):Prop:=
 Rd H a (.tup xs) \/
  ∃ (o:Obj) (its:Array Value) (n:Nat),K.lookup a=some o/\o.cls=.type "tuple"/\o.data=.seq its n/\its.size<=sizeLine/\cQ xs its.toList
noncomputable def dY4:Value->Option V
 | .none=>some .non
 | .bool b=>some (.bl b)
 | .int i _=>some (.int i)
 | .str x _=>some (.str x)
 | .bytes b _=>some (.byt b)
 | .float b _=>some (.flt b)
 | .ref a=>some (.ref a)
 | .type n=>some (.ty n)
 | _=>none
def fN.abs{x:V}{u:Value}(r:fN x u):dY4 u=some x:=by
 cases x with
 | non=>cases r;rfl
 | bl _=>cases r;rfl
 | int _=>obtain⟨t,rfl⟩:=r;rfl
 | str _=>obtain⟨t,rfl⟩:=r;rfl
 | byt _=>obtain⟨t,rfl⟩:=r;rfl
 | flt _=>obtain⟨t,rfl⟩:=r;rfl
 | ref _=>cases r;rfl
 | ty _=>cases r;rfl
def fN.inj{x y:V}{u:Value}(r:fN x u)(q:fN y u):x=y:=a7a (r.abs.symm.trans q.abs)
theorem cQ.inj:∀ {xs ys:List V} {us:List Value},cQ xs us->cQ ys us->xs=ys
 | _,_,_,.nil,.nil=>rfl
 | _,_,_,.cons r t,.cons a b=>by rw[r.inj a,cQ.inj t b]
section
variable{X:Cx}{pins:List (Addr×Obj)}{σ:St}{H:Hp}{s:Shared}{a:Addr}{xs ys:List V}
def SqL.of{K:W.Frag}(h:H a=some (.lst xs)):SqL K H a xs:=.inl (.inl h)
def SqT.of{K:W.Frag}(h:H a=some (.tup xs)):SqT K H a xs:=.inl (.inl h)
def Inv.list(I:Inv X pins σ H s)(h:SqL X.K H a xs):∃ b:List Value,cQ xs b/\PlainL s.heap a b.toArray/\xs.length<=sizeLine:=by
 rcases h with h | ⟨o,b,n,c,d,hd,f,g,r⟩;obtain⟨z,b,n,r,e⟩:=h.ok I.hok;exact⟨b,r,⟨_,n,e,rfl,rfl,rfl⟩,z⟩;refine⟨b.toList,r,⟨o,n,I.kIn a o c,d,hd,by simpa using f⟩,?_⟩;have e:=r.length;simp only[Array.length_toList]at e;lia
def Inv.tuple(I:Inv X pins σ H s)(h:SqT X.K H a xs):∃ b:List Value,cQ xs b/\IsTup s.heap a b.toArray/\xs.length<=sizeLine:=by
 rcases h with h | ⟨o,b,n,c,d,f,g,r⟩;obtain⟨z,b,r,p,_⟩:=h.ok I.hok;exact⟨b,r,p,z⟩;refine⟨b.toList,r,⟨o,I.kIn a o c,d,n,by simpa using f⟩,?_⟩;have e:=r.length;simp only[Array.length_toList]at e;lia
def Inv.list_inj(I:Inv X pins σ H s)(h:SqL X.K H a xs)(h':SqL X.K H a ys):xs=ys:=by
 obtain⟨c,r,⟨o,n,e,_,_,d⟩,_⟩:=I.list h;obtain⟨b,g,⟨o',j,f,_,_,d'⟩,_⟩:=I.list h';rw[e]at f;cases f;rw[d]at d';injection d' with i _
 have:c=b:=by simpa using a4q Array.toList i
 subst this;exact r.inj g
def Inv.tuple_inj(I:Inv X pins σ H s)(h:SqT X.K H a xs)(h':SqT X.K H a ys):xs=ys:=by
 obtain⟨c,r,⟨o,e,_,n,d⟩,_⟩:=I.tuple h;obtain⟨b,g,⟨o',f,_,j,d'⟩,_⟩:=I.tuple h';rw[e]at f;cases f;rw[d]at d';injection d' with i _
 have:c=b:=by simpa using a4q Array.toList i
 subst this;exact r.inj g
end
noncomputable abbrev Cx.wish(X:Cx)(E:Value->Shared->Prop):Cx:={X with xe:=E}
noncomputable abbrev Cx.nox(X:Cx):Cx:=X.wish λ_ _=>False
theorem Cx.Ok.wish{X:Cx}(ok:X.Ok)(E:Value->Shared->Prop):(X.wish E).Ok:=
 ⟨ok.mod,ok.kind,ok.glob,ok.blt,ok.above,ok.inj,ok.has,ok.cab,ok.hd,ok.frames,ok.stk,ok.exf,ok.bs,ok.bsz,ok.noex,ok.exfs,ok.funs,ok.frf⟩
def Cx.Ok.unwish{X:Cx}{E:Value->Shared->Prop}(ok:(X.wish E).Ok):X.Ok:=
 ⟨ok.mod,ok.kind,ok.glob,ok.blt,ok.above,ok.inj,ok.has,ok.cab,ok.hd,ok.frames,ok.stk,ok.exf,ok.bs,ok.bsz,ok.noex,ok.exfs,ok.funs,ok.frf⟩
section
variable{X:Cx}{pins:List (Addr×Obj)}{σ:St}{H:Hp}{s:Shared}{E:Value->Shared->Prop}
theorem Inv.wish(I:Inv X pins σ H s)(E:Value->Shared->Prop):Inv (X.wish E) pins σ H s:=⟨I.ok.wish E,I.os,I.bare,I.base,I.loc,I.cell,I.free,I.freeC,I.pin,I.hok,I.len⟩
theorem Inv.unwish(I:Inv (X.wish E) pins σ H s):Inv X pins σ H s:=⟨I.ok.unwish,I.os,I.bare,I.base,I.loc,I.cell,I.free,I.freeC,I.pin,I.hok,I.len⟩
theorem SP.unwish{D:Ends}{f:Flow}{s':Shared}(h:SP (X.wish E) pins D f s'):SP X pins D f s':=by
 cases f with
 | next=>obtain⟨σ',H',I,q⟩:=h;exact⟨σ',H',I.unwish,q⟩
 | brk=>obtain⟨σ',H',I,q⟩:=h;exact⟨σ',H',I.unwish,q⟩
 | cont=>obtain⟨σ',H',I,q⟩:=h;exact⟨σ',H',I.unwish,q⟩
 | ret u=>obtain⟨v,σ',H',I,r,q⟩:=h;exact⟨v,σ',H',I.unwish,r,q⟩
theorem PSs.nox{st:List Stmt}{t:TS}(h:PSs X.nox st t):PSs X st t:=λpins s σ H D I a=>
 a4r (h pins s σ H D (I.wish _) a) (λ_ _ q=>q.unwish) λ_ _ z=>False.elim z
end
section
variable{X:Cx}{st:Stmt}{nK:List Stmt}{t u:TS}{e:Expr}{te:TE}{pos:Pos}
def dE1:TS:=λD σ H=>D.nx σ H
def dO7(t u:TS):TS:=λD σ H=>t {D with nx:=u D} σ H
def jR:PSs X [] dE1:=λ_ _ σ H _ I h=>wpAny_execs_nil ⟨σ,H,I,h⟩
def cZ(a:PS X st t)(b:PSs X nK u):PSs X (st::nK) (dO7 t u):=by
 intro pins s σ H D I h;refine wpAny_execs_cons (thn (a pins s σ H {D with nx:=u D} I h) λf s1 q=>?_);cases f with
 | next=>
   obtain⟨σ',H',c,q⟩:=q;exact b pins s1 σ' H' D c q
 | ret v=>exact q
 | brk=>exact q
 | cont=>exact q
def iX(a:PS X st t):PSs X [st] t:=by
 intro pins s σ H D I h;refine wpAny_execs_cons (thn (a pins s σ H D I h) λf s1 q=>?_);cases f with
 | next=>exact wpAny_execs_nil q
 | ret v=>exact q
 | brk=>exact q
 | cont=>exact q
def Inv.quiet{pins:List (Addr×Obj)}{σ:St}{H:Hp}{s:Shared}(I:Inv X pins σ H s):interactive X.env=false:=by simp[interactive,I.ok.kind]
def dE2(te:TE):TS:=λD σ H=>te σ H λ_ a=>D.nx σ a
def wQ(a:PE X e te)(b:swapsWith e none pos.line X.env=pure false:=by rfl):PS X (.Expr e pos) (dE2 te):=by
 intro pins s σ H D I h;exact wpAny_Expr_any (thn (a pins s σ H _ I h) λv s1 ⟨x,c,d,g,f⟩=>⟨σ,c,d,f⟩) I.quiet b
def dV7(te:TE):TS:=λD σ H=>te σ H D.rt
def aZ1(a:PE X e te):PS X (.Return (some e) pos) (dV7 te):=by
 intro pins s σ H D I h;exact wpAny_Return_some (thn (a pins s σ H _ I h) λv s1 ⟨x,b,c,d,f⟩=>⟨x,σ,b,c,d,f⟩)
def dV8(c:TT)(t u:TS):TS:=λD σ H=>c σ H λb a=>if b=true then t D σ a else u D σ a
def wR{c:Expr}{a b:List Stmt}{e:TT}(j:PT X c e)(ha:PSs X a t)(k:PSs X b u):PS X (.If c a b pos) (dV8 e t u):=by
 intro pins s σ H D I h;refine wpAny_If (thn (j pins s σ H _ I h) λd s1 Z0=>?_);obtain⟨f,g,i⟩:=Z0;cases d with
 | true=>exact ha pins s1 σ f D g i
 | false=>exact k pins s1 σ f D g i
end
abbrev TG:=V->St->Hp->(St->Hp->Prop)->Prop
abbrev TGs:=List V->St->Hp->(St->Hp->Prop)->Prop
def PG(X:Cx)(a:Expr)(t:TG):Prop:=
 ∀ (pins:List (Addr×Obj)) (s:Shared) (σ:St) (H:Hp) (v:V) (u:Value) (Q:St->Hp->Prop),Inv X pins σ H s->fN v u->t v σ H Q ->
   wpAny (model X.prog X.w) X.A (assign a X.env u) (λ_ s'=>∃ σ' H',Inv X pins σ' H' s'/\Q σ' H') X.xe s
def PGs(X:Cx)(a:List Expr)(t:TGs):Prop:=
 ∀ (pins:List (Addr×Obj)) (s:Shared) (σ:St) (H:Hp) (vs:List V) (us:List Value) (Q:St->Hp->Prop),Inv X pins σ H s->cQ vs us->t vs σ H Q ->
   wpAny (model X.prog X.w) X.A (assignInOrder ((assignEach a X.env).map (·.2)) us) (λ_ s'=>∃ σ' H',Inv X pins σ' H' s'/\Q σ' H') X.xe s
abbrev dQ4:=V->V->V->Hp->(Hp->Prop)->Prop
def dV9(X:Cx)(t:dQ4):Prop:=
 ∀ (pins:List (Addr×Obj)) (s:Shared) (σ:St) (H:Hp) (o i v:V) (ov a u:Value) (Q:Hp->Prop),Inv X pins σ H s->fN o ov->fN i a->fN v u->t o i v H Q ->
   wpAny (model X.prog X.w) X.A (setItem ov a u) (λ_ s'=>∃ H',Inv X pins σ H' s'/\Q H') X.xe s
section
variable{X:Cx}{pos:Pos}
def aE8(i:Nat):TG:=λv σ H Q=>Q (σ.set i (some v)) H
def aP{i:Nat}{x:Str}(a:X.N.Nodup)(hi:X.N[i]? = some x)(b:Loc X.env.scope x)(c:X.fn x=true\/X.env.scope.names.lookup x=some .local:=by first | exact .inl rfl | exact .inr rfl | assumption):PG X (.Name x pos) (aE8 i):=by
 intro pins s σ H v u Q I r h;exact wpAny_assign_Name (wH I a hi b r (λs' d=>⟨_,H,d,h⟩) c)
def dQ5:TGs:=λvs σ H Q=>vs=[]/\Q σ H
def cQ6(t:TG)(u:TGs):TGs:=λvs σ H Q=>∃ v r,vs=v::r/\t v σ H λσ' H'=>u r σ' H' Q
def gQ:PGs X [] dQ5:=by
 intro pins s σ H vs us Q I r h;obtain⟨e,h⟩:=h;subst e;cases r;exact assignInOrder_nil ⟨σ,H,I,h⟩
def bP{e:Expr}{es:List Expr}{t:TG}{u:TGs}(b:PG X e t)(c:PGs X es u)
  (d:(assignEach (e::es) X.env).map (·.2)=assign e X.env::(assignEach es X.env).map (·.2):=by rfl):PGs X (e::es) (cQ6 t u):=by
 intro pins s σ H vs us Q I r h;obtain⟨v,l,f,h⟩:=h;subst f;cases r with
 | cons r g=>
   rw[d];refine assignInOrder_cons (thn (b pins s σ H _ _ _ I r h) λ_ s1 Z0=>?_);obtain⟨a,i,j,k⟩:=Z0;exact c pins s1 a i _ _ Q j g k
def dY5(K:W.Frag)(n:Nat)(t:TGs):TG:=λv σ H Q=>∃ a xs,v=.ref a/\SqT K H a xs/\xs.length=n/\t xs σ H Q
def dE3{es:List Expr}{k:Nat}{t:TGs}{n:Nat}(g:X.calm=true)(h:PGs X es t)
  (hn:(assignEach es X.env).length=n:=by rfl) (c:(assignEach es X.env).findIdx? (·.1)=none:=by rfl):PG X (.Tuple es k pos) (dY5 X.K n t):=by
 intro pins s σ H v u Q I r d;obtain⟨a,xs,i,j,l,d⟩:=d;subst i;cases r;obtain⟨m,f,p,x⟩:=I.tuple j;refine assign_Tuple_tuple (I.ok.hd g) p (by simp[hn,← l,f.length]) c λh' q=>?_;have w:Inv X pins σ H {s with heap:=h'}:=I.kept (t':=s.toks) λb o e=>q b o (a1d (a4b e)) e;exact h pins _ σ H xs _ Q w (by simpa using f) d
def dW0(to a:TE)(t:dQ4):TG:=λv σ H Q=>to σ H λo b=>a σ b λi c=>t o i v c λd=>Q σ d
def cK1{o i:Expr}{to b:TE}{t:dQ4}(c:PE X o to)(hi:PE X i b)(d:dV9 X t)
  (ha:∀ v,assign (.Subscript o i pos) X.env v=(do
   let ov ← holding [v] (eval o X.env)
   let a ← holding [v,ov] (eval i X.env)
   standAt pos
   holding [v,ov,a] (setItem ov a v)
   release [v,ov,a] []):=by intro _;rfl):PG X (.Subscript o i pos) (dW0 to b t):=by
 intro pins s σ H v u Q I r h;rw[ha];refine a3Z (a4p (thn (c pins s σ H _ I h) λov s1 Z0=>?_));obtain⟨x,e,f,g,j⟩:=Z0;refine a3Z (a4p (thn (hi pins s1 σ e _ f j) λa s2 ⟨y,k,l,m,n⟩=>?_));refine a3Z (a4J (a3Z (a4p (thn (d pins s2 σ k x y v ov a u _ l g m r n) λ_ z ⟨p,q,w⟩=>?_))));exact wpAny_release ⟨σ,p,q,w⟩
def dA6(a:TE)(g:TG):TS:=λD σ H=>a σ H λx b=>g x σ b D.nx
def cK2{tg e:Expr}{a:TE}{g:TG}(b:PE X e a)(c:PG X tg g)(d:swapsWithSole [tg] e pos.line X.env=pure false:=by rfl)(f:swappedStores [tg] e X.env=pure none:=by rfl)
  (i:(assignEach [tg] X.env).map (·.2)=[assign tg X.env]:=by rfl):PS X (.Assign [tg] e pos) (dA6 a g):=by
 intro pins s σ H D I h;refine wpAny_Assign_stores (thn (b pins s σ H _ I h) λv s1 Z0=>?_) d f;obtain⟨x,j,k,l,m⟩:=Z0;rw[i];exact thn (c pins s1 σ j x v _ k l m) λ_ s2 q=>q
def pL{i:Nat}{x:Str}{e:Expr}{b:TE}{a:Pos}(c:X.N.Nodup)(hi:X.N[i]? = some x)(d:Loc X.env.scope x)(f:PE X e b)(g:swapsWith e (some (.Name x a)) pos.line X.env=pure false:=by rfl)(j:X.fn x=true\/X.env.scope.names.lookup x=some .local:=by first | exact .inl rfl | exact .inr rfl | assumption) :
  PS X (.Assign [.Name x a] e pos) (dA6 b (aE8 i)):=by
 intro pins s σ H D I h;refine wpAny_Assign_Name (thn (f pins s σ H _ I h) λv s1 Z0=>?_) g;obtain⟨y,k,l,m,n⟩:=Z0;exact wH l c hi d m (λs2 o=>⟨_,k,o,n⟩) j
def dW1(i j:Nat)(a:TA):TS:=λD σ H=>a σ H λvs b=>∃ v w,vs=[v,w]/\D.nx ((σ.set i (some v)).set j (some w)) b
def dE4{i j:Nat}{x y:Str}{a b:Expr}{t:TA}{g k pt:Pos}{kt k2 c}(F:X.calm=true)(u:X.N.Nodup)(hi:X.N[i]? = some x)(G:X.N[j]? = some y)(l:i≠j)
  (z:X.env.scope.names.lookup x=some .local) (B:X.env.scope.names.lookup y=some .local) (ha:PA X [a,b] t)
  (J:swappedStores [.Tuple [.Name x g,.Name y k] kt pt] (.Tuple [a,b] k2 c) X.env=pure (some [x,y]))
  (K:swapsWithSole [.Tuple [.Name x g,.Name y k] kt pt] (.Tuple [a,b] k2 c) pos.line X.env=pure false:=by rfl) :
  PS X (.Assign [.Tuple [.Name x g,.Name y k] kt pt] (.Tuple [a,b] k2 c) pos) (dW1 i j t):=by
 intro pins s σ H D I h;rw[exec_Assign_arm];refine a3Z (a4J ?_);rw[K];refine a3Z (a4l ?_);rw[a4j (by decide)];refine a3Z (Tuple_ (thn (ha _ pins s σ H _ I h) λus s1 Z0=>?_));obtain⟨vs,C,L,M,m⟩:=Z0;obtain⟨v,w,O,m⟩:=m;subst O;obtain⟨d,f,rfl,P,n⟩:∃ d f,us=[d,f]/\fN v d/\fN w f:=by
  cases M with
  | cons p q=>
    cases q with
    | cons Q R=>
      cases R;exact⟨_,_,rfl,p,Q⟩
 refine a4t ?_ (by show 2<=sizeLine;decide);have S:Inv X pins σ C {s1 with heap:=s1.heap.push {cls:=.type "tuple",data:=.seq [d,f].toArray}}:=L.kept (t':=s1.toks) λb o e=>a4a _ e;rw[J];refine a3Z (a4l ?_);show wpAny (model X.prog X.w) X.A (do rule "assign.swapped-stores";let items ← unpackItems (.ref s1.heap.objs.size) 2 none;assignInOrder [λv=>bindName X.env y v,λv=>bindName X.env x v] items.reverse;pure Flow.next) _ _ _;refine a3Z (a4L (a3Z (unpackItems_tuple (items:=#[d,f]) (I.ok.hd F) (IsTup.new s1.heap _) λh' r=>?_)));have T:=S.kept (h':=h') (t':=s1.toks) λb o e=>r b o (a1d (a4b e)) e;show wpAny _ _ (assignInOrder [λv=>bindName X.env y v,λv=>bindName X.env x v] [f,d] >>= λ_=>pure Flow.next) _ _ _;refine a3Z (assignInOrder_cons (wpAny_bindName (wH T u G (.inl B) n (λs2 U=>?_) (.inr B))));refine assignInOrder_cons (wpAny_bindName (wH U u hi (.inl z) P (λV E=>assignInOrder_nil (a4l ?_)) (.inr z)));rw[List.set_comm _ _ (a0e l)]at E;exact⟨_,C,E,m⟩
end
section
variable{X:Cx}{pos:Pos}
def bL1(c:TT)(tb:TS):TS:=λD σ H=>∃ W:Nat->St->Hp->Prop,(∃ m,W m σ H)/\∀ m σ H,W m σ H ->
 c σ H λb a=>if b=true then ∃ N:St->Hp->Prop,(∀ σ' H',N σ' H'->∃ d,d < m/\W d σ' H')/\tb {D with nx:=N,ct:=N,bk:=D.nx} σ a else D.nx σ a
def aE9{c:Expr}{e:List Stmt}{o:TT}{p:TS}(q:PassesOwn (model X.prog X.w) X.A X.env X.xe)(y:PT X c o)(z:PSs X e p):PS X (.While c e [] pos) (bL1 o p):=by
 intro pins s σ H D I h;obtain⟨W,⟨B,C⟩,turn⟩:=h;refine wpAny_While (codeAny_whileLoop (λn s'=>∃ σ' H',Inv X pins σ' H' s'/\W n σ' H') ?_ B ⟨σ,H,I,C⟩);rintro n s1 ⟨d,r,E,F⟩;refine a4v q (thn (y pins s1 d r _ E (turn n d r F)) λb s2 Z0=>?_);obtain⟨t,u,i⟩:=Z0;cases b with
 | true=>
   obtain⟨N,x,i⟩:=i;rw[a4i rfl];refine a4v q (thn (z pins s2 d t _ u i) λf G j=>?_);cases f with
   | next=>
     obtain⟨a,g,k,n3⟩:=j;obtain⟨l,hm,m⟩:=x a g n3;exact⟨l,hm,a,g,k,m⟩
   | cont=>
     obtain⟨a,g,k,n3⟩:=j;obtain⟨l,hm,m⟩:=x a g n3;exact⟨l,hm,a,g,k,m⟩
   | brk=>exact j
   | ret v=>exact j
 | false=>
   rw[a4j a9b];exact wpAny_execs_nil ⟨d,t,u,i⟩
end
structure It where
 go:Nat->Hp->Prop
 yld:Nat->Hp->V->Hp->Prop
 stop:Nat->Hp->Prop
def bL2(X:Cx)(pins:List (Addr×Obj))(H:Hp)(b:Addr):Prop:=
 H b=none/\b≠X.env.locals/\b∉X.fs/\(b∈X.ex\/X.s₀.heap.objs.size<=b)/\(∀ x c,X.env.cells.lookup x=some c->c≠b)/\∀ p∈X.pn++pins,p.1≠b
def Inv.fpOk{X:Cx}{pins:List (Addr×Obj)}{σ:St}{H H':Hp}{s:Shared}{b:Addr}(I:Inv X pins σ H s)(a:s.heap.objs.size<=b)(hn:H' b=none):bL2 X pins H' b:=by
 refine⟨hn,a7h (a5d I.lt a),I.nofs a,.inr (a4c I.sz a),λx c e z=>?_,λp d z=>?_⟩;obtain⟨v,q⟩:=I.cell x c e;exact absurd (a5d q.lt (by rw[z];exact a)) (a5e _);exact absurd (a5d (a4b (I.pin p d).1) (by rw[z];exact a)) (a5e _)
structure Turn(P:Program)(w:World)(K:W.Frag)(tg:Expr)(J:It)(fp:List Addr)(it:Addr)(tn:Nat->Heap->Prop):Prop where
 mem:it∈fp
 obj:∀ i h,tn i h->∀ b∈fp,∃ o,h.get? b=some o/\∀ v,o.data≠.cell v
 keep:∀ i h h',tn i h->(∀ b∈fp,∀ o,h.get? b=some o->h'.get? b=some o)->tn i h'
 item:∀ (X:Cx),X.prog=P->X.w=w->X.K=K->X.calm=true->∀ (i:Nat) (pins:List (Addr×Obj)) (s:Shared) (σ:St) (H:Hp) (E:Value->Shared->Prop),Inv X pins σ H s->(∀ b∈fp,bL2 X pins H b)->tn i s.heap->J.go i H ->
  wpAny (model P w) X.A (pyNext (.ref it)) (λr s1=>∃ u,r=some u /\
   wpAny (model P w) X.A (letOwnedTupleGo tg (.ref it) u) (λ_ s2=>∃ x H',Inv X pins σ H' s2/\fN x u/\J.yld i H x H'/\tn (i+1) s2.heap/\∀ b∈fp,H' b=none) E s1) E s
 done:∀ (X:Cx),X.prog=P->X.w=w->X.K=K->X.calm=true->∀ (i:Nat) (pins:List (Addr×Obj)) (s:Shared) (σ:St) (H:Hp) (E:Value->Shared->Prop),Inv X pins σ H s->(∀ b∈fp,bL2 X pins H b)->tn i s.heap->J.stop i H ->
  wpAny (model P w) X.A (pyNext (.ref it)) (λr s1=>r=none/\Inv X pins σ H s1) E s
 self:∀ (A:Around) (i:Nat) (s:Shared) (Q:Value->Shared->Prop) (E:Value->Shared->Prop),tn i s.heap->Q (.ref it) s->wpAny (model P w) A (pyIter (.ref it)) Q E s
abbrev TI:=St->Hp->(It->Hp->Prop)->Prop
def PIE(X:Cx)(pins:List (Addr×Obj))(σ:St)(tg:Expr)(R:It->Hp->Prop)(a:Value)(s2:Shared):Prop:=
 ∃ (it:Addr) (fp:List Addr) (tn:Nat->Heap->Prop) (J:It) (H':Hp),a=.ref it/\Inv X pins σ H' s2/\Turn X.prog X.w X.K tg J fp it tn/\tn 0 s2.heap/\(∀ b∈fp,bL2 X pins H' b)/\R J H'
def PI(X:Cx)(tg iter:Expr)(a:TI):Prop:=
 ∀ (pins:List (Addr×Obj)) (s:Shared) (σ:St) (H:Hp) (R:It->Hp->Prop),Inv X pins σ H s->a σ H R ->
   wpAny (model X.prog X.w) X.A (eval iter X.env) (λv s1=>wpAny (model X.prog X.w) X.A (pyIter v) (PIE X pins σ tg R) X.xe s1) X.xe s
def bL3{M:Model}{A:Around}{E:Value->Shared->Prop}{s:Shared}{tg:Expr}{it:Addr}{u:Value}{o:Obj}{n:String}{vs:Array Value}{Q:Unit->Shared->Prop}(b:s.heap.get? it=some o)(c:o.cls=.type n)(hd:o.data=.fields vs)
  (hn:["enumerate","zip","dict_itemiterator","dict_reverseitemiterator","odict_iterator","itertools.zip_longest","itertools.pairwise"].contains n=false) (a:Q () s):wpAny M A (letOwnedTupleGo tg (.ref it) u) Q E s:=by
 unfold letOwnedTupleGo;cases tg<;>first
  | exact a4l a
  | (cases u<;>first
    | exact a4l a
    | (refine a3Z (wpAny_load b ?_)
       rw[c,hd];show wpAny M A (if(["enumerate","zip","dict_itemiterator","dict_reverseitemiterator","odict_iterator","itertools.zip_longest","itertools.pairwise"].contains n&&vs[0]? == some (rawInt _))=true then _ else _) Q E s;rw[a4j (by intro h;rw[hn,Bool.false_and]at h;cases h)];exact a4l a))
noncomputable def Itl(K:W.Frag)(a:Addr):It:=
 ⟨λi H=>∃ xs x,SqL K H a xs/\xs[i]? = some x,λi H x H'=>H'=H/\∀ xs,SqL K H a xs->xs[i]? = some x,λi H=>∃ xs,SqL K H a xs/\xs.length<=i⟩
noncomputable def Itt(K:W.Frag)(a:Addr):It:=
 ⟨λi H=>∃ xs x,SqT K H a xs/\xs[i]? = some x,λi H x H'=>H'=H/\∀ xs,SqT K H a xs->xs[i]? = some x,λi H=>∃ xs,SqT K H a xs/\xs.length<=i⟩
noncomputable def Itr(lo:Int)(n:Nat):It:=⟨λi _=>i < n,λi H x H'=>H'=H/\x=.int (lo+i),λi _=>n<=i⟩
def bL4{P:Program}{w:World}{K:W.Frag}{tg:Expr}(a it:Addr):Turn P w K tg (Itl K a) [it] it (λi h=>h.IsListIter it a i) where
 mem:=by simp
 obj:=λi h st b f=>by
  have e:b=it:=by simpa using f
  subst e;obtain⟨o,e,c,d⟩:=st;exact⟨o,e,λv z=>by rw[d]at z;cases z⟩
 keep:=λi h h' st k=>st.at λo e=>k it (by simp) o e
 item:=by
  intro X m n q J i pins s σ H E I j st r;subst m n q;obtain⟨xs,x,l,t⟩:=r;obtain⟨y,A,p,L⟩:=I.list l;obtain⟨u,M,N⟩:=A.get t;obtain⟨B,C,O,D,F,G⟩:=j it (by simp);refine wpAny_pyNext_list_item st p.isList (x:=u) (by simpa using M) λh' g Q=>?_;have R:Inv X pins σ H {s with heap:=h'}:=I.turned (t':=s.toks) (λb o f e=>(Q.2 b f).trans e) B C D F G;obtain⟨o,e,c,d⟩:=id g;exact⟨u,rfl,bL3 (s:={s with heap:=h'}) e c d (by decide) ⟨x,H,R,N,⟨rfl,λys S=>by rw[I.list_inj S l];exact t⟩,g,λb f=>(j b f).1⟩⟩
 done:=by
  intro X m n q J i pins s σ H E I j st r;subst m n q;obtain⟨xs,l,t⟩:=r;obtain⟨y,A,p,L⟩:=I.list l;obtain⟨B,C,O,D,F,G⟩:=j it (by simp);have U:=A.length;exact wpAny_pyNext_list_end (I.ok.hd J) st p.isList (by simp;lia) λh' T=>⟨rfl,I.turned (t':=s.toks) (λb o f e=>T b o f e) B C D F G⟩
 self:=λ_ _ _ _ _ st h=>wpAny_pyIter_listiter st h
def bF3{P:Program}{w:World}{K:W.Frag}{tg:Expr}(a it:Addr):Turn P w K tg (Itt K a) [it] it (λi h=>h.IsTupleIter it a i) where
 mem:=by simp
 obj:=λi h st b f=>by
  have e:b=it:=by simpa using f
  subst e;obtain⟨o,e,c,d⟩:=st;exact⟨o,e,λv z=>by rw[d]at z;cases z⟩
 keep:=λi h h' st k=>st.at λo e=>k it (by simp) o e
 item:=by
  intro X n q r J i pins s σ H E I l st t;subst n q r;obtain⟨xs,x,m,y⟩:=t;obtain⟨g,A,p,L⟩:=I.tuple m;obtain⟨u,M,N⟩:=A.get y;obtain⟨B,C,O,D,F,G⟩:=l it (by simp);refine wpAny_pyNext_tuple_item st (show s.heap.IsTuple a g.toArray from p) (x:=u) (by simpa using M) λh' j Q=>?_;have R:Inv X pins σ H {s with heap:=h'}:=I.turned (t':=s.toks) (λb o f e=>(Q.2 b f).trans e) B C D F G;obtain⟨o,e,c,d⟩:=id j;exact⟨u,rfl,bL3 (s:={s with heap:=h'}) e c d (by decide) ⟨x,H,R,N,⟨rfl,λys S=>by rw[I.tuple_inj S m];exact y⟩,j,λb f=>(l b f).1⟩⟩
 done:=by
  intro X n q r J i pins s σ H E I l st t;subst n q r;obtain⟨xs,m,y⟩:=t;obtain⟨g,A,p,L⟩:=I.tuple m;obtain⟨B,C,O,D,F,G⟩:=l it (by simp);have U:=A.length;exact wpAny_pyNext_tuple_end (I.ok.hd J) st (show s.heap.IsTuple a g.toArray from p) (by simp;lia) λh' T=>⟨rfl,I.turned (t':=s.toks) (λb o f e=>T b o f e) B C D F G⟩
 self:=λ_ _ _ _ _ st h=>wpAny_pyIter_tupleiter st h
def bF4{P:Program}{w:World}{K:W.Frag}{tg:Expr}(it:Addr)(lo:Int)(n:Nat):Turn P w K tg (Itr lo n) [it] it (λi h=>IsRangeIter h it (lo+(i:Nat)*1) ((n:Int)-(i:Nat)) 1) where
 mem:=by simp
 obj:=λi h st b a=>by
  have e:b=it:=by simpa using a
  subst e;exact⟨_,st,λv z=>by
   have y:Data.fields _=Data.cell v:=z;cases y⟩
 keep:=λi h h' st k=>k it (by simp) _ st
 item:=by
  intro X f g j l i pins s σ H E I d st m;subst f g j;obtain⟨p,q,A,r,u,x⟩:=d it (by simp);have W:=Walks.range (prog:=X.prog) (w:=X.w) (I.ok.hd l) it lo 1 n;refine W.item i s _ _ m st λv h' tk B c C=>?_;obtain⟨t,rfl⟩:=B;have D:Inv X pins σ H {s with heap:=h',toks:=tk}:=I.turned (λb o a e=>C b o (by simpa using a) e) p q r u x;refine⟨_,rfl,bL3 (s:={s with heap:=h',toks:=tk}) (n:="range_iterator") c rfl rfl (by decide) ⟨.int (lo+i),H,D,⟨t,?_⟩,⟨rfl,rfl⟩,c,λb a=>(d b a).1⟩⟩;rw[Int.mul_one]
 done:=by
  intro X f g j l i pins s σ H E I d st m;subst f g j;obtain⟨p,q,A,r,u,x⟩:=d it (by simp);exact wpAny_pyNext_range_end (I.ok.hd l) st (by have:n<=i:=m;lia) λh' F=>⟨rfl,I.turned (t':=s.toks) (λb o a e=>F b o a e) p q r u x⟩
 self:=λ_ _ _ _ _ st h=>wpAny_pyIter_rangeiter st h
section
variable{X:Cx}{tg:Expr}
def cA3{pins:List (Addr×Obj)}{σ:St}{H:Hp}{s:Shared}{R:It->Hp->Prop}{E:Value->Shared->Prop}{lo hi:Int}{t u v:Tok}{tk:Nat}(I:Inv X pins σ H s)(c:-(2 ^ 62)<=lo)(d:lo < 2 ^ 62)(f:-(2 ^ 62)<=hi)(g:hi < 2 ^ 62)
  (q:R (Itr lo (hi-lo).toNat) H):wpAny (model X.prog X.w) X.A (pyIter (.ref s.heap.objs.size)) (PIE X pins σ tg R) E {s with heap:=s.heap.push {cls:=.type "range",data:=.fields #[.int lo t,.int hi u,.int 1 v]},toks:=tk}:=by
 refine wpAny_pyIter_range (IsRange.new ..) (small_one c d f g) ?_;have a:Inv X pins σ H {s with heap:=s.heap.push {cls:=.type "range",data:=.fields #[.int lo t,.int hi u,.int 1 v]},toks:=tk}:=I.kept λb o e=>a4a _ e;refine⟨(s.heap.push {cls:=.type "range",data:=.fields #[.int lo t,.int hi u,.int 1 v]}).objs.size,[(s.heap.push {cls:=.type "range",data:=.fields #[.int lo t,.int hi u,.int 1 v]}).objs.size],_,_,H,rfl,
  a.kept (t':=tk) λb o e=>a4a _ e,bF4 _ lo (hi-lo).toNat,?_,λb h=>?_,q⟩
 ·have i:lo+((0:Nat):Int)*1=lo:=by simp
  have j:(((hi-lo).toNat:Nat):Int)-((0:Nat):Int)=Builtin.Range.rangeSize lo hi 1:=by rw[rangeSize_one];split<;>lia
  show IsRangeIter _ _ (lo+((0:Nat):Int)*1) ((((hi-lo).toNat:Nat):Int)-((0:Nat):Int)) 1;rw[i,j];exact a0c _ rfl
 ·have e:b=(s.heap.push {cls:=.type "range",data:=.fields #[.int lo t,.int hi u,.int 1 v]}).objs.size:=by simpa using h
  subst e;exact a.fpOk (a8a _) (a.hok.fresh (a8a _))
def cQ7(a:TA):TI:=λσ H R=>a σ H λvs b=>∃ j:Int,vs=[.int j] /\ -(2 ^ 62)<=j/\j < 2 ^ 62/\R (Itr 0 j.toNat) b
def dI{a:Expr}{c:TA}{p pos:Pos}(d:Gl X "range")(hm:X.mg "range"=none)(ha:PA X [a] c)(f:starEach [a] X.env=[(false,eval a X.env)]:=by rfl):PI X tg (.Call (.Name "range" p) [a] [] pos) (cQ7 c):=by
 intro pins s σ H R I h;refine Call_ (pK I d hm boot_range (a4f (thn (ha pos pins s σ H _ I h) λus s1 Z0=>?_) f rfl));obtain⟨vs,m,g,i,b⟩:=Z0;obtain⟨j,e,b,k,q⟩:=b;subst e;cases i with
 | cons r l=>
   cases l;obtain⟨t,rfl⟩:=r;exact call_range_1 (cA3 g (by lia) (by lia) b k (by simpa using q))
def dO8(c:TI)(g:TG)(d:TS):TS:=λD σ H=>c σ H λJ e=>∃ W:Nat->Nat->St->Hp->Prop,(∃ m,W 0 m σ e)/\∀ i m σ H,W i m σ H ->
 (J.stop i H/\D.nx σ H)\/(J.go i H/\∃ N:St->Hp->Prop,(∀ σ' H',N σ' H'->∃ b,b < m/\W (i+1) b σ' H')/\∀ x H',J.yld i H x H'->g x σ H' λa f=>d {D with nx:=N,ct:=N,bk:=D.nx} a f)
noncomputable def wT(fp:List Addr)(h:Heap):List (Addr×Obj):=fp.filterMap λb=>(h.get? b).map λo=>(b,o)
def oE{fp:List Addr}{h:Heap}{b:Addr}{o:Obj}(a:b∈fp)(e:h.get? b=some o):(b,o)∈wT fp h:=List.mem_filterMap.mpr ⟨b,a,by rw[e];rfl⟩
def bL5{fp:List Addr}{h:Heap}{p:Addr×Obj}(a:p∈wT fp h):p.1∈fp/\h.get? p.1=some p.2:=by
 obtain⟨b,c,e⟩:=List.mem_filterMap.mp a;cases q:h.get? b with
 | none=>rw[q]at e;cases e
 | some o=>
   rw[q]at e;have d:(b,o)=p:=a7a e;subst d;exact⟨c,q⟩
def Inv.pinned{pins:List (Addr×Obj)}{σ:St}{H:Hp}{s:Shared}{fp:List Addr}(I:Inv X pins σ H s)(f:∀ b∈fp,bL2 X pins H b)(g:∀ b∈fp,∃ o,s.heap.get? b=some o/\∀ v,o.data≠.cell v):Inv X (pins++wT fp s.heap) σ H s:=
 I.pins_of λp h=>(a5b.mp h).elim (λz=>I.pin p (a1c _ z)) λz=>by
  obtain⟨a,e⟩:=bL5 z;obtain⟨i,j,k,_⟩:=f p.1 a;obtain⟨o,c,d⟩:=g p.1 a;rw[e]at c;cases c;exact⟨e,i,j,k,d⟩
def Inv.unpinned{pins pl:List (Addr×Obj)}{σ:St}{H:Hp}{s:Shared}(I:Inv X (pins++pl) σ H s):Inv X pins σ H s:=I.pins_of λp a=>I.pin p (a1c _ (a6d _ a))
def iY{iter:Expr}{q:List Stmt}{S:TI}{g:TG}{U:TS}{pos:Pos}(B:PassesOwn (model X.prog X.w) X.A X.env X.xe)(V:X.calm=true)(hi:PI X tg iter S)(hg:PG X tg g)(c:PSs X q U)
  (hs:∀ x,foldedSetIterable iter X.env x=pure x:=by intro _;rfl):PS X (.For tg iter q [] pos) (dO8 S g U):=by
 intro pins s σ H D I h;refine wpAny_For (thn (hi pins s σ H _ I h) λv s1 h1=>thn h1 λitv s2 h2=>?_) hs;obtain⟨it,fp,tn,J,H2,e,I2,T,K,Y,W,⟨m0,w0⟩,turn⟩:=h2;subst e
 -- Z stays true of L t objects through L loop
 have j:∀ {H':Hp},(∀ b∈fp,H' b=none)->∀ b∈fp,bL2 X pins H' b:=λhn b c=>⟨hn b c,(Y b c).2⟩;refine codeAny_forLoop_any (λn s'=>∃ i σ' H',Inv X pins σ' H' s'/\tn i s'.heap/\(∀ b∈fp,H' b=none)/\W i n σ' H') ?_ m0 ⟨0,σ,H2,I2,K,λb c=>(Y b c).1,w0⟩;rintro n s3 ⟨i,k,G,I3,C,E,w3⟩;rcases turn i n k G w3 with⟨stop,qn⟩ | ⟨go,N,hN,step⟩
 ·refine a4v B (thn (T.done X rfl rfl rfl V i pins s3 k G X.xe I3 (j E) C stop) λr s4 Z0=>?_);obtain⟨M,I4⟩:=Z0;subst M;exact wpAny_execs_nil ⟨k,G,I4,qn⟩
 ·refine a4v B (thn (T.item X rfl rfl rfl V i pins s3 k G X.xe I3 (j E) C go) λr s4 Z0=>?_);obtain⟨u,M,h4⟩:=Z0;subst M;refine a4v B (thn h4 λ_ s5 ⟨x,H5,I5,r5,y5,z,O⟩=>?_);have P:=I5.pinned (j O) (T.obj _ _ z);refine a4v B (thn (hg _ s5 k H5 x u _ P r5 (step x H5 y5)) λ_ s6 ⟨Q,H6,I6,q6⟩=>?_);refine a4v B (thn (c _ s6 Q H6 _ I6 q6) λf R y=>?_);have again:∀ {a:St} {l:Hp},Inv X (pins++wT fp s5.heap) a l R->N a l->∃ m,m < n/\∃ i σ' H',Inv X pins σ' H' R/\tn i R.heap/\(∀ b∈fp,H' b=none)/\W i m σ' H':=λ{a l} p F=>by
   obtain⟨m',hm,w7⟩:=hN a l F;refine⟨m',hm,i+1,a,l,p.unpinned,T.keep _ _ _ z λb c o e=>(p.pin (b,o) (a1c _ (a1c _ (oE c e)))).1,λb c=>?_,w7⟩;obtain⟨o,e,d⟩:=T.obj _ _ z b c;exact(p.pin (b,o) (a1c _ (a1c _ (oE c e)))).2.1
  cases f with
  | next=>obtain⟨a,l,p,F⟩:=y;exact again p F
  | cont=>obtain⟨a,l,p,F⟩:=y;exact again p F
  | brk=>obtain⟨a,l,p,y⟩:=y;exact⟨a,l,p.unpinned,y⟩
  | ret v=>obtain⟨x7,a,l,p,r7,y⟩:=y;exact⟨x7,a,l,p.unpinned,r7,y⟩
end
abbrev R2:=V->V->Hp->VK->Prop
def OpR(X:Cx)(f:Value->Value->Sem Value)(r:R2):Prop:=
 ∀ (pins:List (Addr×Obj)) (s:Shared) (σ:St) (H:Hp) (x y:V) (v u:Value) (Q:VK),Inv X pins σ H s->fN x v->fN y u->r x y H Q ->
   wpAny (model X.prog X.w) X.A (f v u) (EP X pins σ Q) X.xe s
def UnR(X:Cx)(f:Value->Sem Value)(r:V->Hp->VK->Prop):Prop:=
 ∀ (pins:List (Addr×Obj)) (s:Shared) (σ:St) (H:Hp) (x:V) (v:Value) (Q:VK),Inv X pins σ H s->fN x v->r x H Q ->
   wpAny (model X.prog X.w) X.A (f v) (EP X pins σ Q) X.xe s
def jL(X:Cx)(f:Value)(r:List V->Hp->VK->Prop):Prop:=
 ∀ (pins:List (Addr×Obj)) (s:Shared) (σ:St) (H:Hp) (xs:List V) (us:List Value) (Q:VK),Inv X pins σ H s->cQ xs us->r xs H Q ->
   wpAny (model X.prog X.w) X.A (call f us) (EP X pins σ Q) X.xe s
def dY6(X:Cx)(r:V->Hp->(Bool->Hp->Prop)->Prop):Prop:=
 ∀ (pins:List (Addr×Obj)) (s:Shared) (σ:St) (H:Hp) (x:V) (v:Value) (Q:Bool->Hp->Prop),Inv X pins σ H s->fN x v->r x H Q ->
   wpAny (model X.prog X.w) X.A (truthy v) (TP X pins σ Q) X.xe s
def tOp(r:R2)(a b:TE):TE:=λσ H Q=>a σ H λx c=>b σ c λy d=>r x y d Q
def tUn(r:V->Hp->VK->Prop)(a:TE):TE:=λσ H Q=>a σ H λx b=>r x b Q
def rI(C:Int->Int->Prop)(g:Int->Int->V):R2:=λx y H Q=>∃ i j,x=.int i/\y=.int j/\C i j/\Q (g i j) H
def rI0(g:Int->Int->V):R2:=λx y H Q=>∃ i j,x=.int i/\y=.int j/\Q (g i j) H
def rU(g:Int->V):V->Hp->VK->Prop:=λx H Q=>∃ i,x=.int i/\Q (g i) H
section
variable{X:Cx}{a b c:Expr}{ta tb tc:TE}{pos:Pos}
def dQ6(ha:PE X a ta)(i:PE X b tb){pins:List (Addr×Obj)}{s:Shared}{σ:St}{H:Hp}{R:V->V->Hp->Prop}(I:Inv X pins σ H s)
  (h:ta σ H λx g=>tb σ g λy c=>R x y c) {Q:Value->Shared->Prop} {f:Value->Value->Sem Value}
  (j:∀ v u s2 x y c,Inv X pins σ c s2->fN x v->fN y u->R x y c->wpAny (model X.prog X.w) X.A (f v u) Q X.xe s2) :
  wpAny (model X.prog X.w) X.A (eval a X.env) (λv d=>wpAny (model X.prog X.w) X.A (eval b X.env) (λu e=>wpAny (model X.prog X.w) X.A (f v u) Q X.xe e) X.xe d) X.xe s:=by
 refine thn (ha pins s σ H _ I h) λv s1 Z0=>?_;obtain⟨x,g,k,l,m⟩:=Z0;refine thn (i pins s1 σ g _ k m) λu s2 ⟨y,c,n,o,p⟩=>?_;exact j v u s2 x y c n l o p
def bF5{c:Operator}{r:R2}(d:OpR X (binaryOp c) r)(ha:PE X a ta)(e:PE X b tb):PE X (.BinOp a c b pos) (tOp r ta tb):=by
 intro pins s σ H Q I h;exact wpAny_BinOp (dQ6 ha e I h λv u s2 x y f g i j q=>d pins s2 σ f x y v u Q g i j q)
def dQ7{b:UnaryOp}{r:V->Hp->VK->Prop}(c:UnR X (unaryOp b) r)(ha:PE X a ta):PE X (.UnaryOp b a pos) (tUn r ta):=by
 intro pins s σ H Q I h;exact UnaryOp_ (thn (ha pins s σ H _ I h) λv s1 ⟨x,d,e,f,g⟩=>c pins s1 σ d x v Q e f g)
def opI{f:Value->Value->Sem Value}{C:Int->Int->Prop}{g:Int->Int->Int}
  (rule:∀ (i j:Int) (t u:Tok) (s:Shared) (Q:Value->Shared->Prop) (E:Value->Shared->Prop),C i j->Q (.int (g i j) s.toks) {s with toks:=s.toks+1}->wpAny (model X.prog X.w) X.A (f (.int i t) (.int j u)) Q E s) :
  OpR X f (rI C λi j=>.int (g i j)):=by
 intro pins s σ H x y v u Q I a b h;obtain⟨i,j,rfl,rfl,c,q⟩:=h;obtain⟨t,rfl⟩:=a;obtain⟨d,rfl⟩:=b;exact rule i j t d s _ _ c ⟨.int (g i j),H,I.tok _,⟨_,rfl⟩,q⟩
def dW2{f:Value->Value->Sem Value}{g:Int->Int->Int}
  (rule:∀ (i j:Int) (t u:Tok) (s:Shared) (Q:Value->Shared->Prop) (E:Value->Shared->Prop),Q (.int (g i j) s.toks) {s with toks:=s.toks+1}->wpAny (model X.prog X.w) X.A (f (.int i t) (.int j u)) Q E s) :
  OpR X f (rI0 λi j=>.int (g i j)):=by
 intro pins s σ H x y v u Q I a b h;obtain⟨i,j,rfl,rfl,q⟩:=h;obtain⟨t,rfl⟩:=a;obtain⟨c,rfl⟩:=b;exact rule i j t c s _ _ ⟨.int (g i j),H,I.tok _,⟨_,rfl⟩,q⟩
def dQ8{f:Value->Value->Sem Value}{g:Int->Int->Bool}
  (rule:∀ (i j:Int) (t u:Tok) (s:Shared) (Q:Value->Shared->Prop) (E:Value->Shared->Prop),Q (.bool (g i j)) s->wpAny (model X.prog X.w) X.A (f (.int i t) (.int j u)) Q E s) :
  OpR X f (rI0 λi j=>.bl (g i j)):=by
 intro pins s σ H x y v u Q I a b h;obtain⟨i,j,rfl,rfl,q⟩:=h;obtain⟨t,rfl⟩:=a;obtain⟨c,rfl⟩:=b;exact rule i j t c s _ _ ⟨.bl (g i j),H,I,rfl,q⟩
def dA7(i j:Int):Prop:=0<=j/\j<=1000000/\i.natAbs < 2 ^ 64
def dE5(i j:Int):Prop:=(-(2 ^ 64) < i/\i < 2 ^ 64)\/(-(2 ^ 64) < j/\j < 2 ^ 64)
theorem dE5.ok{i j:Int}(h:dE5 i j):IntMulOk i j:=by
 rcases h with⟨a,b⟩ | ⟨a,b⟩;exact .of_left (intBits_le_64 a b);exact .of_right (intBits_le_64 a b)
def dE6:OpR X (binaryOp .Add) (rI0 λi j=>.int (i+j)):=dW2 λ_ _ _ _ _ _ _ q=>add_int q
def bL6:OpR X (binaryOp .Sub) (rI0 λi j=>.int (i-j)):=dW2 λ_ _ _ _ _ _ _ q=>sub_int q
def dE7:OpR X (binaryOp .Mult) (rI dE5 λi j=>.int (i*j)):=opI λ_ _ _ _ _ _ _ a q=>mul_int q a.ok
def mX:OpR X (binaryOp .Mod) (rI (λ_ j=>0 < j) λi j=>.int (i % j)):=opI λi j _ _ _ _ _ a q=>by
 have b:(0:Int) < j:=a;exact mod_int' (by lia) (by rw[Int.fmod_eq_emod_of_nonneg i (by lia)];exact q)
def dE8:OpR X (binaryOp .Pow) (rI dA7 λi j=>.int (i ^ j.toNat)):=opI λ_ _ _ _ _ _ _ a q=>pow_int_small a.1 a.2.1 a.2.2 q
def unI{f:Value->Sem Value}{g:Int->Int}
  (rule:∀ (i:Int) (t:Tok) (s:Shared) (Q:Value->Shared->Prop) (E:Value->Shared->Prop),Q (.int (g i) s.toks) {s with toks:=s.toks+1}->wpAny (model X.prog X.w) X.A (f (.int i t)) Q E s) :
  UnR X f (rU λi=>.int (g i)):=by
 intro pins s σ H x v Q I a h;obtain⟨i,rfl,q⟩:=h;obtain⟨t,rfl⟩:=a;exact rule i t s _ _ ⟨.int (g i),H,I.tok _,⟨_,rfl⟩,q⟩
def bL7:UnR X (unaryOp .USub) (rU λi=>.int (-i)):=unI λ_ _ _ _ _ q=>neg_int q
end
noncomputable def cQ8:V->V->Bool
 | .non,.non=>true | .non,.int _=>true | .int _,.non=>true | .non,.bl _=>true | .bl _,.non=>true | .non,.str _=>true | .str _,.non=>true
 | .int _,.int _=>true | .bl _,.bl _=>true | .str _,.str _=>true | .byt _,.byt _=>true
 | .int _,.str _=>true | .str _,.int _=>true | .bl _,.str _=>true | .str _,.bl _=>true
 | _,_=>false
def rEq:R2:=λx y H Q=>cQ8 x y=true/\Q (.bl (decide (x=y))) H
def rNe:R2:=λx y H Q=>cQ8 x y=true/\Q (.bl (!decide (x=y))) H
def bL8{i j:Int}:decide (V.int i=V.int j)=(i==j):=by
 rw[a9d];simp
def cK3{i j:Bool}:decide (V.bl i=V.bl j)=(i==j):=by
 rw[a9d];simp
def aF0{i j:Str}:decide (V.str i=V.str j)=(i==j):=by
 rw[a9d];simp
def bL9{i j:Array UInt8}:decide (V.byt i=V.byt j)=(i.toList==j.toList):=by
 rw[a9d];cases i;cases j;simp
section
variable{X:Cx}{a b c:Expr}{ta tb tc:TE}{pos:Pos}
def bX{pins:List (Addr×Obj)}{σ:St}{H:Hp}{s:Shared}{Q:VK}{k a:Bool}(I:Inv X pins σ H s)(q:Q (.bl k) H)(e:k=a):EP X pins σ Q (.bool a) s:=by
 subst e;exact⟨.bl k,H,I,rfl,q⟩
def dQ9:OpR X (compareOp .Eq) rEq:=by
 intro pins s σ H x y v u Q I d a h;obtain⟨c,q⟩:=h;cases x with
 | non=>
   cases d;cases y with
   | non=>cases a;exact PySem.EqNone.eq_none_none (bX I q (by simp))
   | bl j=>cases a;exact PySem.EqNone.eq_none_bool (bX I q (by simp))
   | int j=>obtain⟨b,rfl⟩:=a;exact PySem.EqNone.eq_none_int (bX I q (by simp))
   | str j=>obtain⟨b,rfl⟩:=a;exact PySem.EqNone.eq_none_str (bX I q (by simp))
   | _=>exact absurd (show false=true from c) a9b
 | bl i=>
   cases d;cases y with
   | non=>cases a;exact PySem.EqNone.eq_bool_none (bX I q (by simp))
   | bl j=>cases a;exact eq_bool (bX I q cK3)
   | str j=>obtain⟨b,rfl⟩:=a;exact PySem.EqMixed.eq_bool_str (bX I q (by simp))
   | _=>exact absurd (show false=true from c) a9b
 | int i=>
   obtain⟨t,rfl⟩:=d;cases y with
   | non=>cases a;exact PySem.EqNone.eq_int_none (bX I q (by simp))
   | int j=>obtain⟨b,rfl⟩:=a;exact eq_int (bX I q bL8)
   | str j=>obtain⟨b,rfl⟩:=a;exact PySem.EqMixed.eq_int_str (bX I q (by simp))
   | _=>exact absurd (show false=true from c) a9b
 | str i=>
   obtain⟨t,rfl⟩:=d;cases y with
   | non=>cases a;exact PySem.EqNone.eq_str_none (bX I q (by simp))
   | bl j=>cases a;exact PySem.EqMixed.eq_str_bool (bX I q (by simp))
   | int j=>obtain⟨b,rfl⟩:=a;exact PySem.EqMixed.eq_str_int (bX I q (by simp))
   | str j=>obtain⟨b,rfl⟩:=a;exact eq_str (bX I q aF0)
   | _=>exact absurd (show false=true from c) a9b
 | byt i=>
   obtain⟨t,rfl⟩:=d;cases y with
   | byt j=>obtain⟨b,rfl⟩:=a;exact W.eq_bytes (bX I q bL9)
   | _=>exact absurd (show false=true from c) a9b
 | _=>cases y<;>exact absurd (show false=true from c) a9b
def dR0:OpR X (compareOp .NotEq) rNe:=by
 intro pins s σ H x y v u Q I d a h;obtain⟨c,q⟩:=h;cases x with
 | non=>
   cases d;cases y with
   | non=>cases a;exact PySem.EqNone.ne_none_none (bX I q (by simp))
   | bl j=>cases a;exact PySem.EqNone.ne_none_bool (bX I q (by simp))
   | int j=>obtain⟨b,rfl⟩:=a;exact PySem.EqNone.ne_none_int (bX I q (by simp))
   | str j=>obtain⟨b,rfl⟩:=a;exact PySem.EqNone.ne_none_str (bX I q (by simp))
   | _=>exact absurd (show false=true from c) a9b
 | bl i=>
   cases d;cases y with
   | non=>cases a;exact PySem.EqNone.ne_bool_none (bX I q (by simp))
   | bl j=>cases a;exact ne_bool (bX I q (a4q not cK3))
   | str j=>obtain⟨b,rfl⟩:=a;exact PySem.EqMixed.ne_bool_str (bX I q (by simp))
   | _=>exact absurd (show false=true from c) a9b
 | int i=>
   obtain⟨t,rfl⟩:=d;cases y with
   | non=>cases a;exact PySem.EqNone.ne_int_none (bX I q (by simp))
   | int j=>obtain⟨b,rfl⟩:=a;exact ne_int (bX I q (a4q not bL8))
   | str j=>obtain⟨b,rfl⟩:=a;exact PySem.EqMixed.ne_int_str (bX I q (by simp))
   | _=>exact absurd (show false=true from c) a9b
 | str i=>
   obtain⟨t,rfl⟩:=d;cases y with
   | non=>cases a;exact PySem.EqNone.ne_str_none (bX I q (by simp))
   | bl j=>cases a;exact PySem.EqMixed.ne_str_bool (bX I q (by simp))
   | int j=>obtain⟨b,rfl⟩:=a;exact PySem.EqMixed.ne_str_int (bX I q (by simp))
   | str j=>obtain⟨b,rfl⟩:=a;exact ne_str (bX I q (a4q not aF0))
   | _=>exact absurd (show false=true from c) a9b
 | byt i=>
   obtain⟨t,rfl⟩:=d;cases y with
   | byt j=>obtain⟨b,rfl⟩:=a;exact W.ne_bytes (bX I q (a4q not bL9))
   | _=>exact absurd (show false=true from c) a9b
 | _=>cases y<;>exact absurd (show false=true from c) a9b
def aL2:OpR X (compareOp .Lt) (rI0 λi j=>.bl (decide (i < j))):=dQ8 λ_ _ _ _ _ _ _ q=>lt_int q
def aT6:OpR X (compareOp .Gt) (rI0 λi j=>.bl (decide (j < i))):=dQ8 λ_ _ _ _ _ _ _ q=>gt_int q
def dR1:OpR X (compareOp .GtE) (rI0 λi j=>.bl (decide (j<=i))):=dQ8 λ_ _ _ _ _ _ _ q=>ge_int q
def bM0:OpR X (compareOp .In) (λx y H Q=>∃ i j,x=.str i/\y=.str j/\Q (.bl (!(Builtin.Str.occurrences j i 0 j.length 1).isEmpty)) H):=by
 intro pins s σ H x y v u Q I a b h;obtain⟨i,j,rfl,rfl,q⟩:=h;obtain⟨t,rfl⟩:=a;obtain⟨c,rfl⟩:=b;exact in_str (bX I q rfl)
def cQ9:OpR X (compareOp .IsNot) (λx y H Q=>y=.non/\Q (.bl (!decide (x=.non))) H):=by
 intro pins s σ H x y v u Q I a b h;obtain⟨rfl,q⟩:=h;cases b;refine isnot_none_gen (bX I q ?_);cases x<;>first
  | (cases a;rfl)
  | (obtain⟨t,rfl⟩:=a;rfl)
def aL3:OpR X (compareOp .NotIn) (λx y H Q=>∃ i j,x=.str i/\y=.str j/\Q (.bl (!(!(Builtin.Str.occurrences j i 0 j.length 1).isEmpty))) H):=by
 intro pins s σ H x y v u Q I a b h;obtain⟨i,j,rfl,rfl,q⟩:=h;obtain⟨t,rfl⟩:=a;obtain⟨c,rfl⟩:=b;exact notIn_str (bX I q rfl)
def OpR.or{f:Value->Value->Sem Value}{r a:R2}(h:OpR X f r)(h':OpR X f a):OpR X f (λx y H Q=>r x y H Q\/a x y H Q):=by
 intro pins s σ H x y v u Q I b c q;rcases q with q | q;exact h pins s σ H x y v u Q I b c q;exact h' pins s σ H x y v u Q I b c q
def bG(b:Expr){a:CmpOp}(h:a≠.In:=by decide)(c:a≠.NotIn:=by decide):behindInMarks a b=false:=by
 have d:(a==CmpOp.In)=false:=by cases a<;>first | rfl | exact absurd rfl h
 have e:(a==CmpOp.NotIn)=false:=by cases a<;>first | rfl | exact absurd rfl c
 cases b<;>simp[behindInMarks,d,e]
def cR0{c:CmpOp}{r:R2}(d:OpR X (compareOp c) r)(ha:PE X a ta)(e:PE X b tb)(hm:behindInMarks c b=false):PE X (.Compare a [c] [b] pos) (tOp r ta tb):=by
 intro pins s σ H Q I h;exact wpAny_Compare1 (dQ6 ha e I h λv u s2 x y f g i j q=>d pins s2 σ f x y v u Q g i j q) hm
def dE9(t:TE):TT:=λσ H Q=>t σ H λx H'=>∃ k,x=.bl k/\Q k H'
def lB{d:CmpOp}{r:R2}(f:OpR X (compareOp d) r)(ha:PE X a ta)(g:PE X b tb)(hm:behindInMarks d b=false):PT X (.Compare a [d] [b] pos) (dE9 (tOp r ta tb)):=by
 intro pins s σ H Q I h;refine wpAny_isTrue_Compare1 (thn (ha pins s σ H _ I h) λv s1 ⟨x,i,j,l,m⟩=>thn (g pins s1 σ i _ j m) λu s2 ⟨y,n,o,p,q⟩=>
  thn (f pins s2 σ n x y v u _ o l p q) λc C ⟨z,t,w,A,k,e,B⟩=>?_) hm
 subst e;cases A;exact a4s ⟨t,w,B⟩
def dW3(K:W.Frag)(x:V)(H:Hp)(k:Bool):Prop:=
 match x with
 | .non=>k=false
 | .bl b=>k=b
 | .int i=>k=(i != 0)
 | .str y=>y.length<=sizeLine/\k=((y.length:Int) != 0)
 | .byt y=>y.size<=sizeLine/\k=((y.size:Int) != 0)
 | .ref p=>(∃ xs,SqL K H p xs/\k = !xs.isEmpty)\/(∃ xs,SqT K H p xs/\k = !xs.isEmpty)\/∃ kvs,H p=some (.dK kvs)/\k = !kvs.isEmpty
 | _=>False
def bF6{κ:Type}{kvs:List (κ×V)}{vs:List (κ×Value)}(r:KV kvs vs):(!vs.isEmpty) = !kvs.isEmpty:=by
 cases r<;>rfl
def aA0{xs:List V}{a:List Value}(r:cQ xs a):(!a.toArray.isEmpty) = !xs.isEmpty:=by
 cases r<;>simp
def wU:(sizeLine:Nat) < 2 ^ 63:=by rw[a4E];decide
def dF0:dY6 X (λx H Q=>∃ k,dW3 X.K x H k/\Q k H):=by
 intro pins s σ H x v Q I d h;obtain⟨k,e,q⟩:=h;have u:=wU;have z:sizeLine=16777216:=a4E;cases x with
 | non=>
   cases d;have a:k=false:=e;subst a;exact truthy_none ⟨H,I,q⟩
 | bl b=>
   cases d;have a:k=b:=e;subst a;exact a4s ⟨H,I,q⟩
 | int i=>
   obtain⟨t,rfl⟩:=d;have a:k=(i != 0):=e;subst a;exact PySem.P.truthy_int ⟨H,I,q⟩
 | str y=>
   obtain⟨t,rfl⟩:=d;obtain⟨n,a⟩:y.length<=sizeLine/\k=((y.length:Int) != 0):=e;subst a;exact PySem.P.truthy_str (by lia) ⟨H,I.tok _,q⟩
 | byt y=>
   obtain⟨t,rfl⟩:=d;obtain⟨n,a⟩:y.size<=sizeLine/\k=((y.size:Int) != 0):=e;subst a;exact W.truthy_bytes (by lia) ⟨H,I.tok _,q⟩
 | ref p=>
   cases d;have a:(∃ xs,SqL X.K H p xs/\k = !xs.isEmpty)\/(∃ xs,SqT X.K H p xs/\k = !xs.isEmpty)\/∃ kvs,H p=some (.dK kvs)/\k = !kvs.isEmpty:=e;rcases a with⟨xs,f,a⟩ | ⟨xs,f,a⟩ | ⟨kvs,f,a⟩;subst a;obtain⟨g,r,j,l⟩:=I.list f;have c:=r.length;exact wpAny_truthy_list j.isList (by simp only[List.size_toArray];lia) ⟨H,I.tok _,by rw[aA0 r];exact q⟩;subst a;obtain⟨g,r,j,l⟩:=I.tuple f;have c:=r.length;exact truthy_tuple j (by simp only[List.size_toArray];lia) ⟨H,I.tok _,by rw[aA0 r];exact q⟩;subst a;obtain⟨l,o,vs,r,m⟩:kvs.length<=sizeLine/\(p==sysModules)=false/\∃ vs,KV kvs vs/\s.heap.DictOf (fO X.prog X.w) p vs:=I.hok p _ f;have c:kvs.length=vs.length:=Paired.length r;exact wpAny_truthy_dict o m (by lia) ⟨H,I.tok _,by rw[bF6 r];exact q⟩
 | _=>exact(show False from e).elim
def cA4(ha:PE X a ta)(c:∀ b,isTrue a X.env b=(do let v ← b;standAt a.pos;holding [v] (truthy v))) :
  PT X a (λσ H Q=>ta σ H λx H'=>∃ k,dW3 X.K x H' k/\Q k H'):=by
 intro pins s σ H Q I h;exact isTrue_plain (thn (ha pins s σ H _ I h) λv s1 ⟨x,d,e,f,g⟩=>dF0 pins s1 σ d x v Q e f g) (c _)
def bF7:OpR X (binaryOp .Add) (λx y H Q=>∃ i j,x=.str i/\y=.str j/\i.length+j.length<=sizeLine/\Q (.str (i++j)) H):=by
 intro pins s σ H x y v u Q I a b h;obtain⟨i,j,rfl,rfl,c,q⟩:=h;obtain⟨t,rfl⟩:=a;obtain⟨d,rfl⟩:=b;exact add_str (λd tk=>⟨.str (i++j),H,I.tok _,⟨_,rfl⟩,q⟩) c
def wV{x:V}{us:List Value}(r:cQ [x] us):∃ u,us=[u]/\fN x u:=by
 cases r with
 | cons a b=>cases b;exact⟨_,rfl,a⟩
def dF1{x y:V}{us:List Value}(r:cQ [x,y] us):∃ u a,us=[u,a]/\fN x u/\fN y a:=by
 cases r with
 | cons b c=>
   cases c with
   | cons d e=>cases e;exact⟨_,_,rfl,b,d⟩
def aL4(b:X.calm=true):jL X (.builtin "min") (λxs H Q=>∃ i j,xs=[.int i,.int j]/\Q (.int (if j < i then j else i)) H):=by
 intro pins s σ H xs us Q I r h;obtain⟨i,j,rfl,q⟩:=h;obtain⟨u,c,rfl,⟨t,rfl⟩,⟨d,rfl⟩⟩:=dF1 r;refine min_two_ints (I.ok.hd b) λh' tk k=>⟨_,H,I.kept k,?_,q⟩;by_cases a:j < i;rw[a4i a,a4i a];exact⟨_,rfl⟩;rw[a4j a,a4j a];exact⟨_,rfl⟩
def wW:jL X (.type "int") (λxs H Q=>(∃ i,xs=[.int i]/\Q (.int i) H)\/∃ k,xs=[.bl k]/\Q (.int (if k then 1 else 0)) H):=by
 intro pins s σ H xs us Q I r h;rcases h with⟨i,rfl,q⟩ | ⟨k,rfl,q⟩;obtain⟨u,rfl,t,rfl⟩:=wV r;exact call_int_int ⟨.int i,H,I,⟨_,rfl⟩,q⟩;obtain⟨u,rfl,a⟩:=wV r;cases a;exact call_int_bool ⟨.int (if k then 1 else 0),H,I.tok _,⟨_,rfl⟩,q⟩
end
structure ObjM(h:Heap)(x dx C:Addr)(mA:Str->Option Value):Prop where
 obj:h.get? x=some (W.instObj C dx)
 ns:h.Ns1 dx mA
 ne:dx≠x
def bM1{h:Heap}{dx:Addr}{mA:Str->Option Value}(n:h.Ns1 dx mA):∃ od,h.get? dx=some od/\∀ name,W.lookIn name od=some (mA name):=by
 obtain⟨o,es,i,c,hd,d,_,hm⟩:=n;refine⟨o,c,λname=>?_⟩;have e:=hm name;unfold nsFind findBy at e;rw[← Array.find?_toList]at e;unfold W.lookIn;rw[hd];dsimp only;split;rename_i y q;rw[q]at e;exact a4q some e;rename_i q;rw[q]at e;have a:es.toList.any (·.refKey)=false:=by
  rw[List.any_eq_false];intro y f;obtain⟨z,t,b⟩:=d y (Array.mem_toList_iff.mp f);simp[DictEntry.refKey,b]
 have g:¬ es.toList.any (·.refKey)=true:=by rw[a];exact a9b
 rw[a4j g];exact a4q some e
def ObjM.look{h:Heap}{x dx C:Addr}{mA:Str->Option Value}(I:ObjM h x dx C mA):∃ od,W.InstAt h x (W.instObj C dx) C (some od)/\∀ name,W.lookIn name od=some (mA name):=
 let ⟨od,a,hl⟩:=bM1 I.ns
 ⟨od,⟨I.obj,rfl,rfl,a⟩,hl⟩
section
variable{prog:Program}{w:World}{A:Around}{E:Value->Shared->Prop}{s:Shared}{K:W.Frag}{x dx C f:Addr}{mA:Str->Option Value}{name:Str}{v:Value}
end
def bZ9.some_of{v:V}{o:Option Value}(r:bZ9 (some v) o):∃ u,o=some u/\fN v u:=by
 cases o with
 | none=>exact(show False from r).elim
 | some u=>exact⟨u,rfl,r⟩
section
variable{P:Program}{w:World}{H H':Hp}{h h':Heap}{a C dx:Addr}{fs fs':List (Str×V)}
def cR1(hok:HOk P w H h)(e:H a=some (.ins C dx fs)):∃ mA,ObjM h a dx C mA/\(∀ f,bZ9 (fs.lookup f) (mA f))/\Within mA (fs.map (·.1))/\fs.length<=1000/\H dx=some (.own a):=by
 obtain⟨d,z,ne,ob,mA,n,r,q⟩:=(show eR P w H h a (.ins C dx fs)from hok a _ e);exact⟨mA,⟨ob,n,ne⟩,r,q,z,d⟩
end
structure Cls(K:W.Frag)(C:Addr):Prop where
 pg:W.plainGet K C Str.empty=true
 hd:W.hasDictIn K C=true
 po:W.plainOver K C=true
 sa:W.findIn K (.ref C) "__setattr__"=some (some (.builtin "object.__setattr__"))
def Cls.get{K:W.Frag}{C:Addr}(c:Cls K C)(f:Str):W.plainGet K C f=true:=c.pg
section
variable{X:Cx}{pins:List (Addr×Obj)}{σ:St}{H:Hp}{s:Shared}{a C dx:Addr}{fs:List (Str×V)}{f:Str}{v:V}{A:Around}{E:Value->Shared->Prop}
end
section
variable{X:Cx}{o e value:Expr}{f:Str}{pos pos' tpos:Pos}{ta tv:TE}
end
section
variable{X:Cx}{pins:List (Addr×Obj)}{σ:St}{H:Hp}{s:Shared}{A:Around}{E:Value->Shared->Prop}{Q:Value->Shared->Prop}{c:Value}{b:Bool}
inductive TyOf(K:W.Frag)(H:Hp):V->Value->Prop where
 | non:TyOf K H .non (.type "NoneType")
 | bl (x:Bool):TyOf K H (.bl x) (.type "bool")
 | int (i:Int):TyOf K H (.int i) (.type "int")
 | str (x:Str):TyOf K H (.str x) (.type "str")
 | flt (x:UInt64):TyOf K H (.flt x) (.type "float")
 | lst {a:Addr} {xs:List V} (e:H a=some (.lst xs)):TyOf K H (.ref a) (.type "list")
 | frz {a:Addr} {o:Obj} {xs:List V} (e:H a=some (.frz o (.lst xs))):TyOf K H (.ref a) (.type "list")
 | tup {a:Addr} {xs:List V} (e:H a=some (.tup xs)):TyOf K H (.ref a) (.type "tuple")
 | dK {a:Addr} {kvs:List (Key×V)} (e:H a=some (.dK kvs)):TyOf K H (.ref a) (.type "dict")
 | dT {a:Addr} {kvs:List (List Key×V)} (e:H a=some (.dT kvs)):TyOf K H (.ref a) (.type "dict")
 | ins {a C dx:Addr} {fs:List (Str×V)} (e:H a=some (.ins C dx fs)) (cl:Cls K C) (ha:W.findIn K (.ref C) "__class__"=some (some (.builtin "object.__class__")))
   (hn:W.specialIn K (.builtin "object.__class__") "__get__"=some (some (.builtin "getset_descriptor.__get__"))) (htk:W.takesIn K (.builtin "object.__class__")=some true)
   (hm:W.mroIn K C (.type "object")=some true):TyOf K H (.ref a) (.ref C)
def bM2{x:V}{u t:Value}(I:Inv X pins σ H s)(d:fN x u)(ty:TyOf X.K H x t)(e:W.kitOne X.K t c=some b)(h:∀ tk,Q (.bool b) {s with toks:=tk}) :
  wpAny (model X.prog X.w) A (call (.builtin "isinstance") [u,c]) Q E s:=by
 cases ty with
 | non=>cases (show u=Value.none from d);exact a6f W.kitx_none I.kIn True.intro e (λz=>nomatch z) h
 | bl y=>cases (show u=Value.bool y from d);exact a6f W.kitx_bool I.kIn True.intro e (λz=>nomatch z) h
 | int i=>obtain⟨t,q⟩:=(show ∃ t,u=Value.int i t from d);cases q;exact a6f W.kitx_int I.kIn True.intro e (λz=>nomatch z) h
 | str y=>obtain⟨t,q⟩:=(show ∃ t,u=Value.str y t from d);cases q;exact a6f W.kitx_str I.kIn True.intro e (λz=>nomatch z) h
 | flt y=>obtain⟨t,q⟩:=(show ∃ t,u=Value.float y t from d);cases q;exact a6f W.kitx_float I.kIn True.intro e (λz=>nomatch z) h
 | @lst a xs f=>
   cases (show u=Value.ref a from d);obtain⟨_,_,n,_,g⟩:=(show eR X.prog X.w H s.heap a (.lst xs)from I.hok a _ f);exact a6f W.kitx_list I.kIn ⟨_,g,rfl⟩ e (λz=>nomatch z) h
 | @frz a ob xs f=>
   cases (show u=Value.ref a from d);obtain⟨_,_,_,n,_,g⟩:=(show eR X.prog X.w H s.heap a (.frz ob (.lst xs))from I.hok a _ f);exact a6f W.kitx_list I.kIn ⟨_,g,rfl⟩ e (λz=>nomatch z) h
 | @tup a xs f=>
   cases (show u=Value.ref a from d);obtain⟨_,_,_,p,_⟩:=(show eR X.prog X.w H s.heap a (.tup xs)from I.hok a _ f);obtain⟨o,g,j,_⟩:=p;exact a6f W.kitx_tuple I.kIn ⟨o,g,j⟩ e (λz=>nomatch z) h
 | @dK a kvs f=>
   cases (show u=Value.ref a from d);obtain⟨_,_,vs,_,p⟩:=(show eR X.prog X.w H s.heap a (.dK kvs)from I.hok a _ f);obtain⟨o,es,k,g,j,_⟩:=p;exact a6f W.kitx_dict I.kIn ⟨o,g,j.1⟩ e (λz=>nomatch z) h
 | @dT a kvs f=>
   cases (show u=Value.ref a from d);obtain⟨_,_,xs,_,o,es,k,g,j,_⟩:=(show eR X.prog X.w H s.heap a (.dT kvs)from I.hok a _ f);exact a6f W.kitx_dict I.kIn ⟨o,g,j.1⟩ e (λz=>nomatch z) h
 | @ins a C dx fs f cl ha hn htk hm=>
   cases (show u=Value.ref a from d);obtain⟨mA,O,_⟩:=cR1 I.hok f;obtain⟨od,J,_⟩:=O.look;exact a6f (W.kitx_own (cl.get _) cl.hd ha hn htk hm) I.kIn J e (λz=>nomatch z) h
end
structure Room(k:Nat)(A:Around):Prop where
 hd:A.handled=none
 dp:A.depth+3*k+5 < recursionLimit
 un:A.units+16*k+200 < cLine
def Room.mono{j k:Nat}{A:Around}(r:Room k A)(h:j<=k):Room j A:=⟨r.hd,by have:=r.dp;lia,by have:=r.un;lia⟩
theorem Room.deeper{k:Nat}{A:Around}(r:Room (k+1) A)(env:Env):Room k (A.deeper env):=
 ⟨r.hd,by have:=r.dp;show A.depth+1+3*k+5 < _;lia,by have:=r.un;show A.units+3+16*k+200 < _;lia⟩
theorem Room.depth{k:Nat}{A:Around}(r:Room k A):A.depth < recursionLimit:=by have:=r.dp;lia
theorem Room.units{k:Nat}{A:Around}(r:Room k A):A.units+64 < cLine:=by have:=r.un;lia
def dR2:TA:=λ_ H Q=>Q [] H
def cA5(a:TE)(tr:TA):TA:=λσ H Q=>a σ H λx b=>tr σ b λxs c=>Q (x::xs) c
section
variable{X:Cx}{e:Expr}{es:List Expr}{te:TE}{t:TA}{pos:Pos}
def eL:PA X [] dR2:=λ_ _ _ _ H Q I h=>Calls.spliced_nil ⟨[],H,I,.nil,h⟩
def bF(ha:PE X e te)(a:PA X es t)(b:starEach (e::es) X.env=(false,eval e X.env)::starEach es X.env:=by rfl):PA X (e::es) (cA5 te t):=by
 intro pos pins s σ H Q I h;rw[b];show wpAny _ _ (spliced ((false,eval e X.env)::backTo pos (starEach es X.env))) _ _ s;refine Calls.spliced_cons (thn (ha pins s σ H _ I h) λu s1 Z0=>?_);obtain⟨x,c,d,f,g⟩:=Z0;exact thn (a pos pins s1 σ c _ d g) λus s2 ⟨xs,i,j,k,l⟩=>⟨x::xs,i,j,.cons f k,l⟩
def dY7(t:TA):TE:=λσ H Q=>t σ H λxs a=>xs.length<=sizeLine/\∀ p,a p=none->Q (.ref p) (upd a p (.tup xs))
def dW4(t:TA):TE:=λσ H Q=>t σ H λxs a=>xs.length<=sizeLine/\∀ p,a p=none->Q (.ref p) (upd a p (.lst xs))
def cK4{d}(h:PA X es t):PE X (.Tuple es d pos) (dY7 t):=by
 intro pins s σ H Q I f;refine wpAny_Tuple_spliced (thn (h pos pins s σ H _ I f) λus s1 ⟨xs,a,c,r,z,q⟩=>⟨by rw[← r.length];exact z,?_⟩);have g:a s1.heap.objs.size=none:=c.hok.fresh (a8a _);refine⟨.ref s1.heap.objs.size,upd a s1.heap.objs.size (.tup xs),c.laid (t':=s1.toks) (λb u e=>a4a _ e) (a8a _) ?_,rfl,q _ g⟩;exact⟨z,us,r,⟨_,a0c _ rfl,rfl,_,rfl⟩,⟨_,a0c _ rfl,rfl⟩⟩
def cK5(h:PA X es t):PE X (.List es pos) (dW4 t):=by
 intro pins s σ H Q I d;refine wpAny_List_spliced (thn (h pos pins s σ H _ I d) λus s1 ⟨xs,a,c,r,z,q⟩=>⟨by rw[← r.length];exact z,?_⟩);have f:a s1.heap.objs.size=none:=c.hok.fresh (a8a _);refine⟨.ref s1.heap.objs.size,upd a s1.heap.objs.size (.lst xs),c.laid (t':=s1.toks) (λb u e=>a4a _ e) (a8a _) ?_,rfl,q _ f⟩;exact⟨z,us,0,r,a0c _ rfl⟩
end
abbrev Sp:=List V->Hp->VK->XK->Prop
abbrev CXT:=List Env->Hp->Shared->XK->Value->Shared->Prop
structure Env0(P:Program)(w:World)(K:W.Frag)(mg:Str->Option Value)(base:Heap)(A:Around)(outer:List Env)(s:Shared)(H:Hp):Prop where
 frames:A.frames=some outer
 mod:Mod K mg base
 bs:∀ b o,base.get? b=some o->s.heap.get? b=some o/\H b=none
 bsz:base.objs.size<=s.heap.objs.size
 funs:s.heap.FunFrames base outer
 frf:∀ b∈frs outer,H b=none
 hok:HOk P w H s.heap
 bare:AllBare s.gens
def CE(outer:List Env)(P:Program)(w:World)(H:Hp)(s:Shared)(Q:VK)(u:Value)(s':Shared):Prop:=
 ∃ v H',s'.os=s.os/\AllBare s'.gens/\Un (frs outer) [] H H' s.heap s'.heap/\HOk P w H' s'.heap/\fN v u/\Q v H'
def CR(CX:CXT)(outer:List Env)(P:Program)(w:World)(H:Hp)(s:Shared)(Q:VK)(E:XK)(r:Result)(s':Shared):Prop:=
 match r with
 | .ok (.ret u)=>CE outer P w H s Q u s'
 | .ok _=>False
 | .error e=>CX outer H s E e s'
structure FnOk(P:Program)(w:World)(K:W.Frag)(mg:Str->Option Value)(base:Heap)(CX:CXT)(k:Nat)(f:Addr)(fd:FuncData)(ps:List Str)(sp:Sp):Prop where
 len:∀ vs H Q E,sp vs H Q E->vs.length=ps.length
 run:∀ (A:Around) (outer:List Env) (s:Shared) (H:Hp) (args:Args) (us:List Value) (vs:List V) (Q:VK) (E:XK),Room k A->Env0 P w K mg base A outer s H->BindsTo s fd args (ps.zip us)->cQ vs us->sp vs H Q E ->
  codeAny (model P w) A (.call (.ref f) args) (CR CX outer P w H s Q E) s
def FnOk.imp{P:Program}{w:World}{K:W.Frag}{mg:Str->Option Value}{base:Heap}{CX:CXT}{k:Nat}{f:Addr}{fd:FuncData}{ps:List Str}{sp a:Sp}(F:FnOk P w K mg base CX k f fd ps sp)
  (h:∀ vs H Q E,a vs H Q E->sp vs H Q E):FnOk P w K mg base CX k f fd ps a:=
 ⟨λvs H Q E q=>F.len vs H Q E (h _ _ _ _ q),λA outer s H args us vs Q E b c d e g=>F.run A outer s H args us vs Q E b c d e (h _ _ _ _ g)⟩
section
variable{X:Cx}{pins:List (Addr×Obj)}{σ:St}{H:Hp}{s s':Shared}
def Inv.env0(I:Inv X pins σ H s):Env0 X.prog X.w X.K X.mg X.base X.A X.stack s H:=
 ⟨I.ok.frames,I.ok.mod,I.bs,a4c I.ok.bsz I.sz,I.stack,I.stkFree,I.hok,I.bare⟩
def Inv.after{Q:VK}{u:Value}(I:Inv X pins σ H s)(h:CE X.stack X.prog X.w H s Q u s'):EP X pins σ Q u s':=by
 obtain⟨v,H',os,bare,un,hok,r,q⟩:=h;obtain⟨c,g,d,t,a⟩:=s';obtain rfl:a=s.os:=os;exact⟨v,H',I.call (h':=c) (g':=g) (d':=d) (t':=t) (ch:=[]) un hok bare (λb z=>absurd z (by simp)),r,q⟩
end
def bF8(sp:Sp)(a:List V)(E:XK)(t:TA):TE:=λσ H Q=>t σ H λvs b=>sp (vs++a) b Q E
def eT(K:W.Frag)(fd:FuncData)(ps:List Str)(ds:List Value):Prop:=
 ∀ (s:Shared) (us:List Value),K.In s.heap->(us++ds).length=ps.length->BindsTo s fd ⟨us,[]⟩ (ps.zip (us++ds))
def eT.all{K:W.Frag}{fd:FuncData}{ps:List Str}(h:∀ us:List Value,us.length=ps.length->bindArgs fd ⟨us,[]⟩=pure (ps.zip us)):eT K fd ps []:=λs us _ a=>by
 rw[a4g]at a ⊢;exact .of_eq (h us a)
def bM3(CX:CXT)(X:Cx)(E:XK):Prop:=∀ (pins:List (Addr×Obj)) (σ:St) (H:Hp) (s:Shared) (e:Value) (s':Shared),Inv X pins σ H s->CX X.stack H s E e s'->X.xe e s'
section
variable{X:Cx}{CX:CXT}{k:Nat}{f C:Addr}{fd:FuncData}{ps:List Str}{sp:Sp}{dvs:List V}{ds:List Value}{E:XK}{x m:Str}{p pos apos:Pos}{e o:Expr}{es:List Expr}{ta:TE}{t:TA}
def dF2{pins:List (Addr×Obj)}{σ:St}{H:Hp}{s:Shared}{Q:VK}{us:List Value}{vs:List V}(F:FnOk X.prog X.w X.K X.mg X.base CX k f fd ps sp)(c:Room k X.A)(d:eT X.K fd ps ds)(hd:cQ dvs ds)(g:bM3 CX X E)
  (I:Inv X pins σ H s) (r:cQ vs us) (h:sp (vs++dvs) H Q E):wpAny (model X.prog X.w) X.A (call (.ref f) us) (EP X pins σ Q) X.xe s:=by
 have b:cQ (vs++dvs) (us++ds):=r.append hd;have i:(us++ds).length=ps.length:=by rw[← b.length];exact F.len _ _ _ _ h
 refine wpAny_call (a4G (F.run X.A X.stack s H ⟨us,[]⟩ (us++ds) (vs++dvs) Q E c I.env0 (d s us I.kIn i) b h) λr s' a=>?_);cases r with
 | error e=>exact g pins σ H s e s' I a
 | ok j=>
   cases j with
   | ret u=>exact I.after a
   | next=>exact False.elim a
   | brk=>exact False.elim a
   | cont=>exact False.elim a
def aN(F:FnOk X.prog X.w X.K X.mg X.base CX k f fd ps sp)(d:Room k X.A)(g:Gl X x)(hm:X.mg x=some (.ref f))(i:W.keepIn X.K (.ref f)=true)(j:eT X.K fd ps ds)(hd:cQ dvs ds)(l:bM3 CX X E)
  (ha:PA X (e::es) t) (a:(x==("__debug__":Str))=false:=by decide) (m:starEach (e::es) X.env=(false,eval e X.env)::starEach es X.env:=by rfl) (b:(backTo pos (starEach es X.env)).any (·.1)=false:=by rfl) :
  PE X (.Call (.Name x p) (e::es) [] pos) (bF8 sp dvs E t):=by
 intro pins s σ H Q I h;refine a4u (bL0 I g hm ?_ a);refine W.callWith_K (h₀:=X.base) I.ok.mod.kin i (thn (ha pos pins s σ H _ I h) λus s1 ⟨vs,n,c,r,q⟩=>⟨c.kIn,?_⟩) m b;exact dF2 F d j hd l c r q
end
def PK(X:Cx)(a:List Keyword)(t:TA):Prop:=
 ∀ (b:Pos) (pins:List (Addr×Obj)) (s:Shared) (σ:St) (H:Hp) (Q:List V->Hp->Prop),Inv X pins σ H s->t σ H Q->wpAny (model X.prog X.w) X.A (evalAll ((backToKw b (keywordEach a X.env)).map (·.2))) (AP X pins σ Q) X.xe s
section
variable{X:Cx}{CX:CXT}{k:Nat}{f C:Addr}{fd:FuncData}{ps ks:List Str}{sp:Sp}{E:XK}{x m:Str}{p pos apos kpos:Pos}{e o:Expr}{es:List Expr}{kws:List Keyword}{te ta:TE}{t tk:TA}{nm:Option Str}
variable{g:List Value->List Value->List Value}{gV:List V->List V->List V}
end
structure FnScope(N P:List Str)(sc:Scope):Prop where
 kind:sc.kind=.function
 co:sc.isCoroutine=false
 gen:sc.isGenerator=false
 nd:N.Nodup
 pre:N.take P.length=P
 par:∀ x∈P,sc.names.lookup x=some .local\/sc.names.lookup x=some .cell
 nofree:∀ y∈sc.names,y.2≠.free
theorem aL5{kindOf:Str->Option NameKind}{x:Str}:∀ {binds:List (Str×Value)} {m:Str->Option Value},(∀ v,(x,v)∉binds)->bindL kindOf binds m x=m x
 | [],_,_=>rfl
 | (n,v)::r,m,h=>by
   unfold bindL;rw[aL5 λw a=>h w (a6a _ a)];split
   ·have:x≠n:=by rintro rfl;exact h v a3a
    simp[this]
   ·rfl
theorem aL6{kindOf:Str->Option NameKind}{x:Str}:∀ {binds:List (Str×Value)} {m:Str->Option Value},(∀ v,(x,v)∉binds)->bindC kindOf binds m x=m x
 | [],_,_=>rfl
 | (n,v)::r,m,h=>by
   unfold bindC;rw[aL6 λw a=>h w (a6a _ a)];split;rfl
   ·have:x≠n:=by rintro rfl;exact h v a3a
    simp[this]
theorem aL7{kindOf:Str->Option NameKind}{x:Str}{v:Value}:∀ {P:List Str} {vs:List Value} {i:Nat} {m:Str->Option Value},P.Nodup->P[i]? = some x->vs[i]? = some v->kindOf x=some .local ->
  bindL kindOf (P.zip vs) m x=some v
 | [],_,_,_,_,h,_,_=>by simp at h
 | _::_,[],_,_,_,_,h,_=>by simp at h
 | p::P,w::vs,0,m,nd,a,b,c=>by
   simp at a b;subst a;subst b;show bindL kindOf ((p,w)::P.zip vs) m p=_;unfold bindL;rw[aL5 λv d=>(a7e.mp nd).1 (List.of_mem_zip d).1,a4i c];simp
 | p::P,w::vs,i+1,m,nd,a,b,c=>by
   show bindL kindOf ((p,w)::P.zip vs) m x=_;unfold bindL;exact aL7 (i:=i) (a7e.mp nd).2 (by simpa using a) (by simpa using b) c
theorem aL8{kindOf:Str->Option NameKind}{x:Str}{v:Value}:∀ {P:List Str} {vs:List Value} {i:Nat} {m:Str->Option Value},P.Nodup->P[i]? = some x->vs[i]? = some v->kindOf x≠some .local ->
  bindC kindOf (P.zip vs) m x=some v
 | [],_,_,_,_,h,_,_=>by simp at h
 | _::_,[],_,_,_,_,h,_=>by simp at h
 | p::P,w::vs,0,m,nd,a,b,c=>by
   simp at a b;subst a;subst b;show bindC kindOf ((p,w)::P.zip vs) m p=_;unfold bindC;rw[aL6 λv d=>(a7e.mp nd).1 (List.of_mem_zip d).1,a4j c];simp
 | p::P,w::vs,i+1,m,nd,a,b,c=>by
   show bindC kindOf ((p,w)::P.zip vs) m x=_;unfold bindC;exact aL8 (i:=i) (a7e.mp nd).2 (by simpa using a) (by simpa using b) c
noncomputable def lC(N:List Str)(vs:List V):St:=vs.map some++List.replicate (N.length-vs.length) none
noncomputable def cK6(CX:CXT)(P:Program)(w:World)(K:W.Frag)(mg:Str->Option Value)(base:Heap)(N:List Str)(qual:Str)(scope:Scope)(f:Addr)(cd:Value)(A:Around)(outer:List Env)(s:Shared)(H:Hp)(E:XK):Cx where
 prog:=P
 w:=w
 K:=K
 mg:=mg
 base:=base
 A:=A.deeper (envOfC qual scope s.heap.objs.size f cd)
 N:=N
 s₀:=s
 H₀:=H
 env:=envOfC qual scope s.heap.objs.size f cd
 outer:=outer
 stack:=envOfC qual scope s.heap.objs.size f cd::outer
 ex:=[]
 calm:=true
 fn:=λ_=>true
 pn:=[]
 xe:=λe s'=>wpAny (model P w) (A.deeper (envOfC qual scope s.heap.objs.size f cd)) (leaving (envOfC qual scope s.heap.objs.size f cd) e) (λ_ a=>CX outer H s E e a) (λb a=>CX outer H s E b a) s'
def aZ2{sc:Scope}{n:Nat}{x:Str}(h:sc.names.lookup x=some .cell):∃ c,(cellsFrom n sc.names []).lookup x=some c:=by
 have q:=W.cellsFrom_some sc.names n [] (.inl h);exact Option.isSome_iff_exists.mp q
def bM4{CX:CXT}{P:Program}{w:World}{K:W.Frag}{mg:Str->Option Value}{base:Heap}{N ps:List Str}{qual:Str}{scope:Scope}{f:Addr}{cd:Value}{A:Around}{outer:List Env}{s s1:Shared}{H:Hp}{E:XK}{us:List Value}{vs:List V}
  (S:FnScope N ps scope) (hd:A.handled=none) (g:Env0 P w K mg base A outer s H) (G:vs.length=ps.length) (r:cQ vs us)
  (x:InCallC s s.heap.objs.size (bindL (envOfC qual scope s.heap.objs.size f cd).kindOf (ps.zip us) λ_=>none) (cellsFrom (s.heap.objs.size+1) scope.names []) (bindC (envOfC qual scope s.heap.objs.size f cd).kindOf (ps.zip us) λ_=>none) s1) :
  Inv (cK6 CX P w K mg base N qual scope f cd A outer s H E) [] (lC N vs) H s1:=by
 have D:ps.length<=N.length:=by have:=a4q List.length S.pre;rw[a8d]at this;lia
 obtain⟨t,tk,rfl,B⟩:=x.done;have j:∀ b:Addr,b∉(cK6 CX P w K mg base N qual scope f cd A outer s H E).ex:=λb z=>absurd (show b∈([]:List Addr)from z) (by simp);refine⟨⟨g.mod,S.kind,rfl,rfl,a8a _,λy z c t d=>?_,λy l=>?_,λy c _ h=>?_,λ_=>hd,Around.frames_deeper g.frames,.inr ⟨rfl,rfl⟩,λb z=>absurd z (j b),g.bs,g.bsz,λb _ _=>j b,λb z=>absurd z (j b),g.funs,g.frf⟩,
  rfl,g.bare,Un.kept B,⟨_,x.toInCall.ns,λi y v t d I=>?_⟩,λy c h=>⟨_,x.cell y c h⟩,g.hok.fresh (a8a _),λy c h=>?_,λp m=>absurd (show p∈([]:List (Addr×Obj))from m) (by simp),g.hok.kept B,?_⟩
 ·exact name_of_addr x.apart (a4h t) (a4h d)
 ·have l:scope.names.lookup y=some .cell\/scope.names.lookup y=some .free:=l;rcases l with l | l;exact aZ2 l;exact absurd rfl (S.nofree _ (a4h l))
 ·exact a0i (x.above y c (a4h h))
 ·have hi:i < vs.length:=by
   unfold lC at d;by_cases hi:i < vs.length;exact hi;rw[a1g (by simpa using hi)]at d;rw[List.getElem?_replicate]at d;split at d<;>cases d
  have ha:vs[i]? = some v:=by
   unfold lC at d;rw[a3g (by simpa using hi),a8b]at d;cases e:vs[i]? with
   | none=>rw[e]at d;cases d
   | some a=>rw[e]at d;cases d;rfl
  obtain⟨u,C,F⟩:=r.get ha;have m:ps[i]? = some y:=by
   rw[← S.pre,List.getElem?_take_of_lt (by lia)];exact t
  have o:ps.Nodup:=by rw[← S.pre];exact S.nd.sublist (List.take_sublist _ _)
  refine⟨u,F,?_⟩;rcases S.par y (a7b m)with k | k;exact .inl ⟨k,aL7 o m C k⟩;obtain⟨c,e⟩:=aZ2 (n:=s.heap.objs.size+1) k;refine .inr ⟨.inl k,c,e,?_⟩;have q:=x.cell y c e;rw[aL8 o m C (by show scope.names.lookup y≠_;rw[k];decide)]at q;exact q
 ·exact g.hok.fresh (a0i (x.above y c (a4h h)))
 ·unfold lC;show _=N.length;rw[a3b,a1a,List.length_replicate];lia
def dR3{CX:CXT}{P:Program}{w:World}{K:W.Frag}{mg:Str->Option Value}{base:Heap}{k:Nat}{f:Addr}{name qual:Str}{a:Arguments}{c:List Stmt}{scope:Scope}{B kV doc pm cdv ct oc:Value}{an od:Option Addr}
  {osl:Array (Option Value)} {N ps:List Str} {sp:Sp} (lk:K.lookup f=some ⟨oc,od,.func (W.fnOf name qual a c scope B kV doc pm an cdv ct),osl⟩) (l:W.codeIn K cdv qual=true) (S:FnScope N ps scope)
  (len:∀ vs H Q E,sp vs H Q E->vs.length=ps.length)
  (d:∀ (A:Around) (outer:List Env) (s:Shared) (H:Hp) (vs:List V) (Q:VK) (E:XK),Room k (A.deeper (envOfC qual scope s.heap.objs.size f cdv))->sp vs H Q E ->
   ∃ t,PSs (cK6 CX P w K mg base N qual scope f cdv A outer s H E) c t/\t {nx:=λ_ H'=>Q .non H',rt:=Q} (lC N vs) H) :
  FnOk P w K mg base CX (k+1) f (W.fnOf name qual a c scope B kV doc pm an cdv ct) ps sp:=by
 refine⟨len,λA outer s H args us vs Q E m i D r j=>?_⟩;have F:=len _ _ _ _ j;have C:K.In s.heap:=i.mod.kin.keeps λb o e=>(i.bs b o e).1;have p:s.heap.NoLimit:=i.mod.nolimit.keeps λb o e=>(i.bs b o e).1;have g:∀ y∈ps.zip us,scope.names.lookup y.1=some .local\/(scope.names.lookup y.1=some .cell/\((cellsFrom (s.heap.objs.size+1) scope.names []).lookup y.1).isSome=true):=λ⟨n,v⟩ G=>by
  rcases S.par n (List.of_mem_zip G).1 with q | q;exact .inl q;exact .inr ⟨q,W.cellsFrom_some _ _ _ (.inl q)⟩
 refine codeAny_call_function m.depth (C _ _ lk) rfl S.co S.gen rfl (W.codeRec_of C l) (D _ _ _ _ ?_);refine wpAny_newFunctionEnv_cells S.kind g λenv L s1 x=>?_;subst L;refine⟨p.keeps x.toInCall.keep,codeAny_func ?_⟩;obtain⟨t,M,O⟩:=d A outer s H vs Q E (m.deeper _) j;have I:Inv (cK6 CX P w K mg base N qual scope f cdv A outer s H E) [] (lC N vs) H s1:=bM4 S m.hd i F r x;refine a4r (M [] s1 (lC N vs) H _ I O) (λR s' h=>?_) λe s' h=>h;have fin:∀ {σ':St} {H':Hp} {v:V} {u:Value},Inv (cK6 CX P w K mg base N qual scope f cdv A outer s H E) [] σ' H' s'->fN v u->Q v H'->CE outer P w H s Q u s':=
  λ{σ' H' v u} J z q=>⟨v,H',J.os,J.bare,J.base,J.hok,z,q⟩
 cases R with
 | ret u=>
   obtain⟨v,σ',H',J,z,q⟩:=h;exact fin J z q
 | next=>
   obtain⟨σ',H',J,q⟩:=h;exact fin (v:=V.non) (u:=Value.none) J rfl q
 | brk=>
   obtain⟨_,_,_,q⟩:=h;exact False.elim q
 | cont=>
   obtain⟨_,_,_,q⟩:=h;exact False.elim q
section
variable{X:Cx}{x:Str}{p pos:Pos}{e:Expr}{es:List Expr}{t:TA}{id T:String}{r:List V->Hp->VK->Prop}
def tCB(r:List V->Hp->VK->Prop)(t:TA):TE:=λσ H Q=>t σ H λvs a=>r vs a Q
def aT(c:jL X (.builtin id) r)(d:Gl X x)(hm:X.mg x=none)(f:bootBuiltins x=some (.builtin id))(ha:PA X (e::es) t)(hn:x≠"__name__":=by decide)(a:(x==("__debug__":Str))=false:=by decide)
  (g:starEach (e::es) X.env=(false,eval e X.env)::starEach es X.env:=by rfl) (b:(backTo pos (starEach es X.env)).any (·.1)=false:=by rfl):PE X (.Call (.Name x p) (e::es) [] pos) (tCB r t):=by
 intro pins s σ H Q I h;refine a4u (pK I d hm f ?_ hn a);exact PyProof.Rows.callWith_builtin1 (thn (ha pos pins s σ H _ I h) λus s1 ⟨vs,i,j,k,l⟩=>c pins s1 σ i vs us Q j k l) g b
def cV(c:jL X (.type T) r)(d:Gl X x)(hm:X.mg x=none)(f:bootBuiltins x=some (.type T))(ha:PA X (e::es) t)(hn:x≠"__name__":=by decide)(a:(x==("__debug__":Str))=false:=by decide)
  (g:starEach (e::es) X.env=(false,eval e X.env)::starEach es X.env:=by rfl) (b:(backTo pos (starEach es X.env)).any (·.1)=false:=by rfl):PE X (.Call (.Name x p) (e::es) [] pos) (tCB r t):=by
 intro pins s σ H Q I h;refine a4u (pK I d hm f ?_ hn a);exact a4f (thn (ha pos pins s σ H _ I h) λus s1 ⟨vs,i,j,k,l⟩=>c pins s1 σ i vs us Q j k l) g b
end
end L2
namespace HT
open PySem PyProof.Rows
section
open PySem.SeqAt
open PySem.AutoSeq1 (wpAny_loadPart')
open PySem.MeetsSeq PySem.MeetsSeq2 PySem.MeetsSeq3
end
section
variable{prog:Program}{w:World}{A:Around}{E:Value->Shared->Prop}{s:Shared}
def cat_tup{t b:Addr}{vs ws:List Value}{Q:Value->Shared->Prop}(l:IsTup s.heap t vs.toArray)(m:IsTup s.heap b ws.toArray)(h:vs≠[])
  (o:ws=[]->Q (.ref t) s) (p:ws≠[]->Q (.ref s.heap.objs.size) {s with heap:=s.heap.push {cls:=.type "tuple",data:=.seq (vs++ws).toArray}})
  (hsz:vs.length+ws.length<=sizeLine):wpAny (model prog w) A (binaryOp .Add (.ref t) (.ref b)) Q E s:=by
 obtain⟨⟨cls,i,data,sl⟩,f,j,n,hd⟩:=id l;obtain⟨⟨k,c,data2,sl2⟩,a,d,n2,hd2⟩:=id m;simp only at j hd d hd2;subst j hd d hd2;have e:vs.toArray++ws.toArray=(vs++ws).toArray:=by simp
 by_cases g:ws=[]
 ·exact concat_meets ⟨_,f,rfl⟩ ⟨_,a,rfl⟩ noFill_tuple_add seq_tuple_add F.slot_tuple_add F.entry_tuple_add (F.args_tuple_add_2 _ _)
   (tuple_addW1 t b vs.toArray ws.toArray n n2 i c sl sl2 (by simpa using h) (by simp[g])) ⟨f,a,o g⟩
 ·refine concat_meets ⟨_,f,rfl⟩ ⟨_,a,rfl⟩ noFill_tuple_add seq_tuple_add F.slot_tuple_add F.entry_tuple_add (F.args_tuple_add_2 _ _)
   (tuple_addW2 t b vs.toArray ws.toArray n n2 i c sl sl2 (by simpa using h) (by simpa using g) (by rw[List.size_toArray,List.size_toArray];exact hsz)) ⟨f,a,?_⟩
  rw[e];exact p g
noncomputable def sIx(n d:Nat):Option Int->Nat
 | none=>d
 | some v=>if v < 0 then(v+(n:Int)).toNat else min v.toNat n
def sIx_none(n d:Nat):sIx n d none=d:=rfl
def sIx_nat(n d k:Nat):sIx n d (some (k:Int))=min k n:=by
 show(if(k:Int) < 0 then((k:Int)+(n:Int)).toNat else min (k:Int).toNat n)=min k n;rw[a4j (by lia),a8h]
def dF3(n d:Nat)(hd:d<=n)(o:Option Int):sIx n d o<=n:=by
 cases o with
 | none=>exact hd
 | some v=>
   show(if v < 0 then(v+(n:Int)).toNat else min v.toNat n)<=n;by_cases a:v < 0;rw[a4i a];lia;rw[a4j a];exact Nat.min_le_right _ _
def bM5(v:Int)(n d:Nat):(if v < 0 then max (v+(n:Int)) 0 else min v (n:Int))=((sIx n d (some v):Nat):Int):=by
 show(if v < 0 then max (v+(n:Int)) 0 else min v (n:Int))=(((if v < 0 then(v+(n:Int)).toNat else min v.toNat n):Nat):Int);by_cases a:v < 0;simp only[if_pos a];lia;simp only[if_neg a];lia
def bF9(lo hi:Option Int)(n:Nat):Builtin.Slice.sliceAdjust lo hi 1 (n:Int)=(((sIx n 0 lo:Nat):Int),((sIx n n hi:Nat):Int)):=by
 have a:¬ ((1:Int) < 0):=by lia
 unfold Builtin.Slice.sliceAdjust;simp only[a,if_false];refine Prod.ext ?_ ?_
 ·cases lo with
  | none=>rfl
  | some v=>exact bM5 v n 0
 ·cases hi with
  | none=>rfl
  | some v=>exact bM5 v n n
def bG0(i j:Nat):Builtin.Slice.slicePlaces (i:Int) (j:Int) 1=j-i:=by
 unfold Builtin.Slice.slicePlaces;have a:(1:Int) > 0:=by lia
 simp only[a,if_true,Int.ediv_one];split<;>lia
def aA1{v:Value}{o:Option Int}{Q:Option Int->Shared->Prop}(p:IsPart v o)(h:Q o s):wpAny (model prog w) A (Builtin.Slice.slicePartIndex v) Q E s:=by
 cases p with
 | none=>exact slicePart_none h
 | int i t=>exact slicePart_int h
def mY{sl:Addr}{c d:Value}{lo hi:Option Int}{n:Nat}{Q:Int×Int×Nat->Shared->Prop}(e:s.heap.IsSliceOf sl c d .none)(f:IsPart c lo)(g:IsPart d hi)
  (h:Q (((sIx n 0 lo:Nat):Int),1,sIx n n hi-sIx n 0 lo) s):wpAny (model prog w) A (Builtin.Slice.sliceApplied (.ref sl) (pure (n:Int))) Q E s:=by
 obtain⟨os,a,i,b⟩:=id e;unfold Builtin.Slice.sliceApplied Builtin.Slice.sliceFields;refine a3Z (a3Z (a4F a b (x:=c) rfl (a3Z (a4F a b (x:=d) rfl (a3Z (a4F a b (x:=.none) rfl (a4l ?_)))))));refine a3Z (slicePart_none ?_);show wpAny _ _ (if((1:Int)==0)=true then _ else _) _ _ s;rw[a4j (by decide)];refine a3Z (aA1 f (a3Z (aA1 g (a3Z (a4l ?_)))));show wpAny _ _ (match Builtin.Slice.sliceAdjust lo hi 1 (n:Int)with | (lo,hi)=>pure (lo,(1:Int),Builtin.Slice.slicePlaces lo hi 1)) _ _ s;rw[bF9 lo hi n];show wpAny _ _ (pure (((sIx n 0 lo:Nat):Int),(1:Int),Builtin.Slice.slicePlaces ((sIx n 0 lo:Nat):Int) ((sIx n n hi:Nat):Int) 1)) _ _ s;rw[bG0];exact a4l h
def cA6(xs:Array Value)(i k:Nat):((List.range k).filterMap λ(m:Nat)=>xs[((i:Int)+(m:Int)*1).toNat]?).toArray=((xs.toList.drop i).take k).toArray:=by
 have e:(λ(m:Nat)=>xs[((i:Int)+(m:Int)*1).toNat]?)=λm=>xs[i+m]?:=by
  funext m;have:((i:Int)+(m:Int)*1).toNat=i+m:=by lia
  rw[this]
 rw[e];have:=pick_run xs i k;rw[List.filterMap_map]at this;have a:((λx=>xs[x]?) ∘ λx=>i+x)=λm=>xs[i+m]?:=rfl;rw[a]at this;rw[this]
def getItem_tuple_cut{t sl:Addr}{items:Array Value}{g i:Value}{lo hi:Option Int}{Q:Value->Shared->Prop}(b:IsTup s.heap t items)(j:s.heap.IsSliceOf sl g i .none)(k:IsPart g lo)(l:IsPart i hi)
  (n:¬ (sIx items.size 0 lo=0/\sIx items.size items.size hi=items.size))
  (h:Q (.ref s.heap.objs.size) {s with heap:=s.heap.push {cls:=.type "tuple",data:=.seq ((items.toList.drop (sIx items.size 0 lo)).take (sIx items.size items.size hi-sIx items.size 0 lo)).toArray}})
  (hsz:items.size<=sizeLine):wpAny (model prog w) A (getItem (.ref t) (.ref sl)) Q E s:=by
 have a:sizeOk (.seq ((items.toList.drop (sIx items.size 0 lo)).take (sIx items.size items.size hi-sIx items.size 0 lo)).toArray):=by
  show((items.toList.drop (sIx items.size 0 lo)).take (sIx items.size items.size hi-sIx items.size 0 lo)).toArray.size<=sizeLine;rw[a1b,a8d,a7f,a5f];lia
 have p:sIx items.size items.size hi<=items.size:=dF3 _ _ (a8a _) hi;obtain⟨os,c,d,o⟩:=id j;have e:s.TypeIs (.ref sl) "slice":=⟨os,c,d⟩;unfold getItem
 try with_reducible refine a4p ?_
 first | refine a3Z (a4l ?_) | skip
 refine a3Z (wpAny_sequenceKey b.typeIs (by decide) ?_);refine a3Z (wpAny_callSpecial?_slot (name:=Str.ofString "__getitem__") b.typeIs a0f
  (a4x a0f b.typeIs entry_tuple_getitem ?_ (args_tuple_getitem _ _)))
 show wpAny _ _ (Builtin.Tuple.tupleItemsOf (.ref t) >>= _) _ _ s;refine a3Z (tupleItemsOf_ b ?_);refine a3Z (a4H e ?_);rw[a4i (by decide)];refine a3Z (mY j k l ?_);have f:¬ ((((sIx items.size 0 lo:Nat):Int)==0&&(1:Int)==1&&(sIx items.size items.size hi-sIx items.size 0 lo)==items.size)=true):=by
  intro q;rw[a3f,a3f]at q;have r:((sIx items.size 0 lo:Nat):Int)=0:=eq_of_beq q.1.1;have u:sIx items.size items.size hi-sIx items.size 0 lo=items.size:=eq_of_beq q.2;exact n ⟨by lia,by lia⟩
 show wpAny _ _ (if(((sIx items.size 0 lo:Nat):Int)==0&&(1:Int)==1&&(sIx items.size items.size hi-sIx items.size 0 lo)==items.size)=true then _ else _) _ _ s;rw[a4j f,cA6]
 first
  | exact a3Z (m:=Builtin.Tuple.tupleExact _) (a4t (a4l ⟨_,rfl,a4l h⟩) a)
  | exact a3Z (m:=Builtin.Tuple.tupleExact _) (a4t (a3Z (a4l (a4l ⟨_,rfl,a4l h⟩))) a)
  | exact a3Z (a3Z (m:=Builtin.Tuple.tupleExact _) (a4t (a4l (a4l ⟨_,rfl,a4l h⟩)) a))
  | exact a3Z (a3Z (m:=Builtin.Tuple.tupleExact _) (a4t (a4l ⟨_,rfl,a4l h⟩) a))
end
end HT
namespace L2
open PySem PySem.Spec PyProof.Rows
abbrev TO:=St->Hp->(Option Int->Hp->Prop)->Prop
def PO(X:Cx)(e:Option Expr)(t:TO):Prop:=
 ∀ (pins:List (Addr×Obj)) (s:Shared) (σ:St) (H:Hp) (Q:Option Int->Hp->Prop),Inv X pins σ H s->t σ H Q ->
   wpAny (model X.prog X.w) X.A (evalPart e X.env) (λu s'=>∃ o H',Inv X pins σ H' s'/\IsPart u o/\Q o H') X.xe s
def cR2:TO:=λ_ H Q=>Q none H
def dR4(t:TE):TO:=λσ H Q=>t σ H λx a=>∃ i,x=.int i/\Q (some i) a
def bG1{ns:List Int}:∀ {us:List Value},cQ (ns.map V.int) us->IntsAre us ns:=by
 induction ns with
 | nil=>intro us r;rw[List.map_nil]at r;cases r;exact .nil
 | cons n ns a=>
   intro us r;rw[a8e]at r;cases r with
   | cons b c=>
     obtain⟨t,e⟩:=b;subst e;exact .cons n t (a c)
section
variable{X:Cx}{e:Expr}{te:TE}{lo hi:Option Expr}{tl th:TO}{pos p2:Pos}
def cR3:PO X none cR2:=by
 intro pins s σ H Q I h;rw[evalPart_none];exact a4l ⟨none,H,I,.none,h⟩
def cR4(h:PE X e te):PO X (some e) (dR4 te):=by
 intro pins s σ H Q I a;rw[evalPart_some];refine thn (h pins s σ H _ I a) λu s1 Z0=>?_;obtain⟨x,b,c,d,f⟩:=Z0;obtain⟨i,rfl,q⟩:=f;obtain⟨t,rfl⟩:=d;exact⟨some i,b,c,.int i t,q⟩
def SlR(X:Cx)(r:V->Option Int->Option Int->Hp->VK->Prop):Prop:=
 ∀ (pins:List (Addr×Obj)) (s:Shared) (σ:St) (H:Hp) (x:V) (v a b:Value) (lo hi:Option Int) (sl:Addr) (Q:VK),Inv X pins σ H s->fN x v->s.heap.IsSliceOf sl a b .none->IsPart a lo->IsPart b hi->r x lo hi H Q ->
   ∃ T id,typeLookup (.type T) "__getitem__"=pure (some (.builtin id))/\s.TypeIs v T/\wpAny (model X.prog X.w) X.A (getItem v (.ref sl)) (EP X pins σ Q) X.xe s
def tSl(r:V->Option Int->Option Int->Hp->VK->Prop)(te:TE)(tl th:TO):TE:=λσ H Q=>te σ H λx a=>tl σ a λl b=>th σ b λu c=>r x l u c Q
def cA7{r:V->Option Int->Option Int->Hp->VK->Prop}(g:SlR X r)(i:PE X e te)(j:PO X lo tl)(k:PO X hi th):PE X (.Subscript e (.Slice lo hi none p2) pos) (tSl r te tl th):=by
 intro pins s σ H Q I h;refine Subscript_ (thn (i pins s σ H _ I h) λv s1 Z0=>?_);obtain⟨x,m,n,o,p⟩:=Z0;refine wpAny_Slice (thn (j pins s1 σ m _ n p) λc s2 ⟨l,t,y,z,B⟩=>thn (k pins s2 σ t _ y B) λd a ⟨u,f,C,D,E⟩=>?_);rw[evalPart_none];refine a4l ?_;have F:Inv X pins σ f {a with heap:=a.heap.push {cls:=.type "slice",data:=.fields #[c,d,.none]}}:=C.kept (t':=a.toks) λb ob q=>a4a _ q;obtain⟨T,id,G,J,K⟩:=g pins {a with heap:=a.heap.push {cls:=.type "slice",data:=.fields #[c,d,.none]}} σ f x v c d l u a.heap.objs.size Q F o (Heap.IsSliceOf.new ..) z D E;show wpAny (model X.prog X.w) X.A (subscriptTail e (.Slice lo hi none p2) v (.ref a.heap.objs.size)) (EP X pins σ Q) X.xe {a with heap:=a.heap.push {cls:=.type "slice",data:=.fields #[c,d,.none]}};exact tail_any (ops:=[.ref a.heap.objs.size,v]) J G K (by with_unfolding_all rfl)
noncomputable def aT7(xs:List V)(lo hi:Option Int):List V:=(xs.drop (HT.sIx xs.length 0 lo)).take (HT.sIx xs.length xs.length hi-HT.sIx xs.length 0 lo)
def wX(xs:List V)(lo hi:Option Int):(aT7 xs lo hi).length<=xs.length:=by
 unfold aT7;rw[a8d,a7f];lia
def dY8(K:W.Frag):V->Option Int->Option Int->Hp->VK->Prop:=λx lo hi H Q=>∃ a xs,x=.ref a/\SqT K H a xs /\
 ¬ (HT.sIx xs.length 0 lo=0/\HT.sIx xs.length xs.length hi=xs.length)/\∀ p,H p=none->Q (.ref p) (upd H p (.tup (aT7 xs lo hi)))
def dF4:SlR X (dY8 X.K):=by
 intro pins s σ H x v n p lo hi sl Q I g i j k h;obtain⟨a,xs,rfl,l,m,q⟩:=h;cases g;obtain⟨d,r,e,f⟩:=I.tuple l;have c:d.toArray.size=xs.length:=by rw[a1b];exact r.length.symm
 refine⟨"tuple",_,a0f.lookup,e.typeIs,?_⟩;refine HT.getItem_tuple_cut e i j k (by rw[c];exact m) ?_ (by rw[c];exact f);rw[c];refine⟨.ref s.heap.objs.size,_,I.laid (t':=s.toks) (o:=.tup (aT7 xs lo hi)) (λb ob q=>a4a _ q) (a8a _) ?_,rfl,q _ (I.hok.fresh (a8a _))⟩;exact⟨a4c (wX xs lo hi) f,_,(r.drop (HT.sIx xs.length 0 lo)).take (HT.sIx xs.length xs.length hi-HT.sIx xs.length 0 lo),IsTup.new _ _,⟨_,a0c _ rfl,rfl⟩⟩
def dR5(K:W.Frag):R2:=λx y H Q=>∃ a b xs ys,x=.ref a/\y=.ref b/\SqT K H a xs/\SqT K H b ys/\xs≠[]/\xs.length+ys.length<=sizeLine /\
 (ys=[]->Q (.ref a) H)/\(ys≠[]->∀ p,H p=none->Q (.ref p) (upd H p (.tup (xs++ys))))
def cQ.nil_iff{xs:List V}{us:List Value}(r:cQ xs us):us=[]↔xs=[]:=by
 cases r with
 | nil=>simp
 | cons _ _=>simp
def cR5:OpR X (binaryOp .Add) (dR5 X.K):=by
 intro pins s σ H x y v u Q I g i h;obtain⟨a,b,xs,ys,rfl,rfl,ha,j,k,e,l,m⟩:=h;cases g;cases i;obtain⟨n,d,p,_⟩:=I.tuple ha;obtain⟨f,c,p2,_⟩:=I.tuple j;refine HT.cat_tup p p2 (λz=>k (d.nil_iff.mp z)) (λz=>⟨.ref a,H,I,rfl,l (c.nil_iff.mp z)⟩) (λz=>?_) (by rw[← d.length,← c.length];exact e);refine⟨.ref s.heap.objs.size,_,I.laid (t':=s.toks) (o:=.tup (xs++ys)) (λb ob q=>a4a _ q) (a8a _) ?_,rfl,m (λw=>z (c.nil_iff.mpr w)) _ (I.hok.fresh (a8a _))⟩;exact⟨by rw[a3b];exact e,_,d.append c,IsTup.new _ _,⟨_,a0c _ rfl,rfl⟩⟩
end
noncomputable def ixN(n:Nat)(i:Int):Option Nat:=if 0<=i then(if i < n then some i.toNat else none)else if -(n:Int)<=i then some (i+n).toNat else none
noncomputable def atI{α:Type}(xs:List α)(i:Int):Option α:=(ixN xs.length i).bind λj=>xs[j]?
def aT8{n:Nat}{i:Int}{j:Nat}(h:ixN n i=some j):seqIndex? i n=some j/\j < n /\ -(n:Int)<=i/\i < n:=by
 unfold ixN at h;by_cases h0:0<=i;rw[a4i h0]at h;by_cases a:i < n;rw[a4i a]at h;have e:i.toNat=j:=a7a h;exact⟨by rw[seqIndex_of h0 a,e],by lia,by lia,a⟩;rw[a4j a]at h;cases h;rw[a4j h0]at h;by_cases a:-(n:Int)<=i;rw[a4i a]at h;have e:(i+n).toNat=j:=a7a h;exact⟨by rw[seqIndex_neg (by lia) a,e],by lia,a,by lia⟩;rw[a4j a]at h;cases h
def aT9{α:Type}{xs:List α}{i:Int}{v:α}(h:atI xs i=some v):∃ j,seqIndex? i xs.length=some j/\xs[j]? = some v/\j < xs.length /\ -(xs.length:Int)<=i/\i < xs.length:=by
 unfold atI at h;cases e:ixN xs.length i with
 | none=>rw[e]at h;cases h
 | some j=>
   rw[e]at h;obtain⟨a,b,c,d⟩:=aT8 e;exact⟨j,a,h,b,c,d⟩
def bM6{α:Type}{xs:List α}{j:Nat}{v:α}(h:xs[j]? = some v):atI xs (j:Int)=some v:=by
 have a:j < xs.length:=(a2a.mp h).1;have e:ixN xs.length (j:Int)=some j:=by
  unfold ixN;rw[a4i (by lia),a4i (by lia)];simp
 unfold atI;rw[e];exact h
def bM7(b:Expr):Prop:=∀ o i,subscripted b false o i=operate [o,i] (getItem o i)
def IxR(X:Cx)(r:R2):Prop:=
 ∀ (b a:Expr) (pins:List (Addr×Obj)) (s:Shared) (σ:St) (H:Hp) (x y:V) (v u:Value) (Q:VK),Inv X pins σ H s->fN x v->fN y u->r x y H Q ->
   subscripted a false v u=operate [v,u] (getItem v u)->wpAny (model X.prog X.w) X.A (subscriptTail b a v u) (EP X pins σ Q) X.xe s
def MtR(X:Cx)(id:String)(r:V->List V->Hp->VK->Prop):Prop:=
 ∀ (pins:List (Addr×Obj)) (s:Shared) (σ:St) (H:Hp) (x:V) (xs:List V) (v:Value) (us:List Value) (Q:VK),Inv X pins σ H s->fN x v->cQ xs us->r x xs H Q ->
   wpAny (model X.prog X.w) X.A (call (.builtin id) (v::us)) (EP X pins σ Q) X.xe s
section
variable{X:Cx}{a b:Expr}{ta tb:TE}{pos:Pos}
def dF5{r:R2}(c:IxR X r)(ha:PE X a ta)(d:PE X b tb)(e:bM7 b):PE X (.Subscript a b pos) (tOp r ta tb):=by
 intro pins s σ H Q I h;exact Subscript_ (dQ6 ha d I h λv u s2 x y f g i j q=>c a b pins s2 σ f x y v u Q g i j q (e _ _))
def dY9(K:W.Frag):R2:=λx y H Q=>∃ p xs i v,x=.ref p/\y=.int i/\SqL K H p xs/\atI xs i=some v/\Q v H
def dZ0(K:W.Frag):R2:=λx y H Q=>∃ p xs i v,x=.ref p/\y=.int i/\SqT K H p xs/\atI xs i=some v/\Q v H
def dZ1:R2:=λx y H Q=>∃ z i c,x=.str z/\y=.int i/\z.length<=sizeLine/\atI z.cps.toList i=some c/\Q (.str ⟨#[c]⟩) H
def cR6:IxR X (dY9 X.K):=by
 intro b c pins s σ H x y v u Q I m n h k;obtain⟨p,xs,i,z,rfl,rfl,o,A,q⟩:=h;cases m;obtain⟨t,rfl⟩:=n;obtain⟨d,r,e,F⟩:=I.list o;obtain⟨j,a,B,G,C,D⟩:=aT9 A;obtain⟨w,l,f⟩:=r.get B;have E:=r.length;have hn:=wU;have fin:EP X pins σ Q w s:=⟨z,H,I,f,q⟩;by_cases h0:0<=i
 ·have g:i.toNat=j:=by
   rw[seqIndex_of h0 D]at a;exact a7a a
  exact item_listR e.isList h0 (by lia) (by rw[g];simpa using l) fin k
 ·have g:(i+(d.toArray.size:Int)).toNat=j:=by
   rw[seqIndex_neg (by lia) C]at a;rw[a1b,← E];exact a7a a
  exact subscriptTail_builtinR (x:=w) e.isList.typeIs slot_list_getitem.lookup
   (wpAny_getItem_list_neg (Q:=λr s'=>r=w/\EP X pins σ Q r s') e.isList (by lia) (by rw[a1b]<;>lia) (by lia) (by rw[g];simpa using l) ⟨rfl,fin⟩) k
def dF6:IxR X (dZ0 X.K):=by
 intro a b pins s σ H x y v u Q I e f h g;obtain⟨p,xs,i,z,rfl,rfl,k,l,q⟩:=h;cases e;obtain⟨t,rfl⟩:=f;obtain⟨m,r,d,C⟩:=I.tuple k;obtain⟨j,n,o,D,E,F⟩:=aT9 l;obtain⟨w,A,c⟩:=r.get o;have B:=r.length;have hn:=wU;have fin:EP X pins σ Q w s:=⟨z,H,I,c,q⟩;exact subscriptTail_builtinR (x:=w) d.typeIs slot_tuple_getitem.lookup
  (getItem_tuple (j:=j) (Q:=λr s'=>r=w/\EP X pins σ Q r s') d (by lia) (by lia) (by rw[a1b,← B];exact n) (by simpa using A) ⟨rfl,fin⟩) g
def dF7:IxR X dZ1:=by
 intro a b pins s σ H x y v u Q I e f h g;obtain⟨z,i,c,rfl,rfl,w,k,q⟩:=h;obtain⟨t,rfl⟩:=e;obtain⟨A,rfl⟩:=f;obtain⟨j,d,l,B,m,n⟩:=aT9 k;have o:z.cps.toList.length=z.length:=by simp[Str.length]
 rw[o]at d m n;have hn:=wU;exact tail_any (typeIs_str s z t) slot_str_getitem.lookup (getItem_str (c:=c) (by
  have p:decide (i < -(2 ^ 63:Int))=false:=a4k (by lia);have r:decide (i ≥ 2 ^ 63)=false:=a4k (by lia);rw[p,r,Bool.or_false]) (by rw[d];simpa using l) ⟨.str ⟨#[c]⟩,H,I.tok _,⟨_,rfl⟩,q⟩) g
def bG2(a:List Value)(n j:Nat)(u:Value):Obj.mapSeq (·.setIfInBounds j u) {cls:=.type "list",data:=.seq a.toArray n}={cls:=.type "list",data:=.seq (a.set j u).toArray n}:=by
 simp[Obj.mapSeq]
theorem Inv.lst{pins:List (Addr×Obj)}{σ:St}{H:Hp}{s:Shared}{p:Addr}{xs:List V}(I:Inv X pins σ H s)(h:H p=some (.lst xs)) :
  ∃ (a:List Value) (n:Nat),cQ xs a/\s.heap.get? p=some {cls:=.type "list",data:=.seq a.toArray n}/\xs.length<=sizeLine:=by
 obtain⟨z,a,n,r,e⟩:=I.hok p _ h;exact⟨a,n,r,e,z⟩
def Inv.lstUpd{pins:List (Addr×Obj)}{σ:St}{H:Hp}{s:Shared}{p:Addr}{xs ys:List V}{a its':List Value}{n c:Nat}{f:Obj->Obj}(I:Inv X pins σ H s)(h:H p=some (.lst xs))
  (g:s.heap.get? p=some {cls:=.type "list",data:=.seq a.toArray n}) (d:f {cls:=.type "list",data:=.seq a.toArray n}={cls:=.type "list",data:=.seq its'.toArray c}) (r:cQ ys its') (i:ys.length<=sizeLine) (t:Nat) :
  Inv X pins σ (upd H p (.lst ys)) {s with heap:=s.heap.update p f,toks:=t}:=by
 have e:(s.heap.update p f).get? p=some {cls:=.type "list",data:=.seq its'.toArray c}:=by
  rw[Heap.get?_update_self f g (by rw[d]<;>rfl),d]
 refine I.write (x:=p) (e:=p) (by rw[h];trivial) (.inl rfl) (λb u j q=>(a2g _ _ (a0e j)).trans q) ⟨_,e⟩ ?_;exact⟨i,its',c,r,e⟩
def dF8:V->V->V->Hp->(Hp->Prop)->Prop:=λo i v H Q=>∃ p xs k j,o=.ref p/\i=.int k/\H p=some (.lst xs)/\ixN xs.length k=some j/\Q (upd H p (.lst (xs.set j v)))
def aZ3:dV9 X dF8:=by
 intro pins s σ H o i v ov A u Q I w ri x h;obtain⟨p,xs,k,j,rfl,rfl,f,y,q⟩:=h;cases w;obtain⟨t,rfl⟩:=ri;obtain⟨a,n,r,c,z⟩:=I.lst f;obtain⟨b,B,g,l⟩:=aT8 y;have d:=r.length;have hn:=wU;have m:Inv X pins σ (upd H p (.lst (xs.set j v))) {s with heap:=s.heap.update p (Obj.mapSeq (·.setIfInBounds j u))}:=
  I.lstUpd f c (bG2 a n j u) (r.set x j) (by rw[a5g];exact z) s.toks
 by_cases h0:0<=k
 ·have e:k.toNat=j:=by
   rw[seqIndex_of h0 l]at b;exact a7a b
  exact W.ki_setAt c h0 (by lia) (by rw[a1b,← d];exact l) (by rw[e];exact⟨_,m,q⟩)
 ·have e:(k+(a.toArray.size:Int)).toNat=j:=by
   rw[seqIndex_neg (by lia) g]at b;rw[a1b,← d];exact a7a b
  exact W.ki_setBack c (by lia) (by rw[a1b,← d];exact g) (by lia) (by rw[e];exact⟨_,m,q⟩)
def aL9(lo hi:Option Int)(n:Nat):(sliceBounds lo hi none n).1=((HT.sIx n 0 lo:Nat):Int)/\(sliceBounds lo hi none n).2.1=((HT.sIx n n hi:Nat):Int)/\(sliceBounds lo hi none n).2.2=1:=by
 refine⟨?_,?_,rfl⟩
 ·cases lo with
  | none=>simp[sliceBounds,HT.sIx]
  | some i=>
    simp only[sliceBounds,HT.sIx,Option.getD_none,show(1:Int) > 0 by decide,if_true];by_cases h:i < 0;simp only[h,if_true]<;>lia;simp only[h,if_false]<;>lia
 ·cases hi with
  | none=>simp[sliceBounds,HT.sIx]
  | some i=>
    simp only[sliceBounds,HT.sIx,Option.getD_none,show(1:Int) > 0 by decide,if_true];by_cases h:i < 0;simp only[h,if_true]<;>lia;simp only[h,if_false]<;>lia
def aF1(a:List Value)(lo hi:Option Int):slicePick a.toArray lo hi none=((a.drop (HT.sIx a.length 0 lo)).take (HT.sIx a.length a.length hi-HT.sIx a.length 0 lo)).toArray:=by
 obtain⟨b,c,d⟩:=aL9 lo hi a.toArray.size;unfold slicePick;rw[b,c,d];simp only[sliceRange_one,pick_run,List.size_toArray]<;>rfl
def dZ2(K:W.Frag):V->Option Int->Option Int->Hp->VK->Prop:=λx lo hi H Q=>∃ a xs,x=.ref a/\SqL K H a xs/\∀ p,H p=none->Q (.ref p) (upd H p (.lst (aT7 xs lo hi)))
def cR7:SlR X (dZ2 X.K):=by
 intro pins s σ H x v m n lo hi sl Q I e f g i h;obtain⟨a,xs,rfl,j,q⟩:=h;cases e;obtain⟨k,r,d,l⟩:=I.list j;have c:=r.length;refine⟨"list",_,slot_list_getitem.lookup,d.isList.typeIs,?_⟩;refine wpAny_getItem_list_slice d.isList f g i .none (by simp) ?_ (by rw[List.size_toArray]<;>lia);rw[aF1,← c];refine⟨.ref s.heap.objs.size,_,I.laid (t':=s.toks) (o:=.lst (aT7 xs lo hi)) (λb ob q=>a4a _ q) (a8a _) ?_,rfl,q _ (I.hok.fresh (a8a _))⟩;exact⟨a4c (wX xs lo hi) l,_,0,(r.drop (HT.sIx xs.length 0 lo)).take (HT.sIx xs.length xs.length hi-HT.sIx xs.length 0 lo),a0c _ rfl⟩
def vG:jL X (.builtin "len") (λxs H Q=>∃ p ys,xs=[.ref p]/\(SqL X.K H p ys\/SqT X.K H p ys)/\Q (.int ys.length) H):=by
 intro pins s σ H xs us Q I r h;obtain⟨p,ys,rfl,b,q⟩:=h;obtain⟨u,rfl,f⟩:=wV r;cases f;have hn:=wU;rcases b with b | b;obtain⟨c,d,e,g⟩:=I.list b;have a:=d.length;exact Calls.call_len_list e.isList (by simp only[List.size_toArray]<;>lia) ⟨.int ys.length,H,I.tok _,⟨s.toks+1,by rw[a1b,a]⟩,q⟩;obtain⟨c,d,e,g⟩:=I.tuple b;have a:=d.length;exact len_tuple e (by simp only[List.size_toArray]<;>lia) ⟨.int ys.length,H,I.tok _,⟨s.toks+1,by rw[a1b,a]⟩,q⟩
def aM0:jL X (.builtin "len") (λxs H Q=>∃ z,xs=[.str z]/\z.length<=sizeLine/\Q (.int z.length) H):=by
 intro pins s σ H xs us Q I r h;obtain⟨z,rfl,a,q⟩:=h;obtain⟨u,rfl,t,rfl⟩:=wV r;have hn:=wU;exact len_str (by lia) ⟨.int z.length,H,I.tok _,⟨_,rfl⟩,q⟩
def vH:jL X (.type "list") (λxs H Q=>∃ p ys,xs=[.ref p]/\(SqL X.K H p ys\/SqT X.K H p ys)/\∀ l,H l=none->Q (.ref l) (upd H l (.lst ys))):=by
 intro pins s σ H xs us Q I r h;obtain⟨p,ys,rfl,f,q⟩:=h;obtain⟨u,rfl,t⟩:=wV r;cases t;have fin:∀ (a:List Value),cQ ys a->ys.length<=sizeLine->∀ (h':Heap) (c:Nat),(∀ b o',s.heap.get? b=some o'->h'.get? b=some o') ->
   h'.get? s.heap.objs.size=some {cls:=.type "list",dict:=none,data:=.seq a.toArray c,slots:=#[]}->EP X pins σ Q (.ref s.heap.objs.size) {s with heap:=h'}:=λa d g h' c kp e=>
  ⟨.ref s.heap.objs.size,_,I.laid (t':=s.toks) kp (a8a _) (show eR X.prog X.w _ h' _ (.lst ys)from⟨g,a,c,d,e⟩),rfl,q _ (I.hok.fresh (a8a _))⟩
 rcases f with f | f;obtain⟨a,d,j,g⟩:=I.list f;have i:=d.length;obtain⟨o,k,m,n,hd⟩:=j.isList;exact call_list_seq p (.inl rfl) k m hd (λh' c kp e=>fin a d g h' c kp e) (by simp only[List.size_toArray]<;>lia);obtain⟨a,d,j,g⟩:=I.tuple f;have i:=d.length;obtain⟨o,k,m,n,hd⟩:=j;exact call_list_seq p (.inr rfl) k m hd (λh' c kp e=>fin a d g h' c kp e) (by simp only[List.size_toArray]<;>lia)
def pM:jL X (.type "tuple") (λxs H Q=>∃ p ys,xs=[.ref p]/\((SqL X.K H p ys/\∀ l,H l=none->Q (.ref l) (upd H l (.tup ys)))\/(SqT X.K H p ys/\Q (.ref p) H))):=by
 intro pins s σ H xs us Q I r h;obtain⟨p,ys,rfl,h⟩:=h;obtain⟨u,rfl,k⟩:=wV r;cases k;rcases h with⟨c,q⟩ | ⟨c,q⟩
 ·obtain⟨a,d,f,g⟩:=I.list c;have i:=d.length;refine call_tuple_list f.isList (λh' kp=>?_) (by simp only[List.size_toArray]<;>lia);have j:Inv X pins σ H {s with heap:=h'}:=I.kept (t':=s.toks) kp;have m:Inv X pins σ (upd H h'.objs.size (.tup ys)) {s with heap:=h'.push {cls:=.type "tuple",data:=.seq a.toArray}}:=
   j.laid (t':=s.toks) (λb o e=>a4a _ e) (a8a _) (show eR X.prog X.w _ _ _ (.tup ys)from⟨g,a,d,IsTup.new _ _,⟨_,a0c _ rfl,rfl⟩⟩)
  exact⟨.ref h'.objs.size,_,m,rfl,q _ (j.hok.fresh (a8a _))⟩
 ·obtain⟨a,d,f,g⟩:=I.tuple c;exact call_tuple_same f ⟨.ref p,H,I,rfl,q⟩
def tyV(K:W.Frag)(T:String)(x:V)(H:Hp):Prop:=match x with
 | .str _=>T="str"
 | .int _=>T="int"
 | .ref p=>(T="list"/\∃ xs,SqL K H p xs)\/(T="tuple"/\∃ o,K.lookup p=some o/\o.cls=.type "tuple"/\o.dict=none) \/
   (T="dict"/\((∃ kvs,H p=some (.dK kvs))\/∃ kvs,H p=some (.dT kvs)))\/(T="set"/\∃ S n,H p=some (.set S n))
 | _=>False
def cK7{pins:List (Addr×Obj)}{σ:St}{H:Hp}{s:Shared}{T:String}{x:V}{v:Value}(I:Inv X pins σ H s)(r:fN x v)(ty:tyV X.K T x H) :
  s.TypeIs v T/\∀ a,v=.ref a->∃ ob,s.heap.get? a=some ob/\ob.dict=none:=by
 cases x with
 | str z=>
   obtain⟨t,rfl⟩:=r;cases (show T="str" from ty);exact⟨typeIs_str s z t,λ_ e=>nomatch e⟩
 | int i=>
   obtain⟨t,rfl⟩:=r;cases (show T="int" from ty);exact⟨typeIs_int s i t,λ_ e=>nomatch e⟩
 | ref p=>
   cases r;rcases ty with⟨rfl,xs,g⟩ | ⟨rfl,o,b,h,hd⟩ | ⟨rfl,b⟩ | ⟨rfl,S,n,b⟩;obtain⟨j,_,f,_⟩:=I.list g;refine⟨f.isList.typeIs,λa e=>?_⟩;cases e;obtain⟨o,n,e,c,hd,_⟩:=f;exact⟨o,e,hd⟩;refine⟨⟨o,I.kIn p o b,h⟩,λa e=>?_⟩;cases e;exact⟨o,I.kIn _ o b,hd⟩
   ·have z:∃ o,s.heap.get? p=some o/\o.ExactDict:=by
     rcases b with⟨kvs,b⟩ | ⟨kvs,b⟩;obtain⟨_,_,_,_,o,_,_,e,ex,_⟩:=I.hok p _ b;exact⟨o,e,ex⟩;obtain⟨_,_,_,_,o,_,_,e,ex,_⟩:=I.hok p _ b;exact⟨o,e,ex⟩
    obtain⟨o,e,ex⟩:=z;refine⟨⟨o,e,ex.1⟩,λa d=>?_⟩;cases d;exact⟨o,e,ex.2.1⟩
   ·obtain⟨o,_,_,_,e,ex,_⟩:=I.hok p _ b;refine⟨⟨o,e,ex.1⟩,λa d=>?_⟩;cases d;exact⟨o,e,ex.2.1⟩
 | _=>exact False.elim ty
def dR6(K:W.Frag)(T:String)(r:V->List V->Hp->VK->Prop)(to:TE):TE:=λσ H Q=>to σ H λx a=>tyV K T x a/\r x [] a Q
def tBM(K:W.Frag)(T:String)(r:V->List V->Hp->VK->Prop)(to:TE)(t:TA):TE:=λσ H Q=>to σ H λx a=>tyV K T x a/\t σ a λxs b=>r x xs b Q
variable{o e:Expr}{es:List Expr}{to:TE}{t:TA}{name:Str}{apos cpos:Pos}{T id:String}{r:V->List V->Hp->VK->Prop}
def dF9(f:PlainAttrs T)(slot:Slot T name id)(c:typeOf (.builtin id)=pure (.type "method_descriptor"))(hm:MtR X id r)(g:PE X o to)
  (a:attributeBase o name X.env (eval o X.env)=eval o X.env:=by rfl) (b:(apos.endLine==cpos.line)=true:=by rfl):PE X (.Call (.Attribute o name apos) [] [] cpos) (dR6 X.K T r to):=by
 intro pins s σ H Q I h;refine wpAny_Call_method0_late a b (thn (g pins s σ H _ I h) λv s1 Z0=>?_);obtain⟨x,i,d,e,ty,j⟩:=Z0;obtain⟨k,l⟩:=cK7 d e ty;exact⟨T,id,f,slot,c,k,l,Calls.callWith_builtin rfl (PySem.evalArgs_none (hm pins s1 σ i x [] v [] Q d e .nil j))⟩
def dR7(k:PlainAttrs T)(slot:Slot T name id)(f:typeOf (.builtin id)=pure (.type "method_descriptor"))(hm:MtR X id r)(l:PE X o to)(ha:PA X (e::es) t)
  (b:attributeBase o name X.env (eval o X.env)=eval o X.env:=by rfl)
  (d:((backTo cpos (starEach (e::es) X.env)).all (λx=>!x.1)&&(backToKw cpos (keywordEach [] X.env)).all (λx=>x.1.isSome)
   && decide ((e::es).length+([]:List Keyword).length+(if([]:List Keyword).isEmpty then 0 else 1) < 30))=true:=by rfl)
  (c:(apos.endLine==cpos.line)=true:=by rfl) (m:starEach (e::es) X.env=(false,eval e X.env)::starEach es X.env:=by rfl) (a:(backTo cpos (starEach es X.env)).any (·.1)=false:=by rfl) :
  PE X (.Call (.Attribute o name apos) (e::es) [] cpos) (tBM X.K T r to t):=by
 intro pins s σ H Q I h;refine wpAny_Call_method_late b d c rfl (thn (l pins s σ H _ I h) λv s1 Z0=>?_);obtain⟨x,n,g,i,ty,p⟩:=Z0;obtain⟨q,u⟩:=cK7 g i ty;refine⟨T,id,k,slot,f,q,u,?_⟩;have j:=ha cpos pins s1 σ n _ g p;rw[m]at j ⊢;refine Calls.callWith_builtin (by show(false||(backTo cpos (starEach es X.env)).any (·.1))=false;rw[a]<;>rfl) (Calls.evalArgs_plain ?_);exact thn j λus s2 ⟨vs,w,y,z,A⟩=>hm pins s2 σ w x vs v us Q y i z A
end
def MtM(X:Cx)(id:String)(r:V->List V->Hp->VK->Prop):Prop:=
 ∀ (pins:List (Addr×Obj)) (s:Shared) (σ:St) (H:Hp) (x:V) (xs:List V) (v:Value) (us:List Value) (Q:VK),Inv X pins σ H s->fN x v->cQ xs us->r x xs H Q ->
   wpAny (model X.prog X.w) X.A (call (.builtin id) (v::us)) (EP X pins σ Q) X.xe s
def cQ.one:∀ {x:V} {us:List Value},cQ [x] us->∃ u,us=[u]/\fN x u
 | _,_,.cons r .nil=>⟨_,rfl,r⟩
def cQ.zero:∀ {us:List Value},cQ [] us->us=[]
 | _,.nil=>rfl
theorem cQ.dropLast{xs:List V}{us:List Value}(h:cQ xs us):cQ xs.dropLast us.dropLast:=by
 induction h with
 | nil=>exact .nil
 | cons r t a=>
   cases t with
   | nil=>exact .nil
   | cons q b=>exact .cons r a
theorem cQ.eraseIdx:∀ {xs:List V} {us:List Value} (i:Nat),cQ xs us->cQ (xs.eraseIdx i) (us.eraseIdx i)
 | _,_,_,.nil=>.nil
 | _,_,0,.cons _ t=>t
 | _,_,i+1,.cons r t=>.cons r (cQ.eraseIdx i t)
def bG3{α:Type}(l:List α):l.eraseIdx (l.length-1)=l.dropLast:=by
 induction l with
 | nil=>rfl
 | cons a r c=>
   cases r with
   | nil=>rfl
   | cons b r=>
     have e:(a::b::r).length-1=((b::r).length-1)+1:=by
      have d:(a::b::r).length=r.length+2:=rfl;have f:(b::r).length=r.length+1:=rfl;lia
     rw[e,List.eraseIdx_cons_succ,c]
     all_goals rfl
theorem aM1{α:Type}:∀ (l:List α) (i:Nat),(l.eraseIdx i).length<=l.length
 | [],_=>a8a _
 | _::_,0=>Nat.le_succ _
 | _::r,i+1=>Nat.succ_le_succ (aM1 r i)
section
variable{X:Cx}{pins:List (Addr×Obj)}{σ:St}{H:Hp}{s:Shared}{l b:Addr}{xs ys zs:List V}
def Inv.lset{a its':List Value}{n:Nat}{f:Array Value->Array Value}{t':Nat}(I:Inv X pins σ H s)(b:H l=some (.lst xs))
  (e:s.heap.get? l=some {cls:=.type "list",data:=.seq a.toArray n}) (c:f a.toArray=its'.toArray) (d:cQ ys its') (g:ys.length<=sizeLine) :
  Inv X pins σ (upd H l (.lst ys)) {s with heap:=s.heap.update l (Obj.mapSeq f),toks:=t'}:=by
 have q:=PySem.IsL.update e f;rw[c]at q;refine I.write (x:=l) (e:=l) (by rw[b];exact trivial) (.inl rfl) (λj u h i=>(a2g s.heap (Obj.mapSeq f) (a0e h)).trans i) ⟨_,q⟩ ?_;exact⟨g,its',_,d,q⟩
def Inv.lnew{a:List Value}{t':Nat}(I:Inv X pins σ H s)(b:cQ ys a)(c:ys.length<=sizeLine) :
  Inv X pins σ (upd H s.heap.objs.size (.lst ys)) {s with heap:=s.heap.push {cls:=.type "list",data:=.seq a.toArray},toks:=t'}:=
 I.laid (λ_ _ q=>a4a _ q) (a8a _) ⟨c,a,0,b,a0c _ rfl⟩
theorem Inv.fresh(I:Inv X pins σ H s):H s.heap.objs.size=none:=I.hok.fresh (a8a _)
def Inv.lstM(I:Inv X pins σ H s)(b:H l=some (.lst xs)):xs.length<=sizeLine/\∃ (a:List Value) (n:Nat),cQ xs a/\xs.length=a.length/\s.heap.get? l=some {cls:=.type "list",data:=.seq a.toArray n}:=by
 obtain⟨z,a,n,r,e⟩:=I.hok l _ b;exact⟨z,a,n,r,r.length,e⟩
def aZ4{n:Nat}(h:n<=sizeLine):Builtin.List.listTooLong n=false:=by
 unfold Builtin.List.listTooLong;exact a4k (by lia)
end
section
variable{X:Cx}
def bM8:V->List V->Hp->VK->Prop:=λx vs H Q=>∃ l xs y,x=.ref l/\vs=[y]/\H l=some (.lst xs)/\xs.length < sizeLine/\Q .non (upd H l (.lst (xs++[y])))
def eU:MtM X "list.append" bM8:=by
 intro pins s σ H x vs v us Q I c d h;obtain⟨l,xs,y,rfl,rfl,b,g,q⟩:=h;cases c;obtain⟨u,rfl,f⟩:=d.one;obtain⟨z,a,n,r,i,e⟩:=I.lstM b;refine a4A F.slot_list_append ⟨_,e,rfl⟩ F.entry_list_append (F.args_list_append_2 _ _) (PySem.list_append l a.toArray n u (by rw[a1b];lia)) ⟨e,?_⟩;refine⟨.non,_,I.lset (its':=a++[u]) b e (by simp) (r.append (.cons f .nil)) ?_,rfl,q⟩;rw[a3b,List.length_singleton];lia
def cR8:V->List V->Hp->VK->Prop:=λx vs H Q=>∃ l b xs zs,x=.ref l/\vs=[.ref b]/\H l=some (.lst xs)/\H b=some (.lst zs)/\xs.length+zs.length<=sizeLine/\Q .non (upd H l (.lst (xs++zs)))
def dG0:MtM X "list.extend" cR8:=by
 intro pins s σ H x vs v us Q I i j h;obtain⟨l,b,xs,w,rfl,rfl,g,k,y,q⟩:=h;cases i;obtain⟨u,rfl,m⟩:=j.one;cases m;obtain⟨z,c,n,r,A,e⟩:=I.lstM g;obtain⟨B,a,n2,o,p,t⟩:=I.lstM k;have f:c.toArray.size+a.toArray.size<=sizeLine:=by rw[a1b,a1b];lia
 have d:¬ (!c.toArray.isEmpty&&Builtin.List.listTooLong (c.toArray.size+a.toArray.size))=true:=by
  rw[aZ4 f,a9h];exact a9b
 refine a4A F.slot_list_extend ⟨_,e,rfl⟩ F.entry_list_extend (F.args_list_extend_2 _ _)
  (AutoSeq1.list_extend_list_list_0 l c.toArray n b a.toArray n2 d (by rw[a1b];lia) (by lia)) ⟨e,t,?_⟩
 refine⟨.non,_,I.lset (its':=c++a) g e (by simp) (r.append o) ?_,rfl,q⟩;rw[a3b];lia
def dZ3:V->List V->Hp->VK->Prop:=λx vs H Q=>∃ l xs y,x=.ref l/\vs=[]/\H l=some (.lst xs)/\xs[xs.length-1]? = some y/\Q y (upd H l (.lst xs.dropLast))
def dG1:MtM X "list.pop" dZ3:=by
 intro pins s σ H x vs v us Q I f g h;obtain⟨l,xs,y,rfl,rfl,d,i,q⟩:=h;cases f;have b:=g.zero;subst b;obtain⟨z,a,n,r,j,e⟩:=I.lstM d;obtain⟨u,k,m⟩:=r.get i;have c:a.toArray[a.toArray.size-1]? = some u:=by
  show a.toArray[a.length-1]? = some u;rw[← a9f,← j];exact k
 refine a4A F.slot_list_pop ⟨_,e,rfl⟩ F.entry_list_pop (F.args_list_pop_1 _) (MeetsSeq.list_pop_last l a.toArray n u c (by rw[a1b];lia)) ⟨e,?_⟩;refine⟨y,_,I.lset (its':=a.dropLast) d e ?_ r.dropLast ?_,m,q⟩;show a.toArray.eraseIdxIfInBounds (a.toArray.size-1)=a.dropLast.toArray;rw[a1b,List.eraseIdxIfInBounds_toArray,bG3];rw[List.length_dropLast];lia
def cK8:V->List V->Hp->VK->Prop:=λx vs H Q=>∃ l xs i k y,x=.ref l/\vs=[.int i]/\H l=some (.lst xs) /\ -(2 ^ 63)<=i/\i < 2 ^ 63/\seqIndex? i xs.length=some k/\xs[k]? = some y/\Q y (upd H l (.lst (xs.eraseIdx k)))
def cA8:MtM X "list.pop" cK8:=by
 intro pins s σ H x vs v us Q I d f h;obtain⟨l,xs,i,k,y,rfl,rfl,c,g,j,m,o,q⟩:=h;cases d;obtain⟨u,rfl,p⟩:=f.one;obtain⟨t,rfl⟩:=p;obtain⟨z,a,n,r,A,e⟩:=I.lstM c;obtain⟨w,B,b⟩:=r.get o;refine a4A F.slot_list_pop ⟨_,e,rfl⟩ F.entry_list_pop (F.args_list_pop_2 _ _)
  (MeetsSeq.list_pop_at l a.toArray n i t k w (fitsIndex_both g j) (by rw[a1b,← A];exact m) (by rw[← a9f];exact B) (by rw[a1b];lia)) ⟨e,?_⟩
 refine⟨y,_,I.lset (its':=a.eraseIdx k) c e ?_ (r.eraseIdx k) ?_,b,q⟩;show a.toArray.eraseIdxIfInBounds k=(a.eraseIdx k).toArray;rw[List.eraseIdxIfInBounds_toArray];have:=aM1 xs k;lia
def dG2:V->List V->Hp->VK->Prop:=λx vs H Q=>∃ l xs,x=.ref l/\vs=[]/\H l=some (.lst xs)/\Q .non (upd H l (.lst []))
def cA9:MtM X "list.clear" dG2:=by
 intro pins s σ H x vs v us Q I d f h;obtain⟨l,xs,rfl,rfl,c,q⟩:=h;cases d;have a:=f.zero;subst a;obtain⟨z,b,n,r,g,e⟩:=I.lstM c;refine a4A F.slot_list_clear ⟨_,e,rfl⟩ F.entry_list_clear (F.args_list_clear_1 _) (AutoSeq1.list_clear_list_0 l b.toArray n (by rw[a1b];lia)) ⟨e,?_⟩;exact⟨.non,_,I.lset (its':=[]) (ys:=[]) c e rfl .nil (a5c _),rfl,q⟩
def dZ4:R2:=λx y H Q=>∃ l b xs zs,x=.ref l/\y=.ref b/\H l=some (.lst xs)/\H b=some (.lst zs)/\xs.length+zs.length<=sizeLine/\∀ p,H p=none->Q (.ref p) (upd H p (.lst (xs++zs)))
def dG3:OpR X (binaryOp .Add) dZ4:=by
 intro pins s σ H x y v u Q I d f h;obtain⟨l,b,xs,p,rfl,rfl,g,i,t,q⟩:=h;cases d;cases f;obtain⟨z,c,n,r,w,e⟩:=I.lstM g;obtain⟨A,a,n2,j,k,m⟩:=I.lstM i;refine PySem.P.add_list e m ?_ (by rw[a1b,a1b];lia);have o:c.toArray++a.toArray=(c++a).toArray:=by simp
 rw[o];exact⟨.ref _,_,I.lnew (t':=s.toks) (r.append j) (by rw[a3b];lia),rfl,q _ I.fresh⟩
end
section
variable{prog:Program}{w:World}{A:Around}{E:Value->Shared->Prop}{s:Shared}
set_option maxRecDepth 100000 in
end
section
variable{X:Cx}
end
end L2
namespace Att
open PySem PySem.W PySem.Calls PyProof.Rows
def wY{P:Params}{h:Heap}:∀ (ns:List Int) (vs:List Value),WellAll P h vs (ns.map WData.int)->IntsAre vs ns:=by
 intro ns
 induction ns with
 | nil=>
   intro vs w;rw[List.map_nil]at w;cases w;exact .nil
 | cons n ns c=>
   intro vs w;rw[a8e]at w;cases w with
   | cons a b=>
     cases a;exact .cons _ _ (c _ b)
def bM9{l:OpenLaw}{n:Nat}(hn:l.most=some n){P:Params}{h:Heap}{args:List WData}{vals:List Value}
  (b:l.row.toRowW.claim.pre args=true) (i:WellAll P h vals args) :
  ∃ a vs ns,vals=[Value.ref a]/\args=[WData.list (ns.map WData.int)]/\h.get? a=some {cls:=.type "list",data:=.seq vs.toArray}/\IntsAre vs ns/\ns.length<=n:=by
 have j:WShape.hasAll [] args [.list .int]=true:=(pre_splitW b).1;have k:l.pre.holds [] {args:=args}=true:=(pre_splitW b).2;obtain⟨d,r,rfl,m,o⟩:=hasAllW_cons j;obtain rfl:=hasAllW_nil o;obtain⟨xs,rfl,p⟩:=hasW_list m;obtain⟨ns,rfl⟩:=items_int p;have c:ns.length<=n:=by
  unfold OpenLaw.pre at k;have f:(WTm.not (.lt (.lit (.int (n:Int))) (.len (.arg 0)))).holds [] {args:=[.list (ns.map .int)]}=true:=by
   have f:=(holds_andW k).1;rw[hn]at f;exact f
  have g:=condW_of f (w_not (w_lt w_lit (w_len_list (w_arg rfl))));rw[a1a]at g;refine Nat.le_of_not_lt λq=>?_;have s:(n:Int) < ((ns.length:Nat):Int):=by lia
  first
   | (rw[a4n s]at g;exact absurd g (by decide))
   | (simp at g;lia)
 cases i with
 | cons t u=>
   cases u;cases t with
   | list v e=>exact⟨_,_,ns,rfl,rfl,v,wY ns _ e,c⟩
def bN0(l:OpenLaw)(args:List WData):l.row.toRowW.claim.post args (.bool true) args=true:=
 postW_of (r:=l.row.toRowW) (X:=(true==true))
  (show WShape.has [] (.bool true) .bool=true by first | rfl | decide | simp[WShape.has,WShape.arms,WShape.armsAll])
  (show(WTm.eq .res (.lit (.bool true))).value [] {args:=args,res:=some (.bool true),after:=args}=some (.bool (true==true))from w_eq_bool (w_res rfl) w_lit) rfl
def attach_call{l:OpenLaw}{n:Nat}{q:Program}{c:List Str}{t:(Str->Option Value)->Heap->Prop}{u:World->Heap->Prop}{d:DefRec}
  (hn:l.most=some n) (k:d.params.defaults=[])
  (call:∀ (w:World) (s₀ b:Shared) (mg mb:Str->Option Value) (g:Addr) (o:Obj) (pm cd doc:Value) (a:Addr) (vs:List Value) (ns:List Int),
   Ground q c [] t w s₀ mg mb b.heap->u w b.heap ->
   b.heap.get? g=some o->o.data=.func (docDef d.name d.params d.body d.scope pm cd doc)->b.heap.CodeRec cd d.name->mg d.name=some (.ref g) ->
   b.heap.get? a=some {cls:=.type "list",data:=.seq vs.toArray}->IntsAre vs ns->ns.length<=n->b.gens=#[] ->
   codeAny (model l.prog w) callerA (.call (.ref g) ⟨[.ref a],[]⟩) (λr s'=>r=.ok (.ret (.bool true))/\OldK b.heap s'.heap/\s'.os=b.os/\AllBare s'.gens) b) :
  WalkO q c t u l.row.toRowW d [] (λf vs=>PySem.call f vs):=by
 intro w s₀ b mg mb G Y g o pm cd doc y kV z hd m v p A args vals as h x B s C;obtain rfl:y=.none:=Dflts.none v k;obtain rfl:kV=.none:=Dflts.noKw v;obtain⟨a,vs,ns,rfl,rfl,i,e,j⟩:=bM9 hn h s;refine enter_call (a4G (call w s₀ b mg mb g o pm cd doc a vs ns G Y z (fd_plain hd) m p i e j A) λr s' D=>?_);obtain⟨rfl,E,F,H⟩:=D;exact⟨.inl ⟨.bool true,.bool true,[],rfl,λ_=>rfl,.bool true,bN0 l _,λ_=>⟨List.Pairwise.nil,λ_ hm=>(nomatch hm)⟩⟩,E,F,H⟩
section
variable{prog:Program}{w:World}{A:Around}{E:Value->Shared->Prop}{s:Shared}{K:Frag}
end
end Att
namespace L2
open PySem PySem.Spec PyProof.Rows
theorem aM2:∀ {vs:List Value} {ns:List Int},IntsAre vs ns->cQ (ns.map V.int) vs
 | _,_,.nil=>.nil
 | _,_,.cons n t h=>.cons ⟨t,rfl⟩ (aM2 h)
def dG4(H:Hp):Prop:=∀ b,H b=none\/∃ o xs,H b=some (.frz o (.lst xs))
def cB0{P:Program}{w:World}{K:W.Frag}{mg mb:Str->Option Value}{CX:CXT}{k:Nat}{J a:Addr}{fd:FuncData}{x:Str}{sp:Sp}{c:Shared}{vs:List Value}{ns:List Int}
  (T:K.In c.heap) (y:c.heap.Ns mainGlobals mg) (g:c.heap.Ns builtinsNs mb) (L:∀ x:Str,x≠"__name__"->mb x=bootBuiltins x) (A:c.heap.NoLimit) (hg:c.gens=#[])
  (ha:c.heap.get? a=some {cls:=.type "list",data:=.seq vs.toArray}) (hi:IntsAre vs ns) (U:ns.length<=sizeLine) (hr:Room k callerA)
  (F:∀ base:Heap,K.In base->base.Ns mainGlobals mg->FnOk P w K mg base CX k J fd [x] sp) (p:∀ (s:Shared) (u:Value),BindsTo s fd ⟨[u],[]⟩ [(x,u)])
  (M:∀ H:Hp,dG4 H->SqL K H a (ns.map V.int)->sp [.ref a] H (λv _=>v=.bl true) λ_ _ _=>False)
  (N:∀ H e s',CX [] H c (λ_ _ _=>False) e s'->False) :
  codeAny (model P w) callerA (.call (.ref J) ⟨[.ref a],[]⟩) (λr s'=>r=.ok (.ret (.bool true))/\OldK c.heap s'.heap/\s'.os=c.os/\AllBare s'.gens) c:=by
 have X:=aM2 hi;have B:=hi.length
 -- from an abstract heap in O nothing but C i may be tracked
 have l:∀ H:Hp,dG4 H->SqL K H a (ns.map V.int)->HOk P w H c.heap->(∀ b,H b≠none->b=a)->(H a≠none->K.lookup a=none) ->
   codeAny (model P w) callerA (.call (.ref J) ⟨[.ref a],[]⟩) (λr s'=>r=.ok (.ret (.bool true))/\OldK c.heap s'.heap/\s'.os=c.os/\AllBare s'.gens) c:=by
  intro H Y hS hok Z hK;have f:∀ {b:Addr} {o:Obj},c.heap.get? b=some o->H b=none->(cA0 c.heap H).get? b=some o:=λe n=>cA1 e n;have Q:∀ {b:Addr} {o:Obj} {es:Array DictEntry} {D:Nat},c.heap.get? b=some o->o.data=.dict es D->H b=none:=λ{b o es D} e d=>by
   cases q:H b with
   | none=>rfl
   | some u=>
     have R:b=a:=Z b (by rw[q];simp);subst R;rw[ha]at e;cases e;have d':Data.seq vs.toArray _=Data.dict es D:=d;cases d'
  have j:∀ {b:Addr} {m:Str->Option Value},c.heap.Ns b m->(cA0 c.heap H).Ns b m:=λ{b m} ⟨o,es,D,e,d,r⟩=>⟨o,es,D,f e (Q e d),d,r⟩;have E:K.In (cA0 c.heap H):=λb o e=>f (T b o e) (by
   cases q:H b with
   | none=>rfl
   | some u=>
     have R:b=a:=Z b (by rw[q];simp);subst R;rw[hK (by rw[q];simp)]at e;cases e)
  have hM:Mod K mg (cA0 c.heap H):=⟨E,j y,⟨mb,j g,L⟩,let ⟨mc,h1,h2⟩:=A;⟨mc,j h1,h2⟩⟩;have e0:Env0 P w K mg (cA0 c.heap H) callerA [] c H:=⟨rfl,hM,λb o e=>cQ3 e,Nat.le_of_eq (bK8 _ _),trivial,λb g=>absurd (show b∈([]:List Addr)from g) (by simp),hok,.of_eq hg⟩;refine a4G ((F _ E (j y)).run callerA [] c H ⟨[.ref a],[]⟩ [.ref a] [.ref a] _ _ hr e0 (p c (.ref a)) (.cons rfl .nil) (M H Y hS)) λr s' h=>?_;cases r with
  | error e=>exact(N H e s' h).elim
  | ok fl=>
    cases fl with
    | next=>exact False.elim h
    | brk=>exact False.elim h
    | cont=>exact False.elim h
    | ret u=>
      obtain⟨v,H',os,bare,un,G,r',q⟩:=h;have q':v=.bl true:=q;subst q';obtain rfl:u=Value.bool true:=r';refine⟨rfl,OldK.of_keep λb o e=>?_,os,bare⟩;cases q:H b with
      | none=>exact un.keep b o e q (by intro z;exact absurd (show b∈([]:List Addr)from z) (by simp)) (by simp)
      | some u=>
        rcases Y b with z | ⟨ob,xs,z⟩;rw[q]at z;cases z;have z2:=un.frzs b ob _ z;obtain⟨e1,_⟩:=hok b _ z;obtain⟨e2,_⟩:=G b _ z2;rw[e]at e1;cases e1;exact e2
 cases S:K.lookup a with
 | some o=>
   -- C i is one of C t own objects
   have e:=T a o S;rw[ha]at e;cases e;refine l (λ_=>none) (λ_=>.inl rfl) (.inr ⟨_,vs.toArray,_,S,rfl,rfl,rfl,by rw[a1b,B];exact U,by simpa using X⟩) (λb u z=>by have I:(none:Option HO)=some u:=z;cases I) (λb z=>absurd rfl z) λz=>absurd rfl z
 | none=>
   refine l (λb=>if b=a then some (.frz {cls:=.type "list",data:=.seq vs.toArray} (.lst (ns.map V.int)))else none) (λb=>?_) (.inl (.inr ⟨{cls:=.type "list",data:=.seq vs.toArray},a4i rfl⟩)) (λb u z=>?_) (λb z=>?_) λ_=>S;by_cases g:b=a;exact .inr ⟨_,_,a4i g⟩;exact .inl (a4j g);by_cases g:b=a;have I:=(a4i g).symm.trans z;cases I;subst g;exact⟨ha,by rw[a1a];exact U,vs,_,X,ha⟩;have I:=(a4j g).symm.trans z;cases I;by_cases g:b=a;exact g;exact absurd (a4j g) z
def cR9{l:W.OpenLaw}{n k:Nat}{q:Program}{i:List Str}{E:(Str->Option Value)->Heap->Prop}{C:World->Heap->Prop}{d:DefRec}{K:Params->W.Frag}{CX:World->CXT}{sp:World->Sp}{x:Str}
  (hn:l.most=some n) (t:n<=sizeLine) (y:d.params.defaults=[]) (I:Room k callerA)
  (J:∀ (w:World) (h:Heap),C w h->(K w.params).In h)
  (F:∀ (w:World) (mg:Str->Option Value) (r:Addr) (h:Heap),(K w.params).In h->h.Ns mainGlobals mg->mg d.name=some (.ref r) ->
   ∃ fd:FuncData,(∀ (s:Shared) (u:Value),BindsTo s fd ⟨[u],[]⟩ [(x,u)]) /\
     ∀ base:Heap,(K w.params).In base->base.Ns mainGlobals mg->FnOk l.prog w (K w.params) mg base (CX w) k r fd [x] (sp w))
  (z:∀ (w:World) (H:Hp) (a:Addr) (ns:List Int),ns.length<=n->dG4 H->SqL (K w.params) H a (ns.map V.int)->sp w [.ref a] H (λv _=>v=.bl true) λ_ _ _=>False)
  (A:∀ (w:World) (H:Hp) (s:Shared) (e:Value) (s':Shared),CX w [] H s (λ_ _ _=>False) e s'->False) :
  W.WalkO q i E C l.row.toRowW d [] (λf vs=>PySem.call f vs):=by
 refine Att.attach_call hn y λw s₀ m mg mb r o pm cd doc a vs ns G Y R hd L B p j c M=>?_;have D:=J w _ Y;obtain⟨fd,N,O⟩:=F w mg r _ D G.T.g B;exact cB0 D G.T.g G.T.b G.T.builtins G.T.nolimit M p j (a4c c t) I O N (λH P Q=>z w H a ns c P Q) λH e s'=>A w H m e s'
noncomputable def aU0(s:Stmt):Arguments:=match s with
 | .FunctionDef _ a _ _ _ _ _ _ _ _=>a
 | _=>{posonlyargs:=[],args:=[],vararg:=none,kwonlyargs:=[],kw_defaults:=[],kwarg:=none,defaults:=[]}
noncomputable def uR(s:Stmt):List Stmt:=match s with
 | .FunctionDef _ _ b _ _ _ _ _ _ _=>b
 | _=>[]
noncomputable def aW(s:Stmt):Scope:=match s with
 | .FunctionDef _ _ _ _ _ _ sc _ _ _=>sc
 | _=>{kind:=.function,names:=[],isGenerator:=false,isCoroutine:=false}
abbrev CX0:CXT:=λ_ _ _ _ _ _=>False
abbrev E0:XK:=λ_ _ _=>False
def bK{X:Cx}:bM3 CX0 X E0:=λ_ _ _ _ _ _ _ h=>h.elim
structure Fun(K:W.Frag)(x qual:Str)(st:Stmt)(f:Addr)(fd:FuncData):Prop where
 ex:∃ (oc:Value) (od:Option Addr) (kV doc pm:Value) (an:Option Addr) (cdv ct:Value) (osl:Array (Option Value)),
  fd=W.fnOf x qual (aU0 st) (uR st) (aW st) .none kV doc pm an cdv ct/\K.lookup f=some ⟨oc,od,.func fd,osl⟩/\W.codeIn K cdv qual=true
 kp:W.keepIn K (.ref f)=true
section
variable{P:Program}{w:World}{K:W.Frag}{mg:Str->Option Value}{base:Heap}
theorem Fun.ok{x qual:Str}{st:Stmt}{f:Addr}{fd:FuncData}{N ps:List Str}{k:Nat}{sp:Sp}(F:Fun K x qual st f fd)(S:FnScope N ps (aW st))(len:∀ vs H Q E,sp vs H Q E->vs.length=ps.length)
  (a:∀ (cdv:Value) (A:Around) (outer:List Env) (s:Shared) (H:Hp) (vs:List V) (Q:VK) (E:XK),Room k (A.deeper (envOfC qual (aW st) s.heap.objs.size f cdv))->sp vs H Q E ->
   ∃ t,PSs (cK6 CX0 P w K mg base N qual (aW st) f cdv A outer s H E).nox (uR st) t/\t {nx:=λ_ H'=>Q .non H',rt:=Q} (lC N vs) H):FnOk P w K mg base CX0 (k+1) f fd ps sp:=by
 obtain⟨oc,od,kV,doc,pm,an,cdv,ct,osl,rfl,lk,b⟩:=F.ex;refine dR3 lk b S len λA outer s H vs Q E d c=>?_;obtain⟨t,h,q⟩:=a cdv A outer s H vs Q E d c;exact⟨t,h.nox,q⟩
def Fun.binds{x qual:Str}{st:Stmt}{f:Addr}{fd:FuncData}{ps:List Str}(F:Fun K x qual st f fd)
  (h:∀ (kV doc pm:Value) (an:Option Addr) (cdv ct:Value) (us:List Value),us.length=ps.length->bindArgs (W.fnOf x qual (aU0 st) (uR st) (aW st) .none kV doc pm an cdv ct) ⟨us,[]⟩=pure (ps.zip us)):eT K fd ps []:=by
 obtain⟨oc,od,kV,doc,pm,an,cdv,ct,osl,rfl,lk,a⟩:=F.ex;exact .all (h kV doc pm an cdv ct)
end
def dR8{A:Around}{k:Nat}(a:Room k A):A.units+1 < cLine:=Nat.lt_of_le_of_lt (Nat.add_le_add_left (by decide:1<=64) _) a.units
section
variable{X:Cx}
def pv(i:Nat){x:Str}{pos:Pos}(b:X.N[i]? = some x:=by rfl)(c:Vis X.env.scope x:=by first | exact Or.inl rfl | exact Or.inr (Or.inl rfl) | exact Or.inr (Or.inr rfl))(hd:(x==("__debug__":Str))=false:=by decide)
  (a:(x==("__classdict__":Str))=false:=by decide):PE X (.Name x pos) (cA2 i):=dD4 b c hd a
end
def dR9{A B:Prop}(h:B):if false=true then A else B:=by
 rw[a4j a9b];exact h
def cK9{c A B:Prop}[Decidable c](a:c->A)(b:¬ c->B):if c then A else B:=by
 by_cases h:c;rw[a4i h];exact a h;rw[a4j h];exact b h
def aF2(H H':Hp):Prop:=∀ b o,H b=some o->H' b=some o
def aF2.refl(H:Hp):aF2 H H:=λ_ _ h=>h
def bG4{scope:Scope}{env:Env}(h:∀ y∈scope.names,y.2=.free->∃ c,env.cells.lookup y.1=some c) :
  ∃ cl:List (Str×Addr),closureFor scope env=pure cl/\(∀ x c,cl.lookup x=some c->env.cells.lookup x=some c)/\∀ y∈scope.names,y.2=.free->∃ c,cl.lookup y.1=some c:=by
 have p:∀ (l:List (Str×NameKind)) (acc:List (Str×Addr)),(∀ y∈l,y.2=.free->∃ c,env.cells.lookup y.1=some c)->(∀ x c,acc.lookup x=some c->env.cells.lookup x=some c) ->
   ∃ cl:List (Str×Addr),((forIn l acc λ(x:Str×NameKind) (r:List (Str×Addr))=>if(x.2==NameKind.free)=true then do let a ← cellOf env x.1;pure (ForInStep.yield ((x.1,a)::r))else pure (ForInStep.yield r)):Sem (List (Str×Addr)))=pure cl /\
     (∀ x c,cl.lookup x=some c->env.cells.lookup x=some c)/\(∀ x c,acc.lookup x=some c->∃ d,cl.lookup x=some d)/\∀ y∈l,y.2=.free->∃ c,cl.lookup y.1=some c:=by
  intro l
  induction l with
  | nil=>intro acc _ ha;exact⟨acc,rfl,ha,λx c e=>⟨c,e⟩,λ_ b=>nomatch b⟩
  | cons y r t=>
    intro acc q ha;obtain⟨n,k⟩:=y;rw[List.forIn_cons];by_cases i:(k==NameKind.free)=true
    ·have s:k=.free:=by simpa using i
     obtain⟨c,u⟩:=q (n,k) a3a s;have v:cellOf env n=pure c:=by unfold cellOf;rw[u]
     obtain⟨cl,e,f,j,g⟩:=t ((n,c)::acc) (λy b=>q y (a6a _ b)) (λx d e=>by
      rw[a5h]at e;split at e
      ·rename_i m;have:x=n:=by simpa using m
       cases e;rw[this];exact u
      ·exact ha x d e)
     have has:∃ d,cl.lookup n=some d:=j n c (by rw[a5h];simp);refine⟨cl,?_,f,λx d e=>?_,λy b o=>?_⟩;simp only[i,if_true,v];exact e
     ·by_cases m:x=n;subst m;exact has;exact j x d (by rw[a5h];have:(x==n)=false:=by simpa using m
                                                       rw[this];exact e)
     ·rcases a2b.mp b with rfl | b;exact has;exact g y b o
    ·obtain⟨cl,e,f,j,g⟩:=t acc (λy b=>q y (a6a _ b)) ha;refine⟨cl,?_,f,j,λy b o=>?_⟩;simp only[i];exact e;rcases a2b.mp b with rfl | b;exact absurd (by simpa using o) i;exact g y b o
 obtain⟨cl,e,f,_,g⟩:=p scope.names [] h (λx c e=>nomatch e);refine⟨cl,?_,f,g⟩;unfold closureFor;simp only[bind_pure];exact e
def nL{α:Type}{x n:Str}{v:α}{r:List (Str×α)}(h:(x==n)=true):List.lookup x ((n,v)::r)=some v:=by rw[a5h,h]
def hR{α:Type}{x n:Str}{v:α}{r:List (Str×α)}(h:(x==n)=false):List.lookup x ((n,v)::r)=List.lookup x r:=by rw[a5h,h]
def cL0{scope:Scope}{env:Env}{x:Str}(h:(relabel scope env).names.lookup x=some .cell\/(relabel scope env).names.lookup x=some .free)(d:∀ y∈scope.names,y.2≠.cell) :
  (x,NameKind.free)∈scope.names:=by
 unfold relabel at h;dsimp only at h;revert h d;generalize scope.names=l;intro h d
 induction l with
 | nil=>rcases h with h | h<;>cases h
 | cons y r i=>
   obtain⟨n,k⟩:=y;rw[a8e]at h;dsimp only at h;have c:=λh=>i h λy j=>d y (a6a _ j);have f:k≠.cell:=d (n,k) a3a;by_cases e:(k==NameKind.free&&env.scope.kind==.function&&env.kindOf n==some .cell)=true
   ·have g:k=.free:=by
     simp only[Bool.and_eq_true,beq_iff_eq]at e;exact e.1.1
    rw[a4i e]at h;cases b:x==n with
    | true=>
      have a:x=n:=by simpa using b
      subst a g;exact a3a
    | false=>
      rw[hR b]at h;exact a6a _ (c h)
   ·rw[a4j e]at h;cases b:x==n with
    | true=>
      have a:x=n:=by simpa using b
      rw[nL b]at h;subst a;rcases h with h | h;exact absurd (a7a h) f
      ·rw[a7a h];exact a3a
    | false=>
      rw[hR b]at h;exact a6a _ (c h)
def pN{scope:Scope}{env:Env}{x:Str}(h:(relabel scope env).names.lookup x=some .cell\/(relabel scope env).names.lookup x=some .free) :
  (x,NameKind.free)∈scope.names\/scope.names.lookup x=some .cell:=by
 unfold relabel at h;dsimp only at h;revert h;generalize scope.names=l;intro h
 induction l with
 | nil=>rcases h with h | h<;>cases h
 | cons y r e=>
   obtain⟨n,k⟩:=y;rw[a8e]at h;dsimp only at h;by_cases c:(k==NameKind.free&&env.scope.kind==.function&&env.kindOf n==some .cell)=true
   ·have d:k=.free:=by
     simp only[Bool.and_eq_true,beq_iff_eq]at c;exact c.1.1
    rw[a4i c]at h;cases a:x==n with
    | true=>
      have b:x=n:=by simpa using a
      subst b d;exact .inl a3a
    | false=>
      rw[hR a]at h;rcases e h with z | z;exact .inl (a6a _ z)
      ·exact .inr (by rw[hR a];exact z)
   ·rw[a4j c]at h;cases a:x==n with
    | true=>
      have b:x=n:=by simpa using a
      rw[nL a]at h;subst b;rcases h with h | h;exact .inr (by rw[nL a];exact h)
      ·rw[a7a h];exact .inl a3a
    | false=>
      rw[hR a]at h;rcases e h with z | z;exact .inl (a6a _ z);exact .inr (by rw[hR a];exact z)
theorem eZ:∀ (names:List (Str×NameKind)) (n:Nat) (acc:List (Str×Addr)),cellsFrom n names acc=cellsFrom n names []++acc
 | [],n,acc=>rfl
 | (x,k)::r,n,acc=>by
   unfold cellsFrom;split;rw[eZ r (n+1) ((x,n)::acc),eZ r (n+1) [(x,n)],List.append_assoc];rfl;exact eZ r n acc
theorem lD:∀ (names:List (Str×NameKind)) (n:Nat) (x:Str) (c:Addr),(x,c)∈cellsFrom n names []->(x,NameKind.cell)∈names
 | [],n,x,c,h=>nomatch h
 | (y,k)::r,n,x,c,h=>by
   unfold cellsFrom at h;split at h
   ·rename_i b;have a:k=.cell:=by simpa using b
    rw[eZ]at h;rcases a5b.mp h with z | z;exact a6a _ (lD r _ x c z);have e:=a9a.mp z;cases e;rw[a];exact a3a
   ·exact a6a _ (lD r _ x c h)
theorem fY:∀ (names:List (Str×NameKind)) (n:Nat) (x:Str),(x,NameKind.cell)∈names->∃ c,(cellsFrom n names []).lookup x=some c
 | [],n,x,h=>nomatch h
 | (y,k)::r,n,x,h=>by
   have a:∀ m,(x,NameKind.cell)∈r->∃ c,(cellsFrom m r []).lookup x=some c:=λm hm=>fY r m x hm;unfold cellsFrom;split
   ·rename_i b;rw[eZ,List.lookup_append];rcases a2b.mp h with z | z
    ·cases z;cases e:(cellsFrom (n+1) r []).lookup y with
     | some c=>exact⟨c,rfl⟩
     | none=>exact⟨n,by simp⟩
    ·obtain⟨c,d⟩:=a (n+1) z;exact⟨c,by rw[d];rfl⟩
   ·rename_i b;rcases a2b.mp h with z | z;cases z;exact absurd rfl b;exact a n z
def cS0{M:Model}{A:Around}{E:Value->Shared->Prop}{s:Shared}{scope:Scope}{globals:Addr}{cl:List (Str×Addr)}{qual:Str}{env:Env}{Q:Env->Shared->Prop}
  (c:Q (newEnv scope s.heap.objs.size globals (cellsFrom (s.heap.objs.size+1) scope.names cl) qual none .none (some env) builtinsNs) {s with heap:=pushCells (s.heap.push {cls:=.type "dict",data:=.dict #[]}) scope.names}) :
  wpAny M A (newFunctionEnv scope globals cl [] qual none .none (some env)) Q E s:=by
 simp only[newFunctionEnv,Option.isSome_some,if_true];refine a3Z (wpAny_alloc ?_);refine a3Z (wpAny_layCells _ (λb kind cells=>by cases a:kind==NameKind.cell<;>simp[a]) _ _ _ _ ?_);rw[show({s with heap:=s.heap.push {cls:=.type "dict",data:=.dict #[]}}:Shared).heap.objs.size=s.heap.objs.size+1 from a6h ..];refine a3Z ?_;rw[List.forIn_nil];exact a4l (a4l c)
def aF3{scope:Scope}{env:Env}{x:Str}(h:(relabel scope env).names.lookup x=some .local):scope.names.lookup x=some .local:=by
 unfold relabel at h;dsimp only at h;revert h;generalize scope.names=l;intro h
 induction l with
 | nil=>cases h
 | cons y r b=>
   obtain⟨n,k⟩:=y;rw[a8e]at h;dsimp only at h;by_cases c:(k==NameKind.free&&env.scope.kind==.function&&env.kindOf n==some .cell)=true
   ·rw[a4i c]at h;cases a:x==n with
    | true=>rw[nL a]at h;cases h
    | false=>rw[hR a]at h ⊢;exact b h
   ·rw[a4j c]at h;cases a:x==n with
    | true=>rw[nL a]at h ⊢;exact h
    | false=>rw[hR a]at h ⊢;exact b h
def Inv.adopt{X:Cx}{pins:List (Addr×Obj)}{σ:St}{H:Hp}{s:Shared}{a:Addr}{o:HO}(I:Inv X pins σ H s)(hn:H a=none)(h:X.s₀.heap.objs.size<=a)(i:a≠X.env.locals)
  (j:∀ x c,X.env.cells.lookup x=some c->c≠a) (k:∀ p∈X.pn++pins,p.1≠a) (d:eR X.prog X.w (upd H a o) s.heap a o):Inv X pins σ (upd H a o) s:=by
 have ne:∀ b u,H b=some u->b≠a:=λb u e=>bD e hn;refine⟨I.ok,I.os,I.bare,⟨I.base.keep,I.base.slot,λb ob q n l=>?_,I.base.there,λb xs q=>?_,λb ob u q=>?_,λb ps q=>?_⟩,I.loc,I.cell,?_,λx c e=>?_,λp f=>?_,λb u e=>?_,I.len⟩;rw[aL (a1d (a5d (a4b q) h))];exact I.base.free b ob q n l;have:=I.base.tups b xs q;rw[aL (ne b _ this)];exact this;have:=I.base.frzs b ob u q;rw[aL (ne b _ this)];exact this;obtain⟨m,this⟩:=I.base.tbls b ps q;exact⟨m,by rw[aL (ne b _ this)];exact this⟩;rw[aL (a0e i)];exact I.free;rw[aL (j x c e)];exact I.freeC x c e;obtain⟨e,n,r⟩:=I.pin p f;exact⟨e,by rw[aL (k p f)];exact n,r⟩;by_cases g:b=a;subst g;rw[aR]at e;cases e;exact d;rw[aL g]at e;exact(I.hok b u e).stay (λc v _ q=>q) (λc q=>by rw[aL (ne c _ q)];exact q) λc xs q=>by rw[aL (ne c _ q)];exact q
def aU1{prog:Program}{w:World}{A:Around}{R:Result->Shared->Prop}{s:Shared}{elt a iter:Expr}{l:List Expr}{scope:Scope}{pos:Pos}{it acc:Value}{env:Env}(I:Nat->Shared->Prop)
  (turn:∀ n s,I n s->wpAny (model prog w) A (pyNext it) (λr e=>match r with
   | none=>R (.ok .next) e
   | some v=>wpAny (model prog w) A (letOwnedTupleGo a it v) (λ_ f=>wpAny (model prog w) A (assign a env v) (λ_ i=>
     wpAny (model prog w) A (forIn l true λc r=>if r=true then do let ok ← isTrue c env (eval c env);pure (ForInStep.yield ok)else pure (ForInStep.yield r)) (λok g=>
      if ok=true then wpAny (model prog w) A (eval elt env) (λx j=>
       wpAny (model prog w) A (call (.builtin "list.append") [acc,x]) (λ_ k=>∃ m,m < n/\I m k) (λ_ _=>False) j) (λ_ _=>False) g
      else ∃ m,m < n/\I m g) (λ_ _=>False) i) (λ_ _=>False) f) (λ_ _=>False) e) (λ_ _=>False) s)
  (n:Nat) (h:I n s) :
  codeAny (model prog w) A (.compLoop (.ListComp elt [⟨a,iter,l,0⟩] scope pos) 0 it acc env) R s:=by
 refine codeAny_loop rfl I (λn s t=>?_) n h;show wpAny _ A ((compTurn (.ListComp elt [⟨a,iter,l,0⟩] scope pos) 0 it acc env).onRaise (λx=>do noteFrame x env;theTreesLotGoes x)) _ _ s;refine wpAny_noted ?_;rw[compTurn_list];refine a3Z (a4J (a3Z (a4r (turn n s t) (λr e d=>?_) λ_ _ h'=>h'.elim)));cases r with
 | none=>exact a4l d
 | some v=>
   refine a3Z (a4r d (λ_ f d=>?_) λ_ _ h'=>h'.elim);refine a3Z (a4r d (λ_ i o=>a3Z (a4r o (λok g b=>?_) λ_ _ h'=>h'.elim)) λ_ _ h'=>h'.elim);cases ok with
   | true=>
     simp only[if_true]at b ⊢;refine a3Z (a3Z (a4r b (λx j p=>a3Z (a4r p (λ_ k q=>a4l (a4l ⟨rfl,q⟩)) λ_ _ h'=>h'.elim)) λ_ _ h'=>h'.elim))
   | false=>
     simp only[Bool.false_eq_true,if_false]at b ⊢
     first
      | exact a3Z (a4l (a4l ⟨rfl,b⟩))
      | exact a4l ⟨rfl,b⟩
noncomputable abbrev cxC(X:Cx)(scope:Scope)(cl:List (Str×Addr))(ex:List Addr)(s:Shared)(H:Hp):Cx:=
 {X with s₀:=s,H₀:=H,env:=compEnvC scope cl s.heap.objs.size X.env,outer:=X.stack,ex:=ex,fn:=λx=>scope.names.lookup x==some .cell,xe:=λ_ _=>False}
noncomputable def blank(own:List Nat)(σ:St):St:=own.foldl (λσ i=>σ.set i none) σ
theorem vJ:∀ (own:List Nat) (σ:St),(blank own σ).length=σ.length
 | [],_=>rfl
 | i::r,σ=>(vJ r (σ.set i none)).trans (by simp)
theorem uT:∀ (own:List Nat) (σ:St) (i:Nat) (v:V),(blank own σ)[i]? = some (some v)->i∉own/\σ[i]? = some (some v)
 | [],_,_,_,h=>⟨by simp,h⟩
 | j::r,σ,i,v,h=>by
   obtain⟨b,a⟩:=uT r (σ.set j none) i v h;by_cases e:i=j;subst e;rw[List.getElem?_set]at a;simp at a;rw[a0b (a0e e)]at a;exact⟨by simp[e,b],a⟩
def cS1(own:List Nat)(g:TG):Prop:=∀ x σ H Q,g x σ H Q->g x σ H λσ' H'=>Q σ' H'/\σ'.length=σ.length/\∀ i,i∉own->σ'[i]? = σ[i]?
def cB1(own:List Nat)(g:TGs):Prop:=∀ x σ H Q,g x σ H Q->g x σ H λσ' H'=>Q σ' H'/\σ'.length=σ.length/\∀ i,i∉own->σ'[i]? = σ[i]?
def aO{own:List Nat}{i:Nat}(h:i∈own):cS1 own (aE8 i):=λx σ H Q q=>
 ⟨q,by simp,λj a=>List.getElem?_set_ne (λe:i=j=>a (by rw[← e];exact h))⟩
def jZ{own:List Nat}:cB1 own dQ5:=λx σ H Q q=>⟨q.1,q.2,rfl,λ_ _=>rfl⟩
def dE{own:List Nat}{t:TG}{u:TGs}(k:cS1 own t)(l:cB1 own u)(mt:∀ x σ H Q h,(∀ a b,Q a b->h a b)->t x σ H Q->t x σ H h):cB1 own (cQ6 t u):=by
 intro x σ H Q q;obtain⟨v,r,e,q⟩:=q;refine⟨v,r,e,mt _ _ _ _ _ (λd m g=>?_) (k _ _ _ _ q)⟩;obtain⟨g,l1,j⟩:=g;have:=l _ _ _ _ g;revert this;exact λthis=>by
  have f:u r d m (λσ' H'=>Q σ' H'/\σ'.length=d.length/\∀ i,i∉own->σ'[i]? = d[i]?):=this;rw[l1]at f;have n:(λ(σ':St) H'=>Q σ' H'/\σ'.length=σ.length/\∀ i,i∉own->σ'[i]? = d[i]?)=(λ(σ':St) H'=>Q σ' H'/\σ'.length=σ.length/\∀ i,i∉own->σ'[i]? = σ[i]?):=by
   funext σ' H';apply propext;constructor;rintro⟨a,b,c⟩;exact⟨a,b,λi hi=>(c i hi).trans (j i hi)⟩;rintro⟨a,b,c⟩;exact⟨a,b,λi hi=>(c i hi).trans (j i hi).symm⟩
  rw[← n];exact f
def dF{i:Nat}:∀ x σ H (Q c:St->Hp->Prop),(∀ a b,Q a b->c a b)->aE8 i x σ H Q->aE8 i x σ H c:=λ_ _ _ _ _ f q=>f _ _ q
def cL1(X:Cx)(a:List Expr)(t:TT):Prop:=
 ∀ (pins:List (Addr×Obj)) (s:Shared) (σ:St) (H:Hp) (Q:Bool->Hp->Prop),Inv X pins σ H s->t σ H Q ->
   wpAny (model X.prog X.w) X.A (forIn a true λc r=>if r=true then do let ok ← isTrue c X.env (eval c X.env);pure (ForInStep.yield ok)else pure (ForInStep.yield r)) (TP X pins σ Q) X.xe s
def dG5:TT:=λ_ H Q=>Q true H
def aF4{X:Cx}:cL1 X [] dG5:=λ_ _ _ H _ I h=>wpAny_tests_nil ⟨H,I,h⟩
def aZ5{X:Cx}{c:Expr}{t:TT}(h:PT X c t):cL1 X [c] t:=λpins s σ H Q I q=>wpAny_tests_one (h pins s σ H Q I q)
structure CompScope(X:Cx)(scope:Scope)(own:List Nat):Prop where
 kind:scope.kind=.function
 cells:∀ y∈scope.names,y.2=.cell->scope.names.lookup y.1=some .cell
 names:∀ y∈scope.names,y.2=.local->scope.names.lookup y.1=some .local
 free:∀ y∈scope.names,y.2=.free->X.env.kindOf y.1=some .cell\/X.env.kindOf y.1=some .free
 own:∀ i x,X.N[i]? = some x->(scope.names.lookup x=some .local\/scope.names.lookup x=some .cell)->i∈own
 calm:X.calm=true
def cL2(own:List Nat)(e:TI)(g:TG)(f:TT)(h:TE)(σ:St)(H:Hp)(F:List V->Hp->Prop):Prop:=
 e σ H λJ j=>∃ W:Nat->Nat->List V->Hp->Prop,(∃ m,W 0 m [] j)/\∀ i m ys H,W i m ys H->ys.length<=sizeLine /\
  ((J.stop i H/\F ys H)\/(J.go i H/\∀ x H',J.yld i H x H'->g x (blank own σ) H' λa k=>f a k λb d=>
    if b=true then h a d λv l=>∃ c,c < m/\W (i+1) c (ys++[v]) l else ∃ c,c < m/\W (i+1) c ys d))
def bG5(own:List Nat)(a:TI)(g:TG)(b:TT)(c:TE):TE:=λσ H Q=>cL2 own a g b c σ H λys H'=>∀ p,H' p=none->Q (.ref p) (upd H' p (.lst ys))
structure Stray(X:Cx)(pins:List (Addr×Obj))(H:Hp)(b:Addr):Prop where
 un:H b=none
 loc:b≠X.env.locals
 young:X.s₀.heap.objs.size<=b
 cell:∀ x c,X.env.cells.lookup x=some c->c≠b
 pin:∀ p∈X.pn++pins,p.1≠b
def Inv.stray{X:Cx}{pins:List (Addr×Obj)}{σ:St}{H H':Hp}{s:Shared}{b:Addr}(I:Inv X pins σ H s)(a:s.heap.objs.size<=b)(hn:H' b=none):Stray X pins H' b:=by
 obtain⟨c,d,g,h,e,f⟩:=I.fpOk a hn;exact⟨c,d,a4c I.sz a,e,f⟩
set_option maxHeartbeats 8000000 in
def bG6{X:Cx}{tg iter elt:Expr}{ifs:List Expr}{scope:Scope}{pos:Pos}{own:List Nat}{g:TG}{tt:TT}{te:TE}{use:Option (Value->Sem Unit)}{Qf:Value->Shared->Prop}
  (S:CompScope X scope own) (hg:∀ cl ex s H,PG (cxC X scope cl ex s H) tg g) (hG:cS1 own g)
  (ht:∀ cl ex s H,cL1 (cxC X scope cl ex s H) ifs tt) (he:∀ cl ex s H,PE (cxC X scope cl ex s H) elt te)
  {pins:List (Addr×Obj)} {a:Shared} {σ:St} {t:Hp} {F:List V->Hp->Prop} {cl:List (Str×Addr)} {J:It} {fp:List Addr} {it D:Addr} {tn:Nat->Heap->Prop} {h₁:Heap} {mC:Str->Option Value} {tk m0:Nat} {W:Nat->Nat->List V->Hp->Prop}
  (B:Inv X pins σ t a) (T:Turn X.prog X.w X.K tg J fp it tn) (O:∀ x c,cl.lookup x=some c->(X.env.cells.lookup x=some c/\scope.names.lookup x≠some .cell)\/(a.heap.objs.size < c/\scope.names.lookup x=some .cell/\h₁.IsCell c none)) (cl2:∀ y∈scope.names,y.2=.free\/y.2=.cell->∃ c,cl.lookup y.1=some c)
  (cl3:∀ x y c,cl.lookup x=some c->cl.lookup y=some c->x=y)
  (R:∀ b∈fp,bL2 X pins t b) (N:∀ b∈fp,b < D) (G:D < a.heap.objs.size) (I:∀ b,b∈frs X.stack->b < D) (hbase:∀ b o,X.base.get? b=some o->b < D) (h:Stray X pins t D)
  (hD3:a.heap.get? D=some {cls:=.type "list",data:=.seq ([]:List Value).toArray}) (st3:tn 0 a.heap) (U:h₁.Ns a.heap.objs.size mC) (E:∀ b o,a.heap.get? b=some o->h₁.get? b=some o)
  (w0:W 0 m0 [] t) (turn:∀ i m ys H,W i m ys H->ys.length<=sizeLine /\
  ((J.stop i H/\F ys H)\/(J.go i H/\∀ x H',J.yld i H x H'->g x (blank own σ) H' λσ2 t=>tt σ2 t λb H3=>
    if b=true then te σ2 H3 λv Q=>∃ Y,Y < m/\W (i+1) Y (ys++[v]) Q else ∃ Y,Y < m/\W (i+1) Y ys H3)))
  (fin:∀ D C ys H' s' m,Inv X pins σ (upd H' D (.lst ys)) s'->H' D=none->s'.heap.Ns C m->Stray X pins (upd H' D (.lst ys)) C->F ys H' ->
   compPost (model X.prog X.w) X.A X.xe use Qf (.ref D) C (.ok .next) s') :
  codeAny (model X.prog X.w) X.A (.compLoop (.ListComp elt [⟨tg,iter,ifs,0⟩] scope pos) 0 (.ref it) (.ref D) (compEnvC scope cl a.heap.objs.size X.env))
   (compPost (model X.prog X.w) X.A X.xe use Qf (.ref D) a.heap.objs.size) {a with heap:=h₁,toks:=tk}:=by
 have cneD:∀ x c,cl.lookup x=some c->c≠D:=λx c q=>by
  rcases O x c q with z | z;exact h.cell x c z.1;exact(a1d (a1h G z.1)).symm
 have cneF:∀ b∈fp,∀ x c,cl.lookup x=some c->c≠b:=λb f x c q=>by
  rcases O x c q with z | z;exact(R b f).2.2.2.2.1 x c z.1;exact(a1d (a1h (a1h (N b f) G) z.1)).symm
 have okY:(cxC X scope cl (D::fp) a t).Ok:=by
  refine⟨B.ok.mod,S.kind,B.ok.glob,B.ok.blt,a8a _,cl3,λx hk=>?_,λx c hf q=>?_,B.ok.hd,B.ok.frames,.inl rfl,λb f=>?_,λb o q=>?_,?_,λb o q f=>?_,λb f Z=>?_,B.stack,B.stkFree⟩;rcases pN hk with z | z;exact cl2 _ z (.inl rfl);exact cl2 _ (mem_of_lookup z) (.inr rfl)
  ·rcases O x c q with z | z
   ·have hf':scope.names.lookup x=some .cell:=by simpa using hf
    exact absurd hf' z.2
   ·exact a0i z.1
  ·constructor;show b≠a.heap.objs.size;rcases a2b.mp f with z | z;rw[z];exact a1d G;exact a1d (a1h (N b z) G);intro x c q;rcases a2b.mp f with z | z;rw[z];exact cneD x c q;exact cneF b z x c q
  ·exact B.bs b o q
  ·exact a4c B.ok.bsz B.sz
  ·rcases a2b.mp f with z | z;have:=hbase b o q;rw[z]at this;exact a5e _ this;rcases(R b z).2.2.2.1 with y | y;exact B.ok.noex b o q y;exact a5e _ (a5d (a4b q) (a4c B.ok.bsz y))
  ·rcases a2b.mp f with z | z;have:=I b Z;rw[z]at this;exact a5e _ this;rcases a2b.mp (B.stkSub b Z)with y | y;exact(R b z).2.1 y;exact(R b z).2.2.1 y
 have IY:Inv (cxC X scope cl (D::fp) a t) pins (blank own σ) t {a with heap:=h₁,toks:=tk}:=by
  refine⟨okY,rfl,B.bare,Un.kept E,⟨_,U,λi x v e1 e2 e3=>?_⟩,λx c q=>?_,B.hok.fresh (a8a _),λx c q=>by
   rcases O x c q with z | z;exact B.freeC x c z.1;exact B.hok.fresh (a0i z.1),λp hp=>?_,B.hok.kept E,(vJ own σ).trans B.len⟩
  ·obtain⟨hno,e2'⟩:=uT own σ i v e2;have hnl:¬ (relabel scope X.env).names.lookup x=some .local:=λz=>hno (S.own i x e1 (.inl (aF3 z)));have hnc:¬ scope.names.lookup x=some .cell:=λz=>hno (S.own i x e1 (.inr z));have hcf:(relabel scope X.env).names.lookup x=some .cell\/(relabel scope X.env).names.lookup x=some .free:=by
    rcases e3 with z | z | z;exact absurd z hnl;exact .inl z;exact .inr z
   have hmem:=(pN hcf).resolve_right hnc;have hkX:=S.free _ hmem rfl;obtain⟨m,hm,hl⟩:=B.loc;obtain⟨u,r,lk⟩:=hl i x v e1 e2' (by rcases hkX with z | z;exact .inr (.inl z);exact .inr (.inr z));obtain⟨c,hc⟩:=cl2 _ hmem (.inl rfl);refine⟨u,r,.inr ⟨hcf,c,hc,?_⟩⟩;rcases lk with⟨z,_⟩ | ⟨_,c',hc',ic⟩;dsimp only at hkX;rw[z]at hkX;rcases hkX with y | y<;>cases y;have:=((O _ c hc).resolve_right λz=>hnc z.2.1).1;dsimp only at this;rw[hc']at this;cases this;obtain⟨o,ho,hd⟩:=ic;exact⟨o,E _ _ ho,hd⟩
  ·rcases O x c q with z | z;obtain⟨v,o,ho,hd⟩:=B.cell x c z.1;exact⟨v,o,E _ _ ho,hd⟩;exact⟨_,z.2.2⟩
  ·obtain⟨q,n,ne,nf,d⟩:=B.pin p hp;refine⟨E _ _ q,n,a1d (a4b q),λf=>?_,d⟩;rcases a2b.mp (B.stkSub _ f)with y | y;exact ne y;exact nf y
 have DY:D≠a.heap.objs.size:=a1d G;have statY:∀ {H':Hp},(∀ b∈fp,H' b=none)->∀ b∈fp,bL2 (cxC X scope cl (D::fp) a t) pins H' b:=λhn b f=>by
  refine⟨hn b f,?_,?_,.inl (a6a _ f),cneF b f,(R b f).2.2.2.2.2⟩;show b≠a.heap.objs.size;exact a1d (a1h (N b f) G);intro Z;rcases a2b.mp (B.stkSub b Z)with y | y;exact(R b f).2.1 y;exact(R b f).2.2.1 y
 have hDfp:D∉fp:=λz=>a5e _ (N D z);have hDstk:D∉frs X.stack:=λz=>a5e _ (I D z);have L:∀ {H':Hp} {o:Obj},(∀ b∈fp,H' b=none)->∀ b∈fp,bL2 (cxC X scope cl (D::fp) a t) (pins++[(D,o)]) H' b:=λ{H' o} fr b f=>by
  obtain⟨a1,a2,a3,a4,a5,a6⟩:=statY fr b f;refine⟨a1,a2,a3,a4,a5,λp hp z=>?_⟩;rcases a5b.mp hp with y | y;exact a6 p (a6d _ y) z;rcases a5b.mp y with y | y;exact a6 p (a1c _ y) z;have e:p=(D,o):=a9a.mp y;rw[e]at z;have z':D=b:=z;exact hDfp (by rw[z'];exact f)
 have pin2:∀ {H':Hp} {s':Shared} {l:Array Value} {k:Nat},Inv (cxC X scope cl (D::fp) a t) pins (blank own σ) H' s'->H' D=none->s'.heap.get? D=some {cls:=.type "list",data:=.seq l k} ->
   Inv (cxC X scope cl (D::fp) a t) (pins++[(D,{cls:=.type "list",data:=.seq l k})]) (blank own σ) H' s':=λ{H' s' l k} I4 D4 o4=>I4.pins_of λp hp=>by
  rcases a5b.mp hp with z | z;exact I4.pin p (a1c _ z);have e:p=(D,{cls:=.type "list",data:=.seq l k}):=a9a.mp z;subst e;exact⟨o4,D4,DY,hDstk,λv z=>by cases z⟩
 refine aU1 (λn s'=>∃ i ys H' l k,Inv (cxC X scope cl (D::fp) a t) pins (blank own σ) H' s'/\tn i s'.heap/\(∀ b∈fp,H' b=none)/\H' D=none /\
  s'.heap.get? D=some {cls:=.type "list",data:=.seq l k}/\cQ ys l.toList/\W i n ys H') ?_ m0
  ⟨0,[],t,#[],_,IY,T.keep _ _ _ st3 λb f o q=>E b o q,λb f=>(R b f).1,h.un,E _ _ hD3,.nil,w0⟩
 rintro n s4 ⟨i,ys,Q,l,k,I4,st4,fr4,D4,o4,v4,w4⟩;obtain⟨hz,step⟩:=turn i n ys Q w4;rcases step with⟨stop,qn⟩ | ⟨go,step⟩
 ·refine thn (T.done (cxC X scope cl (D::fp) a t) rfl rfl rfl S.calm i _ s4 (blank own σ) Q (λ_ _=>False) (pin2 I4 D4 o4) (L fr4) st4 stop) λr s5 Z0=>?_;obtain⟨hr,I5⟩:=Z0;subst hr;have oD:s5.heap.get? D=some {cls:=.type "list",data:=.seq l k}:=(I5.pin (D,_) (a1c _ (a1c _ a3a))).1;have P:Inv (cxC X scope cl (D::fp) a t) pins (blank own σ) Q s5:=I5.unpinned;have IX:Inv X pins σ Q s5:=by
   refine B.call' (ch:=D::fp) P.os P.base P.hok P.bare λb f=>?_;rcases a2b.mp f with z | z;rw[z];exact⟨.inr h.young,h.loc,h.cell,h.pin⟩;obtain⟨a1,a2,a3,a4,a5,a6⟩:=R b z;exact⟨a4,a2,a5,a6⟩
  obtain⟨m5,hm5,_⟩:=P.loc;have nC:Q a.heap.objs.size=none:=P.free;have IX':Inv X pins σ (upd Q D (.lst ys)) s5:=by
   refine IX.adopt D4 h.young h.loc h.cell h.pin ⟨hz,l.toList,k,v4,?_⟩;rw[oD]
  have strC:Stray X pins (upd Q D (.lst ys)) a.heap.objs.size:=B.stray (a8a _) (by rw[aL (a0e DY)];exact nC);exact fin D _ ys Q s5 m5 IX' D4 hm5 strC qn
 ·refine thn (T.item (cxC X scope cl (D::fp) a t) rfl rfl rfl S.calm i _ s4 (blank own σ) Q (λ_ _=>False) (pin2 I4 D4 o4) (L fr4) st4 go) λr s5 Z0=>?_;obtain⟨u,hr,h5⟩:=Z0;subst hr;refine thn h5 λ_ s6 ⟨x,H6,I6,r6,y6,st6,fr6⟩=>?_;have I6':=I6.pinned (L fr6) (T.obj _ _ st6);refine thn (hg cl (D::fp) a t _ s6 (blank own σ) H6 x u _ I6' r6 (hG _ _ _ _ (step x H6 y6))) λ_ s7 ⟨σ7,H7,I7,⟨q7,l7,p7⟩⟩=>?_;refine thn (ht cl (D::fp) a t _ s7 σ7 H7 _ I7 q7) λb s8 ⟨H8,I8,q8⟩=>?_;have weak:∀ {H9:Hp} {s9:Shared},Inv (cxC X scope cl (D::fp) a t) ((pins++[(D,{cls:=.type "list",data:=.seq l k})])++wT fp s6.heap) σ7 H9 s9 ->
    Inv (cxC X scope cl (D::fp) a t) ((pins++[(D,{cls:=.type "list",data:=.seq l k})])++wT fp s6.heap) (blank own σ) H9 s9:=λI9=>
   I9.weak l7.symm λj v e=>by rw[p7 j (uT own σ j v e).1];exact e
  have tn9:∀ {H9:Hp} {s9:Shared},Inv (cxC X scope cl (D::fp) a t) ((pins++[(D,{cls:=.type "list",data:=.seq l k})])++wT fp s6.heap) (blank own σ) H9 s9->tn (i+1) s9.heap/\∀ b∈fp,H9 b=none:=λI9=>
   ⟨T.keep _ _ _ st6 λb f o q=>(I9.pin (b,o) (a1c _ (a1c _ (oE f q)))).1,λb f=>by
    obtain⟨o,q,d⟩:=T.obj _ _ st6 b f;exact(I9.pin (b,o) (a1c _ (a1c _ (oE f q)))).2.1⟩
  cases b with
  | true=>
    rw[a4i rfl]at q8 ⊢;refine thn (he cl (D::fp) a t _ s8 σ7 H8 _ I8 q8) λy s9 Z0=>?_;obtain⟨v9,H9,I9,r9,Y,hm',w9⟩:=Z0;have M:=weak I9;obtain⟨t9,f9⟩:=tn9 M;have p9:=M.pin (D,_) (a1c _ (a6d _ (a1c _ a3a)));have hlen:=v4.length;have hz':l.size<=sizeLine:=by rw[← a5f];lia
    refine append_at (hsz:=hz') p9.1 λh' hs' hD'=>?_;have I9u:Inv (cxC X scope cl (D::fp) a t) pins (blank own σ) H9 s9:=M.unpinned.unpinned;have I10:Inv (cxC X scope cl (D::fp) a t) pins (blank own σ) H9 {s9 with heap:=h'}:=
     I9u.turned (it:=D) (t':=s9.toks) (λb o f q=>(hs'.2 b f).trans q) p9.2.1 DY (.inl a3a) cneD h.pin
    refine⟨Y,hm',i+1,ys++[v9],H9,l.push y,k+1,I10,T.keep _ _ _ t9 λb f o q=>(hs'.2 b λz=>hDfp (by rw[← z];exact f)).trans q,f9,p9.2.1,hD',?_,w9⟩;rw[Array.toList_push];exact v4.append (.cons r9 .nil)
  | false=>
    rw[a4j a9b]at q8 ⊢;obtain⟨Y,hm',w9⟩:=q8;have M:=weak I8;obtain⟨t9,f9⟩:=tn9 M;have p9:=M.pin (D,_) (a1c _ (a6d _ (a1c _ a3a)));exact⟨Y,hm',i+1,ys,H8,l,k,M.unpinned.unpinned,t9,f9,p9.2.1,p9.1,v4,w9⟩
set_option maxHeartbeats 8000000 in
def aM3{X:Cx}{tg iter elt:Expr}{B:List Expr}{scope:Scope}{pos E:Pos}{own:List Nat}{wi:TI}{g:TG}{tt:TT}{te:TE}{use:Option (Value->Sem Unit)}{Qf:Value->Shared->Prop}
  (S:CompScope X scope own) (hi:PI X tg iter wi) (hg:∀ cl ex s H,PG (cxC X scope cl ex s H) tg g) (hG:cS1 own g)
  (ht:∀ cl ex s H,cL1 (cxC X scope cl ex s H) B tt) (he:∀ cl ex s H,PE (cxC X scope cl ex s H) elt te)
  {pins:List (Addr×Obj)} {s:Shared} {σ:St} {H:Hp} {F:List V->Hp->Prop} (I:Inv X pins σ H s) (hw:cL2 own wi g tt te σ H F)
  (hs:∀ x,foldedSetIterable iter X.env x=pure x)
  (fin:∀ D C ys H' s' m,Inv X pins σ (upd H' D (.lst ys)) s'->H' D=none->s'.heap.Ns C m->Stray X pins (upd H' D (.lst ys)) C->F ys H' ->
   compPost (model X.prog X.w) X.A X.xe use Qf (.ref D) C (.ok .next) s') :
  wpAny (model X.prog X.w) X.A (comprehension (.ListComp elt [⟨tg,iter,B,0⟩] scope pos) scope X.env E (newList []) false (eval iter X.env) use) Qf X.xe s:=by
 obtain⟨cl,R,U,Y⟩:=bG4 (scope:=scope) (env:=X.env) λy P hf=>I.ok.has y.1 (S.free y P hf);refine wpAny_comprehension_free (use:=use) rfl hs R S.kind S.names (thn (hi pins s σ H _ I hw) λv s₁ h₁=>thn h₁ λitv a G=>?_);obtain⟨it,fp,tn,J,H2,e,r,T,t,f2,W,⟨m0,w0⟩,turn⟩:=G;subst e;refine a4t (cS0 ?_);dsimp only;have Z:(a.heap.push {cls:=.type "list",dict:=none,data:=.seq ([]:List Value).toArray}).objs.size=a.heap.objs.size+1:=a6h ..;have h:∀ b o,a.heap.get? b=some o->(a.heap.push {cls:=.type "list",dict:=none,data:=.seq ([]:List Value).toArray}).get? b=some o:=λb o q=>a4a _ q;have K:(a.heap.push {cls:=.type "list",dict:=none,data:=.seq ([]:List Value).toArray}).get? a.heap.objs.size=some {cls:=.type "list",dict:=none,data:=.seq ([]:List Value).toArray}:=a0c _ rfl;generalize hG3:a.heap.push {cls:=.type "list",dict:=none,data:=.seq ([]:List Value).toArray}=d at Z h K ⊢;have n:(d.push {cls:=.type "dict",data:=.dict #[]}).objs.size=d.objs.size+1:=a6h ..;have i:(pushCells (d.push {cls:=.type "dict",data:=.dict #[]}) scope.names).Ns d.objs.size (λ_=>none):=(Heap.Ns.new d (.type "dict")).keeps (pushCells_keeps _ _);have k:∀ b o,d.get? b=some o->(pushCells (d.push {cls:=.type "dict",data:=.dict #[]}) scope.names).get? b=some o:=λb o q=>pushCells_keeps _ _ b o (a4a _ q);have ok:=cellsFrom_ok scope.names (d.push {cls:=.type "dict",data:=.dict #[]}) (d.objs.size+1) [] ⟨λ_ _ hm=>(nomatch hm),List.Pairwise.nil⟩ (by rw[n];exact a8a _);rw[n]at ok;generalize pushCells (d.push {cls:=.type "dict",data:=.dict #[]}) scope.names=h₁ at i k ok ⊢;have I3:Inv X pins σ H2 {a with heap:=d}:=r.kept (t':=a.toks) h;have look:∀ x,(cellsFrom (d.objs.size+1) scope.names cl).lookup x=((cellsFrom (d.objs.size+1) scope.names []).lookup x).or (cl.lookup x):=λx=>by rw[eZ,List.lookup_append]
 have L:∀ x c,(cellsFrom (d.objs.size+1) scope.names []).lookup x=some c->d.objs.size < c/\scope.names.lookup x=some .cell/\h₁.IsCell c none:=λx c q=>
  ⟨(ok.empty x c (mem_of_lookup q)).2,S.cells _ (lD _ _ x c (mem_of_lookup q)) rfl,(ok.empty x c (mem_of_lookup q)).1⟩
 have j:∀ x c,(cellsFrom (d.objs.size+1) scope.names cl).lookup x=some c->(X.env.cells.lookup x=some c/\scope.names.lookup x≠some .cell)\/(d.objs.size < c/\scope.names.lookup x=some .cell/\h₁.IsCell c none):=λx c q=>by
  rw[look]at q;cases e:(cellsFrom (d.objs.size+1) scope.names []).lookup x with
  | some M=>rw[e]at q;cases q;exact .inr (L x _ e)
  | none=>
    rw[e]at q;refine .inl ⟨U x c q,λz=>?_⟩;obtain⟨M,f⟩:=fY scope.names (d.objs.size+1) x (mem_of_lookup z);rw[e]at f;cases f
 have l:∀ x c,X.env.cells.lookup x=some c->c < d.objs.size:=λx c q=>by
  obtain⟨v,o,ho,hd⟩:=I3.cell x c q;exact a4b ho
 have p:=bG6 (iter:=iter) (elt:=elt) (pos:=pos) (use:=use) (Qf:=Qf) (tk:=a.toks) (h₁:=h₁) S hg hG ht he I3 T j (λy P hk=>by
   rw[look];rcases hk with z | z
   ·obtain⟨c,hc⟩:=Y y P z;cases e:(cellsFrom (d.objs.size+1) scope.names []).lookup y.1 with
    | some M=>exact⟨M,rfl⟩
    | none=>exact⟨c,hc⟩
   ·obtain⟨c,hc⟩:=fY scope.names (d.objs.size+1) y.1 (by rw[← z];exact P);exact⟨c,by rw[hc];rfl⟩) (λx y c q1 Q=>by
   rcases j x c q1 with N | N;rcases j y c Q with u | u;exact I3.ok.inj x y c N.1 u.1;exact absurd u.1 (Nat.not_lt.mpr (a0i (l x c N.1)));rcases j y c Q with u | u;exact absurd N.1 (Nat.not_lt.mpr (a0i (l y c u.1)));have m1:(cellsFrom (d.objs.size+1) scope.names []).lookup x=some c:=by
    obtain⟨M,f⟩:=fY scope.names (d.objs.size+1) x (mem_of_lookup N.2.1);rw[look,f]at q1;cases q1;exact f
   have m2:(cellsFrom (d.objs.size+1) scope.names []).lookup y=some c:=by
    obtain⟨M,f⟩:=fY scope.names (d.objs.size+1) y (mem_of_lookup u.2.1);rw[look,f]at Q;cases Q;exact f
   exact name_of_addr ok.apart (mem_of_lookup m1) (mem_of_lookup m2)) f2 (λb O=>by obtain⟨o,q,_⟩:=T.obj _ _ t b O;exact a4b q)
  (by show a.heap.objs.size < d.objs.size;lia) (λb O=>by
   rcases a2b.mp (r.stkSub b O)with z | z;rw[z];exact r.lt;exact Nat.lt_of_not_le λhle=>r.nofs hle z)
  (λb o q=>a4b (r.bs b o q).1) (r.stray (a8a _) (r.hok.fresh (a8a _))) K (T.keep _ _ _ t λb O o q=>h b o q) i k w0 turn fin
 exact codeAny_compStart_list p (T.self _ 0 _ _ _ (T.keep _ _ _ t λb O o q=>k b o (h b o q)) p)
def bO{X:Cx}{tg iter elt:Expr}{a:List Expr}{scope:Scope}{pos:Pos}{own:List Nat}{d:TI}{g:TG}{f:TT}{h:TE}
  (S:CompScope X scope own) (hi:PI X tg iter d) (i:∀ cl ex s H,PG (cxC X scope cl ex s H) tg g) (j:cS1 own g)
  (k:∀ cl ex s H,cL1 (cxC X scope cl ex s H) a f) (l:∀ cl ex s H,PE (cxC X scope cl ex s H) elt h)
  (n:∀ x,foldedSetIterable iter X.env x=pure x:=by intro _;rfl):PE X (.ListComp elt [⟨tg,iter,a,0⟩] scope pos) (bG5 own d g f h):=by
 intro pins s σ H Q I p;rw[eval_ListComp];refine aM3 (use:=none) S hi i j k l I p n λD C ys H' s' m r t hm str q=>?_;refine⟨m,hm,λh' c=>⟨.ref D,upd H' D (.lst ys),?_,rfl,q D t⟩⟩;exact r.turned (it:=C) (t':=s'.toks) (λb o u e=>(c.2 b u).trans e) str.un str.loc (.inr str.young) str.cell str.pin
def fV{X:Cx}{i:Nat}{x:Str}{tg iter elt:Expr}{d:List Expr}{scope:Scope}{pos c f:Pos}{own:List Nat}{u:TI}{g:TG}{w:TT}{y:TE}
  (B:X.N.Nodup) (j:X.N[i]? = some x) (A:X.env.scope.names.lookup x=some .local)
  (S:CompScope X scope own) (hi:PI X tg iter u) (E:∀ cl ex s H,PG (cxC X scope cl ex s H) tg g) (F:cS1 own g)
  (G:∀ cl ex s H,cL1 (cxC X scope cl ex s H) d w) (J:∀ cl ex s H,PE (cxC X scope cl ex s H) elt y)
  (k:swapsWith (.ListComp elt [⟨tg,iter,d,0⟩] scope pos) (some (.Name x c)) f.line X.env=pure true)
  (K:∀ x,foldedSetIterable iter X.env x=pure x:=by intro _;rfl) :
  PS X (.Assign [.Name x c] (.ListComp elt [⟨tg,iter,d,0⟩] scope pos) f) (λD σ H=>bG5 own u g w y σ H λv L=>D.nx (σ.set i (some v)) L):=by
 intro pins s σ H M I O;rw[exec_Assign_Name_used _ _ _ _ k];refine a3Z (a4J (a3Z ?_));show wpAny _ _ (do let _ ← comprehension (.ListComp elt [⟨tg,iter,d,0⟩] scope pos) scope X.env _ (newList []) false (eval iter X.env) (some (assign (.Name x c) X.env))) _ _ s;refine a3Z (thn (aM3 (use:=some (assign (.Name x c) X.env)) (Qf:=λ_ s'=>SP X pins M .next s') S hi E F G J I O K λD C ys H' s' m P Q hm str q=>?_) λ_ s' R=>a4l (a4l R));show wpAny _ _ (assign (.Name x c) X.env (.ref D)) _ _ s';refine wpAny_assign_Name (aL1 (v:=.ref D) P B j (.inl A) (show fN (.ref D) (Value.ref D)from rfl) (λl n p=>?_) (.inr A));obtain⟨a,h,ha⟩:=p;have r:C≠a:=by
  rcases ha with z | z;rw[z];exact str.loc;exact a0e (str.cell x a z)
 refine⟨m,hm.sameBut h r,λh' t=>⟨_,_,?_,q D Q⟩⟩;exact n.turned (it:=C) (t':=l.toks) (λb o T e=>(t.2 b T).trans e) str.un str.loc (.inr str.young) str.cell str.pin
section
variable{X:Cx}
def cB2(w:X.calm=true):jL X (.builtin "all") (λxs H Q=>∃ (a:Addr) (bs:List Bool),xs=[.ref a]/\SqL X.K H a (bs.map V.bl)/\Q (.bl (bs.all id)) H):=by
 intro pins s σ H xs us Q I r h;obtain⟨a,bs,rfl,ha,q⟩:=h;obtain⟨u,rfl,y⟩:=wV r;cases y;obtain⟨d,j,p,F⟩:=I.list ha;have k:a < s.heap.objs.size:=by obtain⟨_,e,_⟩:=p.isList;exact a4b e
 have B:X.A.in1.handled=none:=I.ok.hd w;refine call_all_walk (wpAny_pyIter_list p.isList ?_);refine⟨s.heap.objs.size,[s.heap.objs.size,a],[s.heap.objs.size],d.toArray.size,_,_,λi=>(bs[i]?).getD true,rfl,Walks.list (A:=X.A.in1) B _ a (a1d k) d.toArray,
  ⟨⟨_,a0c _ rfl,rfl,rfl⟩,p.isList.push _⟩,λi v s' G J C m=>?_,λh' tk D=>?_⟩
 ·have hi:d[i]? = some v:=by simpa using C
  have c:=j.length;have n:i < d.length:=(a2a.mp hi).1;have g:i < bs.length:=by rw[a1a]at c;lia
  obtain⟨u,t,E⟩:=j.get (i:=i) (x:=V.bl bs[i]) (by rw[a8b,a0a g];rfl);rw[hi]at t;cases t;have e:v=Value.bool bs[i]:=E;subst e;simp only[List.getElem?_eq_getElem g,Option.getD_some]at m;exact a4s m
 ·have e:((List.range d.toArray.size).all λi=>(bs[i]?).getD true)=bs.all id:=by
   have c:=j.length;rw[a1a]at c;rw[a1b,← c];rw[a9d,a6g,a6g];constructor;intro l b g;obtain⟨i,hi,rfl⟩:=a7d g;have:=l i (a9c.mpr hi);simp only[List.getElem?_eq_getElem hi,Option.getD_some]at this;exact this;intro l i hi;have f:=a9c.mp hi;simp only[List.getElem?_eq_getElem f,Option.getD_some];exact l _ (a6b f)
  rw[e];exact⟨.bl _,H,I.kept (t':=tk) λb o q=>D b o (λhm=>by
   have z:b=s.heap.objs.size:=by simpa using hm
   rw[z]at q;exact a5e _ (a4b q)) (a4a _ q),rfl,q⟩
noncomputable def Its(x:Str):It:=⟨λi _=>∃ c,x.cps[i]? = some c,λi H v H'=>H'=H/\∃ c,x.cps[i]? = some c/\v=.str ⟨#[c]⟩,λi _=>x.cps[i]? = none⟩
def aZ6{P:Program}{w:World}{K:W.Frag}{tg:Expr}(x:Str)(t:Tok)(it:Addr)(ty:String)(g:ty="str_ascii_iterator"\/ty="str_iterator"):Turn P w K tg (Its x) [it] it (λi h=>h.IsStrIter it ty x t i) where
 mem:=by simp
 obj:=λi h st b a=>by
  have e:b=it:=by simpa using a
  subst e;obtain⟨o,e,c,d⟩:=st;exact⟨o,e,λv z=>by rw[d]at z;cases z⟩
 keep:=λi h h' st k=>by
  obtain⟨o,e,c,d⟩:=st;exact⟨o,k it (by simp) o e,c,d⟩
 item:=by
  intro X u y A B i pins s σ H E I l st C;subst u y A;obtain⟨c,j⟩:=C;obtain⟨m,n,L,p,q,r⟩:=l it (by simp);rcases g with rfl | rfl;refine wpAny_pyNext_ascii_item st j λh' f D=>?_;have F:Inv X pins σ H {s with heap:=h',toks:=s.toks+1}:=I.turned (t':=s.toks+1) (λb o a e=>(D.2 b a).trans e) m n p q r;obtain⟨o,e,G,d⟩:=id f;exact⟨_,rfl,bL3 (s:={s with heap:=h',toks:=s.toks+1}) e G d (by decide) ⟨.str ⟨#[c]⟩,H,F,⟨_,rfl⟩,⟨rfl,c,j,rfl⟩,f,λb a=>(l b a).1⟩⟩;refine wpAny_pyNext_wide_item st j λh' f D=>?_;have F:Inv X pins σ H {s with heap:=h',toks:=s.toks+1}:=I.turned (t':=s.toks+1) (λb o a e=>(D.2 b a).trans e) m n p q r;obtain⟨o,e,G,d⟩:=id f;exact⟨_,rfl,bL3 (s:={s with heap:=h',toks:=s.toks+1}) e G d (by decide) ⟨.str ⟨#[c]⟩,H,F,⟨_,rfl⟩,⟨rfl,c,j,rfl⟩,f,λb a=>(l b a).1⟩⟩
 done:=by
  intro X u y A B i pins s σ H E I l st C;subst u y A;have j:x.cps[i]? = none:=C;obtain⟨m,n,L,p,q,r⟩:=l it (by simp);rcases g with rfl | rfl;exact wpAny_pyNext_ascii_end (I.ok.hd B) st j λh' J=>⟨rfl,I.turned (t':=s.toks) (λb o a e=>J b o a e) m n p q r⟩;exact wpAny_pyNext_wide_end (I.ok.hd B) st j λh' J=>⟨rfl,I.turned (t':=s.toks) (λb o a e=>J b o a e) m n p q r⟩
 self:=λ_ _ _ _ _ st h=>by
  rcases g with rfl | rfl;exact wpAny_pyIter_striter_ascii st h;exact wpAny_pyIter_striter_wide st h
def dZ5:V->Option Int->Option Int->Hp->VK->Prop:=λx lo hi H Q=>∃ z,x=.str z/\z.length<=sizeLine/\Q (.str (Txt.slice z lo hi)) H
def dG6:SlR X dZ5:=by
 intro pins s σ H x v n o lo hi sl Q I f b g e h;obtain⟨z,rfl,m,q⟩:=h;obtain⟨t,rfl⟩:=f;refine⟨"str",_,F.slot_str_getitem.lookup,typeIs_str _ _ _,?_⟩;have fin:∀ c k,EP X pins σ Q (.str (Txt.slice z lo hi) c) {s with toks:=k}:=λc k=>⟨.str _,H,I.tok k,⟨c,rfl⟩,q⟩;have a:(Txt.slice z lo hi).length<=sizeLine:=a4c (Txt.slice_le z lo hi) m;cases g with
 | none=>
   cases e with
   | none=>exact a4y (l:=none) (u:=none) (st:=none) b rfl (post_val_or_str ⟨a,fin⟩)
   | int j d=>exact a4y (l:=none) (u:=some (j,d)) (st:=none) b rfl (post_val_or_str ⟨a,fin⟩)
 | int i t1=>
   cases e with
   | none=>exact a4y (l:=some (i,t1)) (u:=none) (st:=none) b rfl (post_val_or_str ⟨a,fin⟩)
   | int j d=>exact a4y (l:=some (i,t1)) (u:=some (j,d)) (st:=none) b rfl (post_val_or_str ⟨a,fin⟩)
def bG7{ys:List Str}:∀ {us:List Value},cQ (ys.map V.str) us->StrsAre us ys:=by
 induction ys with
 | nil=>intro us r;cases r;exact .nil
 | cons y r a=>
   intro us h;cases h with
   | cons b c=>
     obtain⟨t,rfl⟩:=b;exact .cons y t (a c)
def cB3(K:W.Frag):V->List V->Hp->VK->Prop:=λx vs H Q=>∃ b a ys,x=.str b/\vs=[.ref a]/\SqL K H a (ys.map V.str)/\(ys.map (·.length)).sum+ys.length*b.length<=16777216/\Q (.str (Txt.join b ys)) H
def cS2:MtR X "str.join" (cB3 X.K):=by
 intro pins s σ H x vs v us Q I b c h;obtain⟨d,a,ys,rfl,rfl,ha,e,q⟩:=h;obtain⟨t,rfl⟩:=b;obtain⟨u,rfl,f⟩:=c.one;cases f;obtain⟨g,r,p,_⟩:=I.list ha;exact join_list p.isList (by simpa using bG7 r) e λi k=>⟨.str _,H,I.tok k,⟨i,rfl⟩,q⟩
def aU2:jL X (.builtin "isinstance") (λxs H Q=>∃ x c t b,xs=[x,.ty c]/\TyOf X.K H x t/\W.kitOne X.K t (.type c)=some b/\Q (.bl b) H):=by
 intro pins s σ H xs us Q I r h;obtain⟨x,c,t,b,rfl,ty,e,q⟩:=h;obtain⟨u,d,rfl,f,a⟩:=dF1 r;cases (show d=Value.type c from a);exact bM2 I f ty e λtk=>⟨.bl b,H,I.tok tk,rfl,q⟩
end
structure Tag(Q:VK):Type where mk ::
def Ask(sp:Sp)(vs:List V)(H:Hp)(E:XK)(Q:VK)(_:Tag Q):Prop:=sp vs H Q E
section
variable{σ:St}{H:Hp}{Q:VK}{v x y:V}{n:Nat}{i j:Int}{a b:Bool}{D:Ends}
theorem bN1{r:St}:cA2 0 (some v::r) H Q=Q v H:=propext ⟨λZ1=>by obtain⟨_,e,q⟩:=Z1;cases e;exact q,λq=>⟨_,rfl,q⟩⟩
theorem bN2{o:Option V}{r:St}:cA2 (n+1) (o::r) H Q=cA2 n r H Q:=rfl
theorem dW5:tC v σ H Q=Q v H:=rfl
theorem dG7{r:R2}{a b:TE}:tOp r a b σ H Q=a σ H λx c=>b σ c λy d=>r x y d Q:=rfl
theorem cL3{g:Int->Int->V}:rI0 g (.int i) (.int j) H Q=Q (g i j) H:=propext ⟨λZ1=>by obtain⟨_,_,e,a,q⟩:=Z1;cases e;cases a;exact q,λq=>⟨_,_,rfl,rfl,q⟩⟩
def dS0{C:Int->Int->Prop}{g:Int->Int->V}(h:C i j):rI C g (.int i) (.int j) H Q=Q (g i j) H:=propext ⟨λZ1=>by obtain⟨_,_,e,a,_,q⟩:=Z1;cases e;cases a;exact q,λq=>⟨_,_,rfl,rfl,h,q⟩⟩
theorem dG8{R:Bool->Prop}:(∃ k,V.bl a=V.bl k/\R k)=R a:=propext ⟨λZ1=>by obtain⟨_,e,q⟩:=Z1;cases e;exact q,λq=>⟨_,rfl,q⟩⟩
theorem bN3{t:TE}{R:Bool->Hp->Prop}:dE9 t σ H R=t σ H λx H'=>∃ k,x=.bl k/\R k H':=rfl
theorem cL4{t u:TT}{R:Bool->Hp->Prop}:dV6 t u σ H R=t σ H λc H1=>if c=true then u σ H1 R else R false H1:=rfl
theorem cL5{t u:TS}:dO7 t u D σ H=t {D with nx:=u D} σ H:=rfl
theorem bN4:dE1 D σ H=D.nx σ H:=rfl
theorem bN5{a:TE}:dE2 a D σ H=a σ H λ_ H1=>D.nx σ H1:=rfl
theorem cL6{a:TE}:dV7 a D σ H=a σ H D.rt:=rfl
theorem cL7{c:TT}{t u:TS}:dV8 c t u D σ H=c σ H λb H1=>if b=true then t D σ H1 else u D σ H1:=rfl
theorem cL8{a:TE}{g:TG}:dA6 a g D σ H=a σ H λx b=>g x σ b D.nx:=rfl
theorem aZ7{R:St->Hp->Prop}:aE8 n v σ H R=R (σ.set n (some v)) H:=rfl
theorem cL9{R:List V->Hp->Prop}:dR2 σ H R=R [] H:=rfl
theorem bN6{a:TE}{tr:TA}{R:List V->Hp->Prop}:cA5 a tr σ H R=a σ H λx b=>tr σ b λxs c=>R (x::xs) c:=rfl
theorem bN7{sp:Sp}{E:XK}{t:TA}:bF8 sp [] E t σ H Q=t σ H λvs a=>Ask sp vs a E Q ⟨⟩:=by
 unfold bF8 Ask;simp only[List.append_nil]
theorem dG9{r:List V->Hp->VK->Prop}{t:TA}:tCB r t σ H Q=t σ H λvs a=>r vs a Q:=rfl
theorem bN8{R:Bool->Hp->Prop}:dG5 σ H R=R true H:=rfl
end
noncomputable def gR(H:Hp)(p:Addr):Option (Bool×List V):=match H p with
 | some (.lst xs)=>some (true,xs)
 | some (.tup xs)=>some (false,xs)
 | some (.frz _ (.lst xs))=>some (true,xs)
 | _=>none
def wI{H:Hp}{p:Addr}{xs:List V}(h:H p=some (.lst xs)):gR H p=some (true,xs):=by unfold gR;rw[h]
def dS{H:Hp}{p:Addr}{xs:List V}(h:H p=some (.tup xs)):gR H p=some (false,xs):=by unfold gR;rw[h]
def aZ8{H:Hp}{p:Addr}{o:Obj}{xs:List V}(h:H p=some (.frz o (.lst xs))):gR H p=some (true,xs):=by unfold gR;rw[h]
def fB{K:W.Frag}{H:Hp}{p:Addr}{xs:List V}(h:gR H p=some (true,xs)):SqL K H p xs:=by
 unfold gR at h;split at h;rename_i e;cases h;exact .inl (.inl e);cases h;rename_i o ys e;cases h;exact .inl (.inr ⟨o,e⟩);cases h
def eP{K:W.Frag}{H:Hp}{p:Addr}{xs:List V}(h:gR H p=some (false,xs)):SqT K H p xs:=by
 unfold gR at h;split at h;cases h;rename_i e;cases h;exact .inl (.inl e);cases h;cases h
noncomputable def ixF(H:Hp)(x y:V):Option V:=match x,y with
 | .ref p,.int i=>(gR H p).bind λq=>atI q.2 i
 | .str z,.int i=>if z.length<=sizeLine then(atI z.cps.toList i).map λc=>.str ⟨#[c]⟩else none
 | _,_=>none
noncomputable def dH0(H:Hp)(x:V):Option Nat:=match x with
 | .ref p=>(gR H p).map (·.2.length)
 | .str z=>if z.length<=sizeLine then some z.length else none
 | _=>none
def dW6:R2:=λx y H Q=>∃ v,ixF H x y=some v/\Q v H
section
variable{X:Cx}
def dW7:IxR X dW6:=by
 intro a d pins s σ H x y v u Q I g j h k;obtain⟨z,e,q⟩:=h;unfold ixF at e;split at e
 ·rename_i p i;cases f:gR H p with
  | none=>rw[f]at e;cases e
  | some w=>
    obtain⟨b,xs⟩:=w;rw[f]at e;cases b with
    | true=>exact cR6 a d pins s σ H _ _ v u Q I g j ⟨p,xs,i,z,rfl,rfl,fB f,e,q⟩ k
    | false=>exact dF6 a d pins s σ H _ _ v u Q I g j ⟨p,xs,i,z,rfl,rfl,eP f,e,q⟩ k
 ·rename_i t i;split at e
  ·rename_i m;cases l:atI t.cps.toList i with
   | none=>rw[l]at e;cases e
   | some c=>
     rw[l]at e;cases e;exact dF7 a d pins s σ H _ _ v u Q I g j ⟨t,i,c,rfl,rfl,m,l,q⟩ k
  ·cases e
 ·cases e
def cB4:List V->Hp->VK->Prop:=λxs H Q=>∃ x n,xs=[x]/\dH0 H x=some n/\Q (.int n) H
def bE:jL X (.builtin "len") cB4:=by
 intro pins s σ H xs us Q I r h;obtain⟨x,n,rfl,e,q⟩:=h;unfold dH0 at e;split at e
 ·rename_i p;cases a:gR H p with
  | none=>rw[a]at e;cases e
  | some w=>
    obtain⟨b,xs⟩:=w;rw[a]at e;cases e;cases b with
    | true=>exact vG pins s σ H _ us Q I r ⟨p,xs,rfl,.inl (fB a),q⟩
    | false=>exact vG pins s σ H _ us Q I r ⟨p,xs,rfl,.inr (eP a),q⟩
 ·rename_i z;split at e;rename_i c;cases e;exact aM0 pins s σ H _ us Q I r ⟨z,rfl,c,q⟩;cases e
 ·cases e
def dW8:V->Option Int->Option Int->Hp->VK->Prop:=λx lo hi H Q=>match x with
 | .str z=>z.length<=sizeLine/\Q (.str (Txt.slice z lo hi)) H
 | .ref p=>(∃ xs,gR H p=some (true,xs)/\∀ r,H r=none->Q (.ref r) (upd H r (.lst (aT7 xs lo hi)))) \/
   ∃ xs,gR H p=some (false,xs)/\¬ (HT.sIx xs.length 0 lo=0/\HT.sIx xs.length xs.length hi=xs.length)/\∀ r,H r=none->Q (.ref r) (upd H r (.tup (aT7 xs lo hi)))
 | _=>False
def dS1:SlR X dW8:=by
 intro pins s σ H x v a b lo hi sl Q I c d e f h;unfold dW8 at h;split at h;rename_i z;exact dG6 pins s σ H _ v a b lo hi sl Q I c d e f ⟨z,rfl,h.1,h.2⟩;rename_i p;rcases h with⟨xs,g,q⟩ | ⟨xs,g,hw,q⟩;exact cR7 pins s σ H _ v a b lo hi sl Q I c d e f ⟨p,xs,rfl,fB g,q⟩;exact dF4 pins s σ H _ v a b lo hi sl Q I c d e f ⟨p,xs,rfl,eP g,hw,q⟩;exact h.elim
def dS2(K:W.Frag)(b:TE):TI:=λσ H R=>b σ H λx a=>match x with
 | .str z=>R (Its z) a
 | .ref p=>(∃ xs,gR a p=some (true,xs)/\R (Itl K p) a)\/∃ xs,gR a p=some (false,xs)/\R (Itt K p) a
 | _=>False
def dH1{tg l:Expr}{k:TE}(n:PE X l k):PI X tg l (dS2 X.K k):=by
 intro pins s σ H R I h;refine thn (n pins s σ H _ I h) λv s1 Z0=>?_;obtain⟨x,i,c,m,f⟩:=Z0;split at f
 ·rename_i x;obtain⟨t,rfl⟩:=m;cases ha:x.cps.all (· < 128)with
  | true=>
    refine wpAny_pyIter_ascii ha ?_;refine⟨s1.heap.objs.size,[s1.heap.objs.size],_,_,i,rfl,c.kept (t':=s1.toks) λb o e=>a4a _ e,aZ6 x t _ _ (.inl rfl),⟨_,a0c _ rfl,rfl,rfl⟩,λb d=>?_,f⟩;have e:b=s1.heap.objs.size:=by simpa using d
    subst e;exact c.fpOk (a8a _) (c.hok.fresh (a8a _))
  | false=>
    refine wpAny_pyIter_wide ha ?_;refine⟨s1.heap.objs.size,[s1.heap.objs.size],_,_,i,rfl,c.kept (t':=s1.toks) λb o e=>a4a _ e,aZ6 x t _ _ (.inr rfl),⟨_,a0c _ rfl,rfl,rfl⟩,λb d=>?_,f⟩;have e:b=s1.heap.objs.size:=by simpa using d
    subst e;exact c.fpOk (a8a _) (c.hok.fresh (a8a _))
 ·rename_i a;cases m;rcases f with⟨xs,j,q⟩ | ⟨xs,j,q⟩
  ·obtain⟨g,r,p,u⟩:=c.list (fB j);refine wpAny_pyIter_list p.isList ?_;refine⟨s1.heap.objs.size,[s1.heap.objs.size],_,_,i,rfl,c.kept (t':=s1.toks) λb o e=>a4a _ e,bL4 a _,⟨_,a0c _ rfl,rfl,rfl⟩,λb d=>?_,q⟩;have e:b=s1.heap.objs.size:=by simpa using d
   subst e;exact c.fpOk (a8a _) (c.hok.fresh (a8a _))
  ·obtain⟨g,r,p,u⟩:=c.tuple (eP j);refine a4B (show s1.heap.IsTuple a g.toArray from p) ?_;refine⟨s1.heap.objs.size,[s1.heap.objs.size],_,_,i,rfl,c.kept (t':=s1.toks) λb o e=>a4a _ e,bF3 a _,⟨_,a0c _ rfl,rfl,rfl⟩,λb d=>?_,q⟩;have e:b=s1.heap.objs.size:=by simpa using d
   subst e;exact c.fpOk (a8a _) (c.hok.fresh (a8a _))
 ·exact f.elim
noncomputable def cM0(N:List Str)(sc scope:Scope)(own:List Nat):Bool:=
 (match scope.kind with | .function=>true | _=>false) &&
 scope.names.all (λy=>match y.2 with
  | .cell=>(match scope.names.lookup y.1 with | some .cell=>true | _=>false)
  | .local=>(match scope.names.lookup y.1 with | some .local=>true | _=>false)
  | .free=>(match sc.names.lookup y.1 with | some .cell=>true | some .free=>true | _=>false)
  | _=>true) &&
 (List.range N.length).all λi=>match N[i]? with
  | some x=>(match scope.names.lookup x with | some .local=>own.contains i | some .cell=>own.contains i | _=>true)
  | none=>true
def csc{scope:Scope}(own:List Nat)(h:cM0 X.N X.env.scope scope own=true)(g:X.calm=true:=by rfl):CompScope X scope own:=by
 unfold cM0 at h;rw[a3f,a3f]at h;obtain⟨⟨j,b⟩,d⟩:=h;rw[a6g]at b d;refine⟨?_,λy a e=>?_,λy a e=>?_,λy a e=>?_,λi x f c=>?_,g⟩;revert j;cases scope.kind<;>simp;have:=b y a;rw[e]at this;dsimp only at this;split at this;assumption;cases this;have:=b y a;rw[e]at this;dsimp only at this;split at this;assumption;cases this;have:=b y a;rw[e]at this;dsimp only at this;show X.env.scope.names.lookup y.1=some .cell\/X.env.scope.names.lookup y.1=some .free;split at this;rename_i q;exact .inl q;rename_i q;exact .inr q;cases this;have hi:i < X.N.length:=(a2a.mp f).1;have:=d i (a9c.mpr hi);rw[f]at this;dsimp only at this;rcases c with c | c<;>rw[c]at this<;>simpa using this
end
structure ItIs(J:It)(xs:List V)(P:Hp->Prop):Prop where
 go:∀ H i x,P H->xs[i]? = some x->J.go i H
 yld:∀ H i x y H',P H->xs[i]? = some x->J.yld i H y H'->H'=H/\y=x
 stop:∀ H i,P H->xs[i]? = none->J.stop i H
def aM4{K:W.Frag}{a:Addr}{xs:List V}:ItIs (Itl K a) xs (λH=>SqL K H a xs) where
 go:=λH i x h e=>⟨xs,x,h,e⟩
 yld:=λH i x y H' h e ⟨b,c⟩=>⟨b,by have:=c xs h;rw[e]at this;exact(a7a this).symm⟩
 stop:=λH i h e=>⟨xs,h,a3d.mp e⟩
def cB5{K:W.Frag}{a:Addr}{xs:List V}:ItIs (Itt K a) xs (λH=>SqT K H a xs) where
 go:=λH i x h e=>⟨xs,x,h,e⟩
 yld:=λH i x y H' h e ⟨b,c⟩=>⟨b,by have:=c xs h;rw[e]at this;exact(a7a this).symm⟩
 stop:=λH i h e=>⟨xs,h,a3d.mp e⟩
noncomputable def cS3(lo:Int)(n:Nat):List V:=(List.range n).map λ(i:Nat)=>V.int (lo+(i:Int))
def pO{lo:Int}{n i:Nat}{x:V}(h:(cS3 lo n)[i]? = some x):i < n/\x=.int (lo+i):=by
 unfold cS3 at h;rw[a8b]at h;cases e:(List.range n)[i]? with
 | none=>rw[e]at h;cases h
 | some k=>
   rw[e]at h;obtain⟨hi,a⟩:=a2a.mp e;rw[a1f]at hi;rw[List.getElem_range]at a;subst a;exact⟨hi,(a7a h).symm⟩
def fP(lo:Int)(n:Nat):(cS3 lo n).length=n:=by simp[cS3]
def wJ{lo:Int}{n:Nat}{P:Hp->Prop}:ItIs (Itr lo n) (cS3 lo n) P where
 go:=λH i x _ e=>(pO e).1
 yld:=λH i x y H' _ e ⟨a,b⟩=>⟨a,by rw[(pO e).2];exact b⟩
 stop:=λH i _ e=>by
  have:=a3d.mp e;rw[fP]at this;exact this
noncomputable def hU(x:Str):List V:=x.cps.toList.map λc=>.str ⟨#[c]⟩
def iO(x:Str):(hU x).length=x.length:=by simp[hU,Str.length]
def cB6{x:Str}{P:Hp->Prop}:ItIs (Its x) (hU x) P where
 go:=λH i v _ e=>by
  unfold hU at e;rw[a8b]at e;cases q:x.cps.toList[i]? with
  | none=>rw[q]at e;cases e
  | some c=>exact⟨c,by simpa using q⟩
 yld:=λH i v y H' _ e ⟨b,c,d,f⟩=>⟨b,by
  unfold hU at e;rw[a8b]at e;have q:x.cps.toList[i]? = some c:=by simpa using d
  rw[q]at e;cases e;exact f⟩
 stop:=λH i _ e=>by
  have a:=a3d.mp e;rw[iO]at a;show x.cps[i]? = none;rw[Array.getElem?_eq_none_iff];exact a
def aU3{J:It}{xs:List V}{P:Hp->Prop}(w:ItIs J xs P){own:List Nat}{g:TG}{l:TT}{n:TE}{σ:St}{o:Hp}{F:List V->Hp->Prop}(Pv:Nat->List V->Hp->Prop)(h0:Pv 0 [] o)
  (r:∀ i ys H,Pv i ys H->P H/\ys.length<=i) (hn:xs.length<=sizeLine)
  (step:∀ i x ys H (N:List V->Hp->Prop),xs[i]? = some x->Pv i ys H->(∀ a H',Pv (i+1) a H'->N a H')->g x (blank own σ) H λc j=>l c j λb f=>if b=true then n c f λv d=>N (ys++[v]) d else N ys f)
  (fin:∀ ys H,Pv xs.length ys H->F ys H) :
  ∃ W:Nat->Nat->List V->Hp->Prop,(∃ m,W 0 m [] o)/\∀ i m ys H,W i m ys H->ys.length<=sizeLine /\
  ((J.stop i H/\F ys H)\/(J.go i H/\∀ x H',J.yld i H x H'->g x (blank own σ) H' λc j=>l c j λb f=>
    if b=true then n c f λv d=>∃ m',m' < m/\W (i+1) m' (ys++[v]) d else ∃ m',m' < m/\W (i+1) m' ys f)):=by
 refine⟨λi m ys H=>m=xs.length-i/\i<=xs.length/\Pv i ys H,⟨xs.length,by simp,a5c _,h0⟩,?_⟩;rintro i m ys H ⟨rfl,hi,p⟩;obtain⟨k,s⟩:=r i ys H p;refine⟨by lia,?_⟩;by_cases h:i < xs.length;have e:xs[i]? = some xs[i]:=a0a h;refine .inr ⟨w.go H i _ k e,λx H' y=>?_⟩;obtain⟨rfl,rfl⟩:=w.yld H i _ x H' k e y;exact step i _ ys H' (λa d=>∃ m',m' < xs.length-i/\m'=xs.length-(i+1)/\i+1<=xs.length/\Pv (i+1) a d) e p λa d q=>⟨xs.length-(i+1),by lia,rfl,h,q⟩;have e:i=xs.length:=by lia
 subst e;exact .inl ⟨w.stop H _ k (a3d.mpr (a8a _)),fin ys H p⟩
def dH2{J:It}{xs:List V}{P:Hp->Prop}(w:ItIs J xs P){g:TG}{d:TS}{D:Ends}{σ:St}{H:Hp}(Pv:Nat->St->Hp->Prop)(h0:Pv 0 σ H)(h:∀ i σ H,Pv i σ H->P H)
  (j:∀ i x σ H,xs[i]? = some x->Pv i σ H->g x σ H λa c=>d {D with nx:=Pv (i+1),ct:=Pv (i+1),bk:=D.nx} a c) (hd:∀ σ H,Pv xs.length σ H->D.nx σ H) :
  ∃ W:Nat->Nat->St->Hp->Prop,(∃ m,W 0 m σ H)/\∀ i m σ H,W i m σ H ->
    (J.stop i H/\D.nx σ H)\/(J.go i H/\∃ N:St->Hp->Prop,(∀ σ' H',N σ' H'->∃ f,f < m/\W (i+1) f σ' H')/\∀ x H',J.yld i H x H'->g x σ H' λa c=>d {D with nx:=N,ct:=N,bk:=D.nx} a c):=by
 refine⟨λi m σ H=>m=xs.length-i/\i<=xs.length/\Pv i σ H,⟨xs.length,by simp,a5c _,h0⟩,?_⟩;rintro i m σ H ⟨rfl,hi,p⟩;have q:=h i σ H p;by_cases b:i < xs.length;have e:xs[i]? = some xs[i]:=a0a b;refine .inr ⟨w.go H i _ q e,Pv (i+1),λσ' H' k=>⟨xs.length-(i+1),by lia,rfl,b,k⟩,λx H' y=>?_⟩;obtain⟨rfl,rfl⟩:=w.yld H i _ x H' q e y;exact j i _ σ _ e p;have e:i=xs.length:=by lia
 subst e;exact .inl ⟨w.stop H _ q (a3d.mpr (a8a _)),hd σ H p⟩
section
variable{σ:St}{H:Hp}{Q:VK}{z:Str}{p q:Addr}{xs ys:List V}{i j:Int}{b:Bool}{v x y:V}
def cB7(h:z.length<=sizeLine):dH0 H (.str z)=some z.length:=by show(if z.length<=sizeLine then some z.length else none)=_;rw[a4i h]
def aF5(h:gR H p=some (b,xs)):dH0 H (.ref p)=some xs.length:=by show(gR H p).map (·.2.length)=_;rw[h];rfl
def dH3{n:Nat}(h:dH0 H x=some n):cB4 [x] H Q=Q (.int n) H:=
 propext ⟨λZ1=>by obtain⟨a,b,e,f,q⟩:=Z1;cases e;rw[h]at f;cases f;exact q,λq=>⟨_,n,rfl,h,q⟩⟩
def aA2(h:gR H p=some (b,xs)):cB4 [.ref p] H Q=Q (.int xs.length) H:=dH3 (aF5 h)
def bN9(h:gR H p=some (b,xs))(e:atI xs i=some v):ixF H (.ref p) (.int i)=some v:=by show(gR H p).bind (λq=>atI q.2 i)=_;rw[h];exact e
def cS4{c:Nat}(h:z.length<=sizeLine)(e:atI z.cps.toList i=some c):ixF H (.str z) (.int i)=some (.str ⟨#[c]⟩):=by
 show(if z.length<=sizeLine then(atI z.cps.toList i).map λc=>V.str ⟨#[c]⟩else none)=_;rw[a4i h,e];rfl
end
def cB8{X:Cx}{x:Str}{i:Int}{pos:Pos}(a:Gl X x)(h:∃ t,X.mg x=some (.int i t))(hd:(x==("__debug__":Str))=false:=by decide):PE X (.Name x pos) (tC (.int i)):=
 let ⟨_,e⟩:=h;cQ5 a e ⟨_,rfl⟩ hd
section
variable{σ:St}{H:Hp}{Q:VK}{p:Addr}{xs:List V}{k:Int}{j:Nat}{v:V}
def cS5{sp:Sp}{vs:List V}{E:XK}{t:Tag Q}(h:sp vs H Q E):Ask sp vs H E Q t:=h
def bO0{α:Type}{ys:List α}{i:Int}(h0:0<=i)(a:i < ys.length):∃ c,atI ys i=some c:=by
 obtain⟨n,rfl⟩:=Int.eq_ofNat_of_zero_le h0;have hn:n < ys.length:=by lia
 exact⟨ys[n],bM6 (a0a hn)⟩
end
end L2
namespace L2
open PySem
def dH4{i j:Int}{g:Int->Int->V}{H:Hp}{Q:VK}(h:0 < j):rI (λ_ j=>0 < j) g (.int i) (.int j) H Q=Q (g i j) H:=dS0 h
theorem cM1{t:TA}{σ:St}{H:Hp}{Q:VK}:dW4 t σ H Q=t σ H λxs a=>xs.length<=sizeLine/\∀ p,a p=none->Q (.ref p) (upd a p (.lst xs)):=rfl
theorem dH5{K:W.Frag}{T:String}{r:V->List V->Hp->VK->Prop}{to:TE}{t:TA}{σ:St}{H:Hp}{Q:VK}:tBM K T r to t σ H Q=to σ H λx a=>tyV K T x a/\t σ a λxs b=>r x xs b Q:=rfl
def bO1{α a:Type}{f:α->a}{ys:List α}{i:Int}:atI (ys.map f) i=(atI ys i).map f:=by
 unfold atI;rw[a1a];cases ixN ys.length i with
 | none=>rfl
 | some j=>simp
def bU{H:Hp}{p:Addr}{o:HO}(h:H p=none):aF2 H (upd H p o):=λb u e=>by rw[aL (bD e h)];exact e
def dS3(own:List Nat)(g:TG)(e:TT)(f:TE)(σ:St)(J:It)(h:Hp)(F:List V->Hp->Prop):Prop:=
 ∃ W:Nat->Nat->List V->Hp->Prop,(∃ m,W 0 m [] h)/\∀ i m ys H,W i m ys H->ys.length<=sizeLine /\
   ((J.stop i H/\F ys H)\/(J.go i H/\∀ x H',J.yld i H x H'->g x (blank own σ) H' λa j=>e a j λb d=>
     if b=true then f a d λv k=>∃ c,c < m/\W (i+1) c (ys++[v]) k else ∃ c,c < m/\W (i+1) c ys d))
def dZ6(g:TG)(c:TS)(D:Ends)(σ:St)(J:It)(d:Hp):Prop:=∃ W:Nat->Nat->St->Hp->Prop,(∃ m,W 0 m σ d)/\∀ i m σ H,W i m σ H ->
 (J.stop i H/\D.nx σ H)\/(J.go i H/\∃ N:St->Hp->Prop,(∀ σ' H',N σ' H'->∃ b,b < m/\W (i+1) b σ' H')/\∀ x H',J.yld i H x H'->g x σ H' λa e=>c {D with nx:=N,ct:=N,bk:=D.nx} a e)
theorem bO2{own:List Nat}{a:TI}{g:TG}{b:TT}{c:TE}{σ:St}{H:Hp}{Q:VK}:bG5 own a g b c σ H Q=a σ H λJ d=>dS3 own g b c σ J d λys H'=>∀ p,H' p=none->Q (.ref p) (upd H' p (.lst ys)):=rfl
theorem cM2{a:TI}{g:TG}{b:TS}{D:Ends}{σ:St}{H:Hp}:dO8 a g b D σ H=a σ H λJ H1=>dZ6 g b D σ J H1:=rfl
def dH6(K:W.Frag)(x:V)(a:Hp)(R:It->Hp->Prop):Prop:=match x with
 | .str z=>R (Its z) a
 | .ref p=>(∃ xs,gR a p=some (true,xs)/\R (Itl K p) a)\/∃ xs,gR a p=some (false,xs)/\R (Itt K p) a
 | _=>False
theorem bO3{K:W.Frag}{a:TE}{σ:St}{H:Hp}{R:It->Hp->Prop}:dS2 K a σ H R=a σ H λx b=>dH6 K x b R:=rfl
def cB9{K:W.Frag}{p:Addr}{xs:List V}{H:Hp}{R:It->Hp->Prop}(h:gR H p=some (true,xs)):dH6 K (.ref p) H R=R (Itl K p) H:=
 propext ⟨λq=>by
  rcases q with⟨_,_,q⟩ | ⟨_,e,_⟩;exact q;rw[h]at e;exact(nomatch e),λq=>.inl ⟨xs,h,q⟩⟩
theorem bO4{a:TA}{σ:St}{H:Hp}{R:It->Hp->Prop}:cQ7 a σ H R=a σ H λvs H1=>∃ j:Int,vs=[.int j] /\ -(2 ^ 62)<=j/\j < 2 ^ 62/\R (Itr 0 j.toNat) H1:=rfl
theorem aM5{σ:St}:blank [] σ=σ:=rfl
theorem aM6{i:Nat}{r:List Nat}{σ:St}:blank (i::r) σ=blank r (σ.set i none):=rfl
def aZ9{i j:Int}:decide (V.int i=V.int j)=decide (i=j):=by
 by_cases h:i=j;subst h;simp;rw[a4k h,a4k λe=>h (V.int.inj e)]
def cS6(sep:Str)(ys:List Str):(Txt.join sep ys).length<=(ys.map (·.length)).sum+ys.length*sep.length:=by
 show(Builtin.Str.glued sep ys).length<=_;rw[StrLaws.glued_eq_join];exact StrLaws.join_length_le sep ys
end L2
namespace L2
def up{p q:Prop}(h:p=q)(a:q):p:=by rw[h];exact a
def cC0{K:PySem.W.Frag}{t:String}:PySem.W.kitOne K (.type t) (.type t)=some true:=by
 unfold PySem.W.kitOne;rw[a4i (by simp)]
open PySem PySem.Spec PyProof.Rows
section
variable{prog:Program}{w:World}{A:Around}{E:Value->Shared->Prop}
theorem wZ{it:Addr}{x:Str}{t:Tok}{ty:String}(f:ty="str_ascii_iterator"\/ty="str_iterator"):∀ (n i:Nat) (s:Shared) (Q:List Value->Shared->Prop),s.heap.IsStrIter it ty x t i->i+n<=x.length ->
  (∀ h' tk us,h'.IsStrIter it ty x t (i+n)->Heap.SameBut it s.heap h'->cQ (((hU x).drop i).take n) us->Q us {s with heap:=h',toks:=tk})->wpAny (model prog w) A (draw (.ref it) n) Q E s
 | 0,i,s,Q,hit,_,j=>by
   show wpAny _ _ (pure []) Q E s;exact a4l (by simpa using j s.heap s.toks [] hit (Heap.SameBut.refl ..) (by simpa using(.nil:cQ [] [])))
 | n+1,i,s,Q,hit,hle,j=>by
   have g:i < x.cps.size:=by have:x.length=x.cps.size:=rfl;lia
   have k:x.cps[i]? = some x.cps[i]:=by simp[g]
   have hd:(hU x).drop i=V.str ⟨#[x.cps[i]]⟩::(hU x).drop (i+1):=by
    rw[List.drop_eq_getElem_cons (by rw[iO];exact g)];congr 1;simp[hU]
   show wpAny _ _ (pyNext (.ref it) >>= _) Q E s;have go:∀ b,b.IsStrIter it ty x t (i+1)->Heap.SameBut it s.heap b ->
     wpAny (model prog w) A (match (some (Value.str ⟨#[x.cps[i]]⟩ s.toks))with | none=>pure [] | some v=>do return v::(← holding [v] (draw (.ref it) n))) Q E {s with heap:=b,toks:=s.toks+1}:=λb a c=>by
    refine a3Z (a4p (wZ f n (i+1) _ _ a (by lia) λh tk us d e l=>a4l ?_));refine j h tk _ (by rw[show i+(n+1)=i+1+n by lia];exact d) (c.trans e) ?_;rw[hd,List.take_succ_cons];exact .cons ⟨_,rfl⟩ l
   rcases f with rfl | rfl;exact a3Z (wpAny_pyNext_ascii_item hit k λb a c=>go b a c);exact a3Z (wpAny_pyNext_wide_item hit k λb a c=>go b a c)
def aF6{s:Shared}{x:Str}{t:Tok}{targets:List (Bool×(Value->Sem Unit))}{Q:Unit->Shared->Prop}(hh:A.handled=none)
  (hn:targets.length=x.length) (hstar:targets.findIdx? (·.1)=none)
  (h:∀ h' tk us,Heap.ExtBut s.heap.objs.size s.heap h'->cQ (hU x) us->wpAny (model prog w) A (assignInOrder (targets.map (·.2)) us) Q E {s with heap:=h',toks:=tk}) :
  wpAny (model prog w) A (unpack (.str x t) targets) Q E s:=by
 unfold unpack;rw[hn,hstar];refine a3Z (a4p ?_);unfold unpackItems;refine a3Z ?_;unfold notIterableAtAll;refine a3Z (wpAny_specialOf (typeIs_str _ _ _) F.slot_str_iter.lookup ?_);refine a4l ?_;simp only[Bool.false_eq_true,if_false];have go:∀ ty,(ty="str_ascii_iterator"\/ty="str_iterator")->wpAny (model prog w) A (do
   let items ← holding [Value.ref s.heap.objs.size] (draw (.ref s.heap.objs.size) x.length)
   if items.length < x.length then
    rule "unpack.too-few";raiseError "ValueError" s!"not enough values to unpack (expected {x.length}, got {items.length})"
   if(← holding items (pyNext (.ref s.heap.objs.size))).isSome then
    rule "unpack.too-many";raiseError "ValueError" s!"too many values to unpack (expected {x.length})"
   return items:Sem (List Value)) (λus s'=>wpAny (model prog w) A (assignInOrder (targets.map (·.2)) us) Q E s') E {s with heap:=s.heap.push {cls:=.type ty,data:=.fields #[.str x t,.int 0 0]}}:=by
  intro ty hty;refine a3Z (a4p (wZ (it:=s.heap.objs.size) (x:=x) (t:=t) hty x.length 0 _ _ ⟨_,a0c _ rfl,rfl,rfl⟩ (by lia) λh₁ tk us hit₁ hs₁ hv=>?_));have hv':cQ (hU x) us:=by
   have e:((hU x).drop 0).take x.length=hU x:=by
    rw[List.drop_zero];exact List.take_of_length_le (by rw[iO];exact a8a _)
   rw[e]at hv;exact hv
  have hl:us.length=x.length:=by rw[← hv'.length,iO]
  rw[a4j (by lia)];have hend:x.cps[x.length]? = none:=by simp[Str.length]
  rw[a0g]at hit₁;have fin:∀ h₂,Heap.ExtBut s.heap.objs.size h₁ h₂->wpAny (model prog w) A (do
    if(none:Option Value).isSome then
     rule "unpack.too-many";raiseError "ValueError" s!"too many values to unpack (expected {x.length})"
    return us:Sem (List Value)) (λus s'=>wpAny (model prog w) A (assignInOrder (targets.map (·.2)) us) Q E s') E {s with heap:=h₂,toks:=tk}:=by
   intro h₂ he₂;simp only[Option.isSome_none,Bool.false_eq_true,if_false];exact a4l (h h₂ tk us (λb o hb e=>he₂ b o hb (hs₁.extBut b o hb (a4a _ e))) hv')
  rcases hty with rfl | rfl;exact a3Z (a4p (wpAny_pyNext_ascii_end hh hit₁ hend λh₂ he₂=>fin h₂ he₂));exact a3Z (a4p (wpAny_pyNext_wide_end hh hit₁ hend λh₂ he₂=>fin h₂ he₂))
 cases ha:x.cps.all (· < 128)with
 | true=>exact a3Z (a4p (wpAny_pyIter_ascii ha (go _ (.inl rfl))))
 | false=>exact a3Z (a4p (wpAny_pyIter_wide ha (go _ (.inr rfl))))
end
section
variable{X:Cx}{pos:Pos}
def bG8(K:W.Frag)(n:Nat)(t:TGs):TG:=λv σ H Q=>match v with
 | .str z=>z.length=n/\t (hU z) σ H Q
 | .ref a=>∃ xs,gR H a=some (false,xs)/\xs.length=n/\t xs σ H Q
 | _=>False
def cS7{es:List Expr}{k:Nat}{t:TGs}{n:Nat}(g:X.calm=true)(h:PGs X es t)
  (hn:(assignEach es X.env).length=n:=by rfl) (d:(assignEach es X.env).findIdx? (·.1)=none:=by rfl):PG X (.Tuple es k pos) (bG8 X.K n t):=by
 intro pins s σ H v u Q I r c;unfold bG8 at c;split at c;rename_i z;obtain⟨f,c⟩:=c;obtain⟨tk,rfl⟩:=r;rw[assign_Tuple];refine a3Z (a4J (aF6 (I.ok.hd g) (hn.trans f.symm) d λh' tk us i j=>?_));have l:Inv X pins σ H {s with heap:=h',toks:=tk}:=I.kept λb o e=>i b o (a1d (a4b e)) e;exact h pins _ σ H _ _ Q l j c;rename_i a;obtain⟨xs,m,f,c⟩:=c;exact dE3 (k:=k) (pos:=pos) g h hn d pins s σ H _ u Q I r ⟨a,xs,rfl,eP m,f,c⟩;exact c.elim
end
section
variable{X:Cx}
def cM3:List V->Hp->VK->Prop:=λxs H Q=>∃ p b ys,xs=[.ref p]/\gR H p=some (b,ys)/\∀ l,H l=none->Q (.ref l) (upd H l (.lst ys))
def oF:jL X (.type "list") cM3:=by
 intro pins s σ H xs us Q I r h;obtain⟨p,b,ys,rfl,a,q⟩:=h;cases b with
 | true=>exact vH pins s σ H _ us Q I r ⟨p,ys,rfl,.inl (fB a),q⟩
 | false=>exact vH pins s σ H _ us Q I r ⟨p,ys,rfl,.inr (eP a),q⟩
def dH7:List V->Hp->VK->Prop:=λxs H Q=>∃ p b ys,xs=[.ref p]/\gR H p=some (b,ys)/\if b=true then ∀ l,H l=none->Q (.ref l) (upd H l (.tup ys))else Q (.ref p) H
def iZ:jL X (.type "tuple") dH7:=by
 intro pins s σ H xs us Q I r h;obtain⟨p,b,ys,rfl,a,q⟩:=h;cases b with
 | true=>exact pM pins s σ H _ us Q I r ⟨p,ys,rfl,.inl ⟨fB a,by simpa using q⟩⟩
 | false=>exact pM pins s σ H _ us Q I r ⟨p,ys,rfl,.inr ⟨eP a,by simpa using q⟩⟩
def cS8:R2:=λx y H Q=>match x,y with
 | .int i,.int j=>dE5 i j/\Q (.int (i*j)) H
 | .str z,.int i=>z.length<=1000/\0<=i/\i<=1000/\∀ y:Str,y.length<=z.length*i.toNat->y=Txt.mul z i->Q (.str y) H
 | _,_=>False
def cS9(z:Str)(i:Int)(h0:0<=i):(Txt.mul z i).length<=z.length*i.toNat:=by
 unfold Txt.mul;by_cases b:i < 1;rw[a4i b];exact a5c _;rw[a4j b];by_cases c:(i==1||z.length==0)=true
 ·rw[a4i c];have:1<=i.toNat:=by lia
  calc z.length=z.length*1:=by rw[Nat.mul_one]
   _<=z.length*i.toNat:=Nat.mul_le_mul_left _ this
 ·rw[a4j c];have a:∀ (k:Nat) (acc:Array Nat),((List.replicate k z.cps).foldl (· ++ ·) acc).size=acc.size+k*z.cps.size:=by
   intro k
   induction k with
   | zero=>intro acc;simp
   | succ k d=>
     intro acc;rw[List.replicate_succ,List.foldl_cons,d,Array.size_append,Nat.succ_mul];lia
  show((List.replicate i.toNat z.cps).foldl (· ++ ·) #[]).size<=_;rw[a];show 0+_<=_;rw[a0g,Nat.mul_comm];exact a8a _
def dH8:OpR X (binaryOp .Mult) cS8:=by
 intro pins s σ H x y v u Q I a b h;unfold cS8 at h;split at h;exact dE7 pins s σ H _ _ v u Q I a b ⟨_,_,rfl,rfl,h.1,h.2⟩
 ·rename_i z i;obtain⟨d,e,j,q⟩:=h;obtain⟨t,rfl⟩:=a;obtain⟨c,rfl⟩:=b;have f:z.length*i.toNat<=1000*1000:=Nat.mul_le_mul d (by lia);refine SB.mul ⟨?_,λha g=>?_,λha g=>?_⟩ λc k=>⟨.str _,H,I.tok k,⟨c,rfl⟩,q _ (cS9 z i e) rfl⟩;rw[a4k (by lia),a4k (by lia)];rfl
  ·have l:(1000:Int)<=(2 ^ 63-1) / i:=by
    rw[Int.le_ediv_iff_mul_le (by lia)];lia
   lia
  ·unfold Builtin.Str.tooLong;exact a4k (by rw[a4E];lia)
 ·exact h.elim
end
section
variable{H:Hp}{Q:VK}{i j:Int}{p:Addr}{b:Bool}{xs:List V}
def tyL{K:W.Frag}(h:H p=some (.lst xs)):tyV K "list" (.ref p) H:=.inl ⟨rfl,_,SqL.of h⟩
end
end L2
namespace L2
theorem aA3{α:Type}:∀ (l:List α) (i:Nat) (h:i < l.length),(l[i]::l.eraseIdx i).Perm l
 | [],i,h=>absurd h (Nat.not_lt_zero _)
 | x::r,0,_=>by simpa using List.Perm.refl _
 | x::r,i+1,h=>by
   have a:=aA3 r i (by simpa using h);simp only[List.getElem_cons_succ,List.eraseIdx_cons_succ];exact(List.Perm.swap x _ _).trans (a.cons x)
open PySem
def aF7(x:Str):x.length=x.cps.toList.length:=by simp[Str.length]
open PySem.Spec PyProof.Rows
inductive Dt where
 | non | int (i:Int) | str (x:Str) | tup (l:List Dt)
noncomputable instance:DecidableEq Dt:=λ_ _=>Classical.propDecidable _
mutual
inductive Rep(H:Hp):Dt->V->Prop
 | non:Rep H .non .non
 | int (i:Int):Rep H (.int i) (.int i)
 | str (x:Str):Rep H (.str x) (.str x)
 | tup {l:List Dt} {p:Addr} {xs:List V}:H p=some (.tup xs)->Reps H l xs->Rep H (.tup l) (.ref p)
inductive Reps(H:Hp):List Dt->List V->Prop
 | nil:Reps H [] []
 | cons {d:Dt} {r:List Dt} {x:V} {xs:List V}:Rep H d x->Reps H r xs->Reps H (d::r) (x::xs)
end
mutual
theorem Rep.inj{H:Hp}:∀ {d e:Dt} {x:V},Rep H d x->Rep H e x->d=e
 | _,_,_,.non,h=>by cases h;rfl
 | _,_,_,.int i,h=>by cases h;rfl
 | _,_,_,.str x,h=>by cases h;rfl
 | _,_,_,.tup h r,h'=>by
   cases h' with
   | tup a b=>
     rw[h]at a;cases a;rw[Reps.inj r b]
theorem Reps.inj{H:Hp}:∀ {l m:List Dt} {xs:List V},Reps H l xs->Reps H m xs->l=m
 | _,_,_,.nil,h=>by cases h;rfl
 | _,_,_,.cons a r,h=>by
   cases h with
   | cons a2 b=>rw[Rep.inj a a2,Reps.inj r b]
end
theorem Reps.length{H:Hp}:∀ {l:List Dt} {xs:List V},Reps H l xs->l.length=xs.length
 | _,_,.nil=>rfl
 | _,_,.cons _ r=>by simp[Reps.length r]
theorem Reps.get{H:Hp}:∀ {l:List Dt} {xs:List V} {i:Nat} {d:Dt},Reps H l xs->l[i]? = some d->∃ x,xs[i]? = some x/\Rep H d x
 | _,_,_,_,.nil,h=>by simp at h
 | _,_,0,_,.cons a r,h=>by simp at h;subst h;exact⟨_,rfl,a⟩
 | _,_,i+1,_,.cons a r,h=>by
   obtain⟨x,e,q⟩:=Reps.get (i:=i) r (by simpa using h);exact⟨x,by simpa using e,q⟩
mutual
def Dt.dep:Dt->Nat
 | .tup l=>Dt.deps l+1
 | _=>0
def Dt.deps:List Dt->Nat
 | []=>0
 | d::r=>max d.dep (Dt.deps r)
end
theorem aF8:∀ {l:List Dt} {i:Nat} {d:Dt},l[i]? = some d->d.dep<=Dt.deps l
 | [],_,_,h=>by simp at h
 | e::r,0,d,h=>by
   simp at h;subst h;unfold Dt.deps;exact Nat.le_max_left _ _
 | e::r,i+1,d,h=>by
   have:=aF8 (l:=r) (i:=i) (d:=d) (by simpa using h);unfold Dt.deps;exact a4c this (Nat.le_max_right _ _)
def lE(l m:List Dt):((List.range (min l.length m.length)).all (λj=>decide (l[j]? = m[j]?))&&l.length==m.length)=decide (l=m):=by
 rw[a9d,a3f,a6g,a4m,a4K];constructor;rintro⟨a,b⟩;apply a9g;intro j;by_cases c:j < l.length;have:=a j (a9c.mpr (by lia));exact of_decide_eq_true this;rw[a3d.mpr (by lia),a3d.mpr (by lia)];rintro rfl;exact⟨λj _=>a4n rfl,rfl⟩
section
variable{X:Cx}{pins:List (Addr×Obj)}{σ:St}{H:Hp}{s:Shared}
def cC1(I:Inv X pins σ H s):∀ (n:Nat) {A:Around} {o E:Dt} {x y:V} {u v:Value},A.units+n < cLine->o.dep<=n->Rep H o x->Rep H E y->fN x u->fN y v->SeqAt.EqAt A s u v (decide (o=E)):=by
 intro n
 induction n with
 | zero=>
   intro A o E x y u v W hd G f k a;have b:A.units < cLine:=by lia
   cases G with
   | non=>
     cases k;cases f with
     | non=>cases a;rw[a4n rfl];exact SeqAt.EqAt.same _
     | int i=>obtain⟨t,rfl⟩:=a;rw[a4k (λz=>nomatch z)];exact SeqAt.EqAt.none_int _ _
     | str i=>obtain⟨t,rfl⟩:=a;rw[a4k (λz=>nomatch z)];exact SeqAt.EqAt.none_str _ _
     | tup h r=>
       cases a;rw[a4k (λz=>nomatch z)];obtain⟨c,_,g,_⟩:=I.tuple (SqT.of h);exact SeqAt.EqAt.none_tuple g b
   | int i=>
     obtain⟨t,rfl⟩:=k;cases f with
     | non=>cases a;rw[a4k (λz=>nomatch z)];exact SeqAt.EqAt.int_none _ _
     | int j=>
       obtain⟨w,rfl⟩:=a;have e:decide (Dt.int i=Dt.int j)=(i==j):=by
        rw[a9d,a4m,a4K];exact⟨λz=>by cases z;rfl,λz=>by rw[z]⟩
       rw[e];exact SeqAt.EqAt.int_int _ _ _ _
     | str j=>obtain⟨w,rfl⟩:=a;rw[a4k (λz=>nomatch z)];exact SeqAt.EqAt.int_str _ _ _ _
     | tup h r=>
       cases a;rw[a4k (λz=>nomatch z)];obtain⟨c,_,g,_⟩:=I.tuple (SqT.of h);exact SeqAt.EqAt.int_tuple _ _ g b
   | str i=>
     obtain⟨t,rfl⟩:=k;cases f with
     | non=>cases a;rw[a4k (λz=>nomatch z)];exact SeqAt.EqAt.str_none _ _
     | int j=>obtain⟨w,rfl⟩:=a;rw[a4k (λz=>nomatch z)];exact SeqAt.EqAt.str_int _ _ _ _
     | str j=>
       obtain⟨w,rfl⟩:=a;have e:decide (Dt.str i=Dt.str j)=(i==j):=by
        rw[a9d,a4m,a4K];exact⟨λz=>by cases z;rfl,λz=>by rw[z]⟩
       rw[e];exact SeqAt.EqAt.str_str _ _ _ _
     | tup h r=>
       cases a;rw[a4k (λz=>nomatch z)];obtain⟨c,_,g,_⟩:=I.tuple (SqT.of h);exact SeqAt.EqAt.str_tuple _ _ g b
   | tup h r=>unfold Dt.dep at hd;lia
 | succ n F=>
   intro A o E x y u v W hd G f k a;have b:A.units < cLine:=by lia
   cases G with
   | non=>exact F (by lia) (a5c _) .non f k a
   | int i=>exact F (by lia) (a5c _) (.int i) f k a
   | str i=>exact F (by lia) (a5c _) (.str i) f k a
   | @tup l p xs h r=>
     cases k;obtain⟨c,S,g,_⟩:=I.tuple (SqT.of h);cases f with
     | non=>cases a;rw[a4k (λz=>nomatch z)];exact SeqAt.EqAt.tuple_none g b
     | int j=>obtain⟨w,rfl⟩:=a;rw[a4k (λz=>nomatch z)];exact SeqAt.EqAt.tuple_int _ _ g b
     | str j=>obtain⟨w,rfl⟩:=a;rw[a4k (λz=>nomatch z)];exact SeqAt.EqAt.tuple_str _ _ g b
     | @tup m q ys J f=>
       cases a;obtain⟨d,B,K,_⟩:=I.tuple (SqT.of J);by_cases C:p=q;subst C;rw[h]at J;cases J;rw[Reps.inj r f,a4n rfl];exact SeqAt.EqAt.same _
       ·have L:Dt.deps l<=n:=by unfold Dt.dep at hd;lia
        have Y:c.length=l.length:=by rw[← S.length,r.length]
        have Z:d.length=m.length:=by rw[← B.length,f.length]
        have D:=SeqAt.RcAt.tuples (A:=A) (e:=λj=>decide (l[j]? = m[j]?)) g K b λj h1 M=>by
         have N:j < c.length:=by simpa using h1
         have O:j < d.length:=by simpa using M
         have P:l[j]? = some l[j]:=a0a (by lia);have hm:m[j]? = some m[j]:=a0a (by lia);obtain⟨x',ex,rx⟩:=r.get P;obtain⟨y',ey,ry⟩:=f.get hm;obtain⟨u',T,Q⟩:=S.get ex;obtain⟨v',U,R⟩:=B.get ey;have:=F (A:=A.in1) (by show A.units+1+n < cLine;lia) (a4c (aF8 P) L) rx ry Q R;have g1:c.toArray[j]=u':=by
          rw[a0a N]at T;simpa using T
         have g2:d.toArray[j]=v':=by
          rw[a0a O]at U;simpa using U
         rw[g1,g2];have e3:decide (l[j]? = m[j]?)=decide (l[j]=m[j]):=by rw[P,hm];simp
         rw[e3];exact this
        have e4:((List.range (min c.toArray.size d.toArray.size)).all (λj=>decide (l[j]? = m[j]?))&&c.toArray.size==d.toArray.size)=decide (Dt.tup l=Dt.tup m):=by
         rw[a1b,a1b,Y,Z,lE];rw[a9d,a4m,a4m];exact⟨λz=>by rw[z],λz=>by cases z;rfl⟩
        rw[e4]at D;exact SeqAt.EqAt.of_refs C D
end
section
variable{X:Cx}{pins:List (Addr×Obj)}{σ:St}{H:Hp}{s:Shared}
def pP(I:Inv X pins σ H s){A:Around}{l m:List Dt}{xs ys:List V}{b a:List Value}(B:A.units+64 < cLine)(hd:Dt.deps l<=60)(i:Reps H l xs)(k:Reps H m ys)(v1:cQ xs b)(v2:cQ ys a) :
  ∀ j (n:j < b.toArray.size) (o:j < a.toArray.size),SeqAt.EqAt A.in1 s b.toArray[j] a.toArray[j] (decide (l[j]? = m[j]?)):=by
 intro j n o;have C:b.length=l.length:=by rw[← v1.length,i.length]
 have D:a.length=m.length:=by rw[← v2.length,k.length]
 have c:j < b.length:=by simpa using n
 have d:j < a.length:=by simpa using o
 have e:l[j]? = some l[j]:=a0a (by lia);have hm:m[j]? = some m[j]:=a0a (by lia);obtain⟨E,ex,r⟩:=i.get e;obtain⟨F,t,u⟩:=k.get hm;obtain⟨v,p,f⟩:=v1.get ex;obtain⟨w,q,g⟩:=v2.get t;have h:=cC1 I 60 (A:=A.in1) (by show A.units+1+60 < cLine;lia) (a4c (aF8 e) hd) r u f g;have x:b.toArray[j]=v:=by
  rw[a0a c]at p;simpa using p
 have y:a.toArray[j]=w:=by
  rw[a0a d]at q;simpa using q
 rw[x,y];have z:decide (l[j]? = m[j]?)=decide (l[j]=m[j]):=by rw[e,hm];simp
 rw[z];exact h
def dA8(neg:Bool):R2:=λx y H Q=>match x,y with
 | .ref p,.ref q=>∃ b xs ys l m,gR H p=some (b,xs)/\gR H q=some (b,ys)/\Reps H l xs/\Reps H m ys/\Dt.deps l<=60/\Q (.bl (if neg then !decide (l=m)else decide (l=m))) H
 | _,_=>cQ8 x y=true/\Q (.bl (if neg then !decide (x=y)else decide (x=y))) H
def bA0{l m:List Dt}(h:l.length=m.length):(List.range l.length).all (λj=>decide (l[j]? = m[j]?))=decide (l=m):=by
 have:=lE l m;rw[h,Nat.min_self]at this;rw[h,← this];simp
def bA1(k:X.A.units+64 < cLine):OpR X (compareOp .Eq) (dA8 false):=by
 intro pins s σ H x y v u Q I n o h;unfold dA8 at h;split at h
 ·rename_i p q;obtain⟨b,xs,ys,l,m,r,t,d,e,hd,q⟩:=h;cases n;cases o;have i:Q (.bl (decide (l=m))) H:=by simpa using q
  cases b with
  | true=>
    obtain⟨c,v1,f,_⟩:=I.list (fB r);obtain⟨a,v2,g,_⟩:=I.list (fB t);have j:c.length=l.length:=by rw[← v1.length,d.length]
    have w:a.length=m.length:=by rw[← v2.length,e.length]
    by_cases B:l.length=m.length;refine SeqAt.eq_listAt f.isList g.isList (by simp only[List.size_toArray];lia) (by lia) (pP I k hd d e v1 v2) (bX I i ?_);rw[a1b,j,bA0 B];refine SeqAt.eq_list_lengthsAt f.isList g.isList (by simp only[List.size_toArray,bne_iff_ne];lia) (by lia) (bX I i ?_);exact a4k λz=>B (by rw[z])
  | false=>
    obtain⟨c,v1,f,_⟩:=I.tuple (eP r);obtain⟨a,v2,g,_⟩:=I.tuple (eP t);have j:c.length=l.length:=by rw[← v1.length,d.length]
    have w:a.length=m.length:=by rw[← v2.length,e.length]
    refine SeqAt.eq_tupleAt f g (by lia) (pP I k hd d e v1 v2) (bX I i ?_);rw[a1b,a1b,j,w,lE]
 ·exact dQ9 pins s σ H _ _ v u Q I n o ⟨h.1,by simpa using h.2⟩
def dH9(k:X.A.units+64 < cLine):OpR X (compareOp .NotEq) (dA8 true):=by
 intro pins s σ H x y v u Q I n o h;unfold dA8 at h;split at h
 ·rename_i p q;obtain⟨b,xs,ys,l,m,r,t,d,e,hd,q⟩:=h;cases n;cases o;have i:Q (.bl (!decide (l=m))) H:=by simpa using q
  cases b with
  | true=>
    obtain⟨c,v1,f,_⟩:=I.list (fB r);obtain⟨a,v2,g,_⟩:=I.list (fB t);have j:c.length=l.length:=by rw[← v1.length,d.length]
    have w:a.length=m.length:=by rw[← v2.length,e.length]
    by_cases B:l.length=m.length;refine SeqAt.RcNeAt.lists f.isList g.isList (by simp only[List.size_toArray];lia) (by lia) (pP I k hd d e v1 v2) _ _ _ _ (bX I i ?_);rw[a1b,j,bA0 B];refine SeqAt.RcNeAt.lists_lengths f.isList g.isList (by simp only[List.size_toArray,bne_iff_ne];lia) (by lia) _ _ _ _ (bX I i ?_);rw[a4k λz=>B (by rw[z])];rfl
  | false=>
    obtain⟨c,v1,f,_⟩:=I.tuple (eP r);obtain⟨a,v2,g,_⟩:=I.tuple (eP t);have j:c.length=l.length:=by rw[← v1.length,d.length]
    have w:a.length=m.length:=by rw[← v2.length,e.length]
    refine SeqAt.RcNeAt.tuples f g (by lia) (pP I k hd d e v1 v2) _ _ _ _ (bX I i ?_);rw[a1b,a1b,j,w,lE]
 ·exact dR0 pins s σ H _ _ v u Q I n o ⟨h.1,by simpa using h.2⟩
theorem bO5{i j:Int}{Q:VK}:dA8 false (.int i) (.int j) H Q=Q (.bl (decide (i=j))) H:=by
 show(cQ8 _ _=true/\_)=_;rw[show cQ8 (.int i) (.int j)=true from rfl,← aZ9];simp
theorem bO6{i j:Int}{Q:VK}:dA8 true (.int i) (.int j) H Q=Q (.bl (!decide (i=j))) H:=by
 show(cQ8 _ _=true/\_)=_;rw[show cQ8 (.int i) (.int j)=true from rfl,← aZ9];simp
end
section
variable{X:Cx}
def cT0{prog:Program}{w:World}{A:Around}{E:Value->Shared->Prop}{s:Shared}{t b:Addr}{ws:List Value}{Q:Value->Shared->Prop}(h:IsTup s.heap t ([]:List Value).toArray)(i:IsTup s.heap b ws.toArray)
  (j:Q (.ref b) s):wpAny (model prog w) A (binaryOp .Add (.ref t) (.ref b)) Q E s:=by
 obtain⟨⟨cls,k,data,sl⟩,e,f,n,hd⟩:=id h;obtain⟨⟨g,d,data2,sl2⟩,a,c,n2,hd2⟩:=id i;simp only at f hd c hd2;subst f hd c hd2;exact concat_meets ⟨_,e,rfl⟩ ⟨_,a,rfl⟩ noFill_tuple_add seq_tuple_add F.slot_tuple_add F.entry_tuple_add (F.args_tuple_add_2 _ _)
   (tuple_addW0 t b ([]:List Value).toArray ws.toArray n n2 k d sl sl2 (by simp)) ⟨e,a,j⟩
def cC2:R2:=λx y H Q=>match x,y with
 | .int i,.int j=>Q (.int (i+j)) H
 | .str a,.str b=>a.length+b.length<=sizeLine/\Q (.str (a++b)) H
 | .ref p,.ref q=>(∃ xs ys,H p=some (.lst xs)/\H q=some (.lst ys)/\xs.length+ys.length<=sizeLine/\∀ r,H r=none->Q (.ref r) (upd H r (.lst (xs++ys)))) \/
   ∃ xs ys,gR H p=some (false,xs)/\gR H q=some (false,ys)/\xs.length+ys.length<=sizeLine/\(xs=[]->Q (.ref q) H)/\(xs≠[]->ys=[]->Q (.ref p) H)/\(xs≠[]->ys≠[]->∀ r,H r=none->Q (.ref r) (upd H r (.tup (xs++ys))))
 | _,_=>False
def bA2:OpR X (binaryOp .Add) cC2:=by
 intro pins s σ H x y v u Q I a b h;unfold cC2 at h;split at h;exact dE6 pins s σ H _ _ v u Q I a b ⟨_,_,rfl,rfl,h⟩;exact bF7 pins s σ H _ _ v u Q I a b ⟨_,_,rfl,rfl,h.1,h.2⟩;rename_i p q;rcases h with⟨xs,ys,d,f,g,q⟩ | ⟨xs,ys,d,f,g,k,l,m⟩;exact dG3 pins s σ H _ _ v u Q I a b ⟨_,_,xs,ys,rfl,rfl,d,f,g,q⟩;by_cases c:xs=[];cases a;cases b;obtain⟨i,n,o,_⟩:=I.tuple (eP d);obtain⟨j,t,r,_⟩:=I.tuple (eP f);have e:i=[]:=n.nil_iff.mpr c;subst e;exact cT0 o r ⟨.ref q,H,I,rfl,k c⟩;exact cR5 pins s σ H _ _ v u Q I a b ⟨p,q,xs,ys,rfl,rfl,eP d,eP f,c,g,l c,m c⟩;exact h.elim
theorem bA3{i j:Int}{H:Hp}{Q:VK}:cC2 (.int i) (.int j) H Q=Q (.int (i+j)) H:=rfl
def dS4(neg:Bool):R2:=λx y H Q=>match y with
 | .non=>Q (.bl (if neg then !decide (x=.non)else decide (x=.non))) H
 | .bl b=>(match x with | .bl a=>Q (.bl (if neg then !decide (a=b)else decide (a=b))) H | _=>False)
 | _=>False
end
section
variable{X:Cx}
def bO7:OpR X (compareOp .IsNot) (dS4 true):=by
 intro pins s σ H x y v u Q I c d h;unfold dS4 at h;split at h;exact cQ9 pins s σ H _ _ v u Q I c d ⟨rfl,by simpa using h⟩;split at h;rename_i b a;cases c;cases d;exact isnot_bool (bX I h (by cases a<;>cases b<;>rfl));exact h.elim;exact h.elim
end
section
variable{prog:Program}{w:World}{A:Around}{E:Value->Shared->Prop}{s:Shared}
end
noncomputable abbrev dZ7(acc:Array Value)(c:Nat):Obj:={cls:=.type "list",dict:=none,data:=.seq acc c,slots:=#[]}
section
variable{prog:Program}{w:World}{A:Around}{E:Value->Shared->Prop}{I S:Addr}{n:Nat}{J:Nat->Array Value->Heap->Prop}{K:Array Value->Heap->Prop}{R:Result->Shared->Prop}
end
section
variable{prog:Program}{w:World}{A:Around}{E:Value->Shared->Prop}{s:Shared}{I:Addr}{Q:Bool->Shared->Prop}
end
def aU4{X:Cx}{T U:String}{x y:Str}{p c pos a:Pos}{e:Expr}{es:List Expr}{t:TA}{r:List V->Hp->VK->Prop}
  (m:∀ pins s σ H vs us Q,Inv X pins σ H s->cQ vs us->r vs H Q->wpAny (model X.prog X.w) X.A (call (.type U) us) (λu s1=>wpAny (model X.prog X.w) X.A (call (.type T) [u]) (EP X pins σ Q) X.xe s1) X.xe s)
  (n:Gl X x) (hm:X.mg x=none) (o:bootBuiltins x=some (.type T)) (d:Gl X y) (f:X.mg y=none) (g:bootBuiltins y=some (.type U)) (ha:PA X (e::es) t)
  (hn:x≠"__name__":=by decide) (i:(x==("__debug__":Str))=false:=by decide) (j:y≠"__name__":=by decide) (b:(y==("__debug__":Str))=false:=by decide)
  (q:starEach (e::es) X.env=(false,eval e X.env)::starEach es X.env:=by rfl) (k:(backTo a (starEach es X.env)).any (·.1)=false:=by rfl)
  (l:starEach [.Call (.Name y c) (e::es) [] a] X.env=(false,eval (.Call (.Name y c) (e::es) [] a) X.env)::starEach [] X.env:=by rfl) :
  PE X (.Call (.Name x p) [.Call (.Name y c) (e::es) [] a] [] pos) (tCB r t):=by
 intro pins s σ H Q I h;refine a4u (pK I n hm o ?_ hn i);refine a4f ?_ l (by rfl);rw[l]
 (show wpAny _ _ (spliced ((false,eval (.Call (.Name y c) (e::es) [] a) X.env)::backTo pos (starEach [] X.env))) _ _ s;refine Calls.spliced_cons ?_)
 refine a4u (pK I d f g ?_ j b);refine a4f ?_ q k;exact thn (ha a pins s σ H _ I h) λus s1 ⟨vs,v,z,B,C⟩=>thn (m pins s1 σ v vs us Q z B C) λu s2 D=>Calls.spliced_nil D
section
variable{prog:Program}{w:World}{A:Around}{E:Value->Shared->Prop}{s:Shared}
end
section
variable{X:Cx}
end
structure ZK(h0:Heap)(xs ys:Array Value)(acc:Array Value)(h:Heap):Prop where
 keep:∀ b o,h0.get? b=some o->h.get? b=some o
 got:∀ j,j < min xs.size ys.size->∃ T x y,acc[j]? = some (.ref T)/\xs[j]? = some x/\ys[j]? = some y/\IsPair h T x y/\h0.objs.size+6<=T
 nd:acc.toList.Nodup
section
variable{prog:Program}{w:World}{A:Around}{E:Value->Shared->Prop}{s:Shared}
end
section
variable{prog:Program}{w:World}{A:Around}{E:Value->Shared->Prop}{s:Shared}
end
section
variable{X:Cx}
end
def kA{own:List Nat}{K:W.Frag}{n:Nat}{t:TGs}(a:cB1 own t):cS1 own (bG8 K n t):=λx σ H Q q=>by
 unfold bG8 at q ⊢;split at q;exact⟨q.1,a _ _ _ _ q.2⟩;obtain⟨xs,b,c,d⟩:=q;exact⟨xs,b,c,a _ _ _ _ d⟩;exact q.elim
noncomputable def aU5(t c:String):Bool:=t==c||(t=="bool"&&c=="int")
def cC3{K:W.Frag}{t c:String}(a:t="NoneType"\/t="int"\/t="bool"\/t="str"\/t="list"\/t="tuple")(b:c="int"\/c="bool"\/c="str"\/c="list"\/c="tuple"):W.kitOne K (.type t) (.type c)=some (aU5 t c):=by
 rcases a with rfl | rfl | rfl | rfl | rfl | rfl<;>rcases b with rfl | rfl | rfl | rfl | rfl<;>first | exact cC0 | rfl | (unfold W.kitOne;decide +kernel) | (unfold W.kitOne;rfl)
end L2
namespace Mr
open PySem L2 PyProof.Rows
abbrev Sps:=W.Frag->Sp
def hX(H:Hp)(p:Addr):Prop:=∃ i j:Int,H p=some (.lst [.int i,.int j])
def SameBut(p:Addr)(H H':Hp):Prop:=∀ b o,b≠p->H b=some o->H' b=some o
theorem hX.upd{H:Hp}{p q:Addr}{o:HO}(h:hX H p)(a:H q=none):hX (L2.upd H q o) p:=by
 obtain⟨i,j,e⟩:=h;exact⟨i,j,by rw[aL (bD e a)];exact e⟩
def hX.put{H:Hp}{p q:Addr}{o:HO}(h:hX H p)(a:q≠p):hX (L2.upd H q o) p:=by
 obtain⟨i,j,e⟩:=h;exact⟨i,j,by rw[aL a.symm];exact e⟩
theorem SameBut.upd{H a:Hp}{p q:Addr}{o:HO}(h:SameBut p H a)(c:a q=none):SameBut p H (L2.upd a q o):=λb u d e=>by
 have:=h b u d e;rw[aL (bD this c)];exact this
def SameBut.put{H a:Hp}{p q:Addr}{o:HO}(h:SameBut p H a)(c:H q=none):SameBut p H (L2.upd a q o):=λb u d e=>by
 rw[aL (bD e c)];exact h b u d e
def SameBut.trans{p:Addr}{H a c:Hp}(h:SameBut p H a)(h':SameBut p a c):SameBut p H c:=λb u d e=>h' b u d (h b u d e)
def SameBut.refl{p:Addr}{H:Hp}:SameBut p H H:=λ_ _ _ e=>e
theorem SameBut.none{p q:Addr}{H H':Hp}(h:SameBut p H H')(b:hX H' p)(a:H' q=Option.none):H q=Option.none:=by
 cases e:H q with
 | none=>rfl
 | some o=>
   by_cases z:q=p;subst z;obtain⟨i,j,c⟩:=b;rw[c]at a;cases a;rw[h q o z e]at a;cases a
def xA:Sps:=λ_ vs H Q _=>∃ (p:Addr) (m:Int),vs=[.ref p,.int m]/\hX H p/\0 < m/\m < 1073741824 /\
 ∀ (d:Int) H',0<=d->d < m->hX H' p->SameBut p H H'->Q (.int d) H'
inductive Tr where
 | leaf (z:Str) | node (l r:Tr)
end Mr
namespace L2
open PySem PyProof.Rows
theorem dW9{i j:Int}:(if j < i then j else i)=min i j:=by
 by_cases h:j < i;rw[a4i h];lia;rw[a4j h];lia
theorem dI0{i j:Int}{R:Int->Int->Prop}:(∃ a b,[V.int i,V.int j]=[V.int a,V.int b]/\R a b)=R i j:=
 propext ⟨λZ1=>by obtain⟨a,b,e,q⟩:=Z1;cases e;exact q,λq=>⟨i,j,rfl,q⟩⟩
end L2
namespace L2
open PySem
def aM7{t u:TS}{D:Ends}{σ:St}{H:Hp}(M:St->Hp->Prop)(a:∀ σ' H',M σ' H'->u D σ' H')(b:∀ C:St->Hp->Prop,(∀ σ' H',M σ' H'->C σ' H')->t {D with nx:=C} σ H):dO7 t u D σ H:=b (u D) a
end L2
namespace L2
def dX0{α:Type}{x:α}{r:List α}:atI (x::r) 0=some x:=bM6 (j:=0) (by simp)
theorem cM4{K:PySem.W.Frag}{T:String}{r:V->List V->Hp->VK->Prop}{to:TE}{σ:St}{H:Hp}{Q:VK}:dR6 K T r to σ H Q=to σ H λx a=>tyV K T x a/\r x [] a Q:=rfl
end L2
namespace Mr
open PySem L2
end Mr
namespace L2
open PySem
def bO8{X:Cx}(K:W.Frag)(b:X.K=K){tg l:Expr}{a:TE}(c:PE X l a):PI X tg l (dS2 K a):=by rw[← b];exact dH1 c
def fA{X:Cx}{pos:Pos}(K:W.Frag)(b:X.K=K){es:List Expr}{k:Nat}{t:TGs}{n:Nat}(c:X.calm=true)(h:PGs X es t)
  (hn:(assignEach es X.env).length=n:=by rfl) (a:(assignEach es X.env).findIdx? (·.1)=none:=by rfl):PG X (.Tuple es k pos) (bG8 K n t):=by rw[← b];exact cS7 c h hn a
section
variable{X:Cx}{o e:Expr}{es:List Expr}{to:TE}{t:TA}{name:Str}{apos cpos:Pos}{T id:String}{r:V->List V->Hp->VK->Prop}
def bO9(K:W.Frag)(d:X.K=K)(e:PlainAttrs T)(slot:Slot T name id)(c:typeOf (.builtin id)=pure (.type "method_descriptor"))(hm:MtR X id r)(f:PE X o to)
  (a:attributeBase o name X.env (eval o X.env)=eval o X.env:=by rfl) (b:(apos.endLine==cpos.line)=true:=by rfl):PE X (.Call (.Attribute o name apos) [] [] cpos) (dR6 K T r to):=by rw[← d];exact dF9 e slot c hm f a b
def hZ(K:W.Frag)(g:X.K=K)(h:PlainAttrs T)(slot:Slot T name id)(f:typeOf (.builtin id)=pure (.type "method_descriptor"))(hm:MtR X id r)(i:PE X o to)(ha:PA X (e::es) t)
  (b:attributeBase o name X.env (eval o X.env)=eval o X.env:=by rfl)
  (d:((backTo cpos (starEach (e::es) X.env)).all (λx=>!x.1)&&(backToKw cpos (keywordEach [] X.env)).all (λx=>x.1.isSome)&&decide ((e::es).length+([]:List Keyword).length+(if([]:List Keyword).isEmpty then 0 else 1) < 30))=true:=by rfl)
  (c:(apos.endLine==cpos.line)=true:=by rfl) (j:starEach (e::es) X.env=(false,eval e X.env)::starEach es X.env:=by rfl) (a:(backTo cpos (starEach es X.env)).any (·.1)=false:=by rfl) :
  PE X (.Call (.Attribute o name apos) (e::es) [] cpos) (tBM K T r to t):=by rw[← g];exact dR7 h slot f hm i ha b d c j a
end
open PySem.Spec PyProof.Rows
section
variable{κ:Type}[DecidableEq κ]
noncomputable def bZ1(kvs:List (κ×V))(k:κ):Option V:=(kvs.find? λa=>decide (a.1=k)).map (·.2)
noncomputable def bP0(kvs:List (κ×V))(k:κ)(v:V):List (κ×V):=
 if(kvs.any λa=>decide (a.1=k))=true then kvs.map (λa=>if a.1=k then(a.1,v)else a)else kvs++[(k,v)]
def aF9{p:κ×V}{r:List (κ×V)}{k:κ}(e:p.1=k):bZ1 (p::r) k=some p.2:=by simp[bZ1,List.find?_cons,e]
def aG0{p:κ×V}{r:List (κ×V)}{k:κ}(e:¬ p.1=k):bZ1 (p::r) k=bZ1 r k:=by simp[bZ1,List.find?_cons,e]
def aU6(kvs:List (κ×V))(k:κ)(v:V):(bP0 kvs k v).length<=kvs.length+1:=by
 unfold bP0;split;rw[a1a];lia;rw[a3b,a8f,a3h];lia
def KV.val{kvs:List (κ×V)}{vs:List (κ×Value)}(r:KV kvs vs)(k:κ):bZ9 (bZ1 kvs k) (valueAt vs k):=by
 unfold KV at r
 induction r with
 | nil=>exact True.intro
 | @cons p q ps qs h t d=>
   obtain⟨c,f⟩:=h;by_cases e:p.1=k
   ·have a:q.1=k:=c.symm.trans e;have b:valueAt (q::qs) k=some q.2:=by simp[valueAt,List.find?_cons,a]
    rw[aF9 e,b];exact f
   ·have a:¬ q.1=k:=λz=>e (c.trans z);have b:valueAt (q::qs) k=valueAt qs k:=by simp[valueAt,List.find?_cons,a]
    rw[aG0 e,b];exact d
theorem KV.any{kvs:List (κ×V)}{vs:List (κ×Value)}(r:KV kvs vs)(k:κ):(kvs.any λa=>decide (a.1=k))=vs.any λa=>decide (a.1=k):=by
 unfold KV at r
 induction r with
 | nil=>rfl
 | cons h t b=>rw[List.any_cons,List.any_cons,b,h.1]
def KV.repl{kvs:List (κ×V)}{vs:List (κ×Value)}(r:KV kvs vs)(k:κ){y:V}{u:Value}(c:fN y u) :
  KV (kvs.map λa=>if a.1=k then(a.1,y)else a) (vs.map λa=>if a.1=k then(a.1,u)else a):=by
 unfold KV at r ⊢
 induction r with
 | nil=>exact .nil
 | @cons p q ps qs h t d=>
   rw[a8e,a8e];refine .cons ?_ d;obtain⟨b,f⟩:=h;by_cases e:p.1=k;rw[a4i e,a4i (b.symm.trans e)];exact⟨b,c⟩;rw[a4j e,a4j (λz=>e (b.trans z))];exact⟨b,f⟩
def KV.put{kvs:List (κ×V)}{vs:List (κ×Value)}(r:KV kvs vs)(k:κ){y:V}{u:Value}(a:fN y u):KV (bP0 kvs k y) (stored vs k u):=by
 unfold bP0 stored;rw[r.any k];by_cases e:(vs.any λb=>decide (b.1=k))=true;rw[a4i e,a4i e];exact r.repl k a;rw[a4j e,a4j e];exact Paired.snoc r ⟨rfl,a⟩
end
def cT1{P:Program}{w:World}{k:Key}{u:Value}(r:fN (kV k) u):(fO P w).is k u=true:=by
 cases k with
 | inl i=>obtain⟨t,e⟩:=(show ∃ t,u=Value.int i t from r);subst e;exact aT3 P w i t
 | inr x=>obtain⟨t,e⟩:=(show ∃ t,u=Value.str x t from r);subst e;exact aT4 P w x t
theorem aM8{P:Program}{w:World}:∀ {ks:List Key} {us:List Value},cQ (ks.map kV) us->ItemsAre (fO P w) ks us
 | [],_,r=>by rw[List.map_nil]at r;cases r;exact .nil
 | k::ks,_,r=>by
   rw[a8e]at r;cases r with
   | cons h t=>exact .cons (cT1 h) (aM8 t)
abbrev KT(H:Hp):List (List Key×V)->List (List Key×Addr×Value)->Prop:=Paired λp q=>p.1=q.1/\H q.2.1=some (.tup (p.1.map kV))/\fN p.2 q.2.2
def KT.val{H:Hp}{kvs:List (List Key×V)}{xs:List (List Key×Addr×Value)}(r:KT H kvs xs)(k:List Key):bZ9 (bZ1 kvs k) ((atKey xs k).map (·.2)):=by
 induction r with
 | nil=>exact True.intro
 | @cons p q ps qs h t d=>
   obtain⟨c,_,f⟩:=h;by_cases e:p.1=k
   ·have a:q.1=k:=c.symm.trans e;have b:atKey (q::qs) k=some q.2:=by simp[atKey,List.find?_cons,a]
    rw[aF9 e,b];exact f
   ·have a:¬ q.1=k:=λz=>e (c.trans z);have b:atKey (q::qs) k=atKey qs k:=by simp[atKey,List.find?_cons,a]
    rw[aG0 e,b];exact d
section
variable{P:Program}{w:World}{H:Hp}{h:Heap}{a:Addr}
def dI1{u:HO}(ok:HOk P w H h)(e:Rd H a u):eR P w H h a u:=e.ok ok
def dI2{kvs:List (Key×V)}(ok:HOk P w H h)(e:Rd H a (.dK kvs)):kvs.length<=sizeLine/\(a==sysModules)=false/\∃ vs,KV kvs vs/\h.DictOf (fO P w) a vs:=
 show eR P w H h a (.dK kvs)from dI1 ok e
def cM5{ks:List Key}(ok:HOk P w H h)(e:H a=some (.tup (ks.map kV))):(tupleKind (fO P w)).is h ks a:=by
 obtain⟨_,b,r,⟨o,c,d,n,f⟩,_⟩:=(show eR P w H h a (.tup (ks.map kV))from ok a _ e);exact⟨o,b.toArray,n,c,d,f,by simpa using aM8 r⟩
def dI3{kvs:List (List Key×V)}(ok:HOk P w H h)(e:Rd H a (.dT kvs)):kvs.length<=sizeLine/\(a==sysModules)=false /\
  ∃ xs,KT H kvs xs/\h.DictOfH (tupleKind (fO P w)) a xs:=by
 obtain⟨z,y,xs,r,o,es,d,f,g,i,j,k⟩:=(show eR P w H h a (.dT kvs)from dI1 ok e);refine⟨z,y,xs,r,o,es,d,f,g,i,j,λx b=>?_,k⟩;have all:∀ {l:List (List Key×V)} {m:List (List Key×Addr×Value)},KT H l m->∀ x∈m,(tupleKind (fO P w)).is h x.1 x.2.1:=by
  intro l m q
  induction q with
  | nil=>intro x b;exact nomatch b
  | @cons p q ps qs c t n=>
    intro x b;rcases a2b.mp b with e | b;subst e;exact cM5 ok (by rw[← c.1];exact c.2.1);exact n x b
 exact all r x b
end
def dO9(H:Hp)(a:Addr)(y:V)(r:Option V):Prop:=
 (∃ kvs k,Rd H a (.dK kvs)/\y=kV k/\r=bZ1 kvs k)\/∃ kvs k b,Rd H a (.dT kvs)/\y=.ref b/\H b=some (.tup (k.map kV))/\r=bZ1 kvs k
section
variable{X:Cx}{pins:List (Addr×Obj)}{σ:St}{H:Hp}{s:Shared}{a:Addr}{y v:V}{u r:Value}{o:Option V}{A:Around}{E:Value->Shared->Prop}
def Inv.big(I:Inv X pins σ H s):sysModules < s.heap.objs.size:=by
 have h:mainGlobals < s.heap.objs.size:=(I.mod.glob.keeps I.bk).lt;exact a1h (by decide) h
def bP1{Q:Value->Shared->Prop}(q:A.units+1 < cLine)(I:Inv X pins σ H s)(g:dO9 H a y (some v))(n:fN y u)(h:∀ d s',Inv X pins σ H s'->fN v d->Q d s') :
  wpAny (model X.prog X.w) A (getItem (.ref a) u) Q E s:=by
 rcases g with⟨kvs,k,e,f,l⟩ | ⟨kvs,k,b,e,f,r,l⟩;subst f;obtain⟨z,hd,vs,rel,i⟩:=dI2 I.hok e;obtain⟨d,j,c⟩:=bZ9.some_of (v:=v) (o:=valueAt vs k) (by rw[l];exact rel.val k);exact wpAny_getItem_of (cT1 n) i.mapOf j (h d _ (I.tok _) c);subst f;cases (show u=Value.ref b from n);obtain⟨z,hd,xs,rel,i⟩:=dI3 I.hok e;obtain⟨d,j,c⟩:=bZ9.some_of (v:=v) (o:=(atKey xs k).map (·.2)) (by rw[l];exact rel.val k);obtain⟨p,t,m⟩:=a6c.mp j;refine wpAny_getItem_heap (tupleKind_room_in1 q) (cM5 I.hok r) i t ?_;rw[m];exact h d _ (I.tok _) c
def cM6{P:Program}{w:World}{H':Hp}{h':Heap}{kvs:List (Key×V)}{vs:List (Key×Value)}(z:kvs.length<=sizeLine)(hd:(a==sysModules)=false)(rel:KV kvs vs)(b:h'.DictOf (fO P w) a vs) :
  eR P w H' h' a (.dK kvs):=⟨z,hd,vs,rel,b⟩
end
section
variable{X:Cx}{pins:List (Addr×Obj)}{σ:St}{H:Hp}{s:Shared}{a:Addr}{kvs:List (Key×V)}{k:Key}{u:Value}{A:Around}{E:Value->Shared->Prop}
end
def dP0(i:Expr):Prop:=∀ ov a,subscripted i false ov a=operate [ov,a] (getItem ov a)
def cT2{prog:Program}{w:World}{A:Around}{E:Value->Shared->Prop}{s:Shared}{env:Env}{b a:Expr}{pos:Pos}{T id:String}{Q:Value->Shared->Prop}
  (l:typeLookup (.type T) "__getitem__"=pure (some (.builtin id))) (m:dP0 a)
  (h:wpAny (model prog w) A (eval b env) (λo e=>wpAny (model prog w) A (eval a env) (λi c=>c.TypeIs o T/\wpAny (model prog w) A (getItem o i) Q E c) E e) E s) :
  wpAny (model prog w) A (eval (.Subscript b a pos) env) Q E s:=by
 refine Subscript_ (a4r h (λo e g=>a4r g (λi c d=>?_) λ_ _ x=>x) λ_ _ x=>x);obtain⟨k,d⟩:=d;unfold subscriptTail;refine a3Z ?_;rw[getitemInPython_of_ne k.not_modules];refine a3Z (wpAny_specialOf k l ?_);have fin:wpAny (model prog w) A (subscripted a false o i) (λr f=>wpAny (model prog w) A (letTemporaryGo b o r >>= λ_=>pure r) Q E f) E c:=by
  rw[m o i];exact wpAny_operating (a4r d (λr f j=>a3Z (wpAny_letTemporaryGo (a4l j))) λ_ _ x=>x)
 first
  | exact a4l (a3Z fin)
  | exact a3Z (a4l (a3Z fin))
  | exact a3Z fin
def aU7{X:Cx}{pins:List (Addr×Obj)}{σ:St}{H:Hp}{s:Shared}{a:Addr}{y:V}{o:Option V}(I:Inv X pins σ H s)(g:dO9 H a y o):s.TypeIs (.ref a) "dict":=by
 rcases g with⟨kvs,k,e,_,_⟩ | ⟨kvs,k,b,e,_,_,_⟩;obtain⟨_,_,vs,_,c⟩:=dI2 I.hok e;exact c.typeIs;obtain⟨_,_,xs,_,c⟩:=dI3 I.hok e;exact c.typeIs
def dS5(c ty:TE):TE:=λσ H Q=>c σ H λx d=>ty σ d λy b=>∃ a v,x=.ref a/\dO9 b a y (some v)/\Q v b
section
variable{X:Cx}{o i e value:Expr}{pos pos' tpos:Pos}{td ty tv:TE}
def cT3(d:X.A.units+1 < cLine)(e:PE X o td)(hi:PE X i ty)(f:dP0 i):PE X (.Subscript o i pos) (dS5 td ty):=by
 intro pins s σ H Q I h;refine cT2 F.slot_dict_getitem.lookup f (thn (e pins s σ H _ I h) λu s1 ⟨x,j,k,l,m⟩=>thn (hi pins s1 σ j _ k m) λt s2 Z0=>?_);obtain⟨y,n,c,p,a,v,ex,g,q⟩:=Z0;subst ex;obtain rfl:u=Value.ref a:=l;exact⟨aU7 c g,bP1 d c g p λw z r b=>⟨v,n,r,b,q⟩⟩
end
section
variable{X:Cx}{pos:Pos}
end
noncomputable def pQ(kvs more:List (Key×V)):List (Key×V):=more.foldl (λacc a=>bP0 acc a.1 a.2) kvs
def KV.merge:∀ {more:List (Key×V)} {rs:List (Key×Value)} {kvs:List (Key×V)} {vs:List (Key×Value)},KV more rs->KV kvs vs->KV (pQ kvs more) (merged vs rs):=by
 intro more rs kvs vs r;unfold KV at r
 induction r generalizing kvs vs with
 | nil=>intro q;exact q
 | @cons p q ps qs h t a=>
   intro b;have e:KV (bP0 kvs p.1 p.2) (stored vs q.1 q.2):=by
    have:=b.put p.1 h.2;rw[← h.1];exact this
   exact a e
theorem lG:∀ (more kvs:List (Key×V)),(pQ kvs more).length<=kvs.length+more.length
 | [],kvs=>by show kvs.length<=kvs.length+0;lia
 | p::r,kvs=>by
   have a:=lG r (bP0 kvs p.1 p.2);have b:=aU6 kvs p.1 p.2;show(pQ (bP0 kvs p.1 p.2) r).length<=_;rw[a8f];lia
section
variable{X:Cx}{pins:List (Addr×Obj)}{σ:St}{H:Hp}{s:Shared}{a:Addr}{y d:V}{u r:Value}{o:Option V}{A:Around}{E:Value->Shared->Prop}
end
section
variable{X:Cx}{o e f:Expr}{apos cpos:Pos}{td ty tx:TE}
end
section
variable{X:Cx}{pins:List (Addr×Obj)}{σ:St}{H:Hp}{s:Shared}{a:Addr}{kvs:List (Key×V)}{A:Around}{E:Value->Shared->Prop}
end
section
variable{X:Cx}{pins:List (Addr×Obj)}{σ:St}{H:Hp}{s:Shared}{a:Addr}{y:V}{u:Value}{A:Around}{E:Value->Shared->Prop}
end
end L2
namespace Dv
open PySem L2
inductive D where
 | non | bl (b:Bool) | int (i:Int) | str (x:Str) | tup (l:List D) | lst (l:List D) | dic (ks vs:List D)
noncomputable instance:DecidableEq D:=λ_ _=>Classical.propDecidable _
noncomputable instance:Inhabited D:=⟨.non⟩
noncomputable def bZ2:Key->D
 | .inl i=>.int i
 | .inr x=>.str x
noncomputable def tkD:Tk->D
 | .s x=>.str x
 | .p a b=>.tup [tkD a,tkD b]
def cT4:HO->List D->List V->Prop
 | .dK kvs,ks,ws=>ks=kvs.map (λa=>bZ2 a.1)/\ws=kvs.map (·.2)
 | .dT kvs,ks,ws=>ks=kvs.map (λa=>D.tup (a.1.map bZ2))/\ws=kvs.map (·.2)
 | .dM kvs,ks,ws=>ks=.non::kvs.map (λa=>tkD a.1)/\ws=kvs.map (·.2)
 | _,_,_=>False
mutual
inductive Rp(H:Hp):D->V->Prop
 | non:Rp H .non .non
 | bl (b:Bool):Rp H (.bl b) (.bl b)
 | int (i:Int):Rp H (.int i) (.int i)
 | str (x:Str):Rp H (.str x) (.str x)
 | tup {l:List D} {p:Addr} {xs:List V}:H p=some (.tup xs)->Rps H l xs->Rp H (.tup l) (.ref p)
 | lst {l:List D} {p:Addr} {xs:List V} {o:Obj}:H p=some (.frz o (.lst xs))->Rps H l xs->Rp H (.lst l) (.ref p)
 | dic {ks vs:List D} {p:Addr} {o:Obj} {u:HO} {ws:List V}:H p=some (.frz o u)->cT4 u ks ws->Rps H vs ws->Rp H (.dic ks vs) (.ref p)
inductive Rps(H:Hp):List D->List V->Prop
 | nil:Rps H [] []
 | cons {d:D} {r:List D} {x:V} {xs:List V}:Rp H d x->Rps H r xs->Rps H (d::r) (x::xs)
end
structure Ext(H H':Hp):Prop where
 tup:∀ p xs,H p=some (.tup xs)->H' p=some (.tup xs)
 frz:∀ p o u,H p=some (.frz o u)->H' p=some (.frz o u)
def Ext.trans{H c d:Hp}(a:Ext H c)(b:Ext c d):Ext H d:=⟨λp xs h=>b.tup p xs (a.tup p xs h),λp o u h=>b.frz p o u (a.frz p o u h)⟩
def Ext.same{H H':Hp}(h:aF2 H H'):Ext H H':=⟨λp xs e=>h p _ e,λp o u e=>h p _ e⟩
mutual
theorem Rp.mono{H H':Hp}(a:Ext H H'):∀ {d:D} {x:V},Rp H d x->Rp H' d x
 | _,_,.non=>.non
 | _,_,.bl b=>.bl b
 | _,_,.int i=>.int i
 | _,_,.str x=>.str x
 | _,_,.tup h r=>.tup (a.tup _ _ h) (Rps.mono a r)
 | _,_,.lst h r=>.lst (a.frz _ _ _ h) (Rps.mono a r)
 | _,_,.dic h k r=>.dic (a.frz _ _ _ h) k (Rps.mono a r)
theorem Rps.mono{H H':Hp}(b:Ext H H'):∀ {l:List D} {xs:List V},Rps H l xs->Rps H' l xs
 | _,_,.nil=>.nil
 | _,_,.cons a r=>.cons (Rp.mono b a) (Rps.mono b r)
end
section
variable{H:Hp}
theorem Rps.length:∀ {l:List D} {xs:List V},Rps H l xs->l.length=xs.length
 | _,_,.nil=>rfl
 | _,_,.cons _ r=>by simp[Rps.length r]
theorem Rps.get:∀ {l:List D} {xs:List V} {i:Nat} {d:D},Rps H l xs->l[i]? = some d->∃ x,xs[i]? = some x/\Rp H d x
 | _,_,_,_,.nil,h=>by simp at h
 | _,_,0,_,.cons a r,h=>by simp at h;subst h;exact⟨_,rfl,a⟩
 | _,_,i+1,_,.cons a r,h=>by
   obtain⟨x,e,q⟩:=Rps.get (i:=i) r (by simpa using h);exact⟨x,by simpa using e,q⟩
theorem Rps.append:∀ {l m:List D} {xs ys:List V},Rps H l xs->Rps H m ys->Rps H (l++m) (xs++ys)
 | _,_,_,_,.nil,h=>h
 | _,_,_,_,.cons a r,h=>.cons a (Rps.append r h)
theorem Rps.take:∀ {l:List D} {xs:List V} (n:Nat),Rps H l xs->Rps H (l.take n) (xs.take n)
 | _,_,0,_=>.nil
 | _,_,_+1,.nil=>.nil
 | _,_,n+1,.cons a r=>.cons a (Rps.take n r)
theorem Rps.drop:∀ {l:List D} {xs:List V} (n:Nat),Rps H l xs->Rps H (l.drop n) (xs.drop n)
 | _,_,0,r=>r
 | _,_,_+1,.nil=>.nil
 | _,_,n+1,.cons _ r=>Rps.drop n r
theorem Rps.set:∀ {l:List D} {xs:List V} {d:D} {x:V} (i:Nat),Rps H l xs->Rp H d x->Rps H (l.set i d) (xs.set i x)
 | _,_,_,_,_,.nil,_=>.nil
 | _,_,_,_,0,.cons _ r,q=>.cons q r
 | _,_,_,_,i+1,.cons a r,q=>.cons a (Rps.set i r q)
theorem Rps.eraseIdx:∀ {l:List D} {xs:List V} (i:Nat),Rps H l xs->Rps H (l.eraseIdx i) (xs.eraseIdx i)
 | _,_,_,.nil=>.nil
 | _,_,0,.cons _ r=>r
 | _,_,i+1,.cons a r=>.cons a (Rps.eraseIdx i r)
theorem jN:∀ ns:List Int,Rps H (ns.map D.int) (ns.map V.int)
 | []=>.nil
 | n::r=>.cons (.int n) (jN r)
theorem bA4:∀ ns:List Str,Rps H (ns.map D.str) (ns.map V.str)
 | []=>.nil
 | n::r=>.cons (.str n) (bA4 r)
theorem Rps.ints_inv:∀ {ns:List Int} {xs:List V},Rps H (ns.map D.int) xs->xs=ns.map V.int
 | [],_,h=>by cases h;rfl
 | n::r,_,h=>by
   rw[a8e]at h;cases h with
   | cons a t=>cases a;rw[Rps.ints_inv t];rfl
theorem Rps.strs_inv:∀ {ns:List Str} {xs:List V},Rps H (ns.map D.str) xs->xs=ns.map V.str
 | [],_,h=>by cases h;rfl
 | n::r,_,h=>by
   rw[a8e]at h;cases h with
   | cons a t=>cases a;rw[Rps.strs_inv t];rfl
theorem Rps.bls_inv:∀ {ns:List Bool} {xs:List V},Rps H (ns.map D.bl) xs->xs=ns.map V.bl
 | [],_,h=>by cases h;rfl
 | n::r,_,h=>by
   rw[a8e]at h;cases h with
   | cons a t=>cases a;rw[Rps.bls_inv t];rfl
end
inductive Md where
 | val | own | par | lent
 deriving DecidableEq
noncomputable def Md.mt:Md->Bool
 | .own=>true
 | .par=>true
 | _=>false
structure Sl where
 m:Md
 d:D
abbrev Sg:=List (Option Sl)
def fQ(H:Hp)(d:D)(p:Addr):Prop:=match d with
 | .lst l=>∃ xs,H p=some (.lst xs)/\Rps H l xs
 | .dic ks vs=>∃ u ws,H p=some u/\cT4 u ks ws/\Rps H vs ws
 | _=>False
theorem fQ.mono{H H':Hp}{d:D}{p:Addr}(h:fQ H d p)(e:Ext H H')(c:∀ o,H p=some o->H' p=some o):fQ H' d p:=by
 unfold fQ at h ⊢;split at h;obtain⟨xs,a,b⟩:=h;exact⟨xs,c _ a,b.mono e⟩;obtain⟨u,ws,a,b,f⟩:=h;exact⟨u,ws,c _ a,b,f.mono e⟩;exact h.elim
def fQ.obj{H:Hp}{d:D}{p:Addr}(h:fQ H d p):∃ o,H p=some o/\(∀ xs,o≠.tup xs)/\∀ ob u,o≠.frz ob u:=by
 unfold fQ at h;split at h;obtain⟨xs,a,b⟩:=h;exact⟨_,a,⟨λ_ z=>(by cases z),λ_ _ z=>(by cases z)⟩⟩;obtain⟨u,ws,a,b,c⟩:=h;refine⟨_,a,λ_ z=>?_,λ_ _ z=>?_⟩<;>(subst z;exact b);exact h.elim
def cC4(H:Hp)(s:Sl)(v:V):Prop:=match s.m with
 | .val=>Rp H s.d v
 | _=>∃ p,v=.ref p/\fQ H s.d p
def eG{H:Hp}{s:Sl}{v:V}(h:s.m≠.val):cC4 H s v↔∃ p,v=.ref p/\fQ H s.d p:=by
 obtain⟨m,d⟩:=s;cases m with
 | val=>exact absurd rfl h
 | own=>exact Iff.rfl
 | par=>exact Iff.rfl
 | lent=>exact Iff.rfl
def Vw(H:Hp)(d:D)(v:V):Prop:=Rp H d v\/∃ p,v=.ref p/\fQ H d p
def cC4.vw{H:Hp}{s:Sl}{v:V}(h:cC4 H s v):Vw H s.d v:=by
 by_cases e:s.m=.val;obtain⟨m,d⟩:=s;cases e;exact .inl h;exact .inr ((eG e).mp h)
inductive Vws(H:Hp):List D->List V->Prop
 | nil:Vws H [] []
 | cons {d:D} {r:List D} {x:V} {xs:List V}:Vw H d x->Vws H r xs->Vws H (d::r) (x::xs)
def wA(σ:Sg)(σV:St)(a:Addr):Prop:=∃ (i:Nat) (s:Sl),σ[i]? = some (some s)/\s.m.mt=true/\σV[i]? = some (some (.ref a))
def bZ3(σ:Sg)(σV:St)(a:Addr):Prop:=∃ (i:Nat) (s:Sl),σ[i]? = some (some s)/\s.m≠.val/\σV[i]? = some (some (.ref a))
def wA.nv{σ:Sg}{σV:St}{a:Addr}(h:wA σ σV a):bZ3 σ σV a:=by
 obtain⟨i,s,c,b,d⟩:=h;exact⟨i,s,c,λz=>(by rw[z]at b;cases b),d⟩
structure Gm where
 H₀:Hp
 pr:Addr->Prop
structure StOk(Γ:Gm)(H:Hp)(σ:Sg)(σV:St):Prop where
 rel:∀ (i:Nat) s,σ[i]? = some (some s)->∃ v,σV[i]? = some (some v)/\cC4 H s v
 dis:∀ (i j:Nat) s t p,i≠j->σ[i]? = some (some s)->σ[j]? = some (some t)->s.m.mt=true->t.m≠.val->σV[i]? = some (some (.ref p))->σV[j]? = some (some (.ref p))->False
 own:∀ (i:Nat) s p,σ[i]? = some (some s)->s.m=.own->σV[i]? = some (some (.ref p))->Γ.H₀ p=none
 par:∀ (i:Nat) s p,σ[i]? = some (some s)->s.m=.par->σV[i]? = some (some (.ref p))->Γ.pr p
 keep:∀ a o,Γ.H₀ a=some o->¬ Γ.pr a->H a=some o
 dom:∀ a,H a=none->Γ.H₀ a=none
 len:σ.length=σV.length
structure Step(σ:Sg)(σV:St)(H:Hp)(σ':Sg)(σV':St)(H':Hp):Prop where
 fr:∀ a o,H a=some o->¬ wA σ σV a->H' a=some o
 dom:∀ a,H' a=none->H a=none
 mu:∀ a,wA σ' σV' a->wA σ σV a\/H a=none
 nv:∀ a,bZ3 σ' σV' a->bZ3 σ σV a\/H a=none
 kp:∀ (i:Nat) s,σ[i]? = some (some s)->∃ s',σ'[i]? = some (some s')
 fix:∀ (i:Nat) s,σ[i]? = some (some s)->(s.m=.par\/s.m=.lent)->∃ s',σ'[i]? = some (some s')/\s'.m=s.m/\(s.m=.lent->s'.d=s.d)/\σV'[i]? = σV[i]?
 lt:∀ (i:Nat) s',σ'[i]? = some (some s')->s'.m=.lent->∃ s,σ[i]? = some (some s)/\s.m=.lent
section
variable{σ σ1 σ2:Sg}{σV σV1 σV2:St}{H H1 H2:Hp}{Γ:Gm}
def Step.refl:Step σ σV H σ σV H:=⟨λ_ _ h _=>h,λ_ h=>h,λ_ h=>.inl h,λ_ h=>.inl h,λi s h=>⟨s,h⟩,λi s h _=>⟨s,h,rfl,λ_=>rfl,rfl⟩,λi s h m=>⟨s,h,m⟩⟩
theorem Step.trans(a:Step σ σV H σ1 σV1 H1)(b:Step σ1 σV1 H1 σ2 σV2 H2):Step σ σV H σ2 σV2 H2 where
 fr:=λc o h n=>b.fr c o (a.fr c o h n) λz=>by
  rcases a.mu c z with q | q;exact n q;rw[h]at q;cases q
 dom:=λc h=>a.dom c (b.dom c h)
 mu:=λc h=>by
  rcases b.mu c h with q | q;exact a.mu c q;exact .inr (a.dom c q)
 nv:=λc h=>by
  rcases b.nv c h with q | q;exact a.nv c q;exact .inr (a.dom c q)
 kp:=λi s h=>by
  obtain⟨s1,d⟩:=a.kp i s h;exact b.kp i s1 d
 fix:=λi s h hm=>by
  obtain⟨s1,d,e,f,v1⟩:=a.fix i s h hm;obtain⟨s2,g,j,k,v2⟩:=b.fix i s1 d (by rw[e];exact hm);exact⟨s2,g,j.trans e,λz=>(k (e.trans z)).trans (f z),v2.trans v1⟩
 lt:=λi s h m=>by
  obtain⟨s1,d,e⟩:=b.lt i s h m;exact a.lt i s1 d e
def StOk.mutObj(ok:StOk Γ H σ σV){a:Addr}(h:bZ3 σ σV a):∃ o,H a=some o/\(∀ xs,o≠.tup xs)/\∀ ob u,o≠.frz ob u:=by
 obtain⟨i,s,b,c,d⟩:=h;obtain⟨v,e,r⟩:=ok.rel i s b;rw[d]at e;cases e;obtain⟨p,e,q⟩:=(eG c).mp r;cases e;exact q.obj
def Step.ext(st:Step σ σV H σ1 σV1 H1)(ok:StOk Γ H σ σV):Ext H H1:=by
 refine⟨λp xs h=>st.fr p _ h λz=>?_,λp o u h=>st.fr p _ h λz=>?_⟩;obtain⟨o,e,n,_⟩:=ok.mutObj z.nv;rw[h]at e;cases e;exact n _ rfl;obtain⟨o,e,_,n⟩:=ok.mutObj z.nv;rw[h]at e;cases e;exact n _ _ rfl
theorem cC4.mono{s:Sl}{v:V}(r:cC4 H s v)(e:Ext H H1)(b:∀ p o,v=.ref p->s.m≠.val->H p=some o->H1 p=some o):cC4 H1 s v:=by
 by_cases q:s.m=.val;obtain⟨m,d⟩:=s;cases q;exact Rp.mono e r;obtain⟨p,a,c⟩:=(eG q).mp r;exact(eG q).mpr ⟨p,a,c.mono e λo=>b p o a q⟩
theorem StOk.same(ok:StOk Γ H σ σV)(h:aF2 H H1):StOk Γ H1 σ σV:=
 ⟨λi s e=>by
  obtain⟨v,b,r⟩:=ok.rel i s e;exact⟨v,b,r.mono (.same h) λp o _ _ q=>h p o q⟩,ok.dis,ok.own,ok.par,λa o e n=>h a o (ok.keep a o e n),λa e=>ok.dom a (by
  cases q:H a with
  | none=>rfl
  | some o=>rw[h a o q]at e;cases e),ok.len⟩
def bP2(h:aF2 H H1){a:Addr}(e:H1 a=none):H a=none:=by
 cases q:H a with
 | none=>rfl
 | some o=>rw[h a o q]at e;cases e
def Step.same(h:aF2 H H1):Step σ σV H σ σV H1:=⟨λa o e _=>h a o e,λa e=>bP2 h e,λ_ h=>.inl h,λ_ h=>.inl h,λi s h=>⟨s,h⟩,λi s h _=>⟨s,h,rfl,λ_=>rfl,rfl⟩,λi s h m=>⟨s,h,m⟩⟩
end
inductive Res where
 | val (d:D) | own (d:D) | slot (i:Nat)
def nG(Γ:Gm)(H:Hp)(σ:Sg)(σV:St)(r:Res)(v:V):Prop:=match r with
 | .val d=>Rp H d v
 | .own d=>∃ p,v=.ref p/\fQ H d p/\¬ bZ3 σ σV p/\Γ.H₀ p=none
 | .slot i=>σV[i]? = some (some v)/\∃ s,σ[i]? = some (some s)
noncomputable def rd(σ:Sg):Res->Option D
 | .val d=>some d
 | .own d=>some d
 | .slot i=>match σ[i]? with
   | some (some s)=>some s.d
   | _=>none
section
variable{σ σ1:Sg}{σV σV1:St}{H H1:Hp}{Γ:Gm}{r:Res}{v:V}{d:D}
theorem nG.vw(ok:StOk Γ H σ σV)(h:nG Γ H σ σV r v)(e:rd σ r=some d):Vw H d v:=by
 cases r with
 | val d'=>cases e;exact .inl h
 | own d'=>cases e;obtain⟨p,a,b,_⟩:=h;exact .inr ⟨p,a,b⟩
 | slot i=>
   obtain⟨f,s,c⟩:=h;have g:some s.d=some d:=by
    have:rd σ (.slot i)=some s.d:=by show(match σ[i]? with | some (some s)=>some s.d | _=>none)=_;rw[c]
    rw[← this];exact e
   cases g;obtain⟨w,a,b⟩:=ok.rel i s c;rw[f]at a;cases a;exact b.vw
def nG.step(ok:StOk Γ H σ σV)(h:nG Γ H σ σV r v)(st:Step σ σV H σ1 σV H1):nG Γ H1 σ1 σV r v:=by
 cases r with
 | val d=>exact Rp.mono (st.ext ok) h
 | own d=>
   obtain⟨p,c,a,b,e⟩:=h;obtain⟨o,f,_⟩:=a.obj;refine⟨p,c,a.mono (st.ext ok) λo h=>st.fr p o h λz=>b z.nv,λz=>?_,e⟩;rcases st.nv p z with q | q;exact b q;rw[f]at q;cases q
 | slot i=>
   obtain⟨g,s,j⟩:=h;exact⟨g,st.kp i s j⟩
end
abbrev DE:=Sg->Option (Res×Sg)
abbrev DT:=Sg->Option (Bool×Sg)
abbrev DA:=Sg->Option (List Res×Sg)
inductive ResOks(Γ:Gm)(H:Hp)(σ:Sg)(σV:St):List Res->List V->Prop
 | nil:ResOks Γ H σ σV [] []
 | cons {r:Res} {rs:List Res} {v:V} {vs:List V}:nG Γ H σ σV r v->ResOks Γ H σ σV rs vs->(∀ d p,r=.own d->v=.ref p->∀ (j:Nat) d',rs[j]? = some (.own d')->vs[j]? ≠ some (.ref p))->ResOks Γ H σ σV (r::rs) (v::vs)
def Frh(H:Hp)(r:Res)(v:V):Prop:=∀ d p,r=.own d->v=.ref p->H p=none
def jS{H:Hp}{d:D}{v:V}:Frh H (.val d) v:=λ_ _ e=>nomatch e
def Frh.back{H c:Hp}{r:Res}{v:V}{σ b:Sg}{σV a:St}(f:Frh c r v)(st:Step σ σV H b a c):Frh H r v:=λd p e g=>st.dom p (f d p e g)
def dTE(Γ:Gm)(r:DE):TE:=λσV H Q=>∃ σ,StOk Γ H σ σV/\∃ res σ',r σ=some (res,σ') /\
 ∀ v H',StOk Γ H' σ' σV->nG Γ H' σ' σV res v->Step σ σV H σ' σV H'->Frh H res v->Q v H'
def peW{X:Cx}{e:Expr}{t t':TE}(h:PE X e t)(w:∀ σ H Q,t' σ H Q->t σ H Q):PE X e t':=λpins s σ H Q I q=>h pins s σ H Q I (w σ H Q q)
def ptW{X:Cx}{e:Expr}{t t':TT}(h:PT X e t)(w:∀ σ H Q,t' σ H Q->t σ H Q):PT X e t':=λpins s σ H Q I q=>h pins s σ H Q I (w σ H Q q)
def pwW{X:Cx}{e:Expr}{t t':TT}(h:PW X e t)(w:∀ σ H Q,t' σ H Q->t σ H Q):PW X e t':=λa pins s σ H Q I q=>h a pins s σ H Q I (w σ H Q q)
def paW{X:Cx}{e:List Expr}{t t':TA}(h:PA X e t)(w:∀ σ H Q,t' σ H Q->t σ H Q):PA X e t':=λa pins s σ H Q I q=>h a pins s σ H Q I (w σ H Q q)
def psW{X:Cx}{e:Stmt}{t t':TS}(h:PS X e t)(w:∀ D σ H,t' D σ H->t D σ H):PS X e t':=λpins s σ H D I q=>h pins s σ H D I (w D σ H q)
def dI4{X:Cx}{e:List Stmt}{t t':TS}(h:PSs X e t)(w:∀ D σ H,t' D σ H->t D σ H):PSs X e t':=λpins s σ H D I q=>h pins s σ H D I (w D σ H q)
structure GE(X:Cx)(e:Expr)(r:DE):Prop where
 to:∀ Γ,PE X e (dTE Γ r)
def dTT(Γ:Gm)(r:DT):TT:=λσV H Q=>∃ σ,StOk Γ H σ σV/\∃ b σ',r σ=some (b,σ')/\∀ H',StOk Γ H' σ' σV->Step σ σV H σ' σV H'->Q b H'
structure GT(X:Cx)(e:Expr)(r:DT):Prop where
 to:∀ Γ,PT X e (dTT Γ r)
structure GW(X:Cx)(e:Expr)(r:DT):Prop where
 to:∀ Γ,PW X e (dTT Γ r)
def GW.gt{X:Cx}{e:Expr}{r:DT}(h:GW X e r):GT X e r:=.mk λΓ=>(h.to Γ).pt
def dZ8(H:Hp)(rs:List Res)(vs:List V):Prop:=∀ (j:Nat) d p,rs[j]? = some (.own d)->vs[j]? = some (.ref p)->H p=none
def dTA(Γ:Gm)(r:DA):TA:=λσV H Q=>∃ σ,StOk Γ H σ σV/\∃ rs σ',r σ=some (rs,σ')/\∀ vs H',StOk Γ H' σ' σV->ResOks Γ H' σ' σV rs vs->Step σ σV H σ' σV H'->dZ8 H rs vs->Q vs H'
structure GA(X:Cx)(es:List Expr)(r:DA):Prop where
 to:∀ Γ,PA X es (dTA Γ r)
noncomputable def aH(i:Nat):DE:=λσ=>match σ[i]? with
 | some (some s)=>some (if s.m=.val then .val s.d else .slot i,σ)
 | _=>none
def aA{X:Cx}{e:Expr}{i:Nat}(h:PE X e (cA2 i)):GE X e (aH i):=.mk λΓ=>peW h λσV H Q ⟨σ,ok,res,σ',e,k⟩=>by
 unfold aH at e;split at e;rename_i s a;cases e;obtain⟨v,b,r⟩:=ok.rel i s a;refine⟨v,b,k v H ok ?_ .refl (by split<;>exact λ_ _ e=>nomatch e)⟩;by_cases hm:s.m=.val;rw[a4i hm];obtain⟨m,d⟩:=s;cases hm;exact r;rw[a4j hm];exact⟨b,s,a⟩;cases e
noncomputable def dC(d:D):DE:=λσ=>some (.val d,σ)
def dI5{X:Cx}{e:Expr}{v:V}{d:D}(h:PE X e (tC v))(a:∀ H,Rp H d v):GE X e (dC d):=.mk λΓ=>peW h λσV H Q ⟨σ,ok,res,σ',e,k⟩=>by
 cases e;exact k v H ok (a H) .refl jS
def ge_int{X:Cx}{i:Int}{j pos}:GE X (.Constant (.int i) j pos) (dC (.int i)):=dI5 fX λ_=>.int i
def wB{X:Cx}{i:Bool}{j pos}:GE X (.Constant (.bool i) j pos) (dC (.bl i)):=dI5 dQ0 λ_=>.bl i
def aA4{X:Cx}{i:Str}{j pos}:GE X (.Constant (.str i) j pos) (dC (.str i)):=dI5 bK9 λ_=>.str i
def aA5{X:Cx}{j pos}:GE X (.Constant .none j pos) (dC .non):=dI5 dD5 λ_=>.non
def cC5{X:Cx}{x:Str}{i:Int}{pos:Pos}(a:Gl X x)(h:∃ t,X.mg x=some (.int i t))(hd:(x==("__debug__":Str))=false:=by decide):GE X (.Name x pos) (dC (.int i)):=dI5 (cB8 a h hd) λ_=>.int i
def aU8(H H':Hp)(r:Res)(v:V):Prop:=match r with
 | .val d=>Rp H' d v
 | .own d=>∃ p,v=.ref p/\H p=none/\fQ H' d p
 | .slot _=>False
def aU8.frh{H H':Hp}{r:Res}{v:V}(h:aU8 H H' r v):Frh H r v:=λd p a b=>by
 subst a b;obtain⟨q,e,c,_⟩:=h;cases e;exact c
def aU8.res{Γ:Gm}{H H':Hp}{σ:Sg}{σV:St}{r:Res}{v:V}(h:aU8 H H' r v)(ok:StOk Γ H σ σV):nG Γ H' σ σV r v:=by
 cases r with
 | val d=>exact h
 | own d=>
   obtain⟨p,b,a,c⟩:=h;refine⟨p,b,c,λz=>?_,ok.dom p a⟩;obtain⟨o,e,_⟩:=ok.mutObj z;rw[a]at e;cases e
 | slot i=>exact h.elim
abbrev F1:=D->Option Res
abbrev F2:=D->D->Option Res
abbrev FN:=List D->Option Res
def dA9(a:V->Hp->VK->Prop)(f:F1):Prop:=∀ H d x Q res,Vw H d x->f d=some res->(∀ v H',aF2 H H'->aU8 H H' res v->Q v H')->a x H Q
def aA6(c:R2)(f:F2):Prop:=∀ H a b x y Q res,Vw H a x->Vw H b y->f a b=some res->(∀ v H',aF2 H H'->aU8 H H' res v->Q v H')->c x y H Q
def bA5(b:List V->Hp->VK->Prop)(f:FN):Prop:=∀ H a vs Q res,Vws H a vs->f a=some res->(∀ v H',aF2 H H'->aU8 H H' res v->Q v H')->b vs H Q
noncomputable def bP3(f:F1)(a:DE):DE:=λσ=>(a σ).bind λx=>(rd x.2 x.1).bind λd=>(f d).bind λr=>some (r,x.2)
noncomputable def aY(f:F2)(a b:DE):DE:=λσ=>(a σ).bind λx=>(b x.2).bind λy=>(rd y.2 x.1).bind λd=>(rd y.2 y.1).bind λe=>(f d e).bind λr=>some (r,y.2)
def aC{α c:Type}{o:Option α}{f:α->Option c}{b:c}(h:o.bind f=some b):∃ a,o=some a/\f a=some b:=by
 cases o with
 | none=>cases h
 | some a=>exact⟨a,rfl,h⟩
def pR{Γ:Gm}{l:R2}{f:F2}(q:aA6 l f){m n:DE}{σV:St}{H:Hp}{Q:VK}(h:dTE Γ (aY f m n) σV H Q):tOp l (dTE Γ m) (dTE Γ n) σV H Q:=by
 obtain⟨σ,ok,res,σ',e,k⟩:=h;obtain⟨⟨x,c⟩,s,e⟩:=aC e;obtain⟨⟨y,i⟩,t,e⟩:=aC e;obtain⟨u,w,e⟩:=aC e;obtain⟨z,A,e⟩:=aC e;obtain⟨r,B,e⟩:=aC e;cases e;refine⟨σ,ok,x,c,s,λv1 F d C g _=>⟨c,d,y,i,t,λv2 D a E b _=>?_⟩⟩;have j:=C.step d b;refine q D u z v1 v2 Q _ (j.vw a w) (E.vw a A) B λv H' o p=>?_;exact k v H' (a.same o) (p.res a) ((g.trans b).trans (.same o)) (p.frh.back (g.trans b))
def bA6{Γ:Gm}{d:V->Hp->VK->Prop}{f:F1}(l:dA9 d f){g:DE}{σV:St}{H:Hp}{Q:VK}(h:dTE Γ (bP3 f g) σV H Q):tUn d (dTE Γ g) σV H Q:=by
 obtain⟨σ,ok,res,σ',e,k⟩:=h;obtain⟨⟨x,c⟩,m,e⟩:=aC e;obtain⟨n,o,e⟩:=aC e;obtain⟨r,p,e⟩:=aC e;cases e;refine⟨σ,ok,x,c,m,λv1 q a s b _=>?_⟩;refine l q n v1 Q _ (s.vw a o) p λv H' i j=>?_;exact k v H' (a.same i) (j.res a) (b.trans (.same i)) (j.frh.back b)
section
variable{X:Cx}{a b:Expr}{ra rb:DE}{pos:Pos}
def bA{c:Operator}{d:R2}{f:F2}(e:OpR X (binaryOp c) d)(g:aA6 d f)(ha:GE X a ra)(h:GE X b rb):GE X (.BinOp a c b pos) (aY f ra rb):=
 .mk λΓ=>peW (bF5 e (ha.to Γ) (h.to Γ)) λ_ _ _=>pR g
def cT5{b:UnaryOp}{c:V->Hp->VK->Prop}{f:F1}(d:UnR X (unaryOp b) c)(e:dA9 c f)(ha:GE X a ra):GE X (.UnaryOp b a pos) (bP3 f ra):=
 .mk λΓ=>peW (dQ7 d (ha.to Γ)) λ_ _ _=>bA6 e
def gN{c:CmpOp}{d:R2}{f:F2}(e:OpR X (compareOp c) d)(g:aA6 d f)(ha:GE X a ra)(h:GE X b rb)(hm:behindInMarks c b=false):GE X (.Compare a [c] [b] pos) (aY f ra rb):=
 .mk λΓ=>peW (cR0 e (ha.to Γ) (h.to Γ) hm) λ_ _ _=>pR g
noncomputable def eK(r:DE):DT:=λσ=>(r σ).bind λx=>(rd x.2 x.1).bind λd=>match d with
 | .bl b=>some (b,x.2)
 | _=>none
def aG1{r:DE}{σ σ':Sg}{b:Bool}(h:eK r σ=some (b,σ')):∃ x,r σ=some (x,σ')/\rd σ' x=some (.bl b):=by
 obtain⟨⟨x,c⟩,f,e⟩:=aC h;obtain⟨d,a,e⟩:=aC e;dsimp only at e a;split at e;cases e;exact⟨x,f,a⟩;cases e
def aM9{H:Hp}{b:Bool}{v:V}(h:Vw H (.bl b) v):v=.bl b:=by
 rcases h with h | ⟨p,_,h⟩;cases h;rfl;exact h.elim
def bA7{Γ:Gm}{r:DE}{σV:St}{H:Hp}{Q:Bool->Hp->Prop}(h:dTT Γ (eK r) σV H Q):dTE Γ r σV H (λx H'=>∃ k,x=.bl k/\Q k H'):=by
 obtain⟨σ,ok,b,σ',e,k⟩:=h;obtain⟨x,c,d⟩:=aG1 e;refine⟨σ,ok,x,σ',c,λv H' a f st _=>⟨b,aM9 (f.vw a d),k H' a st⟩⟩
def bN{c:CmpOp}{d:R2}{f:F2}(e:OpR X (compareOp c) d)(g:aA6 d f)(ha:GE X a ra)(i:GE X b rb)(hm:behindInMarks c b=false):GT X (.Compare a [c] [b] pos) (eK (aY f ra rb)):=
 .mk λΓ=>ptW (lB e (ha.to Γ) (i.to Γ) hm) λσ H Q h=>pR g (bA7 h)
def nM{e:Expr}{r:DE}(h:GE X e r)(b:∀ a,isTrue e X.env a=(do let v ← a;standAt e.pos;holding [v] (truthy v)):=by intro _;rfl):GT X e (eK r):=
 .mk λΓ=>ptW (dD6 (h.to Γ) b) λ_ _ _ h=>bA7 h
noncomputable def dX1:D->Option Bool
 | .non=>some false
 | .bl b=>some b
 | .int i=>some (i != 0)
 | .str x=>if x.length<=sizeLine then some ((x.length:Int) != 0)else none
 | .lst l=>some (!l.isEmpty)
 | .tup l=>some (!l.isEmpty)
 | _=>none
noncomputable def dP1(r:DE):DT:=λσ=>(r σ).bind λx=>(rd x.2 x.1).bind λd=>(dX1 d).bind λb=>some (b,x.2)
end
def gO{H:Hp}{l:List D}{v:V}(h:Vw H (.tup l) v):∃ p xs,v=.ref p/\H p=some (.tup xs)/\Rps H l xs:=by
 rcases h with h | ⟨p,_,h⟩
 ·cases h with
  | tup h r=>exact⟨_,_,rfl,h,r⟩
 ·exact h.elim
def iM{H:Hp}{l:List D}{v:V}(h:Vw H (.lst l) v):∃ p xs,v=.ref p/\gR H p=some (true,xs)/\Rps H l xs:=by
 rcases h with h | ⟨p,e,xs,h,r⟩
 ·cases h with
  | lst h r=>exact⟨_,_,rfl,aZ8 h,r⟩
 ·exact⟨p,xs,e,wI h,r⟩
def fD{H:Hp}{i:Int}{v:V}(h:Vw H (.int i) v):v=.int i:=by
 rcases h with h | ⟨p,_,h⟩;cases h;rfl;exact h.elim
def nN{H:Hp}{i:Str}{v:V}(h:Vw H (.str i) v):v=.str i:=by
 rcases h with h | ⟨p,_,h⟩;cases h;rfl;exact h.elim
def bP4{H:Hp}{v:V}(h:Vw H .non v):v=.non:=by
 rcases h with h | ⟨p,_,h⟩;cases h;rfl;exact h.elim
noncomputable def cC6:D->Option (Bool×List D)
 | .lst l=>some (true,l)
 | .tup l=>some (false,l)
 | _=>none
def bA8{H:Hp}{d:D}{v:V}{b:Bool}{l:List D}(h:Vw H d v)(e:cC6 d=some (b,l)):∃ p xs,v=.ref p/\gR H p=some (b,xs)/\Rps H l xs:=by
 cases d with
 | lst a=>cases e;exact iM h
 | tup a=>cases e;obtain⟨p,xs,c,f,g⟩:=gO h;exact⟨p,xs,c,dS f,g⟩
 | _=>cases e
section
variable{X:Cx}{a b:Expr}{ra rb:DE}{pos:Pos}
def cC7(ha:GE X a ra)(o:∀ f,isTrue a X.env f=(do let v ← f;standAt a.pos;holding [v] (truthy v))):GT X a (dP1 ra):=.mk λΓ=>ptW (cA4 (ha.to Γ) o) λσV H Q ⟨σ,ok,b,σ',e,k⟩=>by
 obtain⟨⟨x,q⟩,r,e⟩:=aC e;obtain⟨d,s,e⟩:=aC e;obtain⟨t,g,e⟩:=aC e;cases e;refine⟨σ,ok,x,_,r,λv H' j u st _=>⟨b,?_,k H' j st⟩⟩;have vw:=u.vw j s;cases d with
 | non=>cases g;rw[bP4 vw];rfl
 | bl c=>cases g;rw[aM9 vw];rfl
 | int i=>cases g;rw[fD vw];rfl
 | str z=>
   rw[nN vw];have h:(if z.length<=sizeLine then some ((z.length:Int) != 0)else none)=some b:=g;split at h;rename_i w;cases h;exact⟨w,rfl⟩;cases h
 | lst l=>
   cases g;obtain⟨p,xs,rfl,m,n⟩:=iM vw;refine .inl ⟨xs,fB m,?_⟩;have:=n.length;cases l<;>cases xs<;>simp_all
 | tup l=>
   cases g;obtain⟨p,xs,rfl,m,n⟩:=gO vw;refine .inr (.inl ⟨xs,eP (dS m),?_⟩);have:=n.length;cases l<;>cases xs<;>simp_all
 | dic ks vs=>cases g
variable{tA tB:DT}{nK:List Expr}
noncomputable def bZ4(t u:DT):DT:=λσ=>(t σ).bind λx=>if x.1=true then u x.2 else some (false,x.2)
noncomputable def dOr(t u:DT):DT:=λσ=>(t σ).bind λx=>if x.1=true then some (true,x.2)else u x.2
noncomputable def cT6(t:DT):DT:=λσ=>(t σ).bind λx=>some (!x.1,x.2)
def xB(ha:GT X a tA):GW X (.BoolOp .And [a] pos) tA:=.mk λΓ=>aT5 (ha.to Γ)
def bP5(ha:GT X a tA):GW X (.BoolOp .Or [a] pos) tA:=.mk λΓ=>dD7 (ha.to Γ)
def aN0(ha:GT X a tA)(l:GW X (.BoolOp .And (b::nK) pos) tB):GW X (.BoolOp .And (a::b::nK) pos) (bZ4 tA tB):=.mk λΓ=>pwW (aZ0 (ha.to Γ) (l.to Γ)) λσV H Q ⟨σ,ok,c,σ',e,k⟩=>by
 obtain⟨⟨x,d⟩,m,e⟩:=aC e;refine⟨σ,ok,x,d,m,λn f g=>?_⟩;dsimp only at e;split at e;rename_i h;rw[a4i h];exact⟨d,f,c,σ',e,λo i j=>k o i (g.trans j)⟩;rename_i h;rw[a4j h];cases e;exact k n f g
def cC8(ha:GT X a tA)(l:GW X (.BoolOp .Or (b::nK) pos) tB):GW X (.BoolOp .Or (a::b::nK) pos) (dOr tA tB):=.mk λΓ=>pwW (dQ1 (ha.to Γ) (l.to Γ)) λσV H Q ⟨σ,ok,c,σ',e,k⟩=>by
 obtain⟨⟨x,d⟩,m,e⟩:=aC e;refine⟨σ,ok,x,d,m,λn f g=>?_⟩;dsimp only at e;split at e;rename_i h;rw[a4i h];cases e;exact k n f g;rename_i h;rw[a4j h];exact⟨d,f,c,σ',e,λo i j=>k o i (g.trans j)⟩
def aA7(ha:GT X a tA):GT X (.UnaryOp .Not a pos) (cT6 tA):=.mk λΓ=>ptW (dD8 (ha.to Γ)) λσV H Q ⟨σ,ok,c,σ',e,k⟩=>by
 obtain⟨⟨x,f⟩,g,e⟩:=aC e;cases e;exact⟨σ,ok,x,_,g,λh b d=>k h b d⟩
noncomputable def aN1(t u:DE):DE:=λσ=>(eK t σ).bind λx=>if x.1=true then u x.2 else some (.val (.bl false),x.2)
noncomputable def dP2(t u:DE):DE:=λσ=>(eK t σ).bind λx=>if x.1=true then some (.val (.bl true),x.2)else u x.2
def xC{op}{r:DE}(h:GE X a r):GE X (.BoolOp op [a] pos) r:=.mk λΓ=>dD9 (h.to Γ)
def aA8(ha:GE X a ra)(l:GE X (.BoolOp .And (b::nK) pos) rb):GE X (.BoolOp .And (a::b::nK) pos) (aN1 ra rb):=.mk λΓ=>peW (dE0 (ha.to Γ) (l.to Γ)) λσV H Q ⟨σ,ok,c,σ',e,k⟩=>by
 obtain⟨⟨x,g⟩,m,e⟩:=aC e;obtain⟨y,n,o⟩:=aG1 m;refine⟨σ,ok,y,g,n,λv p d q f _=>⟨x,aM9 (q.vw d o),?_⟩⟩;dsimp only at e;split at e;rename_i h;rw[a4i h];exact⟨g,d,c,σ',e,λv2 r i s j t=>k v2 r i s (f.trans j) (t.back f)⟩;rename_i h;rw[a4j h];cases e;exact k _ p d (.bl false) f jS
def dS6(ha:GE X a ra)(l:GE X (.BoolOp .Or (b::nK) pos) rb):GE X (.BoolOp .Or (a::b::nK) pos) (dP2 ra rb):=.mk λΓ=>peW (dQ3 (ha.to Γ) (l.to Γ)) λσV H Q ⟨σ,ok,c,σ',e,k⟩=>by
 obtain⟨⟨x,g⟩,m,e⟩:=aC e;obtain⟨y,n,o⟩:=aG1 m;refine⟨σ,ok,y,g,n,λv p d q f _=>⟨x,aM9 (q.vw d o),?_⟩⟩;dsimp only at e;split at e;rename_i h;rw[a4i h];cases e;exact k _ p d (.bl true) f jS;rename_i h;rw[a4j h];exact⟨g,d,c,σ',e,λv2 r i s j t=>k v2 r i s (f.trans j) (t.back f)⟩
end
def Fz:HO->Prop
 | .lst _=>True
 | .dK _=>True
 | .dT _=>True
 | .dM _=>True
 | _=>False
def bP6{X:Cx}{pins:List (Addr×Obj)}{σ:St}{H:Hp}{s:Shared}{p:Addr}{u:HO}(I:Inv X pins σ H s)(h:H p=some u)(d:Fz u):∃ o,Inv X pins σ (upd H p (.frz o u)) s:=by
 have nt:∀ b xs,H b=some (.tup xs)->b≠p:=λb xs e z=>by subst z;rw[h]at e;cases e;exact d
 have j:∀ b o x,H b=some (.frz o x)->b≠p:=λb o x e z=>by subst z;rw[h]at e;cases e;exact d
 have no:∀ b x,H b=some (.own x)->b≠p:=λb x e z=>by subst z;rw[h]at e;cases e;exact d
 have r:∀ b x,H b=some (.tbl x)->b≠p:=λb x e z=>by subst z;rw[h]at e;cases e;exact d
 have f:∀ b,H b=none->b≠p:=λb e z=>by subst z;rw[h]at e;cases e
 obtain⟨o,t⟩:∃ o,s.heap.get? p=some o:=by
  have:=I.hok p u h;have l:=this.lt;cases q:s.heap.get? p with
  | some o=>exact⟨o,rfl⟩
  | none=>
    cases u with
    | lst xs=>obtain⟨_,_,_,_,e⟩:=this;rw[q]at e;cases e
    | dK kvs=>obtain⟨_,_,_,_,ob,_,_,e,_⟩:=this;rw[q]at e;cases e
    | dT kvs=>obtain⟨_,_,_,_,ob,_,_,e,_⟩:=this;rw[q]at e;cases e
    | dM kvs=>obtain⟨_,_,_,_,ob,_,_,e,_⟩:=this;rw[q]at e;cases e
    | _=>exact d.elim
 have st:∀ a x,eR X.prog X.w H s.heap a x->eR X.prog X.w (upd H p (.frz o u)) s.heap a x:=λa x k=>
  k.stay (λ_ _ _ e=>e) (λb e=>by rw[aL (no b _ e)];exact e) λb xs e=>by rw[aL (nt b _ e)];exact e
 refine⟨o,{I with base:=?_,free:=?_,freeC:=?_,pin:=?_,hok:=?_}⟩
 ·exact⟨I.base.keep,I.base.slot,λb ob q n v=>by
    have:=I.base.free b ob q n v;rw[aL (f b this)];exact this,I.base.there,λb xs e=>by
    have:=I.base.tups b xs e;rw[aL (nt b _ this)];exact this,λb ob x e=>by
    have:=I.base.frzs b ob x e;rw[aL (j b _ _ this)];exact this,λb ps e=>by
    obtain⟨m,g⟩:=I.base.tbls b ps e;exact⟨m,by rw[aL (r b _ g)];exact g⟩⟩
 ·rw[aL (f _ I.free)];exact I.free
 ·intro x c e;rw[aL (f _ (I.freeC x c e))];exact I.freeC x c e
 ·intro q y;obtain⟨A,i,B⟩:=I.pin q y;exact⟨A,by rw[aL (f _ i)];exact i,B⟩
 ·intro a x e;by_cases ha:a=p;subst ha;rw[aR]at e;cases e;exact⟨t,st a u (I.hok a u h)⟩;rw[aL ha]at e;exact st a x (I.hok a x e)
def tFz(t:TE):TE:=λσ H Q=>t σ H λv H1=>Q v H1\/∃ p u,v=.ref p/\H1 p=some u/\Fz u/\∀ o,Q v (upd H1 p (.frz o u))
def dS7{X:Cx}{e:Expr}{t:TE}(h:PE X e t):PE X e (tFz t):=λpins s σ H Q I q=>
 thn (h pins s σ H _ I q) λu s1 ⟨v,d,b,c,a⟩=>by
  rcases a with a | ⟨p,x,j,f,g,a⟩;exact⟨v,d,b,c,a⟩;obtain⟨o,i⟩:=bP6 b f g;exact⟨v,_,i,c,a o⟩
def bP7{H:Hp}{d:D}{p:Addr}(h:fQ H d p):∃ u,H p=some u/\Fz u/\∀ o H',Ext H H'->H' p=some (.frz o u)->Rp H' d (.ref p):=by
 unfold fQ at h;split at h;obtain⟨xs,b,a⟩:=h;exact⟨_,b,True.intro,λo H' x e=>.lst e (a.mono x)⟩
 ·obtain⟨u,ws,b,a,c⟩:=h;refine⟨u,b,?_,λo H' x e=>.dic e a (c.mono x)⟩;cases u with
  | dK _=>exact True.intro
  | dT _=>exact True.intro
  | dM _=>exact True.intro
  | _=>exact a.elim
 ·exact h.elim
def bP8{H:Hp}{p:Addr}{u:HO}{o:Obj}(h:H p=some u)(a:Fz u):Ext H (upd H p (.frz o u)):=
 ⟨λb xs e=>by rw[aL (λz=>by subst z;rw[h]at e;cases e;exact a)];exact e,λb ob x e=>by rw[aL (λz=>by subst z;rw[h]at e;cases e;exact a)];exact e⟩
noncomputable def dX2(σ:Sg):Res->Option (D×Sg)
 | .val d=>some (d,σ)
 | .own d=>some (d,σ)
 | .slot i=>match σ[i]? with
   | some (some s)=>if s.m=.own then some (s.d,σ.set i (some ⟨.val,s.d⟩))else if s.m=.val then some (s.d,σ)else none
   | _=>none
noncomputable def dFz(r:DE):DE:=λσ=>(r σ).bind λx=>(dX2 x.2 x.1).bind λy=>some (.val y.1,y.2)
def cO{α:Type}{l:List α}{i j:Nat}{x y:α}(h:(l.set i x)[j]? = some y):(j=i/\y=x/\i < l.length)\/(j≠i/\l[j]? = some y):=by
 rw[List.getElem?_set]at h;split at h;rename_i e;split at h;cases h;exact .inl ⟨e.symm,rfl,by assumption⟩;cases h;rename_i e;exact .inr ⟨λz=>e z.symm,h⟩
def cE{X:Cx}{e:Expr}{r:DE}(h:GE X e r):GE X e (dFz r):=.mk λΓ=>peW (dS7 (h.to Γ)) λσV H Q ⟨σ,ok,res,σ',e,k⟩=>by
 obtain⟨⟨x,σ1⟩,W,e⟩:=aC e;obtain⟨⟨d,M⟩,C,e⟩:=aC e;cases e;refine⟨σ,ok,x,σ1,W,λv T b A c Y=>?_⟩;dsimp only at C;cases x with
 | val d'=>cases C;exact .inl (k v T b A c jS)
 | own d'=>
   cases C;obtain⟨p,rfl,N,Z,h3⟩:=A;obtain⟨u,G,I,O⟩:=bP7 N;have hn:H p=none:=Y _ p rfl rfl;refine .inr ⟨p,u,rfl,G,I,λo=>?_⟩;have x:=bP8 (o:=o) G I;refine k _ _ ⟨λi s e=>?_,b.dis,b.own,b.par,λa ob e n=>?_,λa e=>?_,b.len⟩ (O o _ x aR) ⟨λa ob e n=>?_,λa e=>?_,c.mu,c.nv,c.kp,c.fix,c.lt⟩ jS;obtain⟨w,D,B⟩:=b.rel i s e;refine⟨w,D,B.mono x λq ob P m C=>?_⟩;rw[aL (λz=>Z ⟨i,s,e,m,by rw[D,P,z]⟩)];exact C;rw[aL (λz=>by subst z;rw[h3]at e;cases e)];exact b.keep a ob e n;by_cases z:a=p;subst z;rw[aR]at e;cases e;rw[aL z]at e;exact b.dom a e;rw[aL (λz=>by subst z;rw[hn]at e;cases e)];exact c.fr a ob e n;by_cases z:a=p;subst z;rw[aR]at e;cases e;rw[aL z]at e;exact c.dom a e
 | slot i=>
   obtain⟨A,s,E⟩:=A;have g:(match σ1[i]? with | some (some s)=>if s.m=.own then some (s.d,σ1.set i (some ⟨.val,s.d⟩))else if s.m=.val then some (s.d,σ1)else none | _=>none)=some (d,M):=C;rw[E]at g;dsimp only at g;obtain⟨w,D,B⟩:=b.rel i s E;rw[A]at D;cases D;split at g
   ·rename_i hm;cases g;obtain⟨m,d⟩:=s;cases hm;obtain⟨p,rfl,N⟩:=(eG (s:=⟨.own,d⟩) (λz=>nomatch z)).mp B;obtain⟨u,G,I,O⟩:=bP7 N;refine .inr ⟨p,u,rfl,G,I,λo=>?_⟩;have x:=bP8 (o:=o) G I;have U:=O o _ x aR;have il:i < σ1.length:=(a2a.mp E).1;have pm:wA σ1 σV p:=⟨i,_,E,rfl,A⟩;have sub:∀ (j:Nat) t,(σ1.set i (some ⟨.val,d⟩))[j]? = some (some t)->t.m≠.val->j≠i/\σ1[j]? = some (some t):=λj t f hm=>by
     rcases cO f with⟨_,z,_⟩ | z;cases z;exact absurd rfl hm;exact z
    have J:∀ t:Sl,t.m.mt=true->t.m≠.val:=λt h z=>by rw[z]at h;cases h
    refine k _ _ ⟨λj t f=>?_,λj l t F q n f el m V=>?_,λj t q f m=>?_,λj t q f m=>?_,λa ob e n=>?_,λa e=>?_,?_⟩ U
     ⟨λa ob e n=>?_,λa e=>?_,λa ⟨j,t,f,m,R⟩=>?_,λa ⟨j,t,f,m,R⟩=>?_,λj t f=>?_,λj t f m=>?_,λj t f m=>c.lt j t (sub j t f (by rw[m];exact λz=>nomatch z)).2 m⟩ jS
    ·rcases cO f with⟨z,L,_⟩ | ⟨z,L⟩;cases L;rw[z];exact⟨_,A,U⟩;obtain⟨w,D,S⟩:=b.rel j t L;refine⟨w,D,S.mono x λq ob P m C=>?_⟩;rw[aL (λy=>b.dis i j _ t p (a0e z) E L rfl m A (by rw[D,P,y]))];exact C
    ·exact b.dis j l t F q n (sub j t f (J t m)).2 (sub l F el V).2 m V
    ·exact b.own j t q (sub j t f (by rw[m];exact λz=>nomatch z)).2 m
    ·exact b.par j t q (sub j t f (by rw[m];exact λz=>nomatch z)).2 m
    ·have hp:=b.own i _ p E rfl A;rw[aL (λz=>by subst z;rw[hp]at e;cases e)];exact b.keep a ob e n
    ·by_cases z:a=p;subst z;rw[aR]at e;cases e;rw[aL z]at e;exact b.dom a e
    ·rw[a5g];exact b.len
    ·by_cases z:a=p;subst z;rcases c.mu a pm with y | y;exact absurd y n;rw[e]at y;cases y;rw[aL z];exact c.fr a ob e n
    ·by_cases z:a=p;subst z;rw[aR]at e;cases e;rw[aL z]at e;exact c.dom a e
    ·exact c.mu a ⟨j,t,(sub j t f (J t m)).2,m,R⟩
    ·exact c.nv a ⟨j,t,(sub j t f m).2,m,R⟩
    ·obtain⟨F,K⟩:=c.kp j t f;by_cases z:j=i;subst z;exact⟨_,by rw[a8c il]⟩;exact⟨F,by rw[a0b (a0e z)];exact K⟩
    ·obtain⟨F,K,h⟩:=c.fix j t f m;refine⟨F,?_,h⟩;rw[a0b (λz=>?_)];exact K;subst z;rw[E]at K;cases K;rcases m with m | m;have:=h.1;rw[m]at this;cases this;have:=h.1;rw[m]at this;cases this
   ·split at g;rename_i hm;cases g;obtain⟨m,d⟩:=s;cases hm;exact .inl (k v T b B c jS);cases g
noncomputable def aV:DA:=λσ=>some ([],σ)
noncomputable def aE(r:DE)(rs:DA):DA:=λσ=>(r σ).bind λx=>(rs x.2).bind λy=>some (x.1::y.1,y.2)
noncomputable def rds(σ:Sg):List Res->Option (List D)
 | []=>some []
 | r::rs=>(rd σ r).bind λd=>(rds σ rs).bind λa=>some (d::a)
noncomputable def vals:List Res->Option (List D)
 | []=>some []
 | .val d::rs=>(vals rs).bind λa=>some (d::a)
 | _=>none
theorem aG2{Γ:Gm}{H:Hp}{σ:Sg}{σV:St}(ok:StOk Γ H σ σV):∀ {rs:List Res} {vs:List V} {a:List D},ResOks Γ H σ σV rs vs->rds σ rs=some a->Vws H a vs
 | _,_,_,.nil,e=>by cases e;exact .nil
 | _,_,_,.cons h t _,e=>by
   obtain⟨d,b,e⟩:=aC e;obtain⟨a,c,e⟩:=aC e;cases e;exact .cons (h.vw ok b) (aG2 ok t c)
theorem pS{Γ:Gm}{H:Hp}{σ:Sg}{σV:St}:∀ {rs:List Res} {vs:List V} {a:List D},ResOks Γ H σ σV rs vs->vals rs=some a->Rps H a vs
 | _,_,_,.nil,e=>by cases e;exact .nil
 | .val d::_,_,_,.cons h t _,e=>by
   obtain⟨a,b,e⟩:=aC e;cases e;exact .cons h (pS t b)
 | .own d::_,_,_,.cons h t _,e=>by cases e
 | .slot d::_,_,_,.cons h t _,e=>by cases e
section
variable{X:Cx}{e:Expr}{es:List Expr}{r:DE}{rs:DA}{pos:Pos}
def aF:GA X [] aV:=.mk λΓ=>paW eL λσV H Q ⟨σ,ok,res,σ',e,k⟩=>by
 cases e;exact k [] H ok .nil .refl (λj d p e=>by simp at e)
def aB(ha:GE X e r)(n:GA X es rs)(s:starEach (e::es) X.env=(false,eval e X.env)::starEach es X.env:=by kernel_rfl):GA X (e::es) (aE r rs):=.mk λΓ=>paW (bF (ha.to Γ) (n.to Γ) s) λσV H Q ⟨σ,ok,res,σ',e,k⟩=>by
 obtain⟨⟨x,a⟩,t,e⟩:=aC e;obtain⟨⟨ys,u⟩,w,e⟩:=aC e;cases e;refine⟨σ,ok,x,a,t,λv G b l c y=>⟨a,b,ys,_,w,λvs z i A f m=>?_⟩⟩;refine k (v::vs) z i (.cons (l.step b f) A λd p g h j d' B C=>?_) (c.trans f) λj d p g h=>?_;subst g h;obtain⟨q,D,E,_⟩:=l;cases D;obtain⟨o,F,_⟩:=E.obj;have:=m j d' p B C;rw[F]at this;cases this;cases j with
 | zero=>simp at g h;subst g h;exact y d p rfl rfl
 | succ j=>exact c.dom p (m j d p (by simpa using g) (by simpa using h))
noncomputable def dCB(f:FN)(a:DA):DE:=λσ=>(a σ).bind λx=>(rds x.2 x.1).bind λb=>(f b).bind λr=>some (r,x.2)
def bZ{c:List V->Hp->VK->Prop}{f:FN}{d:DA}(j:bA5 c f)(h:∀ Γ,PE X e (tCB c (dTA Γ d))):GE X e (dCB f d):=.mk λΓ=>peW (h Γ) λσV H Q ⟨σ,ok,res,σ',e,k⟩=>by
 obtain⟨⟨x,l⟩,m,e⟩:=aC e;obtain⟨n,o,e⟩:=aC e;obtain⟨r,p,e⟩:=aC e;cases e;refine⟨σ,ok,x,_,m,λvs q a s b t=>?_⟩;refine j q n vs Q _ (aG2 a s o) p λv H' g i=>?_;exact k v H' (a.same g) (i.res a) (b.trans (.same g)) (i.frh.back b)
noncomputable def bG9(b:DA):DE:=λσ=>(b σ).bind λx=>(vals x.1).bind λa=>if a.length<=sizeLine then some (.val (.tup a),x.2)else none
noncomputable def nO(b:DA):DE:=λσ=>(b σ).bind λx=>(vals x.1).bind λa=>if a.length<=sizeLine then some (.own (.lst a),x.2)else none
def oK{g}(h:GA X es rs):GE X (.Tuple es g pos) (bG9 rs):=.mk λΓ=>peW (cK4 (h.to Γ)) λσV H Q ⟨σ,ok,res,σ',e,k⟩=>by
 obtain⟨⟨x,i⟩,j,e⟩:=aC e;obtain⟨q,l,e⟩:=aC e;dsimp only at e;split at e;rename_i m;cases e;refine⟨σ,ok,x,_,j,λvs d a n b r=>?_⟩;have f:=pS n l;refine⟨by rw[← f.length];exact m,λp o=>?_⟩;have c:aF2 d (upd d p (.tup vs)):=bU o;exact k _ _ (a.same c) (.tup aR (f.mono (.same c))) (b.trans (.same c)) jS;cases e
def eB(h:GA X es rs):GE X (.List es pos) (nO rs):=.mk λΓ=>peW (cK5 (h.to Γ)) λσV H Q ⟨σ,ok,res,σ',e,k⟩=>by
 obtain⟨⟨x,j⟩,l,e⟩:=aC e;obtain⟨m,n,e⟩:=aC e;dsimp only at e;split at e;rename_i o;cases e;refine⟨σ,ok,x,_,l,λvs c a q b r=>?_⟩;have f:=pS q n;refine⟨by rw[← f.length];exact o,λp g=>?_⟩;have d:aF2 c (upd c p (.lst vs)):=bU g;have i:aU8 c (upd c p (.lst vs)) (.own (.lst m)) (.ref p):=⟨p,rfl,g,vs,aR,f.mono (.same d)⟩;exact k _ _ (a.same d) (i.res a) (b.trans (.same d)) (i.frh.back b);cases e
end
section
variable{Γ:Gm}{H:Hp}{σ:Sg}{σV:St}{i:Nat}{s:Sl}{p:Addr}{o':HO}{d':D}
def StOk.ownAt(ok:StOk Γ H σ σV)(a:σ[i]? = some (some s))(hm:s.m≠.val):∃ p,σV[i]? = some (some (.ref p))/\fQ H s.d p:=by
 obtain⟨v,e,r⟩:=ok.rel i s a;obtain⟨p,rfl,b⟩:=(eG hm).mp r;exact⟨p,e,b⟩
def kB{m:Md}(h:m.mt=true):m≠.val:=λz=>by rw[z]at h;cases h
def fQ.ext{d:D}(h:fQ H d p):Ext H (upd H p o'):=by
 obtain⟨o,e,n1,n2⟩:=h.obj;exact⟨λb xs q=>by rw[aL (λz=>by subst z;rw[e]at q;cases q;exact n1 _ rfl)];exact q,λb ob x q=>by rw[aL (λz=>by subst z;rw[e]at q;cases q;exact n2 _ _ rfl)];exact q⟩
def StOk.write(ok:StOk Γ H σ σV)(g:σ[i]? = some (some s))(hm:s.m.mt=true)(k:σV[i]? = some (some (.ref p)))(ow:fQ (upd H p o') d' p) :
  StOk Γ (upd H p o') (σ.set i (some ⟨s.m,d'⟩)) σV/\Step σ σV H (σ.set i (some ⟨s.m,d'⟩)) σV (upd H p o'):=by
 obtain⟨L,A,r⟩:=ok.ownAt g (kB hm);rw[k]at A;cases A;have x:Ext H (upd H p o'):=r.ext;have B:i < σ.length:=(a2a.mp g).1;have back:∀ (j:Nat) t,(σ.set i (some ⟨s.m,d'⟩))[j]? = some (some t)->∃ t',σ[j]? = some (some t')/\t'.m=t.m:=λj t b=>by
  rcases cO b with⟨z,h,_⟩ | ⟨z,h⟩;cases h;subst z;exact⟨s,g,rfl⟩;exact⟨t,h,rfl⟩
 refine⟨⟨λj t b=>?_,λj l t t' q n b D m E=>?_,λj t q b m=>?_,λj t q b m=>?_,λa ob e n=>?_,λa e=>?_,by rw[a5g];exact ok.len⟩,
  ⟨λa ob e n=>?_,λa e=>?_,λa ⟨j,t,b,m,u⟩=>?_,λa ⟨j,t,b,m,u⟩=>?_,λj t b=>?_,λj t b m=>?_,λj t b m=>?_⟩⟩
 ·rcases cO b with⟨z,h,_⟩ | ⟨z,h⟩;cases h;subst z;exact⟨_,k,(eG (s:=⟨s.m,d'⟩) (kB hm)).mpr ⟨p,rfl,ow⟩⟩;obtain⟨w,C,v⟩:=ok.rel j t h;refine⟨w,C,v.mono x λq ob F m G=>?_⟩;rw[aL (λy=>ok.dis i j _ t p (a0e z) g h hm m k (by rw[C,F,y]))];exact G
 ·obtain⟨c,d,f⟩:=back j t b;obtain⟨I,J,K⟩:=back l t' D;exact ok.dis j l c I q n d J (by rw[f];exact m) (by rw[K];exact E)
 ·obtain⟨c,d,f⟩:=back j t b;exact ok.own j c q d (f.trans m)
 ·obtain⟨c,d,f⟩:=back j t b;exact ok.par j c q d (f.trans m)
 ·have:a≠p:=λz=>by
   subst z;cases o:s.m with
   | own=>rw[ok.own i s a g o k]at e;cases e
   | par=>exact n (ok.par i s a g o k)
   | val=>rw[o]at hm;cases hm
   | lent=>rw[o]at hm;cases hm
  rw[aL this];exact ok.keep a ob e n
 ·by_cases z:a=p;subst z;rw[aR]at e;cases e;rw[aL z]at e;exact ok.dom a e
 ·rw[aL (λz=>n ⟨i,s,g,hm,by rw[z];exact k⟩)];exact e
 ·by_cases z:a=p;subst z;rw[aR]at e;cases e;rw[aL z]at e;exact e
 ·obtain⟨c,d,f⟩:=back j t b;exact .inl ⟨j,c,d,by rw[f];exact m,u⟩
 ·obtain⟨c,d,f⟩:=back j t b;exact .inl ⟨j,c,d,by rw[f];exact m,u⟩
 ·by_cases z:j=i;subst z;exact⟨_,by rw[a8c B]⟩;exact⟨t,by rw[a0b (a0e z)];exact b⟩
 ·by_cases z:j=i;subst z;rw[g]at b;cases b;exact⟨⟨s.m,d'⟩,by rw[a8c B],rfl,λq=>(by rw[q]at hm;cases hm),rfl⟩;exact⟨t,by rw[a0b (a0e z)];exact b,rfl,λ_=>rfl,rfl⟩
 ·obtain⟨c,d,f⟩:=back j t b;exact⟨c,d,f.trans m⟩
end
abbrev FM:=D->List D->Option (D×D)
def dS8(r:V->List V->Hp->VK->Prop)(f:FM):Prop:=∀ H d p a vs Q d' e,fQ H d p->Rps H a vs->f d a=some (d',e)->(∀ o' v,fQ (upd H p o') d' p->Rp (upd H p o') e v->Q v (upd H p o'))->r (.ref p) vs H Q
def dX3(r:V->List V->Hp->VK->Prop)(f:FM):Prop:=∀ H d p a vs Q d' e,fQ H d p->Vws H a vs->f d a=some (d',e)->(∀ o' v,fQ (upd H p o') d' p->Rp (upd H p o') e v->Q v (upd H p o'))->r (.ref p) vs H Q
noncomputable def cC9(f:FM)(i:Nat)(a:List D)(σ:Sg):Option (Res×Sg):=match σ[i]? with
 | some (some s)=>if s.m.mt=true then(f s.d a).bind λy=>some (.val y.2,σ.set i (some ⟨s.m,y.1⟩))else none
 | _=>none
noncomputable def tyD(T:String):D->Bool
 | .lst _=>T=="list"
 | _=>false
noncomputable def aU9(T:String)(i:Nat)(σ:Sg):Bool:=match σ[i]? with
 | some (some s)=>decide (s.m≠.val)&&tyD T s.d
 | _=>false
noncomputable def nH(T:String)(i:Nat)(f:FM)(a:DA):DE:=λσ=>if aU9 T i σ=true then(a σ).bind λx=>(vals x.1).bind λb=>cC9 f i b x.2 else none
noncomputable def zH(T:String)(i:Nat)(f:FM)(a:DA):DE:=λσ=>if aU9 T i σ=true then(a σ).bind λx=>(rds x.2 x.1).bind λb=>cC9 f i b x.2 else none
def dI6{K:W.Frag}{T:String}{H:Hp}{d:D}{p:Addr}(h:fQ H d p)(e:tyD T d=true):tyV K T (.ref p) H:=by
 unfold fQ at h;split at h;obtain⟨xs,a,_⟩:=h;exact .inl ⟨by simpa[tyD]using e,xs,SqL.of a⟩;cases e;exact h.elim
def pT{f:FM}{i:Nat}{a:List D}{σ σ':Sg}{res:Res}(h:cC9 f i a σ=some (res,σ')):∃ s d' e,σ[i]? = some (some s)/\s.m.mt=true/\f s.d a=some (d',e)/\res=.val e/\σ'=σ.set i (some ⟨s.m,d'⟩):=by
 unfold cC9 at h;split at h;rename_i s b;split at h;rename_i hm;obtain⟨⟨d',e⟩,c,g⟩:=aC h;cases g;exact⟨s,d',e,b,hm,c,rfl,rfl⟩;cases h;cases h
def aG3{T:String}{i:Nat}{σ:Sg}(h:aU9 T i σ=true):∃ s,σ[i]? = some (some s)/\s.m≠.val/\tyD T s.d=true:=by
 unfold aU9 at h;split at h;rename_i s a;rw[a3f,a4m]at h;exact⟨s,a,h.1,h.2⟩;cases h
section
variable{X:Cx}{e:Expr}{ra:DA}{K:W.Frag}{T:String}{r:V->List V->Hp->VK->Prop}{f:FM}{i:Nat}
def jT(z:dS8 r f)(h:∀ Γ,PE X e (tBM K T r (cA2 i) (dTA Γ ra))):GE X e (nH T i f ra):=.mk λΓ=>peW (h Γ) λσV H Q ⟨σ,ok,res,σ',e,k⟩=>by
 unfold nH at e;split at e;rename_i hn;obtain⟨⟨x,c⟩,A,e⟩:=aC e;obtain⟨B,C,e⟩:=aC e;obtain⟨s,d',y,w,hm,D,rfl,rfl⟩:=pT e;obtain⟨J,g,j,l⟩:=aG3 hn;obtain⟨p,m,E⟩:=ok.ownAt g j;refine⟨_,m,dI6 E l,σ,ok,x,c,A,λvs F a G n L=>?_⟩;obtain⟨M,b,o⟩:=a.ownAt w (kB hm);rw[m]at b;cases b;refine z F s.d p B vs Q d' y o (pS G C) D λo' v q I=>?_;obtain⟨t,u⟩:=a.write w hm m q;exact k v _ t I (n.trans u) jS;cases e
def aG4(z:dX3 r f)(h:∀ Γ,PE X e (tBM K T r (cA2 i) (dTA Γ ra))):GE X e (zH T i f ra):=.mk λΓ=>peW (h Γ) λσV H Q ⟨σ,ok,res,σ',e,k⟩=>by
 unfold zH at e;split at e;rename_i hn;obtain⟨⟨x,c⟩,A,e⟩:=aC e;obtain⟨B,C,e⟩:=aC e;obtain⟨s,d',y,w,hm,D,rfl,rfl⟩:=pT e;obtain⟨J,g,j,l⟩:=aG3 hn;obtain⟨p,m,E⟩:=ok.ownAt g j;refine⟨_,m,dI6 E l,σ,ok,x,c,A,λvs F a G n L=>?_⟩;obtain⟨M,b,o⟩:=a.ownAt w (kB hm);rw[m]at b;cases b;refine z F s.d p B vs Q d' y o (aG2 a G C) D λo' v q I=>?_;obtain⟨t,u⟩:=a.write w hm m q;exact k v _ t I (n.trans u) jS;cases e
end
inductive Out where
 | nx (σ:Sg) | rt (r:Res) (σ:Sg) | bk (σ:Sg) | ct (σ:Sg) | ex (c:Str) (f:Option (Str×D)) (σ:Sg)
abbrev DS:=Sg->Option Out
structure Ex where
 ok:Hp->Str->Option (Str×D)->Value->Option Addr->Prop
 to:St->XK
noncomputable def Ex.no:Ex:=⟨λ_ _ _ _ _=>False,λ_ _ _ _=>False⟩
def bH0(Γ:Gm)(E:Ex)(σ:Sg)(σV:St)(H:Hp)(o:Out)(D:Ends):Prop:=match o with
 | .nx σ'=>∀ σV' H',StOk Γ H' σ' σV'->Step σ σV H σ' σV' H'->D.nx σV' H'
 | .rt r σ'=>∀ v σV' H',StOk Γ H' σ' σV'->nG Γ H' σ' σV' r v->Step σ σV H σ' σV' H'->D.rt v H'
 | .bk σ'=>∀ σV' H',StOk Γ H' σ' σV'->Step σ σV H σ' σV' H'->D.bk σV' H'
 | .ct σ'=>∀ σV' H',StOk Γ H' σ' σV'->Step σ σV H σ' σV' H'->D.ct σV' H'
 | .ex c f σ'=>∀ x d σV' H',StOk Γ H' σ' σV'->E.ok H' c f x d->Step σ σV H σ' σV' H'->E.to σV' x d H'
def dTS(Γ:Gm)(E:Ex)(r:DS):TS:=λD σV H=>∃ σ,StOk Γ H σ σV/\∃ o,r σ=some o/\bH0 Γ E σ σV H o D
structure GS(E:Ex)(X:Cx)(s:Stmt)(r:DS):Prop where
 to:∀ Γ,PS X s (dTS Γ E r)
structure GSs(E:Ex)(X:Cx)(s:List Stmt)(r:DS):Prop where
 to:∀ Γ,PSs X s (dTS Γ E r)
def bH0.after{Γ:Gm}{E:Ex}{σ b:Sg}{σV a:St}{H e:Hp}{o:Out}{D:Ends}(h:bH0 Γ E σ σV H o D)(st:Step σ σV H b a e):bH0 Γ E b a e o D:=by
 cases o with
 | nx σ'=>exact λσV' H' ok s=>h σV' H' ok (st.trans s)
 | rt r σ'=>exact λv σV' H' ok q s=>h v σV' H' ok q (st.trans s)
 | bk σ'=>exact λσV' H' ok s=>h σV' H' ok (st.trans s)
 | ct σ'=>exact λσV' H' ok s=>h σV' H' ok (st.trans s)
 | ex c f σ'=>exact λx d σV' H' ok q s=>h x d σV' H' ok q (st.trans s)
noncomputable def gL:DS:=λσ=>some (.nx σ)
noncomputable def bW(a b:DS):DS:=λσ=>(a σ).bind λo=>match o with
 | .nx c=>b c
 | o=>some o
noncomputable def jM(r:DE):DS:=λσ=>(r σ).bind λx=>some (.nx x.2)
noncomputable def iA(r:DE):DS:=λσ=>(r σ).bind λx=>some (.rt x.1 x.2)
noncomputable def pI(c:DT)(a b:DS):DS:=λσ=>(c σ).bind λx=>if x.1=true then a x.2 else b x.2
section
variable{X:Cx}{E:Ex}{st:Stmt}{nK:List Stmt}{a b:DS}{pos:Pos}{e:Expr}{r:DE}
def eI:GSs E X [] gL:=.mk λΓ=>dI4 jR λD σV H ⟨σ,ok,o,e,k⟩=>by
 cases e;exact k σV H ok .refl
def aM(h:GS E X st a):GSs E X [st] a:=.mk λΓ=>iX (h.to Γ)
def cD0{Γ:Gm}{E:Ex}{D:Ends}{σV:St}{H:Hp}(h:dTS Γ E (bW a b) D σV H):dO7 (dTS Γ E a) (dTS Γ E b) D σV H:=by
 obtain⟨σ,ok,o,e,k⟩:=h;obtain⟨j,m,e⟩:=aC e;refine⟨σ,ok,j,m,?_⟩;cases j with
 | nx d=>exact λl n g i=>⟨d,g,o,e,k.after i⟩
 | rt r σ'=>cases e;exact k
 | bk σ'=>cases e;exact k
 | ct σ'=>cases e;exact k
 | ex c f σ'=>cases e;exact k
def aG(c:GS E X st a)(d:GSs E X nK b):GSs E X (st::nK) (bW a b):=.mk λΓ=>dI4 (cZ (c.to Γ) (d.to Γ)) λ_ _ _=>cD0
def gS(d:GE X e r)(f:swapsWith e none pos.line X.env=pure false:=by rfl):GS E X (.Expr e pos) (jM r):=.mk λΓ=>psW (wQ (d.to Γ) f) λD σV H ⟨σ,ok,o,e,k⟩=>by
 obtain⟨⟨x,a⟩,g,e⟩:=aC e;cases e;exact⟨σ,ok,x,a,g,λv h b i c _=>k σV h b c⟩
def bI(d:GE X e r):GS E X (.Return (some e) pos) (iA r):=.mk λΓ=>psW (aZ1 (d.to Γ)) λD σV H ⟨σ,ok,o,e,k⟩=>by
 obtain⟨⟨x,a⟩,f,e⟩:=aC e;cases e;exact⟨σ,ok,x,a,f,λv g b h c _=>k v σV g b h c⟩
def kD{c:Expr}{l m:List Stmt}{t:DT}(i:GT X c t)(ha:GSs E X l a)(j:GSs E X m b):GS E X (.If c l m pos) (pI t a b):=.mk λΓ=>psW (wR (i.to Γ) (ha.to Γ) (j.to Γ)) λD σV H ⟨σ,ok,o,e,k⟩=>by
 obtain⟨⟨x,d⟩,n,e⟩:=aC e;refine⟨σ,ok,x,d,n,λp f g=>?_⟩;dsimp only at e;split at e;rename_i h;rw[a4i h];exact⟨d,f,o,e,k.after g⟩;rename_i h;rw[a4j h];exact⟨d,f,o,e,k.after g⟩
end
noncomputable def gU(σ:Sg)(i:Nat):Bool:=match σ[i]? with
 | some none=>true
 | some (some s)=>decide (s.m=.val)||decide (s.m=.own)
 | none=>false
def pU{σ:Sg}{i:Nat}(h:gU σ i=true):i < σ.length:=by
 unfold gU at h;split at h;rename_i e;exact(a2a.mp e).1;rename_i e;exact(a2a.mp e).1;cases h
def cD1{σ:Sg}{i:Nat}{s:Sl}(h:gU σ i=true)(a:σ[i]? = some (some s)):s.m=.val\/s.m=.own:=by
 unfold gU at h;rw[a]at h;simpa using h
section
variable{Γ:Gm}{H H0:Hp}{σ σ0:Sg}{σV σV0:St}{i:Nat}{d:D}{v:V}
def StOk.put(ok:StOk Γ H σ σV)(k:gU σ i=true)(r:Rp H d v):StOk Γ H (σ.set i (some ⟨.val,d⟩)) (σV.set i (some v)) where
 rel:=λj t c=>by
  rcases cO c with⟨z,a,_⟩ | ⟨z,a⟩;cases a;subst z;exact⟨v,by rw[a8c (by rw[← ok.len];exact pU k)],r⟩;obtain⟨w,o,f⟩:=ok.rel j t a;exact⟨w,by rw[a0b (a0e z)];exact o,f⟩
 dis:=λj l t p q n c s m h b e=>by
  rcases cO c with⟨z,a,_⟩ | ⟨z,a⟩;cases a;cases m;rcases cO s with⟨y,g,_⟩ | ⟨y,g⟩;cases g;exact h rfl;rw[a0b (a0e z)]at b;rw[a0b (a0e y)]at e;exact ok.dis j l t p q n a g m h b e
 own:=λj t q c m b=>by
  rcases cO c with⟨z,a,_⟩ | ⟨z,a⟩;cases a;cases m;rw[a0b (a0e z)]at b;exact ok.own j t q a m b
 par:=λj t q c m b=>by
  rcases cO c with⟨z,a,_⟩ | ⟨z,a⟩;cases a;cases m;rw[a0b (a0e z)]at b;exact ok.par j t q a m b
 keep:=ok.keep
 dom:=ok.dom
 len:=by rw[a5g,a5g];exact ok.len
def Step.put(st:Step σ0 σV0 H0 σ σV H)(u:gU σ i=true)(m:Md)(hm:m=.val\/m=.own/\∀ p,v=.ref p->H0 p=none):Step σ0 σV0 H0 (σ.set i (some ⟨m,d⟩)) (σV.set i (some v)) H:=by
 have b:m≠.lent:=by rcases hm with rfl | ⟨rfl,_⟩<;>exact λz=>nomatch z
 have w:=pU u;have h:∀ t,σ[i]? = some (some t)->t.m≠.par/\t.m≠.lent:=λt e=>by
  rcases cD1 u e with z | z<;>(rw[z];exact⟨(λy=>by cases y),(λy=>by cases y)⟩)
 refine⟨st.fr,st.dom,λa ⟨j,t,f,mt,g⟩=>?_,λa ⟨j,t,f,nv,g⟩=>?_,λj t f=>?_,λj t f k=>?_,λj t f k=>?_⟩
 ·rcases cO f with⟨z,c,_⟩ | ⟨z,c⟩;cases c;subst z;rcases hm with rfl | ⟨_,q⟩;cases mt;have:=a2a.mp g;obtain⟨x,l⟩:=this;rw[List.getElem_set_self]at l;exact .inr (q a (a7a l));rw[a0b (a0e z)]at g;exact st.mu a ⟨j,t,c,mt,g⟩
 ·rcases cO f with⟨z,c,_⟩ | ⟨z,c⟩;cases c;subst z;rcases hm with rfl | ⟨_,q⟩;exact absurd rfl nv;have:=a2a.mp g;obtain⟨x,l⟩:=this;rw[List.getElem_set_self]at l;exact .inr (q a (a7a l));rw[a0b (a0e z)]at g;exact st.nv a ⟨j,t,c,nv,g⟩
 ·obtain⟨n,o⟩:=st.kp j t f;by_cases z:j=i;subst z;exact⟨_,by rw[a8c w]⟩;exact⟨n,by rw[a0b (a0e z)];exact o⟩
 ·obtain⟨n,o,r,A,B⟩:=st.fix j t f k;have z:j≠i:=λz=>by
   subst z;obtain⟨n1,n2⟩:=h n o;rcases k with s | s;exact n1 (r.trans s);exact n2 (r.trans s)
  exact⟨n,by rw[a0b (a0e z)];exact o,r,A,by rw[a0b (a0e z)];exact B⟩
 ·rcases cO f with⟨z,c,_⟩ | ⟨z,c⟩;cases c;exact absurd k b;exact st.lt j t c k
def StOk.putOwn{p:Addr}(ok:StOk Γ H σ σV)(g:gU σ i=true)(ow:fQ H d p)(hn:¬ bZ3 σ σV p)(h0:Γ.H₀ p=none):StOk Γ H (σ.set i (some ⟨.own,d⟩)) (σV.set i (some (.ref p))) where
 rel:=λj t e=>by
  rcases cO e with⟨z,c,_⟩ | ⟨z,c⟩;cases c;subst z;exact⟨.ref p,by rw[a8c (by rw[← ok.len];exact pU g)],p,rfl,ow⟩;obtain⟨w,u,h⟩:=ok.rel j t c;exact⟨w,by rw[a0b (a0e z)];exact u,h⟩
 dis:=λj l t k q n e o m r a b=>by
  have s:i < σV.length:=by rw[← ok.len];exact pU g
  rcases cO e with⟨z,c,_⟩ | ⟨z,c⟩;subst z;rw[a8c s]at a;have a:=a7a (a7a a);cases a;rcases cO o with⟨y,f,_⟩ | ⟨y,f⟩;exact n y.symm;rw[a0b (a0e y)]at b;exact hn ⟨l,k,f,r,b⟩;rw[a0b (a0e z)]at a;rcases cO o with⟨y,f,_⟩ | ⟨y,f⟩;subst y;rw[a8c s]at b;have b:=a7a (a7a b);cases b;exact hn ⟨j,t,c,kB m,a⟩;rw[a0b (a0e y)]at b;exact ok.dis j l t k q n c f m r a b
 own:=λj t q e m a=>by
  rcases cO e with⟨z,c,_⟩ | ⟨z,c⟩;subst z;rw[a8c (by rw[← ok.len];exact pU g)]at a;have a:=a7a (a7a a);cases a;exact h0;rw[a0b (a0e z)]at a;exact ok.own j t q c m a
 par:=λj t q e m a=>by
  rcases cO e with⟨z,c,_⟩ | ⟨z,c⟩;cases c;cases m;rw[a0b (a0e z)]at a;exact ok.par j t q c m a
 keep:=ok.keep
 dom:=ok.dom
 len:=by rw[a5g,a5g];exact ok.len
end
noncomputable def dP3(i:Nat)(r:Res)(σ:Sg):Option Sg:=match r with
 | .val d=>if gU σ i=true then some (σ.set i (some ⟨.val,d⟩))else none
 | .own d=>if gU σ i=true then some (σ.set i (some ⟨.own,d⟩))else none
 | .slot _=>none
noncomputable def dA(i:Nat)(r:DE):DS:=λσ=>(r σ).bind λx=>(dP3 i x.1 x.2).bind λa=>some (.nx a)
def bA9{Γ:Gm}{E:Ex}{i:Nat}{r:DE}{D:Ends}{σV:St}{H:Hp}(h:dTS Γ E (dA i r) D σV H):dTE Γ r σV H (λx n=>D.nx (σV.set i (some x)) n):=by
 obtain⟨σ,ok,o,e,k⟩:=h;obtain⟨⟨x,b⟩,s,e⟩:=aC e;obtain⟨c,m,e⟩:=aC e;cases e;refine⟨σ,ok,x,b,s,λv n f q g t=>?_⟩;cases x with
 | val d=>
   have a:(if gU b i=true then some (b.set i (some ⟨.val,d⟩))else none)=some c:=m;split at a;rename_i l;cases a;exact k _ _ (f.put l q) (g.put l .val (.inl rfl));cases a
 | own d=>
   have a:(if gU b i=true then some (b.set i (some ⟨.own,d⟩))else none)=some c:=m;split at a;rename_i l;cases a;obtain⟨p,rfl,u,w,y⟩:=q;exact k _ _ (f.putOwn l u w y) (g.put l .own (.inr ⟨rfl,λp e=>t _ p rfl e⟩));cases a
 | slot j=>cases m
def dI7{X:Cx}{E:Ex}{i:Nat}{st:Stmt}{r:DE}(h:∀ Γ,PS X st (dA6 (dTE Γ r) (aE8 i))):GS E X st (dA i r):=.mk λΓ=>psW (h Γ) λ_ _ _ h=>bA9 h
noncomputable def aA9(x:Str):List D:=x.cps.toList.map λc=>.str ⟨#[c]⟩
def aN2{H:Hp}(x:Str):Rps H (aA9 x) (hU x):=by
 unfold aA9 hU
 induction x.cps.toList with
 | nil=>exact .nil
 | cons a r b=>exact .cons (.str _) b
abbrev DG:=D->Sg->Option Sg
abbrev DGs:=List D->Sg->Option Sg
def cM7(own:List Nat)(g:TG)(e:DG):Prop:=∀ Γ H b a c σ σV d v σ' Q,StOk Γ H σ σV->Step b a c σ σV H->Rp H d v->e d σ=some σ' ->
 (∀ σV',StOk Γ H σ' σV'->Step b a c σ' σV' H->σV'.length=σV.length->(∀ i,i∉own->σV'[i]? = σV[i]? /\ σ'[i]? = σ[i]?)->Q σV' H)->g v σV H Q
def cD2(own:List Nat)(g:TGs)(e:DGs):Prop:=∀ Γ H b a c σ σV d vs σ' Q,StOk Γ H σ σV->Step b a c σ σV H->Rps H d vs->e d σ=some σ' ->
 (∀ σV',StOk Γ H σ' σV'->Step b a c σ' σV' H->σV'.length=σV.length->(∀ i,i∉own->σV'[i]? = σV[i]? /\ σ'[i]? = σ[i]?)->Q σV' H)->g vs σV H Q
noncomputable def dgN(i:Nat):DG:=λd σ=>if gU σ i=true then some (σ.set i (some ⟨.val,d⟩))else none
noncomputable def lH:DGs:=λa σ=>if a.isEmpty then some σ else none
noncomputable def cL(g:DG)(b:DGs):DGs:=λc σ=>match c with
 | d::r=>(g d σ).bind λa=>b r a
 | []=>none
noncomputable def nJ(n:Nat)(a:DGs):DG:=λd σ=>match d with
 | .tup l=>if l.length=n then a l σ else none
 | .str z=>if z.length=n then a (aA9 z) σ else none
 | _=>none
def aQ{own:List Nat}{i:Nat}(h:i∈own):cM7 own (aE8 i) (dgN i):=by
 intro Γ H c a g σ σV d v σ' Q ok st r e k;unfold dgN at e;split at e;rename_i b;cases e;refine k _ (ok.put b r) (st.put b .val (.inl rfl)) (by simp) λj f=>?_;have:i≠j:=λz=>f (by rw[← z];exact h);exact⟨a0b this,a0b this⟩;cases e
def gW{own:List Nat}:cD2 own dQ5 lH:=by
 intro Γ H b a c σ σV d vs σ' Q ok st r e k;unfold lH at e;cases r with
 | nil=>cases e;exact⟨rfl,k _ ok st rfl λ_ _=>⟨rfl,rfl⟩⟩
 | cons _ _=>cases e
def bQ{own:List Nat}{g:TG}{p:DG}{q:TGs}{c:DGs}(w:cM7 own g p)(x:cD2 own q c):cD2 own (cQ6 g q) (cL p c):=by
 intro Γ H d b s σ σV A vs σ' Q ok st r e k;cases r with
 | nil=>cases e
 | cons a t=>
   obtain⟨f,y,e⟩:=aC e;refine⟨_,_,rfl,w Γ H d b s σ σV _ _ f _ ok st a y λh l m l1 u=>?_⟩;refine x Γ H d b s f h _ _ σ' _ l m t e λj n o z v=>?_;exact k j n o (z.trans l1) λi hi=>⟨(v i hi).1.trans (u i hi).1,(v i hi).2.trans (u i hi).2⟩
def kH{own:List Nat}{K:W.Frag}{n:Nat}{i:TGs}{a:DGs}(h:cD2 own i a):cM7 own (bG8 K n i) (nJ n a):=by
 intro Γ H f b j σ σV d v σ' Q ok st r e k;cases d with
 | tup l=>
   have c:(if l.length=n then a l σ else none)=some σ':=e;split at c;rename_i g;obtain⟨p,xs,rfl,o,m⟩:=gO (.inl r);exact⟨xs,dS o,by rw[← m.length];exact g,h Γ H f b j σ σV l xs σ' Q ok st m c k⟩;cases c
 | str z=>
   have c:(if z.length=n then a (aA9 z) σ else none)=some σ':=e;split at c;rename_i g;cases r;exact⟨g,h Γ H f b j σ σV _ _ σ' Q ok st (aN2 z) c k⟩;cases c
 | _=>cases e
noncomputable def dP4(i j:Nat)(a:DA):DS:=λσ=>(a σ).bind λx=>(vals x.1).bind λb=>match b with
 | [d,e]=>if gU x.2 i=true/\gU x.2 j=true/\i≠j then some (.nx ((x.2.set i (some ⟨.val,d⟩)).set j (some ⟨.val,e⟩)))else none
 | _=>none
def dI8{X:Cx}{E:Ex}{i j:Nat}{st:Stmt}{p:DA}(h:∀ Γ,PS X st (dW1 i j (dTA Γ p))):GS E X st (dP4 i j p):=.mk λΓ=>psW (h Γ) λD σV H ⟨σ,ok,o,e,k⟩=>by
 obtain⟨⟨x,c⟩,q,e⟩:=aC e;obtain⟨v,r,e⟩:=aC e;refine⟨σ,ok,x,c,q,λvs w l s m z=>?_⟩;have u:=pS s r;dsimp only at e;split at e
 ·split at e
  ·rename_i d y g;cases e;cases u with
   | cons a t=>cases t with
     | cons b t=>cases t with
       | nil=>
         refine⟨_,_,rfl,?_⟩;have n:=l.put g.1 a;have f:gU (c.set i (some ⟨.val,d⟩)) j=true:=by
          unfold gU;rw[a0b g.2.2];exact g.2.1
         exact k _ _ (n.put f b) ((m.put g.1 .val (.inl rfl)).put f .val (.inl rfl))
  ·cases e
 ·cases e
noncomputable def lend(i:Nat)(σ:Sg):Sg:=match σ[i]? with
 | some (some s)=>if s.m.mt=true then σ.set i (some ⟨.lent,s.d⟩)else σ
 | _=>σ
noncomputable def unl(i:Nat)(a σ:Sg):Sg:=match a[i]?,σ[i]? with
 | some (some s0),some (some s)=>if s0.m.mt=true then σ.set i (some ⟨s0.m,s.d⟩)else σ
 | _,_=>σ
noncomputable def lendO(l:Option Nat)(σ:Sg):Sg:=match l with
 | some i=>lend i σ
 | none=>σ
noncomputable def aK9(l:Option Nat)(a σ:Sg):Sg:=match l with
 | some i=>unl i a σ
 | none=>σ
section
variable{Γ:Gm}{H H1 H2:Hp}{σ σ1 σ2:Sg}{σV σV2:St}{i:Nat}{s:Sl}
def aG5(a:σ[i]? = some (some s))(hm:s.m.mt=true):lend i σ=σ.set i (some ⟨.lent,s.d⟩):=by
 unfold lend;rw[a];simp only[hm,if_true]
def aV0(h:∀ s,σ[i]? = some (some s)->s.m.mt=false):lend i σ=σ:=by
 unfold lend;split;rename_i s a;rw[a4j (by rw[h s a];exact a9b)];rfl
theorem StOk.lend(ok:StOk Γ H σ σV):StOk Γ H (lend i σ) σV:=by
 by_cases g:∃ s,σ[i]? = some (some s)/\s.m.mt=true
 ·obtain⟨s,c,hm⟩:=g;rw[aG5 c hm];obtain⟨p,k,o⟩:=ok.ownAt c (kB hm);have back:∀ (j:Nat) t,(σ.set i (some ⟨.lent,s.d⟩))[j]? = some (some t)->(j=i/\t=⟨.lent,s.d⟩)\/(j≠i/\σ[j]? = some (some t)):=λj t a=>by
   rcases cO a with⟨z,r,_⟩ | z;cases r;exact .inl ⟨z,rfl⟩;exact .inr z
  refine⟨λj t a=>?_,λj l t h q n a u m v b f=>?_,λj t q a m b=>?_,λj t q a m b=>?_,ok.keep,ok.dom,by rw[a5g];exact ok.len⟩;rcases back j t a with⟨rfl,rfl⟩ | ⟨_,z⟩;exact⟨_,k,p,rfl,o⟩;exact ok.rel j t z;rcases back j t a with⟨rfl,rfl⟩ | ⟨_,z⟩;cases m;rcases back l h u with⟨rfl,rfl⟩ | ⟨_,y⟩;exact ok.dis j l t s q n z c m (kB hm) b f;exact ok.dis j l t h q n z y m v b f;rcases back j t a with⟨rfl,rfl⟩ | ⟨_,z⟩;cases m;exact ok.own j t q z m b;rcases back j t a with⟨rfl,rfl⟩ | ⟨_,z⟩;cases m;exact ok.par j t q z m b
 ·rw[aV0 λs c=>by
   cases e:s.m.mt with
   | false=>rfl
   | true=>exact absurd ⟨s,c,e⟩ g]
  exact ok
def dI9(ok:StOk Γ H1 σ1 σV)(c:StOk Γ H2 σ2 σV2)(st:Step (lend i σ1) σV H1 σ2 σV2 H2):StOk Γ H2 (unl i σ1 σ2) σV2/\Step σ1 σV H1 (unl i σ1 σ2) σV2 H2:=by
 by_cases S:∃ s,σ1[i]? = some (some s)/\s.m.mt=true
 ·obtain⟨s,u,hm⟩:=S;have X:i < σ1.length:=(a2a.mp u).1;rw[aG5 u hm]at st;have M:(σ1.set i (some ⟨.lent,s.d⟩))[i]? = some (some ⟨.lent,s.d⟩):=by rw[a8c X]
  obtain⟨s2,K,Y,d2,v2⟩:=st.fix i _ M (.inr rfl);have D:s2.m=.lent:=Y;have E:i < σ2.length:=(a2a.mp K).1;have N:unl i σ1 σ2=σ2.set i (some ⟨s.m,s2.d⟩):=by unfold unl;rw[u,K];simp only[hm,if_true]
  rw[N];obtain⟨p,A,ow⟩:=ok.ownAt u (kB hm);have f:σV2[i]? = some (some (.ref p)):=v2.trans A;obtain⟨p',T,O⟩:=c.ownAt K (by rw[D];exact λz=>nomatch z);rw[f]at T;cases T;have F:∀ (j:Nat) t,j≠i->σ2[j]? = some (some t)->t.m=.lent->σV2[j]? ≠ some (some (.ref p)):=λj t B b P e=>by
   obtain⟨G,C,H⟩:=st.lt j t b P;rw[a0b (a0e B)]at C;have Z:(σ1.set i (some ⟨.lent,s.d⟩))[j]? = some (some G):=by rw[a0b (a0e B)];exact C
   obtain⟨_,_,_,_,vj⟩:=st.fix j G Z (.inr H);rw[vj]at e;exact ok.dis i j s G p (a0e B) u C hm (by rw[H];exact λz=>nomatch z) A e
  have r:∀ (j:Nat) t,j≠i->σ2[j]? = some (some t)->t.m≠.val->σV2[j]? ≠ some (some (.ref p)):=λj t B b P e=>by
   by_cases U:t.m=.lent;exact F j t B b U e;have Q:t.m.mt=true:=by
    cases q:t.m with
    | val=>exact absurd q P
    | own=>rfl
    | par=>rfl
    | lent=>exact absurd q U
   exact c.dis j i t s2 p B b K Q (by rw[D];exact λz=>nomatch z) e f
  have back:∀ (j:Nat) t,(σ2.set i (some ⟨s.m,s2.d⟩))[j]? = some (some t)->(j=i/\t=⟨s.m,s2.d⟩)\/(j≠i/\σ2[j]? = some (some t)):=λj t b=>by
   rcases cO b with⟨z,w,_⟩ | z;cases w;exact .inl ⟨z,rfl⟩;exact .inr z
  have sub:∀ a,wA (σ1.set i (some ⟨.lent,s.d⟩)) σV a->wA σ1 σV a:=λa ⟨j,t,b,m,k⟩=>by
   rcases cO b with⟨z,w,_⟩ | ⟨z,w⟩;cases w;cases m;exact⟨j,t,w,m,k⟩
  have I:∀ a,bZ3 (σ1.set i (some ⟨.lent,s.d⟩)) σV a->bZ3 σ1 σV a:=λa ⟨j,t,b,m,k⟩=>by
   rcases cO b with⟨z,w,_⟩ | ⟨z,w⟩;subst z;exact⟨j,s,u,kB hm,k⟩;exact⟨j,t,w,m,k⟩
  constructor
  ·refine⟨λj t b=>?_,λj l t x q n b V m L g v=>?_,λj t q b m g=>?_,λj t q b m g=>?_,c.keep,c.dom,by rw[a5g];exact c.len⟩;rcases back j t b with⟨rfl,rfl⟩ | ⟨_,z⟩;exact⟨_,f,(eG (s:=⟨s.m,s2.d⟩) (kB hm)).mpr ⟨p,rfl,O⟩⟩;exact c.rel j t z
   ·rcases back j t b with⟨rfl,rfl⟩ | ⟨zn,z⟩;rw[f]at g;have g:=a7a (a7a g);cases g;rcases back l x V with⟨rfl,rfl⟩ | ⟨W,y⟩;exact n rfl;exact r l x W y L v;rcases back l x V with⟨rfl,rfl⟩ | ⟨W,y⟩;rw[f]at v;have v:=a7a (a7a v);cases v;exact r j t zn z (kB m) g;exact c.dis j l t x q n z y m L g v
   ·rcases back j t b with⟨rfl,rfl⟩ | ⟨_,z⟩;rw[f]at g;have g:=a7a (a7a g);cases g;exact ok.own j s p u m A;exact c.own j t q z m g
   ·rcases back j t b with⟨rfl,rfl⟩ | ⟨_,z⟩;rw[f]at g;have g:=a7a (a7a g);cases g;exact ok.par j s p u m A;exact c.par j t q z m g
  ·refine⟨λa o e n=>st.fr a o e λz=>n (sub a z),st.dom,λa ⟨j,t,b,m,k⟩=>?_,λa ⟨j,t,b,m,k⟩=>?_,λj t b=>?_,λj t b m=>?_,λj t b m=>?_⟩;rcases back j t b with⟨rfl,rfl⟩ | ⟨_,z⟩;rw[f]at k;have k:=a7a (a7a k);cases k;exact .inl ⟨j,s,u,hm,A⟩;rcases st.mu a ⟨j,t,z,m,k⟩with y | y;exact .inl (sub a y);exact .inr y;rcases back j t b with⟨rfl,rfl⟩ | ⟨_,z⟩;rw[f]at k;have k:=a7a (a7a k);cases k;exact .inl ⟨j,s,u,kB hm,A⟩;rcases st.nv a ⟨j,t,z,m,k⟩with y | y;exact .inl (I a y);exact .inr y;by_cases z:j=i;subst z;exact⟨_,by rw[a8c E]⟩;obtain⟨x,R⟩:=st.kp j t (by rw[a0b (a0e z)];exact b);exact⟨x,by rw[a0b (a0e z)];exact R⟩;by_cases z:j=i;subst z;rw[u]at b;cases b;refine⟨⟨s.m,s2.d⟩,by rw[a8c E],rfl,λq=>?_,v2⟩;rw[q]at hm;cases hm;obtain⟨x,R,h⟩:=st.fix j t (by rw[a0b (a0e z)];exact b) m;exact⟨x,by rw[a0b (a0e z)];exact R,h⟩;rcases back j t b with⟨rfl,rfl⟩ | ⟨zn,z⟩;have L:s.m=.lent:=m;rw[L]at hm;cases hm;obtain⟨G,C,m1⟩:=st.lt j t z m;rw[a0b (a0e zn)]at C;exact⟨G,C,m1⟩
 ·have J:∀ s,σ1[i]? = some (some s)->s.m.mt=false:=λs u=>by
   cases e:s.m.mt with
   | false=>rfl
   | true=>exact absurd ⟨s,u,e⟩ S
  rw[aV0 J]at st;have N:unl i σ1 σ2=σ2:=by
   unfold unl;split;rename_i s0 s' h0 h';rw[a4j (by rw[J s0 h0];exact a9b)];rfl
  rw[N];exact⟨c,st⟩
theorem StOk.lendO{l:Option Nat}(ok:StOk Γ H σ σV):StOk Γ H (lendO l σ) σV:=by
 cases l with
 | none=>exact ok
 | some i=>exact ok.lend
def aG6{l:Option Nat}(ok:StOk Γ H1 σ1 σV)(a:StOk Γ H2 σ2 σV2)(st:Step (lendO l σ1) σV H1 σ2 σV2 H2):StOk Γ H2 (aK9 l σ1 σ2) σV2/\Step σ1 σV H1 (aK9 l σ1 σ2) σV2 H2:=by
 cases l with
 | none=>exact⟨a,st⟩
 | some i=>exact dI9 ok a st
def cT7{l:Option Nat}{r:Res}{v:V}(st:Step (lendO l σ1) σV H1 σ2 σV2 H2)(h:nG Γ H2 σ2 σV2 r v):nG Γ H2 (aK9 l σ1 σ2) σV2 r v:=by
 cases l with
 | none=>exact h
 | some i=>
   show nG Γ H2 (unl i σ1 σ2) σV2 r v;have a:Step (lend i σ1) σV H1 σ2 σV2 H2:=st;unfold unl;split
   ·rename_i g s' h0 h';split
    ·rename_i hm;cases r with
     | val d=>exact h
     | own d=>
       obtain⟨p,b,c,k,n⟩:=h;refine⟨p,b,c,λ⟨j,t,o,m,e⟩=>k ?_,n⟩;rcases cO o with⟨z,f,_⟩ | ⟨z,f⟩;subst z;rw[aG5 h0 hm]at a;obtain⟨q,s,u,_⟩:=a.fix j ⟨.lent,g.d⟩ (by rw[a8c (a2a.mp h0).1]) (.inr rfl);exact⟨j,q,s,by rw[u];exact λz=>(by cases z),e⟩
       ·exact⟨j,t,f,m,e⟩
     | slot j=>
       obtain⟨b,t,c⟩:=h;refine⟨b,?_⟩;by_cases z:j=i;subst z;exact⟨_,by rw[a8c (a2a.mp h').1]⟩
       ·exact⟨t,by rw[a0b (a0e z)];exact c⟩
    ·exact h
   ·exact h
end
structure ItD(J:It)(items:List D)(P:Hp->Prop):Prop where
 go:∀ H i d,P H->items[i]? = some d->J.go i H
 yld:∀ H i d y H',P H->items[i]? = some d->J.yld i H y H'->aF2 H H'/\Rp H' d y
 stop:∀ H,P H->J.stop items.length H
def bB0{J:It}{xs:List V}{P:Hp->Prop}{items:List D}(w:ItIs J xs P):ItD J items (λH=>P H/\Rps H items xs) where
 go:=λH i d ⟨h,r⟩ e=>by
  obtain⟨x,ex,_⟩:=r.get e;exact w.go H i x h ex
 yld:=λH i d y H' ⟨h,r⟩ e q=>by
  obtain⟨x,ex,a⟩:=r.get e;obtain⟨rfl,rfl⟩:=w.yld H i x y H' h ex q;exact⟨.refl _,a⟩
 stop:=λH ⟨h,r⟩=>by
  refine w.stop H _ h ?_;have:=r.length;rw[a3d];lia
abbrev DI:=Sg->Option (List D×Option Nat×Sg)
def dTI(Γ:Gm)(ri:DI):TI:=λσV H R=>∃ σ,StOk Γ H σ σV/\∃ items l a,ri σ=some (items,l,a)/\∀ J c P,StOk Γ c a σV->Step σ σV H a σV c->ItD J items P ->
 (∀ d b e,Step (lendO l a) σV c d b e->P e)->R J c
structure GI(X:Cx)(tg iter:Expr)(ri:DI):Prop where
 to:∀ Γ,PI X tg iter (dTI Γ ri)
def piW{X:Cx}{tg e:Expr}{t t':TI}(h:PI X tg e t)(w:∀ σ H Q,t' σ H Q->t σ H Q):PI X tg e t':=λpins s σ H Q I q=>h pins s σ H Q I (w σ H Q q)
noncomputable def aN3:D->Option (List D)
 | .lst l=>some l
 | .tup l=>some l
 | .str x=>some (aA9 x)
 | _=>none
noncomputable def dIt(r:DE):DI:=λσ=>(r σ).bind λx=>(rd x.2 x.1).bind λd=>(aN3 d).bind λl=>some (l,(match x.1 with | .slot i=>some i | _=>none),x.2)
def iU{H a:Hp}{p:Addr}{o:HO}(h:H p=some o)(b:a p=some o):gR a p=gR H p:=by unfold gR;rw[h,b]
def xE{Γ:Gm}{g:Hp}{a:Sg}{σV:St}{x:Res}{v:V}{d:D}{items:List D}(B:StOk Γ g a σV)(h:nG Γ g a σV x v)(P:rd a x=some d)(I:aN3 d=some items)(vw:Vw g d v) :
  ∀ p b xs,v=.ref p->gR g p=some (b,xs)->Rps g items xs->∀ C k E,Step (lendO (match x with | .slot i=>some i | _=>none) a) σV g C k E->gR E p=some (b,xs)/\Rps E items xs:=by
 intro p b xs u y U C k E n;have ext:Ext g E:=n.ext (Γ:=Γ) B.lendO;refine⟨?_,U.mono ext⟩;cases x with
 | val d'=>
   cases P;subst u;cases d with
   | tup J=>obtain⟨_,_,e,f,_⟩:=gO vw;cases e;rw[iU f (ext.tup _ _ f)];exact y
   | lst J=>
     cases h with
     | lst f _=>rw[iU f (ext.frz _ _ _ f)];exact y
   | dic ks vs=>cases I
   | str z=>cases h
   | _=>cases I
 | own d'=>
   obtain⟨q,Q,K,W,_⟩:=h;rw[u]at Q;cases Q;obtain⟨o,F,_⟩:=K.obj;rw[iU F (n.fr p o F (λz=>W z.nv))];exact y
 | slot i=>
   obtain⟨h,s,l⟩:=h;have c:StOk Γ g a σV:=B;by_cases hm:s.m=.val
   ·obtain⟨w,R,L⟩:=c.rel i s l;rw[h]at R;cases R;subst u;obtain⟨m,S⟩:=s;cases hm;have M:some S=some d:=by
     have:rd a (.slot i)=some S:=by show(match a[i]? with | some (some s)=>some s.d | _=>none)=_;rw[l]
     rw[← this];exact P
    cases M;have N:Rp g d (.ref p):=L;cases d with
    | tup J=>obtain⟨_,_,e,f,_⟩:=gO (.inl N);cases e;rw[iU f (ext.tup _ _ f)];exact y
    | lst J=>
      cases N with
      | lst f _=>rw[iU f (ext.frz _ _ _ f)];exact y
    | dic ks vs=>cases I
    | str z=>cases N
    | _=>cases I
   ·obtain⟨q,G,K⟩:=c.ownAt l hm;rw[h]at G;have G:=a7a (a7a G);rw[u]at G;cases G;obtain⟨o,F,_⟩:=K.obj;have X:¬ wA (lend i a) σV p:=by
     rintro⟨j,t,A,m,T⟩;by_cases r:s.m.mt=true;rw[aG5 l r]at A;rcases cO A with⟨_,O,_⟩ | ⟨z,O⟩;cases O;cases m;exact c.dis j i t s p z O l m hm T (by rw[h,u]);rw[aV0 (λs' H=>by rw[l]at H;cases H;exact Bool.eq_false_iff.mpr r)]at A;by_cases z:j=i;subst z;rw[l]at A;cases A;exact r m;exact c.dis j i t s p z A l m hm T (by rw[h,u])
    rw[iU F (n.fr p o F X)];exact y
def bY{X:Cx}{tg e:Expr}{r:DE}(K:W.Frag)(w:X.K=K)(h:GE X e r):GI X tg e (dIt r):=.mk λΓ=>piW (bO8 K w (h.to Γ)) λσV H R ⟨σ,ok,items,l,y,e,k⟩=>by
 obtain⟨⟨x,A⟩,B,e⟩:=aC e;obtain⟨d,t,e⟩:=aC e;obtain⟨C,i,e⟩:=aC e;cases e;refine⟨σ,ok,x,_,B,λv n b u g E=>?_⟩;have vw:=u.vw b t;have stay:=xE b u t i vw;cases d with
 | lst D=>
   cases i;obtain⟨p,xs,rfl,j,o⟩:=iM vw;refine .inl ⟨xs,j,k _ n _ b g (bB0 (aM4 (xs:=xs))) λc a m f=>?_⟩;obtain⟨q,s⟩:=stay p true xs rfl j o c a m f;exact⟨fB q,s⟩
 | tup D=>
   cases i;obtain⟨p,xs,rfl,j,o⟩:=gO vw;refine .inr ⟨xs,dS j,k _ n _ b g (bB0 (cB5 (xs:=xs))) λc a m f=>?_⟩;obtain⟨q,s⟩:=stay p false xs rfl (dS j) o c a m f;exact⟨eP q,s⟩
 | str z=>
   cases i;obtain rfl:=nN vw;exact k _ n (λH=>True/\Rps H (aA9 z) (hU z)) b g (bB0 cB6) λc a m f=>⟨True.intro,aN2 z⟩
 | _=>cases i
noncomputable def xF(lo:Int)(n:Nat):List D:=(List.range n).map λ(i:Nat)=>D.int (lo+(i:Int))
def cT8{H:Hp}(lo:Int)(n:Nat):Rps H (xF lo n) (cS3 lo n):=by
 unfold xF cS3
 induction List.range n with
 | nil=>exact .nil
 | cons a r b=>exact .cons (.int _) b
noncomputable def zI(a:DA):DI:=λσ=>(a σ).bind λx=>(rds x.2 x.1).bind λb=>match b with
 | [.int j]=>if -(2 ^ 62)<=j/\j < 2 ^ 62 then some (xF 0 j.toNat,none,x.2)else none
 | [.int i,.int j]=>if(-(2 ^ 62)<=i/\i < 2 ^ 62) /\ -(2 ^ 62)<=j/\j < 2 ^ 62 then some (xF i (j-i).toNat,none,x.2)else none
 | _=>none
def jA{X:Cx}{tg e:Expr}{d:DA}(h:∀ Γ,PI X tg e (cQ7 (dTA Γ d)))(n:∀ σ rs σ',d σ=some (rs,σ')->rs.length=1):GI X tg e (zI d):=.mk λΓ=>piW (h Γ) λσV H R ⟨σ,ok,items,l,o,e,k⟩=>by
 obtain⟨⟨x,p⟩,g,e⟩:=aC e;obtain⟨y,r,e⟩:=aC e;refine⟨σ,ok,x,_,g,λvs s c i f z=>?_⟩;have vw:=aG2 c i r;have u:=n _ _ _ g;dsimp only at e;split at e
 ·split at e
  ·rename_i j;cases e;cases vw with
   | cons a t=>
     cases t;obtain rfl:=fD a;exact⟨_,rfl,j.1,j.2,k _ s (λH=>True/\Rps H _ _) c f (bB0 wJ) λv m A w=>⟨True.intro,cT8 _ _⟩⟩
  ·cases e
 ·exfalso;cases vw with
  | cons a t=>cases t with
    | cons b t=>
      cases i with
      | cons _ q _=>cases q with
        | cons _ q _=>simp at u
 ·cases e
theorem aV1{r:DE}:∀ σ rs σ',aE r aV σ=some (rs,σ')->rs.length=1:=λσ rs σ' e=>by
 obtain⟨x,_,e⟩:=aC e;cases e;rfl
noncomputable def bP9(g:DG)(b:DS):List D->Sg->Option Out
 | [],σ=>some (.nx σ)
 | d::r,σ=>(g d σ).bind λe=>(b e).bind λo=>match o with
   | .nx a=>bP9 g b r a
   | .ct a=>bP9 g b r a
   | .bk a=>some (.nx a)
   | .rt x a=>some (.rt x a)
   | .ex c f a=>some (.ex c f a)
noncomputable def aN4(l:Option Nat)(a:Sg):Out->Out
 | .nx σ=>.nx (aK9 l a σ)
 | .rt r σ=>.rt r (aK9 l a σ)
 | .bk σ=>.bk (aK9 l a σ)
 | .ct σ=>.ct (aK9 l a σ)
 | .ex c f σ=>.ex c f (aK9 l a σ)
noncomputable def xG(ri:DI)(g:DG)(b:DS):DS:=λσ=>(ri σ).bind λx=>(bP9 g b x.1 (lendO x.2.1 x.2.2)).bind λo=>some (aN4 x.2.1 x.2.2 o)
def cD3{Γ:Gm}{E:Ex}{own:List Nat}{ri:DI}{g:TG}{S:DG}{b:DS}(hg:cM7 own g S){D:Ends}{σV:St}{H:Hp}(h:dTS Γ E (xG ri S b) D σV H):dO8 (dTI Γ ri) g (dTS Γ E b) D σV H:=by
 obtain⟨σ,ok,o,e,k⟩:=h;obtain⟨⟨items,l,u⟩,e1,e⟩:=aC e;obtain⟨U,e2,e⟩:=aC e;cases e;refine⟨σ,ok,items,l,u,e1,λJ T P F M N stay=>?_⟩;dsimp only at e2
 -- V end that is wanted of V walk
 have K:∀ n a w,StOk Γ w n a->Step (lendO l u) σV T n a w->∀ W,W=U->(∀ σ',W=.nx σ'->∀ σV' H',StOk Γ H' σ' σV'->Step (lendO l u) σV T σ' σV' H'->D.nx σV' H'):=by
  intro n a w G B W ho σ' X σV' H' Y Z;subst ho X;obtain⟨O,Q⟩:=aG6 F Y Z;exact k σV' H' O (M.trans Q)
 refine⟨λi m a w=>m=items.length-i/\i<=items.length/\∃ n,bP9 S b (items.drop i) n=some U/\StOk Γ w n a/\Step (lendO l u) σV T n a w,⟨items.length,by simp,a5c _,lendO l u,by simpa using e2,F.lendO,.refl⟩,?_⟩;rintro i m a w ⟨rfl,hi,n,A,G,B⟩;have hP:=stay n a w B;by_cases I:i < items.length
 ·have ei:items[i]? = some items[i]:=a0a I;refine .inr ⟨N.go w i _ hP ei,λC R=>∃ m',m' < items.length-i/\m'=items.length-(i+1)/\i+1<=items.length/\∃ z,bP9 S b (items.drop (i+1)) z=some U/\StOk Γ R z C/\Step (lendO l u) σV T z C R,λσ' H' q=>q,λy R hy=>?_⟩;obtain⟨sm,ry⟩:=N.yld w i _ y R hP ei hy;rw[List.drop_eq_getElem_cons I]at A;obtain⟨z,eg,A⟩:=aC A;obtain⟨ob,eb,A⟩:=aC A;refine hg Γ R _ _ _ n a _ y z _ (G.same sm) (B.trans (.same sm)) ry eg λC ok3 t _ _=>?_;refine⟨z,ok3,ob,eb,?_⟩;cases ob with
  | nx s=>exact λj L r p=>⟨_,by lia,rfl,I,s,A,r,t.trans p⟩
  | ct s=>exact λj L r p=>⟨_,by lia,rfl,I,s,A,r,t.trans p⟩
  | bk s=>
    cases A;exact λj L r p=>K s j L r (t.trans p) _ rfl s rfl j L r (t.trans p)
  | rt x s=>
    cases A;intro v j L r r4 p;obtain⟨O,Q⟩:=aG6 F r (t.trans p);exact k v j L O (cT7 (t.trans p) r4) (M.trans Q)
  | ex c f s=>
    cases A;intro v d j L r r4 p;obtain⟨O,Q⟩:=aG6 F r (t.trans p);exact k v d j L O r4 (M.trans Q)
 ·have e0:i=items.length:=by lia
  subst e0;rw[List.drop_length]at A;cases A;exact .inl ⟨N.stop w hP,K n a w G B _ rfl n rfl a w G B⟩
def jO{X:Cx}{E:Ex}{own:List Nat}{st:Stmt}{ri:DI}{g:TG}{a:DG}{b:DS}(c:cM7 own g a)(h:∀ Γ,PS X st (dO8 (dTI Γ ri) g (dTS Γ E b))):GS E X st (xG ri a b):=.mk λΓ=>psW (h Γ) λ_ _ _=>cD3 c
def bQ0:∃ n:Nat,1000000<=n:=⟨_,a8a _⟩
noncomputable def dB0:Nat:=Classical.choose bQ0
def cT9:1000000<=dB0:=Classical.choose_spec bQ0
noncomputable def vK(c:DT)(b:DS):Nat->Sg->Option Out
 | 0,_=>none
 | n+1,σ=>(c σ).bind λx=>if x.1=true then(b x.2).bind λo=>match o with
   | .nx a=>vK c b n a
   | .ct a=>vK c b n a
   | .bk a=>some (.nx a)
   | .rt r a=>some (.rt r a)
   | .ex c f a=>some (.ex c f a)else some (.nx x.2)
noncomputable def aB0(c:DT)(b:DS):DS:=λσ=>vK c b dB0 σ
def bH1{Γ:Gm}{E:Ex}{c:DT}{b:DS}{D:Ends}{σV:St}{H:Hp}(h:dTS Γ E (aB0 c b) D σV H):bL1 (dTT Γ c) (dTS Γ E b) D σV H:=by
 obtain⟨σ,ok,o,e,k⟩:=h;refine⟨λm l A=>∃ u,vK c b m u=some o/\StOk Γ A u l/\Step σ σV H u l A,⟨dB0,σ,e,ok,.refl⟩,?_⟩;rintro m l A ⟨u,p,B,r⟩;cases m with
 | zero=>cases p
 | succ n=>
   obtain⟨⟨t,y⟩,I,p⟩:=aC p;refine⟨u,B,t,y,I,λJ z s=>?_⟩;dsimp only at p;split at p
   ·rename_i C;rw[a4i C];obtain⟨ob,K,p⟩:=aC p;refine⟨λa w=>∃ G,G < n+1/\∃ g,vK c b G g=some o/\StOk Γ w g a/\Step σ σV H g a w,λ_ _ q=>q,y,z,ob,K,?_⟩;cases ob with
    | nx g=>exact λa w i j=>⟨n,Nat.lt_succ_self n,g,p,i,(r.trans s).trans j⟩
    | ct g=>exact λa w i j=>⟨n,Nat.lt_succ_self n,g,p,i,(r.trans s).trans j⟩
    | bk g=>cases p;exact λa w i j=>k a w i ((r.trans s).trans j)
    | rt x g=>cases p;exact λv a w i F j=>k v a w i F ((r.trans s).trans j)
    | ex c f g=>cases p;exact λv d a w i F j=>k v d a w i F ((r.trans s).trans j)
   ·rename_i C;rw[a4j C];cases p;exact k l J z (r.trans s)
def aG7{X:Cx}{E:Ex}{st:Stmt}{c:DT}{b:DS}(h:∀ Γ,PS X st (bL1 (dTT Γ c) (dTS Γ E b))):GS E X st (aB0 c b):=.mk λΓ=>psW (h Γ) λ_ _ _=>bH1
noncomputable def cP(ow:List Nat)(σ:Sg):Sg:=ow.foldl (λσ i=>σ.set i none) σ
noncomputable def oZ(ow:List Nat)(σ a:Sg):Sg:=ow.foldl (λa i=>a.set i (σ[i]?.getD none)) a
theorem jB{α:Type}:∀ (ow:List Nat) (σ:List (Option α)),(ow.foldl (λσ i=>σ.set i none) σ).length=σ.length
 | [],_=>rfl
 | i::r,σ=>(jB r (σ.set i none)).trans (by simp)
theorem iB{α:Type}:∀ (ow:List Nat) (σ:List (Option α)) (j:Nat),j∉ow->(ow.foldl (λσ i=>σ.set i none) σ)[j]? = σ[j]?
 | [],_,_,_=>rfl
 | i::r,σ,j,h=>by
   have a:i≠j:=λz=>h (by rw[z];exact a3a);have b:j∉r:=λz=>h (a6a _ z);show(r.foldl _ (σ.set i none))[j]? = _;rw[iB r _ j b,a0b a]
theorem cX{α:Type}:∀ (ow:List Nat) (σ:List (Option α)) (j:Nat) (x:α),(ow.foldl (λσ i=>σ.set i none) σ)[j]? = some (some x)->j∉ow/\σ[j]? = some (some x)
 | [],_,_,_,h=>⟨by simp,h⟩
 | i::r,σ,j,x,h=>by
   obtain⟨a,b⟩:=cX r (σ.set i none) j x h;rcases cO b with⟨_,z,_⟩ | ⟨z,c⟩;cases z;exact⟨by simp[z,a],c⟩
theorem vM:∀ (ow:List Nat) (σ a:Sg),(oZ ow σ a).length=a.length
 | [],_,_=>rfl
 | i::r,σ,a=>(vM r σ (a.set i (σ[i]?.getD none))).trans (by simp)
theorem nP:∀ (ow:List Nat) (σ a:Sg) (j:Nat),j∉ow->(oZ ow σ a)[j]? = a[j]?
 | [],_,_,_,_=>rfl
 | i::r,σ,a,j,h=>by
   have b:i≠j:=λz=>h (by rw[z];exact a3a);have c:j∉r:=λz=>h (a6a _ z);show(oZ r σ (a.set i (σ[i]?.getD none)))[j]? = _;rw[nP r σ _ j c,a0b b]
theorem wK:∀ (ow:List Nat) (σ a:Sg) (j:Nat),j∈ow->σ.length=a.length->(oZ ow σ a)[j]? = σ[j]?
 | [],_,_,_,h,_=>by simp at h
 | i::r,σ,a,j,h,hl=>by
   show(oZ r σ (a.set i (σ[i]?.getD none)))[j]? = _;by_cases b:j∈r;exact wK r σ _ j b (by simp[hl])
   ·rw[nP r σ _ j b];have:j=i:=by rcases a2b.mp h with z | z;exact z;exact absurd z b
    subst this;by_cases c:j < a.length;rw[a8c c,a0a (by lia:j < σ.length)];rfl;rw[a3d.mpr (by simp;lia),a3d.mpr (by lia)]
section
variable{Γ:Gm}{H H1 H2:Hp}{σ σ1 τ:Sg}{σV σV2 σV3:St}{ow:List Nat}
def StOk.blank(ok:StOk Γ H τ σV2)(h:σV3.length=σV2.length)(e:∀ j,j∉ow->σV3[j]? = σV2[j]?):StOk Γ H (cP ow τ) σV3 where
 rel:=λj t b=>by
  obtain⟨c,d⟩:=cX ow τ j t b;rw[e j c];exact ok.rel j t d
 dis:=λj l t g q n b i m k a f=>by
  obtain⟨c,d⟩:=cX ow τ j t b;obtain⟨o,p⟩:=cX ow τ l g i;rw[e j c]at a;rw[e l o]at f;exact ok.dis j l t g q n d p m k a f
 own:=λj t q b m a=>by
  obtain⟨c,d⟩:=cX ow τ j t b;rw[e j c]at a;exact ok.own j t q d m a
 par:=λj t q b m a=>by
  obtain⟨c,d⟩:=cX ow τ j t b;rw[e j c]at a;exact ok.par j t q d m a
 keep:=ok.keep
 dom:=ok.dom
 len:=by rw[cP,jB,h];exact ok.len
def Step.blank{c:Sg}(g:∀ (j:Nat) t,c[j]? = some (some t)->j∉ow)(st:Step c σV H1 τ σV2 H2)(h:∀ j,j∉ow->σV3[j]? = σV2[j]?):Step c σV H1 (cP ow τ) σV3 H2 where
 fr:=st.fr
 dom:=st.dom
 mu:=λa ⟨j,t,b,m,f⟩=>by
  obtain⟨e,d⟩:=cX ow τ j t b;rw[h j e]at f;exact st.mu a ⟨j,t,d,m,f⟩
 nv:=λa ⟨j,t,b,m,f⟩=>by
  obtain⟨e,d⟩:=cX ow τ j t b;rw[h j e]at f;exact st.nv a ⟨j,t,d,m,f⟩
 kp:=λj t b=>by
  obtain⟨i,k⟩:=st.kp j t b;exact⟨i,by rw[cP,iB ow τ j (g j t b)];exact k⟩
 fix:=λj t b m=>by
  obtain⟨i,k,e,d,l⟩:=st.fix j t b m;exact⟨i,by rw[cP,iB ow τ j (g j t b)];exact k,e,d,by rw[h j (g j t b)];exact l⟩
 lt:=λj t b m=>by
  obtain⟨e,d⟩:=cX ow τ j t b;exact st.lt j t d m
def cU0(c:StOk Γ H1 σ1 σV)(ok:StOk Γ H τ σV2)(x:∀ j,j∉ow->σV2[j]? = σV[j]?)(P:σV2.length=σV.length)(st:Step (cP ow σ1) σV2 H1 τ σV2 H) :
  StOk Γ H (oZ ow σ1 τ) σV/\Step σ1 σV H1 (oZ ow σ1 τ) σV H:=by
 have A:σ1.length=τ.length:=by rw[c.len,ok.len,P]
 have Q:StOk Γ H1 (cP ow σ1) σV2:=c.blank P x;have ext:Ext H1 H:=st.ext Q;have get:∀ (j:Nat) t,(oZ ow σ1 τ)[j]? = some (some t)->(j∈ow/\σ1[j]? = some (some t))\/(j∉ow/\τ[j]? = some (some t)):=λj t e=>by
  by_cases h:j∈ow;rw[wK ow σ1 τ j h A]at e;exact .inl ⟨h,e⟩;rw[nP ow σ1 τ j h]at e;exact .inr ⟨h,e⟩
 have B:∀ (j:Nat) t,(cP ow σ1)[j]? = some (some t)->j∉ow/\σ1[j]? = some (some t):=λj t e=>cX ow σ1 j t e;have G:∀ (j:Nat),j∉ow->(cP ow σ1)[j]? = σ1[j]?:=λj h=>iB ow σ1 j h;have s:∀ a,wA (cP ow σ1) σV2 a->∃ (j:Nat) (t:Sl),j∉ow/\σ1[j]? = some (some t)/\t.m.mt=true/\σV[j]? = some (some (.ref a)):=λa ⟨j,t,b,m,u⟩=>by
  obtain⟨k,f⟩:=B j t b;rw[x j k]at u;exact⟨j,t,k,f,m,u⟩
 have I:∀ a,bZ3 (cP ow σ1) σV2 a->∃ (j:Nat) (t:Sl),j∉ow/\σ1[j]? = some (some t)/\t.m≠.val/\σV[j]? = some (some (.ref a)):=λa ⟨j,t,b,m,u⟩=>by
  obtain⟨k,f⟩:=B j t b;rw[x j k]at u;exact⟨j,t,k,f,m,u⟩
 have C:∀ (j l:Nat) t g q,j∈ow->σ1[j]? = some (some t)->l∉ow->τ[l]? = some (some g)->t.m≠.val->g.m≠.val->(t.m.mt=true\/g.m.mt=true)->σV[j]? = some (some (.ref q))->σV[l]? = some (some (.ref q))->False:=by
  intro j l t g q U b R M m K N i d;rw[← x l R]at d;obtain⟨p,L,S⟩:=c.ownAt b m;rw[i]at L;have L:=a7a (a7a L);cases L;obtain⟨o,V,_⟩:=S.obj;rcases N with N | N;rcases st.nv q ⟨l,g,M,K,d⟩with z | z;obtain⟨D,E,k,f,v,F⟩:=I q z;exact c.dis j D t E q (λy=>k (by rw[← y];exact U)) b f N v i F;rw[V]at z;cases z;rcases st.mu q ⟨l,g,M,N,d⟩with z | z;obtain⟨D,E,k,f,v,F⟩:=s q z;exact c.dis D j E t q (λy=>k (by rw[y];exact U)) f b v m F i;rw[V]at z;cases z
 constructor
 ·refine⟨λj t b=>?_,λj l t g q n b M m K i d=>?_,λj t q b m i=>?_,λj t q b m i=>?_,ok.keep,ok.dom,by rw[vM,ok.len,P]⟩;rcases get j t b with⟨h,e⟩ | ⟨h,e⟩;obtain⟨w,O,r⟩:=c.rel j t e;refine⟨w,O,r.mono ext λp o L m X=>st.fr p o X λz=>?_⟩;obtain⟨D,E,k,f,v,F⟩:=s p z;exact c.dis D j E t p (λy=>k (by rw[y];exact h)) f e v m F (by rw[O,L]);obtain⟨w,O,r⟩:=ok.rel j t e;exact⟨w,by rw[← x j h];exact O,r⟩
  ·rcases get j t b with⟨h,e⟩ | ⟨h,e⟩;rcases get l g M with⟨h',J⟩ | ⟨h',J⟩;exact c.dis j l t g q n e J m K i d;exact C j l t g q h e h' J (kB m) K (.inl m) i d;rcases get l g M with⟨h',J⟩ | ⟨h',J⟩;exact C l j g t q h' J h e K (kB m) (.inr m) d i;rw[← x j h]at i;rw[← x l h']at d;exact ok.dis j l t g q n e J m K i d
  ·rcases get j t b with⟨h,e⟩ | ⟨h,e⟩;exact c.own j t q e m i;rw[← x j h]at i;exact ok.own j t q e m i
  ·rcases get j t b with⟨h,e⟩ | ⟨h,e⟩;exact c.par j t q e m i;rw[← x j h]at i;exact ok.par j t q e m i
 ·refine⟨λa o e n=>st.fr a o e λz=>?_,st.dom,λa ⟨j,t,b,m,u⟩=>?_,λa ⟨j,t,b,m,u⟩=>?_,λj t b=>?_,λj t b m=>?_,λj t b m=>?_⟩;obtain⟨D,E,k,f,v,F⟩:=s a z;exact n ⟨D,E,f,v,F⟩;rcases get j t b with⟨h,e⟩ | ⟨h,e⟩;exact .inl ⟨j,t,e,m,u⟩;rw[← x j h]at u;rcases st.mu a ⟨j,t,e,m,u⟩with z | z;obtain⟨D,E,k,f,v,F⟩:=s a z;exact .inl ⟨D,E,f,v,F⟩;exact .inr z;rcases get j t b with⟨h,e⟩ | ⟨h,e⟩;exact .inl ⟨j,t,e,m,u⟩;rw[← x j h]at u;rcases st.nv a ⟨j,t,e,m,u⟩with z | z;obtain⟨D,E,k,f,v,F⟩:=I a z;exact .inl ⟨D,E,f,v,F⟩;exact .inr z;by_cases h:j∈ow;exact⟨t,by rw[wK ow σ1 τ j h A];exact b⟩;obtain⟨g,T⟩:=st.kp j t (by rw[G j h];exact b);exact⟨g,by rw[nP ow σ1 τ j h];exact T⟩;by_cases h:j∈ow;exact⟨t,by rw[wK ow σ1 τ j h A];exact b,rfl,λ_=>rfl,rfl⟩;obtain⟨g,T,k,f,v⟩:=st.fix j t (by rw[G j h];exact b) m;exact⟨g,by rw[nP ow σ1 τ j h];exact T,k,f,rfl⟩;rcases get j t b with⟨h,e⟩ | ⟨h,e⟩;exact⟨t,e,m⟩;obtain⟨W,Y,Z⟩:=st.lt j t e m;exact⟨W,(B j W Y).2,Z⟩
end
noncomputable def aV2(ow:List Nat)(g:DG)(t:DT)(e:DE):List D->Sg->Option (List D×Sg)
 | [],a=>some ([],a)
 | d :: r,a=>(g d a).bind λb=>(t b).bind λx=>if x.1=true then(e x.2).bind λy=>match y.1 with
     | .val d'=>(aV2 ow g t e r (cP ow y.2)).bind λz=>some (d'::z.1,z.2)
     | _=>none else aV2 ow g t e r (cP ow x.2)
noncomputable def iC:DT:=λσ=>some (true,σ)
noncomputable def cG(ow:List Nat)(ri:DI)(g:DG)(t:DT)(e:DE):DE:=λσ=>(ri σ).bind λx=>if x.1.length<=sizeLine then(aV2 ow g t e x.1 (cP ow (lendO x.2.1 x.2.2))).bind λy=>
 some (.own (.lst y.1),aK9 x.2.1 x.2.2 (oZ ow (lendO x.2.1 x.2.2) y.2))else none
def aN5{Γ:Gm}{ow:List Nat}{ri:DI}{g:TG}{gd:DG}{t:DT}{e:DE}(hg:cM7 ow g gd){σV:St}{H:Hp}{Q:VK}(h:dTE Γ (cG ow ri gd t e) σV H Q) :
  bG5 ow (dTI Γ ri) g (dTT Γ t) (dTE Γ e) σV H Q:=by
 obtain⟨σ,ok,res,σ',x,k⟩:=h;obtain⟨⟨items,l,c⟩,e1,x⟩:=aC x;dsimp only at x;split at x
 case isFalse=>cases x
 case isTrue hlen=>
 obtain⟨⟨all,τe⟩,e2,x⟩:=aC x;cases x;refine⟨σ,ok,items,l,c,e1,λJ I P K L B stay=>?_⟩;have bl:(blank ow σV).length=σV.length:=jB ow σV;have bo:∀ j,j∉ow->(blank ow σV)[j]? = σV[j]?:=λj r=>iB ow σV j r;have M:StOk Γ I (lendO l c) σV:=K.lendO;have okB:StOk Γ I (cP ow (lendO l c)) (blank ow σV):=M.blank bl bo;have hb:∀ (j:Nat) t,(cP ow (lendO l c))[j]? = some (some t)->j∉ow:=λj t ej=>(cX ow _ j t ej).1
 -- a step within,as a step of the q
 have q:∀ o d,StOk Γ d o (blank ow σV)->Step (cP ow (lendO l c)) (blank ow σV) I o (blank ow σV) d->StOk Γ d (oZ ow (lendO l c) o) σV/\Step (lendO l c) σV I (oZ ow (lendO l c) o) σV d:=
  λo d s u=>cU0 M s bo bl u
 refine⟨λi m ys d=>m=items.length-i/\i<=items.length/\∃ o don nK,aV2 ow gd t e (items.drop i) o=some (nK,τe)/\don++nK=all/\don.length<=i/\Rps d don ys/\StOk Γ d o (blank ow σV)/\Step (cP ow (lendO l c)) (blank ow σV) I o (blank ow σV) d,
  ⟨items.length,by simp,Nat.zero_le _,cP ow (lendO l c),[],all,by simpa using e2,rfl,a5c _,.nil,okB,.refl⟩,?_⟩
 rintro i m ys d ⟨rfl,hi,o,don,nK,f,n,hdl,X,s,u⟩;have hyl:=X.length;obtain⟨okw,N⟩:=q o d s u;have hP:=stay _ σV d N;refine⟨by lia,?_⟩;by_cases w:i < items.length
 ·have ei:items[i]? = some items[i]:=a0a w;refine .inr ⟨B.go d i _ hP ei,λy Y hy=>?_⟩;obtain⟨C,ry⟩:=B.yld d i _ y Y hP ei hy;rw[List.drop_eq_getElem_cons w]at f;obtain⟨O,eg,f⟩:=aC f;obtain⟨⟨b,D⟩,et,f⟩:=aC f;refine hg Γ Y _ _ _ o (blank ow σV) _ y O _ (s.same C) (u.trans (.same C)) ry eg λσV3 R S l3 Z=>?_;have z:Ext d Y:=.same C;refine⟨O,R,b,D,et,λH4 E F=>?_⟩;have A:Ext Y H4:=F.ext R;dsimp only at f;split at f;rename_i hbt;dsimp only;rw[a4i hbt];obtain⟨⟨r5,T⟩,ee,f⟩:=aC f;refine⟨D,E,r5,T,ee,λv H5 ok5 r5' U f5=>?_⟩;dsimp only at f;split at f;rename_i d';obtain⟨⟨G,τe'⟩,ec',f⟩:=aC f;cases f;refine⟨_,by lia,rfl,w,cP ow T,don++[d'],G,ec',by rw[← n];simp,by simp;lia,?_,ok5.blank (by rw[l3]) (λj r=>((Z j r).1).symm),Step.blank hb ((S.trans F).trans U) λj r=>((Z j r).1).symm⟩;exact((X.mono z).mono A |>.mono (U.ext E)).append (.cons r5' .nil);cases f;rename_i hbf;dsimp only;rw[a4j hbf];refine⟨_,by lia,rfl,w,cP ow D,don,nK,f,n,by lia,(X.mono z).mono A,E.blank (by rw[l3]) (λj r=>((Z j r).1).symm),Step.blank hb (S.trans F) λj r=>((Z j r).1).symm⟩
 ·have e0:i=items.length:=by lia
  subst e0;rw[List.drop_length]at f;cases f;rw[a4g]at n;subst n;refine .inl ⟨B.stop d hP,λp hp=>?_⟩;obtain⟨V,W⟩:=aG6 K okw N;have C:aF2 d (upd d p (.lst ys)):=bU hp;have nw:aU8 d (upd d p (.lst ys)) (.own (.lst don)) (.ref p):=⟨p,rfl,hp,ys,aR,X.mono (.same C)⟩;exact k _ _ (V.same C) (nw.res V) ((L.trans W).trans (.same C)) (nw.frh.back (L.trans W))
def bR{X:Cx}{ow:List Nat}{ex:Expr}{ri:DI}{g:TG}{a:DG}{t:DT}{e:DE}(b:cM7 ow g a)(h:∀ Γ,PE X ex (bG5 ow (dTI Γ ri) g (dTT Γ t) (dTE Γ e))):GE X ex (cG ow ri a t e):=.mk λΓ=>peW (h Γ) λ_ _ _=>aN5 b
def dD{X:Cx}{Γ:Gm}:cL1 X [] (dTT Γ iC):=λpins s σ H Q I ⟨a,ok,b,σ',e,k⟩=>aF4 pins s σ H Q I (by cases e;exact k H ok .refl)
def cM{X:Cx}{Γ:Gm}{c:Expr}{t:DT}(h:GT X c t):cL1 X [c] (dTT Γ t):=aZ5 (h.to Γ)
def iV{X:Cx}{E:Ex}{ow:List Nat}{i:Nat}{st:Stmt}{ri:DI}{g:TG}{a:DG}{t:DT}{e:DE}(b:cM7 ow g a)(h:∀ Γ,PS X st (λD σ H=>bG5 ow (dTI Γ ri) g (dTT Γ t) (dTE Γ e) σ H λv c=>D.nx (σ.set i (some v)) c)):GS E X st (dA i (cG ow ri a t e)):=.mk λΓ=>psW (h Γ) λD σV H h=>aN5 b (bA9 h)
abbrev Run:=List Sl->Option (Res×List Sl)
structure ArgOk(H:Hp)(as:List Sl)(vs:List V):Prop where
 len:as.length=vs.length
 rel:∀ (i:Nat) s,as[i]? = some s->∃ v,vs[i]? = some v/\cC4 H s v
 dis:∀ (i j:Nat) s t p,i≠j->as[i]? = some s->as[j]? = some t->s.m.mt=true->t.m≠.val->vs[i]? = some (.ref p)->vs[j]? = some (.ref p)->False
 own:∀ (i:Nat) s,as[i]? = some s->s.m≠.own
def cD4(as:List Sl)(vs:List V)(a:Addr):Prop:=∃ (i:Nat) (s:Sl),as[i]? = some s/\s.m.mt=true/\vs[i]? = some (.ref a)
structure PostOk(as:List Sl)(vs:List V)(H:Hp)(as':List Sl)(H':Hp):Prop where
 rel:∀ (i:Nat) s,as[i]? = some s->s.m.mt=true->∃ s' v,as'[i]? = some s'/\s'.m=s.m/\vs[i]? = some v/\cC4 H' s' v
 fr:∀ a o,H a=some o->¬ cD4 as vs a->H' a=some o
 dom:∀ a,H' a=none->H a=none
def dsp(n:Nat)(run:Run):Sp:=λvs H Q _=>∃ as res as',ArgOk H as vs/\as.length=n/\run as=some (res,as')/\∀ v H',PostOk as vs H as' H'->aU8 H H' res v->Q v H'
noncomputable def dB1(σ:Sg):Res->Option Res
 | .val d=>some (.val d)
 | .own d=>some (.own d)
 | .slot i=>match σ[i]? with
   | some (some s)=>if s.m=.own then some (.own s.d)else if s.m=.val then some (.val s.d)else none
   | _=>none
noncomputable def zF:List Sl->Sg->List Sl
 | [],_=>[]
 | a::as,some s::σ=>(if a.m=.val then a else s)::zF as σ
 | a::as,_::σ=>a::zF as σ
 | a::as,[]=>a::as
noncomputable def ini(len:Nat)(as:List Sl):Sg:=as.map some++List.replicate (len-as.length) none
noncomputable def pJ(len:Nat)(a:DS):Run:=λas=>(a (ini len as)).bind λo=>match o with
 | .nx σ=>some (.val .non,zF as σ)
 | .rt r σ=>(dB1 σ r).bind λb=>some (b,zF as σ)
 | _=>none
def pA{len:Nat}{as:List Sl}{i:Nat}{s:Sl}:(ini len as)[i]? = some (some s)↔as[i]? = some s:=by
 unfold ini;by_cases h:i < as.length;rw[a3g (by simpa using h),a8b];cases as[i]? <;> simp;rw[a1g (by simpa using h),List.getElem?_replicate,a3d.mpr (by lia)];split<;>simp
def kI{N:List Str}{vs:List V}{i:Nat}{v:V}:(L2.lC N vs)[i]? = some (some v)↔vs[i]? = some v:=by
 unfold L2.lC;by_cases h:i < vs.length;rw[a3g (by simpa using h),a8b];cases vs[i]? <;> simp;rw[a1g (by simpa using h),List.getElem?_replicate,a3d.mpr (by lia)];split<;>simp
theorem bB1:∀ {as:List Sl} {σ:Sg} {i:Nat} {a s:Sl},as[i]? = some a->σ[i]? = some (some s)->(zF as σ)[i]? = some (if a.m=.val then a else s)
 | [],_,_,_,_,h,_=>by simp at h
 | _::_,[],_,_,_,_,h=>by simp at h
 | a::as,o::σ,0,b,s,h,h'=>by
   simp at h h';subst h h';unfold zF;simp
 | a::as,o::σ,i+1,b,s,h,h'=>by
   have:=bB1 (as:=as) (σ:=σ) (i:=i) (a:=b) (s:=s) (by simpa using h) (by simpa using h');cases o<;>(unfold zF;simpa using this)
section
variable{P:Program}{w:World}{K:W.Frag}{mg:Str->Option Value}{base:Heap}
abbrev MS:=Sg->(Out->Prop)->Prop
abbrev MC:=List Sl->(Res->List Sl->Prop)->Prop
def bB2(m:MS):Prop:=∀ σ (Q a:Out->Prop),(∀ o,Q o->a o)->m σ Q->m σ a
def mTS(Γ:Gm)(E:Ex)(m:MS):TS:=λD σV H=>∃ σ,StOk Γ H σ σV/\m σ λo=>bH0 Γ E σ σV H o D
structure GM(E:Ex)(X:Cx)(ss:List Stmt)(m:MS):Prop where
 to:∀ Γ,PSs X ss (mTS Γ E m)
 mon:bB2 m
def bQ1(n:Nat)(C:MC):Sp:=λvs H Q _=>∃ as,ArgOk H as vs/\as.length=n/\C as λres as'=>∀ v H',PostOk as vs H as' H'->aU8 H H' res v->Q v H'
def dX4(as:List Sl)(K:Res->List Sl->Prop)(o:Out):Prop:=match o with
 | .nx σ=>K (.val .non) (zF as σ)
 | .rt r σ=>∃ a,dB1 σ r=some a/\K a (zF as σ)
 | _=>False
def dB2(len:Nat)(m:MS):MC:=λas K=>m (ini len as) (dX4 as K)
def aV3{x qual:Str}{st:Stmt}{f:Addr}{fd:FuncData}{N ps:List Str}{k:Nat}(F:Fun K x qual st f fd)(S:FnScope N ps (aW st))(T:ps.length<=N.length)(m:MS)(hm:bB2 m)
  (U:∀ (cdv:Value) (A:Around) (outer:List Env) (s:Shared) (H:Hp) (E:XK),Room k (A.deeper (PyProof.Rows.envOfC qual (aW st) s.heap.objs.size f cdv))->∀ Γ,PSs (cK6 CX0 P w K mg base N qual (aW st) f cdv A outer s H E).nox (uR st) (mTS Γ Ex.no m)) :
  FnOk P w K mg base CX0 (k+1) f fd ps (bQ1 ps.length (dB2 N.length m)):=by
 refine F.ok S (λvs H Q E Z1=>by obtain⟨as,ok,L,_⟩:=Z1;rw[← ok.len];exact L) λcdv A outer s H vs Q E V h=>?_;obtain⟨as,ok,L,h⟩:=h;refine⟨_,U cdv A outer s H E V ⟨H,cD4 as vs⟩,ini N.length as,?_,hm _ _ _ (λo k=>?_) h⟩;refine⟨λi s e=>?_,λi j s t p n u I m W e X=>?_,λi s p u m=>?_,λi s p u m e=>?_,λa o e _=>e,λa e=>e,?_⟩;obtain⟨v,B,r⟩:=ok.rel i s (pA.mp e);exact⟨v,kI.mpr B,r⟩;exact ok.dis i j s t p n (pA.mp u) (pA.mp I) m W (kI.mp e) (kI.mp X);exact absurd m (ok.own i s (pA.mp u));exact⟨i,s,pA.mp u,by rw[m];rfl,kI.mp e⟩;unfold ini L2.lC;have:=ok.len;simp;lia;have y:∀ σ σV' H',StOk ⟨H,cD4 as vs⟩ H' σ σV'->Step (ini N.length as) (L2.lC N vs) H σ σV' H'->PostOk as vs H (zF as σ) H':=λσ σV' H' b g=>by
  have Y:∀ a,wA (ini N.length as) (L2.lC N vs) a->cD4 as vs a:=λa ⟨j,t,I,m,Z⟩=>⟨j,t,pA.mp I,m,kI.mp Z⟩;refine⟨λi a u m=>?_,λa o e n=>g.fr a o e λz=>n (Y a z),g.dom⟩;have M:a.m=.par:=by
   have h0:=ok.own i a u;cases q:a.m with
   | par=>rfl
   | own=>exact absurd q h0
   | val=>rw[q]at m;cases m
   | lent=>rw[q]at m;cases m
  obtain⟨s',es,ms,_,D⟩:=g.fix i a (pA.mpr u) (.inl M);obtain⟨v,B,r⟩:=b.rel i s' es;obtain⟨v0,O,_⟩:=ok.rel i a u;have:some (some v)=some (some v0):=by rw[← B,D];exact kI.mpr O
  cases this;refine⟨s',v,?_,ms,O,r⟩;rw[bB1 u es,a4j (by rw[M];exact λz=>nomatch z)]
 cases o with
 | nx σ=>
   exact λσV' H' b g=>k .non H' (y σ σV' H' b g) .non
 | rt r σ=>
   obtain⟨res,B,k⟩:=k;intro v σV' H' b J g;refine k v H' (y σ σV' H' b g) ?_;cases r with
   | val d=>cases B;exact J
   | own d=>
     cases B;obtain⟨p,G,C,q3,q4⟩:=J;exact⟨p,G,q4,C⟩
   | slot i=>
     obtain⟨G,s',C⟩:=J;have l:(match σ[i]? with | some (some s)=>if s.m=.own then some (Res.own s.d)else if s.m=.val then some (.val s.d)else none | _=>none)=some res:=B;rw[C]at l;dsimp only at l;obtain⟨v',D,R⟩:=b.rel i s' C;rw[G]at D;cases D;split at l
     ·rename_i hm;cases l;obtain⟨p,rfl,ow⟩:=(eG (by rw[hm];exact λz=>nomatch z)).mp R;exact⟨p,rfl,b.own i s' p C hm G,ow⟩
     ·split at l;rename_i hm;cases l;obtain⟨m,d⟩:=s';cases hm;exact R;cases l
 | bk σ=>exact k.elim
 | ct σ=>exact k.elim
 | ex c f σ=>exact k.elim
def cH{x qual:Str}{st:Stmt}{f:Addr}{fd:FuncData}{N ps:List Str}{k:Nat}(F:Fun K x qual st f fd)(S:FnScope N ps (aW st))(d:ps.length<=N.length)(b:DS)
  (g:∀ (cdv:Value) (A:Around) (outer:List Env) (s:Shared) (H:Hp) (E:XK),Room k (A.deeper (PyProof.Rows.envOfC qual (aW st) s.heap.objs.size f cdv))->GSs Ex.no (cK6 CX0 P w K mg base N qual (aW st) f cdv A outer s H E).nox (uR st) b) :
  FnOk P w K mg base CX0 (k+1) f fd ps (dsp ps.length (pJ N.length b)):=
 (aV3 F S d (λσ Q=>∃ o,b σ=some o/\Q o) (λσ Q m w ⟨o,e,q⟩=>⟨o,e,w o q⟩) λcdv A outer s H E h Γ=>dI4 ((g cdv A outer s H E h).to Γ) λD σV H ⟨σ,ok,o,e,q⟩=>⟨σ,ok,o,e,q⟩).imp
  λvs H Q E ⟨as,res,as',ok,i,a,k⟩=>by
   obtain⟨o,j,a⟩:=aC a;refine⟨as,ok,i,o,j,?_⟩;cases o with
   | nx σ=>cases a;exact k
   | rt r σ=>
     obtain⟨n,l,a⟩:=aC a;cases a;exact⟨_,l,k⟩
   | bk σ=>cases a
   | ct σ=>cases a
   | ex c f σ=>cases a
end
noncomputable def aV4(σ:Sg):Res->Option Sl
 | .val d=>some ⟨.val,d⟩
 | .own d=>some ⟨.par,d⟩
 | .slot i=>match σ[i]? with
   | some (some s)=>some ⟨if s.m.mt=true then .par else s.m,s.d⟩
   | _=>none
noncomputable def xH(σ:Sg):List Res->Option (List Sl)
 | []=>some []
 | r::rs=>(aV4 σ r).bind λa=>(xH σ rs).bind λas=>some (a::as)
noncomputable def aT1(i:Nat):List Res->Bool
 | []=>false
 | .slot j::rs=>decide (i=j)||aT1 i rs
 | _::rs=>aT1 i rs
noncomputable def eM:List Res->Bool
 | []=>true
 | .slot i::rs=>!aT1 i rs&&eM rs
 | _::rs=>eM rs
noncomputable def nQ(j:Nat):List Res->List Sl->Option Sl
 | .slot i::rs,a::as=>if i=j then some a else nQ j rs as
 | _::rs,_::as=>nQ j rs as
 | _,_=>none
noncomputable def lJ(rs:List Res)(as:List Sl):Nat->Sg->Sg
 | _,[]=>[]
 | k,some s::σ=>(match nQ k rs as with
   | some a=>some (if s.m.mt=true then⟨s.m,a.d⟩else s)
   | none=>some s)::lJ rs as (k+1) σ
 | k,none::σ=>none::lJ rs as (k+1) σ
noncomputable def bH(n:Nat)(run:Run)(a:DA):DE:=λσ=>(a σ).bind λx=>(xH x.2 x.1).bind λas=>if as.length=n/\eM x.1=true then(run as).bind λy=>some (y.1,lJ x.1 y.2 0 x.2)else none
theorem aB1{σ:Sg}:∀ {rs:List Res} {as:List Sl},xH σ rs=some as->as.length=rs.length/\∀ (k:Nat) r,rs[k]? = some r->∃ a,as[k]? = some a/\aV4 σ r=some a
 | [],as,h=>by cases h;exact⟨rfl,λk r e=>by simp at e⟩
 | r::rs,as,h=>by
   obtain⟨a,b,h⟩:=aC h;obtain⟨as',c,h⟩:=aC h;cases h;obtain⟨l,g⟩:=aB1 c;refine⟨by simp[l],λk d e=>?_⟩;cases k with
   | zero=>simp at e;subst e;exact⟨a,rfl,b⟩
   | succ k=>
     obtain⟨f,i,j⟩:=g k d (by simpa using e);exact⟨f,by simpa using i,j⟩
theorem ResOks.get{Γ:Gm}{H:Hp}{σ:Sg}{σV:St}:∀ {rs:List Res} {vs:List V},ResOks Γ H σ σV rs vs->rs.length=vs.length/\∀ (k:Nat) r,rs[k]? = some r->∃ v,vs[k]? = some v/\nG Γ H σ σV r v
 | _,_,.nil=>⟨rfl,λk r e=>by simp at e⟩
 | _,_,.cons h t _=>by
   obtain⟨l,g⟩:=ResOks.get t;refine⟨by simp[l],λk a e=>?_⟩;cases k with
   | zero=>simp at e;subst e;exact⟨_,rfl,h⟩
   | succ k=>
     obtain⟨b,c,d⟩:=g k a (by simpa using e);exact⟨b,by simpa using c,d⟩
theorem ResOks.dis{Γ:Gm}{H:Hp}{σ:Sg}{σV:St}:∀ {rs:List Res} {vs:List V},ResOks Γ H σ σV rs vs->∀ (k l:Nat) d d' p,k < l->rs[k]? = some (.own d)->rs[l]? = some (.own d')->vs[k]? = some (.ref p)->vs[l]? ≠ some (.ref p)
 | _,_,.nil,k,l,d,d',p,_,e,_,_=>by simp at e
 | _,_,.cons h t q,k,l,d,d',p,b,e,a,ev=>by
   cases l with
   | zero=>lia
   | succ l=>
     cases k with
     | zero=>
       simp at e ev;subst e ev;intro z;exact q d p rfl rfl l d' (by simpa using a) (by simpa using z)
     | succ k=>
       intro z;exact ResOks.dis t k l d d' p (by lia) (by simpa using e) (by simpa using a) (by simpa using ev) (by simpa using z)
theorem wL{i:Nat}:∀ {rs:List Res} {k:Nat},rs[k]? = some (.slot i)->aT1 i rs=true
 | [],_,h=>by simp at h
 | r::rs,0,h=>by simp at h;subst h;simp[aT1]
 | r::rs,k+1,h=>by
   have:=wL (rs:=rs) (k:=k) (by simpa using h);cases r<;>simp[aT1,this]
theorem uU:∀ {rs:List Res},eM rs=true->∀ (k l i:Nat),rs[k]? = some (.slot i)->rs[l]? = some (.slot i)->k=l
 | [],_,k,l,i,h,_=>by simp at h
 | r::rs,hn,k,l,i,h,h'=>by
   cases k with
   | zero=>
     cases l with
     | zero=>rfl
     | succ l=>
       simp at h;subst h;unfold eM at hn;rw[a3f]at hn;rw[wL (k:=l) (by simpa using h')]at hn;simp at hn
   | succ k=>
     cases l with
     | zero=>
       simp at h';subst h';unfold eM at hn;rw[a3f]at hn;rw[wL (k:=k) (by simpa using h)]at hn;simp at hn
     | succ l=>
       have a:eM rs=true:=by
        cases r with
        | slot j=>unfold eM at hn;rw[a3f]at hn;exact hn.2
        | val d=>exact hn
        | own d=>exact hn
       exact a4q Nat.succ (uU a k l i (by simpa using h) (by simpa using h'))
theorem iW{j:Nat}:∀ {rs:List Res} {as:List Sl} {a:Sl},nQ j rs as=some a->∃ k:Nat,rs[k]? = some (.slot j)/\as[k]? = some a
 | [],_,_,h=>by simp[nQ]at h
 | r::rs,[],_,h=>by cases r<;>simp[nQ]at h
 | r::rs,a::as,b,h=>by
   cases r with
   | slot i=>
     have h':(if i=j then some a else nQ j rs as)=some b:=h;split at h';rename_i e;cases h';subst e;exact⟨0,rfl,rfl⟩
     ·obtain⟨k,c,f⟩:=iW h';exact⟨k+1,by simpa using c,by simpa using f⟩
   | val d=>obtain⟨k,c,f⟩:=iW (rs:=rs) (as:=as) h;exact⟨k+1,by simpa using c,by simpa using f⟩
   | own d=>obtain⟨k,c,f⟩:=iW (rs:=rs) (as:=as) h;exact⟨k+1,by simpa using c,by simpa using f⟩
noncomputable def pV(rs:List Res)(as:List Sl)(k:Nat)(o:Option Sl):Option Sl:=match o with
 | some s=>(match nQ k rs as with
   | some a=>some (if s.m.mt=true then⟨s.m,a.d⟩else s)
   | none=>some s)
 | none=>none
theorem nR{rs:List Res}{as:List Sl}:∀ (k:Nat) (σ:Sg) (j:Nat),(lJ rs as k σ)[j]? = (σ[j]?).map (pV rs as (k+j))
 | _,[],_=>by simp[lJ]
 | k,o::σ,0=>by cases o<;>simp[lJ,pV]
 | k,o::σ,j+1=>by
   have:=nR (rs:=rs) (as:=as) (k+1) σ j;have e:k+1+j=k+(j+1):=by lia
   rw[e]at this;cases o<;>simpa[lJ]using this
theorem vN{rs:List Res}{as:List Sl}:∀ (k:Nat) (σ:Sg),(lJ rs as k σ).length=σ.length
 | _,[]=>rfl
 | k,o::σ=>by cases o<;>simp[lJ,vN (k+1) σ]
def aN6{Γ:Gm}{σ c:Sg}{rs:List Res}{as:List Sl}{σV:St}{H H1:Hp}{vs:List V}(e2:xH c rs=some as)(hc:eM rs=true)(x:StOk Γ H1 c σV)(r1:ResOks Γ H1 c σV rs vs)(D:Step σ σV H c σV H1)
  (f1:∀ (j:Nat) d p,rs[j]? = some (.own d)->vs[j]? = some (.ref p)->H p=none) :
  ArgOk H1 as vs/\∀ r as' v H2,PostOk as vs H1 as' H2->aU8 H1 H2 r v->StOk Γ H2 (lJ rs as' 0 c) σV/\nG Γ H2 (lJ rs as' 0 c) σV r v/\Step σ σV H (lJ rs as' 0 c) σV H2/\Frh H r v:=by
 obtain⟨la,ga⟩:=aB1 e2;obtain⟨lv,gv⟩:=r1.get;have P:∀ (i:Nat) a,as[i]? = some a->∃ r v,rs[i]? = some r/\aV4 c r=some a/\vs[i]? = some v/\nG Γ H1 c σV r v:=λi a A=>by
  have hi:i < rs.length:=by rw[← la];exact(a2a.mp A).1
  have Q:rs[i]? = some rs[i]:=a0a hi;obtain⟨a',R,h2⟩:=ga i _ Q;rw[A]at R;cases R;obtain⟨v,h3,h4⟩:=gv i _ Q;exact⟨_,v,Q,h2,h3,h4⟩
 have g:∀ i a,aV4 c (.slot i)=some a->∃ s,c[i]? = some (some s)/\a=⟨if s.m.mt=true then .par else s.m,s.d⟩:=λi a A=>by
  have Y:(match c[i]? with | some (some s)=>some (⟨if s.m.mt=true then .par else s.m,s.d⟩:Sl) | _=>none)=some a:=A;split at Y
  ·rename_i s f;cases Y;exact⟨s,f,rfl⟩
  ·cases Y
 -- an argument that may change: new,or owned here
 have L:∀ a,cD4 as vs a->wA c σV a\/(H a=none/\¬ bZ3 c σV a/\Γ.H₀ a=none):=λa ⟨i,s,S,m,G⟩=>by
  obtain⟨r,v,Q,A,E,M⟩:=P i s S;rw[G]at E;cases E;cases r with
  | val d=>cases A;cases m
  | own d=>
    obtain⟨p,C,T,Z,q4⟩:=M;cases C;exact .inr ⟨f1 i d a Q G,Z,q4⟩
  | slot j=>
    obtain⟨s',f,rfl⟩:=g j s A;obtain⟨C,_⟩:=M;refine .inl ⟨j,s',f,?_,C⟩;by_cases hm:s'.m.mt=true;exact hm;simp only[hm]at m;exact absurd m hm
 have J:ArgOk H1 as vs:=by
  refine⟨by rw[la,lv],λi a S=>?_,λi j s t p nij S w m m' G E=>?_,λi a S=>?_⟩
  ·obtain⟨r,v,Q,A,G,M⟩:=P i a S;refine⟨v,G,?_⟩;cases r with
   | val d=>cases A;exact M
   | own d=>cases A;obtain⟨p,C,T,_⟩:=M;exact⟨p,C,T⟩
   | slot j=>
     obtain⟨s',f,rfl⟩:=g j a A;obtain⟨C,_⟩:=M;obtain⟨v',e4,r4⟩:=x.rel j s' f;rw[C]at e4;cases e4;by_cases hm:s'.m.mt=true;simp only[hm,if_true];exact(eG (s:=⟨.par,s'.d⟩) (λz=>nomatch z)).mpr ((eG (kB hm)).mp r4);simp only[hm];exact r4
  ·obtain⟨r,v,Q,A,U,M⟩:=P i s S;obtain⟨r2,v2,er2,ea2,ev2,rv2⟩:=P j t w;rw[G]at U;cases U;rw[E]at ev2;cases ev2;have F:∀ l a,aV4 c (.slot l)=some a->a.m≠.val->∃ s,c[l]? = some (some s)/\s.m≠.val/\(a.m.mt=true->s.m.mt=true):=λl a A hm=>by
    obtain⟨s',f,rfl⟩:=g l a A;refine⟨s',f,?_,?_⟩;intro z;simp only[z,Md.mt]at hm;exact hm rfl;intro z;by_cases W:s'.m.mt=true;exact W;simp only[W]at z;exact z
   cases r with
   | val d=>cases A;cases m
   | own d=>
     obtain⟨q,C,T,Z,q4⟩:=M;cases C;cases r2 with
     | val d=>cases ea2;exact m' rfl
     | own d2=>
       rcases Nat.lt_or_gt_of_ne nij with z | z;exact r1.dis i j d d2 p z Q er2 G E
       ·exact r1.dis j i d2 d p z er2 Q E G
     | slot l=>
       obtain⟨s',f,W,_⟩:=F l t ea2 m';exact Z ⟨l,s',f,W,rv2.1⟩
   | slot l=>
     obtain⟨s',f,W,hmt⟩:=F l s A (kB m);cases r2 with
     | val d=>cases ea2;exact m' rfl
     | own d2=>
       obtain⟨q,C,T,Z,q4⟩:=rv2;cases C;exact Z ⟨l,s',f,W,M.1⟩
     | slot l2=>
       obtain⟨s2,hs2,hm2,_⟩:=F l2 t ea2 m';refine x.dis l l2 s' s2 p (λz=>?_) f hs2 (hmt m) hm2 M.1 rv2.1;subst z;exact nij (uU hc i j l Q er2)
  ·obtain⟨r,v,Q,A,U,M⟩:=P i a S;cases r with
   | val d=>cases A;exact λz=>nomatch z
   | own d=>cases A;exact λz=>nomatch z
   | slot j=>
     obtain⟨s',f,rfl⟩:=g j a A;intro z;by_cases hm:s'.m.mt=true;simp only[hm,if_true]at z;cases z;simp only[hm]at z;have z':s'.m=.own:=z;rw[z']at hm;exact hm rfl
 refine⟨J,λr as' v H2 po nw=>?_⟩;have extA:Ext H1 H2:=by
  refine⟨λp xs h=>po.fr p _ h λz=>?_,λp o u h=>po.fr p _ h λz=>?_⟩;obtain⟨i,s,S,m,G⟩:=z;obtain⟨v,e4,r4⟩:=J.rel i s S;rw[G]at e4;cases e4;obtain⟨q,eq,ow⟩:=(eG (kB m)).mp r4;cases eq;obtain⟨o,ho,n1,_⟩:=ow.obj;rw[h]at ho;cases ho;exact n1 _ rfl;obtain⟨i,s,S,m,G⟩:=z;obtain⟨v,e4,r4⟩:=J.rel i s S;rw[G]at e4;cases e4;obtain⟨q,eq,ow⟩:=(eG (kB m)).mp r4;cases eq;obtain⟨o',ho,_,n1⟩:=ow.obj;rw[h]at ho;cases ho;exact n1 _ _ rfl
 have back:∀ (j:Nat) t,(lJ rs as' 0 c)[j]? = some (some t)->∃ s,c[j]? = some (some s)/\t.m=s.m/\(t=s\/(s.m.mt=true/\∃ (k:Nat) (a:Sl),rs[k]? = some (.slot j)/\as'[k]? = some a/\t=⟨s.m,a.d⟩)):=λj t w=>by
  rw[nR,a0g]at w;cases q:c[j]? with
  | none=>rw[q]at w;cases w
  | some o=>
    rw[q]at w;cases o with
    | none=>cases w
    | some s=>
      have B:pV rs as' j (some s)=some t:=a7a w;unfold pV at B;refine⟨s,rfl,?_⟩;dsimp only at B;split at B;rename_i a ha;obtain⟨X,R,h2⟩:=iW ha;have N:=a7a B;by_cases hm:s.m.mt=true;rw[a4i hm]at N;subst N;exact⟨rfl,.inr ⟨hm,X,a,R,h2,rfl⟩⟩;rw[a4j hm]at N;subst N;exact⟨rfl,.inl rfl⟩;cases B;exact⟨rfl,.inl rfl⟩
 have fwd:∀ (j:Nat) s,c[j]? = some (some s)->∃ t,(lJ rs as' 0 c)[j]? = some (some t)/\t.m=s.m/\(s.m.mt=false->t=s):=λj s w=>by
  rw[nR,a0g,w];show ∃ t,some (pV rs as' j (some s))=some (some t)/\_;unfold pV;dsimp only;split;refine⟨_,rfl,?_,λz=>?_⟩;split<;>rfl;rw[a4j (by rw[z];exact a9b)];exact⟨s,rfl,rfl,λ_=>rfl⟩
 -- a slot that is handed in by no argument that may change
 have quiet:∀ (j:Nat) s t p,c[j]? = some (some s)->(lJ rs as' 0 c)[j]? = some (some t)->t=s->s.m≠.val->σV[j]? = some (some (.ref p))->(∀ k:Nat,s.m.mt=true->rs[k]? ≠ some (.slot j))->¬ cD4 as vs p:=by
  intro j s t p f _ _ hm G hno ⟨i,a,S,m,evi⟩;obtain⟨r,v,Q,A,U,M⟩:=P i a S;rw[evi]at U;cases U;cases r with
  | val d=>cases A;cases m
  | own d=>
    obtain⟨q,C,T,Z,q4⟩:=M;cases C;exact Z ⟨j,s,f,hm,G⟩
  | slot l=>
    obtain⟨s',I,rfl⟩:=g l a A;have hmt:s'.m.mt=true:=by
     by_cases h':s'.m.mt=true;exact h';simp only[h']at m;exact absurd m h'
    by_cases z:l=j;subst z;rw[f]at I;cases I;exact hno i hmt Q;exact x.dis l j s' s p z I f hmt hm M.1 G
 have okB:StOk Γ H2 (lJ rs as' 0 c) σV:=by
  refine⟨λj t w=>?_,λj l t t' q n w el m m' eq eq'=>?_,λj t q w m eq=>?_,λj t q w m eq=>?_,λa o e n=>?_,λa e=>x.dom a (po.dom a e),by rw[vN];exact x.len⟩
  ·obtain⟨s,f,O,hc'⟩:=back j t w;obtain⟨w',ew,rw'⟩:=x.rel j s f;refine⟨w',ew,?_⟩;by_cases K:s.m.mt=true/\∃ X:Nat,rs[X]? = some (.slot j)
   ·obtain⟨hm,X,hk'⟩:=K;obtain⟨a,ha,hao⟩:=ga X _ hk';obtain⟨v',hv',rv'⟩:=gv X _ hk';have E:σV[j]? = some (some v'):=rv'.1;rw[ew]at E;cases E;obtain⟨s',I,Y⟩:=g j a hao;rw[f]at I;cases I;have am:a.m=.par:=by rw[Y,a4i hm]
    obtain⟨a2,w2,R,h2,h3,h4⟩:=po.rel X a ha (by rw[am];rfl);rw[hv']at h3;cases h3;have ht:t=⟨s.m,a2.d⟩:=by
     rw[nR,a0g,f]at w;have B:pV rs as' j (some s)=some t:=a7a w;unfold pV at B;dsimp only at B;split at B;rename_i b hb;obtain⟨k2,C,T⟩:=iW hb;obtain rfl:=uU hc k2 X j C hk';rw[R]at T;cases T;have:=a7a B;rw[a4i hm]at this;exact this.symm;rename_i hb
     -- no argument at all: the lists part in length
     exfalso;have:∀ {rs:List Res} {as:List Sl} {kk:Nat} {a:Sl},rs[kk]? = some (.slot j)->as[kk]? = some a->nQ j rs as≠none:=by
      intro rs
      induction rs with
      | nil=>intro as kk a h;simp at h
      | cons r rs ih=>
        intro as kk a h h';cases as with
        | nil=>simp at h'
        | cons b as=>
          cases kk with
          | zero=>simp at h;subst h;simp[nQ]
          | succ kk=>
            have:=ih (as:=as) (kk:=kk) (a:=a) (by simpa using h) (by simpa using h');cases r with
            | slot i=>simp only[nQ];split;exact λz=>nomatch z;exact this
            | val d=>exact this
            | own d=>exact this
     exact this hk' R hb
    subst ht;have h5:=(eG (s:=a2) (by rw[h2,am];exact λz=>nomatch z)).mp h4;exact(eG (s:=⟨s.m,a2.d⟩) (kB hm)).mpr h5
   ·have ht:t=s:=by
     rcases hc' with h | ⟨hm,X,a,R,_⟩;exact h;exact absurd ⟨hm,X,R⟩ K
    rw[ht];refine rw'.mono extA λp o ep m hp=>po.fr p o hp ?_;exact quiet j s t p f w ht m (by rw[ew,ep]) λX hm hk=>K ⟨hm,X,hk⟩
  ·obtain⟨s,f,O,_⟩:=back j t w;obtain⟨s',I,mm',_⟩:=back l t' el;exact x.dis j l s s' q n f I (by rw[← O];exact m) (by rw[← mm'];exact m') eq eq'
  ·obtain⟨s,f,O,_⟩:=back j t w;exact x.own j s q f (O.symm.trans m) eq
  ·obtain⟨s,f,O,_⟩:=back j t w;exact x.par j s q f (O.symm.trans m) eq
  ·refine po.fr a o (x.keep a o e n) λz=>?_;rcases L a z with⟨j,s,f,m,G⟩ | ⟨_,_,z0⟩
   ·cases hq:s.m with
    | own=>rw[x.own j s a f hq G]at e;cases e
    | par=>exact n (x.par j s a f hq G)
    | val=>rw[hq]at m;cases m
    | lent=>rw[hq]at m;cases m
   ·rw[z0]at e;cases e
 have stB:Step σ σV H (lJ rs as' 0 c) σV H2:=by
  refine⟨λa o e n=>?_,λa e=>D.dom a (po.dom a e),λa ⟨j,t,w,m,A⟩=>?_,λa ⟨j,t,w,m,A⟩=>?_,λj t w=>?_,λj t w m=>?_,λj t w m=>?_⟩
  ·refine po.fr a o (D.fr a o e n) λz=>?_;rcases L a z with y | ⟨y,_⟩;rcases D.mu a y with y | y;exact n y;rw[e]at y;cases y;rw[e]at y;cases y
  ·obtain⟨s,f,O,_⟩:=back j t w;exact D.mu a ⟨j,s,f,by rw[← O];exact m,A⟩
  ·obtain⟨s,f,O,_⟩:=back j t w;exact D.nv a ⟨j,s,f,by rw[← O];exact m,A⟩
  ·obtain⟨s,f⟩:=D.kp j t w;obtain⟨t',R,_⟩:=fwd j s f;exact⟨t',R⟩
  ·obtain⟨s,f,C,T,Z⟩:=D.fix j t w m;obtain⟨t',R,h2,h3⟩:=fwd j s f;refine⟨t',R,h2.trans C,λz=>?_,Z⟩;rw[h3 (by rw[C,z];rfl)];exact T z
  ·obtain⟨s,f,O,_⟩:=back j t w;exact D.lt j s f (O.symm.trans m)
 refine⟨okB,?_,stB,nw.frh.back D⟩;cases r with
 | val d=>exact nw
 | own d=>
   obtain⟨p,C,T,Z⟩:=nw;refine⟨p,C,Z,λZ0=>?_,x.dom p T⟩;obtain⟨j,t,w,m,A⟩:=Z0;obtain⟨s,f,O,_⟩:=back j t w;obtain⟨o,ho,_⟩:=x.mutObj ⟨j,s,f,by rw[← O];exact m,A⟩;rw[T]at ho;cases ho
 | slot i=>exact nw.elim
def bQ2{Γ:Gm}{n:Nat}{run:Run}{g:DA}{E:XK}{σV:St}{H:Hp}{Q:VK}(h:dTE Γ (bH n run g) σV H Q):bF8 (dsp n run) [] E (dTA Γ g) σV H Q:=by
 obtain⟨σ,ok,res,σ',e,k⟩:=h;obtain⟨⟨rs,a⟩,l,e⟩:=aC e;obtain⟨as,i,e⟩:=aC e;dsimp only at e;split at e
 case isFalse=>cases e
 case isTrue b=>
 obtain⟨⟨r,as'⟩,m,e⟩:=aC e;cases e;dsimp only at i b k;refine⟨σ,ok,rs,a,l,λvs o d p f q=>?_⟩;show dsp n run (vs++[]) o Q E;rw[a4g];obtain⟨s,c⟩:=aN6 i b.2 d p f q;refine⟨as,r,as',s,b.1,m,λv j po t=>?_⟩;obtain⟨u,w,x,y⟩:=c r as' v j po t;exact k v j u w x y
def aU{X:Cx}{e:Expr}{n:Nat}{run:Run}{a:DA}{E:XK}(h:∀ Γ,PE X e (bF8 (dsp n run) [] E (dTA Γ a))):GE X e (bH n run a):=.mk λΓ=>peW (h Γ) λ_ _ _=>bQ2
section
variable{X:Cx}
def zJ(i j:Int):Prop:=dE5 i j\/(Builtin.Int.intBits i<=2 ^ 20/\Builtin.Int.intBits j<=2 ^ 20)
theorem zJ.ok{i j:Int}(h:zJ i j):IntMulOk i j:=by
 rcases h with h | h;exact h.ok;exact IntMulOk.of_bits h.1 h.2
def cU1:OpR X (binaryOp .Mult) (rI zJ λi j=>.int (i*j)):=opI λ_ _ _ _ _ _ _ a q=>PyProof.Rows.mul_int q a.ok
end
noncomputable section
open Classical
noncomputable def ii(f:Int->Int->D):F2:=λd e=>match d,e with
 | .int i,.int j=>some (.val (f i j))
 | _,_=>none
noncomputable def iiC(C:Int->Int->Prop)(f:Int->Int->D):F2:=λd e=>match d,e with
 | .int i,.int j=>if C i j then some (.val (f i j))else none
 | _,_=>none
noncomputable def iu(f:Int->D):F1:=λd=>match d with
 | .int i=>some (.val (f i))
 | _=>none
end
def bB3{g:Int->Int->V}{f:Int->Int->D}(h:∀ H i j,Rp H (f i j) (g i j)):aA6 (rI0 g) (ii f):=by
 intro H a b x y Q res v1 v2 e k;unfold ii at e;split at e;cases e;obtain rfl:=fD v1;obtain rfl:=fD v2;exact⟨_,_,rfl,rfl,k _ H (.refl _) (h H _ _)⟩;cases e
def aV5{C:Int->Int->Prop}{g:Int->Int->V}{f:Int->Int->D}(h:∀ H i j,Rp H (f i j) (g i j)):aA6 (rI C g) (iiC C f):=by
 intro H b c x y Q res v1 v2 e k;unfold iiC at e;split at e;split at e;rename_i a;cases e;obtain rfl:=fD v1;obtain rfl:=fD v2;exact⟨_,_,rfl,rfl,a,k _ H (.refl _) (h H _ _)⟩;cases e;cases e
def dJ0{g:Int->V}{f:Int->D}(h:∀ H i,Rp H (f i) (g i)):dA9 (rU g) (iu f):=by
 intro H d x Q res v1 e k;unfold iu at e;split at e;cases e;obtain rfl:=fD v1;exact⟨_,rfl,k _ H (.refl _) (h H _)⟩;cases e
noncomputable def dJ1:F2:=ii λi j=>.int (i-j)
noncomputable def bB4:F2:=iiC (λ_ j=>0 < j) λi j=>.int (i % j)
noncomputable def dS9:F2:=iiC dA7 λi j=>.int (i ^ j.toNat)
noncomputable def ltI:F2:=ii λi j=>.bl (decide (i < j))
noncomputable def gtI:F2:=ii λi j=>.bl (decide (j < i))
noncomputable def geI:F2:=ii λi j=>.bl (decide (j<=i))
noncomputable def dB3:F1:=iu λi=>.int (-i)
def bQ3:aA6 (rI0 λi j=>.int (i-j)) dJ1:=bB3 λ_ _ _=>.int _
def jC:aA6 (rI (λ_ j=>0 < j) λi j=>.int (i % j)) bB4:=aV5 λ_ _ _=>.int _
def cU2:aA6 (rI dA7 λi j=>.int (i ^ j.toNat)) dS9:=aV5 λ_ _ _=>.int _
def xI:aA6 (rI0 λi j=>.bl (decide (i < j))) ltI:=bB3 λ_ _ _=>.bl _
def pB:aA6 (rI0 λi j=>.bl (decide (j < i))) gtI:=bB3 λ_ _ _=>.bl _
def cU3:aA6 (rI0 λi j=>.bl (decide (j<=i))) geI:=bB3 λ_ _ _=>.bl _
def aV6:dA9 (rU λi=>.int (-i)) dB3:=dJ0 λ_ _=>.int _
section
variable{X:Cx}{pins:List (Addr×Obj)}{σ:St}{H:Hp}{s:Shared}{l:Addr}{xs:List V}
def aG8(I:Inv X pins σ H s)(h:gR H l=some (true,xs)):xs.length<=sizeLine/\∃ (a:List Value) (n:Nat),cQ xs a/\xs.length=a.length/\s.heap.get? l=some {cls:=.type "list",data:=.seq a.toArray n}:=by
 unfold gR at h;split at h;rename_i e;cases h;exact I.lstM e;cases h;rename_i o ys e;cases h;obtain⟨_,z,a,n,r,e⟩:=I.hok l _ e;exact⟨z,a,n,r,r.length,e⟩;cases h
end
def dJ2:R2:=λx y H Q=>∃ l b xs zs,x=.ref l/\y=.ref b/\gR H l=some (true,xs)/\gR H b=some (true,zs)/\xs.length+zs.length<=sizeLine/\∀ p,H p=none->Q (.ref p) (upd H p (.lst (xs++zs)))
def cU4{X:Cx}:OpR X (binaryOp .Add) dJ2:=by
 intro pins s σ H x y v u Q I d f h;obtain⟨l,b,xs,p,rfl,rfl,g,i,t,q⟩:=h;cases d;cases f;obtain⟨z,c,n,r,w,e⟩:=aG8 I g;obtain⟨A,a,n2,j,k,m⟩:=aG8 I i;refine PySem.P.add_list e m ?_ (by rw[a1b,a1b];lia);have o:c.toArray++a.toArray=(c++a).toArray:=by simp
 rw[o];exact⟨.ref _,_,I.lnew (t':=s.toks) (r.append j) (by rw[a3b];lia),rfl,q _ I.fresh⟩
def dJ3:R2:=λx y H Q=>cC2 x y H Q\/dJ2 x y H Q
def bL{X:Cx}:OpR X (binaryOp .Add) dJ3:=bA2.or cU4
noncomputable def jK:F2:=λd e=>match d,e with
 | .int i,.int j=>some (.val (.int (i+j)))
 | .str a,.str b=>if a.length+b.length<=sizeLine then some (.val (.str (a++b)))else none
 | .lst l,.lst m=>if l.length+m.length<=sizeLine then some (.own (.lst (l++m)))else none
 | .tup l,.tup m=>if l.length+m.length<=sizeLine then some (.val (.tup (l++m)))else none
 | _,_=>none
def aG9{H:Hp}{p:Addr}{xs:List V}{l:List D}(a:H p=none)(r:Rps H l xs):aU8 H (upd H p (.lst xs)) (.own (.lst l)) (.ref p):=⟨p,rfl,a,xs,aR,r.mono (.same (bU a))⟩
def aV7{H:Hp}{p:Addr}{xs:List V}{l:List D}(a:H p=none)(r:Rps H l xs):aU8 H (upd H p (.tup xs)) (.val (.tup l)) (.ref p):=.tup aR (r.mono (.same (bU a)))
def bM:aA6 dJ3 jK:=by
 intro H o s x y Q res v1 v2 e k;unfold jK at e;split at e;cases e;obtain rfl:=fD v1;obtain rfl:=fD v2;exact .inl (k _ H (.refl _) (.int _));split at e;rename_i g;cases e;obtain rfl:=nN v1;obtain rfl:=nN v2;exact .inl ⟨g,k _ H (.refl _) (.str _)⟩;cases e;split at e;rename_i l m g;cases e;obtain⟨p,xs,rfl,d,a⟩:=iM v1;obtain⟨q,ys,rfl,f,b⟩:=iM v2;have:=a.length;have:=b.length;exact .inr ⟨p,q,xs,ys,rfl,rfl,d,f,by lia,λr c=>k _ _ (bU c) (aG9 c (a.append b))⟩;cases e
 ·split at e;rename_i l m g;cases e;obtain⟨p,xs,rfl,d,a⟩:=gO v1;obtain⟨q,ys,rfl,f,b⟩:=gO v2;have j:=a.length;have n:=b.length;refine .inl (.inr ⟨xs,ys,dS d,dS f,by lia,λh=>?_,λh i=>?_,λh i r c=>k _ _ (bU c) (aV7 c (a.append b))⟩);subst h;have:l=[]:=List.eq_nil_of_length_eq_zero j;subst this;exact k _ H (.refl _) (.tup f b);subst i;have:m=[]:=List.eq_nil_of_length_eq_zero n;subst this;rw[a4g]at k;exact k _ H (.refl _) (.tup d a);cases e
 ·cases e
noncomputable section
open Classical
noncomputable def aV8:F2:=λd e=>match d,e with
 | .int i,.int j=>if zJ i j then some (.val (.int (i*j)))else none
 | .str z,.int i=>if z.length<=1000/\0<=i/\i<=1000 then some (.val (.str (Txt.mul z i)))else none
 | _,_=>none
end
def dJ4:R2:=λx y H Q=>rI zJ (λi j=>.int (i*j)) x y H Q\/cS8 x y H Q
def jU{X:Cx}:OpR X (binaryOp .Mult) dJ4:=cU1.or dH8
def jV:aA6 dJ4 aV8:=by
 intro H b c x y Q res v1 v2 e k;unfold aV8 at e;split at e;split at e;rename_i a;cases e;obtain rfl:=fD v1;obtain rfl:=fD v2;exact .inl ⟨_,_,rfl,rfl,a,k _ H (.refl _) (.int _)⟩;cases e;split at e;rename_i a;cases e;obtain rfl:=nN v1;obtain rfl:=fD v2;exact .inr ⟨a.1,a.2.1,a.2.2,λy _ e=>by subst e;exact k _ H (.refl _) (.str _)⟩;cases e;cases e
noncomputable def ixD:F2:=λd e=>match d,e with
 | .lst l,.int i=>(atI l i).map .val
 | .tup l,.int i=>(atI l i).map .val
 | .str z,.int i=>if z.length<=sizeLine then(atI z.cps.toList i).map λc=>.val (.str ⟨#[c]⟩)else none
 | _,_=>none
theorem Rps.atI{H:Hp}{l:List D}{xs:List V}{i:Int}{d:D}(r:Rps H l xs)(h:L2.atI l i=some d):∃ x,L2.atI xs i=some x/\Rp H d x:=by
 unfold L2.atI at h ⊢;obtain⟨j,a,b⟩:=aC h;rw[← r.length,a];exact r.get b
def dJ5:aA6 dW6 ixD:=by
 intro H j l x y Q res v1 v2 e k;unfold ixD at e;split at e;obtain rfl:=fD v2;obtain⟨p,xs,rfl,f,g⟩:=iM v1;obtain⟨d,a,b⟩:=a6c.mp e;cases b;obtain⟨x,h,r⟩:=g.atI a;exact⟨x,bN9 f h,k _ H (.refl _) r⟩;obtain rfl:=fD v2;obtain⟨p,xs,rfl,f,g⟩:=gO v1;obtain⟨d,a,b⟩:=a6c.mp e;cases b;obtain⟨x,h,r⟩:=g.atI a;exact⟨x,bN9 (dS f) h,k _ H (.refl _) r⟩;split at e;rename_i i;obtain rfl:=fD v2;obtain rfl:=nN v1;obtain⟨c,a,b⟩:=a6c.mp e;cases b;exact⟨_,cS4 i a,k _ H (.refl _) (.str _)⟩;cases e;cases e
def eJ{X:Cx}{a b:Expr}{c d:DE}{pos:Pos}(ha:GE X a c)(e:GE X b d)(f:bM7 b):GE X (.Subscript a b pos) (aY ixD c d):=.mk λΓ=>peW (dF5 dW7 (ha.to Γ) (e.to Γ) f) λ_ _ _=>pR dJ5
noncomputable def uQ:FN:=λa=>match a with
 | [.lst l]=>some (.val (.int l.length))
 | [.tup l]=>some (.val (.int l.length))
 | [.str z]=>if z.length<=sizeLine then some (.val (.int z.length))else none
 | _=>none
def aV9{H:Hp}{d:D}{vs:List V}(h:Vws H [d] vs):∃ x,vs=[x]/\Vw H d x:=by
 cases h with
 | cons a t=>cases t;exact⟨_,rfl,a⟩
def dZ9{H:Hp}{d e:D}{vs:List V}(h:Vws H [d,e] vs):∃ x y,vs=[x,y]/\Vw H d x/\Vw H e y:=by
 cases h with
 | cons a t=>
   obtain⟨y,rfl,b⟩:=aV9 t;exact⟨_,_,rfl,a,b⟩
def cS:bA5 cB4 uQ:=by
 intro H d vs Q res vw e k;unfold uQ at e;split at e;cases e;obtain⟨x,rfl,v⟩:=aV9 vw;obtain⟨p,xs,rfl,a,b⟩:=iM v;refine⟨_,_,rfl,aF5 a,?_⟩;rw[← b.length];exact k _ H (.refl _) (.int _);cases e;obtain⟨x,rfl,v⟩:=aV9 vw;obtain⟨p,xs,rfl,a,b⟩:=gO v;refine⟨_,_,rfl,aF5 (dS a),?_⟩;rw[← b.length];exact k _ H (.refl _) (.int _);split at e;rename_i c;cases e;obtain⟨x,rfl,v⟩:=aV9 vw;obtain rfl:=nN v;exact⟨_,_,rfl,cB7 c,k _ H (.refl _) (.int _)⟩;cases e;cases e
noncomputable def aL0(l:List D)(lo hi:Option Int):List D:=(l.drop (HT.sIx l.length 0 lo)).take (HT.sIx l.length l.length hi-HT.sIx l.length 0 lo)
def Rps.cut{H:Hp}{l:List D}{xs:List V}(r:Rps H l xs)(lo hi:Option Int):Rps H (aL0 l lo hi) (aT7 xs lo hi):=by
 unfold aL0 aT7;rw[r.length];exact(r.drop _).take _
def bQ4{xs:List V}{lo hi:Option Int}(h:HT.sIx xs.length 0 lo=0/\HT.sIx xs.length xs.length hi=xs.length):aT7 xs lo hi=xs:=by
 unfold aT7;rw[h.1,h.2];simp
end Dv
namespace HT
open PySem PySem.Spec PyProof.Rows
section
variable{prog:Program}{w:World}{A:Around}{E:Value->Shared->Prop}{s:Shared}
def getItem_tuple_all{t sl:Addr}{items:Array Value}{f g:Value}{lo hi:Option Int}{Q:Value->Shared->Prop}(a:IsTup s.heap t items)(i:s.heap.IsSliceOf sl f g .none)(k:IsPart f lo)(l:IsPart g hi)
  (j:sIx items.size 0 lo=0/\sIx items.size items.size hi=items.size) (h:Q (.ref t) s):wpAny (model prog w) A (getItem (.ref t) (.ref sl)) Q E s:=by
 obtain⟨os,c,d,m⟩:=id i;have e:s.TypeIs (.ref sl) "slice":=⟨os,c,d⟩;unfold getItem
 try with_reducible refine a4p ?_
 first | refine a3Z (a4l ?_) | skip
 refine a3Z (wpAny_sequenceKey a.typeIs (by decide) ?_);refine a3Z (wpAny_callSpecial?_slot (name:=Str.ofString "__getitem__") a.typeIs a0f
  (a4x a0f a.typeIs entry_tuple_getitem ?_ (args_tuple_getitem _ _)))
 show wpAny _ _ (Builtin.Tuple.tupleItemsOf (.ref t) >>= _) _ _ s;refine a3Z (tupleItemsOf_ a ?_);refine a3Z (a4H e ?_);rw[a4i (by decide)];refine a3Z (mY i k l ?_);have b:(((sIx items.size 0 lo:Nat):Int)==0&&(1:Int)==1&&(sIx items.size items.size hi-sIx items.size 0 lo)==items.size)=true:=by
  rw[j.1,j.2];simp
 show wpAny _ _ (if(((sIx items.size 0 lo:Nat):Int)==0&&(1:Int)==1&&(sIx items.size items.size hi-sIx items.size 0 lo)==items.size)=true then _ else _) _ _ s;rw[a4i b];refine a3Z ?_;unfold Builtin.Tuple.tupleIsExact;refine a3Z (a4H a.typeIs (a4l ?_));rw[a4i (by decide)];refine a3Z (a4L ?_);exact a4l ⟨_,rfl,a4l h⟩
end
end HT
namespace Dv
open PySem L2
def dX5:V->Option Int->Option Int->Hp->VK->Prop:=λx lo hi H Q=>match x with
 | .str z=>z.length<=sizeLine/\Q (.str (Txt.slice z lo hi)) H
 | .ref p=>(∃ xs,gR H p=some (true,xs)/\∀ r,H r=none->Q (.ref r) (upd H r (.lst (aT7 xs lo hi)))) \/
   ∃ xs,gR H p=some (false,xs)/\(aT7 xs lo hi=xs->Q (.ref p) H)/\∀ r,H r=none->Q (.ref r) (upd H r (.tup (aT7 xs lo hi)))
 | _=>False
def eA0{X:Cx}:SlR X dX5:=by
 intro pins s σ H x v f g lo hi sl Q I b c d e h;unfold dX5 at h;split at h;rename_i z;exact dS1 pins s σ H _ v f g lo hi sl Q I b c d e h
 ·rename_i p;rcases h with h | ⟨xs,k,m,n⟩;exact dS1 pins s σ H _ v f g lo hi sl Q I b c d e (.inl h);by_cases i:HT.sIx xs.length 0 lo=0/\HT.sIx xs.length xs.length hi=xs.length
  ·cases b;obtain⟨j,r,l,o⟩:=I.tuple (eP k);have a:j.toArray.size=xs.length:=by rw[a1b];exact r.length.symm
   refine⟨"tuple",_,a0f.lookup,l.typeIs,?_⟩;exact HT.getItem_tuple_all l c d e (by rw[a];exact i) ⟨.ref p,H,I,rfl,m (bQ4 i)⟩
  ·exact dS1 pins s σ H _ v f g lo hi sl Q I b c d e (.inr ⟨xs,k,i,n⟩)
 ·exact h.elim
abbrev DO:=Sg->Option (Option Int×Sg)
def dTO(Γ:Gm)(r:DO):TO:=λσV H Q=>∃ σ,StOk Γ H σ σV/\∃ o σ',r σ=some (o,σ')/\∀ H',StOk Γ H' σ' σV->Step σ σV H σ' σV H'->Q o H'
structure GO(X:Cx)(e:Option Expr)(r:DO):Prop where
 to:∀ Γ,PO X e (dTO Γ r)
def poW{X:Cx}{e:Option Expr}{t t':TO}(h:PO X e t)(w:∀ σ H Q,t' σ H Q->t σ H Q):PO X e t':=λpins s σ H Q I q=>h pins s σ H Q I (w σ H Q q)
noncomputable def aH0:DO:=λσ=>some (none,σ)
noncomputable def dP(r:DE):DO:=λσ=>(r σ).bind λx=>(rd x.2 x.1).bind λd=>match d with
 | .int i=>some (some i,x.2)
 | _=>none
def gX{X:Cx}:GO X none aH0:=.mk λΓ=>poW cR3 λσV H Q Z1=>by obtain⟨σ,ok,o,σ',e,k⟩:=Z1;cases e;exact k H ok .refl
def fR{X:Cx}{e:Expr}{r:DE}(h:GE X e r):GO X (some e) (dP r):=.mk λΓ=>poW (cR4 (h.to Γ)) λσV H Q ⟨σ,ok,o,σ',e,k⟩=>by
 obtain⟨⟨x,c⟩,f,e⟩:=aC e;obtain⟨d,g,e⟩:=aC e;dsimp only at e;split at e;cases e;exact⟨σ,ok,x,_,f,λv i a j b _=>⟨_,fD (j.vw a g),k i a b⟩⟩;cases e
noncomputable def slD(d:D)(lo hi:Option Int):Option Res:=match d with
 | .str z=>if z.length<=sizeLine then some (.val (.str (Txt.slice z lo hi)))else none
 | .lst l=>some (.own (.lst (aL0 l lo hi)))
 | .tup l=>some (.val (.tup (aL0 l lo hi)))
 | _=>none
noncomputable def dSl(r:DE)(a b:DO):DE:=λσ=>(r σ).bind λx=>(a x.2).bind λy=>(b y.2).bind λz=>(rd z.2 x.1).bind λd=>(slD d y.1 z.1).bind λw=>some (w,z.2)
def eQ{X:Cx}{e:Expr}{lo hi:Option Expr}{B pos:Pos}{r:DE}{a b:DO}(C:GE X e r)(ha:GO X lo a)(D:GO X hi b):GE X (.Subscript e (.Slice lo hi none B) pos) (dSl r a b):=.mk λΓ=>peW (cA7 eA0 (C.to Γ) (ha.to Γ) (D.to Γ)) λσV H Q ⟨σ,ok,res,σ',e,k⟩=>by
 obtain⟨⟨x,i⟩,E,e⟩:=aC e;obtain⟨⟨lo,j⟩,F,e⟩:=aC e;obtain⟨⟨hi,y⟩,G,e⟩:=aC e;obtain⟨d,I,e⟩:=aC e;obtain⟨w,c,e⟩:=aC e;cases e;refine⟨σ,ok,x,i,E,λv M l J m _=>⟨i,l,lo,j,F,λN n f=>⟨j,n,hi,y,G,λs g h=>?_⟩⟩⟩;have vw:=((J.step l f).step n h).vw g I;have fin:∀ v H',aF2 s H'->aU8 s H' res v->Q v H':=λv H' z A=>k v H' (g.same z) (A.res g) (((m.trans f).trans h).trans (.same z)) (A.frh.back ((m.trans f).trans h));dsimp only at c;unfold slD at c;split at c;split at c;rename_i K;cases c;obtain rfl:=nN vw;exact⟨K,fin _ s (.refl _) (.str _)⟩;cases c;cases c;obtain⟨p,xs,rfl,t,u⟩:=iM vw;exact .inl ⟨xs,t,λq o=>fin _ _ (bU o) (aG9 o (u.cut lo hi))⟩;cases c;obtain⟨p,xs,rfl,t,u⟩:=gO vw;refine .inr ⟨xs,dS t,λL=>fin _ s (.refl _) ?_,λq o=>fin _ _ (bU o) (aV7 o (u.cut lo hi))⟩;have:=u.cut lo hi;rw[L]at this;exact .tup t this;cases c
def dJ6(K:W.Frag):List V->Hp->VK->Prop:=λxs H Q=>∃ (a:Addr) (bs:List Bool),xs=[.ref a]/\SqL K H a (bs.map V.bl)/\Q (.bl (bs.all id)) H
noncomputable def aN7:List D->Option (List Bool)
 | []=>some []
 | .bl b::r=>(aN7 r).bind λbs=>some (b::bs)
 | _=>none
theorem aH1:∀ {l:List D} {bs:List Bool},aN7 l=some bs->l=bs.map D.bl
 | [],_,h=>by cases h;rfl
 | .bl b::r,_,h=>by
   obtain⟨bs,a,e⟩:=aC h;cases e;rw[aH1 a];rfl
 | .non::_,_,h=>by cases h
 | .int _::_,_,h=>by cases h
 | .str _::_,_,h=>by cases h
 | .tup _::_,_,h=>by cases h
 | .lst _::_,_,h=>by cases h
 | .dic _ _::_,_,h=>by cases h
def aN8(bs:List Bool):aN7 (bs.map D.bl)=some bs:=by
 induction bs with
 | nil=>rfl
 | cons b r a=>show(aN7 (r.map D.bl)).bind _=_;rw[a];rfl
noncomputable def bZ5:FN:=λa=>match a with
 | [.lst l]=>(aN7 l).map λbs=>.val (.bl (bs.all id))
 | _=>none
def uV{K:W.Frag}:bA5 (dJ6 K) bZ5:=by
 intro H f vs Q res vw e k;unfold bZ5 at e;split at e;obtain⟨bs,c,d⟩:=a6c.mp e;cases d;obtain⟨x,rfl,v⟩:=aV9 vw;obtain⟨p,xs,rfl,a,b⟩:=iM v;rw[aH1 c]at b;rw[b.bls_inv]at a;exact⟨p,bs,rfl,fB a,k _ H (.refl _) (.bl _)⟩;cases e
def kJ{X:Cx}(K:W.Frag)(a:X.K=K)(b:X.calm=true):jL X (.builtin "all") (dJ6 K):=by rw[← a];exact cB2 b
noncomputable def cD5:FN:=λa=>match a with
 | [.int i,.int j]=>some (.val (.int (if j < i then j else i)))
 | _=>none
def cD6:bA5 (λxs H Q=>∃ i j,xs=[.int i,.int j]/\Q (.int (if j < i then j else i)) H) cD5:=by
 intro H c vs Q res vw e k;unfold cD5 at e;split at e;cases e;obtain⟨x,y,rfl,a,b⟩:=dZ9 vw;obtain rfl:=fD a;obtain rfl:=fD b;exact⟨_,_,rfl,k _ H (.refl _) (.int _)⟩;cases e
noncomputable def dJ7:FN:=λa=>match a with
 | [.int i]=>some (.val (.int i))
 | [.bl b]=>some (.val (.int (if b then 1 else 0)))
 | _=>none
def aW0:bA5 (λxs H Q=>(∃ i,xs=[.int i]/\Q (.int i) H)\/∃ k,xs=[.bl k]/\Q (.int (if k then 1 else 0)) H) dJ7:=by
 intro H b vs Q res vw e k;unfold dJ7 at e;split at e;cases e;obtain⟨x,rfl,a⟩:=aV9 vw;obtain rfl:=fD a;exact .inl ⟨_,rfl,k _ H (.refl _) (.int _)⟩;cases e;obtain⟨x,rfl,a⟩:=aV9 vw;obtain rfl:=aM9 a;exact .inr ⟨_,rfl,k _ H (.refl _) (.int _)⟩;cases e
noncomputable def aH2:FN:=λa=>match a with
 | [.lst l]=>some (.own (.lst l))
 | [.tup l]=>some (.own (.lst l))
 | _=>none
def wM:bA5 cM3 aH2:=by
 intro H f vs Q res vw e k;unfold aH2 at e;split at e;cases e;obtain⟨x,rfl,a⟩:=aV9 vw;obtain⟨p,xs,rfl,c,d⟩:=iM a;exact⟨p,true,xs,rfl,c,λq b=>k _ _ (bU b) (aG9 b d)⟩;cases e;obtain⟨x,rfl,a⟩:=aV9 vw;obtain⟨p,xs,rfl,c,d⟩:=gO a;exact⟨p,false,xs,rfl,dS c,λq b=>k _ _ (bU b) (aG9 b d)⟩;cases e
noncomputable def bK4:FN:=λa=>match a with
 | [.lst l]=>some (.val (.tup l))
 | [.tup l]=>some (.val (.tup l))
 | _=>none
def pC:bA5 dH7 bK4:=by
 intro H f vs Q res vw e k;unfold bK4 at e;split at e;cases e;obtain⟨x,rfl,a⟩:=aV9 vw;obtain⟨p,xs,rfl,b,c⟩:=iM a;exact⟨p,true,xs,rfl,b,λq d=>k _ _ (bU d) (aV7 d c)⟩;cases e;obtain⟨x,rfl,a⟩:=aV9 vw;obtain⟨p,xs,rfl,b,c⟩:=gO a;exact⟨p,false,xs,rfl,dS b,k _ H (.refl _) (.tup b c)⟩;cases e
noncomputable def dT0:D->String
 | .non=>"NoneType"
 | .bl _=>"bool"
 | .int _=>"int"
 | .str _=>"str"
 | .lst _=>"list"
 | .tup _=>"tuple"
 | .dic _ _=>"dict"
noncomputable def dX6(c:String):F1:=λd=>match d with
 | .dic _ _=>none
 | d=>some (.val (.bl (aU5 (dT0 d) c)))
noncomputable def aT2:FM:=λd a=>match d,a with
 | .lst l,[e]=>if l.length < sizeLine then some (.lst (l++[e]),.non)else none
 | _,_=>none
def pD{H:Hp}{l:List D}{p:Addr}(h:fQ H (.lst l) p):∃ xs,H p=some (.lst xs)/\Rps H l xs:=h
def lK:dS8 bM8 aT2:=by
 intro H d p i vs Q d' e c r b k;unfold aT2 at b;split at b
 ·split at b
  ·rename_i l x g;cases b;obtain⟨xs,h,f⟩:=pD c;cases r with
   | cons a t=>
     cases t;exact⟨p,xs,_,rfl,rfl,h,by rw[← f.length];exact g,k _ _ ⟨_,aR,(f.append (.cons a .nil)).mono (fQ.ext c)⟩ .non⟩
  ·cases b
 ·cases b
noncomputable def bZ6:FM:=λd a=>match d,a with
 | .lst l,[.lst m]=>if l.length+m.length<=sizeLine then some (.lst (l++m),.non)else none
 | _,_=>none
def dJ8:V->List V->Hp->VK->Prop:=λx vs H Q=>∃ l b xs zs,x=.ref l/\vs=[.ref b]/\H l=some (.lst xs)/\gR H b=some (true,zs)/\xs.length+zs.length<=sizeLine/\Q .non (upd H l (.lst (xs++zs)))
def aH3{X:Cx}:MtM X "list.extend" dJ8:=by
 intro pins s σ H x vs v us Q I i j h;obtain⟨l,b,xs,w,rfl,rfl,g,k,y,q⟩:=h;cases i;obtain⟨u,rfl,m⟩:=j.one;cases m;obtain⟨z,c,n,r,A,e⟩:=I.lstM g;obtain⟨B,a,n2,o,p,t⟩:=aG8 I k;have f:c.toArray.size+a.toArray.size<=sizeLine:=by rw[a1b,a1b];lia
 have d:¬ (!c.toArray.isEmpty&&Builtin.List.listTooLong (c.toArray.size+a.toArray.size))=true:=by
  rw[aZ4 f,a9h];exact a9b
 refine a4A F.slot_list_extend ⟨_,e,rfl⟩ F.entry_list_extend (F.args_list_extend_2 _ _)
  (AutoSeq1.list_extend_list_list_0 l c.toArray n b a.toArray n2 d (by rw[a1b];lia) (by lia)) ⟨e,t,?_⟩
 refine⟨.non,_,I.lset (its':=c++a) g e (by simp) (r.append o) ?_,rfl,q⟩;rw[a3b];lia
def aH4:dX3 dJ8 bZ6:=by
 intro H d p j vs Q d' e c r b k;unfold bZ6 at b;split at b;split at b;rename_i l m n;cases b;obtain⟨xs,h,f⟩:=pD c;obtain⟨x,rfl,a⟩:=aV9 r;obtain⟨q,ys,rfl,i,g⟩:=iM a;have:=f.length;have:=g.length;exact⟨p,q,xs,ys,rfl,rfl,h,i,by lia,k _ _ ⟨_,aR,(f.append g).mono (fQ.ext c)⟩ .non⟩;cases b;cases b
noncomputable def aN9:FM:=λd a=>match d,a with
 | .lst l,[.int i]=>if -(2 ^ 63)<=i/\i < 2 ^ 63 then(ixN l.length i).bind λj=>(l[j]?).map λy=>(.lst (l.eraseIdx j),y)else none
 | _,_=>none
def bQ5:dS8 cK8 aN9:=by
 intro H d p q vs Q d' e c r b k;unfold aN9 at b;split at b
 ·split at b
  ·rename_i l i hi;obtain⟨j,g,b⟩:=aC b;obtain⟨y,h,m⟩:=a6c.mp b;cases m;obtain⟨xs,n,f⟩:=pD c;obtain⟨x,ex,o⟩:=f.get h;cases r with
   | cons a t=>
     cases t;cases a;exact⟨p,xs,i,j,x,rfl,rfl,n,hi.1,hi.2,by rw[← f.length];exact(aT8 g).1,ex,k _ _ ⟨_,aR,(f.eraseIdx j).mono (fQ.ext c)⟩ (o.mono (fQ.ext c))⟩
  ·cases b
 ·cases b
noncomputable def dP5(i:Int)(e:D):D->Option D
 | .lst l=>(ixN l.length i).map λj=>.lst (l.set j e)
 | _=>none
noncomputable def dJ9(k:Nat)(ri c:DE):DS:=λσ=>(c σ).bind λx=>match x.1 with
 | .val d=>if aU9 "list" k x.2=true then(ri x.2).bind λy=>(rd y.2 y.1).bind λe=>match e with
   | .int i=>(cC9 (λa _=>(dP5 i d a).map λb=>(b,.non)) k [] y.2).bind λz=>some (.nx z.2)
   | _=>none else none
 | _=>none
def cM8{X:Cx}{E:Ex}{st:Stmt}{k:Nat}{ri I:DE}(h:∀ Γ,PS X st (dA6 (dTE Γ I) (dW0 (cA2 k) (dTE Γ ri) dF8))):GS E X st (dJ9 k ri I):=.mk λΓ=>psW (h Γ) λD σV H ⟨σ,ok,o,e,N⟩=>by
 obtain⟨⟨x,f⟩,O,e⟩:=aC e;refine⟨σ,ok,x,f,O,λv H1 g P u f1=>?_⟩;cases x with
 | own d=>cases e
 | slot d=>cases e
 | val d=>
   have c:(if aU9 "list" k f=true then(ri f).bind λy=>(rd y.2 y.1).bind λJ=>match J with
    | .int i=>(cC9 (λa _=>(dP5 i d a).map λb=>(b,.non)) k [] y.2).bind λz=>some (.nx z.2)
    | _=>none else none)=some o:=e
   split at c
   ·rename_i hn;obtain⟨⟨y,w⟩,Q,c⟩:=aC c;obtain⟨J,R,c⟩:=aC c;obtain⟨s0,A,B,S⟩:=aG3 hn;obtain⟨p,C,ow⟩:=g.ownAt A B;dsimp only at c;split at c
    ·rename_i i;obtain⟨⟨z,T⟩,U,c⟩:=aC c;cases c;obtain⟨s,d',y',K,hm,V,rfl,rfl⟩:=pT U;obtain⟨b,L,W⟩:=a6c.mp V;cases W;refine⟨_,C,f,g,y,w,Q,λvi Y n Z q f2=>?_⟩;obtain rfl:=fD (Z.vw n R);obtain⟨p',r,t⟩:=n.ownAt K (kB hm);rw[C]at r;cases r;have rv:Rp Y d v:=Rp.mono (q.ext g) P;obtain⟨m,sd⟩:=s;cases sd with
     | lst l=>
       obtain⟨j,e8,e9⟩:=a6c.mp L;cases e9;obtain⟨xs,h1,M⟩:=pD t;refine⟨p,xs,i,j,rfl,rfl,h1,by rw[← M.length];exact e8,?_⟩;obtain⟨F,G⟩:=n.write (d':=.lst (l.set j d)) (o':=.lst (xs.set j v)) K hm C ⟨_,aR,(M.set j rv).mono (fQ.ext t)⟩;exact N _ _ F ((u.trans q).trans G)
     | _=>cases L
    ·cases c
   ·cases c
noncomputable def isD(neg:Bool):F2:=λd e=>match e with
 | .non=>some (.val (.bl (if neg then !decide (d=.non)else decide (d=.non))))
 | .bl b=>(match d with | .bl a=>some (.val (.bl (if neg then !decide (a=b)else decide (a=b)))) | _=>none)
 | _=>none
def bH2{H:Hp}{d:D}{v:V}(h:Vw H d v):decide (v=.non)=decide (d=.non):=by
 rcases h with h | ⟨p,rfl,h⟩;cases h<;>simp;cases d<;>first | exact h.elim | simp
def cM9{neg:Bool}:aA6 (dS4 neg) (isD neg):=by
 intro H a b x y Q res v1 v2 e k;unfold isD at e;split at e;cases e;obtain rfl:=bP4 v2;show Q (.bl (if neg then !decide (x=.non)else decide (x=.non))) H;rw[bH2 v1];exact k _ H (.refl _) (.bl _);split at e;cases e;obtain rfl:=aM9 v2;obtain rfl:=aM9 v1;exact k _ H (.refl _) (.bl _);cases e;cases e
def bH3(i j:Int):Prop:=0 < j/\j < 18446744073709551616
def bB5{X:Cx}:OpR X (binaryOp .FloorDiv) (rI bH3 λi j=>.int (i / j)):=opI λi j _ _ _ _ _ a q=>by
 have c:(0:Int) < j:=a.1;have d:j < 18446744073709551616:=a.2;refine PyProof.Rows.floordiv_int (by lia) (by rw[Int.fdiv_eq_ediv_of_nonneg i (by lia)];exact q) (.inl (PyProof.noPylong_of_log2 ?_));have h0:j.natAbs≠0:=by lia
 have b:j.natAbs.log2 < 64:=(Nat.log2_lt h0).mpr (by lia);lia
noncomputable def dP6:F2:=iiC bH3 λi j=>.int (i / j)
def bQ6:aA6 (rI bH3 λi j=>.int (i / j)) dP6:=aV5 λ_ _ _=>.int _
mutual
def oM:D->PyData
 | .non=>.none
 | .bl b=>.bool b
 | .int i=>.int i
 | .str x=>.str x
 | .tup l=>.tuple (toPys l)
 | .lst l=>.list (toPys l)
 | .dic _ _=>.dict []
def toPys:List D->List PyData
 | []=>[]
 | d::r=>oM d::toPys r
end
section
variable{X:Cx}{pins:List (Addr×Obj)}{σ:St}{H:Hp}{s:Shared}
mutual
theorem bB6(I:Inv X pins σ H s):∀ {d:D} {v:V} {u:Value},Rp H d v->fN v u->(oM d).canLay0=true->∃ as,Reads s.heap u (oM d) as
 | _,_,_,.non,r,_=>by cases r;exact⟨_,.none⟩
 | _,_,_,.bl b,r,_=>by cases r;exact⟨_,.bool b⟩
 | _,_,_,.int i,r,_=>by obtain⟨t,rfl⟩:=r;exact⟨_,.int i t⟩
 | _,_,_,.str x,r,_=>by obtain⟨t,rfl⟩:=r;exact⟨_,.str x t⟩
 | _,_,_,.tup h rs,r,a=>by
   cases r;obtain⟨_,c,f,⟨o,l,g,n,hd⟩,_⟩:=I.hok _ _ h;obtain⟨as,j⟩:=rps_reads I rs f a;exact⟨_,.tuple l g hd (by simpa using j)⟩
 | _,_,_,.lst h rs,r,a=>by
   cases r;obtain⟨_,_,c,n,f,e⟩:=I.hok _ _ h;obtain⟨as,j⟩:=rps_reads I rs f a;exact⟨_,.list e rfl rfl (by simpa using j)⟩
 | _,_,_,.dic h k rs,r,a=>nomatch a
theorem rps_reads(I:Inv X pins σ H s):∀ {l:List D} {vs:List V} {us:List Value},Rps H l vs->cQ vs us->PyData.canLayAll0 (toPys l)=true->∃ as,ReadsAll s.heap us (toPys l) as
 | [],_,_,.nil,r,_=>by cases r;exact⟨_,.nil⟩
 | d::l,_,_,.cons a t,r,c=>by
   cases r with
   | cons e f=>
     have b:(oM d).canLay0=true/\PyData.canLayAll0 (toPys l)=true:=by simpa[toPys,PyData.canLayAll0]using c
     obtain⟨as,g⟩:=bB6 I a e b.1;obtain⟨bs,h⟩:=rps_reads I t f b.2;exact⟨_,.cons g h⟩
end
def jP(I:Inv X pins σ H s){d:D}{v:V}{u:Value}(h:Vw H d v)(r:fN v u)(a:(oM d).canLay0=true):∃ as,Reads s.heap u (oM d) as:=by
 rcases h with h | ⟨p,rfl,h⟩;exact bB6 I h r a;cases r;cases d with
 | lst l=>
   obtain⟨xs,b,c⟩:=pD h;obtain⟨_,f,n,g,e⟩:=I.hok _ _ b;obtain⟨as,i⟩:=rps_reads I c g a;exact⟨_,.list e rfl rfl (by simpa using i)⟩
 | dic ks vs=>exact nomatch a
 | _=>exact h.elim
end
noncomputable def zK(d e:D):Bool:=PyData.eqv (oM d) (oM e)
noncomputable def nS(d:D):Bool:=(oM d).canLay0&&decide ((oM d).depth<=60)
def dT1(neg:Bool):R2:=λx y H Q=>∃ d e,Vw H d x/\Vw H e y/\nS d=true/\nS e=true/\Q (.bl (if neg then !zK d e else zK d e)) H
def iD{d:D}(h:nS d=true):(oM d).canLay0=true/\(oM d).depth<=60:=by
 unfold nS at h;rw[a3f,a4m]at h;exact h
def gP{X:Cx}(l:X.A.units+64 < cLine):OpR X (compareOp .Eq) (dT1 false):=by
 intro pins s σ H x y v u Q I c f h;obtain⟨d,e,v1,v2,g,i,q⟩:=h;obtain⟨a,m⟩:=iD g;obtain⟨b,n⟩:=iD i;obtain⟨as,j⟩:=jP I v1 c a;obtain⟨bs,k⟩:=jP I v2 f b;exact SeqAt.rcAt_reads j k a b (by lia) _ _ _ _ ⟨.bl _,H,I,rfl,q⟩
def nT{X:Cx}(l:X.A.units+64 < cLine):OpR X (compareOp .NotEq) (dT1 true):=by
 intro pins s σ H x y v u Q I c f h;obtain⟨d,e,v1,v2,g,i,q⟩:=h;obtain⟨a,m⟩:=iD g;obtain⟨b,n⟩:=iD i;obtain⟨as,j⟩:=jP I v1 c a;obtain⟨bs,k⟩:=jP I v2 f b;exact SeqAt.rcNeAt_reads j k a b (by lia) _ _ _ _ ⟨.bl _,H,I,rfl,q⟩
noncomputable def eqD(neg:Bool):F2:=λd e=>if nS d=true/\nS e=true then some (.val (.bl (if neg then !zK d e else zK d e)))else none
def dJ{neg:Bool}:aA6 (dT1 neg) (eqD neg):=by
 intro H b c x y Q res v1 v2 e k;unfold eqD at e;split at e;rename_i a;cases e;exact⟨b,c,v1,v2,a.1,a.2,k _ H (.refl _) (.bl _)⟩;cases e
def dT2(neg:Bool):R2:=λx y H Q=>(∃ i j,x=.str i/\y=.str j/\Q (.bl (if neg then(Builtin.Str.occurrences j i 0 j.length 1).isEmpty else !(Builtin.Str.occurrences j i 0 j.length 1).isEmpty)) H) \/
 ∃ d e b l,Vw H d x/\Vw H e y/\cC6 e=some (b,l)/\nS d=true/\nS e=true/\Q (.bl (if neg then !(l.any λy=>zK y d)else l.any λy=>zK y d)) H
theorem xJ(d:D):∀ l:List D,(toPys l).any (λy=>PyData.eqv y (oM d))=l.any λy=>zK y d
 | []=>rfl
 | e::r=>by show(PyData.eqv (oM e) (oM d)||(toPys r).any _)=_;rw[xJ d r];rfl
def aO0{e:D}{b:Bool}{l:List D}(h:cC6 e=some (b,l)):PyData.depthAll (toPys l)<=(oM e).depth/\((oM e).canLay0=true->PyData.canLayAll0 (toPys l)=true):=by
 cases e with
 | lst a=>cases h;exact⟨by show _<=PyData.depth (.list (toPys l));simp only[PyData.depth];lia,λz=>z⟩
 | tup a=>cases h;exact⟨by show _<=PyData.depth (.tuple (toPys l));simp only[PyData.depth];lia,λz=>z⟩
 | _=>cases h
def nU{X:Cx}(t:X.A.units+64 < cLine):OpR X (compareOp .In) (dT2 false):=by
 intro pins s σ H x y v u Q I g k h;rcases h with⟨i,j,rfl,rfl,q⟩ | ⟨d,e,b,l,v1,v2,a,o,p,q⟩;exact bM0 pins s σ H _ _ v u Q I g k ⟨_,_,rfl,rfl,by simpa using q⟩;obtain⟨c,w⟩:=iD o;obtain⟨f,z⟩:=iD p;obtain⟨as,m⟩:=jP I v1 g c;obtain⟨bs,n⟩:=jP I v2 k f;obtain⟨dp,cl⟩:=aO0 a;have fin:EP X pins σ Q (.bool ((toPys l).any λy=>PyData.eqv y (oM d))) s:=⟨.bl _,H,I,by rw[xJ];rfl,q⟩;cases e with
 | lst r=>cases a;exact SeqAt.in_list_reads n m (cl f) c (by lia) fin
 | tup r=>cases a;exact SeqAt.in_tuple_reads n m (cl f) c (by lia) fin
 | _=>cases a
def fZ{X:Cx}(t:X.A.units+64 < cLine):OpR X (compareOp .NotIn) (dT2 true):=by
 intro pins s σ H x y v u Q I g k h;rcases h with⟨i,j,rfl,rfl,q⟩ | ⟨d,e,b,l,v1,v2,a,o,p,q⟩;exact aL3 pins s σ H _ _ v u Q I g k ⟨_,_,rfl,rfl,by simpa using q⟩;obtain⟨c,w⟩:=iD o;obtain⟨f,z⟩:=iD p;obtain⟨as,m⟩:=jP I v1 g c;obtain⟨bs,n⟩:=jP I v2 k f;obtain⟨dp,cl⟩:=aO0 a;have fin:EP X pins σ Q (.bool (!(toPys l).any λy=>PyData.eqv y (oM d))) s:=⟨.bl _,H,I,by rw[xJ];rfl,q⟩;cases e with
 | lst r=>cases a;exact SeqAt.notIn_list_reads n m (cl f) c (by lia) fin
 | tup r=>cases a;exact SeqAt.notIn_tuple_reads n m (cl f) c (by lia) fin
 | _=>cases a
noncomputable def inD(neg:Bool):F2:=λd e=>match d,e with
 | .str i,.str j=>some (.val (.bl (if neg then(Builtin.Str.occurrences j i 0 j.length 1).isEmpty else !(Builtin.Str.occurrences j i 0 j.length 1).isEmpty)))
 | d,e=>match cC6 e with
   | some (_,l)=>if nS d=true/\nS e=true then some (.val (.bl (if neg then !(l.any λy=>zK y d)else l.any λy=>zK y d)))else none
   | none=>none
def fW{neg:Bool}:aA6 (dT2 neg) (inD neg):=by
 intro H c d x y Q res v1 v2 e k;unfold inD at e;split at e;cases e;obtain rfl:=nN v1;obtain rfl:=nN v2;exact .inl ⟨_,_,rfl,rfl,k _ H (.refl _) (.bl _)⟩;split at e;rename_i b l f;split at e;rename_i a;cases e;exact .inr ⟨c,d,b,l,v1,v2,f,a.1,a.2,k _ H (.refl _) (.bl _)⟩;cases e;cases e
def cU5(K:W.Frag):List V->Hp->VK->Prop:=λxs H Q=>∃ x c t,xs=[x,.ty c]/\TyOf K H x (.type t)/\(t="NoneType"\/t="int"\/t="bool"\/t="str"\/t="list"\/t="tuple") /\
 (c="int"\/c="bool"\/c="str"\/c="list"\/c="tuple")/\Q (.bl (aU5 t c)) H
def pW{X:Cx}(K:W.Frag)(a:X.K=K):jL X (.builtin "isinstance") (cU5 K):=by
 subst a;intro pins s σ H xs us Q I r h;obtain⟨x,c,t,rfl,ty,b,d,q⟩:=h;exact aU2 pins s σ H _ us Q I r ⟨x,c,.type t,_,rfl,ty,cC3 b d,q⟩
def bB7{X:Cx}{e:Expr}{r:DE}{c:String}(K:W.Frag)(a:c="int"\/c="bool"\/c="str"\/c="list"\/c="tuple")(h:∀ Γ,PE X e (tCB (cU5 K) (cA5 (dTE Γ r) (cA5 (tC (.ty c)) dR2)))):GE X e (bP3 (dX6 c) r):=.mk λΓ=>peW (h Γ) λσV H Q g=>by
 have j:dA9 (λx H Q=>cU5 K [x,.ty c] H Q) (dX6 c):=by
  intro H d x Q res v1 e k;cases d with
  | non=>cases e;obtain rfl:=bP4 v1;exact⟨_,_,_,rfl,.non,.inl rfl,a,k _ H (.refl _) (.bl _)⟩
  | bl b=>cases e;obtain rfl:=aM9 v1;exact⟨_,_,_,rfl,.bl b,.inr (.inr (.inl rfl)),a,k _ H (.refl _) (.bl _)⟩
  | int i=>cases e;obtain rfl:=fD v1;exact⟨_,_,_,rfl,.int i,.inr (.inl rfl),a,k _ H (.refl _) (.bl _)⟩
  | str i=>cases e;obtain rfl:=nN v1;exact⟨_,_,_,rfl,.str i,.inr (.inr (.inr (.inl rfl))),a,k _ H (.refl _) (.bl _)⟩
  | tup l=>cases e;obtain⟨p,xs,rfl,f,_⟩:=gO v1;exact⟨_,_,_,rfl,.tup f,.inr (.inr (.inr (.inr (.inr rfl)))),a,k _ H (.refl _) (.bl _)⟩
  | lst l=>
    cases e;rcases v1 with v1 | ⟨p,rfl,v1⟩
    ·cases v1 with
     | lst f _=>exact⟨_,_,_,rfl,.frz f,.inr (.inr (.inr (.inr (.inl rfl)))),a,k _ H (.refl _) (.bl _)⟩
    ·obtain⟨xs,f,_⟩:=pD v1;exact⟨_,_,_,rfl,.lst f,.inr (.inr (.inr (.inr (.inl rfl)))),a,k _ H (.refl _) (.bl _)⟩
  | dic ks vs=>cases e
 exact bA6 j g
def gE{X:Cx}{e:Expr}{r:DE}(h:GE X e r)(Γ:Gm):PE X e (dTE Γ r):=h.to Γ
def gA{X:Cx}{e:List Expr}{r:DA}(h:GA X e r)(Γ:Gm):PA X e (dTA Γ r):=h.to Γ
def gT{X:Cx}{e:Expr}{r:DT}(h:GT X e r)(Γ:Gm):PT X e (dTT Γ r):=h.to Γ
def gI{X:Cx}{tg e:Expr}{r:DI}(h:GI X tg e r)(Γ:Gm):PI X tg e (dTI Γ r):=h.to Γ
def gSs{X:Cx}{E:Ex}{e:List Stmt}{r:DS}(h:GSs E X e r)(Γ:Gm):PSs X e (dTS Γ E r):=h.to Γ
noncomputable def bQ7(K:W.Frag):Bool:=K.all λp=>match p.2.cls with
 | .type n=>!(n=="list")
 | _=>true
def cU6{K:W.Frag}{H:Hp}{a:Addr}{ns:List Int}(c:bQ7 K=true)(g:dG4 H)(b:SqL K H a (ns.map V.int)):ArgOk H [⟨.val,.lst (ns.map D.int)⟩] [.ref a]:=by
 have d:∃ o,H a=some (.frz o (.lst (ns.map V.int))):=by
  rcases b with b | ⟨o,k,n,q,u,_⟩
  ·rcases b with b | ⟨o,b⟩;rcases g a with z | ⟨o,xs,z⟩;rw[b]at z;cases z;rw[b]at z;cases z;exact⟨o,b⟩
  ·exfalso;unfold bQ7 at c;rw[a6g]at c;have hm:(a,o)∈K:=by
    clear c g;have:∀ (l:List (Addr×Obj)),List.lookup a l=some o->(a,o)∈l:=by
     intro l
     induction l with
     | nil=>intro h;simp at h
     | cons p r v=>
       intro h;rw[a5h]at h;split at h
       ·rename_i e;have:a=p.1:=by simpa using e
        cases h;rw[this];exact a3a
       ·exact a6a _ (v h)
    exact this K q
   have:=c _ hm;rw[u]at this;simp at this
 obtain⟨o,d⟩:=d;refine⟨rfl,λi s e=>?_,λi j s t p n f w m=>?_,λi s e=>?_⟩
 ·cases i with
  | zero=>simp at e;subst e;exact⟨_,rfl,.lst d (jN ns)⟩
  | succ i=>simp at e
 ·cases i with
  | zero=>simp at f;subst f;cases m
  | succ i=>simp at f
 ·cases i with
  | zero=>simp at e;subst e;exact λz=>nomatch z
  | succ i=>simp at e
def OK1{α:Type}(o:Option α)(K:α->Prop):Prop:=match o with
 | some a=>K a
 | none=>False
def RE(r:DE)(σ:Sg)(Q:Res->Sg->Prop):Prop:=OK1 (r σ) λx=>Q x.1 x.2
def RT(r:DT)(σ:Sg)(Q:Bool->Sg->Prop):Prop:=OK1 (r σ) λx=>Q x.1 x.2
def RA(r:DA)(σ:Sg)(Q:List Res->Sg->Prop):Prop:=OK1 (r σ) λx=>Q x.1 x.2
def RS(r:DS)(σ:Sg)(Q:Out->Prop):Prop:=OK1 (r σ) Q
def RI(r:DI)(σ:Sg)(Q:List D->Option Nat->Sg->Prop):Prop:=OK1 (r σ) λx=>Q x.1 x.2.1 x.2.2
def RO(r:DO)(σ:Sg)(Q:Option Int->Sg->Prop):Prop:=OK1 (r σ) λx=>Q x.1 x.2
theorem aX{α b:Type}{o:Option α}{f:α->Option b}{K:b->Prop}:OK1 (o.bind f) K=OK1 o λa=>OK1 (f a) K:=by cases o<;>rfl
theorem bV{α:Type}{a:α}{K:α->Prop}:OK1 (some a) K=K a:=rfl
def aO1{α b:Type}{o:Option α}{f:α->b}{K:b->Prop}:OK1 (o.map f) K=OK1 o λa=>K (f a):=by cases o<;>rfl
theorem cI{α:Type}{c:Prop}[Decidable c]{o:Option α}{K:α->Prop}:OK1 (if c then o else none) K=(c/\OK1 o K):=by
 by_cases h:c;rw[a4i h];exact propext ⟨λq=>⟨h,q⟩,λq=>q.2⟩;rw[a4j h];exact propext ⟨λq=>q.elim,λq=>h q.1⟩
def iE{α:Type}{o:Option α}{K:α->Prop}:OK1 o K↔∃ a,o=some a/\K a:=by
 cases o with
 | none=>exact⟨λq=>q.elim,λ⟨_,e,_⟩=>nomatch e⟩
 | some a=>exact⟨λq=>⟨a,rfl,q⟩,λZ1=>by obtain⟨_,e,q⟩:=Z1;cases e;exact q⟩
def cY{α:Type}{o:Option α}{K b:α->Prop}(h:OK1 o K)(w:∀ a,K a->b a):OK1 o b:=by
 cases o with
 | none=>exact h
 | some a=>exact w a h
def VK:Nat->Sg->Nat->Sg->(Res->Sg->Prop)->Prop
 | 0,some s::_,i,σ,Q=>Q (if s.m=.val then .val s.d else .slot i) σ
 | n+1,_::r,i,σ,Q=>VK n r i σ Q
 | _,_,_,_,_=>False
theorem dK0:∀ (n:Nat) (r:Sg) (i:Nat) (σ:Sg) (Q:Res->Sg->Prop),VK n r i σ Q=OK1 (match r[n]? with | some (some s)=>some (if s.m=.val then Res.val s.d else Res.slot i,σ) | _=>none) λx=>Q x.1 x.2
 | 0,[],_,_,_=>rfl
 | 0,none::_,_,_,_=>rfl
 | 0,some s::_,_,_,_=>rfl
 | n+1,[],_,_,_=>rfl
 | n+1,_::r,i,σ,Q=>by
   show VK n r i σ Q=_;rw[dK0 n r i σ Q,a2d]
def GK:Nat->Sg->(D->Prop)->Prop
 | 0,some s::_,K=>K s.d
 | n+1,_::r,K=>GK n r K
 | _,_,_=>False
theorem dK1:∀ (n:Nat) (r:Sg) (K:D->Prop),GK n r K=OK1 (match r[n]? with | some (some s)=>some s.d | _=>none) K
 | 0,[],_=>rfl
 | 0,none::_,_=>rfl
 | 0,some s::_,_=>rfl
 | n+1,[],_=>rfl
 | n+1,_::r,K=>by
   show GK n r K=_;rw[dK1 n r K,a2d]
def RD(σ:Sg)(r:Res)(K:D->Prop):Prop:=OK1 (rd σ r) K
def PK:Nat->Sg->Sl->(Sg->Prop)->Prop
 | 0,none::r,s,K=>K (some s::r)
 | 0,some ⟨.val,_⟩::r,s,K=>K (some s::r)
 | 0,some ⟨.own,_⟩::r,s,K=>K (some s::r)
 | n+1,o::r,s,K=>PK n r s λa=>K (o::a)
 | _,_,_,_=>False
def bH4{n:Nat}{o:Option Sl}{r:Sg}:gU (o::r) (n+1)=gU r n:=by unfold gU;rw[a2d]
theorem cD7:∀ (n:Nat) (r:Sg) (s:Sl) (K:Sg->Prop),PK n r s K=OK1 (if gU r n=true then some (r.set n (some s))else none) K
 | 0,[],s,K=>rfl
 | 0,none::r,s,K=>rfl
 | 0,some ⟨.val,_⟩::r,s,K=>rfl
 | 0,some ⟨.own,_⟩::r,s,K=>rfl
 | 0,some ⟨.par,_⟩::r,s,K=>rfl
 | 0,some ⟨.lent,_⟩::r,s,K=>rfl
 | n+1,[],s,K=>by
   show False=_;rw[cI];unfold gU;simp
 | n+1,o::r,s,K=>by
   show PK n r s (λa=>K (o::a))=_;rw[cD7 n r s _,cI,cI,bH4,List.set_cons_succ];rfl
def MK:Nat->Sg->FM->List D->(D->Sg->Prop)->Prop
 | 0,some ⟨.own,d⟩::r,f,ds,K=>OK1 (f d ds) λy=>K y.2 (some ⟨.own,y.1⟩::r)
 | 0,some ⟨.par,d⟩::r,f,ds,K=>OK1 (f d ds) λy=>K y.2 (some ⟨.par,y.1⟩::r)
 | n+1,o::r,f,ds,K=>MK n r f ds λe a=>K e (o::a)
 | _,_,_,_,_=>False
theorem dK2:∀ (n:Nat) (r:Sg) (f:FM) (a:List D) (K:D->Sg->Prop),MK n r f a K=OK1 (cC9 f n a r) λx=>OK1 (match x.1 with | .val d=>some d | _=>none) λd=>K d x.2
 | 0,[],f,a,K=>rfl
 | 0,none::r,f,a,K=>rfl
 | 0,some ⟨.val,_⟩::r,f,a,K=>rfl
 | 0,some ⟨.lent,_⟩::r,f,a,K=>rfl
 | 0,some ⟨.own,d⟩::r,f,a,K=>by
   show OK1 (f d a) _=OK1 ((f d a).bind λy=>some (Res.val y.2,some (⟨.own,y.1⟩:Sl)::r)) _;rw[aX];rfl
 | 0,some ⟨.par,d⟩::r,f,a,K=>by
   show OK1 (f d a) _=OK1 ((f d a).bind λy=>some (Res.val y.2,some (⟨.par,y.1⟩:Sl)::r)) _;rw[aX];rfl
 | n+1,[],f,a,K=>rfl
 | n+1,o::r,f,a,K=>by
   show MK n r f a (λe b=>K e (o::b))=_;rw[dK2 n r f a _];unfold cC9;rw[a2d];cases q:r[n]? with
   | none=>rfl
   | some x=>cases x with
     | none=>rfl
     | some s=>
       dsimp only;by_cases hm:s.m.mt=true;rw[a4i hm,a4i hm,aX,aX];rfl;rw[a4j hm,a4j hm];rfl
def TK:String->Nat->Sg->Prop->Prop
 | T,0,some ⟨.own,d⟩::_,P=>tyD T d=true/\P
 | T,0,some ⟨.par,d⟩::_,P=>tyD T d=true/\P
 | T,0,some ⟨.lent,d⟩::_,P=>tyD T d=true/\P
 | T,n+1,_::r,P=>TK T n r P
 | _,_,_,_=>False
theorem cD8:∀ (T:String) (n:Nat) (r:Sg) (P:Prop),TK T n r P=(aU9 T n r=true/\P)
 | T,0,[],P=>by simp[TK,aU9]
 | T,0,none::r,P=>by simp[TK,aU9]
 | T,0,some ⟨.val,d⟩::r,P=>by simp[TK,aU9]
 | T,0,some ⟨.own,d⟩::r,P=>by simp[TK,aU9]
 | T,0,some ⟨.par,d⟩::r,P=>by simp[TK,aU9]
 | T,0,some ⟨.lent,d⟩::r,P=>by simp[TK,aU9]
 | T,n+1,[],P=>by simp[TK,aU9]
 | T,n+1,o::r,P=>by
   show TK T n r P=_;rw[cD8 T n r P];unfold aU9;rw[a2d]
section
variable{σ:Sg}{Q:Res->Sg->Prop}{QT:Bool->Sg->Prop}{QA:List Res->Sg->Prop}{QS:Out->Prop}{K:D->Prop}{KR:Res->Prop}{a b c:DE}{ra:DA}{t u:DT}{x y:DS}{d e:D}{f:F2}{f1:F1}{fn:FN}{i j n:Nat}{r:Sg}{o:Option Sl}
theorem cD9:RE (dC d) σ Q=Q (.val d) σ:=rfl
theorem pX:RE (aH i) σ Q=VK i σ i σ Q:=(dK0 i σ i σ Q).symm
theorem pY:VK (n+1) (o::r) i σ Q=VK n r i σ Q:=rfl
theorem pZ:VK 0 (some ⟨.val,d⟩::r) i σ Q=Q (.val d) σ:=rfl
theorem qA:VK 0 (some ⟨.own,d⟩::r) i σ Q=Q (.slot i) σ:=rfl
theorem qB:VK 0 (some ⟨.par,d⟩::r) i σ Q=Q (.slot i) σ:=rfl
theorem qC:VK 0 (some ⟨.lent,d⟩::r) i σ Q=Q (.slot i) σ:=rfl
theorem qE:RE (aY f a b) σ Q=RE a σ λx g=>RE b g λy c=>RD c x λd=>RD c y λe=>OK1 (f d e) λr=>Q r c:=by
 unfold RE aY RD;simp only[aX,bV]
theorem qF:RE (bP3 f1 a) σ Q=RE a σ λx b=>RD b x λd=>OK1 (f1 d) λr=>Q r b:=by
 unfold RE bP3 RD;simp only[aX,bV]
theorem qG:RD σ (.val d) K=K d:=rfl
theorem qH:RD σ (.own d) K=K d:=rfl
theorem qI:RD σ (.slot i) K=GK i σ K:=(dK1 i σ K).symm
theorem qJ{m:Md}:GK 0 (some ⟨m,d⟩::r) K=K d:=rfl
theorem qK:GK (n+1) (o::r) K=GK n r K:=rfl
theorem qL:RT (eK a) σ QT=RE a σ λx c=>RD c x λd=>OK1 (match d with | .bl b=>some b | _=>none) λb=>QT b c:=by
 unfold RT RE eK RD;simp only[aX];congr 1;funext x;congr 1;funext d;cases d<;>rfl
theorem qM:RT (dP1 a) σ QT=RE a σ λx c=>RD c x λd=>OK1 (dX1 d) λb=>QT b c:=by
 unfold RT RE dP1 RD;simp only[aX,bV]
theorem qN:RT (bZ4 t u) σ QT=RT t σ λb a=>if b=true then RT u a QT else QT false a:=by
 unfold RT bZ4;simp only[aX];congr 1;funext x;by_cases h:x.1=true<;>simp[h,OK1]
theorem aH5:RT (dOr t u) σ QT=RT t σ λb a=>if b=true then QT true a else RT u a QT:=by
 unfold RT dOr;simp only[aX];congr 1;funext x;by_cases h:x.1=true<;>simp[h,OK1]
theorem qO:RT (cT6 t) σ QT=RT t σ λb a=>QT (!b) a:=by
 unfold RT cT6;simp only[aX,bV]
theorem jW:RT iC σ QT=QT true σ:=rfl
theorem lM:RE (aN1 a b) σ Q=RT (eK a) σ λt c=>if t=true then RE b c Q else Q (.val (.bl false)) c:=by
 unfold RT RE aN1;simp only[aX];congr 1;funext x;by_cases h:x.1=true<;>simp[h,OK1]
theorem aB2:RE (dP2 a b) σ Q=RT (eK a) σ λt c=>if t=true then Q (.val (.bl true)) c else RE b c Q:=by
 unfold RT RE dP2;simp only[aX];congr 1;funext x;by_cases h:x.1=true<;>simp[h,OK1]
theorem qQ:RA aV σ QA=QA [] σ:=rfl
theorem lN:RA (aE a ra) σ QA=RE a σ λx b=>RA ra b λxs c=>QA (x::xs) c:=by
 unfold RA RE aE;simp only[aX,bV]
def RDs(σ:Sg)(rs:List Res)(K:List D->Prop):Prop:=OK1 (rds σ rs) K
def VLs(rs:List Res)(K:List D->Prop):Prop:=OK1 (vals rs) K
theorem lO{K:List D->Prop}:RDs σ [] K=K []:=rfl
theorem lP{x:Res}{xs:List Res}{K:List D->Prop}:RDs σ (x::xs) K=RD σ x λd=>RDs σ xs λa=>K (d::a):=by
 show OK1 ((rd σ x).bind λd=>(rds σ xs).bind λa=>some (d::a)) K=_;unfold RDs RD;simp only[aX,bV]
theorem qR{K:List D->Prop}:VLs [] K=K []:=rfl
theorem qS{xs:List Res}{K:List D->Prop}:VLs (.val d::xs) K=VLs xs λa=>K (d::a):=by
 show OK1 ((vals xs).bind λa=>some (d::a)) K=_;unfold VLs;simp only[aX,bV]
theorem aH6:RE (dCB fn ra) σ Q=RA ra σ λxs a=>RDs a xs λb=>OK1 (fn b) λr=>Q r a:=by
 unfold RE RA RDs dCB;simp only[aX,bV]
theorem qT:RE (bG9 ra) σ Q=RA ra σ λxs a=>VLs xs λb=>b.length<=sizeLine/\Q (.val (.tup b)) a:=by
 unfold RE RA VLs bG9;simp only[aX,cI,bV]
theorem qU:RE (nO ra) σ Q=RA ra σ λxs a=>VLs xs λb=>b.length<=sizeLine/\Q (.own (.lst b)) a:=by
 unfold RE RA VLs nO;simp only[aX,cI,bV]
def FK(r:Res)(σ:Sg)(K:D->Sg->Prop):Prop:=OK1 (dX2 σ r) λx=>K x.1 x.2
def ZK:Nat->Sg->(D->Sg->Prop)->Prop
 | 0,some ⟨.own,d⟩::r,K=>K d (some ⟨.val,d⟩::r)
 | 0,some ⟨.val,d⟩::r,K=>K d (some ⟨.val,d⟩::r)
 | n+1,o::r,K=>ZK n r λd a=>K d (o::a)
 | _,_,_=>False
theorem dK3:∀ (n:Nat) (r:Sg) (K:D->Sg->Prop),ZK n r K=FK (.slot n) r K
 | 0,[],K=>rfl
 | 0,none::r,K=>rfl
 | 0,some ⟨.val,_⟩::r,K=>rfl
 | 0,some ⟨.own,_⟩::r,K=>rfl
 | 0,some ⟨.par,_⟩::r,K=>rfl
 | 0,some ⟨.lent,_⟩::r,K=>rfl
 | n+1,[],K=>rfl
 | n+1,o::r,K=>by
   show ZK n r (λd c=>K d (o::c))=_;rw[dK3 n r _];show OK1 (match r[n]? with | some (some s)=>if s.m=.own then some (s.d,r.set n (some ⟨.val,s.d⟩))else if s.m=.val then some (s.d,r)else none | _=>none) _ =
    OK1 (match (o::r)[n+1]? with | some (some s)=>if s.m=.own then some (s.d,(o::r).set (n+1) (some ⟨.val,s.d⟩))else if s.m=.val then some (s.d,o::r)else none | _=>none) _
   rw[a2d];cases r[n]? with
   | none=>rfl
   | some x=>cases x with
     | none=>rfl
     | some s=>
       dsimp only;by_cases a:s.m=.own;rw[a4i a,a4i a];rfl;rw[a4j a,a4j a];by_cases b:s.m=.val;rw[a4i b,a4i b];rfl;rw[a4j b,a4j b];rfl
theorem aH7:RE (dFz a) σ Q=RE a σ λx b=>FK x b λd c=>Q (.val d) c:=by
 unfold RE dFz FK;simp only[aX,bV]
theorem qV{K:D->Sg->Prop}:FK (.val d) σ K=K d σ:=rfl
theorem qW{K:D->Sg->Prop}:FK (.own d) σ K=K d σ:=rfl
theorem qX{K:D->Sg->Prop}:FK (.slot i) σ K=ZK i σ K:=(dK3 i σ K).symm
theorem qY{K:D->Sg->Prop}:ZK 0 (some ⟨.own,d⟩::r) K=K d (some ⟨.val,d⟩::r):=rfl
theorem qZ{K:D->Sg->Prop}:ZK (n+1) (o::r) K=ZK n r λd a=>K d (o::a):=rfl
theorem lQ:RS gL σ QS=QS (.nx σ):=rfl
def SqK(y:DS)(QS:Out->Prop):Out->Prop
 | .nx σ=>RS y σ QS
 | o=>QS o
theorem rB:RS (bW x y) σ QS=RS x σ (SqK y QS):=by
 unfold RS bW;rw[aX];congr 1;funext o;cases o<;>rfl
theorem rC:SqK y QS (.nx σ)=RS y σ QS:=rfl
theorem rD{v:Res}:SqK y QS (.rt v σ)=QS (.rt v σ):=rfl
theorem lR:RS (jM a) σ QS=RE a σ λ_ b=>QS (.nx b):=by unfold RS RE jM;simp only[aX,bV]
theorem rE:RS (iA a) σ QS=RE a σ λx b=>QS (.rt x b):=by unfold RS RE iA;simp only[aX,bV]
theorem rF:RS (pI t x y) σ QS=RT t σ λb a=>if b=true then RS x a QS else RS y a QS:=by
 unfold RS RT pI;simp only[aX];congr 1;funext z;by_cases h:z.1=true<;>simp[h]
def PtK(i:Nat)(r:Res)(σ:Sg)(K:Sg->Prop):Prop:=OK1 (dP3 i r σ) K
theorem rG:RS (dA i a) σ QS=RE a σ λx b=>PtK i x b λc=>QS (.nx c):=by unfold RS RE PtK dA;simp only[aX,bV]
theorem rH{K:Sg->Prop}:PtK i (.val d) σ K=PK i σ ⟨.val,d⟩ K:=(cD7 i σ _ K).symm
theorem rJ{K:Sg->Prop}:PtK i (.own d) σ K=PK i σ ⟨.own,d⟩ K:=(cD7 i σ _ K).symm
theorem rK{s:Sl}{K:Sg->Prop}:PK 0 (none::r) s K=K (some s::r):=rfl
theorem rL{s:Sl}{K:Sg->Prop}:PK 0 (some ⟨.val,d⟩::r) s K=K (some s::r):=rfl
theorem rM{s:Sl}{K:Sg->Prop}:PK 0 (some ⟨.own,d⟩::r) s K=K (some s::r):=rfl
theorem rN{s:Sl}{K:Sg->Prop}:PK (n+1) (o::r) s K=PK n r s λa=>K (o::a):=rfl
theorem cU7{b:FM}{c:List D}{σ:Sg}:OK1 (cC9 b i c σ) (λx=>Q x.1 x.2)=MK i σ b c λd a=>Q (.val d) a:=by
 rw[dK2];apply propext;rw[iE,iE];constructor;rintro⟨⟨x,s⟩,e,q⟩;obtain⟨_,_,_,_,_,_,rfl,_⟩:=pT e;exact⟨_,e,q⟩;rintro⟨⟨x,s⟩,e,q⟩;obtain⟨_,_,_,_,_,_,rfl,_⟩:=pT e;exact⟨_,e,q⟩
theorem lT{T:String}{c:FM}:RE (nH T i c ra) σ Q=TK T i σ (RA ra σ λxs a=>VLs xs λe=>MK i a c e λd b=>Q (.val d) b):=by
 rw[cD8];unfold RE nH RA VLs;rw[cI];simp only[aX,cU7]
theorem lU{T:String}{c:FM}:RE (zH T i c ra) σ Q=TK T i σ (RA ra σ λxs a=>RDs a xs λe=>MK i a c e λd b=>Q (.val d) b):=by
 rw[cD8];unfold RE zH RA RDs;rw[cI];simp only[aX,cU7]
theorem rO{T:String}{P:Prop}:TK T 0 (some ⟨.own,d⟩::r) P=(tyD T d=true/\P):=rfl
theorem rP{T:String}{P:Prop}:TK T 0 (some ⟨.par,d⟩::r) P=(tyD T d=true/\P):=rfl
theorem rQ{T:String}{P:Prop}:TK T (n+1) (o::r) P=TK T n r P:=rfl
theorem rR{a:FM}{b:List D}{K:D->Sg->Prop}:MK 0 (some ⟨.own,d⟩::r) a b K=OK1 (a d b) λy=>K y.2 (some ⟨.own,y.1⟩::r):=rfl
theorem rS{a:FM}{b:List D}{K:D->Sg->Prop}:MK 0 (some ⟨.par,d⟩::r) a b K=OK1 (a d b) λy=>K y.2 (some ⟨.par,y.1⟩::r):=rfl
theorem rT{a:FM}{b:List D}{K:D->Sg->Prop}:MK (n+1) (o::r) a b K=MK n r a b λe c=>K e (o::c):=rfl
theorem rV:RS (dJ9 i a b) σ QS=RE b σ λx c=>OK1 (match x with | .val d=>some d | _=>none) λd=>TK "list" i c (RE a c λy f=>RD f y λg=>OK1 (match g with | .int k=>some k | _=>none) λk=>
  MK i f (λa _=>(dP5 k d a).map λb=>(b,.non)) [] λ_ e=>QS (.nx e)):=by
 unfold RS RE RD dJ9;rw[aX];congr 1;funext x;obtain⟨x,c⟩:=x;cases x with
 | own d=>rfl
 | slot d=>rfl
 | val d=>
   show OK1 _ _=TK _ _ _ _;rw[cD8];dsimp only;rw[cI];simp only[aX];congr 1;congr 1;funext y;congr 1;funext g;cases g with
   | int k=>
     dsimp only;rw[aX];show _=MK _ _ _ _ _;rw[← cU7 (Q:=λ_ e=>QS (.nx e))];rfl
   | _=>rfl
theorem aH8{K:Sg->Prop}:OK1 (dgN i d σ) K=PK i σ ⟨.val,d⟩ K:=(cD7 i σ _ K).symm
theorem lV{a:DGs}{l:List D}{K:Sg->Prop}:OK1 (nJ n a (.tup l) σ) K=(l.length=n/\OK1 (a l σ) K):=by
 show OK1 (if l.length=n then a l σ else none) K=_;rw[cI]
theorem iP{g:DG}{b:DGs}{l:List D}{K:Sg->Prop}:OK1 (cL g b (d::l) σ) K=OK1 (g d σ) λa=>OK1 (b l a) K:=by
 show OK1 ((g d σ).bind λa=>b l a) K=_;rw[aX]
theorem lW{K:Sg->Prop}:OK1 (lH [] σ) K=K σ:=rfl
theorem rW:RS (dP4 i j ra) σ QS=RA ra σ λxs a=>VLs xs λds=>OK1 (match ds with | [d,e]=>some (d,e) | _=>none) λp=>(gU a i=true/\gU a j=true/\i≠j)/\QS (.nx ((a.set i (some ⟨.val,p.1⟩)).set j (some ⟨.val,p.2⟩))):=by
 unfold RS RA VLs dP4;simp only[aX];congr 1;funext x;congr 1;funext ds
 match ds with
 | []=>rfl
 | [_]=>rfl
 | [d,e]=>show OK1 (if gU x.2 i=true/\gU x.2 j=true/\i≠j then _ else none) QS=_;rw[cI];rfl
 | _::_::_::_=>rfl
end
def CK(run:Run)(as:List Sl)(K:Res->List Sl->Prop):Prop:=OK1 (run as) λy=>K y.1 y.2
def AK(σ:Sg)(rs:List Res)(K:List Sl->Prop):Prop:=OK1 (xH σ rs) K
def A1(σ:Sg)(r:Res)(K:Sl->Prop):Prop:=OK1 (aV4 σ r) K
def HK:Nat->Sg->(Sl->Prop)->Prop
 | 0,some ⟨m,d⟩::_,K=>K ⟨if m.mt=true then .par else m,d⟩
 | n+1,_::r,K=>HK n r K
 | _,_,_=>False
theorem dK4:∀ (n:Nat) (r:Sg) (K:Sl->Prop),HK n r K=A1 r (.slot n) K
 | 0,[],_=>rfl
 | 0,none::_,_=>rfl
 | 0,some s::_,_=>rfl
 | n+1,[],_=>rfl
 | n+1,_::r,K=>by
   show HK n r K=_;rw[dK4 n r K];show OK1 (match r[n]? with | some (some s)=>some (⟨if s.m.mt=true then .par else s.m,s.d⟩:Sl) | _=>none) K=OK1 (match (_::r)[n+1]? with | some (some s)=>some (⟨if s.m.mt=true then .par else s.m,s.d⟩:Sl) | _=>none) K;rw[a2d]
def UK:Nat->Sg->D->(Sg->Prop)->Prop
 | 0,some ⟨.own,_⟩::r,d,K=>K (some ⟨.own,d⟩::r)
 | 0,some ⟨.par,_⟩::r,d,K=>K (some ⟨.par,d⟩::r)
 | 0,o::r,_,K=>K (o::r)
 | n+1,o::r,d,K=>UK n r d λa=>K (o::a)
 | _,[],_,K=>K []
noncomputable def uS(σ:Sg)(i:Nat)(d:D):Sg:=match σ[i]? with
 | some (some s)=>if s.m.mt=true then σ.set i (some ⟨s.m,d⟩)else σ
 | _=>σ
theorem dK5:∀ (n:Nat) (r:Sg) (d:D) (K:Sg->Prop),UK n r d K=K (uS r n d)
 | 0,[],_,_=>rfl
 | n+1,[],_,_=>rfl
 | 0,none::r,d,K=>rfl
 | 0,some ⟨.val,_⟩::r,d,K=>rfl
 | 0,some ⟨.own,_⟩::r,d,K=>rfl
 | 0,some ⟨.par,_⟩::r,d,K=>rfl
 | 0,some ⟨.lent,_⟩::r,d,K=>rfl
 | n+1,o::r,d,K=>by
   show UK n r d (λa=>K (o::a))=_;rw[dK5 n r d _];unfold uS;rw[a2d];cases r[n]? with
   | none=>rfl
   | some x=>cases x with
     | none=>rfl
     | some s=>
       dsimp only;by_cases h:s.m.mt=true;rw[a4i h,a4i h];rfl;rw[a4j h,a4j h]
noncomputable def sB:List Res->List Sl->Sg->Sg
 | .slot i::rs,a::as,σ=>sB rs as (uS σ i a.d)
 | _::rs,_::as,σ=>sB rs as σ
 | _,_,σ=>σ
def dK6{σ:Sg}{i j:Nat}{d:D}:(uS σ i d)[j]? = (σ[j]?).map λo=>if j=i then(match o with | some s=>some (if s.m.mt=true then⟨s.m,d⟩else s) | none=>none)else o:=by
 unfold uS;by_cases a:j=i
 ·subst a;cases h:σ[j]? with
  | none=>dsimp only;rw[h];rfl
  | some o=>
    cases o with
    | none=>dsimp only;rw[h];simp
    | some s=>
      dsimp only;by_cases hm:s.m.mt=true;rw[a4i hm,a8c (a2a.mp h).1];simp[hm];rw[a4j hm,h];simp[hm]
 ·have:∀ x:Option Sl,(σ.set i x)[j]? = σ[j]?:=λx=>a0b (a0e a);split;split;rw[this];cases σ[j]? <;> simp[a];cases σ[j]? <;> simp[a];cases σ[j]? <;> simp[a]
theorem bB8:∀ (rs:List Res) (as:List Sl) (σ:Sg) (j:Nat),eM rs=true->(sB rs as σ)[j]? = (σ[j]?).map (pV rs as j)
 | [],as,σ,j,_=>by cases as<;>(show σ[j]? = _;cases σ[j]? with | none=>rfl | some o=>cases o<;>simp[pV,nQ])
 | r::rs,[],σ,j,_=>by cases r<;>(show σ[j]? = _;cases σ[j]? with | none=>rfl | some o=>cases o<;>simp[pV,nQ])
 | .val d::rs,a::as,σ,j,h=>bB8 rs as σ j h
 | .own d::rs,a::as,σ,j,h=>bB8 rs as σ j h
 | .slot i::rs,a::as,σ,j,h=>by
   have h':eM rs=true/\aT1 i rs=false:=by
    unfold eM at h;rw[a3f]at h;exact⟨h.2,by simpa using h.1⟩
   show(sB rs as (uS σ i a.d))[j]? = _;rw[bB8 rs as _ j h'.1,dK6];cases σ[j]? with
   | none=>rfl
   | some o=>
     cases o with
     | none=>by_cases c:j=i<;>simp[pV,c]
     | some s=>
       by_cases c:j=i
       ·subst c;have e:nQ j rs as=none:=by
         cases q:nQ j rs as with
         | none=>rfl
         | some b=>
           obtain⟨k,f,_⟩:=iW q;rw[wL f]at h';cases h'.2
        simp[pV,e,nQ]
       ·have:¬ i=j:=λz=>c z.symm;simp[pV,c,nQ,this]
theorem cE0{rs:List Res}{as:List Sl}{σ:Sg}(h:eM rs=true):lJ rs as 0 σ=sB rs as σ:=by
 apply a9g;intro j;rw[nR,bB8 rs as σ j h,a0g]
def BK(rs:List Res)(as:List Sl)(σ:Sg)(K:Sg->Prop):Prop:=K (sB rs as σ)
def bZ7(as:List Sl)(K:Res->List Sl->Prop):Out->Prop
 | .nx σ=>K (.val .non) (zF as σ)
 | .rt r σ=>OK1 (dB1 σ r) λa=>K a (zF as σ)
 | _=>False
section
variable{σ:Sg}{Q:Res->Sg->Prop}{ra:DA}{d:D}{i n:Nat}{r:Sg}{o:Option Sl}
theorem lX{run:Run}:RE (bH n run ra) σ Q=RA ra σ λrs a=>AK a rs λas=>(as.length=n/\eM rs=true)/\CK run as λy as'=>BK rs as' a λb=>Q y b:=by
 unfold RE RA AK CK bH;simp only[aX,cI,bV];congr 1;funext x;congr 1;funext as;apply propext;constructor;rintro⟨h,q⟩;refine⟨h,cY q λy q=>?_⟩;unfold BK;rw[← cE0 h.2];exact q;rintro⟨h,q⟩;refine⟨h,cY q λy q=>?_⟩;unfold BK at q;rw[← cE0 h.2]at q;exact q
theorem rX{as:List Sl}{K:Sg->Prop}:BK [] as σ K=K σ:=by cases as<;>rfl
theorem rY{rs:List Res}{a:Sl}{as:List Sl}{K:Sg->Prop}:BK (.val d::rs) (a::as) σ K=BK rs as σ K:=rfl
theorem rZ{rs:List Res}{a:Sl}{as:List Sl}{K:Sg->Prop}:BK (.own d::rs) (a::as) σ K=BK rs as σ K:=rfl
theorem sA{rs:List Res}{m:Md}{as:List Sl}{K:Sg->Prop}:BK (.slot i::rs) (⟨m,d⟩::as) σ K=UK i σ d λσ'=>BK rs as σ' K:=by
 rw[dK5];rfl
theorem sC{e:D}{K:Sg->Prop}:UK 0 (some ⟨.own,e⟩::r) d K=K (some ⟨.own,d⟩::r):=rfl
theorem sD{e:D}{K:Sg->Prop}:UK 0 (some ⟨.par,e⟩::r) d K=K (some ⟨.par,d⟩::r):=rfl
theorem sE{e:D}{K:Sg->Prop}:UK 0 (some ⟨.lent,e⟩::r) d K=K (some ⟨.lent,e⟩::r):=rfl
theorem sF{K:Sg->Prop}:UK (n+1) (o::r) d K=UK n r d λa=>K (o::a):=rfl
def eC{len:Nat}{b:DS}{as:List Sl}{K:Res->List Sl->Prop}:CK (pJ len b) as K=RS b (ini len as) (bZ7 as K):=by
 unfold CK RS pJ;rw[aX];congr 1;funext o;cases o with
 | rt x s=>show OK1 ((dB1 s x).bind _) _=OK1 (dB1 s x) _;rw[aX];rfl
 | _=>rfl
def FSK:Nat->Sg->(Res->Prop)->Prop
 | 0,some ⟨.own,d⟩::_,K=>K (.own d)
 | 0,some ⟨.val,d⟩::_,K=>K (.val d)
 | n+1,_::r,K=>FSK n r K
 | _,_,_=>False
theorem cN0:∀ (n:Nat) (r:Sg) (K:Res->Prop),FSK n r K=OK1 (dB1 r (.slot n)) K
 | 0,[],_=>rfl
 | 0,none::_,_=>rfl
 | 0,some ⟨.val,_⟩::r,K=>rfl
 | 0,some ⟨.own,_⟩::r,K=>rfl
 | 0,some ⟨.par,_⟩::r,K=>rfl
 | 0,some ⟨.lent,_⟩::r,K=>rfl
 | n+1,[],_=>rfl
 | n+1,o::r,K=>by
   show FSK n r K=_;rw[cN0 n r K];show OK1 (match r[n]? with | some (some s)=>if s.m=.own then some (Res.own s.d)else if s.m=.val then some (.val s.d)else none | _=>none) K=OK1 (match (o::r)[n+1]? with | some (some s)=>if s.m=.own then some (Res.own s.d)else if s.m=.val then some (.val s.d)else none | _=>none) K;rw[a2d]
section
variable{as:List Sl}{K:Res->List Sl->Prop}{KR:Res->Prop}
theorem lY:bZ7 as K (.rt (.val d) σ)=K (.val d) (zF as σ):=rfl
theorem lZ:bZ7 as K (.rt (.own d) σ)=K (.own d) (zF as σ):=rfl
theorem mB:bZ7 as K (.rt (.slot i) σ)=FSK i σ λr=>K r (zF as σ):=(cN0 i σ _).symm
theorem sH:FSK 0 (some ⟨.own,d⟩::r) KR=KR (.own d):=rfl
theorem sI:FSK (n+1) (o::r) KR=FSK n r KR:=rfl
theorem mD:zF [] σ=[]:=rfl
theorem mE{s:Sl}:zF (⟨.val,d⟩::as) (some s::r)=⟨.val,d⟩::zF as r:=rfl
theorem mG{s:Sl}:zF (⟨.par,d⟩::as) (some s::r)=s::zF as r:=rfl
theorem mH{s:Sl}:zF (⟨.lent,d⟩::as) (some s::r)=s::zF as r:=rfl
end
theorem sJ{K:List Sl->Prop}:AK σ [] K=K []:=rfl
theorem sK{x:Res}{xs:List Res}{K:List Sl->Prop}:AK σ (x::xs) K=A1 σ x λa=>AK σ xs λas=>K (a::as):=by
 show OK1 ((aV4 σ x).bind λa=>(xH σ xs).bind λas=>some (a::as)) K=_;unfold AK A1;simp only[aX,bV]
theorem sL{K:Sl->Prop}:A1 σ (.val d) K=K ⟨.val,d⟩:=rfl
theorem sM{K:Sl->Prop}:A1 σ (.own d) K=K ⟨.par,d⟩:=rfl
theorem sN{K:Sl->Prop}:A1 σ (.slot i) K=HK i σ K:=(dK4 i σ K).symm
theorem sO{K:Sl->Prop}:HK 0 (some ⟨.own,d⟩::r) K=K ⟨.par,d⟩:=rfl
theorem sP{K:Sl->Prop}:HK 0 (some ⟨.par,d⟩::r) K=K ⟨.par,d⟩:=rfl
theorem sQ{K:Sl->Prop}:HK 0 (some ⟨.lent,d⟩::r) K=K ⟨.lent,d⟩:=rfl
theorem sR{K:Sl->Prop}:HK (n+1) (o::r) K=HK n r K:=rfl
end
section
variable{σ:Sg}{QS:Out->Prop}{Q:Res->Sg->Prop}{ri:DI}{g:DG}{b:DS}{a:DE}{ra:DA}
def dK7:RS (xG ri g b) σ QS=RI ri σ λitems l a=>OK1 (bP9 g b items (lendO l a)) λo=>QS (aN4 l a o):=by
 unfold RS RI xG;simp only[aX,bV]
theorem aH9{K:List D->Option Nat->Sg->Prop}:RI (dIt a) σ K=RE a σ λx b=>RD b x λd=>OK1 (aN3 d) λl=>K l (match x with | .slot i=>some i | _=>none) b:=by
 unfold RI RE RD dIt;simp only[aX,bV];try rfl
noncomputable def dX7:List D->Option (List D)
 | [.int j]=>if -(2 ^ 62)<=j/\j < 2 ^ 62 then some (xF 0 j.toNat)else none
 | [.int i,.int j]=>if(-(2 ^ 62)<=i/\i < 2 ^ 62) /\ -(2 ^ 62)<=j/\j < 2 ^ 62 then some (xF i (j-i).toNat)else none
 | _=>none
theorem sS{K:List D->Option Nat->Sg->Prop}:RI (zI ra) σ K=RA ra σ λxs a=>RDs a xs λds=>OK1 (dX7 ds) λl=>K l none a:=by
 unfold RI RA RDs zI;simp only[aX];congr 1;funext x;congr 1;funext ds
 match ds with
 | []=>rfl
 | [.int j]=>show OK1 (if -(2 ^ 62)<=j/\j < 2 ^ 62 then _ else none) _=OK1 (if -(2 ^ 62)<=j/\j < 2 ^ 62 then _ else none) _;rw[cI,cI];rfl
 | [.int i,.int j]=>show OK1 (if(-(2 ^ 62)<=i/\i < 2 ^ 62) /\ -(2 ^ 62)<=j/\j < 2 ^ 62 then _ else none) _=OK1 (if(-(2 ^ 62)<=i/\i < 2 ^ 62) /\ -(2 ^ 62)<=j/\j < 2 ^ 62 then _ else none) _;rw[cI,cI];rfl
 | [.non]=>rfl
 | [.bl _]=>rfl
 | [.str _]=>rfl
 | [.tup _]=>rfl
 | [.lst _]=>rfl
 | [.dic _ _]=>rfl
 | .non::_::_=>rfl
 | .bl _::_::_=>rfl
 | .str _::_::_=>rfl
 | .tup _::_::_=>rfl
 | .lst _::_::_=>rfl
 | .dic _ _::_::_=>rfl
 | .int _::.non::_=>rfl
 | .int _::.bl _::_=>rfl
 | .int _::.str _::_=>rfl
 | .int _::.tup _::_=>rfl
 | .int _::.lst _::_=>rfl
 | .int _::.dic _ _::_=>rfl
 | .int _::.int _::_::_=>rfl
theorem mI{j:Int}{K:List D->Prop}:OK1 (dX7 [.int j]) K=((-(2 ^ 62)<=j/\j < 2 ^ 62)/\K (xF 0 j.toNat)):=by
 show OK1 (if -(2 ^ 62)<=j/\j < 2 ^ 62 then some (xF 0 j.toNat)else none) K=_;rw[cI];rfl
def cU8{items:List D}(P:Nat->Sg->Prop)(h0:P 0 σ)(f:∀ i d σ,items[i]? = some d->P i σ->OK1 (g d σ) λc=>RS b c λo=>∃ a,(o=.nx a\/o=.ct a)/\P (i+1) a){K:Out->Prop}(k:∀ σ',P items.length σ'->K (.nx σ')):OK1 (bP9 g b items σ) K:=by
 induction items generalizing P σ with
 | nil=>exact k σ h0
 | cons d r h=>
   show OK1 ((g d σ).bind _) K;rw[aX];refine cY (f 0 d σ rfl h0) λc j=>?_;rw[aX];refine cY j λo l=>?_;obtain⟨a,m,n⟩:=l;have go:OK1 (bP9 g b r a) K:=h (λi=>P (i+1)) n (λi d σ e p=>f (i+1) d σ (by simpa using e) p) λσ' p=>k σ' (by simpa using p);rcases m with rfl | rfl;exact go;exact go
def cU9{items:List D}(P:Nat->Sg->Prop){K:Out->Prop}(h0:P 0 σ)(f:∀ i d σ,items[i]? = some d->P i σ->OK1 (g d σ) λc=>RS b c λo=>(∃ a,(o=.nx a\/o=.ct a)/\P (i+1) a)\/(∃ x a,o=.rt x a/\K (.rt x a))\/(∃ a,o=.bk a/\K (.nx a)))(k:∀ σ',P items.length σ'->K (.nx σ')):OK1 (bP9 g b items σ) K:=by
 induction items generalizing P σ with
 | nil=>exact k σ h0
 | cons d r h=>
   show OK1 ((g d σ).bind _) K;rw[aX];refine cY (f 0 d σ rfl h0) λc j=>?_;rw[aX];refine cY j λo l=>?_;rcases l with⟨a,m,n⟩ | ⟨x,a,rfl,q⟩ | ⟨a,rfl,q⟩;have go:OK1 (bP9 g b r a) K:=h (λi=>P (i+1)) n (λi d σ e p=>f (i+1) d σ (by simpa using e) p) λσ' p=>k σ' (by simpa using p);rcases m with rfl | rfl;exact go;exact go;exact q;exact q
theorem aB3{c:DT}{K:Out->Prop}(P:Nat->Sg->Prop)(f:∀ m σ,P m σ->RT c σ λt d=>if t=true then RS b d λo=>(∃ a m',(o=.nx a\/o=.ct a)/\m' < m/\P m' a)\/(∃ x a,o=.rt x a/\K (.rt x a))\/(∃ a,o=.bk a/\K (.nx a))else K (.nx d)) :
  ∀ (n m:Nat) (σ:Sg),m < n->P m σ->OK1 (vK c b n σ) K
 | 0,m,σ,h,_=>by lia
 | n+1,m,σ,h,p=>by
   show OK1 ((c σ).bind _) K;rw[aX];refine cY (f m σ p) λx e=>?_;dsimp only at e;by_cases g:x.1=true
   ·rw[a4i g]at e ⊢;rw[aX];refine cY e λo i=>?_;rcases i with⟨a,m',j,hm,k⟩ | ⟨x,a,rfl,q⟩ | ⟨a,rfl,q⟩;have go:=aB3 P f n m' a (by lia) k;rcases j with rfl | rfl;exact go;exact go;exact q;exact q
   ·rw[a4j g]at e ⊢;exact e
def bQ8{c:DT}(P:Nat->Sg->Prop)(m:Nat)(hm:m < 1000000)(h0:P m σ)(e:∀ m σ,P m σ->RT c σ λt d=>if t=true then RS b d λo=>(∃ a m',(o=.nx a\/o=.ct a)/\m' < m/\P m' a)\/(∃ x a,o=.rt x a/\QS (.rt x a))\/(∃ a,o=.bk a/\QS (.nx a))else QS (.nx d)):OK1 (vK c b dB0 σ) QS:=
 aB3 P e dB0 m σ (a5d hm cT9) h0
def cV0{ow:List Nat}{t:DT}{e:DE}:RE (cG ow ri g t e) σ Q=RI ri σ λitems l a=>items.length<=sizeLine/\OK1 (aV2 ow g t e items (cP ow (lendO l a))) λy=>Q (.own (.lst y.1)) (aK9 l a (oZ ow (lendO l a) y.2)):=by
 unfold RE RI cG;simp only[aX,cI,bV]
theorem xK{ow:List Nat}{t:DT}{e:DE}{K:List D×Sg->Prop}:∀ (items:List D) (a:Sg) (P:Nat->List D->Sg->Prop),P 0 [] a ->
  (∀ i d acc a,items[i]? = some d->P i acc a->OK1 (g d a) λh=>RT t h λb j=>if b=true then RE e j λr m=>∃ v,r=.val v/\P (i+1) (acc++[v]) (cP ow m)else P (i+1) acc (cP ow j)) ->
  (∀ acc a,P items.length acc a->K (acc,a))->OK1 (aV2 ow g t e items a) K
 | [],a,P,h0,_,k=>k [] a h0
 | d::r,a,P,h0,n,k=>by
   show OK1 ((g d a).bind _) K;rw[aX];refine cY (n 0 d [] a rfl h0) λh s=>?_;rw[aX];refine cY s λx l=>?_;dsimp only at l;by_cases q:x.1=true;rw[a4i q]at l ⊢;rw[aX];refine cY l λy u=>?_;obtain⟨v,w,p⟩:=u;rw[w];dsimp only;rw[aX];exact xK r _ (λi acc a=>P (i+1) (v::acc) a) p (λi d' acc c o f=>by simpa using n (i+1) d' (v::acc) c (by simpa using o) f) λacc c f=>k (v::acc) c (by simpa using f);rw[a4j q]at l ⊢;exact xK r _ (λi acc a=>P (i+1) acc a) l (λi d' acc c o f=>n (i+1) d' acc c (by simpa using o) f) λacc c f=>k acc c (by simpa using f)
end
section
variable{i j:Int}{l m:List D}{K:Res->Prop}{d e:D}{σ:Sg}{Q:Res->Sg->Prop}
theorem sT:OK1 (jK (.int i) (.int j)) K=K (.val (.int (i+j))):=rfl
theorem mJ:OK1 (jK (.lst l) (.lst m)) K=(l.length+m.length<=sizeLine/\K (.own (.lst (l++m)))):=by
 show OK1 (if l.length+m.length<=sizeLine then some (Res.own (.lst (l++m)))else none) K=_;rw[cI];rfl
theorem mK:OK1 (jK (.tup l) (.tup m)) K=(l.length+m.length<=sizeLine/\K (.val (.tup (l++m)))):=by
 show OK1 (if l.length+m.length<=sizeLine then some (Res.val (.tup (l++m)))else none) K=_;rw[cI];rfl
theorem mL{x y:Str}:OK1 (jK (.str x) (.str y)) K=(x.length+y.length<=sizeLine/\K (.val (.str (x++y)))):=by
 show OK1 (if x.length+y.length<=sizeLine then some (Res.val (.str (x++y)))else none) K=_;rw[cI];rfl
theorem sU:OK1 (dJ1 (.int i) (.int j)) K=K (.val (.int (i-j))):=rfl
theorem sV:OK1 (aV8 (.int i) (.int j)) K=(zJ i j/\K (.val (.int (i*j)))):=@cI _ (zJ i j) (Classical.propDecidable _) _ _
theorem sW:OK1 (dP6 (.int i) (.int j)) K=(bH3 i j/\K (.val (.int (i / j)))):=@cI _ (bH3 i j) (Classical.propDecidable _) _ _
theorem sY:OK1 (bB4 (.int i) (.int j)) K=(0 < j/\K (.val (.int (i % j)))):=@cI _ (0 < j) (Classical.propDecidable _) _ _
theorem sZ:OK1 (dS9 (.int i) (.int j)) K=(dA7 i j/\K (.val (.int (i ^ j.toNat)))):=@cI _ (dA7 i j) (Classical.propDecidable _) _ _
theorem aI0:OK1 (ltI (.int i) (.int j)) K=K (.val (.bl (decide (i < j)))):=rfl
theorem aI1:OK1 (gtI (.int i) (.int j)) K=K (.val (.bl (decide (j < i)))):=rfl
theorem aI2:OK1 (geI (.int i) (.int j)) K=K (.val (.bl (decide (j<=i)))):=rfl
theorem tD:OK1 (dB3 (.int i)) K=K (.val (.int (-i))):=rfl
theorem tE:OK1 (ixD (.lst l) (.int i)) K=OK1 (atI l i) λd=>K (.val d):=by
 show OK1 ((atI l i).map Res.val) K=_;rw[aO1]
theorem tF:OK1 (ixD (.tup l) (.int i)) K=OK1 (atI l i) λd=>K (.val d):=by
 show OK1 ((atI l i).map Res.val) K=_;rw[aO1]
theorem mM:OK1 (uQ [.lst l]) K=K (.val (.int l.length)):=rfl
theorem mO:OK1 (uQ [.tup l]) K=K (.val (.int l.length)):=rfl
theorem mP{b:Bool}:OK1 (dJ7 [.bl b]) K=K (.val (.int (if b then 1 else 0))):=rfl
theorem tG:OK1 (cD5 [.int i,.int j]) K=K (.val (.int (if j < i then j else i))):=rfl
theorem mQ:OK1 (aH2 [.lst l]) K=K (.own (.lst l)):=rfl
theorem iQ:OK1 (aH2 [.tup l]) K=K (.own (.lst l)):=rfl
theorem tH:OK1 (bK4 [.lst l]) K=K (.val (.tup l)):=rfl
theorem zL:OK1 (eqD false (.int i) (.int j)) K=K (.val (.bl (decide (i=j)))):=by
 have h:zK (.int i) (.int j)=decide (i=j):=by
  show(i==j)=_;rw[a9d];simp
 show OK1 (if nS (.int i)=true/\nS (.int j)=true then some (Res.val (.bl (if false then !zK (.int i) (.int j)else zK (.int i) (.int j))))else none) K=_;rw[a4i ⟨rfl,rfl⟩,h];rfl
theorem tI{k:Int}{K:D×D->Prop}:OK1 ((dP5 k e (.lst l)).map λb=>(b,D.non)) K=OK1 (ixN l.length k) λj=>K (.lst (l.set j e),.non):=by
 show OK1 (((ixN l.length k).map λj=>D.lst (l.set j e)).map λb=>(b,D.non)) K=_;rw[aO1,aO1]
theorem tJ{K:D×D->Prop}:OK1 (aT2 (.lst l) [e]) K=(l.length < sizeLine/\K (.lst (l++[e]),.non)):=by
 show OK1 (if l.length < sizeLine then some (D.lst (l++[e]),D.non)else none) K=_;rw[cI];rfl
theorem oN{bs:List Bool}:OK1 (bZ5 [.lst (bs.map D.bl)]) K=K (.val (.bl (bs.all id))):=by
 show OK1 ((aN7 (bs.map D.bl)).map λbs=>Res.val (.bl (bs.all id))) K=_;rw[aN8];rfl
def SK(d:D)(lo hi:Option Int)(K:Res->Prop):Prop:=OK1 (slD d lo hi) K
theorem aI3{a:DE}{x y:DO}:RE (dSl a x y) σ Q=RE a σ λr c=>RO x c λlo e=>RO y e λhi b=>RD b r λd=>SK d lo hi λv=>Q v b:=by
 unfold RE RO RD SK dSl;simp only[aX,bV]
theorem tK{K:Option Int->Sg->Prop}:RO aH0 σ K=K none σ:=rfl
theorem cE1{a:DE}{K:Option Int->Sg->Prop}:RO (dP a) σ K=RE a σ λx b=>RD b x λd=>OK1 (match d with | .int k=>some k | _=>none) λk=>K (some k) b:=by
 unfold RO RE RD dP;simp only[aX];congr 1;funext x;congr 1;funext d;cases d<;>rfl
theorem tL{lo hi:Option Int}:SK (.lst l) lo hi K=K (.own (.lst (aL0 l lo hi))):=rfl
theorem tM{lo hi:Option Int}:SK (.tup l) lo hi K=K (.val (.tup (aL0 l lo hi))):=rfl
theorem tN{x:D}{K:D->Prop}:OK1 (atI (x::l) 0) K=K x:=by
 show OK1 ((ixN (x::l).length 0).bind λj=>(x::l)[j]?) K=_;unfold ixN;rw[a4i (Int.le_refl 0),a4i (by first | (simp;done) | (simp;lia))];rfl
theorem tO{x y:D}{K:D->Prop}:OK1 (atI (x::y::l) 1) K=K y:=by
 show OK1 ((ixN (x::y::l).length 1).bind λj=>(x::y::l)[j]?) K=_;unfold ixN;rw[a4i (by decide),a4i (by first | (simp;done) | (simp;lia))];rfl
theorem tP{x:D}{K:Nat->Prop}:OK1 (ixN (x::l).length 0) K=K 0:=by
 unfold ixN;rw[a4i (Int.le_refl 0),a4i (by first | (simp;done) | (simp;lia))];rfl
theorem tQ{x y:D}{K:Nat->Prop}:OK1 (ixN (x::y::l).length 1) K=K 1:=by
 unfold ixN;rw[a4i (by decide),a4i (by first | (simp;done) | (simp;lia))];rfl
theorem tR{i j:Int}(a:-(2 ^ 64) < j)(b:j < 2 ^ 64):zJ i j=True:=eq_true (.inl (.inr ⟨a,b⟩))
theorem tT{i j:Int}(a:-(2 ^ 64) < i)(b:i < 2 ^ 64):zJ i j=True:=eq_true (.inl (.inl ⟨a,b⟩))
theorem tU{i:Int}{p:Prop}[Decidable p]:zJ i (if p then 1 else 0)=True:=eq_true (.inl (.inr (by split<;>decide)))
theorem zM{i j:Int}(a:0 < j)(b:j < 18446744073709551616):bH3 i j=True:=eq_true ⟨a,b⟩
theorem aI4{i j:Int}(a:0<=j)(b:j<=1000000)(c:-18446744073709551616 < i)(d:i < 18446744073709551616):dA7 i j=True:=eq_true ⟨a,b,by show i.natAbs < 18446744073709551616;lia⟩
theorem tV{σ:Sg}:lendO none σ=σ:=rfl
theorem aI5{σ:Sg}{o:Out}:aN4 none σ o=o:=by cases o<;>rfl
theorem tW{σ σ':Sg}:aK9 none σ σ'=σ':=rfl
theorem tX:(tyD "list" (.lst l)=true)=True:=by simp[tyD]
end
noncomputable def zN:List D->Option (List Str)
 | []=>some []
 | .str s::r=>(zN r).bind λl=>some (s::l)
 | _::_=>none
theorem wN:∀ {l:List D} {a:List Str},zN l=some a->l=a.map D.str
 | [],_,h=>by cases h;rfl
 | .str s::r,_,h=>by
   obtain⟨l,b,c⟩:=aC h;cases c;rw[wN b];rfl
 | .non::_,_,h=>by cases h
 | .int _::_,_,h=>by cases h
 | .bl _::_,_,h=>by cases h
 | .tup _::_,_,h=>by cases h
 | .lst _::_,_,h=>by cases h
 | .dic _ _::_,_,h=>by cases h
def xL(zs:List Str):zN (zs.map D.str)=some zs:=by
 induction zs with
 | nil=>rfl
 | cons b r a=>show(zN (r.map D.str)).bind _=_;rw[a];rfl
noncomputable def bQ9(sep:Str):F1:=λd=>match d with
 | .lst l=>(zN l).bind λys=>if(ys.map (·.length)).sum+ys.length*sep.length<=16777216 then some (.val (.str (Txt.join sep ys)))else none
 | _=>none
def cV1{X:Cx}{e:Expr}{sep:Str}{r:DE}(K:W.Frag)(h:∀ Γ,PE X e (tBM K "str" (cB3 K) (tC (.str sep)) (dTA Γ (aE r aV)))):GE X e (bP3 (bQ9 sep) r):=.mk λΓ=>peW (h Γ) λσV H Q m=>by
 have n:dA9 (λx H Q=>cB3 K (.str sep) [x] H Q) (bQ9 sep):=by
  intro H d x Q res v1 e k;unfold bQ9 at e;split at e;obtain⟨ys,f,e⟩:=aC e;split at e;rename_i o;cases e;obtain⟨p,xs,rfl,i,b⟩:=iM v1;rw[wN f]at b;rw[b.strs_inv]at i;exact⟨sep,p,ys,rfl,rfl,fB i,o,k _ H (.refl _) (.str _)⟩;cases e;cases e
 obtain⟨σ,ok,res,σ',e,k⟩:=m;obtain⟨⟨x,g⟩,f,e⟩:=aC e;obtain⟨q,s,e⟩:=aC e;obtain⟨r,u,e⟩:=aC e;cases e;refine⟨rfl,σ,ok,[x],g,?_,λvs w a b c _=>?_⟩;show((_:Option _).bind _)=_;rw[f];rfl;cases b with
 | cons b t=>
   cases t;refine n w q _ Q _ (b.vw a s) u λv H' j l=>?_;exact k v H' (a.same j) (l.res a) (c.trans (.same j)) (l.frh.back c)
def cV2{sep:Str}{zs:List Str}{K:Res->Prop}:OK1 (bQ9 sep (.lst (zs.map D.str))) K=((zs.map (·.length)).sum+zs.length*sep.length<=16777216/\K (.val (.str (Txt.join sep zs)))):=by
 show OK1 ((zN (zs.map D.str)).bind _) K=_;rw[xL];show OK1 (if _ then _ else none) K=_;rw[cI];rfl
def cE2{X:Cx}(K:W.Frag)(a:X.K=K):MtR X "str.join" (cB3 K):=by rw[← a];exact cS2
theorem cN1{H:Hp}:∀ {l:List D} {xs:List V},l.length=xs.length->(∀ (j:Nat) d x,l[j]? = some d->xs[j]? = some x->Rp H d x)->Rps H l xs
 | [],[],_,_=>.nil
 | [],_::_,e,_=>by simp at e
 | _::_,[],e,_=>by simp at e
 | d::l,x::xs,e,h=>.cons (h 0 d x rfl rfl) (cN1 (by simpa using e) λj d' a b c=>h (j+1) d' a (by simpa using b) (by simpa using c))
section
variable{σ:Sg}{Q:Res->Sg->Prop}{ra:DA}
end
end Dv
namespace PySem
section
variable{prog:Program}{w:World}{A:Around}{E:Value->Shared->Prop}{s:Shared}
def cE3{it t:Addr}{i:Nat}{b:Array Value}{x:Value}{Q:Value->Shared->Prop}(a:s.heap.IsTupleIter it t i)(f:s.heap.IsTuple t b)(g:b[i]? = some x)
  (q:∀ h',h'.IsTupleIter it t (i+1)->Heap.SameBut it s.heap h'->Q x {s with heap:=h'}):wpAny (model prog w) A (Builtin.SmallTypes.nextOf (.ref it)) Q E s:=by
 obtain⟨o,c,h,hd⟩:=id a;obtain⟨j,d,_,nt,e⟩:=f;unfold Builtin.SmallTypes.nextOf;refine a3Z (wpAny_callSpecial?_slot (name:=Str.ofString "__next__") a.typeIs a0h (a4x a0h a.typeIs F.entry_tuple_iterator_next ?_ (F.args_tuple_iterator_next_1 _)));show wpAny _ _ (field (.ref it) 0 >>= _) _ _ s;refine a3Z (a4F c hd (x:=.ref t) rfl ?_);show wpAny _ _ (if(Value.ref t==Value.none)=true then _ else _) _ _ s;rw[a4j (show ¬ ((Value.ref t==Value.none)=true)from a9b)];show wpAny _ _ (field (.ref it) 1 >>= _) _ _ s;refine a3Z (a4F c hd (x:=.int i 0) rfl ?_);show wpAny _ _ (seqItems? (.ref t) >>= _) _ _ s;refine a3Z (wpAny_seqItems d e ?_);simp only[Int.toNat_natCast,g];refine a3Z (wpAny_setField c hd (by simp) (wpAny_pure ⟨x,rfl,wpAny_pure (q _ ⟨_,Heap.get?_update_self _ c (Obj.isFreed_of_fields (Obj.data_mapFields hd _)),(Obj.cls_mapFields ..).trans h,by rw[Obj.data_mapFields hd];simp[rawInt]⟩ (Heap.SameBut.update ..))⟩))
def aO2{it t:Addr}{i:Nat}{c:Array Value}{Q:Value->Shared->Prop}(h:A.handled=none)(b:s.heap.IsTupleIter it t i)(j:s.heap.IsTuple t c)(k:c[i]? = none)
  (q:∀ h' e,Heap.ExtBut it s.heap h'->(∃ o,h'.get? e=some o/\o.cls=.type "StopIteration")->E (.ref e) {s with heap:=h'}):wpAny (model prog w) A (Builtin.SmallTypes.nextOf (.ref it)) Q E s:=by
 obtain⟨o,d,l,hd⟩:=id b;obtain⟨n,f,_,nt,g⟩:=j;unfold Builtin.SmallTypes.nextOf;refine a3Z (wpAny_callSpecial?_slot (name:=Str.ofString "__next__") b.typeIs a0h (a4x a0h b.typeIs F.entry_tuple_iterator_next ?_ (F.args_tuple_iterator_next_1 _)));show wpAny _ _ (field (.ref it) 0 >>= _) _ _ s;refine a3Z (a4F d hd (x:=.ref t) rfl ?_);show wpAny _ _ (if(Value.ref t==Value.none)=true then _ else _) _ _ s;rw[a4j (show ¬ ((Value.ref t==Value.none)=true)from a9b)];show wpAny _ _ (field (.ref it) 1 >>= _) _ _ s;refine a3Z (a4F d hd (x:=.int i 0) rfl ?_);show wpAny _ _ (seqItems? (.ref t) >>= _) _ _ s;refine a3Z (wpAny_seqItems f g ?_);simp only[Int.toNat_natCast,k];refine a3Z (a4L (a3Z (wpAny_setField d hd (by simp) ?_)));show wpAny _ _ (newExc (.type "StopIteration") [] >>= _) _ _ _;refine a3Z ?_;simp only[newExc,newTuple];refine a3Z (a4t ?_ (by size_fits));refine a3Z (m:=firstArgMember _ _) (wpAny_of_eq (a:=Value.none) (by first | rfl | (simp only[firstArgMember];rfl)) ?_);refine a4t ?_ (by size_fits);simp only[raiseNew];refine a3Z (wpAny_handled ?_);rw[show A.in1.handled=none from h];refine a3Z (a4l (wpAny_throw ?_));exact q _ _ (((Heap.SameBut.update ..).extBut.push _).push _) ⟨_,a0c _ rfl,rfl⟩
end
def Draws.tup{prog:Program}{w:World}{A:Around}(g:A.handled=none)(it t:Addr)(d:t≠it)(a:Array Value) :
  Draws prog w A it [it,t] a.size (λi v=>a[i]? = some v) (λi h=>h.IsTupleIter it t i/\h.IsTuple t a) where
 live:=λ_ _ st=>st.1.imp λ_ z=>z.1
 frame:=λ_ _ _ st f=>⟨st.1.at λo e=>f it (by simp) o e,st.2.at λo e=>f t (by simp) o e⟩
 item:=λi s Q E hi st j=>cE3 st.1 st.2 (x:=a[i]) (by simp[hi]) λh' b c=>j _ h' s.toks (by simp[hi]) ⟨b,st.2.at λo e=>(c.2 t d).trans e⟩ c
 done:=λs Q E st k=>aO2 g st.1 st.2 (by simp) k
end PySem
namespace L2
open PySem PyProof.Rows
section
variable{X:Cx}{pins:List (Addr×Obj)}{σ:St}{H:Hp}{s:Shared}{h':Heap}{ch:List Addr}
def Inv.spun{t':Nat}{a:Addr}{o:HO}(I:Inv X pins σ H s)(h:∀ b∈ch,bL2 X pins H b)(k:∀ b u,b∉ch->s.heap.get? b=some u->h'.get? b=some u)(j:s.heap.objs.size<=a)
  (i:eR X.prog X.w (upd H a o) h' a o):Inv X pins σ (upd H a o) {s with heap:=h',toks:=t'}:=by
 have ha:H a=none:=I.hok.fresh j;have f:∀ b u,H b=some u->b∉ch:=λb u e z=>by rw[(h b z).1]at e;cases e
 refine I.step (g':=s.gens) (d':=s.drawn) (ch:=ch) (λb g=>?_) (λb u _ _ d e _=>k b u d e) (λb u _ _ d e _=>⟨u.slots,k b u d e⟩) (λb u _ e n=>?_) (λb u d e=>⟨u,k b u d e⟩)
  (λb xs e=>by rw[aL (bD e ha)];exact e) (λb u v e=>by rw[aL (bD e ha)];exact e) (λb ps e=>⟨#[],by rw[aL (bD e ha),e];simp⟩) (λm hm=>?_) (λb u e=>?_) I.bare
 ·obtain⟨B,l,C,p,t,x⟩:=h b g;exact⟨p,l,t,x⟩
 ·rw[aL (a1d (a5d (a4b e) j))];exact n
 ·obtain⟨u,es,y,A,r⟩:=hm;exact⟨u,es,y,k _ u (λz=>(h _ z).2.1 rfl) A,r⟩
 ·by_cases g:b=a;subst g;rw[aR]at e;cases e;exact i;rw[aL g]at e;refine(I.hok b u e).stay (λc v d q=>k c v ?_ q) (λc q=>by rw[aL (bD q ha)];exact q) λc xs q=>by rw[aL (bD q ha)];exact q
  rcases d with z | z;rw[z];exact f b u e;exact f c _ z
def Inv.spun0{t':Nat}(I:Inv X pins σ H s)(f:∀ b∈ch,bL2 X pins H b)(k:∀ b u,b∉ch->s.heap.get? b=some u->h'.get? b=some u):Inv X pins σ H {s with heap:=h',toks:=t'}:=by
 have d:∀ b u,H b=some u->b∉ch:=λb u e z=>by rw[(f b z).1]at e;cases e
 refine I.step (g':=s.gens) (d':=s.drawn) (ch:=ch) (λb g=>?_) (λb u _ _ a e _=>k b u a e) (λb u _ _ a e _=>⟨u.slots,k b u a e⟩) (λb u _ e n=>n) (λb u a e=>⟨u,k b u a e⟩)
  (λb xs e=>e) (λb u v e=>e) (λb ps e=>⟨#[],by rw[e];simp⟩) (λm hm=>?_) (λb u e=>?_) I.bare
 ·obtain⟨t,h,w,i,j,l⟩:=f b g;exact⟨i,h,j,l⟩
 ·obtain⟨u,es,o,p,r⟩:=hm;exact⟨u,es,o,k _ u (λz=>(f _ z).2.1 rfl) p,r⟩
 ·refine(I.hok b u e).stay (λc v a q=>k c v ?_ q) (λc q=>q) λc xs q=>q;rcases a with z | z;rw[z];exact d b u e;exact d c _ z
end
noncomputable def dT3(K:W.Frag)(a:Addr):It:=
 ⟨λi H=>∃ xs x,SqT K H a xs/\xs[i]? = some x,λi H v H'=>∃ T x,v=.ref T/\H T=none/\H'=upd H T (.tup [.int i,x])/\∀ xs,SqT K H a xs->xs[i]? = some x,λi H=>∃ xs,SqT K H a xs/\xs.length=i⟩
noncomputable def dT4(K:W.Frag)(a:Addr):It:=
 ⟨λi H=>∃ xs x,SqL K H a xs/\xs[i]? = some x,λi H v H'=>∃ T x,v=.ref T/\H T=none/\H'=upd H T (.tup [.int i,x])/\∀ xs,SqL K H a xs->xs[i]? = some x,λi H=>∃ xs,SqL K H a xs/\xs.length=i⟩
def bB9{P:Program}{w:World}{H:Hp}{h b:Heap}{e it T:Addr}{i:Nat}{tk:Tok}{u:Value}{x:V}(c:h.get? T=some {cls:=.type "tuple",data:=.seq #[.int i tk,u]})(d:b.get? T=h.get? T)(f:fN x u):eR P w (upd H T (.tup [.int i,x])) b T (.tup [.int i,x]):=by
 have a:=d.trans c;exact⟨by show 2<=sizeLine;decide,[.int i tk,u],.cons ⟨tk,rfl⟩ (.cons f .nil),⟨_,a,rfl,_,rfl⟩,⟨_,a,rfl⟩⟩
def bH5{P:Program}{w:World}{K:W.Frag}{D:List Expr}{k:Nat}{pos:Pos}(a e it:Addr)(n:e≠it) :
  Turn P w K (.Tuple D k pos) (dT3 K a) [e,it] e (λi h=>(∃ j,IsEnum h e it i j)/\h.IsTupleIter it a i) where
 mem:=by simp
 obj:=λi h st b g=>by
  obtain⟨⟨j,l⟩,o,F,c,d⟩:=st;rcases a2b.mp g with z | g;subst z;exact⟨_,l,λv z=>by cases z⟩;rw[a9a.mp g];exact⟨o,F,λv z=>by rw[d]at z;cases z⟩
 keep:=λi h h' st k=>by
  obtain⟨⟨j,l⟩,hi⟩:=st;exact⟨⟨j,k e (by simp) _ l⟩,hi.at λo q=>k it (by simp) o q⟩
 item:=by
  intro X N O Q R i pins s σ H E I J st S;subst N O Q;obtain⟨⟨j,l⟩,hi⟩:=st;obtain⟨xs,x,L,M⟩:=S;obtain⟨f,T,p,hz⟩:=I.tuple L;obtain⟨u,hu,ru⟩:=T.get M;have B:s.heap.IsTuple a f.toArray:=p;have r:a≠it:=λz=>by
   obtain⟨o,m,C,_⟩:=B;obtain⟨o',U,G,_⟩:=id hi;rw[z,U]at m;cases m;rw[C]at G;injection G with q;exact absurd q (by decide)
  have V:e≠a:=λz=>by
   obtain⟨o,m,C,_⟩:=B;rw[← z,l]at m;cases m;have Y:Value.type "enumerate"=Value.type "tuple":=C;injection Y with q;exact absurd q (by decide)
  have Z:i < f.toArray.size:=by
   have:=(a2a.mp hu).1;simpa using this
  refine wpAny_pyNext_enum_itemD (Draws.tup (A:=X.A.in1) (I.ok.hd R) it a r f.toArray) l ⟨hi,B⟩ Z n (by simp[n,V]) λy m tk hy F hs' hT hsz hk=>?_;obtain rfl:y=u:=by
   rw[List.getElem?_toArray,hu]at hy;exact(a7a hy).symm
  refine⟨_,rfl,wpAny_letOwnedTupleGo_enum F λC he2 t=>?_⟩;have hTe:s.heap.objs.size≠e:=λz=>absurd (a4b l) (by rw[← z];exact a5e _);have ha:H s.heap.objs.size=none:=I.hok.fresh (a8a _);refine⟨.ref s.heap.objs.size,upd H s.heap.objs.size (.tup [.int i,x]),?_,rfl,⟨_,x,rfl,ha,rfl,λys hys=>by rw[I.tuple_inj hys L];exact M⟩,⟨⟨_,he2⟩,hs'.1.at λo q=>(t.2 it n.symm).trans q⟩,λb g=>?_⟩;exact I.spun (ch:=[e,it]) (t':=tk+1) J (λb u g q=>(t.2 b λz=>g (by simp[z])).trans (hk b u (λz=>g (by simp[z])) (λz=>g (by simp[z])) q)) (a8a _) (bB9 (e:=e) (it:=it) hT (t.2 _ hTe) ru);rw[aL (λz=>?_)];exact(J b g).1;obtain⟨o,F⟩:∃ o,s.heap.get? b=some o:=by
   rcases a2b.mp g with z | g;rw[z];exact⟨_,l⟩;rw[a9a.mp g];exact hi.imp λ_ q=>q.1
  exact absurd (a4b F) (by rw[z];exact a5e _)
 done:=by
  intro X N O Q R i pins s σ H E I J st S;subst N O Q;obtain⟨⟨j,l⟩,hi⟩:=st;obtain⟨xs,L,M⟩:=S;obtain⟨f,T,p,hz⟩:=I.tuple L;have B:s.heap.IsTuple a f.toArray:=p;have r:a≠it:=λz=>by
   obtain⟨o,m,C,_⟩:=B;obtain⟨o',U,G,_⟩:=id hi;rw[z,U]at m;cases m;rw[C]at G;injection G with q;exact absurd q (by decide)
  have hl:f.toArray.size=i:=by rw[a1b,← T.length];exact M
  refine wpAny_pyNext_enum_endD (Draws.tup (A:=X.A.in1) (I.ok.hd R) it a r f.toArray) l ⟨by rw[hl];exact hi,B⟩ λh' hx'=>⟨rfl,I.spun0 (ch:=[e,it]) (t':=s.toks) J λb u g q=>hx' b u (λz=>g (by simp[z])) q⟩
 self:=λ_ _ _ _ _ st h=>wpAny_pyIter_enum st.1.choose_spec h
def bH6{P:Program}{w:World}{K:W.Frag}{D:List Expr}{k:Nat}{pos:Pos}(a e it:Addr)(n:e≠it) :
  Turn P w K (.Tuple D k pos) (dT4 K a) [e,it] e (λi h=>(∃ j,IsEnum h e it i j)/\h.IsListIter it a i) where
 mem:=by simp
 obj:=λi h st b g=>by
  obtain⟨⟨j,l⟩,o,F,c,d⟩:=st;rcases a2b.mp g with z | g;subst z;exact⟨_,l,λv z=>by cases z⟩;rw[a9a.mp g];exact⟨o,F,λv z=>by rw[d]at z;cases z⟩
 keep:=λi h h' st k=>by
  obtain⟨⟨j,l⟩,hi⟩:=st;exact⟨⟨j,k e (by simp) _ l⟩,hi.at λo q=>k it (by simp) o q⟩
 item:=by
  intro X N O Q R i pins s σ H E I J st S;subst N O Q;obtain⟨⟨j,l⟩,hi⟩:=st;obtain⟨xs,x,L,M⟩:=S;obtain⟨f,T,p,hz⟩:=I.list L;obtain⟨u,hu,ru⟩:=T.get M;have B:s.heap.IsList a f.toArray:=p.isList;have r:a≠it:=λz=>by
   obtain⟨o,m,C,_⟩:=B;obtain⟨o',U,G,_⟩:=id hi;rw[z,U]at m;cases m;rw[C]at G;injection G with q;exact absurd q (by decide)
  have V:e≠a:=λz=>by
   obtain⟨o,m,C,_⟩:=B;rw[← z,l]at m;cases m;have Y:Value.type "enumerate"=Value.type "list":=C;injection Y with q;exact absurd q (by decide)
  have Z:i < f.toArray.size:=by
   have:=(a2a.mp hu).1;simpa using this
  refine wpAny_pyNext_enum_itemD (Draws.list (A:=X.A.in1) (I.ok.hd R) it a r f.toArray) l ⟨hi,B⟩ Z n (by simp[n,V]) λy m tk hy F hs' hT hsz hk=>?_;obtain rfl:y=u:=by
   rw[List.getElem?_toArray,hu]at hy;exact(a7a hy).symm
  refine⟨_,rfl,wpAny_letOwnedTupleGo_enum F λC he2 t=>?_⟩;have hTe:s.heap.objs.size≠e:=λz=>absurd (a4b l) (by rw[← z];exact a5e _);have ha:H s.heap.objs.size=none:=I.hok.fresh (a8a _);refine⟨.ref s.heap.objs.size,upd H s.heap.objs.size (.tup [.int i,x]),?_,rfl,⟨_,x,rfl,ha,rfl,λys hys=>by rw[I.list_inj hys L];exact M⟩,⟨⟨_,he2⟩,hs'.1.at λo q=>(t.2 it n.symm).trans q⟩,λb g=>?_⟩;exact I.spun (ch:=[e,it]) (t':=tk+1) J (λb u g q=>(t.2 b λz=>g (by simp[z])).trans (hk b u (λz=>g (by simp[z])) (λz=>g (by simp[z])) q)) (a8a _) (bB9 (e:=e) (it:=it) hT (t.2 _ hTe) ru);rw[aL (λz=>?_)];exact(J b g).1;obtain⟨o,F⟩:∃ o,s.heap.get? b=some o:=by
   rcases a2b.mp g with z | g;rw[z];exact⟨_,l⟩;rw[a9a.mp g];exact hi.imp λ_ q=>q.1
  exact absurd (a4b F) (by rw[z];exact a5e _)
 done:=by
  intro X N O Q R i pins s σ H E I J st S;subst N O Q;obtain⟨⟨j,l⟩,hi⟩:=st;obtain⟨xs,L,M⟩:=S;obtain⟨f,T,p,hz⟩:=I.list L;have B:s.heap.IsList a f.toArray:=p.isList;have r:a≠it:=λz=>by
   obtain⟨o,m,C,_⟩:=B;obtain⟨o',U,G,_⟩:=id hi;rw[z,U]at m;cases m;rw[C]at G;injection G with q;exact absurd q (by decide)
  have hl:f.toArray.size=i:=by rw[a1b,← T.length];exact M
  refine wpAny_pyNext_enum_endD (Draws.list (A:=X.A.in1) (I.ok.hd R) it a r f.toArray) l ⟨by rw[hl];exact hi,B⟩ λh' hx'=>⟨rfl,I.spun0 (ch:=[e,it]) (t':=s.toks) J λb u g q=>hx' b u (λz=>g (by simp[z])) q⟩
 self:=λ_ _ _ _ _ st h=>wpAny_pyIter_enum st.1.choose_spec h
end L2
namespace PySem
open AutoSeq1 (wpAny_loadPart')
noncomputable abbrev dK8(l:Addr):Obj:={cls:=.type "tuple_iterator",data:=.fields #[.ref l,.int 0 0]}
noncomputable abbrev dT5(it:Addr):Obj:={cls:=.type "enumerate",data:=.fields #[.none,.bool false,.ref it,rawInt 0,.none,.none]}
def cE4(l:Addr)(a:Array Value)(n:Nat)(e:Option Addr)(sl:Array (Option Value)) :
  Meets (Builtin.«enumerate.__new__» ⟨[.type "enumerate",.ref l],[]⟩) (λ_ R s=>s.heap.get? l=some {cls:=.type "tuple",dict:=e,data:=.seq a n,slots:=sl} /\
   R (.ok (.ret (.ref (s.heap.push (dK8 l)).objs.size))) {s with heap:=(s.heap.push (dK8 l)).push (dT5 s.heap.objs.size)}):=
 .of_wp λprog w A R s h=>by
  obtain⟨j,g,d,tk,os⟩:=s;obtain⟨b,h⟩:=h;have f:=sub_enumerate;have i:Heap.IsTuple (Shared.heap ⟨j,g,d,tk,os⟩) l a:=⟨_,b,rfl,n,rfl⟩
  wp_walk using a4o b
  refine wpAny_stack_any λst=>a4l ?_;split;rename_i c _ _ _ _ _;cases (c==Value.type "enumerate")<;>(wp_walk using a4o b,a4B i;exact⟨_,rfl,h⟩)
  ·wp_walk using a4o b,a4B i;exact⟨_,rfl,h⟩
section
variable{prog:Program}{w:World}{A:Around}{E:Value->Shared->Prop}{s:Shared}
def bH7{l:Addr}{a:Array Value}{Q:Value->Shared->Prop}(j:s.heap.IsTuple l a)
  (h:∀ h',IsEnum h' (s.heap.objs.size+1) s.heap.objs.size 0 .none->h'.IsTupleIter s.heap.objs.size l 0->h'.objs.size=s.heap.objs.size+2->(∀ b o,s.heap.get? b=some o->h'.get? b=some o)->Q (.ref (s.heap.objs.size+1)) {s with heap:=h'}) :
  wpAny (model prog w) A (call (.type "enumerate") [.ref l]) Q E s:=by
 obtain⟨⟨c,d,k,sl⟩,hl,m,n,hd⟩:=j;have e:c=.type "tuple":=m;have f:k=.seq a n:=hd;subst e f;refine callType_new F.called_enumerate (by decide) (F.typeCall_enumerate_1 _) (F.newCall_enumerate_1 _) (λobj=>F.args_object_init_2 obj _) F.entry_enumerate_new (cE4 l a n d sl) ⟨hl,?_⟩;have g:(s.heap.push (dK8 l)).objs.size=s.heap.objs.size+1:=a6h ..;show _/\_;rw[g];have i:IsEnum ((s.heap.push (dK8 l)).push (dT5 s.heap.objs.size)) (s.heap.objs.size+1) s.heap.objs.size 0 .none:=by
  have:=a0c (s.heap.push (dK8 l)) (o:=dT5 s.heap.objs.size) rfl;rw[g]at this;exact this
 exact⟨⟨_,i,rfl⟩,h _ i ⟨_,a4a _ (a0c _ rfl),rfl,rfl⟩ (by rw[a6h,g]) λb o x=>a4a _ (a4a _ x)⟩
end
end PySem
namespace L2
open PySem PyProof.Rows
section
variable{X:Cx}
def dK9(K:W.Frag)(b:TA):TI:=λσ H R=>b σ H λvs a=>∃ p,vs=[.ref p]/\((∃ xs,gR a p=some (true,xs)/\R (dT4 K p) a)\/∃ xs,gR a p=some (false,xs)/\R (dT3 K p) a)
def cV3(K:W.Frag)(y:X.K=K){g:List Expr}{k:Nat}{i:Pos}{a:Expr}{w:TA}{p pos:Pos}(A:Gl X "enumerate")(hm:X.mg "enumerate"=none)(m:bootBuiltins "enumerate"=some (.type "enumerate"))(ha:PA X [a] w)(B:starEach [a] X.env=[(false,eval a X.env)]:=by rfl):PI X (.Tuple g k i) (.Call (.Name "enumerate" p) [a] [] pos) (dK9 K w):=by
 subst y;intro pins s σ H R I h;refine Call_ (pK I A hm m (a4f (thn (ha pos pins s σ H _ I h) λus s1 Z0=>?_) B rfl));obtain⟨vs,x,f,C,n⟩:=Z0;obtain⟨b,rfl,n⟩:=n;obtain⟨u,rfl,D⟩:=C.one;cases D;have d:∀ c,c∈[s1.heap.objs.size+1,s1.heap.objs.size]->s1.heap.objs.size<=c:=λc e=>by
  rcases a2b.mp e with z | e;lia;rw[a9a.mp e];exact a8a _
 rcases n with⟨xs,o,q⟩ | ⟨xs,o,q⟩;obtain⟨j,E,r,F⟩:=f.list (fB o);refine call_enumerate_list r.isList λh' l hi t v=>wpAny_pyIter_enum l ?_;exact⟨_,[s1.heap.objs.size+1,s1.heap.objs.size],_,_,x,rfl,f.kept (t':=s1.toks) v,bH6 b _ _ (Nat.succ_ne_self _),⟨⟨_,l⟩,hi⟩,λc e=>f.fpOk (d c e) (f.hok.fresh (d c e)),q⟩;obtain⟨j,E,r,F⟩:=f.tuple (eP o);refine bH7 (show s1.heap.IsTuple b j.toArray from r) λh' l hi t v=>wpAny_pyIter_enum l ?_;exact⟨_,[s1.heap.objs.size+1,s1.heap.objs.size],_,_,x,rfl,f.kept (t':=s1.toks) v,bH5 b _ _ (Nat.succ_ne_self _),⟨⟨_,l⟩,hi⟩,λc e=>f.fpOk (d c e) (f.hok.fresh (d c e)),q⟩
end
end L2
namespace Mr
open PySem L2
end Mr
namespace L2
open PySem
section
variable{H:Hp}{Q:VK}{p q:Addr}{xs:List V}
end
end L2
namespace L2
end L2
namespace Mr
open PySem L2
open PyProof.Rows
section
variable{p q f l sp:Addr}{t:Tr}{v:V}{es ls:List V}{zs:List Str}{H0 H H':Hp}{fs:List V}
end
end Mr
namespace L2
open PySem
section
variable{M:Model}{A:Around}{E:Value->Shared->Prop}{s:Shared}
end
open PySem.Spec PyProof.Rows
section
variable{P:Program}{w:World}{H:Hp}{h:Heap}{e:Addr}{C:Value}{d:Option Addr}{tb:Value}
end
section
variable{X:Cx}{pins:List (Addr×Obj)}{σ:St}{H:Hp}{s:Shared}
end
section
variable{P:Program}{w:World}{K:W.Frag}{mg:Str->Option Value}{base:Heap}{N:List Str}{qual:Str}{scope:Scope}{f:Addr}{cd:Value}{A:Around}{outer:List Env}{s:Shared}{H:Hp}{E:XK}
end
end L2
namespace PySem
section
variable{prog:Program}{w:World}{E:Value->Shared->Prop}{A:Around}{os:OsState}{h:Heap}{t:Nat}{g:Array GenState}{d:Drawn}{nK:List Value}{fI:Addr}{oI:Obj}{mN:Str->Option Value}
 {nm q:Str} {B newId initId:String} {C N:Addr} {bs bm bmB sub:List Value} {hdct ab:Bool} {sn:List Str} {col:Option Bool} {dd:Option Addr} {k0 k1 k2 k3 k5:Option Value}
end
end PySem
namespace L2
open PySem PySem.Spec PyProof.Rows
section
variable{P:Program}{w:World}{H:Hp}{h:Heap}{a:Addr}{o:HO}
end
section
variable{X:Cx}{pins:List (Addr×Obj)}{σ:St}{H:Hp}{s:Shared}
end
section
variable{X:Cx}{CX:CXT}{k:Nat}{f C:Addr}{fd:FuncData}{ps:List Str}{sp:Sp}{E:XK}{x:Str}{p pos:Pos}{e:Expr}{es:List Expr}{t:TA}{B newId initId:String}{bmB:List Value}
end
end L2
namespace L2
open PySem
section
variable{M:Model}{A:Around}{E:Value->Shared->Prop}{env:Env}
variable{nm q:Str}{C N:Addr}{bs bm:List Value}{hdct:Bool}{sn:List Str}{sub:List Value}{ab:Bool}{col:Option Bool}{dd:Option Addr}{k0 k1 k2 k3 k5:Option Value}{newId:String}
end
open PyProof.Rows
section
variable{prog:Program}{w:World}{A:Around}{E:Value->Shared->Prop}{h:Heap}{g:Array GenState}{d:Drawn}{t:Nat}{os:OsState}
variable{nm q:Str}{C N:Addr}{bs bm bmB:List Value}{hdct:Bool}{sn:List Str}{sub:List Value}{ab:Bool}{col:Option Bool}{dd:Option Addr}{k0 k1 k2 k3 k5:Option Value}{B newId initId:String}
end
open PySem.W PySem.Spec PySem.Builtin PySem.Builtin.ObjectAttr
section
variable{prog:Program}{w:World}{A:Around}{E:Value->Shared->Prop}{s:Shared}{K:Frag}{x C:Addr}{ox:Obj}{name:Str}{v:Value}{cd:ClassData}{bmB:List Value}{B:String}{Q:Unit->Shared->Prop}{R:Result->Shared->Prop}
end
end L2
namespace L2
open PySem PySem.W PySem.Spec PyProof.Rows
section
variable{prog:Program}{w:World}{A:Around}{E:Value->Shared->Prop}{s:Shared}{K:Frag}{x C:Addr}{ox:Obj}{od:Option Obj}{name:Str}{expr:Bool}{v:Value}{Q:Value->Shared->Prop}{B:String}
end
section
variable{M:Model}{A:Around}{E:Value->Shared->Prop}{s:Shared}
variable{K:Frag}{e C D:Addr}{oe:Obj}{Q:Bool->Shared->Prop}
end
section
variable{prog:Program}{w:World}{A:Around}{E:Value->Shared->Prop}{s:Shared}{K:Frag}{x C:Addr}{ox:Obj}{od:Option Obj}{B:String}
end
end L2
namespace L2
open PySem PySem.Spec PyProof.Rows
section
variable{X:Cx}{o e value:Expr}{to te tv:TE}{f:Str}{pos pos' apos:Pos}
end
section
variable{P:Program}{w:World}{K:W.Frag}{mg:Str->Option Value}{base:Heap}{N:List Str}{qual:Str}{scope:Scope}{f:Addr}{cd:Value}{A:Around}{outer:List Env}{s:Shared}{H:Hp}{E:XK}{x:Expr}{te:TE}{pos:Pos}
end
section
variable{X:Cx}{C:Addr}{x:Str}{p pos:Pos}{e:Expr}{es:List Expr}{t:TA}
end
section
variable{X:Cx}{R:Str}{CR:Addr}{rp apos pos:Pos}{a:Expr}{as:List Expr}{t:TA}
end
section
variable{X:Cx}{e:Expr}{te:TE}{z1:Str}{j:Nat}{p p' pos:Pos}
end
theorem aO3:∀ {a:List Addr} {us:List Value},cQ (a.map V.ref) us->us=a.map Value.ref
 | [],_,.nil=>rfl
 | D::r,_,.cons b c=>by
   cases (show _=Value.ref D from b);rw[aO3 c];rfl
section
variable{X:Cx}{pins pins':List (Addr×Obj)}{σ:St}{H:Hp}{s:Shared}{E:Value->Shared->Prop}{e:Value}
end
section
variable{X:Cx}{CX:CXT}{k:Nat}{f:Addr}{fd:FuncData}{ps:List Str}{sp:Sp}{E:St->XK}{x:Str}{p pos:Pos}{e:Expr}{es:List Expr}{t:TA}{pins0:List (Addr×Obj)}
end
section
variable{X:Cx}{pins:List (Addr×Obj)}{σ:St}{H:Hp}{s:Shared}{T:Addr}{oT:Obj}
end
abbrev TH:=Addr->Addr->Option Addr->Addr->TS
section
variable{X:Cx}{t:Expr}{tt:TE}{n:Str}{i:Nat}{b0:Stmt}{body:List Stmt}{ts:TS}{pos:Pos}{nK:List ExceptHandler}{th:TH}
end
section
variable{X:Cx}
end
section
variable{K:W.Frag}{t:TA}{te to tv:TE}{f:Str}{σ:St}{H:Hp}{Q:VK}{D:Ends}{sp:Sp}{C:Addr}{E:XK}{Ex:St->XK}{tb:(St->XK)->TS}{th:TH}{i:Nat}{ts:TS}
end
end L2
namespace Mr
open PySem L2 PyProof.Rows
end Mr
namespace Mr
open PySem L2
section
variable{K:W.Frag}{H:Hp}{C t D0 D1 D2 D3:Addr}{b0 b1 b2 b3:Bool}
end
end Mr
namespace Dv
open PySem L2 Mr
section
variable{P:Program}{w:World}{K:W.Frag}{mg:Str->Option Value}{base:Heap}
end
section
variable{K:W.Frag}{H:Hp}{C fI:Addr}{E:XK}
end
section
variable{K:W.Frag}{H:Hp}{C fI:Addr}{E:XK}
end
end Dv
namespace Dv
open PySem L2
noncomputable def xM(n:Nat):List D->List D
 | []=>[]
 | d::r=>.tup [.int (n:Int),d]::xM (n+1) r
theorem jQ:∀ (n:Nat) (l:List D),(xM n l).length=l.length
 | _,[]=>rfl
 | n,_::r=>by show(xM (n+1) r).length+1=r.length+1;rw[jQ]
theorem kK:∀ {n:Nat} {l:List D} {i:Nat} {d:D},(xM n l)[i]? = some d->∃ y,l[i]? = some y/\d=.tup [.int ((n+i:Nat):Int),y]
 | _,[],_,_,h=>by simp[xM]at h
 | n,y::r,0,d,h=>by
   simp[xM]at h;exact⟨y,rfl,by rw[← h];rfl⟩
 | n,y::r,i+1,d,h=>by
   obtain⟨z,e,q⟩:=kK (n:=n+1) (l:=r) (i:=i) (d:=d) (by simpa[xM]using h);exact⟨z,by simpa using e,by rw[q,show n+1+i=n+(i+1) by lia]⟩
def bR0{K:W.Frag}{p:Addr}{xs:List V}{l:List D}:ItD (dT4 K p) (xM 0 l) (λH=>SqL K H p xs/\Rps H l xs) where
 go:=λH i d ⟨h,r⟩ e=>by
  obtain⟨y,a,_⟩:=kK e;obtain⟨x,ex,_⟩:=r.get a;exact⟨xs,x,h,ex⟩
 yld:=λH i d v H' ⟨h,r⟩ e ⟨T,x,c,b,f,g⟩=>by
  obtain⟨y,a,rfl⟩:=kK e;obtain⟨k,ex,j⟩:=r.get a;have:=g xs h;rw[ex]at this;cases this;subst c f;refine⟨bU b,.tup aR (.cons ?_ (.cons (j.mono (Ext.same (bU b))) .nil))⟩;rw[a0g];exact .int _
 stop:=λH ⟨h,r⟩=>⟨xs,h,by rw[jQ,r.length]⟩
def bR1{K:W.Frag}{p:Addr}{xs:List V}{l:List D}:ItD (dT3 K p) (xM 0 l) (λH=>SqT K H p xs/\Rps H l xs) where
 go:=λH i d ⟨h,r⟩ e=>by
  obtain⟨y,a,_⟩:=kK e;obtain⟨x,ex,_⟩:=r.get a;exact⟨xs,x,h,ex⟩
 yld:=λH i d v H' ⟨h,r⟩ e ⟨T,x,c,b,f,g⟩=>by
  obtain⟨y,a,rfl⟩:=kK e;obtain⟨k,ex,j⟩:=r.get a;have:=g xs h;rw[ex]at this;cases this;subst c f;refine⟨bU b,.tup aR (.cons ?_ (.cons (j.mono (Ext.same (bU b))) .nil))⟩;rw[a0g];exact .int _
 stop:=λH ⟨h,r⟩=>⟨xs,h,by rw[jQ,r.length]⟩
noncomputable def dT6:D->Option (List D)
 | .lst l=>some l
 | .tup l=>some l
 | _=>none
noncomputable def bR2(r:DE):DI:=λσ=>(r σ).bind λx=>(rd x.2 x.1).bind λd=>(dT6 d).bind λl=>some (xM 0 l,(match x.1 with | .slot i=>some i | _=>none),x.2)
def cV4{X:Cx}{tg e:Expr}{r:DE}(K:W.Frag)(h:∀ Γ,PI X tg e (dK9 K (dTA Γ (aE r aV)))):GI X tg e (bR2 r):=.mk λΓ=>piW (h Γ) λσV H R ⟨σ,ok,items,l,z,e,k⟩=>by
 obtain⟨⟨x,n⟩,A,e⟩:=aC e;obtain⟨d,o,e⟩:=aC e;obtain⟨g,q,e⟩:=aC e;cases e;refine⟨σ,ok,[x],n,?_,λvs y a i j C=>?_⟩;show((_:Option _).bind _)=_;rw[A];rfl
 cases i with
 | cons i t _=>
   cases t;have vw:=i.vw a o;cases d with
   | lst B=>
     cases q;obtain⟨p,xs,rfl,m,s⟩:=iM vw;refine⟨p,rfl,.inl ⟨xs,m,k _ y _ a j (bR0 (xs:=xs)) λc b u f=>?_⟩⟩;obtain⟨v,w⟩:=xE a i o (items:=g) rfl vw p true xs rfl m s c b u f;exact⟨fB v,w⟩
   | tup B=>
     cases q;obtain⟨p,xs,rfl,m,s⟩:=gO vw;refine⟨p,rfl,.inr ⟨xs,dS m,k _ y _ a j (bR1 (xs:=xs)) λc b u f=>?_⟩⟩;obtain⟨v,w⟩:=xE a i o (items:=g) rfl vw p false xs rfl (dS m) s c b u f;exact⟨eP v,w⟩
   | _=>cases q
theorem mR{σ:Sg}{a:DE}{K:List D->Option Nat->Sg->Prop}:RI (bR2 a) σ K=RE a σ λx b=>RD b x λd=>OK1 (dT6 d) λl=>K (xM 0 l) (match x with | .slot i=>some i | _=>none) b:=by
 unfold RI RE RD bR2;simp only[aX,bV];try rfl
end Dv
namespace L2
open PySem PySem.Spec PyProof.Rows
theorem bR3:∀ {xs:List V} {us:List Value},xs.length=us.length->(∀ (j:Nat) (x:V) (y:Value),xs[j]? = some x->us[j]? = some y->fN x y)->cQ xs us
 | [],[],_,_=>.nil
 | [],_::_,h,_=>by simp at h
 | _::_,[],h,_=>by simp at h
 | x::xs,u::us,h,k=>.cons (k 0 x u rfl rfl) (bR3 (by simpa using h) λj a b ha c=>k (j+1) a b (by simpa using ha) (by simpa using c))
section
variable{X:Cx}
def bC0:List V->Hp->VK->Prop:=λvs H Q=>∃ n:Int,vs=[.int n]/\0<=n/\n<=1000/\∀ r,H r=none->Q (.ref r) (upd H r (.lst ((List.range n.toNat).map λ(i:Nat)=>V.int (i:Int))))
def aI6(m:X.calm=true):∀ pins s σ H vs us Q,Inv X pins σ H s->cQ vs us->bC0 vs H Q ->
  wpAny (model X.prog X.w) X.A (call (.type "range") us) (λu s1=>wpAny (model X.prog X.w) X.A (call (.type "list") [u]) (EP X pins σ Q) X.xe s1) X.xe s:=by
 intro pins s σ H vs us Q I p h;obtain⟨n,rfl,h0,F,q⟩:=h;obtain⟨u,rfl,r⟩:=p.one;obtain⟨t,rfl⟩:=r;refine call_range_1 ?_;have f:Builtin.Range.rangeSize 0 n 1=((n.toNat:Nat):Int):=by rw[rangeSize_one];split<;>lia
 refine call_list_range (s:={s with heap:=s.heap.push {cls:=.type "range",data:=.fields #[.int 0 s.toks,.int n t,.int 1 (s.toks+1)]},toks:=s.toks+1+1}) (I.ok.hd m) (IsRange.new ..) (small_one (by lia) (by lia) (by lia) (by lia)) f (by lia) λh' tk acc c v z a=>?_;have d:(s.heap.push {cls:=.type "range",data:=.fields #[.int 0 s.toks,.int n t,.int 1 (s.toks+1)]}).objs.size=s.heap.objs.size+1:=a6h ..;have B:cQ ((List.range n.toNat).map λ(i:Nat)=>V.int (i:Int)) acc.toList:=by
  obtain⟨C,g⟩:=a;refine bR3 (by rw[a1a,a1f,a5f,C]) λj x y k l=>?_;rw[a9f]at l;obtain⟨t',rfl⟩:=g j y l;rw[a8b]at k;obtain⟨i,hi,rfl⟩:=a6c.mp k;obtain⟨_,e⟩:=a2a.mp hi;rw[List.getElem_range]at e;subst e;refine⟨t',?_⟩;simp
 refine⟨.ref (s.heap.objs.size+1),upd H (s.heap.objs.size+1) _,?_,by show Value.ref _=_;rw[d],q _ (I.hok.fresh (Nat.le_succ _))⟩;refine I.laid (t':=tk) (λb o D=>v b o (a4a _ D)) (Nat.le_succ _) ⟨by rw[a1a,a1f];exact a4c (by lia:n.toNat<=1000) (by decide),acc.toList,c,B,?_⟩;have E:h'.get? (s.heap.objs.size+1)=some (dZ7 acc c):=by rw[← d];exact z
 rw[E,Array.toArray_toList]
end
section
variable{t tk tv td ty tx:TE}{r:List (TE×TE)}{σ:St}{H:Hp}{Q:VK}{R:List (V×V)->Hp->Prop}
end
end L2
namespace Mr
open PySem L2 PyProof.Rows
theorem aB4{m:Nat}{sep:Str}(b:∀ c∈sep.cps.toList,c < m):∀ d:List Str,(∀ z∈d,∀ c∈z.cps.toList,c < m)->∀ c∈(Str.join sep d).cps.toList,c < m
 | [],_=>λc a=>by simp[Str.join,Str.empty]at a
 | [x],h=>λc a=>h x a3a c a
 | x::y::r,h=>λc a=>by
   have f:=aB4 b (y::r) λz g=>h z (a6a _ g);have e:(Str.join sep (x::y::r)).cps.toList=x.cps.toList++sep.cps.toList++(Str.join sep (y::r)).cps.toList:=by
    show(x++sep++Str.join sep (y::r)).cps.toList=_;rw[Str.cps_append,Str.cps_append,Array.toList_append,Array.toList_append]
   rw[e]at a;rcases a5b.mp a with a | a;rcases a5b.mp a with a | a;exact h x a3a c a;exact b c a;exact f c a
def aW1{m:Nat}{sep:Str}(b:∀ c∈sep.cps.toList,c < m)(a:List Str)(h:∀ z∈a,∀ c∈z.cps.toList,c < m):∀ c∈(Txt.join sep a).cps.toList,c < m:=by
 show ∀ c∈(Builtin.Str.glued sep a).cps.toList,c < m;rw[StrLaws.glued_eq_join];exact aB4 b a h
def cV5:∀ c∈(Str.ofString "abcdefghijklmnopqrstuvwxyz").cps.toList,c < 128:=by decide
end Mr
namespace Dv
open PySem L2 Mr
open Classical in
noncomputable def aW2:FN:=λa=>match a with
 | [.int n]=>if 0<=n/\n<=1000 then some (.own (.lst (xF 0 n.toNat)))else none
 | _=>none
def cE5{H:Hp}(n:Nat):Rps H (xF 0 n) ((List.range n).map λ(i:Nat)=>V.int (i:Int)):=by
 refine cN1 (by unfold xF;rw[a1a,a1a]) λj d x a b=>?_;unfold xF at a;rw[a8b]at a b;obtain⟨k,c,rfl⟩:=a6c.mp a;rw[c]at b;cases b;rw[Int.zero_add];exact .int _
def bC1:bA5 bC0 aW2:=by
 intro H d vs Q res vw e k;unfold aW2 at e;split at e
 ·rename_i n;split at e
  ·rename_i hn;cases e;cases vw with
   | cons a t=>
     cases t;rcases a with a | ⟨p,_,c⟩;cases a;exact⟨n,rfl,hn.1,hn.2,λr b=>k _ _ (bU b) ⟨r,rfl,b,_,aR,cE5 _⟩⟩;exact c.elim
  ·cases e
 ·cases e
theorem mS{n:Int}{K:Res->Prop}:OK1 (aW2 [.int n]) K=((0<=n/\n<=1000)/\K (.own (.lst (xF 0 n.toNat)))):=by
 show OK1 (if _ then _ else none) K=_;rw[cI];rfl
section
variable{Γ:Gm}{H H1:Hp}{σ σ1:Sg}{σV:St}{p:Addr}{o o':HO}
end
def aS{X:Cx}{E:Ex}{i:Nat}{x:Str}{e:Expr}{r:DE}{pos a:Pos}(b:X.N.Nodup)(hi:X.N[i]? = some x)(c:Loc X.env.scope x)(d:GE X e r)(f:swapsWith e (some (.Name x a)) pos.line X.env=pure false:=by rfl)(g:X.fn x=true\/X.env.scope.names.lookup x=some .local:=by first | exact .inl rfl | exact .inr rfl | assumption) :
  GS E X (.Assign [.Name x a] e pos) (dA i r):=dI7 λΓ=>pL b hi c (d.to Γ) f g
theorem tY{z:Str}{i:Int}{K:Res->Prop}:OK1 (ixD (.str z) (.int i)) K=(z.length<=sizeLine/\OK1 (atI z.cps.toList i) λc=>K (.val (.str ⟨#[c]⟩))):=by
 show OK1 (if _ then _ else none) K=_;rw[cI,aO1]
def cV6{z:Str}{K:Res->Prop}(h:z.length<=sizeLine):OK1 (uQ [.str z]) K=K (.val (.int z.length)):=by
 show OK1 (if _ then _ else none) K=_;rw[cI];exact propext ⟨λh=>h.2,λk=>⟨h,k⟩⟩
noncomputable def fo(x:Option (Bool×D)):Option Sl:=x.map λp=>⟨if p.1=true then .own else .val,p.2⟩
theorem tZ{x:Option (Bool×D)}{r:Sg}{s:Sl}{K:Sg->Prop}:PK 0 (fo x::r) s K=K (some s::r):=by
 cases x with
 | none=>rfl
 | some p=>
   obtain⟨b,d⟩:=p;cases b<;>rfl
@[irreducible] noncomputable def aO4(ow:List Nat)(g:DG)(t:DT)(e:DE)(items:List D)(a:Sg):=aV2 ow g t e items a
@[irreducible] noncomputable def cN2(g:DG)(b:DS)(items:List D)(σ:Sg):=bP9 g b items σ
@[irreducible] noncomputable def bC2(c:DT)(b:DS)(σ:Sg):=vK c b dB0 σ
section
variable{σ:Sg}{QS:Out->Prop}{Q:Res->Sg->Prop}{ri:DI}{g:DG}{b:DS}{a:DE}{ra:DA}
theorem mT:RS (xG ri g b) σ QS=RI ri σ λitems l a=>OK1 (cN2 g b items (lendO l a)) λo=>QS (aN4 l a o):=by
 unfold cN2;exact dK7
theorem gB{c:DT}:RS (aB0 c b) σ QS=OK1 (bC2 c b σ) QS:=by unfold bC2;rfl
theorem iR{ow:List Nat}{t:DT}{e:DE}:RE (cG ow ri g t e) σ Q=RI ri σ λitems l a=>items.length<=sizeLine/\OK1 (aO4 ow g t e items (cP ow (lendO l a))) λy=>Q (.own (.lst y.1)) (aK9 l a (oZ ow (lendO l a) y.2)):=by
 unfold aO4;exact cV0
def jD{items:List D}(P:Nat->Sg->Prop)(h0:P 0 σ)(e:∀ i d σ,items[i]? = some d->P i σ->OK1 (g d σ) λc=>RS b c λo=>∃ a,(o=.nx a\/o=.ct a)/\P (i+1) a){K:Out->Prop}(k:∀ σ',P items.length σ'->K (.nx σ')):OK1 (cN2 g b items σ) K:=by
 unfold cN2;exact cU8 P h0 e k
def bR4{items:List D}(P:Nat->Sg->Prop){K:Out->Prop}(h0:P 0 σ)(e:∀ i d σ,items[i]? = some d->P i σ->OK1 (g d σ) λc=>RS b c λo=>(∃ a,(o=.nx a\/o=.ct a)/\P (i+1) a)\/(∃ x a,o=.rt x a/\K (.rt x a))\/(∃ a,o=.bk a/\K (.nx a)))(k:∀ σ',P items.length σ'->K (.nx σ')):OK1 (cN2 g b items σ) K:=by
 unfold cN2;exact cU9 P h0 e k
def uW{c:DT}(P:Nat->Sg->Prop)(m:Nat)(hm:m < 1000000)(h0:P m σ)(e:∀ m σ,P m σ->RT c σ λt d=>if t=true then RS b d λo=>(∃ a m',(o=.nx a\/o=.ct a)/\m' < m/\P m' a)\/(∃ x a,o=.rt x a/\QS (.rt x a))\/(∃ a,o=.bk a/\QS (.nx a))else QS (.nx d)):OK1 (bC2 c b σ) QS:=by
 unfold bC2;exact bQ8 P m hm h0 e
def kL{ow:List Nat}{t:DT}{e:DE}{K:List D×Sg->Prop}(items:List D)(a:Sg)(P:Nat->List D->Sg->Prop)(h0:P 0 [] a)
  (j:∀ i d acc a,items[i]? = some d->P i acc a->OK1 (g d a) λf=>RT t f λb c=>if b=true then RE e c λr h=>∃ v,r=.val v/\P (i+1) (acc++[v]) (cP ow h)else P (i+1) acc (cP ow c))
  (k:∀ acc a,P items.length acc a->K (acc,a)):OK1 (aO4 ow g t e items a) K:=by
 unfold aO4;exact xK items a P h0 j k
end
end Dv
namespace PySem
structure Fill(prog:Program)(w:World)(A:Around)(S I:Addr)(n:Nat)(P:Nat->Value->Prop)(J:Nat->Heap->Prop):Prop where
 put:∀ i v (s:Shared) (Q:Bool->Shared->Prop) (E:Value->Shared->Prop),i < n->P i v->J i s.heap ->
  (∀ b h' tk,J (i+1) h'->(∀ c o,c≠S->s.heap.get? c=some o->h'.get? c=some o)->Q b {s with heap:=h',toks:=tk})->wpAny (model prog w) A (setAdd S v) Q E s
 stay:∀ i h h',J i h->(∀ c o,c≠I->h.get? c=some o->h'.get? c=some o)->J i h'
section
variable{prog:Program}{w:World}{A:Around}{E:Value->Shared->Prop}{R:Result->Shared->Prop}{S I:Addr}{fp:List Addr}{n:Nat}{P:Nat->Value->Prop}{St J:Nat->Heap->Prop}
theorem aO5(W:Walks prog w A.in1 I fp [I] n P St)(F:Fill prog w A.in1 S I n P J)(l:S∉fp) :
  ∀ (k i:Nat) (s:Shared),i+k=n->St i s.heap->J i s.heap ->
    (∀ h' tk,J n h'->(∀ c o,c≠S->c≠I->s.heap.get? c=some o->h'.get? c=some o)->R (.ok (.ret .none)) {s with heap:=h',toks:=tk}) ->
    codeAny (model prog w) A (.builtin "set.update.loop" ⟨[.ref S,.ref I],[]⟩) R s
 | 0,i,s,m,st,j,q=>by
   have hi:i=n:=m;subst hi;refine a4w PyProof.Rows.F.entry_set_update_loop ?_;rw[a7g a8g _]
   (show wpAny _ A.in1 (pyNext (.ref I) >>= _) _ _ s;refine a3Z (W.done s _ _ st λh' tk d=>?_))
   have p:∀ c o,c≠I->s.heap.get? c=some o->h'.get? c=some o:=λc o a e=>d c o (by simpa using a) e;exact a4l (q h' tk (F.stay _ _ _ j p) λc o _ a e=>p c o a e)
 | k+1,i,s,m,st,j,q=>by
   have hi:i < n:=by lia
   refine a4w PyProof.Rows.F.entry_set_update_loop ?_;rw[a7g a8g _]
   (show wpAny _ A.in1 (pyNext (.ref I) >>= _) _ _ s;refine a3Z (W.item i s _ _ hi st λv u x y f g=>?_))
   have k1:∀ c o,c≠I->s.heap.get? c=some o->u.get? c=some o:=λc o a e=>g c o (by simpa using a) e
   (show wpAny _ A.in1 (holding [v] (setAdd S v) >>= _) _ _ _;refine a3Z (a4p ?_))
   refine F.put i v _ _ _ hi y (F.stay _ _ _ j k1) λb B C D k2=>?_;refine a4l ⟨a4D a8g _,?_⟩;have h:St (i+1) B:=W.frame _ _ _ f λc a o e=>k2 c o (λz=>l (z ▸ a)) e;exact aO5 W F l k (i+1) _ (by lia) h D λh' tk E G=>q h' tk E λc o r t e=>G c o r t (k2 c o r (k1 c o t e))
def cV7{T b a:String}{args:List Value}{Q Q₁:Value->Shared->Prop}{s:Shared}(k:TypeCalled T b a)(l:checkTypeCall T ⟨args,[]⟩=pure ())
  (g:codeAny (model prog w) A.in1 (.call (.builtin b) ⟨.type T::args,[]⟩) (wants Q₁ E) s)
  (h:∀ obj d,Q₁ obj d->d.TypeIs obj T/\codeAny (model prog w) A.in1 (.call (.builtin a) ⟨obj::args,[]⟩) (wants (λr i=>r=.none/\Q obj i) E) d) :
  wpAny (model prog w) A (call (.type T) args) Q E s:=by
 obtain⟨n1,n2,⟨c,n,n3⟩,o,p,q,j⟩:=k;have t:=j.lookup;refine wpAny_call (codeAny_of_tree (a4l ⟨Code.quiet_builtin _ (by decide +kernel),a4w F.entry_type_call ?_⟩));rw[Around.under_plain (weight_type_call_type T args []) rfl]
 repeat (any_goals (first | assumption | wp_step))
 refine a4G g λr s1 f=>?_
 match r,f with
 | .error e,f=>exact f
 | .ok (.ret obj),f=>
   obtain⟨u,hi⟩:=h obj s1 f;have v:=j.bind obj
   repeat (any_goals (first | assumption | wp_step))
   refine a4G hi λr s2 f=>?_
   match r,f with
   | .error e,f=>exact f
   | .ok (.ret x),⟨m,y⟩=>
     subst m
     repeat (any_goals (first | assumption | wp_step))
end
open Sem (wp)
def aO6:typeLookup (.type "list") "keys"=pure none:=by rw[typeLookup_type,builtinLookup_eq_fast];kernel_rfl
def aO7:entryFor table "dict.update.loop"=some Builtin.«dict.update.loop»:=entryFor_of_tree (by kernel_rfl)
def nV:plainId "dict.update.loop"=true:=by decide +kernel
section
variable{prog:Program}{w:World}{A:Around}{E:Value->Shared->Prop}
def bR5{s:Shared}{a:Addr}{o:Obj}{xs:Array Value}{k:Nat}{Q:Option Value->Shared->Prop}(l:s.heap.get? a=some o)(m:o.cls=.type "list")(f:o.data=.seq xs k)(hd:o.dict=none)(p:A.handled=none)
  (h:∀ h' tk,(∀ b o,s.heap.get? b=some o->h'.get? b=some o)->Q none {s with heap:=h',toks:=tk}):wpAny (model prog w) A (getAttr? (.ref a) "keys") Q E s:=by
 obtain⟨c,q,r,sl⟩:=o;simp only at m f hd;subst m f hd;obtain⟨t,g,d,tk,os⟩:=s;have n:∀ i,(⟨t,g,d,i,os⟩:Shared).TypeIs (.ref a) "list":=λ_=>⟨_,l,rfl⟩;have u:=sub_AttributeError;have v:=F.slot_list_getattribute.lookup;have x:=F.slot_list_getattribute.bind (.ref a);have y:=am_list_getattr_none;unfold getAttr? getAttrBy? getAttrBy
 repeat (any_goals (first | assumption | exact n _ | ((with_reducible show wpAny _ _ (call (Value.builtin "list.__getattribute__") _ _) _ _ _);refine a4A F.slot_list_getattribute (n _) am_entry_list_getattribute (F.args_list_getattribute_2 _ _) (meets_getattribute_miss_list a xs k sl "keys" _ aO6 (by decide) (by size_fits)) ⟨l,p,λh' i e j=>?_⟩) | wp_step))
 obtain⟨z,B,C⟩:=j.there;show wpAny _ _ (getattributeRaised _ _ _ _ _ _ _) _ _ _;unfold getattributeRaised hookOrError attributeErrorLeaves
 repeat (any_goals (first | assumption | wp_step))
 exact h _ _ j.keeps
def bH8{s:Shared}{a:Addr}{u x:Value}{Q:List Value->Shared->Prop}(f:s.heap.IsTuple a #[u,x])(h:Q [u,x] s):wpAny (model prog w) A (Builtin.Dict.pairItems (.ref a)) Q E s:=by
 obtain⟨⟨c,i,j,sl⟩,k,b,n,e⟩:=f;simp only at b e;subst b e;obtain⟨l,g,d,tk,os⟩:=s;have m:(⟨l,g,d,tk,os⟩:Shared).TypeIs (.ref a) "tuple":=⟨_,k,rfl⟩;unfold Builtin.Dict.pairItems
 repeat (any_goals (first | assumption | wp_step))
end
section
variable{prog:Program}{w:World}{A:Around}{E:Value->Shared->Prop}{R:Result->Shared->Prop}{d I:Addr}{fp:List Addr}{n:Nat}{P:Nat->Value->Prop}{St:Nat->Heap->Prop}{κ:Type}[DecidableEq κ]{knd:KeyKind prog w κ}
def bH9{K:Type}[DecidableEq K](l:List (K×Value))(k:K)(v:Value):(stored l k v).length<=l.length+1:=by
 unfold stored;split<;>simp
theorem dul(W:Walks prog w A.in1 I fp [I] n P St)(hd:d∉fp)(x:I≠d){h₀:Heap}(h0:∀ b o,h₀.get? b=some o->b≠d/\b≠I)(prs:List (κ×Value))(hn:prs.length=n)(hsz:n < 4000)
  (M:∀ i v p,P i v->prs[i]? = some p->∃ a u,v=.ref a/\h₀.IsTuple a #[u,p.2]/\knd.is p.1 u=true) :
  ∀ (k i:Nat) (c:Tok) (s:Shared) (kvs:List (κ×Value)),i+k=n->St i s.heap->s.heap.DictOf knd d kvs->kvs.length<=i->(∀ b o,h₀.get? b=some o->s.heap.get? b=some o) ->
    (∀ h' tk,h'.DictOf knd d ((prs.drop i).foldl (λl p=>stored l p.1 p.2) kvs)->(∀ b o,h₀.get? b=some o->h'.get? b=some o)->R (.ok (.ret .none)) {s with heap:=h',toks:=tk}) ->
    codeAny (model prog w) A (.builtin "dict.update.loop" ⟨[.ref d,.ref I,.int i c,.none],[]⟩) R s
 | 0,i,c,s,kvs,N,st,y,hl,B,q=>by
   have hi:i=n:=N;subst hi;refine a4w aO7 ?_;rw[a7g nV _]
   (show wpAny _ A.in1 (pyNext (.ref I) >>= _) _ _ s;refine a3Z (W.done s _ _ st λh' tk C=>?_))
   have O:∀ c o,c≠I->s.heap.get? c=some o->h'.get? c=some o:=λc o f e=>C c o (by simpa using f) e;rw[List.drop_of_length_le (by lia)]at q;have D:h'.DictOf knd d kvs:=let ⟨o,es,g,h,r⟩:=y;⟨o,es,g,O d o (a0e x) h,r⟩
   exact a3Z (a4l (a4l (q h' tk D λb o e=>O b o (h0 b o e).2 (B b o e))))
 | k+1,i,c,s,kvs,N,st,y,hl,B,q=>by
   have hi:i < n:=by lia
   refine a4w aO7 ?_;rw[a7g nV _]
   (show wpAny _ A.in1 (pyNext (.ref I) >>= _) _ _ s;refine a3Z (W.item i s _ _ hi st λv j E Q F G=>?_))
   have k2:∀ c o,c≠I->s.heap.get? c=some o->j.get? c=some o:=λc o f e=>G c o (by simpa using f) e;have g:prs[i]? = some prs[i]:=a0a (by lia);obtain⟨a,u,rfl,S,T⟩:=M i v _ Q g;have m:∀ b o,h₀.get? b=some o->j.get? b=some o:=λb o e=>k2 b o (h0 b o e).2 (B b o e);have H:j.IsTuple a #[u,prs[i].2]:=let ⟨o,h,r⟩:=S;⟨o,m a o h,r⟩
   have J:j.DictOf knd d kvs:=let ⟨o,es,g,h,r⟩:=y;⟨o,es,g,k2 d o (a0e x) h,r⟩
   refine a3Z (a4p (a3Z (wpAny_tryCatch (bH8 (s:={s with heap:=j,toks:=E}) H ?_))));dsimp only;refine a4p (wpAny_dictSet_pairs (hsz:=by unfold sizeLine;lia) T J λU K t=>?_);refine a4l ⟨a4D nV _,?_⟩;have L:St (i+1) U:=W.frame _ _ _ F λc f o e=>(t.2 c λz=>hd (z ▸ f)).trans e;have V:prs.drop i=prs[i]::prs.drop (i+1):=List.drop_eq_getElem_cons (by lia);refine dul W hd x h0 prs hn hsz M k (i+1) 0 _ _ (by lia) L K (a4c (bH9 ..) (by lia)) (λb o e=>(t.2 b (h0 b o e).1).trans (m b o e)) λh' tk X Y=>?_;refine q h' tk ?_ Y;rw[V];exact X
end
end PySem
namespace PySem
noncomputable abbrev bI0(es:Array (Int×Value))(a:Nat)(t:SetTable):Obj:={cls:=.type "set",dict:=none,data:=.set es a t}
noncomputable def uX(w:World):Bool:=!w.params.followText "set-order"
section
variable{prog:Program}{w:World}{A:Around}{E:Value->Shared->Prop}{s:Shared}
def cV8(a:Value){Q:Value->Shared->Prop}(h:Q (.ref s.heap.objs.size) {s with heap:=s.heap.push (bI0 #[] 0 (.fresh 0 0 (uX w)))}) :
  codeAny (model prog w) A (.call (.builtin "set.__new__") ⟨[.type "set",a],[]⟩) (wants Q E) s:=by
 refine codeAny_call_builtin F.plain_set_new F.entry_set_new (wpAny_of_eq (F.newCall_set_1 a) ?_);have b:=sub_set_self;unfold Builtin.«set.__new__» Builtin.Frozenset.newClass;obtain⟨c,g,d,tk,os⟩:=s
 wp_walk
 refine wpAny_askSetting (a4l ?_);simp only[newObj];exact a3Z (wpAny_alloc (a4l (a4l h)))
end
section
variable{prog:Program}{w:World}{A:Around}{E:Value->Shared->Prop}{n:Nat}{P:Nat->Value->Prop}{St J:Nat->Heap->Prop}
structure Src(prog:Program)(w:World)(A:Around)(h₀:Heap)(l:Addr)(n:Nat)(P:Nat->Value->Prop) where
 T:String
 St:Addr->Nat->Heap->Prop
 ob:Obj
 ty:∃ o,h₀.get? l=some o/\o.cls=.type T
 n1:isSubtype (.type T) (.type "set")=pure false
 n2:isSubtype (.type T) (.type "frozenset")=pure false
 n3:(Value.type T==Value.type "dict")=false
 iter:∀ (A:Around) (s:Shared) (Q:Value->Shared->Prop) (E:Value->Shared->Prop),(∀ b o,h₀.get? b=some o->s.heap.get? b=some o)->Q (.ref s.heap.objs.size) {s with heap:=s.heap.push ob}->wpAny (model prog w) A (pyIter (.ref l)) Q E s
 free:ob.isFreed=false
 walk:∀ (A':Around),A'.handled=A.handled->∀ I,l≠I->Walks prog w A' I [I,l] [I] n P (St I)
 lC:∀ h:Heap,(∀ b o,h₀.get? b=some o->h.get? b=some o)->St h.objs.size 0 (h.push ob)
def cE6{s:Shared}{l:Addr}{Q:Value->Shared->Prop}(c:Src prog w A s.heap l n P)
  (L:∀ A':Around,A'.handled=A.handled->A'.units<=A.units+8->Fill prog w A' s.heap.objs.size (s.heap.objs.size+1) n P J)
  (B:∀ (h':Heap),h'.get? s.heap.objs.size=some (bI0 #[] 0 (.fresh 0 0 (uX w)))->(∀ b o,s.heap.get? b=some o->h'.get? b=some o)->J 0 h')
  (q:∀ h' tk,J n h'->(∀ b o,s.heap.get? b=some o->h'.get? b=some o)->Q (.ref s.heap.objs.size) {s with heap:=h',toks:=tk}) :
  wpAny (model prog w) A (call (.type "set") [.ref l]) Q E s:=by
 obtain⟨T,St,ob,⟨⟨t,k,m,j⟩,f,g⟩,n1,n2,n3,iter,free,walk,lC⟩:=c;simp only at g;subst g;have h:l < s.heap.objs.size:=a4b f;refine cV7 (Q₁:=λobj s₁=>obj=.ref s.heap.objs.size/\s₁={s with heap:=s.heap.push (bI0 #[] 0 (.fresh 0 0 (uX w)))}) F.called_set (F.typeCall_set_1 _) (cV8 _ ⟨rfl,rfl⟩) λobj s₁ Z0=>?_;obtain⟨C,D⟩:=Z0;subst C D;have u:(s.heap.push (bI0 #[] 0 (.fresh 0 0 (uX w)))).get? s.heap.objs.size=some (bI0 #[] 0 (.fresh 0 0 (uX w))):=a0c _ rfl;have a:∀ b o,s.heap.get? b=some o->(s.heap.push (bI0 #[] 0 (.fresh 0 0 (uX w)))).get? b=some o:=λb o e=>a4a _ e;have v:Shared.TypeIs {s with heap:=s.heap.push (bI0 #[] 0 (.fresh 0 0 (uX w)))} (.ref s.heap.objs.size) "set":=⟨_,u,rfl⟩;have G:Shared.TypeIs {s with heap:=s.heap.push (bI0 #[] 0 (.fresh 0 0 (uX w)))} (.ref l) T:=⟨_,a l _ f,rfl⟩;refine⟨v,codeAny_call_builtin F.called_set.init.plain F.entry_set_init (check_set_init_1 v ?_)⟩;have H:=a l _ f;unfold Builtin.«set.__init__» noKeywords Builtin.Frozenset.updateFrom;generalize p:pyIter=PI
 wp_walk
 subst p;refine iter _ _ _ _ a ?_;refine a3Z (wpAny_runValue ?_);have x:(s.heap.push (bI0 #[] 0 (.fresh 0 0 (uX w)))).objs.size=s.heap.objs.size+1:=a6h ..;have ne:l≠s.heap.objs.size+1:=λz=>absurd h (by rw[z];exact Nat.not_lt.mpr (Nat.le_succ _));have i:=lC _ a;rw[x]at i;have r:((s.heap.push (bI0 #[] 0 (.fresh 0 0 (uX w)))).push ob).get? s.heap.objs.size=some (bI0 #[] 0 (.fresh 0 0 (uX w))):=a4a _ u;have d:∀ b o,s.heap.get? b=some o->((s.heap.push (bI0 #[] 0 (.fresh 0 0 (uX w)))).push ob).get? b=some o:=λb o e=>a4a _ (a b o e);show codeAny (model prog w) A.in1.in1 (.builtin "set.update.loop" ⟨[.ref s.heap.objs.size,.ref (s.heap.push (bI0 #[] 0 (.fresh 0 0 (uX w)))).objs.size],[]⟩) _ _;rw[x];refine aO5 (walk A.in1.in1.in1 rfl (s.heap.objs.size+1) ne) (L A.in1.in1.in1 rfl (by show A.units+1+1+1<=A.units+8;lia)) ?_ n 0 _ (a0g n) i (B _ r d) λh' tk I K=>?_;simp only[List.mem_cons,List.not_mem_nil,or_false,not_or];exact⟨a1d (Nat.lt_succ_self _),a7h h⟩;refine a4l (a4l ⟨rfl,q h' tk I λb o e=>?_⟩);have y:=a4b e;exact K b o (a1d y) (a1d (Nat.lt_succ_of_lt y)) (d b o e)
noncomputable def Src.list{s:Shared}(d:A.handled=none){l:Addr}{items:Array Value}(a:s.heap.IsList l items):Src prog w A s.heap l items.size (λi v=>items[i]? = some v) where
 T:="list"
 St:=λI i h=>h.IsListIter I l i/\h.IsList l items
 ob:={cls:=.type "list_iterator",data:=.fields #[.ref l,.int 0 0]}
 ty:=by obtain⟨o,f,g,_⟩:=a;exact⟨o,f,g⟩
 n1:=F.sub_list_set
 n2:=F.sub_list_frozenset
 n3:=by decide
 iter:=λA' s' Q E b j=>wpAny_pyIter_list (a.at λo e=>b l o e) j
 free:=rfl
 walk:=λA' ha I c=>Walks.list (ha.trans d) I l c items
 lC:=λh b=>⟨⟨_,a0c _ rfl,rfl,rfl⟩,(a.at λo e=>b l o e).push _⟩
def aW3:isSubtype (.type "tuple") (.type "set")=pure false:=by rw[isSubtype_type];kernel_rfl
def zO:isSubtype (.type "tuple") (.type "frozenset")=pure false:=by rw[isSubtype_type];kernel_rfl
noncomputable def Src.tup{s:Shared}(d:A.handled=none){l:Addr}{items:Array Value}(a:s.heap.IsTuple l items):Src prog w A s.heap l items.size (λi v=>items[i]? = some v) where
 T:="tuple"
 St:=λI i h=>h.IsTupleIter I l i/\h.IsTuple l items
 ob:={cls:=.type "tuple_iterator",data:=.fields #[.ref l,.int 0 0]}
 ty:=by obtain⟨o,f,g,_⟩:=a;exact⟨o,f,g⟩
 n1:=aW3
 n2:=zO
 n3:=by decide
 iter:=λA' s' Q E b j=>a4B (a.at λo e=>b l o e) j
 free:=rfl
 walk:=λA' ha I c=>Walks.tuple (ha.trans d) I l c items
 lC:=λh b=>⟨⟨_,a0c _ rfl,rfl,rfl⟩,(a.at λo e=>a4a _ (b l o e))⟩
end
open Sem (wp)
section
variable{prog:Program}{w:World}{A:Around}{E:Value->Shared->Prop}{κ:Type}[DecidableEq κ]{knd:KeyKind prog w κ}
def bI1{s:Shared}{l:Addr}{o:Obj}{c:List Value}{m:Nat}{prs:List (κ×Value)}{Q:Value->Shared->Prop}(H:A.handled=none)(x:s.heap.get? l=some o)(y:o.cls=.type "list")(g:o.data=.seq c.toArray m)(z:o.dict=none)
  (hn:prs.length=c.length) (hsz:prs.length < 4000) (J:∀ (i:Nat) v p,c[i]? = some v->prs[i]? = some p->∃ a u,v=.ref a/\s.heap.IsTuple a #[u,p.2]/\knd.is p.1 u=true)
  (q:∀ h' tk,h'.DictOf knd s.heap.objs.size (prs.foldl (λl p=>stored l p.1 p.2) [])->(∀ b o,s.heap.get? b=some o->h'.get? b=some o)->Q (.ref s.heap.objs.size) {s with heap:=h',toks:=tk}) :
  wpAny (model prog w) A (call (.type "dict") [.ref l]) Q E s:=by
 refine callType_codes (Q₁:=λobj s₁=>obj=.ref s.heap.objs.size/\s₁={s with heap:=s.heap.push {cls:=.type "dict",data:=.dict #[]}}) F.kt_called_dict (F.kt_typeCall_dict_1 _) F.entry_dict_init (kt_code_dict_new _ ⟨rfl,rfl⟩) ?_;rintro obj s₁ ⟨rfl,rfl⟩;have d:(s.heap.push {cls:=.type "dict",data:=.dict #[]}).DictOf knd s.heap.objs.size []:=Heap.DictOf.new s.heap;have f:∀ b o,s.heap.get? b=some o->(s.heap.push {cls:=.type "dict",data:=.dict #[]}).get? b=some o:=λb o e=>a4a _ e;have h:l < s.heap.objs.size:=a4b x;refine⟨d.typeIs,F.args_dict_init_2 _ _,?_⟩;have B:Shared.TypeIs {s with heap:=s.heap.push {cls:=.type "dict",data:=.dict #[]}} (.ref l) "list":=⟨_,f l _ x,y⟩;unfold Builtin.«dict.__init__» Builtin.Dict.selfAndRest;refine a3Z (a3Z (wpAny_notOrdered_dict d.typeIs (a4l ?_)));show wpAny _ _ (Builtin.Dict.updateFrom "dict.__init__" s.heap.objs.size (.ref l) [] .none) _ _ _;unfold Builtin.Dict.updateFrom;refine a3Z (a4H B ?_);rw[a4i (by decide)];refine a3Z (bR5 (f l _ x) y g z ?_ λj C k1=>?_);exact H
 rw[a4i (by rfl)];refine a3Z (a4L ?_);have k:j.IsList l c.toArray:=⟨o,k1 l o (f l o x),y,m,g⟩;refine a3Z (wpAny_pyIter_list (s:=⟨j,s.gens,s.drawn,C,s.os⟩) k ?_);refine a4l ⟨a4D nV _,?_⟩;have t:j.DictOf knd s.heap.objs.size []:=let ⟨o,es,I,D,r⟩:=d;⟨o,es,I,k1 _ o D,r⟩
 have big:s.heap.objs.size < j.objs.size:=let ⟨o,es,I,D,r⟩:=t;a4b D
 have G:A.in1.in1.handled=none:=H;refine dul (h₀:=s.heap) (n:=c.toArray.size) (Walks.list G j.objs.size l (a1d (a1h h big)) c.toArray) ?_ (a7h big) (λb o e=>⟨a1d (a4b e),a1d (a1h (a4b e) big)⟩) prs (by simpa using hn) (by rw[List.size_toArray];lia) (λi v p K L=>J i v p (by simpa using K) L)
  c.toArray.size 0 0 _ [] (a0g _) ⟨⟨_,a0c _ rfl,rfl,rfl⟩,k.push _⟩ (t.push _) (a8a _) (λb o e=>a4a _ (k1 b o (f b o e))) λh' tk M N=>⟨rfl,q h' tk M N⟩
 simp only[List.mem_cons,List.not_mem_nil,or_false,not_or];exact⟨a1d big,a7h h⟩
end
def aI7:typeLookup (.type "tuple") "keys"=pure none:=by rw[typeLookup_type,builtinLookup_eq_fast];kernel_rfl
section
variable{prog:Program}{w:World}{A:Around}{E:Value->Shared->Prop}
def bI2{s:Shared}{a:Addr}{o:Obj}{xs:Array Value}{k:Nat}{Q:Option Value->Shared->Prop}(l:s.heap.get? a=some o)(m:o.cls=.type "tuple")(f:o.data=.seq xs k)(hd:o.dict=none)(p:A.handled=none)
  (h:∀ h' tk,(∀ b o,s.heap.get? b=some o->h'.get? b=some o)->Q none {s with heap:=h',toks:=tk}):wpAny (model prog w) A (getAttr? (.ref a) "keys") Q E s:=by
 obtain⟨c,q,r,sl⟩:=o;simp only at m f hd;subst m f hd;obtain⟨t,g,d,tk,os⟩:=s;have n:∀ i,(⟨t,g,d,i,os⟩:Shared).TypeIs (.ref a) "tuple":=λ_=>⟨_,l,rfl⟩;have u:=sub_AttributeError;have v:=F.slot_tuple_getattribute.lookup;have x:=F.slot_tuple_getattribute.bind (.ref a);have y:=am_tuple_getattr_none;unfold getAttr? getAttrBy? getAttrBy
 repeat (any_goals (first | assumption | exact n _ | ((with_reducible show wpAny _ _ (call (Value.builtin "tuple.__getattribute__") _ _) _ _ _);refine a4A F.slot_tuple_getattribute (n _) am_entry_tuple_getattribute (F.args_tuple_getattribute_2 _ _) (meets_getattribute_miss_tuple a xs k sl "keys" _ aI7 (by decide) (by size_fits)) ⟨l,p,λh' i e j=>?_⟩) | wp_step))
 obtain⟨z,B,C⟩:=j.there;show wpAny _ _ (getattributeRaised _ _ _ _ _ _ _) _ _ _;unfold getattributeRaised hookOrError attributeErrorLeaves
 repeat (any_goals (first | assumption | wp_step))
 exact h _ _ j.keeps
end
section
variable{prog:Program}{w:World}{A:Around}{E:Value->Shared->Prop}{κ:Type}[DecidableEq κ]{knd:KeyKind prog w κ}
def aW4{s:Shared}{l:Addr}{o:Obj}{c:List Value}{m:Nat}{prs:List (κ×Value)}{Q:Value->Shared->Prop}(H:A.handled=none)(x:s.heap.get? l=some o)(y:o.cls=.type "tuple")(g:o.data=.seq c.toArray m)(z:o.dict=none)
  (hn:prs.length=c.length) (hsz:prs.length < 4000) (J:∀ (i:Nat) v p,c[i]? = some v->prs[i]? = some p->∃ a u,v=.ref a/\s.heap.IsTuple a #[u,p.2]/\knd.is p.1 u=true)
  (q:∀ h' tk,h'.DictOf knd s.heap.objs.size (prs.foldl (λl p=>stored l p.1 p.2) [])->(∀ b o,s.heap.get? b=some o->h'.get? b=some o)->Q (.ref s.heap.objs.size) {s with heap:=h',toks:=tk}) :
  wpAny (model prog w) A (call (.type "dict") [.ref l]) Q E s:=by
 refine callType_codes (Q₁:=λobj s₁=>obj=.ref s.heap.objs.size/\s₁={s with heap:=s.heap.push {cls:=.type "dict",data:=.dict #[]}}) F.kt_called_dict (F.kt_typeCall_dict_1 _) F.entry_dict_init (kt_code_dict_new _ ⟨rfl,rfl⟩) ?_;rintro obj s₁ ⟨rfl,rfl⟩;have d:(s.heap.push {cls:=.type "dict",data:=.dict #[]}).DictOf knd s.heap.objs.size []:=Heap.DictOf.new s.heap;have f:∀ b o,s.heap.get? b=some o->(s.heap.push {cls:=.type "dict",data:=.dict #[]}).get? b=some o:=λb o e=>a4a _ e;have h:l < s.heap.objs.size:=a4b x;refine⟨d.typeIs,F.args_dict_init_2 _ _,?_⟩;have B:Shared.TypeIs {s with heap:=s.heap.push {cls:=.type "dict",data:=.dict #[]}} (.ref l) "tuple":=⟨_,f l _ x,y⟩;unfold Builtin.«dict.__init__» Builtin.Dict.selfAndRest;refine a3Z (a3Z (wpAny_notOrdered_dict d.typeIs (a4l ?_)));show wpAny _ _ (Builtin.Dict.updateFrom "dict.__init__" s.heap.objs.size (.ref l) [] .none) _ _ _;unfold Builtin.Dict.updateFrom;refine a3Z (a4H B ?_);rw[a4i (by decide)];refine a3Z (bI2 (f l _ x) y g z ?_ λj C k1=>?_);exact H
 rw[a4i (by rfl)];refine a3Z (a4L ?_);have k:j.IsTuple l c.toArray:=⟨o,k1 l o (f l o x),y,m,g⟩;refine a3Z (a4B (s:=⟨j,s.gens,s.drawn,C,s.os⟩) k ?_);refine a4l ⟨a4D nV _,?_⟩;have t:j.DictOf knd s.heap.objs.size []:=let ⟨o,es,I,D,r⟩:=d;⟨o,es,I,k1 _ o D,r⟩
 have big:s.heap.objs.size < j.objs.size:=let ⟨o,es,I,D,r⟩:=t;a4b D
 have G:A.in1.in1.handled=none:=H;refine dul (h₀:=s.heap) (n:=c.toArray.size) (Walks.tuple G j.objs.size l (a1d (a1h h big)) c.toArray) ?_ (a7h big) (λb o e=>⟨a1d (a4b e),a1d (a1h (a4b e) big)⟩) prs (by simpa using hn) (by rw[List.size_toArray];lia) (λi v p K L=>J i v p (by simpa using K) L)
  c.toArray.size 0 0 _ [] (a0g _) ⟨⟨_,a0c _ rfl,rfl,rfl⟩,k.push _⟩ (t.push _) (a8a _) (λb o e=>a4a _ (k1 b o (f b o e))) λh' tk M N=>⟨rfl,q h' tk M N⟩
 simp only[List.mem_cons,List.not_mem_nil,or_false,not_or];exact⟨a1d big,a7h h⟩
end
end PySem
namespace L2
open PySem PySem.Spec PyProof.Rows
inductive PrsAt(H:Hp):List V->List (Key×V)->Prop
 | nil:PrsAt H [] []
 | cons {a:Addr} {k:Key} {v:V} {xs:List V} {prs:List (Key×V)}:H a=some (.tup [kV k,v])->PrsAt H xs prs->PrsAt H (.ref a::xs) ((k,v)::prs)
theorem PrsAt.raw{X:Cx}{pins:List (Addr×Obj)}{σ:St}{H:Hp}{s:Shared}(I:Inv X pins σ H s):∀ {xs:List V} {prs:List (Key×V)} {b:List Value},PrsAt H xs prs->cQ xs b->∃ rs:List (Key×Value),KV prs rs/\rs.length=b.length /\
  ∀ (i:Nat) v p,b[i]? = some v->rs[i]? = some p->∃ a u,v=.ref a/\s.heap.IsTuple a #[u,p.2]/\(fO X.prog X.w).is p.1 u=true
 | _,_,_,.nil,.nil=>⟨[],.nil,rfl,λi v p h=>by simp at h⟩
 | _,_,_,.cons (a:=a) (k:=k) e t,.cons f g=>by
   obtain⟨rs,j,l,m⟩:=PrsAt.raw I t g;cases f;obtain⟨_,us,r,q,_⟩:=(show eR X.prog X.w H s.heap a _ from I.hok a _ e);cases r with
   | cons n c=>cases c with
     | cons c rc=>
       cases rc;refine⟨(k,_)::rs,.cons ⟨rfl,c⟩ j,by simp[l],λi v p hi d=>?_⟩;cases i with
       | zero=>
         simp at hi d;subst hi d;exact⟨a,_,rfl,q,cT1 n⟩
       | succ i=>exact m i v p (by simpa using hi) (by simpa using d)
def cN3:List V->Hp->VK->Prop:=λvs H Q=>∃ p xs prs,vs=[.ref p]/\(gR H p=some (true,xs)\/H p=some (.tup xs))/\PrsAt H xs prs/\prs.length < 4000/\∀ d,H d=none->Q (.ref d) (upd H d (.dK (pQ [] prs)))
def bI3{X:Cx}(t:X.calm=true):jL X (.type "dict") cN3:=by
 intro pins s σ H xs us Q I r h;obtain⟨p,ys,prs,rfl,a,v,C,q⟩:=h;obtain⟨u,rfl,y⟩:=wV r;cases y;rcases a with a | a
 ·obtain⟨c,d,⟨o,n,b,e,f,g⟩,z⟩:=I.list (fB a);obtain⟨rs,k1,k2,i⟩:=PrsAt.raw I v d;have A:prs.length=rs.length:=Paired.length k1;refine bI1 (knd:=fO X.prog X.w) (prs:=rs) (I.ok.hd t) b e g f k2 (by lia) i λh' tk j k=>?_;have hm:(pQ [] prs).length<=sizeLine:=by
   have l:=lG prs [];rw[a3h]at l;rw[a4E];lia
  refine⟨.ref s.heap.objs.size,_,I.laid (t':=tk) k (a8a _) (cM6 hm ?_ (k1.merge .nil) j),rfl,q _ (I.hok.fresh (a8a _))⟩;have:=I.big;exact beq_eq_false_iff_ne.mpr (a7h this)
 ·obtain⟨z,c,d,⟨o,b,e,n,f⟩,m⟩:=(show eR X.prog X.w H s.heap p _ from I.hok p _ a);have g:o.dict=none:=by obtain⟨o',x,B⟩:=m;rw[b]at x;cases x;exact B
  obtain⟨rs,k1,k2,i⟩:=PrsAt.raw I v d;have A:prs.length=rs.length:=Paired.length k1;refine aW4 (knd:=fO X.prog X.w) (prs:=rs) (I.ok.hd t) b e f g k2 (by lia) i λh' tk j k=>?_;have hm:(pQ [] prs).length<=sizeLine:=by
   have l:=lG prs [];rw[a3h]at l;rw[a4E];lia
  refine⟨.ref s.heap.objs.size,_,I.laid (t':=tk) k (a8a _) (cM6 hm ?_ (k1.merge .nil) j),rfl,q _ (I.hok.fresh (a8a _))⟩;have:=I.big;exact beq_eq_false_iff_ne.mpr (a7h this)
def dL0:R2:=λx y H Q=>∃ a v,x=.ref a/\dO9 H a y (some v)/\Q v H
def cE7{X:Cx}{o i:Expr}{pos:Pos}{a ty:TE}(b:X.A.units+1 < cLine)(c:PE X o a)(hi:PE X i ty)(d:dP0 i):PE X (.Subscript o i pos) (tOp dL0 a ty):=cT3 b c hi d
def cE8{κ:Type}[DecidableEq κ]{l:List (κ×V)}{k:κ}{v:V}(h:k∉l.map Prod.fst):bP0 l k v=l++[(k,v)]:=by
 unfold bP0;rw[a4j];simp only[List.any_eq_true,decide_eq_true_eq,not_exists,not_and];exact λp a e=>h (by rw[← e];exact List.mem_map_of_mem a)
theorem uY:∀ (prs acc:List (Key×V)),((acc++prs).map Prod.fst).Nodup->pQ acc prs=acc++prs
 | [],acc,_=>by simp[pQ]
 | p::prs,acc,h=>by
   show pQ (bP0 acc p.1 p.2) prs=_;have h':((acc.map Prod.fst)++p.1::prs.map Prod.fst).Nodup:=by simpa using h
   rw[cE8 λz=>(List.nodup_append.mp h').2.2 _ z p.1 (by simp) rfl,uY prs (acc++[(p.1,p.2)]) (by simpa using h)];simp
end L2
namespace Dv
open PySem L2 Mr
noncomputable def cE9:List D->Option (List (Str×D))
 | []=>some []
 | .tup [.str z,v]::r=>(cE9 r).map λl=>(z,v)::l
 | _=>none
noncomputable def bR6:FN:=λa=>match a with
 | [.lst l]=>(cE9 l).bind λprs=>if prs.length < 4000/\(prs.map Prod.fst).Nodup then some (.own (.dic (prs.map λp=>.str p.1) (prs.map Prod.snd)))else none
 | [.tup l]=>(cE9 l).bind λprs=>if prs.length < 4000/\(prs.map Prod.fst).Nodup then some (.own (.dic (prs.map λp=>.str p.1) (prs.map Prod.snd)))else none
 | _=>none
theorem aW5{H:Hp}:∀ {l:List D} {xs:List V} {prs:List (Str×D)},cE9 l=some prs->Rps H l xs->∃ ps:List (Key×V),PrsAt H xs ps/\ps.length=prs.length/\ps.map Prod.fst=prs.map (λp=>.inr p.1)/\Rps H (prs.map Prod.snd) (ps.map Prod.snd)
 | [],_,_,e,.nil=>by cases e;exact⟨[],.nil,rfl,rfl,.nil⟩
 | d::l,_,_,e,.cons a t=>by
   unfold cE9 at e;split at e;rename_i b;cases b
   ·rename_i z v r b;cases b;obtain⟨prs,f,g⟩:=a6c.mp e;subst g;obtain⟨ps,h,i,j,k⟩:=aW5 f t;obtain⟨p,xs,rfl,m,n⟩:=gO (.inl a);cases n with
    | cons ga c=>cases c with
      | cons c o=>
        cases o;cases ga;exact⟨(.inr z,_)::ps,.cons m h,by simp[i],by simp[j],.cons c k⟩
   ·cases e
def cF0:bA5 cN3 bR6:=by
 intro H r vs Q res vw e k;unfold bR6 at e;split at e
 ·rename_i l;obtain⟨prs,f,e⟩:=aC e;split at e
  ·rename_i g;cases e;obtain⟨x,rfl,a⟩:=aV9 vw;obtain⟨p,xs,rfl,h,i⟩:=iM a;obtain⟨ps,j,q,c,m⟩:=aW5 f i;refine⟨p,xs,ps,rfl,.inl h,j,by lia,λd hd=>k _ _ (bU hd) ⟨d,rfl,hd,?_⟩⟩;have nd:(ps.map Prod.fst).Nodup:=by
    rw[c,show prs.map (λp=>(Sum.inr p.1:Key))=(prs.map Prod.fst).map Sum.inr by simp];exact List.Pairwise.map _ (λa b n z=>n (by injection z)) g.2
   rw[uY ps [] (by simpa using nd),List.nil_append];refine⟨_,ps.map Prod.snd,aR,⟨?_,rfl⟩,m.mono (.same (bU hd))⟩;have:ps.map (λo=>bZ2 o.1)=(ps.map Prod.fst).map bZ2:=by simp
   rw[this,c];simp[bZ2]
  ·cases e
 ·rename_i l;obtain⟨prs,f,e⟩:=aC e;split at e
  ·rename_i g;cases e;obtain⟨x,rfl,a⟩:=aV9 vw;obtain⟨p,xs,rfl,h,i⟩:=gO a;obtain⟨ps,j,q,c,m⟩:=aW5 f i;refine⟨p,xs,ps,rfl,.inr h,j,by lia,λd hd=>k _ _ (bU hd) ⟨d,rfl,hd,?_⟩⟩;have nd:(ps.map Prod.fst).Nodup:=by
    rw[c,show prs.map (λp=>(Sum.inr p.1:Key))=(prs.map Prod.fst).map Sum.inr by simp];exact List.Pairwise.map _ (λa b n z=>n (by injection z)) g.2
   rw[uY ps [] (by simpa using nd),List.nil_append];refine⟨_,ps.map Prod.snd,aR,⟨?_,rfl⟩,m.mono (.same (bU hd))⟩;have:ps.map (λo=>bZ2 o.1)=(ps.map Prod.fst).map bZ2:=by simp
   rw[this,c];simp[bZ2]
  ·cases e
 ·cases e
noncomputable def aW6:List D->List D->Str->Option D
 | .str x::ks,v::vs,z=>if x=z then some v else aW6 ks vs z
 | _,_,_=>none
noncomputable def dL1:F2:=λd e=>match d,e with
 | .dic ks vs,.str z=>(aW6 ks vs z).map .val
 | _,_=>none
theorem bC3{H:Hp}{z:Str}{v:D}:∀ {kvs:List (Key×V)} {vs:List D},Rps H vs (kvs.map Prod.snd)->aW6 (kvs.map λc=>bZ2 c.1) vs z=some v->∃ x,bZ1 kvs (.inr z)=some x/\Rp H v x
 | [],_,_,h=>by cases h
 | (k,y)::kvs,_,.cons a t,h=>by
   cases k with
   | inl i=>cases h
   | inr x=>
     have h':(if x=z then some _ else aW6 (kvs.map λc=>bZ2 c.1) _ z)=some v:=h;by_cases b:x=z;rw[a4i b]at h';cases h';subst b;exact⟨y,aF9 rfl,a⟩;rw[a4j b]at h';obtain⟨w,d,f⟩:=bC3 t h';exact⟨w,by rw[aG0 (λe=>b (by injection e))];exact d,f⟩
def cV9:aA6 dL0 dL1:=by
 intro H j l x y Q res v1 v2 e k;unfold dL1 at e;split at e
 ·rename_i ks vs z;obtain⟨v,f,rfl⟩:=a6c.mp e;obtain rfl:y=.str z:=by
   rcases v2 with r | ⟨p,_,o⟩;cases r;rfl;exact o.elim
  have g:∃ p u ws,x=.ref p/\Rd H p u/\cT4 u ks ws/\Rps H vs ws:=by
   rcases v1 with r | ⟨p,rfl,u,ws,c,b,d⟩
   ·cases r with
    | dic c b d=>exact⟨_,_,_,rfl,.inr ⟨_,c⟩,b,d⟩
   ·exact⟨p,u,ws,rfl,.inl c,b,d⟩
  obtain⟨p,u,ws,rfl,c,b,d⟩:=g;cases u with
  | dK kvs=>
    obtain⟨rfl,rfl⟩:=b;obtain⟨x,h,i⟩:=bC3 d f;exact⟨p,x,rfl,.inl ⟨kvs,.inr z,c,rfl,h.symm⟩,k _ _ (.refl _) i⟩
  | dT kvs=>
    obtain⟨rfl,rfl⟩:=b;cases kvs with
    | nil=>cases f
    | cons a t=>cases f
  | dM kvs=>obtain⟨rfl,rfl⟩:=b;cases f
  | _=>exact b.elim
 ·cases e
def dL2{X:Cx}{a b:Expr}{c d:DE}{pos:Pos}(e:X.A.units+1 < cLine)(ha:GE X a c)(f:GE X b d)(g:dP0 b):GE X (.Subscript a b pos) (aY dL1 c d):=.mk λΓ=>peW (cE7 e (ha.to Γ) (f.to Γ) g) λ_ _ _=>pR cV9
end Dv
namespace L2
open PySem PySem.Spec PyProof.Rows
end L2
namespace Dv
open PySem L2 Mr
end Dv
namespace Sx
open PySem PySem.W PyProof.Rows
structure Ord(c:Nat->Nat->Bool):Prop where
 ir:∀ a,c a a=false
 tr:∀ {a b d},c a b=true->c b d=true->c a d=true
 nt:∀ {a b d},c b a=false->c d b=false->c d a=false
noncomputable abbrev at0(p:Array Nat)(i:Nat):Nat:=p.getD i 0
def Up(c:Nat->Nat->Bool)(p:Array Nat)(k:Nat):Prop:=∀ i j,i<=j->j < k->c (at0 p j) (at0 p i)=false
def Dn(c:Nat->Nat->Bool)(p:Array Nat)(k:Nat):Prop:=∀ i j,i<=j->j < k->c (at0 p i) (at0 p j)=false
def Pm(N:Nat)(p:Array Nat):Prop:=p.toList.Perm (List.range N)
theorem Pm.size{N:Nat}{p:Array Nat}(h:Pm N p):p.size=N:=by have:=List.Perm.length_eq h;simpa using this
def Pm.lt{N:Nat}{p:Array Nat}(h:Pm N p){i:Nat}(hi:i < N):at0 p i < N:=by
 have b:=h.size;have a:i < p.size:=by lia
 have e:at0 p i=p[i]:=by simp[at0,Array.getD,a]
 rw[e];have:p[i]∈p.toList:=by simp
 exact a9c.mp (h.mem_iff.mp this)
def Pm.of{N:Nat}{p q:Array Nat}(h:Pm N p)(a:q.Perm p):Pm N q:=(Array.perm_iff_toList_perm.mp a).trans h
def aO8{p q:Array Nat}{i j:Nat}(h:p[i]? = q[j]?):at0 p i=at0 q j:=by simp[at0,Array.getD_eq_getD_getElem?,h]
def jX{p:Array Nat}{i j k:Nat}(a:j<=p.size):at0 (kas_rev p i j) k=if i<=k/\k < j then at0 p (i+j-1-k)else at0 p k:=by
 have e:=getElem?_mirror_all (xs:=p) (i:=i) (j:=j) a k;unfold kas_rev;by_cases h:i<=k/\k < j;rw[a4i h]at e ⊢;exact aO8 e;rw[a4j h]at e ⊢;exact aO8 e
def Pm.rev{N:Nat}{p:Array Nat}(h:Pm N p)(i j:Nat):Pm N (kas_rev p i j):=h.of (mirror_perm ..)
section
variable{N:Nat}{c:Nat->Nat->Bool}{cmp:Nat->Nat->(Bool->Shared->Prop)->Shared->Prop}{s:Shared}(O:Ord c)(hc:∀ i j C,i < N->j < N->C (c i j) s->cmp i j C s)
include O hc
theorem bR7{p:Array Nat}(e:Pm N p):∀ (f n:Nat) {G:Nat->Shared->Prop},1<=n->n+f<=N->Up c p n->(∀ m,n<=m->m<=n+f->Up c p m->(m=n+f\/c (at0 p m) (at0 p (m-1))=true)->G m s)->(kas_asc p f n).kasWp cmp G s
 | 0,n,G,l,o,a,q=>q n (a8a _) (a8a _) a (.inl rfl)
 | f+1,n,G,l,o,a,q=>by
   show cmp (at0 p n) (at0 p (n-1)) (λb s'=>(if b=true then KasT.ret n else kas_asc p f (n+1)).kasWp cmp G s') s;refine hc _ _ _ (e.lt (by lia)) (e.lt (by lia)) ?_;cases k:c (at0 p n) (at0 p (n-1))with
   | true=>rw[a4i rfl];exact q n (a8a _) (by lia) a (.inr k)
   | false=>
     rw[a4j a9b];refine bR7 e f (n+1) (by lia) (by lia) (λi j g u=>?_) λm v w r t=>q m (by lia) (by lia) r (by rcases t with z | z;exact .inl (by lia);exact .inr z);by_cases h:j < n;exact a i j g h
     ·have:j=n:=by lia
      subst this;by_cases d:i=j;subst d;exact O.ir _;exact O.nt (a i (j-1) (by lia) (by lia)) k
omit hc in
theorem Dn.turn{p:Array Nat}{n q:Nat}(hn:n<=p.size)(g:q+1<=n)(hd:Dn c p n)(e:∀ i j,n-(q+1)<=i->i < n->n-(q+1)<=j->j < n->c (at0 p i) (at0 p j)=false):Dn c (kas_rev p (n-(q+1)) n) n:=by
 intro i j a f;rw[jX hn,jX hn];by_cases b:n-(q+1)<=i/\i < n;rw[a4i b,a4i (by lia)];exact e _ _ (by lia) (by lia) (by lia) (by lia);rw[a4j b];by_cases d:n-(q+1)<=j/\j < n;rw[a4i d];exact hd i _ (by lia) (by lia);rw[a4j d];exact hd i j a f
omit hc in
theorem Dn.less{p:Array Nat}{n:Nat}(f:1<=n)(hd:Dn c p n)(d:c (at0 p n) (at0 p (n-1))=true):Dn c p (n+1):=by
 intro i j a g;by_cases b:j < n;exact hd i j a b;have:j=n:=by lia
 subst this;by_cases hi:i=j;subst hi;exact O.ir _;cases e:c (at0 p i) (at0 p j)with
 | false=>rfl
 | true=>
   have:=O.tr e d;rw[hd i (j-1) (by lia) (by lia)]at this;exact this.symm
theorem aI8:∀ (f:Nat) (p:Array Nat) (n q:Nat) {G:Array Nat×Nat×Nat->Shared->Prop},Pm N p->1<=n->n+f<=N->Dn c p n->q+1<=n->(∀ i j,n-(q+1)<=i->i < n->n-(q+1)<=j->j < n->c (at0 p i) (at0 p j)=false) ->
  (∀ a m g,Pm N a->n<=m->m<=n+f->Dn c a m->g+1<=m->(∀ i j,m-(g+1)<=i->i < m->m-(g+1)<=j->j < m->c (at0 a i) (at0 a j)=false)->G (a,m,g) s)->(kas_desc f p n q).kasWp cmp G s
 | 0,p,n,q,G,e,y,H,hd,v,he,k=>k p n q e (a8a _) (a8a _) hd v he
 | f+1,p,n,q,G,e,y,H,hd,v,he,k=>by
   have K:=e.size;show cmp (at0 p n) (at0 p (n-1)) (λb s'=>(if b=true then(if q > 0 then kas_desc f (kas_rev p (n-(q+1)) n) (n+1) 0 else kas_desc f p (n+1) 0)else KasT.ask (at0 p (n-1)) (at0 p n) λd=>if d=true then KasT.ret (p,n,q)else kas_desc f p (n+1) (q+1)).kasWp cmp G s') s;refine hc _ _ _ (e.lt (by lia)) (e.lt (by lia)) ?_;have one:∀ (a:Array Nat) i j,n+1-(0+1)<=i->i < n+1->n+1-(0+1)<=j->j < n+1->c (at0 a i) (at0 a j)=false:=λa i j h l w o=>by
    have:i=n:=by lia
    have:j=n:=by lia
    subst i;subst j;exact O.ir _
   cases hl:c (at0 p n) (at0 p (n-1))with
   | true=>
     rw[a4i rfl];by_cases r:q > 0
     ·rw[a4i r];have z:=Dn.turn O (by lia) v hd he;have A:at0 (kas_rev p (n-(q+1)) n) n=at0 p n:=by rw[jX (by lia),a4j (by lia)]
      have B:c (at0 (kas_rev p (n-(q+1)) n) n) (at0 (kas_rev p (n-(q+1)) n) (n-1))=true:=by
       rw[A,jX (by lia),a4i (by lia)]
       -- alike to I last one
       cases J:c (at0 p n) (at0 p (n-(q+1)+n-1-(n-1)))with
       | true=>rfl
       | false=>
         have:=O.nt (he (n-(q+1)+n-1-(n-1)) (n-1) (by lia) (by lia) (by lia) (by lia)) J;rw[hl]at this;exact this.symm
      refine aI8 f _ (n+1) 0 (e.rev _ _) (by lia) (by lia) (Dn.less O y z B) (by lia) (one _) λa m g h l w o t u=>k a m g h (by lia) (by lia) o t u
     ·rw[a4j r];exact aI8 f p (n+1) 0 e (by lia) (by lia) (Dn.less O y hd hl) (by lia) (one _) λa m g h l w o t u=>k a m g h (by lia) (by lia) o t u
   | false=>
     rw[a4j a9b];show cmp (at0 p (n-1)) (at0 p n) (λb s'=>(if b=true then KasT.ret (p,n,q)else kas_desc f p (n+1) (q+1)).kasWp cmp G s') s;refine hc _ _ _ (e.lt (by lia)) (e.lt (by lia)) ?_;cases E:c (at0 p (n-1)) (at0 p n)with
     | true=>rw[a4i rfl];exact k p n q e (a8a _) (by lia) hd v he
     | false=>
       rw[a4j a9b];have F:∀ i,n-(q+1)<=i->i < n->c (at0 p i) (at0 p n)=false/\c (at0 p n) (at0 p i)=false:=λi h l=>
        ⟨O.nt E (he i (n-1) h l (by lia) (by lia)),O.nt (he (n-1) i (by lia) (by lia) h l) hl⟩
       refine aI8 f p (n+1) (q+1) e (by lia) (by lia) (λi j C x=>?_) (by lia) (λi j h l w o=>?_) λa m g h l w o t u=>k a m g h (by lia) (by lia) o t u
       ·by_cases D:j < n;exact hd i j C D;have:j=n:=by lia
        subst this;by_cases hi:i=j;subst hi;exact O.ir _;exact O.nt E (hd i (j-1) (by lia) (by lia))
       ·by_cases hi:i=n;by_cases x:j=n;subst hi;subst x;exact O.ir _;subst hi;exact(F j (by lia) (by lia)).2;by_cases x:j=n;subst x;exact(F i (by lia) (by lia)).1;exact he i j (by lia) (by lia) (by lia) (by lia)
theorem bR8{p:Array Nat}{n:Nat}(a:Pm N p)(d:1<=n)(hn:n<=N)(hd:Dn c p n){G:Nat×Array Nat->Shared->Prop}(k:∀ m b,Pm N b->1<=m->m<=N->Up c b m->G (m,b) s):(kas_tail3 n N p).kasWp cmp G s:=by
 have g:=a.size;unfold kas_tail3;rw[KasT.kasWp_bind];refine bR7 O hc (a.rev 0 n) (N-n) n d (by lia) (λi j e h=>?_) λm l o f _=>k m _ (a.rev 0 n) (by lia) (by lia) f;rw[jX (by lia),jX (by lia),a4i (by lia),a4i (by lia)];exact hd _ _ (by lia) (by lia)
theorem xN{p:Array Nat}{n:Nat}(e:Pm N p)(h:1<=n)(hn:n+1<=N)(hd:Dn c p (n+1)){G:Nat×Array Nat->Shared->Prop}(k:∀ m a,Pm N a->1<=m->m<=N->Up c a m->G (m,a) s):(kas_descPart n N p).kasWp cmp G s:=by
 unfold kas_descPart;rw[KasT.kasWp_bind];refine aI8 O hc (N-(n+1)) p (n+1) 0 e (by lia) (by lia) hd (by lia) (λi j l o q r=>?_) λa m t b u v d f g=>?_
 ·have:i=n:=by lia
  have:j=n:=by lia
  subst i;subst j;exact O.ir _
 ·have w:=b.size;dsimp only;split;exact bR8 O hc (b.rev _ _) (by lia) (by lia) (Dn.turn O (by lia) f d g) k;exact bR8 O hc b (by lia) (by lia) d k
theorem cF1{p:Array Nat}(a:Pm N p)(y:1<=N){G:Nat×Array Nat->Shared->Prop}(k:∀ m l,Pm N l->1<=m->m<=N->Up c l m->G (m,l) s):(kas_count N p).kasWp cmp G s:=by
 have A:=a.size;unfold kas_count;rw[KasT.kasWp_bind];refine bR7 O hc a (N-1) 1 (a8a _) (by lia) (λi j d o=>?_) λn B C h t=>?_
 ·have:i=j:=by lia
  subst this;exact O.ir _
 ·by_cases e:n=N;subst e;rw[a4i (by simp)];exact k n p a (by lia) (a8a _) h;rw[a4j (by simpa using e)];have f:c (at0 p n) (at0 p (n-1))=true:=by rcases t with z | z;lia;exact z
  by_cases g:n > 1
  ·rw[a4i g];show cmp (at0 p 0) (at0 p (n-1)) (λb s'=>(if b=true then KasT.ret (n,p)else kas_descPart n N (kas_rev p 0 n)).kasWp cmp G s') s;refine hc _ _ _ (a.lt (by lia)) (a.lt (by lia)) ?_;cases u:c (at0 p 0) (at0 p (n-1))with
   | true=>rw[a4i rfl];exact k n p a (by lia) (by lia) h
   | false=>
     rw[a4j a9b]
     -- all of q are alike
     have r:∀ i j,i < n->j < n->c (at0 p i) (at0 p j)=false:=λi j hi o=>by
      have v:c (at0 p 0) (at0 p j)=false:=O.nt (h j (n-1) (by lia) (by lia)) u;have w:c (at0 p i) (at0 p 0)=false:=h 0 i (by lia) hi;exact O.nt v w
     refine xN O hc (a.rev 0 n) (by lia) (by lia) (Dn.less O (by lia) (λi j d o=>?_) ?_) k;rw[jX (by lia),jX (by lia),a4i (by lia),a4i (by lia)];exact r _ _ (by lia) (by lia)
     ·rw[jX (by lia),jX (by lia),a4j (by lia),a4i (by lia)];cases x:c (at0 p n) (at0 p (0+n-1-(n-1)))with
      | true=>rfl
      | false=>
        have:=O.nt (r (0+n-1-(n-1)) (n-1) (by lia) (by lia)) x;rw[f]at this;exact this.symm
  ·rw[a4j g];have:n=1:=by lia
   subst this;refine xN O hc a (a8a _) (by lia) (Dn.less O (a8a _) (λi j d o=>?_) f) k;have:i=j:=by lia
   subst this;exact O.ir _
theorem aI9{p:Array Nat}{k:Nat}(e:Pm N p)(j:k < N)(g:Up c p k):∀ (f l r:Nat) {G:Nat->Shared->Prop},l<=r->r<=k->r-l<=f->(∀ i,i < l->c (at0 p k) (at0 p i)=false)->(∀ i,r<=i->i < k->c (at0 p k) (at0 p i)=true) ->
  (∀ m,m<=k->(∀ i,i < m->c (at0 p k) (at0 p i)=false)->(∀ i,m<=i->i < k->c (at0 p k) (at0 p i)=true)->G m s)->(kas_place p k f l r).kasWp cmp G s
 | 0,l,r,G,u,h,v,a,b,q=>by
   have:l=r:=by lia
   subst this;exact q l h a b
 | f+1,l,r,G,u,h,v,a,b,q=>by
   unfold kas_place;split
   ·have:l=r:=by lia
    subst this;exact q l h a b
   ·show cmp (at0 p k) (at0 p ((l+r) / 2)) (λd s'=>(if d=true then kas_place p k f l ((l+r) / 2)else kas_place p k f ((l+r) / 2+1) r).kasWp cmp G s') s;refine hc _ _ _ (e.lt j) (e.lt (by lia)) ?_;cases t:c (at0 p k) (at0 p ((l+r) / 2))with
    | true=>
      rw[a4i rfl];refine aI9 e j g f l _ (by lia) (by lia) (by lia) a (λi n o=>?_) q;cases w:c (at0 p k) (at0 p i)with
      | true=>rfl
      | false=>
        have:=g ((l+r) / 2) i n o;have:=O.nt this w;rw[t]at this;exact this.symm
    | false=>
      rw[a4j a9b];refine aI9 e j g f _ r (by lia) h (by lia) (λi hi=>?_) b q;exact O.nt (g i ((l+r) / 2) (by lia) (by lia)) t
theorem cN4:∀ (f:Nat) (p:Array Nat) (k:Nat) {G:Array Nat->Shared->Prop},Pm N p->k+f=N->Up c p k->(∀ g,Pm N g->Up c g N->G g s)->(kas_bin f p k).kasWp cmp G s
 | 0,p,k,G,b,B,a,q=>by
   have:k=N:=by lia
   subst this;exact q p b a
 | f+1,p,k,G,b,B,a,q=>by
   have F:=b.size;unfold kas_bin;rw[KasT.kasWp_bind];refine aI9 O hc b (by lia) a k 0 k (a5c _) (a8a _) (by lia) (λi h=>absurd h (Nat.not_lt_zero _)) (λi o r=>by lia) λm hm o r=>?_;have t:∀ i,at0 (bubble p k (k-m)) i=if i=m then at0 p k else if m < i/\i<=k then at0 p (i-1)else at0 p i:=λi=>by
    have e:=getElem?_bubble (xs:=p) (src:=k) (by lia) (k-m) (by lia) i;have C:k-(k-m)=m:=by lia
    rw[C]at e;by_cases u:i=m;rw[a4i u]at e ⊢;exact aO8 e;rw[a4j u]at e ⊢;by_cases v:m < i/\i<=k;rw[a4i v]at e ⊢;exact aO8 e;rw[a4j v]at e ⊢;exact aO8 e
   refine cN4 f _ (k+1) (b.of (bubble_perm ..)) (by lia) (λi j l H=>?_) q;rw[t,t];by_cases w:j=m;rw[a4i w];by_cases d:i=m;rw[a4i d];exact O.ir _;rw[a4j d,a4j (by lia)];exact o i (by lia)
   ·rw[a4j w];by_cases d:i=m
    ·rw[a4i d,a4i (by lia)]
     -- D placed one is less y n behind it
     have x:=r (j-1) (by lia) (by lia);cases E:c (at0 p (j-1)) (at0 p k)with
     | false=>rfl
     | true=>have:=O.tr E x;rw[O.ir]at this;exact this.symm
    ·rw[a4j d];by_cases z:m < j/\j<=k;rw[a4i z];by_cases A:m < i/\i<=k;rw[a4i A];exact a _ _ (by lia) (by lia);rw[a4j A];exact a _ _ (by lia) (by lia);rw[a4j z,a4j (by lia)];exact a _ _ l (by lia)
theorem bR9(f:1<=N){G:Array Nat->Shared->Prop}(q:∀ p,Pm N p->Up c p N->G p s):(kas_sort N).kasWp cmp G s:=by
 unfold kas_sort;rw[KasT.kasWp_bind];refine cF1 O hc (p:=List.toArray (List.range N)) (.refl _) f λm a b g h d=>?_;dsimp only;split
 ·have e:max m 1=m:=by lia
  rw[e];exact cN4 O hc (N-m) a m b (by lia) d q
 ·have:m=N:=by lia
  subst this;exact q a b d
end
structure Lin{α:Type}(c:α->α->Bool):Prop where
 ir:∀ a,c a a=false
 tr:∀ {a b d},c a b=true->c b d=true->c a d=true
 tot:∀ {a b},c a b=false->c b a=false->a=b
def Lin.nt{α:Type}{c:α->α->Bool}(L:Lin c){a b d:α}(g:c b a=false)(e:c d b=false):c d a=false:=by
 cases h:c d a with
 | false=>rfl
 | true=>
   cases f:c a b with
   | true=>rw[L.tr h f]at e;cases e
   | false=>
     have:=L.tot f g;subst this;rw[h]at e;cases e
open Classical in
noncomputable def lx{α:Type}(c:α->α->Bool):List α->List α->Bool
 | _,[]=>false
 | [],_::_=>true
 | a::x,b::y=>if a=b then lx c x y else c a b
section
variable{α:Type}{c:α->α->Bool}
def dB4(a b:α)(x y:List α):lx c (a::x) (b::y)=(open Classical in if a=b then lx c x y else c a b):=by rw[lx]
theorem cF2:∀ x:List α,lx c x x=false
 | []=>by rw[lx]
 | a::x=>by rw[dB4,a4i rfl];exact cF2 x
theorem dL3(L:Lin c):∀ {x y z:List α},lx c x y=true->lx c y z=true->lx c x z=true
 | _,[],_,h,_=>by simp[lx]at h
 | _,_::_,[],_,h=>by simp[lx]at h
 | [],_::_,_::_,_,_=>by rw[lx]
 | a::x,b::y,d::z,f,e=>by
   rw[dB4]at f e ⊢;by_cases i:a=b;rw[a4i i]at f;subst i;by_cases g:a=d;rw[a4i g]at e ⊢;exact dL3 L f e;rw[a4j g]at e ⊢;exact e
   ·rw[a4j i]at f;by_cases g:b=d;rw[a4i g]at e;subst g;rw[a4j i];exact f;rw[a4j g]at e;have:=L.tr f e;rw[a4j λz=>?_];exact this;subst z;rw[L.ir]at this;cases this
theorem cN5(L:Lin c):∀ {x y:List α},lx c x y=false->lx c y x=false->x=y
 | [],[],_,_=>rfl
 | [],_::_,h,_=>by simp[lx]at h
 | _::_,[],_,h=>by simp[lx]at h
 | a::x,b::y,d,f=>by
   rw[dB4]at d f;by_cases e:a=b;rw[a4i e]at d;rw[a4i e.symm]at f;rw[e,cN5 L d f];rw[a4j e]at d;rw[a4j λz=>e z.symm]at f;exact absurd (L.tot d f) e
def bC4(L:Lin c):Lin (lx c):=⟨cF2,dL3 L,cN5 L⟩
end
def cW0:Lin (λa b:Nat=>decide (a < b)):=⟨λa=>by simp,λ{a b d} c e=>by simp at *;lia,λ{a b} c e=>by simp at *;lia⟩
theorem cN6:∀ (x y:List Nat),lx (λa b:Nat=>decide (a < b)) x y=decide (x < y)
 | [],[]=>by simp[lx]
 | _::_,[]=>by simp[lx]
 | [],_::_=>by simp[lx]
 | a::x,b::y=>by
   rw[dB4,cN6 x y];by_cases e:a=b;rw[a4i e];subst e;rw[decide_eq_decide,List.cons_lt_cons_iff];exact⟨λh=>.inr ⟨rfl,h⟩,λh=>h.elim (λz=>absurd z (a5e _)) λz=>z.2⟩;rw[a4j e,decide_eq_decide,List.cons_lt_cons_iff];exact⟨.inl,λh=>h.elim id λz=>absurd z.1 e⟩
noncomputable def slt(a b:Str):Bool:=decide (a.cps.toList < b.cps.toList)
def cW1:Lin slt:=by
 have L:=bC4 cW0;have e:∀ a b:Str,slt a b=lx (λa b:Nat=>decide (a < b)) a.cps.toList b.cps.toList:=λa b=>(cN6 _ _).symm;refine⟨λa=>by rw[e];exact L.ir _,λ{a b d} c f=>by rw[e]at *;exact L.tr c f,λ{a b} c f=>?_⟩;rw[e]at c f;have:=L.tot c f;cases a;cases b;exact a4q Str.mk (Array.toList_inj.mp this)
noncomputable abbrev tlS:List Str->List Str->Bool:=lx slt
def nW:Lin tlS:=bC4 cW1
def cW2(ks:List (List Str)):Ord λi j=>tlS (ks.getD i []) (ks.getD j []):=⟨λa=>nW.ir _,nW.tr,nW.nt⟩
section
variable{prog:Program}{w:World}{A:Around}{E:Value->Shared->Prop}{s:Shared}
abbrev dP7(prog:Program)(w:World)(h:Heap)(k:List Str)(a:Addr):Prop:=IsTupleKey (strKind prog w) h k a
def cN7(prog:Program)(w:World)(h:Heap)(ks:List (List Str))(vs:List Value):Prop:=ks.length=vs.length/\∀ (i:Nat) v,vs[i]? = some v->∃ k a,ks[i]? = some k/\v=.ref a/\dP7 prog w h k a
def cN7.stay{h h':Heap}{ks:List (List Str)}{vs:List Value}(X:cN7 prog w h ks vs)(c:∀ a o,Value.ref a∈vs->h.get? a=some o->h'.get? a=some o):cN7 prog w h' ks vs:=by
 refine⟨X.1,λi v e=>?_⟩;obtain⟨k,a,d,b,o,items,n,f,r⟩:=X.2 i v e;exact⟨k,a,d,b,o,items,n,c a o (by rw[← b];exact a7b e) f,r⟩
theorem bS0{b:Bool}{Q:Bool->Shared->Prop}:∀ {x y:List Str} {xs ys:List Value} (i:Nat) (fin:Bool),ItemsAre (strKind prog w) x xs->ItemsAre (strKind prog w) y ys->fin=decide (xs.length+i < ys.length+i)->Q (tlS x y) s->KatLex prog w A b (decide (xs.length < ys.length)) Q (xs.zip ys) i s
 | _,_,_,_,i,fin,.nil,.nil,_,q=>by rw[show tlS [] []=false from cF2 _]at q;exact q
 | _,_,_,_,i,fin,.nil,.cons _ _,_,q=>by
   show Q (decide (0 < _)) s;rw[a4n (by simp)];rwa[show tlS [] (_::_)=true by unfold tlS;rw[lx]]at q
 | _,_,_,_,i,fin,.cons _ _,.nil,_,q=>by
   show Q (decide (_ < 0)) s;rw[a4k (by simp)];rwa[show tlS (_::_) []=false by unfold tlS;rw[lx]]at q
 | _,_,_,_,i,fin,.cons (k:=a) (ks:=x) c f,.cons (k:=d) (ks:=y) g h,_,q=>by
   obtain⟨t,rfl⟩:=Value.isStrOf_shape c;obtain⟨u,rfl⟩:=Value.isStrOf_shape g;rw[List.zip_cons_cons];refine kat_cons (wpAny_eqBool_str ?_);rw[show tlS (a::x) (d::y)=_ from dB4 a d x y]at q;by_cases e:a=d;rw[a4i e]at q;rw[a4n e];refine kat_yes ?_;have:=bS0 (b:=b) (i+1) (decide (_+(i+1) < _+(i+1))) f h rfl q;simpa using this
   ·rw[a4j e]at q;rw[a4k e];refine kat_no ?_;cases (b&&i==0)with
    | true=>exact oneLt_str q
    | false=>exact kat_one _ _ (lt_str q)
def eA1{ks:List (List Str)}{vs:List Value}{b:Bool}{i j:Nat}{C:Bool->Shared->Prop}(T:cN7 prog w s.heap ks vs)(hi:i < vs.length)(a:j < vs.length)(q:C (tlS (ks.getD i []) (ks.getD j [])) s):kas_ask prog w A (tuples' b) vs i j C s:=by
 obtain⟨k1,a1,c,v1,u,d,n1,e,_,f,g⟩:=T.2 i vs[i] (a0a hi);obtain⟨k2,a2,h,v2,v,k,n2,l,_,m,n⟩:=T.2 j vs[j] (a0a a);have o:vs.getD i Value.none=.ref a1:=by rw[a5a,a0a hi,v1];rfl
 have p:vs.getD j Value.none=.ref a2:=by rw[a5a,a0a a,v2];rfl
 have r:ks.getD i []=k1:=by rw[a5a,c];rfl
 have t:ks.getD j []=k2:=by rw[a5a,h];rfl
 unfold kas_ask;rw[o,p];rw[r,t]at q;refine kat_lt e f l m ?_;have:=bS0 (b:=b) (A:=A) 0 (decide (d.toList.length+0 < k.toList.length+0)) g n rfl q;simpa using this
theorem aB5:∀ {k:List Str} {vs:List Value},ItemsAre (strKind prog w) k vs->∀ v∈vs,∃ i t,v=.str i t
 | _,_,.nil,v,a=>by simp at a
 | _,_,.cons b r,v,a=>by
   rcases a2b.mp a with rfl | a;obtain⟨t,e⟩:=Value.isStrOf_shape b;exact⟨_,t,e⟩;exact aB5 r v a
def dT7{ks:List (List Str)}{vs:List Value}{Q:SortKind->Shared->Prop}(T:cN7 prog w s.heap ks vs)(y:0 < vs.length)(z:∀ k∈ks,k≠[])(q:Q (tuples' true) s):wpAny (model prog w) A (keyKind' vs.toArray) Q E s:=by
 have c:∀ (vs:List Value) (ks:List (List Str)),(∀ (i:Nat) v,vs[i]? = some v->∃ k a,ks[i]? = some k/\v=.ref a/\dP7 prog w s.heap k a)->(∀ k∈ks,k≠[])->∃ fs:List Value,KatTups s.heap vs fs/\fs.length=vs.length/\∀ v∈fs,∃ i t,v=.str i t:=by
  intro vs
  induction vs with
  | nil=>intro ks _ _;exact⟨[],KatTups.nil,rfl,by simp⟩
  | cons v r B=>
    intro ks l m;obtain⟨k,a,d,rfl,o,items,n,g,C,hd,hi⟩:=l 0 v rfl;cases ks with
    | nil=>simp at d
    | cons I ks=>
      simp at d;subst d;obtain⟨fs,e,p,h⟩:=B ks (λi u D=>l (i+1) u (by simpa using D)) λx b=>m x (a6a _ b);have j:=m _ a3a;cases hit:items.toList with
      | nil=>
        rw[hit]at hi;cases hi;exact absurd rfl j
      | cons f nK=>
        have F:items[0]? = some f:=by rw[← a9f,hit];rfl
        obtain⟨i,t,G⟩:=aB5 hi f (by rw[hit];exact a3a);refine⟨f::fs,KatTups.cons g C hd F e,by simp[p],λx b=>?_⟩;rcases a2b.mp b with rfl | b;exact⟨i,t,G⟩;exact h x b
 obtain⟨fs,e,p,h⟩:=c vs ks T.2 z;refine kat_kind (T:=.type "str") e (by lia) (λv H=>?_) (by decide) q;obtain⟨i,t,rfl⟩:=h v H;exact .now
def dL4{ks:List (List Str)}{vs:List Value}{D n:Nat}{P:PySem.Fin->Shared->Prop}(v:s.heap.get? D=some (seqObj "list" vs.toArray n))(K:Value.ref D∉vs)(T:cN7 prog w s.heap ks vs)(x:vs.length < 64)(L:2<=vs.length->∀ k∈ks,k≠[])
  (q:∀ h' p c,Pm vs.length p->Up (λi j=>tlS (ks.getD i []) (ks.getD j [])) p vs.length->h'.get? D=some (seqObj "list" (List.toArray (p.toList.map λi=>vs.getD i Value.none)) c)->(∀ b ob,b≠D->s.heap.get? b=some ob->h'.get? b=some ob)->P (.done (.ret .none)) {s with heap:=h'}) :
  wpAny (model prog w) A (Builtin.«list.sort» ⟨[.ref D],[]⟩) P E s:=by
 have M:D < s.heap.objs.size:=a4b v;have H:vs.length<=sizeLine:=by rw[a4E];lia
 rw[list_sort_plain];refine a3Z (listItems_at v rfl (a3Z (listUpdate_at v rfl ?_ (by simpa using H) (a5c _))));obtain⟨y,m⟩:∃ y,(s.heap.update D (Obj.mapSeq λ_=>(#[]:Array Value))).get? D=some (seqObj "list" #[] y):=⟨_,get?_update_seq v λ_=>#[]⟩;refine a3Z (seqEpoch_at m rfl (a3Z (wpAny_newTuple ?_ (by simpa using H))));refine a3Z (wpAny_newList ?_ (a5c _));refine a4p ?_;have kept:∀ b ob,b≠D->s.heap.get? b=some ob->(((s.heap.update D (Obj.mapSeq λ_=>(#[]:Array Value))).push (seqObj "tuple" vs.toArray 0)).push (seqObj "list" #[] 0)).get? b=some ob:=λb ob g e=>a4a _ (a4a _ ((a2g _ _ (a0e g)).trans e));have a:(((s.heap.update D (Obj.mapSeq λ_=>(#[]:Array Value))).push (seqObj "tuple" vs.toArray 0)).push (seqObj "list" #[] 0)).get? D=some (seqObj "list" #[] y):=a4a _ (a4a _ m);show wpAny (model prog w) A _ P E {s with heap:=((s.heap.update D (Obj.mapSeq λ_=>(#[]:Array Value))).push (seqObj "tuple" vs.toArray 0)).push (seqObj "list" #[] 0)};generalize ((s.heap.update D (Obj.mapSeq λ_=>(#[]:Array Value))).push (seqObj "tuple" vs.toArray 0)).push (seqObj "list" #[] 0)=f at kept a ⊢;have I:cN7 prog w f ks vs:=T.stay λb ob g e=>kept b ob (λz=>K (z ▸ g)) e;dsimp only;have fin:∀ (out:Array Value) (p:Array Nat),out=List.toArray (p.toList.map λi=>vs.getD i Value.none)->Pm vs.length p->Up (λi j=>tlS (ks.getD i []) (ks.getD j [])) p vs.length->out.size<=sizeLine+1 ->
   P (.done (.ret .none)) {s with heap:=f.update D (Obj.mapSeq λ_=>out)}:=λout p e h o _=>by
  obtain⟨B,F⟩:∃ B,(f.update D (Obj.mapSeq λ_=>out)).get? D=some (seqObj "list" out B):=⟨_,get?_update_seq a λ_=>out⟩;subst e;exact q _ p B h o F λb ob g e=>(a2g _ _ (a0e g)).trans (kept b ob g e)
 by_cases l:vs.toArray.size < 2
 ·rw[a4i l,a4i l];refine a3Z (a4l ?_);rw[StateT.run_pure];refine a3Z (a4l ?_);dsimp only;refine a3Z (seqEpoch_at a rfl ?_);have es:(arrOf (SortSt.mk' general' (vs.toArray.zip vs.toArray) #[] 7 none)).map (·.2)=vs.toArray:=by
   show(vs.toArray.zip vs.toArray).map (·.2)=vs.toArray;apply Array.toList_inj.mp;rw[Array.toList_map,Array.toList_zip,List.map_snd_zip (a8a _)]
  refine a3Z (listUpdate_at a rfl ?_ (a5c _) (by rw[es];simp;lia));simp only[bne_self_eq_false,Bool.false_eq_true,if_false];rw[es];refine a4l (fin vs.toArray (List.toArray (List.range vs.length)) ?_ (.refl _) (λi j N J=>?_) (by simp;lia));apply Array.toList_inj.mp;show vs=(List.range vs.length).map λi=>vs.getD i Value.none;refine a9g λi=>?_;rw[a8b];by_cases hi:i < vs.length;rw[List.getElem?_range hi,a0a hi];simp[hi];rw[a9e (by lia),a9e (by simp;lia)];rfl;have:i=j:=by simp at l;lia
  subst this;exact nW.ir _
 ·rw[a4j l,a4j l];have r:2<=vs.length:=by simp at l;lia
  refine a3Z (dT7 (s:={s with heap:=f}) I (by lia) (L r) ?_);refine a3Z (a4r (kat_run (s:={s with heap:=f}) (κ:=tuples' true) (Q:=λd s'=>s'={s with heap:=f}/\failedOf d=none/\∃ p:Array Nat,Pm vs.length p/\Up (λi j=>tlS (ks.getD i []) (ks.getD j [])) p vs.length/\(arrOf d).map (·.2)=List.toArray (p.toList.map λi=>vs.getD i Value.none))
   (G:=λp s'=>s'={s with heap:=f}/\Pm vs.length p/\Up (λi j=>tlS (ks.getD i []) (ks.getD j [])) p vs.length) rfl r x (λp d s' X O R ⟨S,U,V⟩=>⟨S,R,p,U,V,kat_snds rfl O⟩) ?_) ?_ λ_ _ e=>e)
  ·exact bR9 (cW2 ks) (λi j C hi J W=>eA1 (s:={s with heap:=f}) I hi J W) (by lia) λp h o=>⟨rfl,h,o⟩
  ·rintro⟨⟨⟩,d⟩ s' ⟨rfl,hf,p,h,o,t⟩;dsimp only;refine a3Z (seqEpoch_at a rfl ?_);have u:(List.toArray (p.toList.map λi=>vs.getD i Value.none)).size=vs.length:=by rw[a1b,a1a,a5f,h.size]
   rw[t];refine a3Z (listUpdate_at a rfl ?_ (a5c _) (by show(List.toArray _).size<=_;rw[u];lia));rw[hf];simp only[bne_self_eq_false,Bool.false_eq_true,if_false];exact a4l (fin _ p rfl h o (by rw[u];lia))
end
end Sx
namespace Sx
open PySem PySem.SetTable
section
variable{t:SetTable}{hs:List Int}
end
section
variable{t:SetTable}{hs:List Int}{h:Int}{M:Nat}
end
section
variable{mask:Nat}{ow:Array (Option Nat)}{hs:List Int}
end
section
variable{t:SetTable}{hs:List Int}
end
end Sx
namespace PySem
open Sx
section
variable{prog:Program}{w:World}{A:Around}{E:Value->Shared->Prop}{s:Shared}
end
section
variable{prog:Program}{w:World}{A:Around}{E:Value->Shared->Prop}{s:Shared}{S:Addr}{led:Bool}{N:Addr->Prop}{ks:List (List Int)}{o:Obj}{es:Array (Int×Value)}{ep:Nat}{t:SetTable}
end
end PySem
namespace Sx
open PySem PySem.SetTable
end Sx
namespace PySem
open Sx
section
variable{prog:Program}{w:World}{A:Around}{E:Value->Shared->Prop}{s:Shared}{S:Addr}{led:Bool}{N:Addr->Prop}{ks:List (List Int)}{o:Obj}{es:Array (Int×Value)}{ep:Nat}{t:SetTable}
end
section
variable{prog:Program}{w:World}{A:Around}{S I:Addr}{led:Bool}{N:Addr->Prop}
end
section
variable{prog:Program}{w:World}{A:Around}{E:Value->Shared->Prop}{s:Shared}{S I:Addr}{N:Addr->Prop}{ks:List (List Int)}{o:Obj}{es:Array (Int×Value)}{ep:Nat}{t:SetTable}
end
open L2
section
variable{prog:Program}{w:World}{A:Around}{E:Value->Shared->Prop}{s:Shared}{S I:Addr}{N:Addr->Prop}{ks:List (List Int)}{o:Obj}{es:Array (Int×Value)}{ep:Nat}{t:SetTable}
end
end PySem
namespace Sx
open PySem PySem.W PyProof.Rows
section
variable{prog:Program}{w:World}{A:Around}{E:Value->Shared->Prop}{s:Shared}
end
end Sx
namespace PySem
open Sx PySem.W PyProof.Rows
section
variable{prog:Program}{w:World}{A:Around}{E:Value->Shared->Prop}{s:Shared}{S:Addr}{N:Addr->Prop}{ks:List (List Int)}{o:Obj}{es:Array (Int×Value)}{ep:Nat}{t:SetTable}
end
end PySem
namespace Dv
open PySem L2 Mr
section
variable{Γ:Gm}{H H0:Hp}{σ σ0:Sg}{σV σV0:St}{i:Nat}{v:V}
end
section
variable{K:W.Frag}{H:Hp}{C fI:Addr}{f:Str}{E:XK}{Q:Addr->Hp->Prop}
end
end Dv
namespace L2
open PySem PySem.Spec PyProof.Rows
end L2
namespace PySem
noncomputable def nud{κ:Type}[DecidableEq κ]:List κ->List κ->Nat
 | _,[]=>0
 | seen,k::r=>if k∈seen then nud seen r else nud (k::seen) r+1
section
variable{κ:Type}[DecidableEq κ]
theorem uA:∀ (r:List κ) {a b:List κ},(∀ k,k∈a↔k∈b)->nud a r=nud b r
 | [],_,_,_=>rfl
 | k::r,a,b,h=>by
   show(if k∈a then nud a r else nud (k::a) r+1)=if k∈b then nud b r else nud (k::b) r+1
   by_cases c:k∈a;rw[a4i c,a4i ((h k).mp c),uA r h];rw[a4j c,a4j λz=>c ((h k).mpr z),uA r (a:=k::a) (b:=k::b) λx=>by simp only[List.mem_cons,h x]]
theorem bC5:∀ (r seen:List κ),nud seen r<=r.length
 | [],_=>a8a _
 | k::r,seen=>by
   show(if k∈seen then nud seen r else nud (k::seen) r+1)<=r.length+1;split;exact Nat.le_succ_of_le (bC5 r seen);exact Nat.succ_le_succ (bC5 r _)
theorem bS1:∀ (r seen:List κ),nud seen r=r.length↔r.Nodup/\∀ k∈r,k∉seen
 | [],_=>by simp[nud]
 | k::r,seen=>by
   show(if k∈seen then nud seen r else nud (k::seen) r+1)=r.length+1↔_;by_cases b:k∈seen;rw[a4i b];have:=bC5 r seen;constructor;intro h;lia;intro h;exact absurd b (h.2 k (by simp))
   ·rw[a4j b,Nat.add_right_cancel_iff,bS1 r (k::seen),a7e];constructor;rintro⟨d,c⟩;refine⟨⟨λz=>c k z (by simp),d⟩,λx a=>?_⟩;rcases a2b.mp a with rfl | a;exact b;exact λz=>c x a (a6a _ z);rintro⟨⟨d,c⟩,e⟩;refine⟨c,λx a z=>?_⟩;rcases a2b.mp z with rfl | z;exact d a;exact e x (a6a _ a) z
def aO9{r:List κ}:nud [] r=r.length↔r.Nodup:=by
 rw[bS1];simp
end
section
variable{prog:Program}{w:World}{A:Around}{κ:Type}[DecidableEq κ]{knd:KeyKind prog w κ}
def bS2{S I:Addr}{items:Array Value}{ks:List κ}(C:ks.length=items.size)(D:∀ (i:Nat) v,items[i]? = some v->∃ k,ks[i]? = some k/\knd.is k v=true/\v.scannable=true)(N:ks.length+1 < scanBound)(l:S≠I) :
  Fill prog w A S I items.size (λi v=>items[i]? = some v) (λi h=>∃ m,h.SetOf knd S (λk=>decide (k∈ks.take i)) m/\m<=i/\m+nud (ks.take i) (ks.drop i)=nud [] ks) where
 put:=λi v s Q E hi F ⟨m,G,hm,hn⟩ q=>by
  obtain⟨k,u,y,sc⟩:=D i v F;have n:i < ks.length:=by rw[C];exact hi
  have B:ks.take (i+1)=ks.take i++[k]:=by rw[a2f,u];rfl
  have H:ks.drop i=k::ks.drop (i+1):=by
   rw[List.drop_eq_getElem_cons n,(a2a.mp u).2]
  unfold setAdd;refine a4p (a3Z (knd.pyHash y ?_));refine wpAny_setAddHashed_of (knd:=knd) y sc G (by lia) λh' p g=>?_;refine q _ h' _ ⟨if decide (k∈ks.take i)=true then m else m+1,?_,?_,?_⟩ λc o J e=>(p.2 c J).trans e
  ·have e:(λj=>decide (j∈ks.take i)||decide (j=k))=λj=>decide (j∈ks.take (i+1)):=by
    funext j;rw[B];simp[← Bool.decide_or]
   rw[e]at g;exact g
  ·split<;>lia
  ·rw[H]at hn;have f:m+(if k∈ks.take i then nud (ks.take i) (ks.drop (i+1))else nud (k::ks.take i) (ks.drop (i+1))+1)=nud [] ks:=hn;have K:nud (ks.take (i+1)) (ks.drop (i+1))=nud (k::ks.take i) (ks.drop (i+1)):=uA _ λx=>by rw[B];simp[or_comm]
   rw[K];by_cases d:k∈ks.take i
   ·rw[a4i d]at f;rw[show(decide (k∈ks.take i))=true from a4n d,a4i rfl,← uA (ks.drop (i+1)) (a:=ks.take i) (b:=k::ks.take i) λx=>⟨λz=>a6a _ z,λz=>by
     rcases a2b.mp z with rfl | z;exact d;exact z⟩]
    exact f
   ·rw[a4j d]at f;rw[show(decide (k∈ks.take i))=false from a4k d,a4j a9b];lia
 stay:=λi h h' ⟨m,⟨o,es,L,t,M,r⟩,hm⟩ k=>⟨m,⟨o,es,L,t,k S o l M,r⟩,hm⟩
end
end PySem
namespace L2
open PySem PySem.Spec PyProof.Rows
def bC6{X:Cx}{id U:String}{x y:Str}{p c pos a:Pos}{e:Expr}{es:List Expr}{t:TA}{r:List V->Hp->VK->Prop}
  (m:∀ pins s σ H vs us Q,Inv X pins σ H s->cQ vs us->r vs H Q->wpAny (model X.prog X.w) X.A (call (.type U) us) (λu s1=>wpAny (model X.prog X.w) X.A (call (.builtin id) [u]) (EP X pins σ Q) X.xe s1) X.xe s)
  (n:Gl X x) (hm:X.mg x=none) (o:bootBuiltins x=some (.builtin id)) (d:Gl X y) (f:X.mg y=none) (g:bootBuiltins y=some (.type U)) (ha:PA X (e::es) t)
  (hn:x≠"__name__":=by decide) (i:(x==("__debug__":Str))=false:=by decide) (j:y≠"__name__":=by decide) (b:(y==("__debug__":Str))=false:=by decide)
  (q:starEach (e::es) X.env=(false,eval e X.env)::starEach es X.env:=by rfl) (k:(backTo a (starEach es X.env)).any (·.1)=false:=by rfl)
  (l:starEach [.Call (.Name y c) (e::es) [] a] X.env=(false,eval (.Call (.Name y c) (e::es) [] a) X.env)::starEach [] X.env:=by rfl) :
  PE X (.Call (.Name x p) [.Call (.Name y c) (e::es) [] a] [] pos) (tCB r t):=by
 intro pins s σ H Q I h;refine a4u (pK I n hm o (PyProof.Rows.callWith_builtin1 ?_ l (by rfl)) hn i);rw[l]
 (show wpAny _ _ (spliced ((false,eval (.Call (.Name y c) (e::es) [] a) X.env)::backTo pos (starEach [] X.env))) _ _ s;refine Calls.spliced_cons (a4u (pK I d f g (a4f ?_ q k) j b)))
 exact thn (ha a pins s σ H _ I h) λus s1 ⟨vs,v,z,B,C⟩=>thn (m pins s1 σ v vs us Q z B C) λu s2 D=>Calls.spliced_nil D
def cF3{X:Cx}{pins:List (Addr×Obj)}{σ:St}{H:Hp}{s:Shared}{p:Addr}{b:Bool}{xs:List V}(I:Inv X pins σ H s)(c:X.calm=true)(h:gR H p=some (b,xs)) :
  ∃ items:List Value,cQ xs items/\Nonempty (Src X.prog X.w X.A s.heap p items.toArray.size λi v=>items.toArray[i]? = some v):=by
 cases b with
 | true=>
   obtain⟨a,r,⟨o,n,d,e,g,f⟩,_⟩:=I.list (fB h);exact⟨a,r,⟨Src.list (I.ok.hd c) ⟨o,d,e,n,f⟩⟩⟩
 | false=>
   obtain⟨a,r,q,_⟩:=I.tuple (eP h);exact⟨a,r,⟨Src.tup (I.ok.hd c) q⟩⟩
def bS3:List V->Hp->VK->Prop:=λvs H Q=>∃ p b zs,vs=[.ref p]/\gR H p=some (b,zs.map V.str)/\zs.length < 4000/\Q (.int (nud [] zs:Nat)) H
def xO{X:Cx}(y:X.calm=true):∀ pins s σ H vs us Q,Inv X pins σ H s->cQ vs us->bS3 vs H Q ->
  wpAny (model X.prog X.w) X.A (call (.type "set") us) (λu s1=>wpAny (model X.prog X.w) X.A (call (.builtin "len") [u]) (EP X pins σ Q) X.xe s1) X.xe s:=by
 intro pins s σ H vs us Q I B h;obtain⟨p,b,zs,rfl,C,N,q⟩:=h;obtain⟨u,rfl,f⟩:=B.one;cases f;obtain⟨c,r,⟨g⟩⟩:=cF3 I y C;have a:zs.length=c.toArray.size:=by simpa using r.length
 refine cE6 g (λA' _ _=>bS2 (knd:=strKind X.prog X.w) (ks:=zs) a (λi v d=>?_) (by unfold scanBound;lia) (a1d (Nat.lt_succ_self _))) (λh' j _=>?_) λh' tk ⟨m,j,_,hm⟩ D=>?_
 ·rw[List.getElem?_toArray]at d;have hi:i < zs.length:=by
   have:=(a2a.mp d).1;rw[a,a1b];exact this
  have l:zs[i]? = some zs[i]:=a0a hi;obtain⟨u,E,f⟩:=r.get (i:=i) (x:=.str zs[i]) (by rw[a8b,l];rfl);rw[E]at d;cases d;obtain⟨t,rfl⟩:=f;generalize zs[i]=z at l;exact⟨z,l,by simp[PySem.strKind,Value.isStrOf],rfl⟩
 ·exact⟨0,⟨_,#[],0,_,j,⟨rfl,rfl,rfl⟩,rfl,λe F=>by simp at F,λk=>by simp,by decide,by rfl,rfl⟩,a8a _,by simp⟩
 ·obtain⟨o,es,O,t,G,hex,hd,_,_,n,J,hn⟩:=j;have P:nud (zs.take c.toArray.size) (zs.drop c.toArray.size)=0:=by rw[← a,List.drop_length];rfl
  have K:es.size=nud [] zs:=by lia
  refine call_len_set G hex hd J (by unfold scanBound at n;lia) ?_;refine⟨.int (nud [] zs:Nat),H,?_,?_,q⟩;have L:Inv X pins σ H {s with heap:=h',toks:=tk}:=Inv.spun0 (ch:=[]) I (λb M=>by simp at M) λb o _ e=>D b o e;exact L.tok _;rw[K];exact⟨_,rfl⟩
end L2
namespace Dv
open PySem L2 Mr
noncomputable def uZ:FN:=λb=>match b with
 | [d]=>(cC6 d).bind λx=>(zN x.2).bind λa=>if a.length < 4000 then some (.val (.int (nud [] a:Nat)))else none
 | _=>none
def aB6:bA5 bS3 uZ:=by
 intro H j vs Q res vw e k;unfold uZ at e;split at e
 ·obtain⟨⟨b,l⟩,g,e⟩:=aC e;obtain⟨h,c,e⟩:=aC e;dsimp only at c;split at e
  ·rename_i i;cases e;cases vw with
   | cons a t=>
     cases t;obtain⟨p,xs,rfl,d,f⟩:=bA8 a g;rw[wN c]at f;rw[f.strs_inv]at d;exact⟨p,b,h,rfl,d,i,k _ _ (.refl _) (.int _)⟩
  ·cases e
 ·cases e
theorem aB7{a:List Str}{K:Res->Prop}:OK1 (uZ [.tup (a.map D.str)]) K=(a.length < 4000/\K (.val (.int (nud [] a:Nat)))):=by
 show OK1 ((zN (a.map D.str)).bind _) K=_;rw[xL];show OK1 (if _ then _ else none) K=_;rw[cI];rfl
end Dv
namespace L2
open PySem PySem.Spec PyProof.Rows Sx
section
variable{X:Cx}{o e:Expr}{es:List Expr}{to:TE}{t:TA}{name:Str}{apos cpos:Pos}{id:String}{r:V->List V->Hp->VK->Prop}
end
end L2
namespace Dv
open PySem L2 Mr Sx
noncomputable def aP0:List D->Option (List Int)
 | []=>some []
 | .int i::r=>(aP0 r).bind λl=>some (i::l)
 | _::_=>none
theorem aJ0:∀ {l:List D} {a:List Int},aP0 l=some a->l=a.map D.int
 | [],_,h=>by cases h;rfl
 | .int s::r,_,h=>by
   obtain⟨l,b,c⟩:=aC h;cases c;rw[aJ0 b];rfl
 | .non::_,_,h=>by cases h
 | .str _::_,_,h=>by cases h
 | .bl _::_,_,h=>by cases h
 | .tup _::_,_,h=>by cases h
 | .lst _::_,_,h=>by cases h
 | .dic _ _::_,_,h=>by cases h
def aP1(zs:List Int):aP0 (zs.map D.int)=some zs:=by
 induction zs with
 | nil=>rfl
 | cons b r a=>show(aP0 (r.map D.int)).bind _=_;rw[a];rfl
end Dv
namespace L2
end L2
namespace PySem.SeqAt
open PySem MeetsSeq MeetsSeq2 MeetsSeq3 SeqRoads2
end PySem.SeqAt
namespace L2
open PySem PySem.Spec PyProof.Rows Sx
end L2
namespace Dv
open PySem L2 Mr Sx
end Dv
namespace Sx
open PySem
def SoS(l:List (List Str)):Prop:=l.Pairwise λx y=>tlS y x=false
theorem cN8:∀ {l m:List (List Str)},l.Perm m->SoS l->SoS m->l=m
 | [],m,p,_,_=>p.nil_eq
 | x::l,[],p,_,_=>absurd p.length_eq (by simp)
 | x::l,y::m,p,d,f=>by
   have b:=a1i.mp d;have c:=a1i.mp f;have e:x=y:=by
    rcases a2b.mp (p.mem_iff.mp (a3a (a:=x) (l:=l)))with e | g;exact e;rcases a2b.mp (p.mem_iff.mpr (a3a (a:=y) (l:=m)))with e | h;exact e.symm;exact(nW.tot (b.1 y h) (c.1 x g)).symm
   subst e;rw[cN8 (List.Perm.cons_inv p) b.2 c.2]
noncomputable def sX(ks:List (List Str)):List (List Str):=Classical.epsilon λl=>l.Perm ks/\SoS l
def dT8{ks l:List (List Str)}(h:l.Perm ks)(s:SoS l):sX ks=l:=by
 have:=Classical.epsilon_spec (p:=λl:List (List Str)=>l.Perm ks/\SoS l) ⟨l,h,s⟩;exact cN8 (this.1.trans h.symm) this.2 s
def bS4(ks:List (List Str)):(sX ks).Perm ks/\SoS (sX ks):=by
 refine Classical.epsilon_spec (p:=λl:List (List Str)=>l.Perm ks/\SoS l) ⟨ks.mergeSort λx y=>!tlS y x,List.mergeSort_perm ..,?_⟩;have:=List.pairwise_mergeSort (le:=λx y=>!tlS y x) (λa b c e d=>by simp at *;exact nW.nt e d) (λa b=>by
  cases h:tlS b a with
  | false=>simp
  | true=>
    cases d:tlS a b with
    | false=>simp
    | true=>have:=nW.tr h d;rw[nW.ir]at this;cases this) ks
 exact this.imp λ{a b} h=>by simpa using h
def aW7{ks ls:List (List Str)}(h:ls.Perm ks):sX ls=sX ks:=by
 unfold sX;congr 1;funext x;exact propext ⟨λ⟨p,q⟩=>⟨p.trans h,q⟩,λ⟨p,q⟩=>⟨p.trans h.symm,q⟩⟩
end Sx
namespace L2
open PySem PySem.Spec PyProof.Rows Sx
def bS5:List V->Hp->VK->Prop:=λvs H Q=>∃ (p:Addr) (b:Bool) (ps:List Addr) (ks:List (List Str)),vs=[.ref p]/\gR H p=some (b,ps.map V.ref)/\ps.length=ks.length/\(∀ (i:Nat) a k,ps[i]? = some a->ks[i]? = some k->H a=some (.tup (k.map V.str))) /\
 ks.length < 64/\(2<=ks.length->∀ k∈ks,k≠[]) /\
 ∀ r (qs:List Addr),H r=none->qs.length=(sX ks).length->(∀ (i:Nat) a k,qs[i]? = some a->(sX ks)[i]? = some k->H a=some (.tup (k.map V.str)))->Q (.ref r) (upd H r (.lst (qs.map V.ref)))
theorem xP{P:Program}{w:World}:∀ {k:List Str} {us:List Value},cQ (k.map V.str) us->ItemsAre (strKind P w) k us
 | [],_,.nil=>.nil
 | x::k,_,.cons h t=>by
   obtain⟨tk,rfl⟩:=h;exact .cons (by show Value.isStrOf x (.str x tk)=true;simp[Value.isStrOf]) (xP t)
def cW3{X:Cx}{pins:List (Addr×Obj)}{σ:St}{H:Hp}{s:Shared}{a:Addr}{k:List Str}(I:Inv X pins σ H s)(h:H a=some (.tup (k.map V.str))):dP7 X.prog X.w s.heap k a:=by
 obtain⟨b,r,⟨o,c,d,n,hd⟩,_⟩:=I.tuple (eP (dS h));exact⟨o,b.toArray,n,c,d,hd,by simpa using xP r⟩
theorem aB8:∀ l:List Addr,cQ (l.map V.ref) (l.map Value.ref)
 | []=>.nil
 | a::r=>.cons rfl (aB8 r)
section
variable{X:Cx}
def pE:jL X (.builtin "sorted") bS5:=by
 intro pins s σ H xs us Q I r h;obtain⟨p,b,ps,ks,rfl,hq,M,hk,h64,N,q⟩:=h;obtain⟨u,rfl,ru⟩:=wV r;cases ru;obtain⟨d,B,T,o,n,hT,g,C,hd,hsz⟩:∃ (d:List Value),cQ (ps.map V.ref) d/\∃ (T:String) (o:Obj) (n:Nat),(T="list"\/T="tuple")/\s.heap.get? p=some o/\o.cls=.type T/\o.data=.seq d.toArray n/\ps.length<=sizeLine:=by
  cases b with
  | true=>
    obtain⟨d,B,y,O⟩:=I.list (fB hq);obtain⟨o,g,C,n,hd⟩:=y.isList;exact⟨d,B,"list",o,n,.inl rfl,g,C,hd,by simpa using O⟩
  | false=>
    obtain⟨d,B,y,O⟩:=I.tuple (eP hq);obtain⟨o,g,C,n,hd⟩:=y;exact⟨d,B,"tuple",o,n,.inr rfl,g,C,hd,by simpa using O⟩
 obtain rfl:=aO3 B;refine Calls.call_function_entry kind_sorted plain_sorted entry_sorted (args_sorted1 _) ?_;unfold Builtin.«sorted»;refine a3Z (m:=checkCount "sorted" 1 1 _) (a4l ?_);refine a3Z (wpAny_collect_seq p hT g C hd (λh' P=>?_) (by simp only[List.size_toArray,List.length_map];lia));have R:Inv X pins σ H {s with heap:=h'}:=I.kept (t':=s.toks) P;have l:∀ (i:Nat) (hi:i < ps.length),∃ k,ks[i]? = some k/\dP7 X.prog X.w h' k ps[i]/\H ps[i]=some (.tup (k.map V.str)):=λi hi=>by
  have f:i < ks.length:=by lia
  have hH:=hk i ps[i] ks[i] (a0a hi) (a0a f);exact⟨ks[i],a0a f,cW3 R hH,hH⟩
 have alive:∀ a∈ps,a < h'.objs.size:=λa ha=>by
  obtain⟨i,hi,rfl⟩:=a7d ha;obtain⟨k,_,⟨o,_,_,g,_⟩,_⟩:=l i hi;exact a4b g
 have T1:cN7 X.prog X.w h' ks (ps.map Value.ref):=by
  refine⟨by rw[a1a];lia,λi v e=>?_⟩;rw[a8b]at e;obtain⟨a,F,rfl⟩:=a6c.mp e;obtain⟨hi,rfl⟩:=a2a.mp F;obtain⟨k,A,G,_⟩:=l i hi;exact⟨k,ps[i],A,rfl,G⟩
 refine a3Z (wpAny_newList ?_ (by simp;lia));have t:(h'.push (seqObj "list" (ps.map Value.ref).toArray.toList.toArray 0)).get? h'.objs.size=some (seqObj "list" (ps.map Value.ref).toArray 0):=by
  simpa using a0c (h:=h') (o:=seqObj "list" (ps.map Value.ref).toArray.toList.toArray 0) rfl
 have up1:∀ b ob,h'.get? b=some ob->(h'.push (seqObj "list" (ps.map Value.ref).toArray.toList.toArray 0)).get? b=some ob:=λb ob e=>a4a _ e;show wpAny _ _ _ _ _ {s with heap:=h'.push (seqObj "list" (ps.map Value.ref).toArray.toList.toArray 0)};have S:Value.ref h'.objs.size∉ps.map Value.ref:=λz=>by
  obtain⟨a,ha,e⟩:=a2c.mp z;injection e with e
  exact absurd (alive a ha) (by rw[e];exact a5e _)
 generalize h'.push (seqObj "list" (ps.map Value.ref).toArray.toList.toArray 0)=J at t up1;have vl:(ps.map Value.ref).length=ks.length:=by rw[a1a];exact M
 refine a3Z (a4p (a4x slot_list_sort ⟨_,t,rfl⟩ entry_list_sort (dL4 (s:={s with heap:=J}) t S (T1.stay λb ob _ e=>up1 b ob e) (by lia) (λh=>N (by lia)) λU p c K hu D x=>⟨_,rfl,?_⟩) (args_list_sort _)));have keep:∀ b ob,h'.get? b=some ob->U.get? b=some ob:=λb ob e=>x b ob (λz=>absurd (a4b (z ▸ e)) (a5e _)) (up1 b ob e);rw[vl]at K hu
 -- what is told,in order
 have hps:=K.size;have y:∀ i,i < ks.length->p.toList[i]? = some (at0 p i):=λi hi=>by
  have f:i < p.size:=by lia
  rw[a9f,Array.getElem?_eq_getElem f];simp[at0,Array.getD,f]
 have E:(p.toList.map λi=>ks.getD i []).Perm ks:=by
  have J:=List.Perm.map (λi=>ks.getD i []) K;have U:(List.range ks.length).map (λi=>ks.getD i [])=ks:=by
   refine a9g λi=>?_;rw[a8b];by_cases hi:i < ks.length;rw[List.getElem?_range hi,a0a hi];simp[hi];rw[a9e (by simp;lia),a9e (by lia)];rfl
  rw[U]at J;exact J
 have W:sX ks=p.toList.map λi=>ks.getD i []:=by
  refine dT8 ?_ (List.pairwise_iff_getElem.mpr λi j hi L ij=>?_);exact E;simp only[List.length_map,Array.length_toList]at hi L;have:=hu i j (by lia) (by lia);have A:=y i (by lia);have G:=y j (by lia);rw[List.getElem_map,List.getElem_map];rw[a0a (by rw[a5f];lia)]at A G;rw[a7a A,a7a G];exact this
 have Y:(sX ks).Perm ks:=by
  rw[W];exact E
 have lt:∀ i∈p.toList,i < ps.length:=λi hi=>by
  have:=a9c.mp (K.mem_iff.mp hi);lia
 have eo:(p.toList.map λi=>(ps.map Value.ref).getD i Value.none)=(p.toList.map λi=>ps.getD i 0).map Value.ref:=by
  rw[List.map_map];refine List.map_congr_left λi hi=>?_;have M:=lt i hi;simp[M]
 rw[eo]at D;have l1:(p.toList.map λi=>ps.getD i 0).length=(sX ks).length:=by rw[W,a1a,a1a]
 have l2:(sX ks).length=ks.length:=Y.length_eq;refine a4l ⟨_,rfl,.ref h'.objs.size,_,R.laid (t':=s.toks) (o:=.lst ((p.toList.map λi=>ps.getD i 0).map V.ref)) keep (a8a _) ⟨by rw[a1a,l1];lia,_,c,aB8 _,D⟩,rfl,q _ _ (R.hok.fresh (a8a _)) l1 λi a k F ek=>?_⟩;rw[a8b]at F;obtain⟨j,ej,rfl⟩:=a6c.mp F;rw[W,a8b,ej]at ek;have L:=lt j (a7b ej);obtain⟨k',A,_,e3⟩:=l j L;have:ks.getD j []=k':=by rw[a5a,A];rfl
 have Z:k=k':=by rw[← this];exact(a7a ek).symm
 subst Z;rw[a5a,a0a L];exact e3
end
end L2
namespace Dv
open PySem L2 Mr Sx
noncomputable abbrev tS(k:List Str):D:=.tup (k.map D.str)
noncomputable def bI4:List D->Option (List (List Str))
 | []=>some []
 | .tup l::r=>(zN l).bind λk=>(bI4 r).bind λks=>some (k::ks)
 | _=>none
theorem bC7:∀ {l:List D} {ks:List (List Str)},bI4 l=some ks->l=ks.map tS
 | [],_,h=>by cases h;rfl
 | .tup l::r,_,h=>by
   obtain⟨k,a,h⟩:=aC h;obtain⟨ks,b,h⟩:=aC h;cases h;rw[wN a,bC7 b];rfl
 | .non::_,_,h=>by cases h
 | .int _::_,_,h=>by cases h
 | .str _::_,_,h=>by cases h
 | .bl _::_,_,h=>by cases h
 | .lst _::_,_,h=>by cases h
 | .dic _ _::_,_,h=>by cases h
def bS6(ks:List (List Str)):bI4 (ks.map tS)=some ks:=by
 induction ks with
 | nil=>rfl
 | cons k r a=>show(zN (k.map D.str)).bind _=_;rw[xL];show(bI4 (r.map tS)).bind _=_;rw[a];rfl
theorem cN9{H:Hp}:∀ {ks:List (List Str)} {vs:List V},Rps H (ks.map tS) vs->∃ ps:List Addr,vs=ps.map V.ref/\ps.length=ks.length/\∀ (i:Nat) a k,ps[i]? = some a->ks[i]? = some k->H a=some (.tup (k.map V.str))
 | [],_,.nil=>⟨[],rfl,rfl,λi a k h=>by simp at h⟩
 | k::ks,_,.cons h t=>by
   obtain⟨ps,rfl,f,q⟩:=cN9 t;obtain⟨p,xs,e,d,g⟩:=gO (.inl h);rw[g.strs_inv]at d;subst e;refine⟨p::ps,rfl,by simp[f],λi a j b c=>?_⟩;cases i with
   | zero=>simp at b c;subst b c;exact d
   | succ i=>exact q i a j (by simpa using b) (by simpa using c)
theorem bS7{H:Hp}:∀ {ks:List (List Str)} {ps:List Addr},ps.length=ks.length->(∀ (i:Nat) a k,ps[i]? = some a->ks[i]? = some k->H a=some (.tup (k.map V.str)))->Rps H (ks.map tS) (ps.map V.ref)
 | [],[],_,_=>.nil
 | k::ks,p::ps,hl,q=>.cons (.tup (q 0 p k rfl rfl) (bA4 k)) (bS7 (by simpa using hl) λi a b c d=>q (i+1) a b (by simpa using c) (by simpa using d))
open Classical in
noncomputable def aB9:FN:=λa=>match a with
 | [d]=>(cC6 d).bind λx=>(bI4 x.2).bind λks=>if ks.length < 64/\(2<=ks.length->∀ k∈ks,k≠[])then some (.own (.lst ((sX ks).map tS)))else none
 | _=>none
def vA:bA5 bS5 aB9:=by
 intro H x vs Q res vw e k;unfold aB9 at e;split at e
 ·obtain⟨⟨b,l⟩,j,e⟩:=aC e;obtain⟨ks,c,e⟩:=aC e;dsimp only at c;split at e
  ·rename_i d;cases e;cases vw with
   | cons a t=>
     cases t;obtain⟨p,xs,rfl,m,f⟩:=bA8 a j;rw[bC7 c]at f;obtain⟨ps,rfl,n,o⟩:=cN9 f;refine⟨p,b,ps,ks,rfl,m,n,o,d.1,d.2,λr qs g q s=>?_⟩;have h:aF2 H (upd H r (.lst (qs.map V.ref))):=bU g;exact k _ _ h ⟨r,rfl,g,_,aR,bS7 q λi a u v w=>h _ _ (s i a u v w)⟩
  ·cases e
 ·cases e
def bS8{ks:List (List Str)}{K:Res->Prop}:OK1 (aB9 [.lst (ks.map tS)]) K=((ks.length < 64/\(2<=ks.length->∀ k∈ks,k≠[]))/\K (.own (.lst ((sX ks).map tS)))):=by
 show OK1 ((bI4 (ks.map tS)).bind _) K=_;rw[bS6];show OK1 (if _ then _ else none) K=_;rw[cI];rfl
end Dv
namespace L2
open PySem PySem.Spec PyProof.Rows
section
variable{X:Cx}
def cF4(w:X.calm=true):jL X (.builtin "any") (λxs H Q=>∃ (a:Addr) (bs:List Bool),xs=[.ref a]/\SqL X.K H a (bs.map V.bl)/\Q (.bl (bs.any id)) H):=by
 intro pins s σ H xs us Q I r h;obtain⟨a,bs,rfl,ha,q⟩:=h;obtain⟨u,rfl,y⟩:=wV r;cases y;obtain⟨c,l,p,F⟩:=I.list ha;have k:a < s.heap.objs.size:=by obtain⟨_,e,_⟩:=p.isList;exact a4b e
 have B:X.A.in1.handled=none:=I.ok.hd w;have d:=l.length;rw[a1a]at d;refine call_any_walk (wpAny_pyIter_list p.isList ?_);refine⟨s.heap.objs.size,[s.heap.objs.size,a],[s.heap.objs.size],c.toArray.size,_,_,λi=>(bs[i]?).getD true,rfl,Walks.list (A:=X.A.in1) B _ a (a1d k) c.toArray,
  ⟨⟨_,a0c _ rfl,rfl,rfl⟩,p.isList.push _⟩,λi v s' G J C m=>?_,λh' tk D=>?_⟩
 ·have hi:c[i]? = some v:=by simpa using C
  have n:i < c.length:=(a2a.mp hi).1;have g:i < bs.length:=by lia
  obtain⟨u,t,E⟩:=l.get (i:=i) (x:=V.bl bs[i]) (by rw[a8b,a0a g];rfl);rw[hi]at t;cases t;have e:v=Value.bool bs[i]:=E;subst e;simp only[List.getElem?_eq_getElem g,Option.getD_some]at m;exact a4s m
 ·have e:((List.range c.toArray.size).any λi=>(bs[i]?).getD true)=bs.any id:=by
   rw[a1b,← d,a9d,List.any_eq_true,List.any_eq_true];constructor;rintro⟨i,hi,j⟩;have f:=a9c.mp hi;rw[a0a f]at j;exact⟨_,a6b f,j⟩;rintro⟨b,g,j⟩;obtain⟨i,hi,rfl⟩:=a7d g;exact⟨i,a9c.mpr hi,by rw[a0a hi];exact j⟩
  rw[e];exact⟨.bl _,H,I.kept (t':=tk) λb o q=>D b o (λhm=>by
   have z:b=s.heap.objs.size:=by simpa using hm
   rw[z]at q;exact a5e _ (a4b q)) (a4a _ q),rfl,q⟩
end
end L2
namespace Dv
open PySem L2
def dL5(K:W.Frag):List V->Hp->L2.VK->Prop:=λxs H Q=>∃ (a:Addr) (bs:List Bool),xs=[.ref a]/\SqL K H a (bs.map V.bl)/\Q (.bl (bs.any id)) H
noncomputable def dL6:FN:=λa=>match a with
 | [.lst l]=>(aN7 l).map λbs=>.val (.bl (bs.any id))
 | _=>none
def bS9{K:W.Frag}:bA5 (dL5 K) dL6:=by
 intro H f vs Q res vw e k;unfold dL6 at e;split at e;obtain⟨bs,c,d⟩:=a6c.mp e;cases d;obtain⟨x,rfl,v⟩:=aV9 vw;obtain⟨p,xs,rfl,a,b⟩:=iM v;rw[aH1 c]at b;rw[b.bls_inv]at a;exact⟨p,bs,rfl,fB a,k _ H (.refl _) (.bl _)⟩;cases e
def aP2{X:Cx}(K:W.Frag)(a:X.K=K)(b:X.calm=true):jL X (.builtin "any") (dL5 K):=by rw[← a];exact cF4 b
theorem aC0{bs:List Bool}{K:Res->Prop}:OK1 (dL6 [.lst (bs.map D.bl)]) K=K (.val (.bl (bs.any id))):=by
 show OK1 ((aN7 (bs.map D.bl)).map λbs=>Res.val (.bl (bs.any id))) K=_;rw[aN8];rfl
end Dv
namespace Sx
open PySem PySem.W PyProof.Rows
def KAt{κ:Type}(At:Heap->κ->Value->Prop)(h:Heap)(ks:List κ)(vs:List Value):Prop:=ks.length=vs.length/\∀ (i:Nat) v,vs[i]? = some v->∃ k,ks[i]? = some k/\At h k v
structure Sk(prog:Program)(w:World)(κ:Type) where
 lt:κ->κ->Bool
 lin:Lin lt
 At:Heap->κ->Value->Prop
 live:∀ {h:Heap} {k:κ} {a:Addr},At h k (.ref a)->∃ o,h.get? a=some o
 stay:∀ {h h':Heap} {k:κ} {v:Value},At h k v->(∀ a o,v=.ref a->h.get? a=some o->h'.get? a=some o)->At h' k v
 kind:SortKind
 ok:List κ->Prop
 rm:Around->Prop
 kd:∀ {A:Around} {E:Value->Shared->Prop} {s:Shared} {ks:List κ} {vs:List Value} {Q:SortKind->Shared->Prop},KAt At s.heap ks vs->2<=vs.length->ok ks->Q kind s->wpAny (model prog w) A (keyKind' vs.toArray) Q E s
 ask:∀ {A:Around} {s:Shared} {k1 k2:κ} {v1 v2:Value} {C:Bool->Shared->Prop},rm A->At s.heap k1 v1->At s.heap k2 v2->C (lt k1 k2) s->wpAny (model prog w) A (keyLt' kind v1 v2) C (λ_ _=>False) s
section
variable{prog:Program}{w:World}{A:Around}{E:Value->Shared->Prop}{s:Shared}{κ:Type}[Inhabited κ]
def Sk.ord(S:Sk prog w κ)(ks:List κ):Ord λi j=>S.lt (ks.getD i default) (ks.getD j default):=⟨λa=>S.lin.ir _,S.lin.tr,S.lin.nt⟩
def Sk.stays(S:Sk prog w κ){h h':Heap}{ks:List κ}{vs:List Value}(X:KAt S.At h ks vs)(b:∀ a o,Value.ref a∈vs->h.get? a=some o->h'.get? a=some o):KAt S.At h' ks vs:=by
 refine⟨X.1,λi v e=>?_⟩;obtain⟨k,c,d⟩:=X.2 i v e;exact⟨k,c,S.stay d λa o f g=>b a o (by rw[← f];exact a7b e) g⟩
def Sk.asks(S:Sk prog w κ)(b:S.rm A){ks:List κ}{vs:List Value}{i j:Nat}{C:Bool->Shared->Prop}(T:KAt S.At s.heap ks vs)(hi:i < vs.length)(a:j < vs.length)(q:C (S.lt (ks.getD i default) (ks.getD j default)) s):kas_ask prog w A S.kind vs i j C s:=by
 obtain⟨k1,c,d⟩:=T.2 i vs[i] (a0a hi);obtain⟨k2,e,f⟩:=T.2 j vs[j] (a0a a);unfold kas_ask;rw[a5a,a0a hi,a5a,a0a a];rw[a5a,c,a5a,e]at q;exact S.ask b d f q
def dL7(S:Sk prog w κ)(J:S.rm A){ks:List κ}{vs:List Value}{D n:Nat}{P:PySem.Fin->Shared->Prop}(u:s.heap.get? D=some (seqObj "list" vs.toArray n))(K:Value.ref D∉vs)(T:KAt S.At s.heap ks vs)(v:vs.length < 64)(L:2<=vs.length->S.ok ks)
  (q:∀ h' p c,Pm vs.length p->Up (λi j=>S.lt (ks.getD i default) (ks.getD j default)) p vs.length->h'.get? D=some (seqObj "list" (List.toArray (p.toList.map λi=>vs.getD i Value.none)) c)->(∀ b ob,b≠D->s.heap.get? b=some ob->h'.get? b=some ob)->P (.done (.ret .none)) {s with heap:=h'}) :
  wpAny (model prog w) A (Builtin.«list.sort» ⟨[.ref D],[]⟩) P E s:=by
 have M:D < s.heap.objs.size:=a4b u;have F:vs.length<=sizeLine:=by rw[a4E];lia
 rw[list_sort_plain];refine a3Z (listItems_at u rfl (a3Z (listUpdate_at u rfl ?_ (by simpa using F) (a5c _))));obtain⟨x,m⟩:∃ x,(s.heap.update D (Obj.mapSeq λ_=>(#[]:Array Value))).get? D=some (seqObj "list" #[] x):=⟨_,get?_update_seq u λ_=>#[]⟩;refine a3Z (seqEpoch_at m rfl (a3Z (wpAny_newTuple ?_ (by simpa using F))));refine a3Z (wpAny_newList ?_ (a5c _));refine a4p ?_;have kept:∀ b ob,b≠D->s.heap.get? b=some ob->(((s.heap.update D (Obj.mapSeq λ_=>(#[]:Array Value))).push (seqObj "tuple" vs.toArray 0)).push (seqObj "list" #[] 0)).get? b=some ob:=λb ob h e=>a4a _ (a4a _ ((a2g _ _ (a0e h)).trans e));have a:(((s.heap.update D (Obj.mapSeq λ_=>(#[]:Array Value))).push (seqObj "tuple" vs.toArray 0)).push (seqObj "list" #[] 0)).get? D=some (seqObj "list" #[] x):=a4a _ (a4a _ m);show wpAny (model prog w) A _ P E {s with heap:=((s.heap.update D (Obj.mapSeq λ_=>(#[]:Array Value))).push (seqObj "tuple" vs.toArray 0)).push (seqObj "list" #[] 0)};generalize ((s.heap.update D (Obj.mapSeq λ_=>(#[]:Array Value))).push (seqObj "tuple" vs.toArray 0)).push (seqObj "list" #[] 0)=f at kept a ⊢;have H:KAt S.At f ks vs:=S.stays T λb ob h e=>kept b ob (λz=>K (z ▸ h)) e;dsimp only;have fin:∀ (out:Array Value) (p:Array Nat),out=List.toArray (p.toList.map λi=>vs.getD i Value.none)->Pm vs.length p->Up (λi j=>S.lt (ks.getD i default) (ks.getD j default)) p vs.length->out.size<=sizeLine+1 ->
   P (.done (.ret .none)) {s with heap:=f.update D (Obj.mapSeq λ_=>out)}:=λout p e k o _=>by
  obtain⟨y,B⟩:∃ y,(f.update D (Obj.mapSeq λ_=>out)).get? D=some (seqObj "list" out y):=⟨_,get?_update_seq a λ_=>out⟩;subst e;exact q _ p y k o B λb ob h e=>(a2g _ _ (a0e h)).trans (kept b ob h e)
 by_cases l:vs.toArray.size < 2
 ·rw[a4i l,a4i l];refine a3Z (a4l ?_);rw[StateT.run_pure];refine a3Z (a4l ?_);dsimp only;refine a3Z (seqEpoch_at a rfl ?_);have es:(arrOf (SortSt.mk' general' (vs.toArray.zip vs.toArray) #[] 7 none)).map (·.2)=vs.toArray:=by
   show(vs.toArray.zip vs.toArray).map (·.2)=vs.toArray;apply Array.toList_inj.mp;rw[Array.toList_map,Array.toList_zip,List.map_snd_zip (a8a _)]
  refine a3Z (listUpdate_at a rfl ?_ (a5c _) (by rw[es];simp;lia));simp only[bne_self_eq_false,Bool.false_eq_true,if_false];rw[es];refine a4l (fin vs.toArray (List.toArray (List.range vs.length)) ?_ (.refl _) (λi j N I=>?_) (by simp;lia));apply Array.toList_inj.mp;show vs=(List.range vs.length).map λi=>vs.getD i Value.none;refine a9g λi=>?_;rw[a8b];by_cases hi:i < vs.length;rw[List.getElem?_range hi,a0a hi];simp[hi];rw[a9e (by lia),a9e (by simp;lia)];rfl;have:i=j:=by simp at l;lia
  subst this;exact S.lin.ir _
 ·rw[a4j l,a4j l];have g:2<=vs.length:=by simp at l;lia
  refine a3Z (S.kd (s:={s with heap:=f}) H g (L g) ?_);refine a3Z (a4r (kat_run (s:={s with heap:=f}) (κ:=S.kind) (Q:=λd s'=>s'={s with heap:=f}/\failedOf d=none/\∃ p:Array Nat,Pm vs.length p/\Up (λi j=>S.lt (ks.getD i default) (ks.getD j default)) p vs.length/\(arrOf d).map (·.2)=List.toArray (p.toList.map λi=>vs.getD i Value.none))
   (G:=λp s'=>s'={s with heap:=f}/\Pm vs.length p/\Up (λi j=>S.lt (ks.getD i default) (ks.getD j default)) p vs.length) rfl g v (λp d s' Y O R ⟨U,V,W⟩=>⟨U,R,p,V,W,kat_snds rfl O⟩) ?_) ?_ λ_ _ e=>e)
  ·exact bR9 (S.ord ks) (λi j C hi I X=>S.asks (s:={s with heap:=f}) J H hi I X) (by lia) λp k o=>⟨rfl,k,o⟩
  ·rintro⟨⟨⟩,d⟩ s' ⟨rfl,hf,p,k,o,r⟩;dsimp only;refine a3Z (seqEpoch_at a rfl ?_);have t:(List.toArray (p.toList.map λi=>vs.getD i Value.none)).size=vs.length:=by rw[a1b,a1a,a5f,k.size]
   rw[r];refine a3Z (listUpdate_at a rfl ?_ (a5c _) (by show(List.toArray _).size<=_;rw[t];lia));rw[hf];simp only[bne_self_eq_false,Bool.false_eq_true,if_false];exact a4l (fin _ p rfl k o (by rw[t];lia))
def SoG(lt:κ->κ->Bool)(l:List κ):Prop:=l.Pairwise λx y=>lt y x=false
end
section
variable{κ:Type}{lt:κ->κ->Bool}
theorem cO0(L:Lin lt):∀ {l m:List κ},l.Perm m->SoG lt l->SoG lt m->l=m
 | [],m,p,_,_=>p.nil_eq
 | x::l,[],p,_,_=>absurd p.length_eq (by simp)
 | x::l,y::m,p,d,f=>by
   have b:=a1i.mp d;have c:=a1i.mp f;have e:x=y:=by
    rcases a2b.mp (p.mem_iff.mp (a3a (a:=x) (l:=l)))with e | g;exact e;rcases a2b.mp (p.mem_iff.mpr (a3a (a:=y) (l:=m)))with e | h;exact e.symm;exact(L.tot (b.1 y h) (c.1 x g)).symm
   subst e;rw[cO0 L (List.Perm.cons_inv p) b.2 c.2]
noncomputable def sG(lt:κ->κ->Bool)(ks:List κ):List κ:=Classical.epsilon (h:=⟨[]⟩) λl=>l.Perm ks/\SoG lt l
def cW4(L:Lin lt){ks l:List κ}(h:l.Perm ks)(s:SoG lt l):sG lt ks=l:=by
 have:=Classical.epsilon_spec (p:=λl:List κ=>l.Perm ks/\SoG lt l) ⟨l,h,s⟩;exact cO0 L (this.1.trans h.symm) this.2 s
def cW5(L:Lin lt)(ks:List κ):(sG lt ks).Perm ks/\SoG lt (sG lt ks):=by
 refine Classical.epsilon_spec (p:=λl:List κ=>l.Perm ks/\SoG lt l) ⟨ks.mergeSort λx y=>!lt y x,List.mergeSort_perm ..,?_⟩;have:=List.pairwise_mergeSort (le:=λx y=>!lt y x) (λa b c e d=>by simp at *;exact L.nt e d) (λa b=>by
  cases h:lt b a with
  | false=>simp
  | true=>
    cases d:lt a b with
    | false=>simp
    | true=>have:=L.tr h d;rw[L.ir]at this;cases this) ks
 exact this.imp λ{a b} h=>by simpa using h
def cW6{ks ls:List κ}(h:ls.Perm ks):sG lt ls=sG lt ks:=by
 unfold sG;congr 1;funext x;exact propext ⟨λ⟨p,q⟩=>⟨p.trans h,q⟩,λ⟨p,q⟩=>⟨p.trans h.symm,q⟩⟩
def cO1(L:Lin lt){ks ls:List κ}:sG lt ls=sG lt ks↔ls.Perm ks:=⟨λe=>(cW5 L ls).1.symm.trans (e ▸ (cW5 L ks).1),cW6⟩
end
noncomputable abbrev tlI:List Int->List Int->Bool:=lx λa b:Int=>decide (a < b)
def xQ:Lin (λa b:Int=>decide (a < b)):=⟨λa=>by simp,λ{a b d} c e=>by simp at *;lia,λ{a b} c e=>by simp at *;lia⟩
def xR{α:Type}{xs:Array α}{i:Nat}{x:α}{r:List α}(h:xs.toList.drop i=x::r):i < xs.size/\xs[i]? = some x/\xs.toList.drop (i+1)=r:=by
 have hi:i < xs.toList.length:=by
  rcases Nat.lt_or_ge i xs.toList.length with h' | h';exact h';rw[List.drop_eq_nil_of_le h']at h;cases h
 rw[List.drop_eq_getElem_cons hi]at h;injection h with a b
 refine⟨by simpa using hi,?_,b⟩;rw[← a9f,a0a hi,a]
def aJ1{α:Type}{xs:Array α}{i:Nat}(h:xs.toList.drop i=[])(hi:i<=xs.size):xs.size=i/\xs[i]? = none:=by
 have:=List.drop_eq_nil_iff.mp h;rw[a5f]at this;exact⟨by lia,Array.getElem?_eq_none (by lia)⟩
def cW7(l b:Addr)(items f:Array Value)(n n2:Nat)(I B:Option Addr)(sl sl2:Array (Option Value)):∀ (x y:List Int) (i:Nat) (v z:List Value),items.toList.drop i=v->f.toList.drop i=z->i<=items.size->i<=f.size->IntsAre v x->IntsAre z y ->
  Meets (Builtin.«list.__eq__.loop» ⟨[.ref l,.ref b,rawInt i,rawInt 0],[]⟩)
   (λA R s=>s.heap.get? l=some {cls:=.type "list",dict:=I,data:=.seq items n,slots:=sl}/\s.heap.get? b=some {cls:=.type "list",dict:=B,data:=.seq f n2,slots:=sl2} /\
    R (.ok (.ret (.bool (tlI x y)))) s):=by
 intro x
 induction x with
 | nil=>
   intro y i v z C p G D q u prog w A R s h;obtain⟨J,g,d,tk,os⟩:=s;obtain⟨m,o,h⟩:=h;cases q;obtain⟨K,E⟩:=aJ1 C G;have j:items[((i:Nat):Int).toNat]? = none:=by simpa using E
   have F:i=f.size/\y=[]\/i < f.size/\∃ c r,y=c::r:=by
    cases u with
    | nil=>exact .inl ⟨(aJ1 p D).1.symm,rfl⟩
    | cons c t r=>exact .inr ⟨(xR p).1,_,_,rfl⟩
   wp_walk using a4o m,a4o o
   rw[j]
   wp_walk using a4o m,a4o o
   show R (.ok (.ret (.bool (decide (items.size < f.size))))) _;rcases F with⟨a1,rfl⟩ | ⟨a1,c,r,rfl⟩;rw[a4k (by lia)];rwa[show tlI [] []=false from cF2 _]at h;rw[a4n (by lia)];rwa[show tlI [] (c::r)=true by unfold tlI;rw[lx]]at h
 | cons a x L=>
   intro y i v z C p G D q u prog w A R s h;obtain⟨J,g,d,tk,os⟩:=s;obtain⟨m,o,h⟩:=h;cases q with
   | cons _ t1 q=>
   obtain⟨l1,M,N⟩:=xR C;have j:items[((i:Nat):Int).toNat]? = some (.int a t1):=by simpa using M
   cases u with
   | nil=>
     obtain⟨K,E⟩:=aJ1 p D;have k:f[((i:Nat):Int).toNat]? = none:=by simpa using E
     wp_walk using a4o m,a4o o
     rw[j,k]
     wp_walk using a4o m,a4o o
     show R (.ok (.ret (.bool (decide (items.size < f.size))))) _;rw[a4k (by lia)];rwa[show tlI (a::x) []=false by unfold tlI;rw[lx]]at h
   | cons c H u=>
     obtain⟨O,P,Q⟩:=xR p;have k:f[((i:Nat):Int).toNat]? = some (.int c H):=by simpa using P
     have S:((i:Int)+1)=((i+1:Nat):Int):=by push_cast;rfl
     rw[show tlI (a::x) (c::_)=_ from dB4 a c x _]at h
     wp_walk using a4o m,a4o o
     rw[j,k];refine a3Z (wpAny_eqBool_int ?_);by_cases e:a=c
     ·rw[a4i e]at h;rw[show(a==c)=true from a4K.mpr e]
      wp_walk
      rw[S];exact⟨a4D MeetsSeq3.plain_eq_loop _,a4w MeetsSeq3.entry_eq_loop (by
       rw[a7g MeetsSeq3.plain_eq_loop _];exact L _ (i+1) _ _ N Q l1 O q u prog w A R _ ⟨m,o,h⟩)⟩
     ·rw[a4j e]at h;rw[show(a==c)=false by simpa using e]
      wp_walk using a4o m,a4o o
      rw[j,k];refine a3Z (show wpAny _ _ (compareOp .Lt (.int a t1) (.int c H)) _ _ _ from lt_int ?_)
      wp_walk
      exact h
def cW8(l b:Addr)(items a:Array Value)(n n2:Nat)(e c:Option Addr)(sl sl2:Array (Option Value)){x y:List Int}(j:IntsAre items.toList x)(k:IntsAre a.toList y) :
  Meets (Builtin.«list.__lt__» ⟨[.ref l,.ref b],[]⟩)
   (λA R s=>s.heap.get? l=some {cls:=.type "list",dict:=e,data:=.seq items n,slots:=sl}/\s.heap.get? b=some {cls:=.type "list",dict:=c,data:=.seq a n2,slots:=sl2} /\
    R (.ok (.ret (.bool (tlI x y)))) s):=by
 intro prog w A R s h;obtain⟨m,g,d,tk,os⟩:=s;obtain⟨f,i,h⟩:=h;have o:=AutoSeq1.sub_list_list
 wp_walk using a4o f,a4o i
 exact⟨a4D MeetsSeq3.plain_eq_loop _,a4w MeetsSeq3.entry_eq_loop (by
  rw[a7g MeetsSeq3.plain_eq_loop _];exact cW7 l b items a n n2 e c sl sl2 x y 0 _ _ rfl rfl (a5c _) (a5c _) j k prog w A R _ ⟨f,i,h⟩)⟩
section
variable{prog:Program}{w:World}{A:Around}{E:Value->Shared->Prop}{s:Shared}
def dT9(h:Heap)(k:List Int)(a:Addr):Prop:=∃ b n c sl,h.get? a=some {cls:=.type "list",dict:=c,data:=.seq b n,slots:=sl}/\IntsAre b.toList k
def cF5{a b:Addr}{x y:List Int}{Q:Bool->Shared->Prop}(d:A.units < cLine)(e:dT9 s.heap x a)(f:dT9 s.heap y b)(q:Q (tlI x y) s):wpAny (model prog w) A (keyLt' oneType' (.ref a) (.ref b)) Q E s:=by
 obtain⟨g,n1,h,s1,c,i⟩:=e;obtain⟨j,n2,k,s2,l,m⟩:=f;rw[keyLt'_oneType,oneLt'_eq];simp only[if_true];refine a3Z (wpAny_cRoomFor d ?_);refine a3Z (wpAny_callSpecialIfBound?_slot (T:="list") ⟨_,c,rfl⟩ F.slot_list_lt (a4A F.slot_list_lt ⟨_,c,rfl⟩ F.entry_list_lt (F.args_list_lt_2 _ _) (cW8 a b g j n1 n2 h k s1 s2 i m) ⟨c,l,?_⟩));exact a4s q
end
end Sx
namespace L2
open PySem PySem.Spec PyProof.Rows Sx
section
variable{κ:Type}[Inhabited κ]
def PKs(R:κ->V->Prop)(ks:List κ)(xs:List V):Prop:=ks.length=xs.length/\∀ (i:Nat) k x,ks[i]? = some k->xs[i]? = some x->R k x
def bT0(VAt:Hp->κ->V->Prop)(lt:κ->κ->Bool)(ok:List κ->Prop):List V->Hp->VK->Prop:=λvs H Q=>∃ (p:Addr) (b:Bool) (xs:List V) (ks:List κ),vs=[.ref p]/\gR H p=some (b,xs)/\PKs (VAt H) ks xs/\ks.length < 64/\(2<=ks.length->ok ks) /\
 ∀ r (ys:List V),H r=none->PKs (VAt H) (sG lt ks) ys->Q (.ref r) (upd H r (.lst ys))
def cQ.get'{xs:List V}{us:List Value}(h:cQ xs us){i:Nat}{u:Value}(e:us[i]? = some u):∃ x,xs[i]? = some x/\fN x u:=by
 have hi:=(a2a.mp e).1;have a:i < xs.length:=by rw[cQ.length h];exact hi
 obtain⟨c,b,r⟩:=cQ.get h (a0a a);rw[e]at b;cases b;exact⟨_,a0a a,r⟩
theorem aP3{xs:List V}{us:List Value}(h:cQ xs us):∀ {p:List Nat},(∀ i∈p,i < xs.length)->cQ (p.map λi=>xs.getD i .non) (p.map λi=>us.getD i Value.none)
 | [],_=>.nil
 | i::p,a=>by
   refine .cons ?_ (aP3 h λj b=>a j (a6a _ b));have hi:=a i a3a;obtain⟨u,e,r⟩:=cQ.get h (a0a hi);show fN (xs.getD i .non) (us.getD i Value.none);rw[a5a,a0a hi,a5a,e];exact r
variable{X:Cx}
def aC1(S:Sk X.prog X.w κ){VAt:Hp->κ->V->Prop}(hV:∀ {pins σ H s k x u},Inv X pins σ H s->VAt H k x->fN x u->S.At s.heap k u)(hr:S.rm X.A.in1.in1):jL X (.builtin "sorted") (bT0 VAt S.lt S.ok):=by
 intro pins s σ H xs us Q I r h;obtain⟨p,b,zs,ks,rfl,Y,K,h64,L,q⟩:=h;have hl:=K.1;obtain⟨u,rfl,ru⟩:=wV r;cases ru;obtain⟨d,f,T,o,n,hT,g,B,hd,hsz⟩:∃ (d:List Value),cQ zs d/\∃ (T:String) (o:Obj) (n:Nat),(T="list"\/T="tuple")/\s.heap.get? p=some o/\o.cls=.type T/\o.data=.seq d.toArray n/\zs.length<=sizeLine:=by
  cases b with
  | true=>
    obtain⟨d,f,y,M⟩:=I.list (fB Y);obtain⟨o,g,B,n,hd⟩:=y.isList;exact⟨d,f,"list",o,n,.inl rfl,g,B,hd,by simpa using M⟩
  | false=>
    obtain⟨d,f,y,M⟩:=I.tuple (eP Y);obtain⟨o,g,B,n,hd⟩:=y;exact⟨d,f,"tuple",o,n,.inr rfl,g,B,hd,by simpa using M⟩
 have Z:d.length=ks.length:=by rw[← cQ.length f,hl]
 refine Calls.call_function_entry kind_sorted plain_sorted entry_sorted (args_sorted1 _) ?_;unfold Builtin.«sorted»;refine a3Z (m:=checkCount "sorted" 1 1 _) (a4l ?_);refine a3Z (wpAny_collect_seq p hT g B hd (λh' N=>?_) (by simp only[List.size_toArray];lia));have O:Inv X pins σ H {s with heap:=h'}:=I.kept (t':=s.toks) N;have T1:KAt S.At h' ks d:=by
  refine⟨Z.symm,λi v e=>?_⟩;obtain⟨x,ex,rx⟩:=cQ.get' f e;have hi:i < ks.length:=by have:=(a2a.mp ex).1;lia
  exact⟨ks[i],a0a hi,hV O (K.2 i _ _ (a0a hi) ex) rx⟩
 have alive:∀ a,Value.ref a∈d->a < h'.objs.size:=λa ha=>by
  obtain⟨i,hi⟩:=List.getElem?_of_mem ha;obtain⟨k,_,e⟩:=T1.2 i _ hi;obtain⟨o,g⟩:=S.live e;exact a4b g
 refine a3Z (wpAny_newList ?_ (by simp;lia));have l:(h'.push (seqObj "list" d.toArray.toList.toArray 0)).get? h'.objs.size=some (seqObj "list" d.toArray 0):=by
  simpa using a0c (h:=h') (o:=seqObj "list" d.toArray.toList.toArray 0) rfl
 have up1:∀ b ob,h'.get? b=some ob->(h'.push (seqObj "list" d.toArray.toList.toArray 0)).get? b=some ob:=λb ob e=>a4a _ e;show wpAny _ _ _ _ _ {s with heap:=h'.push (seqObj "list" d.toArray.toList.toArray 0)};have P:Value.ref h'.objs.size∉d:=λz=>absurd (alive _ z) (a5e _);generalize h'.push (seqObj "list" d.toArray.toList.toArray 0)=F at l up1;refine a3Z (a4p (a4x slot_list_sort ⟨_,l,rfl⟩ entry_list_sort (dL7 (s:={s with heap:=F}) S hr l P (S.stays T1 λb ob _ e=>up1 b ob e) (by lia) (λh=>L (by lia)) λR p c G hu U t=>⟨_,rfl,?_⟩) (args_list_sort _)));have keep:∀ b ob,h'.get? b=some ob->R.get? b=some ob:=λb ob e=>t b ob (λz=>absurd (a4b (z ▸ e)) (a5e _)) (up1 b ob e);rw[Z]at G hu;have hps:=G.size;have y:∀ i,i < ks.length->p.toList[i]? = some (at0 p i):=λi hi=>by
  have C:i < p.size:=by lia
  rw[a9f,Array.getElem?_eq_getElem C];simp[at0,Array.getD,C]
 have W:(p.toList.map λi=>ks.getD i default).Perm ks:=by
  have F:=List.Perm.map (λi=>ks.getD i default) G;have R:(List.range ks.length).map (λi=>ks.getD i default)=ks:=by
   refine a9g λi=>?_;rw[a8b];by_cases hi:i < ks.length;rw[List.getElem?_range hi,a0a hi];simp[hi];rw[a9e (by simp;lia),a9e (by lia)];rfl
  rw[R]at F;exact F
 have eS:sG S.lt ks=p.toList.map λi=>ks.getD i default:=by
  refine cW4 S.lin W (List.pairwise_iff_getElem.mpr λi j hi J ij=>?_);simp only[List.length_map,Array.length_toList]at hi J;have:=hu i j (by lia) (by lia);have e1:=y i (by lia);have e2:=y j (by lia);rw[List.getElem_map,List.getElem_map];rw[a0a (by rw[a5f];lia)]at e1 e2;rw[a7a e1,a7a e2];exact this
 have lt:∀ i∈p.toList,i < zs.length:=λi hi=>by
  have:=a9c.mp (G.mem_iff.mp hi);lia
 have l2:(sG S.lt ks).length=ks.length:=(cW5 S.lin ks).1.length_eq;refine a4l ⟨_,rfl,.ref h'.objs.size,_,O.laid (t':=s.toks) (o:=.lst (p.toList.map λi=>zs.getD i .non)) keep (a8a _) ⟨by rw[a1a,a5f];lia,_,c,aP3 f lt,U⟩,rfl,q _ _ (O.hok.fresh (a8a _)) ⟨by rw[eS,a1a,a1a],λi k x ek ex=>?_⟩⟩;rw[a8b]at ex;obtain⟨j,ej,rfl⟩:=a6c.mp ex;rw[eS,a8b,ej]at ek;have J:=lt j (a7b ej);have D:j < ks.length:=by lia
 have E:ks.getD j default=k:=a7a ek;rw[a5a,a0a D]at E;rw[a5a,a0a J];exact K.2 j k _ (by rw[a0a D,← E];rfl) (a0a J)
end
end L2
namespace Sx
open PySem PySem.W PyProof.Rows
noncomputable def skI(prog:Program)(w:World):Sk prog w Int where
 lt:=λa b=>decide (a < b)
 lin:=xQ
 At:=λ_ k v=>∃ t,v=.int k t
 live:=λ⟨_,e⟩=>nomatch e
 stay:=λh _=>h
 kind:=oneType'
 ok:=λ_=>True
 rm:=λ_=>True
 kd:=λT c _ q=>kas_kind (T:=.type "int") c (λv d=>by
  obtain⟨i,hi⟩:=List.getElem?_of_mem d;obtain⟨k,_,t,rfl⟩:=T.2 i v hi;exact .now) (by decide) (by decide) q
 ask:=λ_ ⟨t,f⟩ ⟨u,g⟩ q=>by subst f g;rw[keyLt'_oneType];exact oneLt_int q
noncomputable def skL(prog:Program)(w:World):Sk prog w (List Int) where
 lt:=tlI
 lin:=bC4 xQ
 At:=λh k v=>∃ a,v=.ref a/\dT9 h k a
 live:=λZ1=>by obtain⟨a,e,c,n,d,sl,g,_⟩:=Z1;cases e;exact⟨_,g⟩
 stay:=λ⟨a,e,c,n,d,sl,g,r⟩ f=>⟨a,e,c,n,d,sl,f a _ e g,r⟩
 kind:=oneType'
 ok:=λ_=>True
 rm:=λA=>A.units < cLine
 kd:=λ{A E s ks vs Q} T j _ q=>kas_kind (T:=.type "list") j (λv l=>by
  obtain⟨i,hi⟩:=List.getElem?_of_mem l;obtain⟨k,_,a,rfl,c,n,d,sl,g,r⟩:=T.2 i v hi;exact λA' y z s' f m=>a4H (T:="list") ⟨_,f a _ g,rfl⟩ m) (by decide) (by decide) q
 ask:=λo ⟨a,p,t⟩ ⟨b,u,x⟩ q=>by subst p u;exact cF5 o t x q
end Sx
namespace L2
open PySem PySem.Spec PyProof.Rows Sx
def vI:Hp->Int->V->Prop:=λ_ k x=>x=.int k
def vL:Hp->List Int->V->Prop:=λH k x=>∃ a o,x=.ref a/\H a=some (.frz o (.lst (k.map V.int)))
abbrev cO2:=bT0 vI (λa b:Int=>decide (a < b)) λ_=>True
abbrev cO3:=bT0 vL tlI λ_=>True
def aC2{X:Cx}:jL X (.builtin "sorted") cO2:=aC1 (skI X.prog X.w) (VAt:=vI) (λI e r=>by cases e;exact r) trivial
def vB{X:Cx}(l:X.A.units+64 < cLine):jL X (.builtin "sorted") cO3:=aC1 (skL X.prog X.w) (VAt:=vL) (λI ⟨a,o,e,h'⟩ r=>by
 subst e;have h:=aZ8 h';cases r;obtain⟨b,f,g,m⟩:=I.list (fB h);obtain⟨⟨c,i,j,sl⟩,k,d,n,hd⟩:=g.isList;simp only at d hd;subst d hd;exact⟨a,rfl,b.toArray,n,i,sl,k,by simpa using bG1 f⟩) (show X.A.units+1+1 < cLine by lia)
end L2
namespace Dv
open PySem L2 Mr Sx
noncomputable abbrev lI(k:List Int):D:=.lst (k.map D.int)
noncomputable def bI5:List D->Option (List (List Int))
 | []=>some []
 | .lst l::r=>(aP0 l).bind λk=>(bI5 r).bind λks=>some (k::ks)
 | _=>none
theorem bC8:∀ {l:List D} {ks:List (List Int)},bI5 l=some ks->l=ks.map lI
 | [],_,h=>by cases h;rfl
 | .lst l::r,_,h=>by
   obtain⟨k,a,h⟩:=aC h;obtain⟨ks,b,h⟩:=aC h;cases h;rw[aJ0 a,bC8 b];rfl
 | .non::_,_,h=>by cases h
 | .int _::_,_,h=>by cases h
 | .str _::_,_,h=>by cases h
 | .bl _::_,_,h=>by cases h
 | .tup _::_,_,h=>by cases h
 | .dic _ _::_,_,h=>by cases h
def bT1(ks:List (List Int)):bI5 (ks.map lI)=some ks:=by
 induction ks with
 | nil=>rfl
 | cons k r a=>show(aP0 (k.map D.int)).bind _=_;rw[aP1];show(bI5 (r.map lI)).bind _=_;rw[a];rfl
theorem cO4{H:Hp}:∀ {ks:List Int} {xs:List V},PKs (vI H) ks xs->Rps H (ks.map D.int) xs
 | [],[],_=>.nil
 | k::ks,x::xs,⟨a,b⟩=>.cons (by rw[show x=.int k from b 0 k x rfl rfl];exact .int k) (cO4 ⟨by simpa using a,λi c d e f=>b (i+1) c d (by simpa using e) (by simpa using f)⟩)
 | [],_::_,⟨a,_⟩=>by simp at a
 | _::_,[],⟨a,_⟩=>by simp at a
noncomputable def xS:FN:=λc=>match c with
 | [d]=>(cC6 d).bind λx=>(aP0 x.2).bind λns=>if ns.length < 64 then some (.own (.lst ((sG (λa b:Int=>decide (a < b)) ns).map D.int)))else none
 | _=>none
def aP4:bA5 cO2 xS:=by
 intro H o vs Q res vw e k;unfold xS at e;split at e
 ·obtain⟨⟨b,l⟩,j,e⟩:=aC e;obtain⟨ks,d,e⟩:=aC e;dsimp only at d;split at e
  ·rename_i m;cases e;cases vw with
   | cons a t=>
     cases t;obtain⟨p,xs,rfl,n,f⟩:=bA8 a j;rw[aJ0 d]at f;obtain rfl:=f.ints_inv;refine⟨p,b,_,ks,rfl,n,⟨by simp,λi k x c ex=>?_⟩,m,λ_=>trivial,λr ys g h=>?_⟩;rw[a8b,c]at ex;cases ex;rfl;exact k _ _ (bU g) ⟨r,rfl,g,_,aR,cO4 ⟨h.1,λi k x c ex=>h.2 i k x c ex⟩⟩
  ·cases e
 ·cases e
theorem cO5{H:Hp}:∀ {ks:List (List Int)} {xs:List V},Rps H (ks.map lI) xs->PKs (vL H) ks xs
 | [],_,.nil=>⟨rfl,λi k x e=>by simp at e⟩
 | k::ks,_,.cons a t=>by
   obtain⟨d,f⟩:=cO5 t;refine⟨by simp[d],λi h j b c=>?_⟩;cases i with
   | zero=>
     simp at b c;subst b c;cases a with
     | lst g r=>rw[r.ints_inv]at g;exact⟨_,_,rfl,g⟩
   | succ i=>exact f i h j (by simpa using b) (by simpa using c)
theorem bT2{H:Hp}:∀ {ks:List (List Int)} {xs:List V},PKs (vL H) ks xs->Rps H (ks.map lI) xs
 | [],[],_=>.nil
 | k::ks,x::xs,⟨b,c⟩=>.cons (by obtain⟨a,o,rfl,g⟩:=c 0 k x rfl rfl;exact .lst g (jN k)) (bT2 ⟨by simpa using b,λi d e f h=>c (i+1) d e (by simpa using f) (by simpa using h)⟩)
 | [],_::_,⟨b,_⟩=>by simp at b
 | _::_,[],⟨b,_⟩=>by simp at b
noncomputable def uB:FN:=λa=>match a with
 | [d]=>(cC6 d).bind λx=>(bI5 x.2).bind λks=>if ks.length < 64 then some (.own (.lst ((sG tlI ks).map lI)))else none
 | _=>none
def xT:bA5 cO3 uB:=by
 intro H s vs Q res vw e k;unfold uB at e;split at e
 ·obtain⟨⟨b,l⟩,j,e⟩:=aC e;obtain⟨ks,d,e⟩:=aC e;dsimp only at d;split at e
  ·rename_i m;cases e;cases vw with
   | cons a t=>
     cases t;obtain⟨p,xs,rfl,n,f⟩:=bA8 a j;rw[bC8 d]at f;refine⟨p,b,_,ks,rfl,n,cO5 f,m,λ_=>trivial,λr ys c h=>?_⟩;refine k _ _ (bU c) ⟨r,rfl,c,_,aR,bT2 ⟨h.1,λi k x q ex=>?_⟩⟩;obtain⟨a,o,rfl,g⟩:=h.2 i k x q ex;exact⟨a,o,rfl,bU c _ _ g⟩
  ·cases e
 ·cases e
theorem aP5{ks:List Int}{K:Res->Prop}:OK1 (xS [.lst (ks.map D.int)]) K=(ks.length < 64/\K (.own (.lst ((sG (λa b:Int=>decide (a < b)) ks).map D.int)))):=by
 show OK1 ((aP0 (ks.map D.int)).bind _) K=_;rw[aP1];show OK1 (if _ then _ else none) K=_;rw[cI];rfl
theorem aP6{ks:List (List Int)}{K:Res->Prop}:OK1 (uB [.lst (ks.map lI)]) K=(ks.length < 64/\K (.own (.lst ((sG tlI ks).map lI)))):=by
 show OK1 ((bI5 (ks.map lI)).bind _) K=_;rw[bT1];show OK1 (if _ then _ else none) K=_;rw[cI];rfl
end Dv
namespace L2
open PySem PySem.Spec PyProof.Rows
section
variable{X:Cx}
end
end L2
namespace Dv
open PySem L2 Mr
def dL8(C:MC):Prop:=∀ as (K a:Res->List Sl->Prop),(∀ r l,K r l->a r l)->C as K->C as a
structure GM1(E:Ex)(X:Cx)(st:Stmt)(m:MS):Prop where
 to:∀ Γ,PS X st (mTS Γ E m)
 mon:bB2 m
section
variable{X:Cx}{E:Ex}{st:Stmt}{ss nK:List Stmt}{r:DS}{a b m:MS}{pos:Pos}
def aC3:bB2 (RS r):=λ_ _ _ w q=>cY q w
def cO6{Γ:Gm}{D:Ends}{σV:St}{H:Hp}(h:mTS Γ E (RS r) D σV H):dTS Γ E r D σV H:=by
 obtain⟨σ,ok,q⟩:=h;obtain⟨o,e,q⟩:=iE.mp q;exact⟨σ,ok,o,e,q⟩
def bT3(h:GSs E X ss r):GM E X ss (RS r):=⟨λΓ=>dI4 (h.to Γ) λ_ _ _=>cO6,aC3⟩
def cW9(h:GS E X st r):GM1 E X st (RS r):=⟨λΓ=>psW (h.to Γ) λ_ _ _=>cO6,aC3⟩
def dL9(h:GM1 E X st m):GM E X [st] m:=⟨λΓ=>iX (h.to Γ),h.mon⟩
def sqM(b:MS)(Q:Out->Prop)(o:Out):Prop:=match o with
 | .nx a=>b a Q
 | o=>Q o
def bZ8(a b:MS):MS:=λσ Q=>a σ (sqM b Q)
def xU(e:bB2 a)(g:bB2 b):bB2 (bZ8 a b):=λσ Q h w q=>e σ _ _ (λo q=>by
 cases o with
 | nx d=>exact g d _ _ w q
 | rt r σ'=>exact w _ q
 | bk σ'=>exact w _ q
 | ct σ'=>exact w _ q
 | ex c f σ'=>exact w _ q) q
def aJ2(e:GM1 E X st a)(g:GM E X nK b):GM E X (st::nK) (bZ8 a b) where
 to:=λΓ=>dI4 (cZ (e.to Γ) (g.to Γ)) λD σV H ⟨σ,ok,q⟩=>⟨σ,ok,e.mon σ _ _ (λo q=>by
  cases o with
  | nx d=>exact λj k h i=>⟨d,h,g.mon d _ _ (λo q=>q.after i) q⟩
  | rt r σ'=>exact q
  | bk σ'=>exact q
  | ct σ'=>exact q
  | ex c f σ'=>exact q) q⟩
 mon:=xU e.mon g.mon
def mIf(t:DT)(a b:MS):MS:=λσ Q=>RT t σ λx c=>if x=true then a c Q else b c Q
def dU0{c:Expr}{l k:List Stmt}{t:DT}(i:GT X c t)(ha:GM E X l a)(h:GM E X k b):GM1 E X (.If c l k pos) (mIf t a b) where
 to:=λΓ=>psW (wR (i.to Γ) (ha.to Γ) (h.to Γ)) λD σV H ⟨σ,ok,q⟩=>by
  obtain⟨⟨x,d⟩,j,q⟩:=iE.mp q;refine⟨σ,ok,x,d,j,λm f g=>?_⟩;dsimp only at q;split at q;rename_i e;rw[a4i e];exact⟨d,f,ha.mon _ _ _ (λo q=>q.after g) q⟩;rename_i e;rw[a4j e];exact⟨d,f,h.mon _ _ _ (λo q=>q.after g) q⟩
 mon:=λσ Q n w q=>cY q λx q=>by
  dsimp only at q ⊢;split at q;rename_i e;rw[a4i e];exact ha.mon _ _ _ w q;rename_i e;rw[a4j e];exact h.mon _ _ _ w q
def aP7(i n:Nat)(C:MC)(b:DA):MS:=λσ Q=>OK1 (b σ) λx=>OK1 (xH x.2 x.1) λas=>(as.length=n/\eM x.1=true)/\C as λy as'=>OK1 (dP3 i y (lJ x.1 as' 0 x.2)) λa=>Q (.nx a)
def cF6{Γ:Gm}{i:Nat}{x:Res}{σ a c:Sg}{σV:St}{H H1:Hp}{v:V}(f:StOk Γ H1 a σV)(l:nG Γ H1 a σV x v)(g:Step σ σV H a σV H1)(m:Frh H x v)(k:dP3 i x a=some c) :
  StOk Γ H1 c (σV.set i (some v))/\Step σ σV H c (σV.set i (some v)) H1:=by
 cases x with
 | val d=>
   have b:(if gU a i=true then some (a.set i (some ⟨.val,d⟩))else none)=some c:=k;split at b;rename_i h;cases b;exact⟨f.put h l,g.put h .val (.inl rfl)⟩;cases b
 | own d=>
   have b:(if gU a i=true then some (a.set i (some ⟨.own,d⟩))else none)=some c:=k;split at b;rename_i h;cases b;obtain⟨p,rfl,n,o,q⟩:=l;exact⟨f.putOwn h n o q,g.put h .own (.inr ⟨rfl,λp e=>m _ p rfl e⟩)⟩;cases b
 | slot j=>cases k
def wO{i n:Nat}{C:MC}{a:DA}(b:dL8 C):bB2 (aP7 i n C a):=λσ Q d w q=>cY q λx q=>cY q λas q=>⟨q.1,b _ _ _ (λy as' q=>cY q λc q=>w _ q) q.2⟩
def aW8{i n:Nat}{C:MC}{e:DA}{f:XK}(g:dL8 C)(h:∀ Γ,PS X st (dA6 (bF8 (bQ1 n C) [] f (dTA Γ e)) (aE8 i))):GM1 E X st (aP7 i n C e) where
 to:=λΓ=>psW (h Γ) λD σV H ⟨σ,ok,q⟩=>by
  obtain⟨⟨rs,a⟩,j,q⟩:=iE.mp q;obtain⟨as,k,⟨l,hn⟩,q⟩:=iE.mp q;refine⟨σ,ok,rs,a,j,λvs m b o d p=>?_⟩;show bQ1 n C (vs++[]) m _ f;rw[a4g];obtain⟨r,c⟩:=aN6 k hn b o d p;refine⟨as,r,l,g _ _ _ (λy as' q v s po t=>?_) q⟩;obtain⟨u,w,x,z⟩:=c y as' v s po t;obtain⟨A,B,q⟩:=iE.mp q;obtain⟨F,G⟩:=cF6 u w x z B;exact q _ _ F G
 mon:=wO g
end
def xV{len:Nat}{m:MS}(hm:bB2 m):dL8 (dB2 len m):=λas K b w q=>hm _ _ _ (λo q=>by
 cases o with
 | nx σ=>exact w _ _ q
 | rt r σ=>obtain⟨a,e,q⟩:=q;exact⟨a,e,w _ _ q⟩
 | bk σ=>exact q
 | ct σ=>exact q
 | ex c f σ=>exact q) q
def bI6{C:MC}{K:W.Frag}{H:Hp}{a:Addr}{ns:List Int}(b:dL8 C)(c:bQ7 K=true)(d:dG4 H)(f:SqL K H a (ns.map V.int))(h:C [⟨.val,.lst (ns.map D.int)⟩] λy _=>y=.val (.bl true)) :
  bQ1 1 C [.ref a] H (λv _=>v=.bl true) (λ_ _ _=>False):=
 ⟨_,cU6 c d f,rfl,b _ _ _ (λy as' e v H' po g=>by subst e;cases g;rfl) h⟩
end Dv
namespace L2
open PySem Dv
inductive FQ(Q:Hp->Prop):Hp->Prop
 | done {H:Hp}:Q H->FQ Q H
 | step {H:Hp} {p:Addr} {u:HO}:H p=some u->Fz u->(∀ o,FQ Q (upd H p (.frz o u)))->FQ Q H
def cX0{P:Program}{w:World}{H₀ H:Hp}{fs ex:List Addr}{h₀ h:Heap}{p:Addr}{u:HO}(un:Un fs ex H₀ H h₀ h)(ok:HOk P w H h)(e:H p=some u)(c:Fz u):∃ o,Un fs ex H₀ (upd H p (.frz o u)) h₀ h/\HOk P w (upd H p (.frz o u)) h:=by
 have nt:∀ b xs,H b=some (.tup xs)->b≠p:=λb xs q z=>by subst z;rw[e]at q;cases q;exact c
 have f:∀ b o x,H b=some (.frz o x)->b≠p:=λb o x q z=>by subst z;rw[e]at q;cases q;exact c
 have no:∀ b x,H b=some (.own x)->b≠p:=λb x q z=>by subst z;rw[e]at q;cases q;exact c
 have g:∀ b x,H b=some (.tbl x)->b≠p:=λb x q z=>by subst z;rw[e]at q;cases q;exact c
 have i:∀ b,H b=none->b≠p:=λb q z=>by subst z;rw[e]at q;cases q
 obtain⟨o,j⟩:∃ o,h.get? p=some o:=by
  have:=ok p u e;cases u with
  | lst xs=>obtain⟨_,_,_,_,q⟩:=this;exact⟨_,q⟩
  | dK kvs=>obtain⟨_,_,_,_,ob,_,_,q,_⟩:=this;exact⟨_,q⟩
  | dT kvs=>obtain⟨_,_,_,_,ob,_,_,q,_⟩:=this;exact⟨_,q⟩
  | dM kvs=>obtain⟨_,_,_,_,ob,_,_,q,_⟩:=this;exact⟨_,q⟩
  | _=>exact c.elim
 have st:∀ a x,eR P w H h a x->eR P w (upd H p (.frz o u)) h a x:=λa x k=>
  k.stay (λ_ _ _ q=>q) (λb q=>by rw[aL (no b _ q)];exact q) λb xs q=>by rw[aL (nt b _ q)];exact q
 refine⟨o,⟨un.keep,un.slot,λb ob q n l=>?_,un.there,λb xs q=>?_,λb ob x q=>?_,λb ps q=>?_⟩,λa x q=>?_⟩;have:=un.free b ob q n l;rw[aL (i b this)];exact this;have:=un.tups b xs q;rw[aL (nt b _ this)];exact this;have:=un.frzs b ob x q;rw[aL (f b _ _ this)];exact this;obtain⟨m,d⟩:=un.tbls b ps q;exact⟨m,by rw[aL (g b _ d)];exact d⟩;by_cases ha:a=p;subst ha;rw[aR]at q;cases q;exact⟨j,st a u (ok a u e)⟩;rw[aL ha]at q;exact st a x (ok a x q)
def spF(sp:Sp):Sp:=λvs H Q E=>sp vs H (λv H'=>FQ (Q v) H') E
def FnOk.fz{P:Program}{w:World}{K:W.Frag}{mg:Str->Option Value}{base:Heap}{CX:CXT}{k:Nat}{f:Addr}{fd:FuncData}{ps:List Str}{sp:Sp}(F:FnOk P w K mg base CX k f fd ps sp):FnOk P w K mg base CX k f fd ps (spF sp):=
 ⟨λvs H Q E q=>F.len vs H _ E q,λA outer s H args us vs Q E g h i j l=>a4G (F.run A outer s H args us vs _ E g h i j l) λr s' q=>by
  cases r with
  | error e=>exact q
  | ok x=>
    cases x with
    | ret u=>
      obtain⟨v,H',m,n,c,d,p,t⟩:=(show CE outer P w H s _ u s' from q);show CE outer P w H s Q u s';clear q
      induction t with
      | done q=>exact⟨v,_,m,n,c,d,p,q⟩
      | step e y _ z=>
        obtain⟨o,a,b⟩:=cX0 c d e y;exact z o a b
    | _=>exact q⟩
end L2
namespace Dv
open PySem L2
open Mr
noncomputable abbrev qP(q:Str×List Str):D:=.tup [.str q.1,.tup (q.2.map D.str)]
noncomputable abbrev qD(qs:List (Str×List Str)):D:=.tup (qs.map qP)
def cX1{H:Hp}{p:Addr}{i j m:Int}(b:H p=some (.lst [.int i,.int j])):ArgOk H [⟨.par,.lst [.int i,.int j]⟩,⟨.val,.int m⟩] [.ref p,.int m]:=by
 refine⟨rfl,λn s e=>?_,λn l s t q hn a c d f v1 v2=>?_,λn s e=>?_⟩
 ·match n,e with
  | 0,e=>cases e;exact⟨_,rfl,p,rfl,_,b,jN [i,j]⟩
  | 1,e=>cases e;exact⟨_,rfl,.int m⟩
 ·match n,a,l,c with
  | 0,_,0,_=>exact hn rfl
  | 0,_,1,_=>cases v2
  | 1,a,_,_=>cases a;cases d
 ·match n,e with
  | 0,e=>cases e;exact λz=>nomatch z
  | 1,e=>cases e;exact λz=>nomatch z
def cX2{p c:Addr}{i j m:Int}(h:cD4 [⟨.par,.lst [.int i,.int j]⟩,⟨.val,.int m⟩] [.ref p,.int m] c):c=p:=by
 obtain⟨n,s,e,mt,a⟩:=h
 match n,e with
 | 0,_=>cases a;rfl
 | 1,_=>cases a
def cF7{H H':Hp}{p:Addr}{i j a b m:Int}(po:PostOk [⟨.par,.lst [.int i,.int j]⟩,⟨.val,.int m⟩] [.ref p,.int m] H [⟨.par,.lst [.int a,.int b]⟩,⟨.val,.int m⟩] H'):hX H' p/\SameBut p H H':=by
 refine⟨?_,λc o n e=>po.fr c o e λz=>n (cX2 z)⟩;obtain⟨s',v,f,_,g,h⟩:=po.rel 0 _ rfl rfl;cases f;cases g;obtain⟨q,k,xs,d,l⟩:=(eG (s:=⟨.par,.lst [.int a,.int b]⟩) (λz=>nomatch z)).mp h;cases k;rw[Rps.ints_inv (ns:=[a,b]) l]at d;exact⟨a,b,d⟩
def dM0{t:DT}{a b:MS}(ha:bB2 a)(d:bB2 b):bB2 (mIf t a b):=λσ Q e w q=>cY q λx q=>by
 dsimp only at q ⊢;split at q;rename_i c;rw[a4i c];exact ha _ _ _ w q;rename_i c;rw[a4j c];exact d _ _ _ w q
def dP8(ls:List (List Int)):Prop:=1<=ls.length/\ls.length<=6/\∀ l∈ls,l.length<=6/\(∀ n∈l,0<=n/\n < 6)/\l.Nodup/\l≠[]
noncomputable abbrev aP8(ls:List (List Int)):D:=.lst (ls.map λl=>.lst (l.map D.int))
def cRS:MC:=λas K=>∃ a b:Int,as=[⟨.par,.lst [.int a,.int b]⟩]/\∀ ls c d,dP8 ls->K (.own (aP8 ls)) [⟨.par,.lst [.int c,.int d]⟩]
def bT4:dL8 cRS:=λas K f w ⟨a,b,e,q⟩=>⟨a,b,e,λls c d h=>w _ _ (q ls c d h)⟩
end Dv
namespace Mr
open PySem L2 Dv
noncomputable def jE:DS:=(bW (pI (eK (aY gtI (aY ixD (aH 0) (dC (.int 0))) (dC (.int 0)))) (bW (dA 2 (aY bB4 (aY ixD (aH 0) (dC (.int 0))) (aH 1)))
 (bW (dJ9 0 (dC (.int 0)) (aY dP6 (aY ixD (aH 0) (dC (.int 0))) (aH 1)))
 (iA (aH 2)))) gL)
 (bW (dA 3 (aY bB4 (aY aV8 (aY ixD (aH 0) (dC (.int 1))) (dC (.int 69623))) (dC (.int 2147483647))))
 (bW (dJ9 0 (dC (.int 1)) (aY jK (aY bB4 (aY jK (aY aV8 (aH 3) (dC (.int 48271))) (dC (.int 30103))) (dC (.int 2147483629))) (dC (.int 1))))
 (iA (aY bB4 (aY dP6 (aY jK (aY aV8 (aH 3) (dC (.int 2147483647))) (aY ixD (aH 0) (dC (.int 1)))) (dC (.int 8191))) (aH 1))))))
noncomputable def aJ:Dv.Run:=pJ 4 jE
noncomputable def eV:DS:=(bW (dA 2 (dCB aH2 (aE (aH 1) aV)))
 (bW (dA 3 (nO aV))
 (bW (aB0 (eK (aY gtI (dCB uQ (aE (aH 2) aV)) (dC (.int 0))))
 (jM (nH "list" 3 aT2 (aE (dFz (nH "list" 2 aN9 (aE (dFz (bH 2 aJ (aE (aH 0) (aE (dCB uQ (aE (aH 2) aV)) aV)))) aV))) aV))))
 (iA (aH 3)))))
noncomputable def bC:Dv.Run:=pJ 4 eV
noncomputable def jF:DS:=(iA (dSl (bH 2 bC (aE (aH 0) (aE (aH 1) aV))) aH0 (dP (aY jK (dC (.int 1)) (bH 2 aJ (aE (aH 0) (aE (dCB cD5 (aE (dC (.int 4)) (aE (dCB uQ (aE (aH 1) aV)) aV))) aV)))))))
noncomputable def cD:Dv.Run:=pJ 2 jF
noncomputable def dU:DS:=(bW (dA 1 (aY jK (dC (.int 1)) (bH 2 aJ (aE (aH 0) (aE (dC (.int 6)) aV)))))
 (bW (dA 2 (aY jK (dC (.int 1)) (bH 2 aJ (aE (aH 0) (aE (dC (.int 6)) aV)))))
 (bW (pI (eK (aY (eqD false) (bH 2 aJ (aE (aH 0) (aE (dC (.int 3)) aV))) (dC (.int 0)))) (iA (cG [5] (zI (aE (aH 2) aV)) (dgN 5) iC (dFz (bH 2 cD (aE (aH 0) (aE (dCB aW2 (aE (aH 1) aV)) aV)))))) gL)
 (bW (dA 3 (nO (aE (dFz (bH 2 cD (aE (aH 0) (aE (dCB aW2 (aE (aH 1) aV)) aV)))) aV)))
 (bW (dA 4 (dCB aH2 (aE (aY ixD (aH 3) (dC (.int 0))) aV)))
 (bW (xG (zI (aE (aY dJ1 (aH 2) (dC (.int 1))) aV)) (dgN 5)
 (bW (dA 6 (bH 2 cD (aE (aH 0) (aE (aY ixD (aH 3) (bH 2 aJ (aE (aH 0) (aE (dCB uQ (aE (aH 3) aV)) aV)))) aV))))
 (bW (dA 7 (cG [8] (zI (aE (aH 1) aV)) (dgN 8) (eK (aY (inD true) (aH 8) (aH 4))) (dFz (aH 8))))
 (bW (dA 6 (aY jK (dSl (aH 6) aH0 (dP (bH 2 aJ (aE (aH 0) (aE (aY jK (dCB uQ (aE (aH 6) aV)) (dC (.int 1))) aV))))) (dSl (aH 7) aH0 (dP (bH 2 aJ (aE (aH 0) (aE (dC (.int 3)) aV)))))))
 (bW (pI (eK (aY (eqD false) (aH 6) (nO aV))) (dA 6 (dSl (aH 4) aH0 (dP (dC (.int 1))))) gL)
 (bW (jM (nH "list" 3 aT2 (aE (dFz (dSl (aH 6) aH0 (dP (dC (.int 4))))) aV)))
 (jM (zH "list" 4 bZ6 (aE (cG [8] (dIt (aY ixD (aH 3) (bP3 dB3 (dC (.int 1))))) (dgN 8) (eK (aY (inD true) (aH 8) (aH 4))) (dFz (aH 8))) aV)))))))))
 (iA (aH 3))))))))
noncomputable def cN:Dv.Run:=pJ 9 dU
noncomputable def iF:DS:=(bW (dA 2 (dC (.str "abcdefghijklmnopqrstuvwxyz")))
 (bW (pI (eK (aY (eqD false) (bH 2 aJ (aE (aH 0) (aE (dC (.int 5)) aV))) (dC (.int 0)))) (bW (dP4 3 4 (aE (aY ixD (aH 2) (bH 2 aJ (aE (aH 0) (aE (dC (.int 13)) aV)))) (aE (aY ixD (aH 2) (aY jK (dC (.int 13)) (bH 2 aJ (aE (aH 0) (aE (dC (.int 13)) aV))))) aV)))
 (iA (dSl (nO (aE (dFz (aH 3)) (aE (dFz (aY jK (aH 3) (aH 4))) (aE (dFz (aH 4)) (aE (dFz (aY jK (aH 4) (aH 3))) (aE (dFz (aY jK (aH 3) (aH 3))) (aE (dFz (aY jK (aY jK (aH 3) (aH 4)) (aH 3))) (aE (dFz (aY jK (aH 4) (aH 4))) (aE (dFz (aY jK (aY jK (aH 3) (aH 3)) (aH 4))) aV))))))))) aH0 (dP (aH 1))))) gL)
 (bW (dA 5 (bP3 (bQ9 "") (cG [10] (zI (aE (bH 2 aJ (aE (aH 0) (aE (dC (.int 5)) aV))) aV)) (dgN 10) iC (aY ixD (aH 2) (bH 2 aJ (aE (aH 0) (aE (dC (.int 26)) aV)))))))
 (bW (dA 6 (bH 2 aJ (aE (aH 0) (aE (aY jK (dCB uQ (aE (aH 5) aV)) (dC (.int 1))) aV))))
 (bW (dA 7 (bH 2 aJ (aE (aH 0) (aE (dC (.int 26)) aV))))
 (bW (dA 8 (bH 2 aJ (aE (aH 0) (aE (dC (.int 3)) aV))))
 (bW (dA 9 (nO aV))
 (bW (xG (zI (aE (aH 1) aV)) (dgN 10)
 (bW (dA 11 (aY jK (aY jK (dSl (aH 5) aH0 (dP (aH 6))) (aY ixD (aH 2) (aY bB4 (aY jK (aH 7) (aY aV8 (dC (.int 5)) (aH 10))) (dC (.int 26))))) (dSl (aH 5) (dP (aH 6)) aH0)))
 (jM (nH "list" 9 aT2 (aE (dFz (aY jK (aH 11) (aY aV8 (dC (.str "z")) (dCB dJ7 (aE (aN1 (aY (eqD false) (aH 8) (dC (.int 1))) (aY (eqD false) (aY bB4 (aH 10) (dC (.int 2))) (dC (.int 1)))) aV))))) aV)))))
 (iA (aH 9))))))))))
noncomputable def dL:Dv.Run:=pJ 12 iF
def dW:MS:=(bZ8 (RS (dA 1 (bH 2 aJ (aE (aH 0) (aE (dC (.int 2)) aV)))))
 (bZ8 (mIf (eK (aY (eqD false) (aH 1) (dC (.int 0)))) (aP7 2 1 cRS (aE (aH 0) aV)) (RS (dA 2 (bH 1 cN (aE (aH 0) aV)))))
 (RS (bW (dA 3 (bH 2 bC (aE (aH 0) (aE (bH 2 dL (aE (aH 0) (aE (dC (.int 6)) aV))) aV))))
 (bW (dA 4 (dFz (aH 3)))
 (bW (pI (eK (aY gtI (bH 2 aJ (aE (aH 0) (aE (dC (.int 4)) aV))) (dC (.int 0)))) (dA 4 (bH 2 dL (aE (aH 0) (aE (dC (.int 6)) aV)))) gL)
 (bW (dA 5 (nO aV))
 (bW (xG (bR2 (bH 2 bC (aE (aH 0) (aE (aH 2) aV)))) (nJ 2 (cL (dgN 6) (cL (dgN 7) lH)))
 (jM (nH "list" 5 aT2 (aE (bG9 (aE (aY ixD (aH 4) (aH 6)) (aE (dCB bK4 (aE (cG [8] (dIt (bH 2 bC (aE (aH 0) (aE (aH 7) aV)))) (dgN 8) iC (aY ixD (aH 3) (aH 8))) aV)) aV))) aV))))
 (iA (dCB bK4 (aE (aH 5) aV)))))))))))
def dG:MC:=dB2 9 dW
def dH:bB2 dW:=(xU aC3 (xU (dM0 (wO bT4) aC3) aC3))
noncomputable def kM:DS:=(bW (dA 2 (aY jK (aY aV8 (dC (.int 7919)) (aH 1)) (dC (.int 11))))
 (bW (pI (eK (aY ltI (aH 1) (dCB uQ (aE (aH 0) aV)))) (dA 2 (aY ixD (aH 0) (aH 1))) (pI (eK (aY gtI (dCB uQ (aE (aH 0) aV)) (dC (.int 0)))) (dA 2 (aY jK (aH 2) (aY aV8 (aY bB4 (aY ixD (aH 0) (aY bB4 (aH 1) (dCB uQ (aE (aH 0) aV)))) (dC (.int 2147483629))) (dC (.int 69623))))) gL))
 (bW (dA 3 (aY jK (aY bB4 (aY jK (aY aV8 (aY bB4 (aH 2) (dC (.int 2147483629))) (dC (.int 48271))) (aY aV8 (dC (.int 40692)) (aH 1))) (dC (.int 2147483629))) (dC (.int 1))))
 (iA (nO (aE (dFz (aY aV8 (aH 2) (dCB dJ7 (aE (aY geI (aH 2) (aY dS9 (dC (.int 10)) (dC (.int 18)))) aV)))) (aE (dFz (aH 3)) aV)))))))
noncomputable def fS:Dv.Run:=pJ 4 kM
noncomputable def fE:DS:=(bW (dA 2 (aY dL1 (dCB bR6 (aE (aH 0) aV)) (aH 1)))
 (bW (dA 3 (cG [5,6] (dIt (aH 0)) (nJ 2 (cL (dgN 5) (cL (dgN 6) lH))) (eK (aY (eqD true) (aH 5) (aH 1))) (bG9 (aE (dFz (aH 5)) (aE (dFz (aH 6)) aV)))))
 (bW (dA 4 (cG [7] (dIt (aH 2)) (dgN 7) (eK (aY (eqD true) (cG [5,6] (dIt (aH 3)) (nJ 2 (cL (dgN 5) (cL (dgN 6) lH))) (eK (aY (inD false) (aH 7) (aH 6))) (dC (.int 1))) (nO aV))) (dFz (aH 7))))
 (iA (cG [5,6] (dIt (aH 3)) (nJ 2 (cL (dgN 5) (cL (dgN 6) lH))) (eK (dCB bZ5 (aE (cG [7] (dIt (aH 4)) (dgN 7) iC (aY (inD false) (aH 7) (aH 6))) aV))) (dFz (aH 5)))))))
noncomputable def cJ:Dv.Run:=pJ 8 fE
noncomputable def eN:DS:=(bW (dA 2 (dCB aH2 (aE (aH 1) aV)))
 (bW (dA 3 (nO aV))
 (bW (aB0 (eK (aY gtI (dCB uQ (aE (aH 2) aV)) (dC (.int 1))))
 (bW (dA 4 (cG [5,7] (dIt (aH 2)) (nJ 2 (cL (dgN 5) (cL (dgN 7) lH))) (eK (aY (eqD true) (bH 2 cJ (aE (aH 2) (aE (aH 5) aV))) (nO aV))) (dFz (aH 5))))
 (bW (pI (eK (aY (eqD false) (aH 4) (nO aV))) (iA (dC .non)) gL)
 (bW (dA 5 (aY ixD (aH 4) (bH 2 aJ (aE (aH 0) (aE (dCB uQ (aE (aH 4) aV)) aV)))))
 (bW (dA 6 (bH 2 cJ (aE (aH 2) (aE (aH 5) aV))))
 (bW (jM (nH "list" 3 aT2 (aE (bG9 (aE (dFz (aH 5)) (aE (aY ixD (aH 6) (bH 2 aJ (aE (aH 0) (aE (dCB uQ (aE (aH 6) aV)) aV)))) aV))) aV)))
 (dA 2 (cG [8] (dIt (aH 2)) (dgN 8) (eK (aY (eqD true) (aY ixD (aH 8) (dC (.int 0))) (aH 5))) (dFz (aH 8))))))))))
 (iA (aY jK (aH 3) (nO (aE (bG9 (aE (aY ixD (aY ixD (aH 2) (dC (.int 0))) (dC (.int 0))) (aE (dC .non) aV))) aV)))))))
noncomputable def dX:Dv.Run:=pJ 9 eN
noncomputable def kN:DS:=(iA (dCB bK4 (aE (cG [2] (dIt (aH 0)) (dgN 2) (eK (aY (eqD true) (aY ixD (aH 2) (dC (.int 0))) (aH 1))) (dFz (aH 2))) aV)))
noncomputable def fT:Dv.Run:=pJ 3 kN
noncomputable def gC:DS:=(bW (dA 1 (nO aV))
 (bW (xG (dIt (aH 0)) (nJ 2 (cL (dgN 2) (cL (dgN 3) lH)))
 (jM (zH "list" 1 bZ6 (aE (cG [4] (dIt (aH 3)) (dgN 4) (eK (aY (inD true) (aH 4) (aH 1))) (dFz (aH 4))) aV))))
 (iA (dCB bK4 (aE (aH 1) aV)))))
noncomputable def cU:Dv.Run:=pJ 5 gC
noncomputable def kO:DS:=(iA (dCB bZ5 (aE (cG [2] (dIt (aH 1)) (dgN 2) iC (aY (inD false) (aH 2) (aH 0))) aV)))
noncomputable def jG:Dv.Run:=pJ 3 kO
noncomputable def gD:DS:=(bW (dA 3 (bH 2 fT (aE (aH 0) (aE (aH 1) aV))))
 (bW (pI (eK (aY (eqD false) (dCB uQ (aE (aH 3) aV)) (dC (.int 0)))) (iA (nO (aE (dC .non) aV))) gL)
 (bW (dA 4 (cG [5] (dIt (aH 2)) (dgN 5) (eK (aY (inD false) (aH 5) (bH 1 cU (aE (aH 3) aV)))) (dFz (aH 5))))
 (iA (cG [6,7] (dIt (aH 3)) (nJ 2 (cL (dgN 6) (cL (dgN 7) lH))) (eK (bH 2 jG (aE (aH 7) (aE (aH 4) aV)))) (dFz (aH 6)))))))
noncomputable def fF:Dv.Run:=pJ 8 gD
noncomputable def kP:DS:=(bW (dA 1 (nO aV))
 (bW (xG (dIt (aH 0)) (nJ 2 (cL (dgN 2) (cL (dgN 3) lH)))
 (jM (zH "list" 1 bZ6 (aE (cG [4] (dIt (bH 3 fF (aE (aH 0) (aE (aH 2) (aE (aH 3) aV))))) (dgN 4) iC (bG9 (aE (dFz (aH 2)) (aE (dFz (aH 4)) aV)))) aV))))
 (iA (aH 1))))
noncomputable def gY:Dv.Run:=pJ 5 kP
noncomputable def iG:DS:=(bW (dA 1 (dFz (aH 0)))
 (bW (dA 2 (nO aV))
 (bW (dA 3 (bH 1 gY (aE (aH 1) aV)))
 (bW (aB0 (dP1 (aH 3))
 (bW (jM (nH "list" 2 aT2 (aE (aY ixD (aH 3) (dC (.int 0))) aV)))
 (bW (dA 1 (bH 2 fT (aE (aH 1) (aE (aY ixD (aY ixD (aH 3) (dC (.int 0))) (dC (.int 0))) aV))))
 (dA 3 (bH 1 gY (aE (aH 1) aV))))))
 (iA (aH 2))))))
noncomputable def iS:Dv.Run:=pJ 4 iG
noncomputable def iH:DS:=(bW (dA 1 (nO (aE (bG9 aV) aV)))
 (bW (xG (dIt (aH 0)) (dgN 2)
 (dA 1 (aY jK (aH 1) (cG [3] (dIt (aH 1)) (dgN 3) iC (dFz (aY jK (aH 3) (bG9 (aE (dFz (aH 2)) aV))))))))
 (iA (aH 1))))
noncomputable def gF:Dv.Run:=pJ 4 iH
noncomputable def dY:DS:=(iA (dCB dL6 (aE (cG [3,4] (dIt (aH 0)) (nJ 2 (cL (dgN 3) (cL (dgN 4) lH))) iC (aN1 (aY (inD false) (aH 1) (aH 4)) (aY (inD false) (aH 2) (aH 4)))) aV)))
noncomputable def dN:Dv.Run:=pJ 5 dY
noncomputable def nX:DS:=(bW (dA 2 (dSl (aH 1) aH0 (dP (dC (.int 1)))))
 (bW (xG (dIt (dSl (aH 1) (dP (dC (.int 1))) aH0)) (dgN 3)
 (bW (dA 4 (cG [5] (dIt (aH 1)) (dgN 5) (bZ4 (eK (aY (inD true) (aH 5) (aH 2))) (eK (bH 3 dN (aE (aH 0) (aE (aY ixD (aH 2) (bP3 dB3 (dC (.int 1)))) (aE (aH 5) aV)))))) (dFz (aH 5))))
 (dA 2 (aY jK (aH 2) (dCB bK4 (aE (dSl (aH 4) aH0 (dP (dC (.int 1)))) aV))))))
 (iA (aH 2))))
noncomputable def kQ:Dv.Run:=pJ 6 nX
noncomputable def kR:DS:=(bW (dA 2 (nO aV))
 (bW (xG (dIt (aH 0)) (nJ 2 (cL (dgN 3) (cL (dgN 4) lH)))
 (bW (dA 5 (dCB bK4 (aE (cG [6] (dIt (aH 1)) (dgN 6) (eK (aY (inD false) (aH 6) (aH 4))) (dFz (aH 6))) aV)))
 (pI (eK (aY (inD true) (aH 5) (aH 2))) (jM (nH "list" 2 aT2 (aE (dFz (aH 5)) aV))) gL)))
 (iA (aH 2))))
noncomputable def jH:Dv.Run:=pJ 7 kR
noncomputable def fG:DS:=(iA (aN1 (aY (eqD true) (aH 0) (aH 1)) (dCB bZ5 (aE (cG [2] (dIt (aH 0)) (dgN 2) iC (aY (inD false) (aH 2) (aH 1))) aV))))
noncomputable def eW:Dv.Run:=pJ 3 fG
noncomputable def fH:DS:=(bW (dA 2 (bH 2 jH (aE (aH 0) (aE (aH 1) aV))))
 (iA (cG [3] (dIt (aH 2)) (dgN 3) (cT6 (eK (dCB dL6 (aE (cG [4] (dIt (aH 2)) (dgN 4) iC (dFz (bH 2 eW (aE (aH 3) (aE (aH 4) aV))))) aV)))) (dFz (aH 3)))))
noncomputable def eX:Dv.Run:=pJ 5 fH
noncomputable def fJ:DS:=(iA (cG [1] (zI (aE (dCB uQ (aE (aH 0) aV)) aV)) (dgN 1) iC (dFz (aY jK (dSl (aH 0) aH0 (dP (aH 1))) (dSl (aH 0) (dP (aY jK (aH 1) (dC (.int 1)))) aH0)))))
noncomputable def cK:Dv.Run:=pJ 2 fJ
noncomputable def gG:DS:=(bW (dA 1 (cG [2] (zI (aE (aY dJ1 (dCB uQ (aE (aH 0) aV)) (dC (.int 1))) aV)) (dgN 2) iC (dFz (dSl (aH 0) (dP (aH 2)) (dP (aY jK (aH 2) (dC (.int 2))))))))
 (iA (aY jK (aH 1) (nO (aE (bG9 (aE (aY ixD (aH 0) (dC (.int 0))) (aE (aY ixD (aH 0) (bP3 dB3 (dC (.int 1)))) aV))) aV)))))
noncomputable def fK:Dv.Run:=pJ 3 gG
noncomputable def kS:DS:=(bW (pI (dOr (eK (aY ltI (dCB uQ (aE (aH 1) aV)) (dC (.int 3)))) (eK (aY ltI (dCB uZ (aE (aH 1) aV)) (dCB uQ (aE (aH 1) aV))))) (iA (dC (.bl false))) gL)
 (bW (dA 2 (dCB aB9 (aE (bH 2 eX (aE (aH 0) (aE (aH 1) aV))) aV)))
 (iA (dP2 (aY (eqD false) (aH 2) (dCB aB9 (aE (bH 1 cK (aE (aH 1) aV)) aV))) (aY (eqD false) (aH 2) (dCB aB9 (aE (bH 1 fK (aE (aH 1) aV)) aV)))))))
noncomputable def jI:Dv.Run:=pJ 3 kS
noncomputable def kU:DS:=(bW (xG (dIt (bH 1 gF (aE (bH 1 cU (aE (aH 0) aV)) aV))) (dgN 1)
 (bW (dA 2 (bH 2 kQ (aE (aH 0) (aE (aH 1) aV))))
 (pI (eK (bH 2 jI (aE (aH 0) (aE (aH 2) aV)))) (iA (aH 2)) gL)))
 (iA (dC .non)))
noncomputable def mU:Dv.Run:=pJ 3 kU
noncomputable def jY:DS:=(bW (dA 1 (nO aV))
 (bW (xG (dIt (aH 0)) (nJ 2 (cL (dgN 2) (cL (dgN 3) lH)))
 (jM (zH "list" 1 bZ6 (aE (cG [4] (dIt (aH 3)) (dgN 4) (eK (aY (inD true) (aH 4) (aH 1))) (dFz (aH 4))) aV))))
 (iA (dCB bK4 (aE (aH 1) aV)))))
noncomputable def dZ:Dv.Run:=pJ 5 jY
noncomputable def fL:DS:=(bW (dA 2 (bH 1 dZ (aE (aH 0) aV)))
 (bW (dA 3 (dCB uQ (aE (aH 1) aV)))
 (bW (pI (dOr (eK (aY ltI (aH 3) (dC (.int 3)))) (eK (aY ltI (dCB uZ (aE (aH 1) aV)) (aH 3)))) (iA (dC (.bl false))) gL)
 (bW (pI (cT6 (eK (dCB bZ5 (aE (cG [10] (dIt (aH 1)) (dgN 10) iC (aY (inD false) (aH 10) (aH 2))) aV)))) (iA (dC (.bl false))) gL)
 (bW (dA 4 (nO aV))
 (bW (xG (dIt (aH 0)) (nJ 2 (cL (dgN 5) (cL (dgN 6) lH)))
 (jM (nH "list" 4 aT2 (aE (dFz (dCB xS (aE (cG [11] (zI (aE (aH 3) aV)) (dgN 11) (eK (aY (inD false) (aY ixD (aH 1) (aH 11)) (aH 6))) (dFz (aH 11))) aV))) aV))))
 (bW (dA 7 (nO aV))
 (bW (xG (dIt (aH 4)) (dgN 8)
 (bW (dA 9 (cG [12] (dIt (aH 4)) (dgN 12) (bZ4 (eK (aY (eqD true) (aH 8) (aH 12))) (eK (dCB bZ5 (aE (cG [11] (dIt (aH 8)) (dgN 11) iC (aY (inD false) (aH 11) (aH 12))) aV)))) (dFz (aH 12))))
 (pI (bZ4 (eK (aY (eqD false) (aH 9) (nO aV))) (eK (aY (inD true) (aH 8) (aH 7)))) (jM (nH "list" 7 aT2 (aE (dFz (aH 8)) aV))) gL)))
 (bW (dA 7 (dCB uB (aE (aH 7) aV)))
 (bW (pI (eK (aY (eqD false) (aH 7) (dCB uB (aE (cG [13] (zI (aE (aH 3) aV)) (dgN 13) iC (dFz (cG [11] (zI (aE (aH 3) aV)) (dgN 11) (eK (aY (eqD true) (aH 11) (aH 13))) (dFz (aH 11))))) aV)))) (iA (dC (.bl true))) gL)
 (iA (aN1 (aY gtI (aH 3) (dC (.int 3))) (aY (eqD false) (aH 7) (dCB uB (aE (cG [11] (zI (aE (aH 3) aV)) (dgN 11) iC (dFz (dCB xS (aE (nO (aE (dFz (aH 11)) (aE (aY bB4 (aY jK (aH 11) (dC (.int 1))) (aH 3)) aV))) aV)))) aV)))))))))))))))
noncomputable def gH:Dv.Run:=pJ 14 fL
noncomputable def iI:DS:=(bW (dA 2 (dCB aH2 (aE (aH 0) aV)))
 (bW (xG (dIt (aH 1)) (nJ 2 (cL (dgN 3) (cL (dgN 4) lH)))
 (bW (pI (eK (aY (inD true) (aH 3) (cG [5] (dIt (aH 2)) (dgN 5) iC (aY ixD (aH 5) (dC (.int 0)))))) (iA (dC (.bl false))) gL)
 (bW (pI (bZ4 (eK (aY (eqD false) (dCB uQ (aE (aH 2) aV)) (dC (.int 1)))) (eK (aY (isD true) (aH 4) (dC .non)))) (iA (dC (.bl false))) gL)
 (bW (pI (bZ4 (eK (aY gtI (dCB uQ (aE (aH 2) aV)) (dC (.int 1)))) (eK (aY (inD true) (aH 4) (bH 2 cJ (aE (aH 2) (aE (aH 3) aV)))))) (iA (dC (.bl false))) gL)
 (dA 2 (cG [5] (dIt (aH 2)) (dgN 5) (eK (aY (eqD true) (aY ixD (aH 5) (dC (.int 0))) (aH 3))) (dFz (aH 5))))))))
 (iA (aY (eqD false) (aH 2) (nO aV)))))
noncomputable def iT:Dv.Run:=pJ 6 iI
end Mr
namespace Dv
open PySem L2 Mr
mutual
def smp:D->Bool
 | .non=>true
 | .int _=>true
 | .str z=>PyData.strOk z
 | .tup l=>smps l
 | .lst l=>smps l
 | _=>false
def smps:List D->Bool
 | []=>true
 | d::r=>smp d&&smps r
end
mutual
theorem bT5:∀ {d:D},smp d=true->(oM d).canLay0=true
 | .non,_=>rfl
 | .int _,_=>rfl
 | .str z,h=>h
 | .tup l,h=>smps_lay (l:=l) h
 | .lst l,h=>smps_lay (l:=l) h
 | .bl _,h=>nomatch h
 | .dic _ _,h=>nomatch h
theorem smps_lay:∀ {l:List D},smps l=true->PyData.canLayAll0 (toPys l)=true
 | [],_=>rfl
 | d::r,h=>by
   have h':smp d=true/\smps r=true:=by simpa[smps]using h
   show((oM d).canLay0&&PyData.canLayAll0 (toPys r))=true;rw[bT5 h'.1,smps_lay h'.2];rfl
end
mutual
theorem bT6:∀ {d e:D},smp d=true->smp e=true->(PyData.eqv (oM d) (oM e)=true↔d=e)
 | .non,e,_,he=>by cases e<;>simp_all [oM,PyData.eqv,smp]
 | .str x,e,_,he=>by cases e<;>simp_all [oM,PyData.eqv,smp]
 | .int i,e,_,he=>by cases e<;>simp_all [oM,PyData.eqv,smp]
 | .tup l,e,hd,he=>by
   cases e with
   | tup m=>
     show PyData.eqvAll (toPys l) (toPys m)=true↔_;rw[eqvs_smp (l:=l) (m:=m) hd he,D.tup.injEq]
   | _=>simp_all [oM,PyData.eqv,smp]
 | .lst l,e,hd,he=>by
   cases e with
   | lst m=>
     show PyData.eqvAll (toPys l) (toPys m)=true↔_;rw[eqvs_smp (l:=l) (m:=m) hd he,D.lst.injEq]
   | _=>simp_all [oM,PyData.eqv,smp]
 | .bl _,_,h,_=>nomatch h
 | .dic _ _,_,h,_=>nomatch h
theorem eqvs_smp:∀ {l m:List D},smps l=true->smps m=true->(PyData.eqvAll (toPys l) (toPys m)=true↔l=m)
 | [],[],_,_=>by simp[toPys,PyData.eqvAll]
 | [],e::m,_,_=>by simp[toPys,PyData.eqvAll]
 | d::l,[],_,_=>by simp[toPys,PyData.eqvAll]
 | d::l,e::m,hd,he=>by
   have a:smp d=true/\smps l=true:=by simpa[smps]using hd
   have b:smp e=true/\smps m=true:=by simpa[smps]using he
   show((oM d).eqv (oM e)&&PyData.eqvAll (toPys l) (toPys m))=true↔_;rw[a3f,bT6 a.1 b.1,eqvs_smp a.2 b.2,List.cons.injEq]
end
structure Ok(n:Nat)(d:D):Prop where
 smp:Dv.smp d=true
 dep:(oM d).depth<=n
theorem aW9:∀ {l:List D},(∀ d∈l,smp d=true)->smps l=true
 | [],_=>rfl
 | d::r,h=>by
   show(smp d&&smps r)=true;rw[h d a3a,aW9 λx a=>h x (a6a _ a)];rfl
theorem aX0{n:Nat}:∀ {l:List D},(∀ d∈l,(oM d).depth<=n)->PyData.depthAll (toPys l)<=n
 | [],_=>a5c _
 | d::r,h=>Nat.max_le.mpr ⟨h d a3a,aX0 λx a=>h x (a6a _ a)⟩
theorem Ok.lst{n:Nat}{l:List D}(h:∀ d∈l,Ok n d):Ok (n+1) (.lst l):=⟨aW9 λd hd=>(h d hd).smp,Nat.succ_le_succ (aX0 λd hd=>(h d hd).dep)⟩
theorem Ok.tup{n:Nat}{l:List D}(h:∀ d∈l,Ok n d):Ok (n+1) (.tup l):=⟨aW9 λd hd=>(h d hd).smp,Nat.succ_le_succ (aX0 λd hd=>(h d hd).dep)⟩
theorem Ok.int{n:Nat}{i:Int}:Ok n (.int i):=⟨rfl,a5c _⟩
theorem Ok.non{n:Nat}:Ok n .non:=⟨rfl,a5c _⟩
theorem Ok.str{n:Nat}{z:Str}(h:∀ c∈z.cps.toList,c < 128):Ok n (.str z):=by
 refine⟨?_,a5c _⟩;show PyData.strOk z=true;unfold PyData.strOk;rw[← Array.all_toList,a6g];intro c a;have:=h c a;simp;lia
def Ok.cmp{n:Nat}{d:D}(h:Ok n d)(hn:n<=60):nS d=true:=by
 unfold nS;rw[bT5 h.smp,a4n (a4c h.dep hn)];rfl
def bT7{n m:Nat}{d e:D}(a:Ok n d)(b:Ok m e):zK d e=decide (d=e):=by
 rw[a9d,a4m];exact bT6 a.smp b.smp
def vO{neg:Bool}{n m:Nat}{d e:D}(a:Ok n d)(b:Ok m e)(hn:n<=60)(hm:m<=60){K:Res->Prop}(k:K (.val (.bl (if neg=true then !decide (d=e)else decide (d=e))))):OK1 (eqD neg d e) K:=by
 unfold eqD;rw[a4i ⟨a.cmp hn,b.cmp hm⟩,bT7 a b];exact k
def aC4{neg:Bool}{n:Nat}{l:List D}(h:∀ d∈l,Ok n d)(hn:n < 60){K:Res->Prop}(k:K (.val (.bl (if neg=true then !l.isEmpty else l.isEmpty)))):OK1 (eqD neg (.lst l) (.lst [])) K:=by
 refine vO (n:=n+1) (m:=1) (.lst h) (.lst (n:=0) λ_ z=>absurd z List.not_mem_nil) (by lia) (by decide) ?_;rw[show decide (D.lst l=D.lst [])=l.isEmpty by rw[a9d,a4m,D.lst.injEq,List.isEmpty_iff]];exact k
theorem cO7{n m:Nat}{d:D}(h:Ok n d):∀ {l:List D},(∀ x∈l,Ok m x)->(l.any λy=>zK y d)=decide (d∈l)
 | [],_=>by simp
 | x::r,hl=>by
   rw[List.any_cons,cO7 h λy a=>hl y (a6a _ a),bT7 (hl x a3a) h,a9d,Bool.or_eq_true,a4m,a4m,a4m,a2b,eq_comm]
def cO8{neg:Bool}{n m:Nat}{d:D}{l:List D}{b:Bool}(c:Ok n d)(a:∀ x∈l,Ok m x)(hn:n<=60)(hm:m < 60){K:Res->Prop}(k:K (.val (.bl (if neg=true then !decide (d∈l)else decide (d∈l))))):OK1 (inD neg d (if b=true then .lst l else .tup l)) K:=by
 have e:inD neg d (if b=true then .lst l else .tup l)=if nS d=true/\nS (if b=true then .lst l else .tup l)=true then some (.val (.bl (if neg then !(l.any λy=>zK y d)else l.any λy=>zK y d)))else none:=by
  cases b<;>cases d<;>rfl
 have f:nS (if b=true then .lst l else .tup l)=true:=by
  cases b;exact(Ok.tup a).cmp (by lia);exact(Ok.lst a).cmp (by lia)
 rw[e,a4i ⟨c.cmp hn,f⟩,cO7 c a];exact k
def pF{neg:Bool}{n m:Nat}{d:D}{l:List D}(a:Ok n d)(c:∀ x∈l,Ok m x)(hn:n<=60)(hm:m < 60){K:Res->Prop}(k:K (.val (.bl (if neg=true then !decide (d∈l)else decide (d∈l))))):OK1 (inD neg d (.lst l)) K:=cO8 (b:=true) a c hn hm k
def cX3{neg:Bool}{n m:Nat}{d:D}{l:List D}(a:Ok n d)(c:∀ x∈l,Ok m x)(hn:n<=60)(hm:m < 60){K:Res->Prop}(k:K (.val (.bl (if neg=true then !decide (d∈l)else decide (d∈l))))):OK1 (inD neg d (.tup l)) K:=cO8 (b:=false) a c hn hm k
end Dv
namespace Mr
open PySem L2 Dv
local macro_rules | `(tactic| walk_at "dx")=>do
 let l:=("cD9 pX pY pZ qA qB qC qE qF qG qH qI qJ qK qL qM qN aH5 qO jW lM qQ lN lO lP qR qS aH6 qT qU aH7 qV qW qX qY qZ lQ rB rC rD lR rE rF rG rH rJ rK tZ rL rM rN lT lU rO rP rQ rR rS rT rV aH8 lV iP lW rW lX sJ sK sL sM sN sO sP sQ sR mT aH9 sS mI iR gB tY mS mR sT mJ mK mL sU sV sW sY sZ aI0 aI1 aI2 tD tE tF mM mO mP tG mQ iQ tH zL tI tJ aI3 tK cE1 tL tM oN bV tN tO tP tQ rX rY rZ sA sC sD sE sF lY lZ mB sH sI reduceIte".splitOn " ").toArray.map fun s=>Lean.mkIdent s.toName
 let m:=("tR tT tU zM aI4 Int.reducePow Int.reduceNeg Int.reduceLT Int.reduceLE Nat.reducePow Nat.reduceLT Int.reduceToNat Nat.reduceLeDiff tX tV aI5 tW mD mE mG mH List.set_cons_zero List.set_cons_succ eM aT1 List.length_cons List.length_nil Nat.reduceAdd Nat.zero_add true_and and_true and_self Bool.not_false Bool.not_true Bool.false_eq_true Bool.true_and Bool.and_true Bool.or_false decide_eq_true_eq".splitOn " ").toArray.map fun s=>Lean.mkIdent s.toName
 `(tactic| simp only[$[↓$l:ident],*,$[$m:ident],*])
def sl2:(2<=sizeLine):=by decide
def dO{a b m:Int}(h:0 < m)(c:m < 18446744073709551616){K:Res->List Sl->Prop}(k:∀ d e f,0<=d->d < m->K (.val (.int d)) [⟨.par,.lst [.int e,.int f]⟩,⟨.val,.int m⟩]):CK aJ [⟨.par,.lst [.int a,.int b]⟩,⟨.val,.int m⟩] K:=by
 unfold aJ;rw[eC];show RS jE [_,_,none,none] _;unfold jE;walk_at "dx";rw[zM h c];split;exact⟨h,True.intro,k _ _ _ (a2i _ (by lia)) (a2h _ h)⟩;exact⟨h,k _ _ _ (a2i _ (by lia)) (a2h _ h)⟩
def bT8{ns:List Int}{i:Int}(h0:0<=i)(a:i < (ns.length:Int)):∃ c,atI (ns.map D.int) i=some (.int c):=by
 obtain⟨c,b⟩:=bO0 (ys:=ns) h0 a;exact⟨c,by rw[bO1,b];rfl⟩
def bT9{ns:List Int}{n:Int}(h0:0<=n)(e:n < 1000){K:Res->List Sl->Prop}(k:∀ a b,K (.own (.lst [.int a,.int b])) [⟨.val,.lst (ns.map D.int)⟩,⟨.val,.int n⟩]):CK fS [⟨.val,.lst (ns.map D.int)⟩,⟨.val,.int n⟩] K:=by
 unfold fS;rw[eC];show RS kM [_,_,none,none] _;unfold kM;walk_at "dx";split;rename_i d;obtain⟨c,d⟩:=bT8 (ns:=ns) h0 (by simpa using d);rw[d];walk_at "dx";exact⟨sl2,k _ _⟩;split;rename_i d;refine⟨d,?_⟩;obtain⟨c,d⟩:=bT8 (ns:=ns) (i:=n % ((ns.map D.int).length:Int)) (a2i _ (by lia)) (by have:=a2h n d;simpa using this);rw[d];walk_at "dx";exact⟨sl2,k _ _⟩;exact⟨sl2,k _ _⟩
def wP{lo:Int}{n i:Nat}{d:D}(h:(xF lo n)[i]? = some d):i < n/\d=.int (lo+i):=by
 unfold xF at h;rw[a8b]at h;cases e:(List.range n)[i]? with
 | none=>rw[e]at h;cases h
 | some k=>
   rw[e]at h;obtain⟨hi,a⟩:=a2a.mp e;rw[a1f]at hi;rw[List.getElem_range]at a;subst a;exact⟨hi,(a7a h).symm⟩
def cA(lo:Int)(n:Nat):(xF lo n).length=n:=by simp[xF]
def bU0{α:Type}{l:List α}{i:Int}{c:α}(h:atI l i=some c):c∈l:=by
 unfold atI at h;obtain⟨j,_,a⟩:=aC h;exact a7b a
def dM1{l:List D}{d:Int}(h0:0<=d)(a:d < (l.length:Int))(b:d < 9223372036854775808){K:D×D->Prop}(k:∀ y r,(y::r).Perm l->r.length+1=l.length->K (.lst r,y)):OK1 (aN9 (.lst l) [.int d]) K:=by
 obtain⟨n,rfl⟩:∃ n:Nat,d=n:=⟨d.toNat,by lia⟩;have hn:n < l.length:=by lia
 unfold aN9;dsimp only;rw[a4i ⟨by lia,by lia⟩];have e:ixN l.length (n:Int)=some n:=by
  unfold ixN;rw[a4i (by lia),a4i (by lia)];simp
 rw[e];show OK1 ((l[n]?).map _) K;rw[a0a hn];exact k _ _ (aA3 l n hn) (by rw[List.length_eraseIdx_of_lt hn];lia)
def xW{a b:Int}{xs:List D}{m:Md}{t:D}(hm:m=.par/\t=.lst xs\/m=.val/\t=.lst xs\/m=.val/\t=.tup xs)(q:xs.length<=1000){K:Res->List Sl->Prop}(k:∀ ys e f,ys.Perm xs->K (.own (.lst ys)) [⟨.par,.lst [.int e,.int f]⟩,⟨m,t⟩]) :
  CK bC [⟨.par,.lst [.int a,.int b]⟩,⟨m,t⟩] K:=by
 unfold bC;rw[eC];show RS eV [_,_,none,none] _;unfold eV;rcases hm with⟨rfl,rfl⟩ | ⟨rfl,rfl⟩ | ⟨rfl,rfl⟩
 all_goals
  walk_at "dx";refine⟨a5c _,?_⟩;refine uW (λm τ=>∃ e f aK found,m=aK.length/\aK.length<=xs.length/\found.length+aK.length=xs.length/\(found++aK).Perm xs/\τ=[some ⟨.par,.lst [.int e,.int f]⟩,some _,some ⟨.own,.lst aK⟩,some ⟨.own,.lst found⟩]) xs.length (by lia) ⟨a,b,xs,[],rfl,a8a _,by simp,.refl _,rfl⟩ ?_;rintro m τ ⟨e,f,aK,found,rfl,i,j,h,rfl⟩;walk_at "dx";split;rename_i c;refine dO (by simpa using c) (by lia) λd l n o p=>?_;walk_at "dx";refine dM1 o (by simpa using p) (by lia) λy r g s=>?_;refine⟨a5d (by lia:found.length < 1001) (by decide),.inl ⟨_,r.length,.inl rfl,by lia,l,n,r,found++[y],rfl,by lia,by rw[a3b];simp only[List.length_cons,List.length_nil];lia,?_,rfl⟩⟩;rw[List.append_assoc];exact(List.Perm.append_left found g).trans h;rename_i c;have:aK=[]:=List.eq_nil_of_length_eq_zero (by lia);subst this;exact k found e f (by simpa using h)
def aC5(l:List D){n:Int}(h:0<=n):aL0 l none (some n)=l.take n.toNat:=by
 obtain⟨k,rfl⟩:=Int.eq_ofNat_of_zero_le h;unfold aL0;rw[HT.sIx_none,HT.sIx_nat,List.drop_zero,Nat.sub_zero,a8h];by_cases h:k<=l.length;rw[Nat.min_eq_left h];rw[Nat.min_eq_right (by lia),List.take_length,List.take_of_length_le (by lia)]
def cF8(l:List D){n:Int}(h:0<=n):aL0 l (some n) none=l.drop n.toNat:=by
 obtain⟨k,rfl⟩:=Int.eq_ofNat_of_zero_le h;unfold aL0;rw[HT.sIx_none,HT.sIx_nat,a8h];by_cases h:k<=l.length;rw[Nat.min_eq_left h,List.take_of_length_le (by rw[a7f];lia)];rw[Nat.min_eq_right (by lia),List.drop_length,List.drop_of_length_le (by lia),List.take_nil]
def aX1{a b:Int}{xs:List D}{m:Md}{t:D}(hm:m=.par/\t=.lst xs\/m=.val/\t=.lst xs\/m=.val/\t=.tup xs)(h0:xs≠[])(e:xs.length<=1000){K:Res->List Sl->Prop}
  (k:∀ ys f g,ys≠[]->ys.length<=4->(∀ y∈ys,y∈xs)->(xs.Nodup->ys.Nodup)->K (.own (.lst ys)) [⟨.par,.lst [.int f,.int g]⟩,⟨m,t⟩]):CK cD [⟨.par,.lst [.int a,.int b]⟩,⟨m,t⟩] K:=by
 have p:0 < xs.length:=List.length_pos_iff.mpr h0;have h:∃ n:Int,(if(xs.length:Int) < 4 then(xs.length:Int)else 4)=n/\1<=n/\n<=4:=⟨_,rfl,by split<;>lia,by split<;>lia⟩;obtain⟨n,i,n1,q⟩:=h;unfold cD;rw[eC];show RS jF [_,_] _;unfold jF;rcases hm with⟨rfl,rfl⟩ | ⟨rfl,rfl⟩ | ⟨rfl,rfl⟩
 all_goals
  walk_at "dx"
  first | refine⟨by decide,xW (xs:=xs) (by simp) e λys j l c=>?_⟩ | refine xW (xs:=xs) (by simp) e λys j l c=>?_
  walk_at "dx";rw[i];refine dO (by lia) (by lia) λd r s u v=>?_;walk_at "dx";rw[aC5 _ (by lia)];have w:=c.length_eq;refine k _ _ _ (λz=>?_) ?_ (λy o=>c.mem_iff.mp (a3e o)) λnd=>(c.nodup_iff.mpr nd).sublist (List.take_sublist _ _);have:=a4q List.length z;rw[a8d,a3h]at this;lia;rw[a8d];lia
def Tx(z:Str):Prop:=z.length<=100/\∀ c∈z.cps.toList,c < 128
theorem vP{z:Str}{lo hi:Option Int}{K:Res->Prop}:SK (.str z) lo hi K=(z.length<=sizeLine/\K (.val (.str (Txt.slice z lo hi)))):=by
 show OK1 (if _ then _ else none) K=_;rw[cI];rfl
theorem nY{z:Str}{i:Int}{K:Res->Prop}:OK1 (aV8 (.str z) (.int i)) K=((z.length<=1000/\0<=i/\i<=1000)/\K (.val (.str (Txt.mul z i)))):=by
 unfold aV8;dsimp only;rw[cI];rfl
theorem aP9{i:Nat}{σ a:Sg}:oZ [i] σ a=a.set i (σ[i]?.getD none):=rfl
def cF9:(Str.ofString "abcdefghijklmnopqrstuvwxyz").cps.toList.length=26:=by decide
def aF7(z:Str):z.length=z.cps.toList.length:=by show z.cps.size=_;simp
def xX(x y:Str):(x++y).cps.toList=x.cps.toList++y.cps.toList:=by show(x.cps++y.cps).toList=_;simp
theorem xY(x y:Str):(x++y).length=x.length+y.length:=by rw[aF7,aF7,aF7,xX,a3b]
def As(z:Str):Prop:=∀ c∈z.cps.toList,c < 128
def bU1{x y:Str}(b:As x)(d:As y):As (x++y):=by
 intro c a;rw[xX]at a;rcases a5b.mp a with h | h;exact b c h;exact d c h
def bC9{z:Str}(h:As z)(lo hi:Option Int):As (Txt.slice z lo hi):=by
 intro c a;unfold Txt.slice at a;split at a;exact h c a;simp only[List.mem_filterMap]at a;obtain⟨i,_,hi⟩:=a;exact h c (Array.mem_toList_iff.mpr (Array.mem_of_getElem? hi))
theorem slice_le(z:Str)(lo hi:Option Int):(Txt.slice z lo hi).length<=z.length:=Txt.slice_le z lo hi
local macro_rules | `(tactic| walk_at "dx")=>do
 let l:=("vP nY cD9 pX pY pZ qA qB qC qE qF qG qH qI qJ qK qL qM qN aH5 qO jW lM qQ lN lO lP qR qS aH6 qT qU aH7 qV qW qX qY qZ lQ rB rC rD lR rE rF rG rH rJ rK tZ rL rM rN lT lU rO rP rQ rR rS rT rV aH8 lV iP lW rW lX sJ sK sL sM sN sO sP sQ sR mT aH9 sS mI iR gB tY mS mR sT mJ mK mL sU sV sW sY sZ aI0 aI1 aI2 tD tE tF mM mO mP tG mQ iQ tH zL tI tJ aI3 tK cE1 tL tM oN bV tN tO tP tQ rX rY rZ sA sC sD sE sF lY lZ mB sH sI reduceIte".splitOn " ").toArray.map fun s=>Lean.mkIdent s.toName
 let m:=("tR tT tU zM aI4 Int.reducePow Int.reduceNeg Int.reduceLT Int.reduceLE Nat.reducePow Nat.reduceLT Int.reduceToNat Nat.reduceLeDiff tX tV aI5 tW mD mE mG mH aP9 List.getElem?_cons_succ List.getElem?_cons_zero Option.getD_some List.set_cons_zero List.set_cons_succ eM aT1 List.length_cons List.length_nil Nat.reduceAdd Nat.zero_add true_and and_true and_self Bool.not_false Bool.not_true Bool.false_eq_true Bool.true_and Bool.and_true Bool.or_false decide_eq_true_eq".splitOn " ").toArray.map fun s=>Lean.mkIdent s.toName
 `(tactic| simp only[$[↓$l:ident],*,$[$m:ident],*])
theorem bU2:∀ (a:List Str),(∀ z∈a,z.length<=1)->(a.map (·.length)).sum<=a.length
 | [],_=>by simp
 | z::r,h=>by
   have c:=h z a3a;have d:=bU2 r λy b=>h y (a6a _ b);simp only[List.map_cons,List.sum_cons,List.length_cons];lia
def cX4{e:Int}(b:0<=e)(d:e < 26):∃ c,atI (Str.ofString "abcdefghijklmnopqrstuvwxyz").cps.toList e=some c/\c < 128:=by
 obtain⟨c,a⟩:=bO0 (ys:=(Str.ofString "abcdefghijklmnopqrstuvwxyz").cps.toList) b (by rw[cF9];exact d);exact⟨c,a,cV5 c (bU0 a)⟩
def bD0{c:Nat}(h:c < 128):As ⟨#[c]⟩:=by
 intro x a;have:x=c:=by simpa using a
 subst this;exact h
def tx1{c:Nat}(h:c < 128):Tx ⟨#[c]⟩:=⟨by show 1<=100;decide,bD0 h⟩
def aC6{x y:Str}{m n:Nat}(a:x.length<=m/\As x)(b:y.length<=n/\As y):(x++y).length<=m+n/\As (x++y):=⟨by rw[xY];lia,bU1 a.2 b.2⟩
theorem zz8(c:Nat):Str.length ⟨#[c]⟩=1:=rfl
def dM2{m:Int}(h:m=0\/m=1):(Txt.mul "z" m).length<=1/\As (Txt.mul "z" m):=by
 rcases h with rfl | rfl;exact⟨by decide,by unfold As;decide⟩;exact⟨by decide,by unfold As;decide⟩
def zm2(p:Prop)[Decidable p]:(if p then(1:Int)else 0)=0\/(if p then(1:Int)else 0)=1:=by
 split;exact .inr rfl;exact .inl rfl
def aX2{e:Int}(a:0<=e)(b:e < 26):atI (Str.ofString "abcdefghijklmnopqrstuvwxyz").cps.toList e=some (97+e.toNat):=by
 have h:∀ n:Fin 26,atI (Str.ofString "abcdefghijklmnopqrstuvwxyz").cps.toList ((n:Nat):Int)=some (97+(n:Nat)):=by decide
 have:=h ⟨e.toNat,by lia⟩;rwa[show((e.toNat:Nat):Int)=e by lia]at this
def cG0{ys:List Str}(h:∀ (i j:Nat) y,i < j->ys[i]? = some y->ys[j]? = some y->False):ys.Nodup:=by
 rw[List.nodup_iff_pairwise_ne,List.pairwise_iff_getElem];intro i j hi b a z;exact h i j ys[i] a (a0a hi) (by rw[z];exact a0a b)
def bD1{a b:Int}{K:Res->List Sl->Prop}(k:∀ (zs:List Str) B C,zs.length=6->zs.Nodup->(∀ z∈zs,Tx z)->K (.own (.lst (zs.map D.str))) [⟨.par,.lst [.int B,.int C]⟩,⟨.val,.int 6⟩]) :
  CK dL [⟨.par,.lst [.int a,.int b]⟩,⟨.val,.int 6⟩] K:=by
 unfold dL;rw[eC];show RS iF [_,_,none,none,none,none,none,none,none,none,none,none] _;unfold iF;walk_at "dx";refine dO (by decide) (by decide) λn W X n0 n5=>?_;walk_at "dx";split
 ·refine dO (by decide) (by decide) λp J L p0 p1=>?_;walk_at "dx";rw[aX2 p0 (by lia)];walk_at "dx";refine⟨by decide,dO (by decide) (by decide) λq a3 b3 q0 q1=>?_⟩;walk_at "dx";rw[aX2 (e:=13+q) (by lia) (by lia)];walk_at "dx";simp only[xY,zz8];have l1:∀ {c:Nat},c < 128->Str.length ⟨#[c]⟩<=1/\As ⟨#[c]⟩:=λh=>⟨a8a 1,bD0 h⟩;have E:∀ {x:Str} {n:Nat},n<=100->x.length<=n/\As x->Tx x:=λhn h=>⟨a4c h.1 hn,h.2⟩;have g:97+p.toNat < 128:=by lia
  have s:97+(13+q).toNat < 128:=by lia
  have ne:97+p.toNat≠97+(13+q).toNat:=by lia
  revert g s ne;generalize 97+p.toNat=u;generalize 97+(13+q).toNat=v;intro g s ne;have A:∀ x y:Nat,(⟨#[x]⟩:Str)++⟨#[y]⟩=⟨#[x,y]⟩:=λ_ _=>rfl;refine⟨by decide,⟨rfl,rfl,by decide⟩,by decide,by decide,by decide,by decide,by decide,by decide,by decide,by decide,by decide,?_⟩;refine k [⟨#[u]⟩,⟨#[u]⟩++⟨#[v]⟩,⟨#[v]⟩,⟨#[v]⟩++⟨#[u]⟩,⟨#[u]⟩++⟨#[u]⟩,⟨#[u]⟩++⟨#[v]⟩++⟨#[u]⟩] _ _ rfl ?_ ?_;rw[A,A,A,show(⟨#[u,v]⟩:Str)++⟨#[u]⟩=⟨#[u,v,u]⟩from rfl];simp[ne,Ne.symm ne];intro z l;simp only[List.mem_cons,List.not_mem_nil,or_false]at l;rcases l with rfl | rfl | rfl | rfl | rfl | rfl;exact tx1 g;exact E (by decide) (aC6 (l1 g) (l1 s));exact tx1 s;exact E (by decide) (aC6 (l1 s) (l1 g));exact E (by decide) (aC6 (l1 g) (l1 g));exact E (by decide) (aC6 (aC6 (l1 g) (l1 s)) (l1 g))
 ·refine dO (by decide) (by decide) λn W X n0 n5=>?_;walk_at "dx";refine⟨by lia,by rw[cA];exact a4c (by lia:n.toNat<=5) (by decide),?_⟩;refine kL _ _ (λi acc τ=>i<=5/\∃ (zs:List Str) (B C:Int),acc=zs.map D.str/\zs.length=i/\(∀ z∈zs,z.length<=1/\As z)/\τ=[some ⟨.par,.lst [.int B,.int C]⟩,some ⟨.val,.int 6⟩,some ⟨.val,.str "abcdefghijklmnopqrstuvwxyz"⟩,none,none,none,none,none,none,none,none,none]) ⟨by lia,[],W,X,rfl,rfl,by simp,rfl⟩ ?_ ?_;rintro i d acc τ hd ⟨_,zs,B,C,rfl,Y,l,rfl⟩;obtain⟨hi,rfl⟩:=wP hd;walk_at "dx";refine dO (by decide) (by decide) λe J L e0 M=>?_;walk_at "dx";refine⟨by decide,?_⟩;obtain⟨c,N,O⟩:=cX4 e0 M;rw[N];walk_at "dx";refine⟨_,rfl,by lia,zs++[⟨#[c]⟩],J,L,by rw[a3c];rfl,by rw[a3b,Y];rfl,?_,rfl⟩;intro z P;rcases a5b.mp P with h | h;exact l z h;rw[a9a]at h;subst h;exact⟨a8a 1,bD0 O⟩;rintro acc τ ⟨h5,zs,B,C,rfl,Y,l,rfl⟩;have hs:=bU2 zs λz h=>(l z h).1;rw[cV2];refine⟨by simp only[show(Str.ofString "").length=0 by decide];lia,?_⟩;have I:=aW1 (m:=128) (sep:=Str.ofString "") (by decide) zs λz h=>(l z h).2;have o:(Txt.join (Str.ofString "") zs).length<=5:=by
   refine a4c (cS6 _ _) ?_;simp only[show(Str.ofString "").length=0 by decide];lia
  revert I o;generalize Txt.join (Str.ofString "") zs=x;intro I o;have Q:x.length<=sizeLine:=a4c o (by decide);walk_at "dx";rw[cV6 Q];walk_at "dx";refine dO (by lia) (by lia) λk1 J L k10 k11=>?_;walk_at "dx";refine dO (by lia) (by lia) λk2 a3 b3 k20 k21=>?_;walk_at "dx";refine dO (by lia) (by lia) λk3 a4 b4 k30 k31=>?_;walk_at "dx";refine⟨a5c _,?_⟩;refine jD (λi τ=>i<=6/\∃ (ys:List Str) (F o2:Option Sl),((F=none/\o2=none)\/∃ d e,F=some ⟨.val,d⟩/\o2=some ⟨.val,e⟩)/\ys.length=i/\(∀ (j:Nat) y,ys[j]? = some y->Tx y/\∃ t,y.cps.toList=(Txt.slice x none (some k1)).cps.toList++(97+((k2+5*(j:Int)) % 26).toNat)::t)/\τ=[some ⟨.par,.lst [.int a4,.int b4]⟩,some ⟨.val,.int 6⟩,some ⟨.val,.str "abcdefghijklmnopqrstuvwxyz"⟩,none,none,some ⟨.val,.str x⟩,some ⟨.val,.int k1⟩,some ⟨.val,.int k2⟩,some ⟨.val,.int k3⟩,some ⟨.own,.lst (ys.map D.str)⟩,F,o2]) ⟨by lia,[],none,none,.inl ⟨rfl,rfl⟩,rfl,(λj y h=>by simp at h),rfl⟩ ?_ ?_
  ·rintro i d τ hd ⟨_,ys,F,o2,R,r,f,rfl⟩;obtain⟨hi,rfl⟩:=wP hd;have N:=aX2 (e:=(k2+5*(0+(i:Int))) % 26) (a2i _ (by decide)) (a2h _ (by decide));have O:97+((k2+5*(0+(i:Int))) % 26).toNat < 128:=by
    have:=a2h (k2+5*(0+(i:Int))) (b:=26) (by decide);lia
   have l1:=slice_le x none (some k1);have l2:=slice_le x (some k1) none;have g1:=bC9 (z:=x) I none (some k1);have g2:=bC9 (z:=x) I (some k1) none;have sl:100<=sizeLine:=by decide
   have done:∀ (w:Str) (t:Str) ,(w.length<=20/\As w)->(t.length<=1/\As t)->Tx (w++t):=λw t hw S=>by
    have:=aC6 hw S;exact⟨by lia,this.2⟩
   have fin:∀ t:Str,(t.length<=1/\As t)->∀ (j:Nat) y,(ys++[Txt.slice x none (some k1)++⟨#[97+((k2+5*(0+(i:Int))) % 26).toNat]⟩++Txt.slice x (some k1) none++t])[j]? = some y->Tx y/\∃ t,y.cps.toList=(Txt.slice x none (some k1)).cps.toList++(97+((k2+5*(j:Int)) % 26).toNat)::t:=λt S j y h=>by
    by_cases G:j < ys.length;rw[a3g G]at h;exact f j y h;have T:j=i:=by
     have:=(a2a.mp h).1;rw[a3b,List.length_singleton]at this;lia
    subst T;rw[a1g (by lia),r,Nat.sub_self]at h;obtain rfl:=a7a h;refine⟨done _ _ ⟨?_,bU1 (bU1 g1 (bD0 O)) g2⟩ S,(Txt.slice x (some k1) none).cps.toList++t.cps.toList,?_⟩;rw[xY,xY,zz8];lia;rw[xX,xX,xX,Int.zero_add];simp
   rcases R with⟨rfl,rfl⟩ | ⟨d,e,rfl,rfl⟩
   all_goals
    walk_at "dx";rw[N];walk_at "dx";have U:=dM2 (zm2 ((0+(i:Int)) % 2=1));have z0:=dM2 (m:=0) (.inl rfl);have Z:=zm2 ((0+(i:Int)) % 2=1);simp only[xY,zz8];revert Z U;generalize (if(0+(i:Int)) % 2=1 then(1:Int)else 0)=zz;intro U Z;refine⟨by lia,by decide,by lia,by lia,by lia,?_⟩;have H:(List.map D.str ys).length < sizeLine:=by rw[a1a];lia
    split;exact⟨⟨by decide,by lia,by lia⟩,by lia,H,_,.inl rfl,by lia,ys++[_],_,_,.inr ⟨_,_,rfl,rfl⟩,by rw[a3b,r];rfl,fin _ U,by rw[a3c];rfl⟩;exact⟨by decide,by lia,H,_,.inl rfl,by lia,ys++[_],_,_,.inr ⟨_,_,rfl,rfl⟩,by rw[a3b,r];rfl,fin _ z0,by rw[a3c];rfl⟩
  ·rintro τ ⟨_,ys,F,o2,R,r,f,rfl⟩;rw[cA]at r;have hn:ys.Nodup:=cG0 λi j y hij h1 h2=>by
    obtain⟨_,t1,M⟩:=f i y h1;obtain⟨_,E,A⟩:=f j y h2;rw[M]at A;have e3:=(List.cons.inj (List.append_cancel_left A)).1;have G:=(a2a.mp h2).1;rw[r]at G;have h6:j < 6:=by lia
    lia
   have V:∀ z∈ys,Tx z:=λz l=>by
    obtain⟨j,G⟩:=List.mem_iff_getElem?.mp l;exact(f j z G).1
   rcases R with⟨rfl,rfl⟩ | ⟨d,e,rfl,rfl⟩
   all_goals
    walk_at "dx";exact k _ _ _ r hn V
theorem xZ{l:List D}{K:List D->Prop}:OK1 (aN3 (.tup l)) K=K l:=rfl
theorem yA{l:List D}{K:List D->Prop}:OK1 (aN3 (.lst l)) K=K l:=rfl
theorem yB{l:List D}{K:List D->Prop}:OK1 (dT6 (.lst l)) K=K l:=rfl
theorem yC{i:Nat}{σ:Sg}:cP [i] σ=σ.set i none:=rfl
theorem yD{i j:Nat}{σ:Sg}:cP [i,j] σ=(σ.set i none).set j none:=rfl
theorem aX3{i j:Nat}{σ a:Sg}:oZ [i,j] σ a=(a.set i (σ[i]?.getD none)).set j (σ[j]?.getD none):=rfl
theorem yE{i j:Int}{K:Res->Prop}:OK1 (eqD true (.int i) (.int j)) K=K (.val (.bl (!decide (i=j)))):=by
 have h:OK1 (eqD false (.int i) (.int j)) (λr=>r=.val (.bl (decide (i=j)))):=by rw[zL]
 unfold eqD at h ⊢;split at h
 ·rename_i a;rw[a4i a];have h':Res.val (.bl (if false=true then !zK (.int i) (.int j)else zK (.int i) (.int j)))=.val (.bl (decide (i=j))):=h;have e:zK (.int i) (.int j)=decide (i=j):=by simpa using h'
  show K (.val (.bl (if true=true then !zK (.int i) (.int j)else zK (.int i) (.int j))))=_;rw[a4i rfl,e]
 ·exact h.elim
noncomputable def ov(b:Bool)(d:D):Option Sl:=if b=true then some ⟨.val,d⟩else none
theorem yF{b:Bool}{d:D}{r:Sg}{s:Sl}{K:Sg->Prop}:Dv.PK 0 (ov b d::r) s K=K (some s::r):=by cases b<;>rfl
theorem pG{l m:List D}{K:D×D->Prop}:OK1 (bZ6 (.lst l) [.lst m]) K=(l.length+m.length<=sizeLine/\K (.lst (l++m),.non)):=by
 unfold bZ6;dsimp only[cC6];show OK1 (if _ then _ else none) K=_;rw[cI];rfl
theorem yG{b:MS}{Q:Out->Prop}{σ:Sg}:sqM b Q (.nx σ)=b σ Q:=rfl
theorem cX5{d:D}{r:Sg}:lendO (some 0) (some ⟨.own,d⟩::r)=some ⟨.lent,d⟩::r:=rfl
theorem cX6{d:D}{r:Sg}:lendO (some 0) (some ⟨.par,d⟩::r)=some ⟨.lent,d⟩::r:=rfl
theorem cX7{d:D}{r:Sg}:lendO (some 0) (some ⟨.lent,d⟩::r)=some ⟨.lent,d⟩::r:=rfl
theorem cX8{i:Nat}{o:Option Sl}{r:Sg}:lendO (some (i+1)) (o::r)=o::lendO (some i) r:=by
 show lend (i+1) (o::r)=o::lend i r;unfold lend;rw[a2d];generalize r[i]? = x
 match x with
 | none=>rfl
 | some none=>rfl
 | some (some ⟨.own,_⟩)=>rfl
 | some (some ⟨.par,_⟩)=>rfl
 | some (some ⟨.val,_⟩)=>rfl
 | some (some ⟨.lent,_⟩)=>rfl
theorem cX9{d e:D}{m:Md}{a r:Sg}:aK9 (some 0) (some ⟨.own,e⟩::a) (some ⟨m,d⟩::r)=some ⟨.own,d⟩::r:=rfl
theorem cY0{d e:D}{m:Md}{a r:Sg}:aK9 (some 0) (some ⟨.par,e⟩::a) (some ⟨m,d⟩::r)=some ⟨.par,d⟩::r:=rfl
theorem cY1{d e:D}{m:Md}{a r:Sg}:aK9 (some 0) (some ⟨.lent,e⟩::a) (some ⟨m,d⟩::r)=some ⟨m,d⟩::r:=rfl
theorem cY2{i:Nat}{o o':Option Sl}{a r:Sg}:aK9 (some (i+1)) (o::a) (o'::r)=o'::aK9 (some i) a r:=by
 show unl (i+1) (o::a) (o'::r)=o'::unl i a r;unfold unl;rw[a2d,a2d];generalize a[i]? = x;generalize r[i]? = y
 match x,y with
 | none,_=>rfl
 | some none,_=>rfl
 | some (some _),none=>rfl
 | some (some _),some none=>rfl
 | some (some ⟨.own,_⟩),some (some _)=>rfl
 | some (some ⟨.par,_⟩),some (some _)=>rfl
 | some (some ⟨.val,_⟩),some (some _)=>rfl
 | some (some ⟨.lent,_⟩),some (some _)=>rfl
theorem cY3{i:Nat}{σ a:Sg}:aN4 (some i) σ (.nx a)=.nx (aK9 (some i) σ a):=rfl
local macro_rules | `(tactic| walk_at "dx")=>do
 let l:=("yG pG yF yA xZ yB yE vP nY cD9 pX pY pZ qA qB qC qE qF qG qH qI qJ qK qL qM qN aH5 qO jW lM qQ lN lO lP qR qS aH6 qT qU aH7 qV qW qX qY qZ lQ rB rC rD lR rE rF rG rH rJ rK tZ rL rM rN lT lU rO rP rQ rR rS rT rV aH8 lV iP lW rW lX sJ sK sL sM sN sO sP sQ sR mT aH9 sS mI iR gB tY mS mR sT mJ mK mL sU sV sW sY sZ aI0 aI1 aI2 tD tE tF mM mO mP tG mQ iQ tH zL tI tJ aI3 tK cE1 tL tM oN bV tN tO tP tQ rX rY rZ sA sC sD sE sF lY lZ mB sH sI reduceIte".splitOn " ").toArray.map fun s=>Lean.mkIdent s.toName
 let m:=("yC yD aX3 tR tT tU zM aI4 Int.reducePow Int.reduceNeg Int.reduceLT Int.reduceLE Nat.reducePow Nat.reduceLT Int.reduceToNat Nat.reduceLeDiff tX cX5 cX6 cX7 cX8 cX9 cY0 cY1 cY2 cY3 tV aI5 tW mD mE mG mH aP9 List.getElem?_cons_succ List.getElem?_cons_zero Option.getD_some List.set_cons_zero List.set_cons_succ eM aT1 List.length_cons List.length_nil Nat.reduceAdd Nat.zero_add true_and and_true and_self Bool.not_false Bool.not_true Bool.false_eq_true Bool.true_and Bool.and_true Bool.or_false decide_eq_true_eq".splitOn " ").toArray.map fun s=>Lean.mkIdent s.toName
 `(tactic| simp only[$[↓$l:ident],*,$[$m:ident],*])
def bU3{α:Type}(f:α->D){l:List α}{i:Int}(h0:0<=i)(b:i < (l.length:Int)):∃ c,atI (l.map f) i=some (f c)/\c∈l:=by
 obtain⟨c,a⟩:=bO0 (ys:=l) h0 b;exact⟨c,by rw[bO1,a];rfl,bU0 a⟩
def bU4{r:DT}{σ:Sg}{Q a:Bool->Sg->Prop}(h:RT r σ Q)(w:∀ b c,Q b c->a b c):RT r σ a:=cY h λx=>w x.1 x.2
def bU5{r:DE}{σ:Sg}{Q a:Res->Sg->Prop}(h:RE r σ Q)(w:∀ b c,Q b c->a b c):RE r σ a:=cY h λx=>w x.1 x.2
def fM{α:Type}{g:D->Sg->Option Sg}{ow:List Nat}{t:DT}{e:DE}{K:List D×Sg->Prop}(f:α->D)(u:α->D)(xs:List α){a:Sg}(l:Sg)(p:a=l)
  (q:∀ x∈xs,OK1 (g (u x) l) λc=>RT t c λb h=>b=true/\RE e h λr j=>r=.val (f x)/\cP ow j=l) (k:K (xs.map f,l)):OK1 (aO4 ow g t e (xs.map u) a) K:=by
 subst p;refine kL _ _ (λi acc τ'=>acc=(xs.take i).map f/\τ'=a) ⟨rfl,rfl⟩ ?_ ?_;rintro i d acc τ' hd ⟨rfl,rfl⟩;rw[a8b]at hd;obtain⟨x,n,rfl⟩:=a6c.mp hd;refine cY (q x (a7b n)) λc s=>bU4 s λb h m=>?_;obtain⟨rfl,m⟩:=m;rw[a4i rfl];refine bU5 m λr j o=>?_;exact⟨_,o.1,by rw[a2f,n,a3c];rfl,o.2⟩;rintro acc τ' ⟨rfl,rfl⟩;rw[a1a,List.take_length];exact k
def bB{α:Type}{g:D->Sg->Option Sg}{ow:List Nat}{t:DT}{e:DE}{K:List D×Sg->Prop}(p:α->Bool)(f:α->D)(u:α->D)(xs:List α){a:Sg}(j:Sg)(n:a=j)
  (w:∀ x∈xs,OK1 (g (u x) j) λl=>RT t l λb c=>b=p x/\cP ow c=j/\RE e c λr m=>r=.val (f x)/\cP ow m=j) (k:K ((xs.filter p).map f,j)):OK1 (aO4 ow g t e (xs.map u) a) K:=by
 subst n;refine kL _ _ (λi acc τ'=>acc=((xs.take i).filter p).map f/\τ'=a) ⟨rfl,rfl⟩ ?_ ?_
 ·rintro i d acc τ' hd ⟨rfl,rfl⟩;rw[a8b]at hd;obtain⟨x,s,rfl⟩:=a6c.mp hd;refine cY (w x (a7b s)) λl y=>bU4 y λb c q=>?_;obtain⟨rfl,q,z⟩:=q;have n:(xs.take (i+1)).filter p=(xs.take i).filter p++(if p x=true then[x]else[]):=by
   rw[a2f,s,List.filter_append];cases h:p x<;>simp[h]
  by_cases o:p x=true;rw[a4i o];refine bU5 z λr m v=>?_;exact⟨_,v.1,by rw[n,a4i o,a3c];rfl,v.2⟩;rw[a4j o];exact⟨by rw[n,a4j o,a4g],q⟩
 ·rintro acc τ' ⟨rfl,rfl⟩;rw[a1a,List.take_length];exact k
def iL{α:Type}{f:α->D}{l:List α}{i:Nat}{d:D}(h:(l.map f)[i]? = some d):∃ y,l[i]? = some y/\d=f y:=by
 rw[a8b]at h;obtain⟨y,e,rfl⟩:=a6c.mp h;exact⟨y,e,rfl⟩
def aQ0{α:Type}{l:List α}{i:Nat}{y:α}(h:l[i]? = some y):l.take i++[y]=l.take (i+1):=by
 rw[a2f,h];rfl
def bU6{α:Type}(f:α->D)(p:α->Bool)(l:List α){ow:List Nat}{g:DG}{e:DE}{K:List D×Sg->Prop}{a:Sg}
  (n:∀ y∈l,OK1 (g (f y) a) λb=>RE e b λr c=>r=.val (.bl (p y))/\cP ow c=a) (k:K ((l.map p).map D.bl,a)):OK1 (aO4 ow g iC e (l.map f) a) K:=by
 refine kL _ _ (λi acc τ'=>acc=((l.take i).map p).map D.bl/\τ'=a) ⟨rfl,rfl⟩ ?_ ?_;rintro i d acc τ' hd ⟨rfl,rfl⟩;obtain⟨y,j,rfl⟩:=iL hd;refine cY (n y (a7b j)) λb h=>?_;rw[jW,a4i rfl];refine cY h λr m=>⟨_,m.1,?_,m.2⟩;rw[← aQ0 j,a3c,a3c];rfl;rintro acc τ' ⟨rfl,rfl⟩;rw[a1a,List.take_length];exact k
def aC7{α:Type}(p:α->Bool)(l:List α):(l.map p).all id=l.all p:=by rw[List.all_map];rfl
def aF0{x y:Str}:decide (D.str x=D.str y)=decide (x=y):=by rw[a9d,a4m,a4m,D.str.injEq]
def vQ{neg:Bool}{x y:Str}(a:As x)(b:As y){K:Res->Prop}(k:K (.val (.bl (if neg=true then !decide (x=y)else decide (x=y))))):OK1 (eqD neg (.str x) (.str y)) K:=
 vO (n:=0) (m:=0) (.str a) (.str b) (by decide) (by decide) (by rw[aF0];exact k)
def nZ{α:Type}[DecidableEq α](f:α->D)(a:∀ x y,f x=f y->x=y){x:α}{l:List α}:decide (f x∈l.map f)=decide (x∈l):=by
 rw[a9d,a4m,a4m,a2c];exact⟨λ⟨y,b,c⟩=>a y x c ▸ b,λh=>⟨x,h,rfl⟩⟩
def aJ3(x y:Str)(h:D.str x=D.str y):x=y:=by injection h
def oks{n:Nat}{a:List Str}(h:∀ z∈a,As z):∀ d∈a.map D.str,Ok n d:=λd hd=>by
 obtain⟨z,b,rfl⟩:=a2c.mp hd;exact .str (h z b)
def bU7{neg:Bool}{z:Str}{a:List Str}(b:As z)(h:∀ z∈a,As z){K:Res->Prop}(k:K (.val (.bl (if neg=true then !decide (z∈a)else decide (z∈a))))):OK1 (inD neg (.str z) (.lst (a.map D.str))) K:=
 pF (n:=0) (m:=0) (.str b) (oks h) (by decide) (by decide) (by rw[nZ D.str aJ3];exact k)
def jJ{neg:Bool}{z:Str}{a:List Str}(b:As z)(h:∀ z∈a,As z){K:Res->Prop}(k:K (.val (.bl (if neg=true then !decide (z∈a)else decide (z∈a))))):OK1 (inD neg (.str z) (.tup (a.map D.str))) K:=
 cX3 (n:=0) (m:=0) (.str b) (oks h) (by decide) (by decide) (by rw[nZ D.str aJ3];exact k)
noncomputable def dQ(qs:List (Str×List Str)):List Str:=qs.foldl (λacc q=>acc++q.2.filter λc=>!decide (c∈acc)) []
def aC8(qs:List (Str×List Str))(q:Str×List Str):dQ (qs++[q])=dQ qs++q.2.filter λc=>!decide (c∈dQ qs):=by
 unfold dQ;rw[List.foldl_append];rfl
def Qn(qs:List (Str×List Str)):Prop:=qs.length<=100/\∀ q∈qs,Tx q.1/\q.2.length<=100/\∀ z∈q.2,Tx z
def uC{qs:List (Str×List Str)}{z:Str}(h:z∈dQ qs):∃ q∈qs,z∈q.2:=by
 have a:∀ (l:List (Str×List Str)) (acc:List Str),z∈l.foldl (λacc q=>acc++q.2.filter λc=>!decide (c∈acc)) acc->z∈acc\/∃ q∈l,z∈q.2:=by
  intro l
  induction l with
  | nil=>intro acc h;exact .inl h
  | cons q r b=>
    intro acc h;rcases b _ h with h | ⟨d,e,f⟩;rcases a5b.mp h with h | h;exact .inl h;exact .inr ⟨q,a3a,(List.mem_filter.mp h).1⟩;exact .inr ⟨d,a6a _ e,f⟩
 rcases a qs [] h with h | h;cases h;exact h
def bU8{qs:List (Str×List Str)}{n:Nat}(h:∀ q∈qs,q.2.length<=n):(dQ qs).length<=qs.length*n:=by
 have a:∀ (l:List (Str×List Str)) (acc:List Str),(∀ q∈l,q.2.length<=n)->(l.foldl (λacc q=>acc++q.2.filter λc=>!decide (c∈acc)) acc).length<=acc.length+l.length*n:=by
  intro l
  induction l with
  | nil=>intro acc _;simp
  | cons q r b=>
    intro acc h;have d:=b (acc++q.2.filter λc=>!decide (c∈acc)) λx e=>h x (a6a _ e);have f:=h q a3a;have g:=List.length_filter_le (λc=>!decide (c∈acc)) q.2;rw[a3b]at d;rw[List.foldl_cons,a8f,Nat.succ_mul];lia
 have:=a qs [] h;rw[a3h,a0g]at this;exact this
def vC{α:Type}{l:List α}{i:Nat}{y:α}(h:l[i]? = some y):l.take (i+1)=l.take i++[y]:=(aQ0 h).symm
def aX4{qs:List (Str×List Str)}(l:Qn qs){Q:Out->Prop}(k:∀ b e f g,Q (.nx [some ⟨.val,qD qs⟩,some ⟨.own,.lst ((dQ qs).map D.str)⟩,ov b f,ov e g,none])) :
  OK1 (cN2 (nJ 2 (cL (dgN 2) (cL (dgN 3) lH))) (jM (zH "list" 1 bZ6 (aE (cG [4] (dIt (aH 3)) (dgN 4) (eK (aY (inD true) (aH 4) (aH 1))) (dFz (aH 4))) aV))) (qs.map qP) [some ⟨.val,qD qs⟩,some ⟨.own,.lst []⟩,none,none,none]) Q:=by
 have sl:20000<=sizeLine:=by decide
 have s:∀ i,∀ z∈dQ (qs.take i),As z:=λi z t=>by
  obtain⟨q,m,o⟩:=uC t;exact((l.2 q (a3e m)).2.2 z o).2
 have u:∀ i,(dQ (qs.take i)).length<=10000:=λi=>by
  have m:=bU8 (qs:=qs.take i) (n:=100) λq h=>(l.2 q (a3e h)).2.1;have o:=l.1;have r:(qs.take i).length<=100:=by rw[a8d];lia
  have w:=Nat.mul_le_mul_right 100 r;lia
 refine jD (λi p=>∃ b e f g,p=[_,some ⟨.own,.lst ((dQ (qs.take i)).map D.str)⟩,ov b f,ov e g,none]) ⟨false,false,.non,.non,rfl⟩ ?_ ?_
 ·rintro i d p hd ⟨b,e,f,g,rfl⟩;obtain⟨q,j,rfl⟩:=iL hd;have a:=l.2 q (a7b j);walk_at "dx";refine⟨a4c (by rw[a1a];exact a.2.1) (by decide),bB (λc=>!decide (c∈dQ (qs.take i))) D.str D.str q.2 [_,_,_,_,none] rfl (λc v=>?_) ?_⟩;walk_at "dx";refine bU7 (a.2.2 c v).2 (s i) ?_;walk_at "dx";walk_at "dx";refine⟨by
   rw[a1a,a1a];have m:=u i;have o:=List.length_filter_le (λc=>!decide (c∈dQ (qs.take i))) q.2;have r:=a.2.1;lia,_,.inl rfl,true,true,.str q.1,.tup (q.2.map D.str),?_⟩
  rw[vC j,aC8,a3c];rfl
 ·rintro p ⟨b,e,f,g,rfl⟩;rw[a1a,List.take_length];exact k b e f g
def vD{qs:List (Str×List Str)}(a:Qn qs){K:Res->List Sl->Prop}(k:K (.val (.tup ((dQ qs).map D.str))) [⟨.val,qD qs⟩]):CK cU [⟨.val,qD qs⟩] K:=by
 unfold cU;rw[eC];show RS gC [_,none,none,none,none] _;unfold gC;walk_at "dx";refine⟨a5c _,aX4 a λb c d e=>?_⟩;walk_at "dx";exact k
def kW{qs:List (Str×List Str)}{z:Str}:z∈dQ qs↔∃ q∈qs,z∈q.2:=by
 refine⟨uC,λZ0=>?_⟩;obtain⟨q,a,b⟩:=Z0;have d:∀ (l:List (Str×List Str)) (acc:List Str),(z∈acc\/∃ q∈l,z∈q.2)->z∈l.foldl (λacc q=>acc++q.2.filter λc=>!decide (c∈acc)) acc:=by
  intro l
  induction l with
  | nil=>
    intro acc h;rcases h with h | ⟨q,h,_⟩;exact h;cases h
  | cons q r e=>
    intro acc h;refine e _ ?_;by_cases ha:z∈acc;exact .inl (a6d _ ha)
    ·rcases h with h | ⟨f,a,b⟩;exact absurd h ha;rcases a2b.mp a with rfl | a;exact .inl (a1c _ (List.mem_filter.mpr ⟨b,by simp[ha]⟩));exact .inr ⟨f,a,b⟩
 exact d qs [] (.inr ⟨q,a,b⟩)
noncomputable def wo(qs:List (Str×List Str))(z:Str):List (Str×List Str):=qs.filter λq=>!decide (q.1=z)
def aC9{qs:List (Str×List Str)}{z:Str}{q:Str×List Str}(h:q∈wo qs z):q∈qs/\q.1≠z:=by
 have:=List.mem_filter.mp h;exact⟨this.1,by simpa using this.2⟩
theorem Qn.wo{qs:List (Str×List Str)}(h:Qn qs)(z:Str):Qn (wo qs z):=⟨a4c (List.length_filter_le _ _) h.1,λq a=>h.2 q (aC9 a).1⟩
def aD0{qs:List (Str×List Str)}{z:Str}(a:Qn qs)(b:As z){K:Res->List Sl->Prop}(k:K (.val (qD (wo qs z))) [⟨.val,qD qs⟩,⟨.val,.str z⟩]):CK fT [⟨.val,qD qs⟩,⟨.val,.str z⟩] K:=by
 have sl:1000<=sizeLine:=by decide
 have c:=a.1;unfold fT;rw[eC];show RS kN [_,_,none] _;unfold kN;walk_at "dx";refine⟨by rw[a1a];lia,bB (λq=>!decide (q.1=z)) qP qP qs [_,_,none] rfl (λq h=>?_) ?_⟩;walk_at "dx";refine vQ (a.2 q h).1.2 b ?_;walk_at "dx";walk_at "dx";exact k
def bI7{cs ss:List Str}{m:Md}(hm:m=.par\/m=.val)(a:∀ z∈cs,As z)(b:∀ z∈ss,As z)(e:ss.length<=1000){K:Res->List Sl->Prop}(k:K (.val (.bl (ss.all λc=>decide (c∈cs)))) [⟨.val,.tup (cs.map D.str)⟩,⟨m,.lst (ss.map D.str)⟩]) :
  CK jG [⟨.val,.tup (cs.map D.str)⟩,⟨m,.lst (ss.map D.str)⟩] K:=by
 have sl:1000<=sizeLine:=by decide
 unfold jG;rw[eC];show RS kO [_,_,none] _;unfold kO;rcases hm with rfl | rfl
 all_goals
  walk_at "dx";refine⟨by rw[a1a];lia,bU6 D.str (λc=>decide (c∈cs)) ss (λy d=>?_) ?_⟩
  ·walk_at "dx";refine jJ (b y d) a ?_;walk_at "dx"
   try rfl
  ·walk_at "dx";rw[aC7];exact k
local macro_rules | `(tactic| walk_at "dx")=>do
 let l:=("yG pG yF yA xZ yB yE vP nY cD9 pX pY pZ qA qB qC qE qF qG qH qI qJ qK qL qM qN aH5 qO jW lM qQ lN lO lP qR qS aH6 qT qU aH7 qV qW qX qY qZ lQ rB rC rD lR rE rF rG rH rJ rK tZ rL rM rN lT lU rO rP rQ rR rS rT rV aH8 lV iP lW rW lX sJ sK sL sM sN sO sP sQ sR mT aH9 sS mI iR gB tY mS mR sT mJ mK mL sU sV sW sY sZ aI0 aI1 aI2 tD tE tF mM mO mP tG mQ iQ tH zL tI tJ aI3 tK cE1 tL tM oN bV tN tO tP tQ rX rY rZ sA sC sD sE sF lY lZ mB sH sI reduceIte aC0 aB2 aB7 aP5 aP6".splitOn " ").toArray.map fun s=>Lean.mkIdent s.toName
 let m:=("yC yD aX3 tR tT tU zM aI4 Int.reducePow Int.reduceNeg Int.reduceLT Int.reduceLE Nat.reducePow Nat.reduceLT Int.reduceToNat Nat.reduceLeDiff tX cX5 cX6 cX7 cX8 cX9 cY0 cY1 cY2 cY3 tV aI5 tW mD mE mG mH aP9 List.getElem?_cons_succ List.getElem?_cons_zero Option.getD_some List.set_cons_zero List.set_cons_succ eM aT1 List.length_cons List.length_nil Nat.reduceAdd Nat.zero_add true_and and_true and_self Bool.not_false Bool.not_true Bool.false_eq_true Bool.true_and Bool.and_true Bool.or_false decide_eq_true_eq".splitOn " ").toArray.map fun s=>Lean.mkIdent s.toName
 `(tactic| simp only[$[↓$l:ident],*,$[$m:ident],*])
noncomputable abbrev oD:Option Str->D
 | none=>.non
 | some z=>.str z
noncomputable abbrev eD(p:Str×Option Str):D:=.tup [.str p.1,oD p.2]
def dM3:∀ x y:Option Str,oD x=oD y->x=y
 | none,none,_=>rfl
 | some x,some y,h=>by injection h with h;rw[h]
noncomputable def shr(cs:List Str)(o:List (Str×List Str)):List Str:=cs.filter λc=>decide (c∈dQ o)
noncomputable def aQ1(aK:List (Str×List Str))(z:Str)(cs:List Str):List (Option Str):=
 if(wo aK z).length=0 then[none]else((wo aK z).filter λo=>(shr cs (wo aK z)).all λc=>decide (c∈o.2)).map λo=>some o.1
def cG1{aK:List (Str×List Str)}{z:Str}{cs:List Str}:(aQ1 aK z cs).length<=aK.length+1:=by
 unfold aQ1;split;show 1<=_;lia;rw[a1a];exact a4c (List.length_filter_le _ _) (a4c (List.length_filter_le _ _) (Nat.le_succ _))
def cG2{aK:List (Str×List Str)}{z:Str}{cs:List Str}{h:Option Str}(a:h∈aQ1 aK z cs):∀ x,h=some x->∃ q∈aK,q.1=x:=by
 intro x e;unfold aQ1 at a;split at a;rw[a9a]at a;rw[a]at e;cases e;obtain⟨q,b,rfl⟩:=a2c.mp a;cases e;exact⟨q,(aC9 (List.mem_filter.mp b).1).1,rfl⟩
def aJ4{qs:List (Str×List Str)}(h:Qn qs):∀ z∈dQ qs,As z:=λz a=>by
 obtain⟨q,b,c⟩:=uC a;exact((h.2 q b).2.2 z c).2
def bI8{aK:List (Str×List Str)}{z:Str}{cs:List Str}(b:Qn aK)(e:As z)(d:∀ z∈cs,As z)(f:cs.length<=100){K:Res->List Sl->Prop}
  (k:K (.own (.lst ((aQ1 aK z cs).map oD))) [⟨.val,qD aK⟩,⟨.val,.str z⟩,⟨.val,.tup (cs.map D.str)⟩]):CK fF [⟨.val,qD aK⟩,⟨.val,.str z⟩,⟨.val,.tup (cs.map D.str)⟩] K:=by
 have sl:1000<=sizeLine:=by decide
 unfold fF;rw[eC];show RS gD [_,_,_,none,none,none,none,none] _;unfold gD;walk_at "dx";refine aD0 b e ?_;have a:=b.wo z;walk_at "dx";unfold aQ1 at k;split;rename_i h0;rw[a4i (by rw[a1a]at h0;lia)]at k;exact⟨by lia,k⟩;rename_i h0;rw[a4j (by rw[a1a]at h0;lia)]at k;have g:∀ c∈shr cs (wo aK z),As c:=λc h=>d c (List.mem_filter.mp h).1;have i:(shr cs (wo aK z)).length<=100:=a4c (List.length_filter_le _ _) f;refine⟨by rw[a1a];lia,bB (λc=>decide (c∈dQ (wo aK z))) D.str D.str cs [_,_,_,_,none,none,none,none] rfl (λc h=>?_) ?_⟩;walk_at "dx";refine vD a ?_;walk_at "dx";refine jJ (d c h) (aJ4 a) ?_;walk_at "dx";walk_at "dx";have j:=a.1;refine⟨by rw[a1a];lia,bB (λo=>(shr cs (wo aK z)).all λc=>decide (c∈o.2)) (λo=>.str o.1) qP (wo aK z) [_,_,_,_,some ⟨.own,.lst ((shr cs (wo aK z)).map D.str)⟩,none,none,none] rfl (λq h=>?_) ?_⟩;walk_at "dx";refine bI7 (.inl rfl) (λc h'=>((a.2 q h).2.2 c h').2) g (by lia) ?_;walk_at "dx";walk_at "dx";rw[List.map_map]at k;exact k
noncomputable def ears(aK:List (Str×List Str)):List (Str×Option Str):=aK.flatMap λq=>(aQ1 aK q.1 q.2).map λh=>(q.1,h)
def aD1{aK:List (Str×List Str)}(c:Qn aK){K:Res->List Sl->Prop}(k:K (.own (.lst ((ears aK).map eD))) [⟨.val,qD aK⟩]):CK gY [⟨.val,qD aK⟩] K:=by
 have sl:20000<=sizeLine:=by decide
 unfold gY;rw[eC];show RS kP [_,none,none,none,none] _;unfold kP;walk_at "dx";refine⟨a5c _,jD (λi τ=>∃ e f g j,((aK.take i).flatMap λq=>(aQ1 aK q.1 q.2).map λh=>(q.1,h)).length<=i*101/\τ=[_,some ⟨.own,.lst (((aK.take i).flatMap λq=>(aQ1 aK q.1 q.2).map λh=>(q.1,h)).map eD)⟩,ov e g,ov f j,none]) ⟨false,false,.non,.non,a5c _,rfl⟩ ?_ ?_⟩;rintro i d τ hd ⟨e,f,g,j,hi,rfl⟩;obtain⟨q,a,rfl⟩:=iL hd;have l:i < aK.length:=(a2a.mp a).1;have b:=c.2 q (a7b a);have m:=c.1;have n:=cG1 (aK:=aK) (z:=q.1) (cs:=q.2);walk_at "dx";refine bI8 c b.1.2 (λz h=>(b.2.2 z h).2) b.2.1 ?_;walk_at "dx";refine⟨by rw[a1a];lia,fM (λh=>eD (q.1,h)) oD (aQ1 aK q.1 q.2) [_,_,_,_,none] rfl (λh _=>?_) ?_⟩;walk_at "dx";exact sl2;walk_at "dx";refine⟨by simp only[List.length_map];lia,_,.inl rfl,true,true,.str q.1,.tup (q.2.map D.str),?_,?_⟩;rw[vC a,List.flatMap_append,a3b,List.flatMap_singleton,a1a];lia;rw[vC a,List.flatMap_append,List.flatMap_singleton,a3c,List.map_map];rfl;rintro τ ⟨e,f,g,j,_,rfl⟩;rw[a1a,List.take_length];walk_at "dx";exact k
def Eg(p:Str×Option Str):Prop:=Tx p.1/\∀ z,p.2=some z->Tx z
def bU9{aK:List (Str×List Str)}(a:Qn aK){p:Str×Option Str}(h:p∈ears aK):Eg p:=by
 obtain⟨q,b,c⟩:=List.mem_flatMap.mp h;obtain⟨o,d,rfl⟩:=a2c.mp c;refine⟨(a.2 q b).1,λz e=>?_⟩;obtain⟨f,g,rfl⟩:=cG2 d z e;exact(a.2 f g).1
noncomputable def bI9:List (Str×List Str)->List (Str×Option Str)->Bool
 | aK,[]=>decide (aK.length=0)
 | aK,p::r=>decide (p∈ears aK)&&bI9 (wo aK p.1) r
theorem cY4:∀ (l:List (Str×List Str)),cE9 (l.map qP)=some (l.map λq=>(q.1,.tup (q.2.map D.str)))
 | []=>rfl
 | q::r=>by
   show(cE9 (r.map qP)).map _=_;rw[cY4 r];rfl
def cY5{l:List (Str×List Str)}(a:l.length < 4000)(hn:(l.map Prod.fst).Nodup){K:Res->Prop}(k:K (.own (.dic (l.map λq=>.str q.1) (l.map λq=>.tup (q.2.map D.str))))):OK1 (bR6 [.lst (l.map qP)]) K:=by
 show OK1 ((cE9 (l.map qP)).bind _) K;rw[cY4];show OK1 (if _ then _ else none) K;rw[a4i ⟨by rw[a1a];exact a,by rw[List.map_map];exact hn⟩,List.map_map,List.map_map];exact k
def cG3{l:List (Str×List Str)}(a:l.length < 4000)(hn:(l.map Prod.fst).Nodup){K:Res->Prop}(k:K (.own (.dic (l.map λq=>.str q.1) (l.map λq=>.tup (q.2.map D.str))))):OK1 (bR6 [qD l]) K:=by
 show OK1 ((cE9 (l.map qP)).bind _) K;rw[cY4];show OK1 (if _ then _ else none) K;rw[a4i ⟨by rw[a1a];exact a,by rw[List.map_map];exact hn⟩,List.map_map,List.map_map];exact k
noncomputable def iN(l:List (Str×List Str))(z:Str):List Str:=((l.find? λq=>decide (q.1=z)).map Prod.snd).getD []
theorem cO9{z:Str}:∀ {l:List (Str×List Str)},(∃ q∈l,q.1=z)->aW6 (l.map λq=>.str q.1) (l.map λq=>.tup (q.2.map D.str)) z=some (.tup ((iN l z).map D.str))
 | [],⟨q,h,_⟩=>nomatch h
 | p::r,⟨q,h,e⟩=>by
   show(if p.1=z then some (D.tup (p.2.map D.str))else aW6 (r.map λq=>.str q.1) (r.map λq=>.tup (q.2.map D.str)) z)=_;by_cases a:p.1=z;rw[a4i a];unfold iN;rw[List.find?_cons_of_pos (by simpa using a)];rfl
   ·rw[a4j a,cO9 ⟨q,by
     rcases a2b.mp h with rfl | h;exact absurd e a;exact h,e⟩]
    unfold iN;rw[List.find?_cons_of_neg (by simpa using a)]
def dM4{l:List (Str×List Str)}{z:Str}(h:∃ q∈l,q.1=z){K:Res->Prop}(k:K (.val (.tup ((iN l z).map D.str)))):OK1 (dL1 (.dic (l.map λq=>.str q.1) (l.map λq=>.tup (q.2.map D.str))) (.str z)) K:=by
 show OK1 ((aW6 _ _ z).map Res.val) K;rw[cO9 h];exact k
def aD2{l:List (Str×List Str)}{z:Str}(h:∃ q∈l,q.1=z):∃ q∈l,q.1=z/\q.2=iN l z:=by
 unfold iN;cases e:l.find? λq=>decide (q.1=z)with
 | none=>
   obtain⟨q,a,b⟩:=h;have:=List.find?_eq_none.mp e q a;exact absurd b (by simpa using this)
 | some q=>exact⟨q,List.mem_of_find?_eq_some e,by simpa using List.find?_some e,rfl⟩
noncomputable def wnt(cs:List Str)(o:List (Str×List Str)):List Str:=cs.filter λc=>!(o.filter λq=>decide (c∈q.2)).isEmpty
noncomputable def gZ(aK:List (Str×List Str))(z:Str):List Str:=((wo aK z).filter λo=>(wnt (iN aK z) (wo aK z)).all λc=>decide (c∈o.2)).map Prod.fst
def pH{aK:List (Str×List Str)}{z:Str}{m:Md}{t:D}(hm:(m=.par/\t=.lst (aK.map qP))\/(m=.lent/\t=.lst (aK.map qP))\/(m=.val/\t=qD aK))(a:Qn aK)(hn:(aK.map Prod.fst).Nodup)(g:∃ q∈aK,q.1=z){K:Res->List Sl->Prop}
  (k:K (.own (.lst ((gZ aK z).map D.str))) [⟨m,t⟩,⟨.val,.str z⟩]):CK cJ [⟨m,t⟩,⟨.val,.str z⟩] K:=by
 have sl:1000<=sizeLine:=by decide
 have i:As z:=by obtain⟨q,v,rfl⟩:=g;exact(a.2 q v).1.2
 obtain⟨u,b,w,e⟩:=aD2 g;have f:∀ c∈iN aK z,As c:=λc j=>((a.2 u b).2.2 c (e ▸ j)).2;have l:(iN aK z).length<=100:=e ▸ (a.2 u b).2.1;have p:=a.wo z;have A:=p.1;have r:∀ c∈wnt (iN aK z) (wo aK z),As c:=λc h=>f c (List.mem_filter.mp h).1;have B:(wnt (iN aK z) (wo aK z)).length<=100:=a4c (List.length_filter_le _ _) l;unfold cJ;rw[eC];show RS fE [_,_,none,none,none,none,none,none] _;unfold fE;have C:=a.1;rcases hm with⟨rfl,rfl⟩ | ⟨rfl,rfl⟩ | ⟨rfl,rfl⟩
 all_goals
  walk_at "dx"
  first | refine cY5 (by lia) hn ?_ | refine cG3 (by lia) hn ?_
  walk_at "dx";refine dM4 g ?_;walk_at "dx";refine⟨by rw[a1a];lia,bB (λq=>!decide (q.1=z)) qP qP aK [_,_,_,none,none,none,none,none] rfl (λq h=>?_) ?_⟩;walk_at "dx";refine vQ (a.2 q h).1.2 i ?_;walk_at "dx";exact sl2;walk_at "dx";refine⟨by rw[a1a];lia,bB (λc=>!((wo aK z).filter λq=>decide (c∈q.2)).isEmpty) D.str D.str (iN aK z) [_,_,_,some ⟨.own,.lst ((wo aK z).map qP)⟩,none,none,none,none] rfl (λc j=>?_) ?_⟩
  ·walk_at "dx";refine⟨by rw[a1a];lia,bB (λq=>decide (c∈q.2)) (λ_=>.int 1) qP (wo aK z) [_,_,_,_,none,none,none,_] rfl (λq h=>?_) ?_⟩;walk_at "dx";refine jJ (f c j) (λx s=>((p.2 q h).2.2 x s).2) ?_;walk_at "dx";walk_at "dx";refine⟨a5c _,aC4 (n:=0) (λd hd=>?_) (by decide) ?_⟩;obtain⟨_,_,rfl⟩:=a2c.mp hd;exact .int
   rw[List.isEmpty_map];walk_at "dx"
  ·walk_at "dx";refine⟨by rw[a1a];lia,bB (λo=>(wnt (iN aK z) (wo aK z)).all λc=>decide (c∈o.2)) (λo=>.str o.1) qP (wo aK z) [_,_,_,some ⟨.lent,.lst ((wo aK z).map qP)⟩,some ⟨.own,.lst ((wnt (iN aK z) (wo aK z)).map D.str)⟩,none,none,none] rfl (λq h=>?_) ?_⟩
   ·walk_at "dx";refine⟨by rw[a1a];lia,bU6 D.str (λc=>decide (c∈q.2)) (wnt (iN aK z) (wo aK z)) (λy E=>?_) ?_⟩
    ·walk_at "dx";refine jJ (r y E) (λx s=>((p.2 q h).2.2 x s).2) ?_;walk_at "dx"
     try rfl
    ·walk_at "dx";rw[aC7]
   ·walk_at "dx";unfold gZ at k;rw[List.map_map]at k;exact k
noncomputable def cG4(aK:List (Str×List Str))(z:Str):Bool:=decide (z∈aK.map Prod.fst)
def uD{aK:List (Str×List Str)}{z:Str}:cG4 aK z=true↔∃ q∈aK,q.1=z:=by
 unfold cG4;rw[a4m,a2c]
noncomputable def uE(aK:List (Str×List Str))(p:Str×Option Str):Bool:=cG4 aK p.1&&(!(decide (aK.length=1)&&p.2.isSome) && !(decide (1 < aK.length) && !decide (p.2∈(gZ aK p.1).map some)))
noncomputable def zP:List (Str×List Str)->List (Str×Option Str)->Bool
 | aK,[]=>aK.isEmpty
 | aK,p::r=>uE aK p&&zP (wo aK p.1) r
def bD2(aK:List (Str×List Str))(z:Str):((wo aK z).map Prod.fst).Sublist (aK.map Prod.fst):=(List.filter_sublist).map _
def dU1{n:Nat}{a:List Str}(h:∀ z∈a,As z):∀ d∈(a.map some).map oD,Ok n d:=λd hd=>by
 obtain⟨x,b,rfl⟩:=a2c.mp hd;obtain⟨z,c,rfl⟩:=a2c.mp b;exact .str (h z c)
def dU2{n:Nat}{h:Option Str}(a:∀ z,h=some z->Tx z):Ok n (oD h):=by
 cases h with
 | none=>exact .non
 | some z=>exact .str (a z rfl).2
def isN(h:Option Str):isD true (oD h) .non=some (.val (.bl h.isSome)):=by
 cases h with
 | none=>unfold isD;simp
 | some z=>unfold isD;simp
def bD3{aK:List (Str×List Str)}{z:Str}(a:Qn aK):∀ x∈gZ aK z,Tx x:=λx b=>by
 obtain⟨q,c,rfl⟩:=a2c.mp b;exact(a.2 q (aC9 (List.mem_filter.mp c).1).1).1
def bV0{aK:List (Str×List Str)}{z:Str}:(gZ aK z).length<=aK.length:=by
 unfold gZ;rw[a1a];exact a4c (List.length_filter_le _ _) (List.length_filter_le _ _)
def bV1{aK:List (Str×List Str)}{z:Str}{a s1 s2 b:Option Sl}(c:Qn aK)(d:As z){K:List D×Sg->Prop}(k:K ((wo aK z).map qP,[a,s1,s2,some ⟨.val,.str z⟩,b,none])) :
  OK1 (aO4 [5] (dgN 5) (eK (aY (eqD true) (aY ixD (aH 5) (dC (.int 0))) (aH 3))) (dFz (aH 5)) (aK.map qP) [a,s1,s2,some ⟨.val,.str z⟩,b,none]) K:=by
 refine bB (λq:Str×List Str=>!decide (q.1=z)) qP qP aK [a,s1,s2,some ⟨.val,.str z⟩,b,none] rfl (λq h=>?_) k;walk_at "dx";refine vQ (c.2 q h).1.2 d ?_;walk_at "dx"
def cY6{z:Str}{r:List (Str×List Str)}(h:∀ q∈r,q.1≠z):wo r z=r:=List.filter_eq_self.mpr λq a=>by simpa using h q a
theorem yH{z:Str}:∀ {aK:List (Str×List Str)},(aK.map Prod.fst).Nodup->(∃ q∈aK,q.1=z)->(wo aK z).length+1=aK.length
 | [],_,⟨q,h,_⟩=>nomatch h
 | p::r,hn,⟨q,h,e⟩=>by
   rw[a8e,a7e]at hn;by_cases a:p.1=z;have:wo (p::r) z=wo r z:=List.filter_cons_of_neg (by simpa using a);rw[this,cY6 λq b c=>hn.1 (by rw[a,← c];exact List.mem_map_of_mem b),a8f]
   ·have:wo (p::r) z=p::wo r z:=List.filter_cons_of_pos (by simpa using a);rw[this,a8f,a8f,yH hn.2 ⟨q,by
     rcases a2b.mp h with rfl | h;exact absurd e a
     ·exact h,e⟩]
def cY7(cs:List Str)(o:List (Str×List Str)):shr cs o=wnt cs o:=by
 unfold shr wnt;congr 1;funext c;rw[a9d,a4m,kW];simp only[Bool.not_eq_true',← Bool.not_eq_true,List.isEmpty_iff,List.filter_eq_nil_iff,decide_eq_true_eq];constructor;rintro⟨q,a,b⟩ h;exact h q a b;intro h;exact a4d λn=>h λq a b=>n ⟨q,a,b⟩
def cP0{aK:List (Str×List Str)}(hn:(aK.map Prod.fst).Nodup){p q:Str×List Str}(d:p∈aK)(g:q∈aK)(e:p.1=q.1):p=q:=by
 induction aK with
 | nil=>cases d
 | cons a r h=>
   rw[a8e,a7e]at hn;rcases a2b.mp d with rfl | c;rcases a2b.mp g with rfl | b;rfl;exact absurd (List.mem_map_of_mem (f:=Prod.fst) b) (e ▸ hn.1);rcases a2b.mp g with rfl | b;exact absurd (List.mem_map_of_mem (f:=Prod.fst) c) (e ▸ hn.1);exact h hn.2 c b
def bV2{aK:List (Str×List Str)}(hn:(aK.map Prod.fst).Nodup)(p:Str×Option Str):decide (p∈ears aK)=uE aK p:=by
 obtain⟨z,h⟩:=p;by_cases b:∃ q∈aK,q.1=z
 ·obtain⟨j,k,c,l⟩:=aD2 b;have o:=yH hn b;have d:cG4 aK z=true:=uD.mpr b;have e:(z,h)∈ears aK↔h∈aQ1 aK z (iN aK z):=by
   unfold ears;rw[List.mem_flatMap];constructor
   ·rintro⟨q,f,i⟩;obtain⟨h',m,a⟩:=a2c.mp i;injection a with a n
    subst n;have:q=j:=cP0 hn f k (a.trans c.symm);rw[← l,← this,← a];exact m
   ·intro g;exact⟨j,k,a2c.mpr ⟨h,by rw[c,l];exact g,by rw[c]⟩⟩
  rw[a9d,a4m,e];unfold uE aQ1;rw[d];by_cases h0:(wo aK z).length=0;rw[a4i h0,a4n (by lia:aK.length=1),a4k (by lia:¬ 1 < aK.length)];cases h<;>simp;rw[a4j h0,a4k (by lia:¬ aK.length=1),a4n (by lia:1 < aK.length),cY7];unfold gZ;rw[List.map_map];simp[Function.comp_def]
 ·have d:cG4 aK z=false:=Bool.eq_false_iff.mpr λz=>b (uD.mp z);unfold uE;rw[d,Bool.false_and];refine a4k λg=>b ?_;obtain⟨q,f,i⟩:=List.mem_flatMap.mp g;obtain⟨h',_,a⟩:=a2c.mp i;injection a with a _
  exact⟨q,f,a⟩
theorem bV3:∀ {es:List (Str×Option Str)} {aK:List (Str×List Str)},(aK.map Prod.fst).Nodup->bI9 aK es=zP aK es
 | [],aK,_=>by
   show decide (aK.length=0)=aK.isEmpty;rw[a9d,a4m,List.length_eq_zero_iff,List.isEmpty_iff]
 | p::r,aK,hn=>by
   show(decide (p∈ears aK)&&bI9 (wo aK p.1) r)=(uE aK p&&zP (wo aK p.1) r);rw[bV2 hn,bV3 (es:=r) (hn.sublist (bD2 aK p.1))]
theorem yI{P:Int->Prop}:∀ {ys:List D},(∀ y∈ys,∃ n,P n/\y=.int n)->∃ l:List Int,ys=l.map D.int/\l.length=ys.length/\∀ n∈l,P n
 | [],_=>⟨[],rfl,rfl,λ_ h=>absurd h List.not_mem_nil⟩
 | y::r,h=>by
   obtain⟨n,hn,rfl⟩:=h y a3a;obtain⟨l,rfl,d,b⟩:=yI λy c=>h y (a6a _ c);exact⟨n::l,rfl,by simp,λx a=>by
    rcases a2b.mp a with rfl | a;exact hn
    ·exact b x a⟩
def cY8{n:Nat}{y:D}(h:y∈xF 0 n):∃ i:Int,(0<=i/\i < n)/\y=.int i:=by
 obtain⟨j,a⟩:=List.mem_iff_getElem?.mp h;obtain⟨c,b⟩:=wP a;exact⟨0+j,by lia,b⟩
def dM5{n:Nat}(h:0 < n):xF 0 n≠[]:=λz=>by have:=a4q List.length z;rw[cA]at this;simp at this;lia
def okI{n:Nat}{l:List Int}:∀ d∈l.map D.int,Ok n d:=λd hd=>by
 obtain⟨i,_,rfl⟩:=a2c.mp hd;exact .int
def cY9{n:Nat}{k:Int}(h0:0<=k)(a:k < n):ixN n k=some k.toNat:=by
 unfold ixN;rw[a4i h0,a4i (by lia)]
def cG5:∀ l:List Int,(l.take 1).Nodup
 | []=>.nil
 | [a]=>by simp
 | a::b::r=>by simp
def bV4{l:List Int}(h:(l.map D.int).Nodup):l.Nodup:=(List.pairwise_map.mp h).imp λ{a b} q e=>q (by rw[e])
def cP1{l:List Int}(h:l.Nodup):(l.map D.int).Nodup:=List.pairwise_map.mpr (h.imp λ{a b} q e=>q (by injection e))
def dM6(lo:Int)(n:Nat):(xF lo n).Nodup:=by
 unfold xF;exact List.pairwise_map.mpr (List.nodup_range.imp λ{a b} q e=>q (by injection e with e;lia))
def dM7{a b m:Int}(o:1<=m)(p:m<=6){K:Res->List Sl->Prop}(k:∀ (l:List Int) c d,l≠[]->l.length<=4->((∀ n∈l,0<=n/\n < m)/\l.Nodup)->K (.own (.lst (l.map D.int))) [⟨.par,.lst [.int c,.int d]⟩,⟨.par,.lst (xF 0 m.toNat)⟩]) :
  CK cD [⟨.par,.lst [.int a,.int b]⟩,⟨.par,.lst (xF 0 m.toNat)⟩] K:=by
 refine aX1 (.inl ⟨rfl,rfl⟩) (dM5 (by lia)) (by rw[cA];lia) λys c d e q f g=>?_;obtain⟨l,rfl,r,h⟩:=yI (P:=λn=>0<=n/\n < m) λy j=>by
  obtain⟨i,hi,rfl⟩:=cY8 (f y j);exact⟨i,by lia,rfl⟩
 exact k l c d (λz=>e (by rw[z];rfl)) (by lia) ⟨h,bV4 (g (dM6 _ _))⟩
noncomputable def cZ0:DS:=bW (jM (nH "list" 3 aT2 (aE (dFz (dSl (aH 6) aH0 (dP (dC (.int 4))))) aV)))
 (jM (zH "list" 4 bZ6 (aE (cG [8] (dIt (aY ixD (aH 3) (bP3 dB3 (dC (.int 1))))) (dgN 8) (eK (aY (inD true) (aH 8) (aH 4))) (dFz (aH 8))) aV)))
noncomputable abbrev plS(a b m c:Int)(ls:List (List Int))(us:List Int)(d e f:Option Sl):Sg:=[some ⟨.par,.lst [.int a,.int b]⟩,some ⟨.val,.int m⟩,some ⟨.val,.int c⟩,some ⟨.own,aP8 ls⟩,some ⟨.own,.lst (us.map D.int)⟩,d,e,f,none]
structure PlI(m:Int)(ls:List (List Int))(us:List Int):Prop where
 le:∀ l∈ls,l≠[]/\l.length<=4/\(∀ n∈l,0<=n/\n < m)/\l.Nodup/\∀ n∈l,n∈us
 un:us≠[]
 ul:us.length<=4*ls.length
 um:∀ n∈us,0<=n/\n < m
def bV5{α:Type}(l:List α)(x:α):atI (l++[x]) (-1)=some x:=by
 unfold atI ixN;rw[a4j (by decide),a4i (by rw[a3b,List.length_singleton];lia)];show(l++[x])[(-1+((l++[x]).length:Int)).toNat]? = _;rw[show(-1+((l++[x]).length:Int)).toNat=l.length by rw[a3b,List.length_singleton];lia,a1g (a8a _),Nat.sub_self];rfl
def dM8{a b m c:Int}{ls:List (List Int)}{us l:List Int}{f g:Option Sl}(e:PlI m ls us)(B:ls.length<=6)(j:l≠[])(hm:(∀ n∈l,0<=n/\n < m)/\l.Nodup){Q:Out->Prop}
  (k:∀ d,PlI m (ls++[l.take 4]) d->Q (.nx (plS a b m c (ls++[l.take 4]) d f (some ⟨.own,.lst (l.map D.int)⟩) g))):RS cZ0 (plS a b m c ls us f (some ⟨.own,.lst (l.map D.int)⟩) g) Q:=by
 have sl:10000<=sizeLine:=by decide
 have o:=e.ul;have p:(l.take 4).length<=4:=by rw[a8d];lia
 have q:aL0 (l.map D.int) none (some 4)=(l.take 4).map D.int:=by rw[aC5 _ (by decide),a3i];rfl
 have r:ls.map (λl=>D.lst (l.map D.int))++[D.lst ((l.take 4).map D.int)]=(ls++[l.take 4]).map (λl=>D.lst (l.map D.int)):=by rw[a3c];rfl
 unfold cZ0 plS aP8;walk_at "dx";rw[q];refine⟨by rw[a1a];lia,?_⟩;rw[bV5];walk_at "dx";refine⟨by rw[a1a];lia,bB (λn=>!decide (n∈us)) D.int D.int (l.take 4) [_,_,_,_,_,_,_,_,none] rfl (λn hn=>?_) ?_⟩;walk_at "dx";refine pF (n:=0) (m:=0) .int okI (by decide) (by decide) ?_;rw[nZ D.int λx y h=>by injection h];walk_at "dx";walk_at "dx";have C:=List.length_filter_le (λn=>!decide (n∈us)) (l.take 4);refine⟨by rw[a1a,a1a];lia,?_⟩;rw[r,← a3c];refine k _ ⟨λx s=>?_,λz=>e.un (List.append_eq_nil_iff.mp z).1,by rw[a3b,a3b,List.length_singleton];lia,λn hn=>?_⟩
 ·rcases a5b.mp s with h | h;obtain⟨t,u,v,w,A⟩:=e.le x h;exact⟨t,u,v,w,λn hn=>a6d _ (A n hn)⟩;rw[a9a.mp h];refine⟨λz=>?_,p,λn hn=>hm.1 n (a3e hn),hm.2.sublist (List.take_sublist _ _),λn hn=>?_⟩
  rotate_left
  ·by_cases i:n∈us;exact a6d _ i;exact a1c _ (List.mem_filter.mpr ⟨hn,by simp[i]⟩)
  rw[List.take_eq_nil_iff]at z;rcases z with z | z;lia;exact j z
 ·rcases a5b.mp hn with h | h;exact e.um n h;exact hm.1 n (a3e (List.mem_filter.mp h).1)
def cG6{a b:Int}{K:Res->List Sl->Prop}(k:∀ ls g r,dP8 ls->K (.own (aP8 ls)) [⟨.par,.lst [.int g,.int r]⟩]):CK cN [⟨.par,.lst [.int a,.int b]⟩] K:=by
 have sl:10000<=sizeLine:=by decide
 unfold cN;rw[eC];show RS dU [_,none,none,none,none,none,none,none,none] _;rw[show dU=bW (dA 1 (aY jK (dC (.int 1)) (bH 2 aJ (aE (aH 0) (aE (dC (.int 6)) aV)))))
  (bW (dA 2 (aY jK (dC (.int 1)) (bH 2 aJ (aE (aH 0) (aE (dC (.int 6)) aV)))))
  (bW (pI (eK (aY (eqD false) (bH 2 aJ (aE (aH 0) (aE (dC (.int 3)) aV))) (dC (.int 0)))) (iA (cG [5] (zI (aE (aH 2) aV)) (dgN 5) iC (dFz (bH 2 cD (aE (aH 0) (aE (dCB aW2 (aE (aH 1) aV)) aV)))))) gL)
  (bW (dA 3 (nO (aE (dFz (bH 2 cD (aE (aH 0) (aE (dCB aW2 (aE (aH 1) aV)) aV)))) aV)))
  (bW (dA 4 (dCB aH2 (aE (aY ixD (aH 3) (dC (.int 0))) aV)))
  (bW (xG (zI (aE (aY dJ1 (aH 2) (dC (.int 1))) aV)) (dgN 5)
  (bW (dA 6 (bH 2 cD (aE (aH 0) (aE (aY ixD (aH 3) (bH 2 aJ (aE (aH 0) (aE (dCB uQ (aE (aH 3) aV)) aV)))) aV))))
  (bW (dA 7 (cG [8] (zI (aE (aH 1) aV)) (dgN 8) (eK (aY (inD true) (aH 8) (aH 4))) (dFz (aH 8))))
  (bW (dA 6 (aY jK (dSl (aH 6) aH0 (dP (bH 2 aJ (aE (aH 0) (aE (aY jK (dCB uQ (aE (aH 6) aV)) (dC (.int 1))) aV))))) (dSl (aH 7) aH0 (dP (bH 2 aJ (aE (aH 0) (aE (dC (.int 3)) aV)))))))
  (bW (pI (eK (aY (eqD false) (aH 6) (nO aV))) (dA 6 (dSl (aH 4) aH0 (dP (dC (.int 1))))) gL) cZ0)))))
  (iA (aH 3)))))))from rfl]
 walk_at "dx";refine dO (by decide) (by decide) λm0 a1 b1 m00 m01=>?_;walk_at "dx";refine dO (by decide) (by decide) λc0 a2 b2 c00 c01=>?_;walk_at "dx";refine dO (by decide) (by decide) λw a3 b3 w0 w1=>?_;walk_at "dx";generalize hm:1+m0=m;generalize hc:1+c0=c;split
 ·refine⟨by lia,by rw[cA];lia,kL _ _ (λi acc τ=>∃ (ls:List (List Int)) (g r:Int),acc=ls.map (λl=>.lst (l.map D.int))/\ls.length=i/\(∀ l∈ls,l.length<=6/\(∀ n∈l,0<=n/\n < 6)/\l.Nodup/\l≠[])/\τ=[some ⟨.par,.lst [.int g,.int r]⟩,some ⟨.val,.int m⟩,some ⟨.val,.int c⟩,none,none,none,none,none,none]) ⟨[],a3,b3,rfl,rfl,λ_ h=>absurd h List.not_mem_nil,rfl⟩ ?_ ?_⟩;rintro i d acc τ hd ⟨ls,g,r,rfl,s,f,rfl⟩;walk_at "dx";refine⟨by lia,dM7 (by lia) (by lia) λl H I B G u=>?_⟩;walk_at "dx";refine⟨_,rfl,ls++[l],H,I,by rw[a3c];rfl,by rw[a3b,s];rfl,λx C=>?_,rfl⟩;rcases a5b.mp C with h | h;exact f x h;rw[a9a.mp h];exact⟨by lia,λn hn=>by have:=u.1 n hn;lia,u.2,B⟩;rintro acc τ ⟨ls,g,r,rfl,s,f,rfl⟩;rw[cA]at s;walk_at "dx";exact k ls g r ⟨by lia,by lia,f⟩
 ·refine⟨by lia,dM7 (by lia) (by lia) λl H I B G u=>?_⟩;walk_at "dx";refine⟨by lia,by lia,jD (λi τ=>∃ g r ls us J L M N,ls.length=i+1/\PlI m ls us/\τ=plS g r m c ls us (ov J L) (fo M) (fo N)) ⟨H,I,[l],l,false,.non,none,none,rfl,⟨λx C=>by rw[a9a.mp C];exact⟨B,G,u.1,u.2,λ_ h=>h⟩,B,by simpa using G,u.1⟩,rfl⟩ ?_ ?_⟩
  ·rintro i d τ hd ⟨g,r,ls,us,J,L,M,N,f,t,rfl⟩;obtain⟨hi,rfl⟩:=wP hd;have lsl:(ls.map λl=>D.lst (l.map D.int)).length=ls.length:=a1a _;unfold plS aP8;walk_at "dx";refine dO (by lia) (by lia) λj a5 b5 j0 O=>?_;obtain⟨l,el,s⟩:=bU3 (λl:List Int=>D.lst (l.map D.int)) (l:=ls) (i:=j) j0 (by lia);obtain⟨B,G,u,Q,R⟩:=t.le l s;walk_at "dx";rw[el];walk_at "dx";refine aX1 (.inr (.inl ⟨rfl,rfl⟩)) (λz=>B (List.map_eq_nil_iff.mp z)) (by rw[a1a];lia) λys a6 b6 y0 y4 ym yn=>?_;obtain⟨o,rfl,ho,E⟩:=yI (P:=λn=>(0<=n/\n < m)/\n∈us) (ys:=ys) λy hy=>by
    obtain⟨n,hn,rfl⟩:=a2c.mp (ym y hy);exact⟨n,⟨u n hn,R n hn⟩,rfl⟩
   have S:o.Nodup:=bV4 (yn (cP1 Q));walk_at "dx";refine⟨by lia,by rw[cA];lia,bB (λn:Nat=>!decide ((0+(n:Int))∈us)) (λn=>.int (0+(n:Int))) (λn=>.int (0+(n:Int))) (List.range m.toNat) [_,_,_,_,_,_,_,_,none] rfl (λn hn=>?_) ?_⟩;walk_at "dx";refine pF (n:=0) (m:=0) .int okI (by decide) (by decide) ?_;rw[nZ D.int λx y h=>by injection h];walk_at "dx"
   obtain⟨fs,ef,hf1,F,T⟩:∃ fs:List Int,((List.range m.toNat).filter λn:Nat=>!decide ((0+(n:Int))∈us)).map (λn:Nat=>D.int (0+(n:Int)))=fs.map D.int/\fs.length<=6/\(∀ n∈fs,(0<=n/\n < m)/\n∉us)/\fs.Nodup:=by
    refine⟨((List.range m.toNat).filter λn:Nat=>!decide ((0+(n:Int))∈us)).map λn:Nat=>0+(n:Int),by rw[List.map_map];rfl,?_,λn hn=>?_,List.pairwise_map.mpr ((List.nodup_range.sublist List.filter_sublist).imp λ{a b} q e=>q (by lia))⟩;rw[a1a];have:=List.length_filter_le (λn:Nat=>!decide ((0+(n:Int))∈us)) (List.range m.toNat);rw[a1f]at this;lia;obtain⟨x,C,rfl⟩:=a2c.mp hn;have h1:=a9c.mp (List.mem_filter.mp C).1;have h2:=(List.mem_filter.mp C).2;exact⟨by lia,by simpa using h2⟩
   walk_at "dx";rw[ef];have lo:(o.map D.int).length<=4:=y4;refine dO (by lia) (by lia) λO a7 b7 U j11=>?_;walk_at "dx";refine dO (by decide) (by decide) λY Z b8 V j21=>?_;walk_at "dx";obtain⟨p,ep,hp1,W⟩:∃ p:List Int,aL0 (o.map D.int) none (some O)++aL0 (fs.map D.int) none (some Y)=p.map D.int/\p.length<=10/\(∀ n∈p,0<=n/\n < m)/\p.Nodup:=by
    refine⟨o.take O.toNat++fs.take Y.toNat,by rw[aC5 _ U,aC5 _ V,a3c,a3i,a3i],?_,λn hn=>?_,List.nodup_append.mpr ⟨S.sublist (List.take_sublist _ _),T.sublist (List.take_sublist _ _),λa ha b hb e=>(F b (a3e hb)).2 (by rw[← e];exact(E a (a3e ha)).2)⟩⟩;rw[a3b,a8d,a8d];rw[a1a]at lo;lia;rcases a5b.mp hn with h | h;exact(E n (a3e h)).1;exact(F n (a3e h)).1
   have X:=a4q List.length ep;rw[a3b,a1a]at X;rw[ep];refine⟨by lia,a5c _,aC4 (n:=0) okI (by decide) ?_⟩;rw[List.isEmpty_map];walk_at "dx";split
   ·have e1:aL0 (us.map D.int) none (some 1)=(us.take 1).map D.int:=by rw[aC5 _ (by decide),a3i];rfl
    rw[e1];refine dM8 t (by lia) (λz=>?_) ⟨λn hn=>t.um n (a3e hn),cG5 us⟩ λv A=>?_;rw[List.take_eq_nil_iff]at z;rcases z with z | z;lia;exact t.un z;exact⟨_,.inl rfl,Z,b8,_,v,true,_,some (true,_),some (true,_),by rw[a3b,f];rfl,A,rfl⟩
   ·rename_i h0;refine dM8 t (by lia) (λz=>h0 (by rw[z];rfl)) W λv A=>?_;exact⟨_,.inl rfl,Z,b8,_,v,true,_,some (true,_),some (true,_),by rw[a3b,f];rfl,A,rfl⟩
  ·rintro τ ⟨g,r,ls,us,J,L,M,N,f,t,rfl⟩;rw[cA]at f;unfold plS;walk_at "dx";exact k ls g r ⟨by lia,by lia,λl s=>⟨by have:=(t.le l s).2.1;lia,λn hn=>by have:=(t.le l s).2.2.1 n hn;lia,(t.le l s).2.2.2.1,(t.le l s).1⟩⟩
def bV6{as:List Sl}{K:Res->List Sl->Prop}{o:Out}(h:bZ7 as K o):dX4 as K o:=by
 cases o with
 | nx σ=>exact h
 | rt r σ=>exact iE.mp h
 | bk σ=>exact h
 | ct σ=>exact h
 | ex c f σ=>exact h
noncomputable def cZ1:DS:=bW (dA 5 (nO aV))
 (bW (xG (bR2 (bH 2 bC (aE (aH 0) (aE (aH 2) aV)))) (nJ 2 (cL (dgN 6) (cL (dgN 7) lH)))
 (jM (nH "list" 5 aT2 (aE (bG9 (aE (aY ixD (aH 4) (aH 6)) (aE (dCB bK4 (aE (cG [8] (dIt (bH 2 bC (aE (aH 0) (aE (aH 7) aV)))) (dgN 8) iC (aY ixD (aH 3) (aH 8))) aV)) aV))) aV))))
 (iA (dCB bK4 (aE (aH 5) aV))))
noncomputable def cZ2:DS:=bW (dA 3 (bH 2 bC (aE (aH 0) (aE (bH 2 dL (aE (aH 0) (aE (dC (.int 6)) aV))) aV))))
 (bW (dA 4 (dFz (aH 3)))
 (bW (pI (eK (aY gtI (bH 2 aJ (aE (aH 0) (aE (dC (.int 4)) aV))) (dC (.int 0)))) (dA 4 (bH 2 dL (aE (aH 0) (aE (dC (.int 6)) aV)))) gL) cZ1))
structure Qw(qs:List (Str×List Str)):Prop where
 l1:1<=qs.length
 l6:qs.length<=6
 qn:Qn qs
 nd:(qs.map Prod.fst).Nodup
 cd:∀ q∈qs,q.2.Nodup
 ne:∀ q∈qs,q.2≠[]
 cs:∃ cs:List Str,cs.length=6/\∀ q∈qs,∀ z∈q.2,z∈cs
theorem bD4{P:List Int->Prop}:∀ {ys:List D},(∀ y∈ys,∃ l,P l/\y=.lst (l.map D.int))->∃ ls:List (List Int),ys=ls.map (λl=>.lst (l.map D.int))/\ls.length=ys.length/\∀ l∈ls,P l
 | [],_=>⟨[],rfl,rfl,λ_ h=>absurd h List.not_mem_nil⟩
 | y::r,h=>by
   obtain⟨n,hn,rfl⟩:=h y a3a;obtain⟨l,rfl,d,b⟩:=bD4 λy c=>h y (a6a _ c);exact⟨n::l,rfl,by simp,λx a=>by
    rcases a2b.mp a with rfl | a;exact hn
    ·exact b x a⟩
theorem bV7{P:Str->Prop}:∀ {ys:List D},(∀ y∈ys,∃ z,P z/\y=.str z)->∃ l:List Str,ys=l.map D.str/\∀ z∈l,P z
 | [],_=>⟨[],rfl,by simp⟩
 | y::r,h=>by
   obtain⟨z,b,rfl⟩:=h y a3a;obtain⟨l,rfl,c⟩:=bV7 λy d=>h y (a6a _ d);exact⟨z::l,rfl,λx a=>by
    rcases a2b.mp a with rfl | a;exact b
    ·exact c x a⟩
def bV8{cs:List Str}{n:Int}(h0:0<=n)(a:n < (cs.length:Int)):∃ c,atI (cs.map D.str) n=some (.str c)/\c∈cs/\cs.getD n.toNat default=c:=by
 have hn:n.toNat < cs.length:=by lia
 refine⟨cs[n.toNat],?_,a6b hn,by rw[a5a,a0a hn];rfl⟩;unfold atI;rw[cY9 h0 (by rw[a1a];exact a)];show(cs.map D.str)[n.toNat]? = _;rw[a8b,a0a hn];rfl
def dM9{a b a0 b0 w:Int}{ls:List (List Int)}{cs o:List Str}{m:Md}(hm:m=.val\/m=.own)(hs:dP8 ls)(L:cs.Nodup)(hc:cs.length=6)(M:∀ z∈cs,Tx z)(ht:o.length=6)(N:∀ z∈o,Tx z)(O:o.Nodup){K:Res->List Sl->Prop}
  (k:∀ qs x A,Qw qs->K (.val (qD qs)) [⟨.par,.lst [.int x,.int A]⟩]) :
  RS cZ1 [some ⟨.par,.lst [.int a,.int b]⟩,some ⟨.val,.int w⟩,some ⟨.own,aP8 ls⟩,some ⟨.val,.lst (cs.map D.str)⟩,some ⟨m,.lst (o.map D.str)⟩,none,none,none,none] (bZ7 [⟨.par,.lst [.int a0,.int b0]⟩] K):=by
 have sl:10000<=sizeLine:=by decide
 obtain⟨s1,s6,sm⟩:=hs;unfold cZ1 aP8;rcases hm with rfl | rfl
 all_goals
  walk_at "dx";refine⟨a5c _,by decide,xW (xs:=ls.map λl=>D.lst (l.map D.int)) (.inl ⟨rfl,rfl⟩) (by rw[a1a];lia) λys a1 b1 hp=>?_⟩;obtain⟨Q,rfl,hml,R⟩:=bD4 (P:=λl=>l.length<=6/\(∀ n∈l,0<=n/\n < 6)/\l.Nodup/\l≠[]) (ys:=ys) λy B=>by
   obtain⟨l,hl,rfl⟩:=a2c.mp (hp.mem_iff.mp B);exact⟨l,sm l hl,rfl⟩
  have S:=hp.length_eq;rw[a1a,a1a]at S;walk_at "dx";refine jD (λi τ=>i<=6/\∃ x A T d6 U V,∃ qs:List (Str×List Str),qs.map Prod.fst=o.take i/\(∀ q∈qs,q.2.length<=6/\(∀ z∈q.2,Tx z/\z∈cs)/\q.2.Nodup/\q.2≠[])/\τ=[some ⟨.par,.lst [.int x,.int A]⟩,_,_,_,_,some ⟨.own,.lst (qs.map qP)⟩,ov T d6,ov U V,none]) ⟨by lia,a1,b1,false,.non,false,.non,[],rfl,λ_ h=>absurd h List.not_mem_nil,rfl⟩ ?_ ?_
  ·rintro i d τ hd ⟨hi6,x,A,T,d6,U,V,qs,f,g,rfl⟩;obtain⟨y,B,rfl⟩:=kK hd;obtain⟨l,C,rfl⟩:=iL B;have him:i < Q.length:=(a2a.mp C).1;obtain⟨hl6',W,E,F⟩:=R l (a7b C);have X:qs.length=i:=by
    have:=a4q List.length f;rw[a1a,a8d]at this;lia
   have G:o[i]? = some o[i]:=a0a (by lia);have H:atI (o.map D.str) (((0+i:Nat):Int))=some (.str o[i]):=by
    unfold atI;rw[cY9 (by lia) (by rw[a1a];lia)];show(o.map D.str)[((0+i:Nat):Int).toNat]? = _;rw[a8h,a0g,a8b,G];rfl
   walk_at "dx";simp only[Nat.zero_add]at H ⊢;rw[H];walk_at "dx";refine xW (xs:=l.map D.int) (.inr (.inl ⟨rfl,rfl⟩)) (by rw[a1a];lia) λzs a2 b2 s=>?_;obtain⟨js,rfl,hjl,t⟩:=yI (P:=λn=>0<=n/\n < 6) (ys:=zs) λy B=>by
    obtain⟨n,hn,rfl⟩:=a2c.mp (s.mem_iff.mp B);exact⟨n,W n hn,rfl⟩
   have Y:=s.length_eq;rw[a1a,a1a]at Y;walk_at "dx";refine⟨by rw[a1a];lia,kL _ _ (λj acc τ=>∃ us:List Str,acc=us.map D.str/\us.length=j/\(∀ z∈us,Tx z/\z∈cs)/\us=(js.take j).map (λn=>cs.getD n.toNat default)/\τ=[some ⟨.par,.lst [.int a2,.int b2]⟩,_,_,_,_,_,_,_,none]) ⟨[],rfl,rfl,λ_ h=>absurd h List.not_mem_nil,rfl,rfl⟩ ?_ ?_⟩;rintro j d acc τ hd ⟨us,rfl,u,v,r,rfl⟩;obtain⟨n,hn,rfl⟩:=iL hd;have Z:=t n (a7b hn);obtain⟨c,ec,I,hce⟩:=bV8 (cs:=cs) (n:=n) Z.1 (by lia);walk_at "dx";rw[ec];walk_at "dx";refine⟨_,rfl,us++[c],by rw[a3c];rfl,by rw[a3b,u];rfl,λz J=>?_,by rw[r,a2f,hn,a3c,← hce];rfl⟩;rcases a5b.mp J with h | h;exact v z h;rw[a9a.mp h];exact⟨M c I,I⟩;rintro acc τ ⟨us,rfl,u,v,r,rfl⟩;rw[a1a]at u;rw[a1a,List.take_length]at r;have jnd:js.Nodup:=bV4 (s.nodup_iff.mpr (cP1 E));have und:us.Nodup:=by
    rw[r];exact List.pairwise_map.mpr (jnd.imp_of_mem λ{a b} ha hb q e=>q (by
     have h1:=t a ha;have h2:=t b hb;have i1:a.toNat < cs.length:=by lia
     have i2:b.toNat < cs.length:=by lia
     rw[a5a,a5a,a0a i1,a0a i2]at e;have e':cs[a.toNat]=cs[b.toNat]:=e;have:=(List.getElem?_inj i1 L).mp (show cs[a.toNat]? = cs[b.toNat]? by rw[a0a i1,a0a i2,e']);lia))
   walk_at "dx";refine⟨by lia,by rw[a1a];lia,_,.inl rfl,by lia,a2,b2,true,_,true,_,qs++[(o[i],us)],by rw[a3c,f,a2f,G];rfl,λq p=>?_,by rw[a3c];rfl⟩;rcases a5b.mp p with h | h;exact g q h;rw[a9a.mp h];exact⟨by show us.length<=6;lia,v,und,λz=>F (List.length_eq_zero_iff.mp (by have e:us.length=0:=(List.length_eq_zero_iff.mpr z);lia))⟩
  ·rintro τ ⟨_,x,A,T,d6,U,V,qs,f,g,rfl⟩;rw[jQ,a1a]at f;have X:qs.length=Q.length:=by
    have:=a4q List.length f;rw[a1a,a8d]at this;lia
   walk_at "dx";refine k qs x A ⟨by lia,by lia,⟨by lia,λq p=>⟨N _ ?_,by have:=(g q p).1;lia,λz J=>((g q p).2.1 z J).1⟩⟩,by rw[f];exact O.sublist (List.take_sublist _ _),λq p=>(g q p).2.2.1,λq p=>(g q p).2.2.2,cs,hc,λq p z J=>((g q p).2.1 z J).2⟩;have:q.1∈o.take Q.length:=by rw[← f];exact List.mem_map_of_mem p
   exact a3e this
def dN0{a b i j w:Int}{ls:List (List Int)}(g:dP8 ls){K:Res->List Sl->Prop}(k:∀ qs l m,Qw qs->K (.val (qD qs)) [⟨.par,.lst [.int l,.int m]⟩]) :
  RS cZ2 [some ⟨.par,.lst [.int a,.int b]⟩,some ⟨.val,.int w⟩,some ⟨.own,aP8 ls⟩,none,none,none,none,none,none] (bZ7 [⟨.par,.lst [.int i,.int j]⟩] K):=by
 unfold cZ2;walk_at "dx";refine bD1 λh x A o p q=>?_;walk_at "dx";refine xW (xs:=h.map D.str) (.inl ⟨rfl,rfl⟩) (by rw[a1a];lia) λys B C f=>?_;obtain⟨cs,rfl,d⟩:=bV7 (P:=Tx) (ys:=ys) λy r=>by
  obtain⟨z,s,rfl⟩:=a2c.mp (f.mem_iff.mp r);exact⟨z,q z s,rfl⟩
 have c:=f.length_eq;rw[a1a,a1a,o]at c;have e:cs.Nodup:=by
  have:(h.map D.str).Nodup:=List.Pairwise.map _ (λa b n z=>n (aJ3 _ _ z)) p;have:=f.nodup_iff.mpr this;exact List.Pairwise.of_map D.str (λa b n z=>n (by rw[z])) this
 walk_at "dx";refine dO (by decide) (by decide) λv E F G v1=>?_;walk_at "dx";split;refine bD1 λH I J t tn u=>?_;walk_at "dx";exact dM9 (.inr rfl) g e c d t u tn k;exact dM9 (.inl rfl) g e c d c d e k
def yJ{a b:Int}{K:Res->List Sl->Prop}(k:∀ qs c d,Qw qs->K (.val (qD qs)) [⟨.par,.lst [.int c,.int d]⟩]):dG [⟨.par,.lst [.int a,.int b]⟩] K:=by
 unfold dG dB2;refine dH _ _ _ (λo h=>bV6 h) ?_;show dW [_,none,none,none,none,none,none,none,none] _;rw[show dW=bZ8 (RS (dA 1 (bH 2 aJ (aE (aH 0) (aE (dC (.int 2)) aV))))) (bZ8 (mIf (eK (aY (eqD false) (aH 1) (dC (.int 0)))) (aP7 2 1 cRS (aE (aH 0) aV)) (RS (dA 2 (bH 1 cN (aE (aH 0) aV))))) (RS cZ2))from rfl];show RS _ _ (sqM _ _);walk_at "dx";refine dO (by decide) (by decide) λw f g i j=>?_;walk_at "dx";unfold bZ8 mIf;walk_at "dx";split;show _/\cRS _ _;exact⟨⟨rfl,rfl⟩,f,g,rfl,λls c d e=>dN0 e k⟩;refine cG6 λls c d e=>?_;walk_at "dx";exact dN0 e k
end Mr
namespace Hy
open Classical
section
variable{α:Type}{E E':List (List α)}{S S' l:List α}{v:α}
def Top(E:List (List α))(S:List α)(v:α):Prop:=∃ e∈E,∀ f∈E,v∈f->∀ x∈S,x∈f->x∈e
def El(E:List (List α)):List α->Prop
 | []=>True
 | v::b=>Top E (v::b) v/\El E b
def Acy(E:List (List α))(S:List α):Prop:=∃ l,(∀ x,x∈l↔x∈S)/\El E l
def Top.mono(h:Top E S v)(w:∀ x∈S',x∈S):Top E S' v:=by
 obtain⟨e,a,q⟩:=h;exact⟨e,a,λf b c x d=>q f b c x (w x d)⟩
theorem El.filter(p:α->Bool):∀ {l:List α},El E l->El E (l.filter p)
 | [],_=>True.intro
 | v::b,⟨t,q⟩=>by
   by_cases c:p v=true;rw[List.filter_cons_of_pos c];refine⟨t.mono λx a=>?_,q.filter p⟩;rcases a2b.mp a with e | a;rw[e];exact a3a;exact a6a _ (List.mem_filter.mp a).1;rw[List.filter_cons_of_neg c];exact q.filter p
def Acy.sub(h:Acy E S)(w:∀ x∈S',x∈S):Acy E S':=by
 obtain⟨l,m,q⟩:=h;refine⟨l.filter λx=>decide (x∈S'),λx=>?_,q.filter _⟩;rw[List.mem_filter,a4m];exact⟨λh=>h.2,λh=>⟨(m x).mpr (w x h),h⟩⟩
def Acy.cons(t:Top E S v)(c:v∈S)(h:Acy E (S.filter λx=>decide (x≠v))):Acy E S:=by
 obtain⟨l,m,q⟩:=h;have b:∀ x,x∈v::l↔x∈S:=λx=>by
  rw[a2b,m,List.mem_filter,a4m];constructor;rintro(rfl | h);exact c;exact h.1;intro a;by_cases e:x=v;exact .inl e;exact .inr ⟨a,e⟩
 exact⟨v::l,b,t.mono λx a=>(b x).mp a,q⟩
theorem El.ear{e f:List α}(c:∀ g,g∈E↔g=e\/g∈E')(k:f∈E')(m:∀ x∈e,(∃ g∈E',x∈g)->x∈f):∀ {l:List α},El E l->El E' l
 | [],_=>True.intro
 | v::b,⟨⟨t,n,q⟩,r⟩=>by
   refine⟨?_,r.ear c k m⟩;rcases(c t).mp n with rfl | h;exact⟨f,k,λg d i x j a=>m x (q g ((c g).mpr (.inr d)) i x j a) ⟨g,d,a⟩⟩;exact⟨t,h,λg d i x j a=>q g ((c g).mpr (.inr d)) i x j a⟩
theorem El.pre{e:List α}(d:e∈E){b:List α}(f:El E b):∀ {a:List α},(∀ v∈a,∀ g∈E,v∈g->g=e)->El E (a++b)
 | [],_=>f
 | v::a,h=>⟨⟨e,d,λg i c x _ j=>by rw[← h v a3a g i c];exact j⟩,f.pre d λv c=>h v (a6a _ c)⟩
theorem El.back{e f:List α}(d:∀ g,g∈E↔g=e\/g∈E')(k:f∈E')(h:∀ x∈e,(∃ g∈E',x∈g)->x∈f):∀ {l:List α},El E' l->(∀ x∈l,x∈e->∃ g∈E',x∈g)->El E l
 | [],_,_=>True.intro
 | v::b,⟨⟨t,m,q⟩,r⟩,np=>by
   refine⟨⟨t,(d t).mpr (.inr m),λg n i x c a=>?_⟩,r.back d k h λx c=>np x (a6a _ c)⟩;rcases(d g).mp n with rfl | j;exact q f k (h v i (np v a3a i)) x c (h x a (np x c a));exact q g j i x c a
def cZ3{e f:List α}(a:∀ g,g∈E↔g=e\/g∈E')(d:f∈E')(i:∀ x∈e,(∃ g∈E',x∈g)->x∈f):Acy E S↔Acy E' S:=by
 constructor;rintro⟨l,m,q⟩;exact⟨l,m,q.ear a d i⟩;rintro⟨l,m,q⟩;refine⟨l.filter (λx=>decide (x∈e/\¬ ∃ g∈E',x∈g))++l.filter (λx=>!decide (x∈e/\¬ ∃ g∈E',x∈g)),λx=>?_,?_⟩;rw[← m x,a5b,List.mem_filter,List.mem_filter];constructor;rintro(h | h)<;>exact h.1;intro h;by_cases j:x∈e/\¬ ∃ g∈E',x∈g;exact .inl ⟨h,a4n j⟩;exact .inr ⟨h,by rw[a4k j];rfl⟩;refine El.pre ((a e).mpr (.inl rfl)) (El.back a d i (q.filter _) λx k b=>?_) λv n g o c=>?_;have:=(List.mem_filter.mp k).2;by_cases h:∃ g∈E',x∈g;exact h;rw[a4n (p:=x∈e/\¬ ∃ g∈E',x∈g) ⟨b,h⟩]at this;cases this;have:=of_decide_eq_true (List.mem_filter.mp n).2;rcases(a g).mp o with h | h;exact h;exact absurd ⟨g,h,c⟩ this.2
theorem El.has_ear(s:2<=E.length):∀ {l:List α},El E l->∃ i j,i < E.length/\j < E.length/\i≠j/\∀ x∈l,x∈E[i]?.getD []->(∃ k,k≠i/\k < E.length/\x∈E[k]?.getD [])->x∈E[j]?.getD []
 | [],_=>⟨0,1,by lia,by lia,by decide,λ_ h=>nomatch h⟩
 | v::b,⟨⟨t,u,q⟩,r⟩=>by
   obtain⟨i,j,hi,w,y,h⟩:=r.has_ear s;obtain⟨n,c,rfl⟩:=a7d u;have m:∀ {k:Nat} (f:k < E.length),E[k]?.getD []=E[k]:=λf=>by rw[a0a f];rfl
   by_cases p:v∈E[i]?.getD []/\(∃ k,k≠i/\k < E.length/\v∈E[k]?.getD [])/\v∉E[j]?.getD [];obtain⟨v1,⟨k,A,o,v2⟩,B⟩:=p;by_cases e:n=i;subst e;refine⟨k,n,o,c,A,λx d g _=>?_⟩;rw[m o]at g v2;rw[m c];exact q _ (a6b o) v2 x d g;refine⟨i,n,hi,c,λz=>e z.symm,λx d a _=>?_⟩;rw[m hi]at a v1;rw[m c];exact q _ (a6b hi) v1 x d a
   ·refine⟨i,j,hi,w,y,λx d a f=>?_⟩;rcases a2b.mp d with rfl | d;by_cases z:x∈E[j]?.getD [];exact z;exact absurd ⟨a,f,z⟩ p;exact h x d a f
def Tg(E:List (List α))(x y:α):Prop:=∃ f∈E,x∈f/\y∈f
theorem Tg.symm{x y:α}(h:Tg E x y):Tg E y x:=by obtain⟨f,a,b,c⟩:=h;exact⟨f,a,c,b⟩
def Clq(E:List (List α))(C:List α):Prop:=∀ x∈C,∀ y∈C,Tg E x y
theorem El.conf(d:E≠[]):∀ {l:List α},El E l->∀ {C:List α},(∀ x∈C,x∈l)->Clq E C->∃ e∈E,∀ x∈C,x∈e
 | [],_,C,s,_=>by
   obtain⟨e,i⟩:=List.exists_mem_of_ne_nil E d;exact⟨e,i,λx a=>absurd (s x a) List.not_mem_nil⟩
 | v::b,⟨⟨t,j,q⟩,r⟩,C,s,c=>by
   by_cases g:v∈C
   ·exact⟨t,j,λx a=>by
     obtain⟨f,k,m,n⟩:=c v g x a;exact q f k m x (s x a) n⟩
   ·exact r.conf d (λx a=>by
     rcases a2b.mp (s x a)with e | h;rw[e]at a;exact absurd a g
     ·exact h) c
theorem Acy.conf(a:E≠[])(h:Acy E S){C:List α}(s:∀ x∈C,x∈S)(c:Clq E C):∃ e∈E,∀ x∈C,x∈e:=by
 obtain⟨l,m,q⟩:=h;exact q.conf a (λx b=>(m x).mpr (s x b)) c
theorem El.out:∀ {l:List α},El E l->∀ {B:List α},Clq E B->∀ {z:α},z∈l->z∉B->∃ d∈l,d∉B/\Top E l d
 | v::b,⟨u,r⟩,B,c,z,C,D=>by
   by_cases o:v∈B
   ·obtain⟨t,w,q⟩:=u;obtain⟨f,F,A,_⟩:=c v o v o;have G:v∈t:=q f F A v a3a A;by_cases ha:∀ x∈b,x∈t
    ·have k:∀ x∈v::b,x∈t:=λx a=>by
      rcases a2b.mp a with e | h;rw[e];exact G;exact ha x h
     exact⟨z,C,D,t,w,λg _ _ x a _=>k x a⟩
    ·obtain⟨y,m⟩:=Classical.not_forall.mp ha;obtain⟨m,H⟩:=Classical.not_imp.mp m;obtain⟨d,hd,I,e,J,K⟩:=r.out (B:=b.filter λx=>decide (x∈t)) (λx a y m=>⟨t,w,of_decide_eq_true (List.mem_filter.mp a).2,of_decide_eq_true (List.mem_filter.mp m).2⟩) m λh=>H (of_decide_eq_true (List.mem_filter.mp h).2);have L:d∉t:=λh=>I (List.mem_filter.mpr ⟨hd,a4n h⟩);have no:∀ g∈E,d∈g->v∉g:=λg j p s=>L (q g j s d (a6a _ hd) p);refine⟨d,a6a _ hd,λh=>?_,e,J,λg j n x a i=>?_⟩;obtain⟨g,j,p,s⟩:=c d h v o;exact no g j p s;rcases a2b.mp a with z | h;rw[z]at i;exact absurd i (no g j n);exact K g j n x h i
   ·exact⟨v,a3a,o,u⟩
theorem Acy.out(h:Acy E S){B:List α}(c:Clq E B){z:α}(a:z∈S)(b:z∉B):∃ d∈S,d∉B/\Top E S d:=by
 obtain⟨l,m,q⟩:=h;obtain⟨d,e,f,g⟩:=q.out c ((m z).mpr a) b;exact⟨d,(m d).mp e,f,g.mono λx i=>(m x).mpr i⟩
def Acy.top(h:Acy E S)(a:S≠[]):∃ d∈S,Top E S d:=by
 obtain⟨z,b⟩:=List.exists_mem_of_ne_nil S a;obtain⟨d,c,_,e⟩:=h.out (B:=[]) (λx f=>nomatch f) b List.not_mem_nil;exact⟨d,c,e⟩
end
section
variable{α:Type}{A:α->α->Prop}{W:α->Prop}
def Ch(A:α->α->Prop):List α->Prop
 | a::b::r=>A a b/\Ch A (b::r)
 | _=>True
theorem bD5{b:α}{r:List α}:∀ {l:List α},Ch A (l++[b])->Ch A (b::r)->Ch A (l++b::r)
 | [],_,h=>h
 | [a],d,h=>⟨d.1,h⟩
 | a::c::l,d,h=>⟨d.1,bD5 (l:=c::l) d.2 h⟩
theorem bV9{b:α}{r:List α}:∀ {l:List α},Ch A (l++b::r)->Ch A (l++[b])
 | [],_=>True.intro
 | [a],h=>⟨h.1,True.intro⟩
 | a::c::l,h=>⟨h.1,bV9 (l:=c::l) h.2⟩
theorem bD6{b:α}{r:List α}:∀ {l:List α},Ch A (l++b::r)->Ch A (b::r)
 | [],h=>h
 | [a],h=>h.2
 | a::c::l,h=>bD6 (l:=c::l) h.2
def aX5{a b:α}{l:List α}(h:Ch A (l++[a]))(q:A a b):Ch A (l++[a,b]):=bD5 h ⟨q,True.intro⟩
theorem cP2(sy:∀ x y,A x y->A y x):∀ {l:List α},Ch A l->Ch A l.reverse
 | [],_=>True.intro
 | [a],_=>True.intro
 | a::b::r,h=>by
   have:=cP2 sy (l:=b::r) h.2;rw[List.reverse_cons]at this ⊢;rw[List.reverse_cons,List.append_assoc];exact aX5 this (sy _ _ h.1)
def Cl(A:α->α->Prop)(l:List α):Prop:=∀ (p q r:List α) (a b:α),l=p++a::q++b::r->q≠[]->¬ A a b
theorem bD7:∀ {l:List α},Ch A l->∀ {i:Nat} {a b:α},l[i]? = some a->l[i+1]? = some b->A a b
 | [],_,i,a,b,h,_=>by simp at h
 | [c],_,i,a,b,_,h=>by simp at h
 | c::d::r,h,0,a,b,e,f=>by
   simp at e f;rw[← e,← f];exact h.1
 | c::d::r,h,i+1,a,b,e,f=>bD7 (l:=d::r) h.2 (by simpa using e) (by simpa using f)
def bW0{l:List α}(h:Cl A l){i j:Nat}{a b:α}(ha:l[i]? = some a)(e:l[j]? = some b)(p:i+1 < j):¬ A a b:=by
 have hi:=(a2a.mp ha);have d:=(a2a.mp e);obtain⟨hi,f⟩:=hi;obtain⟨d,g⟩:=d;refine h (l.take i) ((l.drop (i+1)).take (j-i-1)) (l.drop (j+1)) a b ?_ ?_
 ·have k:l=l.take i++a::l.drop (i+1):=by
   rw[← f,← List.drop_eq_getElem_cons hi,List.take_append_drop]
  have m:l.drop (i+1)=(l.drop (i+1)).take (j-i-1)++b::l.drop (j+1):=by
   have c:j-i-1 < (l.drop (i+1)).length:=by rw[a7f];lia
   have n:(l.drop (i+1))[j-i-1]=b:=by rw[List.getElem_drop,← g];congr 1;lia
   have o:(l.drop (i+1)).drop (j-i-1+1)=l.drop (j+1):=by rw[List.drop_drop];congr 1;lia
   conv=>lhs;rw[← List.take_append_drop (j-i-1) (l.drop (i+1)),List.drop_eq_getElem_cons c,n,o]
  conv=>lhs;rw[k,m]
  simp
 ·intro z;have:=a4q List.length z;rw[a8d,a7f,a3h]at this;lia
theorem cG7{x y:α}(g:¬ A x y):∀ (n:Nat) (p:List α),p.length<=n->Ch A (x::(p++[y]))->(∀ c∈p,W c)->∃ q,Ch A (x::(q++[y]))/\(∀ c∈q,W c)/\Cl A (x::(q++[y]))
 | n,p,hn,t,hw=>by
   by_cases h:Cl A (x::(p++[y]));exact⟨p,t,hw,h⟩
   ·obtain⟨l,q,r,a,b,e,D,j⟩:∃ l q r a b,x::(p++[y])=l++a::q++b::r/\q≠[]/\A a b:=by
     unfold Cl at h;simp only[Classical.not_forall,Classical.not_not]at h;obtain⟨l,q,r,a,b,w,z,E⟩:=h;exact⟨l,q,r,a,b,w,z,E⟩
    have F:0 < q.length:=List.length_pos_iff.mpr D;have k:Ch A (l++a::b::r):=by
     rw[e]at t;have w:Ch A (l++[a]):=by rw[List.append_assoc]at t;exact bV9 t
     have z:Ch A (b::r):=bD6 (l:=l++a::q) t;exact bD5 w ⟨j,z⟩
    -- G dV5 stay
    have H:=a4q List.length e;simp at H;rcases List.eq_nil_or_concat r with v | ⟨m,s,v⟩
    ·subst v;have I:b=y:=by
      have B:(x::p)++[y]=(l++a::q)++[b]:=by simpa using e
      have:=(List.append_inj' B rfl).2;injection this with h _;exact h.symm
     subst I;cases l with
     | nil=>
       injection (show x::(p++[b])=a::(q++[b]) by simpa using e)with o _
       rw[← o]at j;exact absurd j g
     | cons C i=>
       injection (show x::(p++[b])=C::(i++a::(q++[b])) by simpa using e)with o u
       subst o;have d:p=i++a::q:=by
        have:p++[b]=(i++a::q)++[b]:=by rw[u];simp
        exact List.append_cancel_right this
       refine match n with
        | 0=>by rw[d]at hn;simp at hn
        | n+1=>cG7 g n (i++[a]) (by rw[d]at hn;simp at hn ⊢;lia) (by simpa using k) λc f=>hw c (by rw[d];rcases a5b.mp f with h | h;exact a6d _ h;rw[a9a.mp h];simp)
    ·rw[List.concat_eq_append]at v;subst v;have J:s=y:=by
      have B:(x::p)++[y]=(l++a::(q++b::m))++[s]:=by simpa using e
      have:=(List.append_inj' B rfl).2;injection this with h _;exact h.symm
     subst J;cases l with
     | nil=>
       injection (show x::(p++[s])=a::((q++b::m)++[s]) by simpa using e)with o u
       subst o;have d:p=q++b::m:=List.append_cancel_right u;refine match n with
        | 0=>by rw[d]at hn;simp at hn
        | n+1=>cG7 g n (b::m) (by rw[d]at hn;simp at hn ⊢;lia) (by simpa using k) λc f=>hw c (by rw[d];exact a1c _ f)
     | cons C i=>
       injection (show x::(p++[s])=C::((i++a::(q++b::m))++[s]) by simpa using e)with o u
       subst o;have d:p=i++a::(q++b::m):=List.append_cancel_right u;refine match n with
        | 0=>by rw[d]at hn;simp at hn
        | n + 1=>cG7 g n (i++a::b::m) (by rw[d]at hn;simp at hn ⊢;lia) (by simpa using k) λc f=>hw c (by
            rw[d];rcases a5b.mp f with h | h;exact a6d _ h
            ·rcases a2b.mp h with h | h;rw[h];simp
             ·simp;exact .inr (.inr (.inr (by simpa using h))))
 termination_by n=>n
inductive Rc(A:α->α->Prop)(W:α->Prop)(y:α):α->Prop
 | refl:W y->Rc A W y y
 | step {c d:α}:Rc A W y c->A c d->W d->Rc A W y d
def Rc.w{y c:α}(h:Rc A W y c):W c:=by
 cases h with
 | refl h=>exact h
 | step _ _ h=>exact h
def Rc.way{y c:α}(h:Rc A W y c):∃ t u,y::t=u++[c]/\Ch A (y::t)/\∀ d∈y::t,W d:=by
 induction h with
 | refl h=>exact⟨[],[],rfl,True.intro,λd hd=>by rw[a9a.mp hd];exact h⟩
 | @step c d _ a w g=>
   obtain⟨t,u,e,b,i⟩:=g;refine⟨t++[d],y::t,rfl,?_,λx f=>?_⟩
   ·have:y::(t++[d])=u++[c,d]:=by
     rw[← List.cons_append,e];simp
    rw[this];rw[e]at b;exact aX5 b a
   ·rw[← List.cons_append]at f;rcases a5b.mp f with h | h;exact i x h;rw[a9a.mp h];exact w
def cZ4(sy:∀ x y,A x y->A y x){y c d b a:α}(m:Rc A W y c)(n:Rc A W y d)(o:A b c)(q:A d a):∃ p:List α,Ch A (b::(p++[a]))/\∀ z∈p,W z:=by
 obtain⟨t,u,e,k1,k2⟩:=m.way;obtain⟨f,r,j,g,i⟩:=n.way;have s:t.reverse++[y]=c::u.reverse:=by
  have:=a4q List.reverse e;simpa using this
 have v:Ch A (t.reverse++[y]):=by
  have:=cP2 sy k1;rwa[List.reverse_cons]at this
 have w:Ch A (y::(f++[a])):=by
  have:y::(f++[a])=r++[d,a]:=by rw[← List.cons_append,j];simp
  rw[this];rw[j]at g;exact aX5 g q
 have k:=bD5 v w;refine⟨t.reverse++y::f,?_,λz B=>?_⟩
 ·have l:(t.reverse++y::f)++[a]=c::(u.reverse++(f++[a])):=by
   have:(t.reverse++y::f)++[a]=(t.reverse++[y])++(f++[a]):=by simp
   rw[this,s];rfl
  have C:t.reverse++y::(f++[a])=c::(u.reverse++(f++[a])):=by rw[← l];simp
  rw[C]at k;rw[l];exact⟨o,k⟩
 ·rcases a5b.mp B with h | h;exact k2 z (a6a _ (List.mem_reverse.mp h));exact i z h
end
section
variable{α:Type}{E:List (List α)}{S Z:List α}
structure RingA(E:List (List α))(Z:List α):Prop where
 nd:Z.Nodup
 n:3<=Z.length
 one:∀ u∈Z,∃ e∈E,∀ x∈Z,x∈e↔x≠u
 no:∀ e∈E,∃ u∈Z,u∉e
structure RingB(E:List (List α))(Z:List α):Prop where
 nd:Z.Nodup
 n:4<=Z.length
 tg:∀ (i j:Nat) x y,i < j->Z[i]? = some x->Z[j]? = some y->(Tg E x y↔j=i+1\/i=0/\j+1=Z.length)
def RingA.clq(h:RingA E Z):Clq E Z:=λx i y j=>by
 obtain⟨u,k,l,m⟩:∃ u∈Z,u≠x/\u≠y:=by
  have hn:=h.n;have nd:=h.nd
  match Z,hn,nd with
  | a::b::c::r,_,nd=>
    simp only[List.nodup_cons,List.mem_cons,not_or]at nd;by_cases f:a≠x/\a≠y;exact⟨a,by simp,f⟩
    ·by_cases g:b≠x/\b≠y;exact⟨b,by simp,g⟩
     ·refine⟨c,by simp,λe=>?_,λe=>?_⟩;subst e;by_cases d:a=y;exact g ⟨λz=>nd.2.1.1 z,λz=>nd.1.1 (d.trans z.symm)⟩;exact f ⟨λz=>nd.1.2.1 z,d⟩;subst e;by_cases d:a=x;exact g ⟨λz=>nd.1.1 (d.trans z.symm),λz=>nd.2.1.1 z⟩;exact f ⟨d,λz=>nd.1.2.1 z⟩
 obtain⟨e,o,q⟩:=h.one u k;exact⟨e,o,(q x i).mpr (a0e l),(q y j).mpr (a0e m)⟩
def aX6{z a b:α}(ha:a∈Z)(c:b∈Z)(d:Tg E z a)(h:Tg E z b)(i:¬ Tg E a b):¬ Top E Z z:=λ⟨e,he,q⟩=>by
 obtain⟨f,j,k,l⟩:=d;obtain⟨g,m,n,o⟩:=h;exact i ⟨e,he,q f j k a ha l,q g m n b c o⟩
def RingB.not(h:RingB E Z):¬ Acy E Z:=λa=>by
 have hn:=h.n;obtain⟨d,hd,t⟩:=a.top (λz=>by rw[z]at hn;simp at hn);obtain⟨i,hi,rfl⟩:=a7d hd;have g:∀ (j:Nat) (b:j < Z.length),Z[j]? = some Z[j]:=λj b=>a0a b;have m:∀ (j:Nat) (b:j < Z.length),Z[j]∈Z:=λj b=>a6b b;have T:=λ(i j:Nat) (hi:i < Z.length) (b:j < Z.length) (c:i < j)=>h.tg i j _ _ c (g i hi) (g j b);by_cases h0:i=0;subst h0;refine aX6 (m 1 (by lia)) (m (Z.length-1) (by lia)) ((T 0 1 hi (by lia) (by lia)).mpr (.inl rfl)) ((T 0 (Z.length-1) hi (by lia) (by lia)).mpr (.inr ⟨rfl,by lia⟩)) (λz=>?_) t;have:=(T 1 (Z.length-1) (by lia) (by lia) (by lia)).mp z;lia;by_cases e:i+1=Z.length;refine aX6 (m (i-1) (by lia)) (m 0 (by lia)) ((T (i-1) i (by lia) hi (by lia)).mpr (.inl (by lia))).symm ((T 0 i (by lia) hi (by lia)).mpr (.inr ⟨rfl,e⟩)).symm (λz=>?_) t;have:=(T 0 (i-1) (by lia) (by lia) (by lia)).mp z.symm;lia;refine aX6 (m (i-1) (by lia)) (m (i+1) (by lia)) ((T (i-1) i (by lia) hi (by lia)).mpr (.inl (by lia))).symm ((T i (i+1) hi (by lia) (by lia)).mpr (.inl rfl)) (λz=>?_) t;have:=(T (i-1) (i+1) (by lia) (by lia) (by lia)).mp z;lia
structure Mn(E:List (List α))(S:List α):Prop where
 ne:E≠[]
 nd:S.Nodup
 no:¬ Acy E S
 one:∀ v∈S,Acy E (S.filter λx=>decide (x≠v))
def Mn.top(h:Mn E S){v:α}(a:v∈S):¬ Top E S v:=λt=>h.no (Acy.cons t a (h.one v a))
def Mn.self(h:Mn E S){v:α}(c:v∈S):Tg E v v:=by
 by_cases b:∃ f∈E,v∈f;obtain⟨f,a,q⟩:=b;exact⟨f,a,q,q⟩;obtain⟨e,d⟩:=List.exists_mem_of_ne_nil E h.ne;exact absurd ⟨e,d,λf a q=>absurd ⟨f,a,q⟩ b⟩ (h.top c)
theorem Mn.sub(h:Mn E S){T:List α}(w:∀ x∈T,x∈S){v:α}(b:v∈S)(nv:v∉T):Acy E T:=
 (h.one v b).sub λx a=>List.mem_filter.mpr ⟨w x a,a4n λe=>nv (by rw[← e];exact a)⟩
def Mn.all(h:Mn E S)(c:Clq E S):RingA E S:=by
 have big:∀ e∈E,¬ ∀ x∈S,x∈e:=λe g q=>by
  have m:S≠[]:=λz=>by subst z;exact h.no ⟨[],λ_=>Iff.rfl,True.intro⟩
  obtain⟨v,o⟩:=List.exists_mem_of_ne_nil S m;exact h.top o ⟨e,g,λ_ _ _ x f _=>q x f⟩
 refine⟨h.nd,?_,λu i=>?_,λe g=>?_⟩
 ·match S,h,c,big with
  | [],h,_,_=>exact absurd ⟨[],λ_=>Iff.rfl,True.intro⟩ h.no
  | [a],h,c,big=>
    obtain⟨e,g,q,_⟩:=c a (by simp) a (by simp);exact absurd (λx f=>by rw[a9a.mp f];exact q) (big e g)
  | [a,b],h,c,big=>
    obtain⟨e,g,p,s⟩:=c a (by simp) b (by simp);refine absurd (λx f=>?_) (big e g);rcases a2b.mp f with e | f;rw[e];exact p;rw[a9a.mp f];exact s
  | a::b::d::r,_,_,_=>simp
 ·obtain⟨e,g,q⟩:=(h.one u i).conf h.ne (λ_ h=>h) λx f y j=>c x (List.mem_filter.mp f).1 y (List.mem_filter.mp j).1;have l:∀ x∈S,x≠u->x∈e:=λx f n=>q x (List.mem_filter.mpr ⟨f,a4n n⟩);refine⟨e,g,λx f=>⟨λk z=>?_,l x f⟩⟩;subst z;refine big e g λy j=>?_;by_cases z:y=x;rw[z];exact k;exact l y j z
 ·obtain⟨u,i⟩:=Classical.not_forall.mp (big e g);obtain⟨t,w⟩:=Classical.not_imp.mp i;exact⟨u,t,w⟩
def Ad(E:List (List α))(x y:α):Prop:=x≠y/\Tg E x y
def Ad.sy(x y:α)(h:Ad E x y):Ad E y x:=⟨h.1.symm,h.2.symm⟩
def cG8{b a:α}{q:List α}(hn:b≠a)(f:Ch (Ad E) (b::(q++[a])))(l:Cl (Ad E) (b::(q++[a]))):(b::(q++[a])).Nodup:=by
 refine List.pairwise_iff_getElem.mpr λi j hi c p e=>?_;have g:∀ (k:Nat) (m:k < (b::(q++[a])).length),(b::(q++[a]))[k]? = some (b::(q++[a]))[k]:=λk m=>a0a m;by_cases h:j+1 < (b::(q++[a])).length;have:=bD7 f (g j c) (g (j+1) h);rw[← e]at this;exact bW0 l (g i hi) (g (j+1) h) (by lia) this;have d:j+1=(b::(q++[a])).length:=by lia
 by_cases h0:i=0
 ·subst h0;refine hn ?_;have o:(b::(q++[a]))[0]=b:=rfl;have n:(b::(q++[a]))[j]? = some a:=by
   have:j=q.length+1:=by simp at d;lia
   subst this;simp
  rw[g j c,← e,o]at n;exact a7a n
 ·have:=bD7 f (g (i-1) (by lia)) (by rw[show i-1+1=i by lia];exact g i hi);rw[e]at this;exact bW0 l (g (i-1) (by lia)) (g j c) (by lia) this
def rnd{x b a:α}{q:List α}(A:Tg E x b)(l:Tg E x a)(B:∀ c∈q,¬ Tg E x c)(C:x≠b)(m:x≠a)(D:x∉q)(hn:b≠a)(H:∀ z∈b::(q++[a]),Tg E z z)(F:¬ Tg E b a)(n:Ch (Ad E) (b::(q++[a])))(v:Cl (Ad E) (b::(q++[a]))):RingB E (x::b::(q++[a])):=by
 have nd:=cG8 hn n v;have G:q≠[]:=λz=>by subst z;exact F n.1.2
 have I:0 < q.length:=List.length_pos_iff.mpr G;have len:(x::b::(q++[a])).length=q.length+3:=by simp
 refine⟨a7e.mpr ⟨λh=>?_,nd⟩,by lia,λi j u w J g d=>?_⟩;rcases a2b.mp h with h | h;exact C h;rcases a5b.mp h with h | h;exact D h;exact m (a9a.mp h);rw[len];obtain⟨f,rfl⟩:∃ f,j=f+1:=⟨j-1,by lia⟩;rw[a2d]at d;have o:=(a2a.mp d).1;have y:f < q.length+2:=by simpa using o
 by_cases h0:i=0
 ·subst h0;cases g;by_cases p:f=0;subst p;cases d;exact⟨λ_=>.inl rfl,λ_=>A⟩;by_cases r:f=q.length+1
  ·subst r;have:w=a:=by
    have:(b::(q++[a]))[q.length+1]? = some a:=by simp
    rw[this]at d;exact(a7a d).symm
   subst this;exact⟨λ_=>.inr ⟨rfl,by lia⟩,λ_=>l⟩
  ·obtain⟨k,rfl⟩:∃ k,f=k+1:=⟨f-1,by lia⟩;rw[a2d,a3g (by lia)]at d;exact⟨λz=>absurd z (B w (a7b d)),λz=>by lia⟩
 ·obtain⟨s,rfl⟩:∃ s,i=s+1:=⟨i-1,by lia⟩;rw[a2d]at g;by_cases t:f=s+1;subst t;exact⟨λ_=>.inl rfl,λ_=>(bD7 n g d).2⟩;have:=bW0 v g d (by lia);refine⟨λz=>absurd ⟨λe=>?_,z⟩ this,λz=>by lia⟩;subst e;have:=(List.getElem?_inj (a2a.mp g).1 nd).mp (g.trans d.symm);lia
def Mn.round(h:Mn E S)(c:¬ Clq E S):∃ Z,RingB E Z/\∀ z,z∈Z↔z∈S:=by
 obtain⟨x,j,y,n,o⟩:∃ x∈S,∃ y∈S,¬ Tg E x y:=by
  unfold Clq at c;simp only[Classical.not_forall]at c;obtain⟨x,j,y,n,q⟩:=c;exact⟨x,j,y,n,q⟩
 let W:α->Prop:=λc=>c∈S/\¬ Tg E x c
 let R:α->Prop:=Rc (Ad E) W y
 let P:α->Prop:=λb=>b≠x/\Tg E x b/\∃ c,R c/\Tg E b c
 let B:List α:=S.filter λb=>decide (P b)
 have i:∀ {b},b∈B↔b∈S/\P b:=λ{b}=>by
  show b∈S.filter _↔_;rw[List.mem_filter,a4m]
 let D:List α:=S.filter λb=>decide (R b\/P b)
 have a:∀ {b},b∈D↔b∈S/\(R b\/P b):=λ{b}=>by
  show b∈S.filter _↔_;rw[List.mem_filter,a4m]
 have L:=h.self j;have u:∀ {c},R c->W c:=λr=>Rc.w r;have xD:x∉D:=λz=>by
  rcases(a.mp z).2 with r | r;exact(u r).2 L;exact r.1 rfl
 have aD:Acy E D:=h.sub (λz g=>(a.mp g).1) j xD;have yR:R y:=.refl ⟨n,o⟩;have C:¬ Clq E B:=λcB=>by
  obtain⟨d,hd,dB,e,he,q⟩:=aD.out cB (a.mpr ⟨n,.inl yR⟩) λz=>o (i.mp z).2.2.1;have v:R d:=by
   rcases(a.mp hd).2 with r | r;exact r;exact absurd (i.mpr ⟨(a.mp hd).1,r⟩) dB
  refine h.top (a.mp hd).1 ⟨e,he,λf M N w hw O=>q f M N w (a.mpr ⟨hw,?_⟩) O⟩;have k:Tg E d w:=⟨f,M,N,O⟩;by_cases Q:Tg E x w;refine .inr ⟨λz=>?_,Q,d,v,k.symm⟩;subst z;exact(u v).2 k.symm;by_cases T:d=w;rw[← T];exact .inl v;exact .inl (.step v ⟨T,k⟩ ⟨hw,Q⟩)
 obtain⟨b,hb,l,F,m⟩:∃ b∈B,∃ l∈B,¬ Tg E b l:=by
  unfold Clq at C;simp only[Classical.not_forall]at C;obtain⟨x,j,y,n,q⟩:=C;exact⟨x,j,y,n,q⟩
 obtain⟨U,bx,V,c,X,bc⟩:=i.mp hb;obtain⟨G,H,s,c',t,I⟩:=i.mp F;have nb:b≠l:=λz=>m (z ▸ h.self U);have ab:Ad E b c:=⟨λz=>(u X).2 (z ▸ V),bc⟩;have J:Ad E c' l:=⟨λz=>(u t).2 (z ▸ s),I.symm⟩;obtain⟨p,p1,p2⟩:=cZ4 Ad.sy X t ab J;obtain⟨q,q1,K,q3⟩:=cG7 (A:=Ad E) (W:=W) (x:=b) (y:=l) (λz=>m z.2) p.length p (a8a _) p1 p2;have inS:∀ z∈b::(q++[l]),z∈S:=λz g=>by
  rcases a2b.mp g with e | g;rw[e];exact U;rcases a5b.mp g with g | g;exact(K z g).1;rw[a9a.mp g];exact G
 have Y:=rnd (E:=E) (x:=x) V s (λc hc=>(K c hc).2) (a0e bx) (a0e H) (λz=>(K x z).2 L) nb (λz g=>h.self (inS z g)) m q1 q3;refine⟨_,Y,λz=>⟨λg=>?_,λg=>?_⟩⟩;rcases a2b.mp g with e | g;rw[e];exact j;exact inS z g;by_cases hh:z∈x::b::(q++[l]);exact hh;refine absurd (h.sub (λw hw=>?_) g hh) Y.not;rcases a2b.mp hw with e | hw;rw[e];exact j;exact inS w hw
theorem dN1(c:E≠[]):∀ (n:Nat) (S:List α),S.length<=n->S.Nodup->¬ Acy E S->∃ T,T.Sublist S/\Mn E T
 | n,S,hn,nd,h=>by
   by_cases d:∃ v∈S,¬ Acy E (S.filter λx=>decide (x≠v))
   ·obtain⟨v,a,q⟩:=d;have sl:(S.filter λx=>decide (x≠v)).length < S.length:=by
     have b:=List.length_filter_le (λx=>decide (x≠v)) S;refine Nat.lt_of_le_of_ne b λe=>?_;have:=List.length_filter_eq_length_iff.mp e v a;exact absurd rfl (of_decide_eq_true this)
    match n with
    | 0=>lia
    | n+1=>
      obtain⟨T,f,g⟩:=dN1 c n _ (by lia) (nd.sublist List.filter_sublist) q;exact⟨T,f.trans List.filter_sublist,g⟩
   ·refine⟨S,List.Sublist.refl _,c,nd,h,λv a=>?_⟩;by_cases z:Acy E (S.filter λx=>decide (x≠v));exact z;exact absurd ⟨v,a,z⟩ d
def cZ5(b:E≠[])(nd:S.Nodup)(h:¬ Acy E S):∃ T,T.Sublist S/\Mn E T/\(RingA E T\/∃ Z,RingB E Z/\∀ z,z∈Z↔z∈T):=by
 obtain⟨T,d,a⟩:=dN1 b S.length S (a8a _) nd h;refine⟨T,d,a,?_⟩;by_cases c:Clq E T;exact .inl (a.all c);exact .inr (a.round c)
end
end Hy
namespace Mr
open PySem Sx
noncomputable def inS(cs own:List Str):List Str:=cs.filter λc=>decide (c∈own)
noncomputable def fU(qs:List (Str×List Str))(cs:List Str):List (List Str):=qs.foldl (λacc q=>if inS cs q.2∈acc then acc else acc++[inS cs q.2]) []
noncomputable def bW1(a b:List Str):Bool:=!decide (a=b)&&a.all λc=>decide (c∈b)
noncomputable def cF(qs:List (Str×List Str))(cs:List Str):List (List Str):=(fU qs cs).filter λa=>!((fU qs cs).any λb=>bW1 a b)
noncomputable def abo(cs:List Str):List (List Str):=(List.range cs.length).map λi=>cs.take i++cs.drop (i+1)
noncomputable def nbr(cs:List Str):List (List Str):=((List.range (cs.length-1)).map λi=>(cs.drop i).take 2)++[[cs.getD 0 default,cs.getD (cs.length-1) default]]
def bT{cs own:List Str}{c:Str}:c∈inS cs own↔c∈cs/\c∈own:=by
 unfold inS;rw[List.mem_filter,a4m]
def bD8{cs e f:List Str}(h:∀ c∈cs,c∈e↔c∈f):inS cs e=inS cs f:=List.filter_congr λc a=>decide_eq_decide.mpr (h c a)
def oG(qs:List (Str×List Str))(q:Str×List Str)(cs:List Str):fU (qs++[q]) cs=if inS cs q.2∈fU qs cs then fU qs cs else fU qs cs++[inS cs q.2]:=by
 unfold fU;rw[List.foldl_append];rfl
def cT(qs:List (Str×List Str))(cs:List Str):(fU qs cs).Nodup/\∀ x,x∈fU qs cs↔∃ q∈qs,x=inS cs q.2:=by
 have g:∀ n,∀ qs:List (Str×List Str),qs.length=n->(fU qs cs).Nodup/\∀ x,x∈fU qs cs↔∃ q∈qs,x=inS cs q.2:=by
  intro n
  induction n with
  | zero=>
    intro qs h;rw[List.length_eq_zero_iff.mp h];exact⟨.nil,λx=>by simp[fU]⟩
  | succ n o=>
    intro qs h;rcases List.eq_nil_or_concat qs with e | ⟨l,q,e⟩;rw[e]at h;cases h
    ·rw[List.concat_eq_append]at e;subst e;obtain⟨k,i⟩:=o l (by simpa using h);rw[oG];split;rename_i hm;refine⟨k,λx=>⟨λp=>?_,λ⟨c,j,e⟩=>?_⟩⟩;obtain⟨c,f,d⟩:=(i x).mp p;exact⟨c,a6d _ f,d⟩;rcases a5b.mp j with h | h;exact(i x).mpr ⟨c,h,e⟩;rw[a9a.mp h]at e;rw[e];exact hm
     ·rename_i hm;refine⟨List.nodup_append.mpr ⟨k,by simp,λa ha b m z=>hm (by rw[List.mem_singleton]at m;rw[← m,← z];exact ha)⟩,λx=>?_⟩;rw[a5b,i,a9a];constructor;rintro(⟨c,f,d⟩ | h);exact⟨c,a6d _ f,d⟩;exact⟨q,by simp,h⟩;rintro⟨c,f,d⟩;rcases a5b.mp f with h | h;exact .inl ⟨c,h,d⟩;rw[a9a.mp h]at d;exact .inr d
 exact g _ qs rfl
def yK(qs:List (Str×List Str))(cs:List Str):(fU qs cs).length<=qs.length:=by
 have a:∀ n,∀ qs:List (Str×List Str),qs.length=n->(fU qs cs).length<=n:=by
  intro n
  induction n with
  | zero=>intro qs h;rw[List.length_eq_zero_iff.mp h];exact a8a _
  | succ n b=>
    intro qs h;rcases List.eq_nil_or_concat qs with e | ⟨l,q,e⟩;rw[e]at h;cases h;rw[List.concat_eq_append]at e;subst e;have:=b l (by simpa using h);rw[oG];split;lia;rw[a3b,List.length_singleton];lia
 exact a _ qs rfl
def bD9{a b:List Str}:bW1 a b=true↔a≠b/\∀ c∈a,c∈b:=by
 unfold bW1;simp[List.all_eq_true]
def cC{qs:List (Str×List Str)}{cs a:List Str}:a∈cF qs cs↔a∈fU qs cs/\∀ b∈fU qs cs,(∀ c∈a,c∈b)->a=b:=by
 unfold cF;rw[List.mem_filter,Bool.not_eq_true',List.any_eq_false];refine and_congr_right λ_=>⟨λh b d f=>?_,λh b d z=>?_⟩;by_cases e:a=b;exact e;exact absurd (bD9.mpr ⟨e,f⟩) (h b d);obtain⟨g,i⟩:=bD9.mp z;exact g (h b d i)
def uF(qs:List (Str×List Str))(cs:List Str):(cF qs cs).Nodup:=(cT qs cs).1.sublist List.filter_sublist
def bJ0(qs:List (Str×List Str))(cs:List Str):(cF qs cs).length<=qs.length:=a4c (List.length_filter_le _ _) (yK qs cs)
def yL{cs e f:List Str}(nd:cs.Nodup)(h:∀ c∈inS cs e,c∈inS cs f):(inS cs e).length<=(inS cs f).length:=nd_le (nd.sublist List.filter_sublist) h where
 nd_le {l m:List Str} (g:l.Nodup) (h:∀ x∈l,x∈m):l.length<=m.length:=by
  induction l generalizing m with
  | nil=>exact a5c _
  | cons x l i=>
    obtain⟨n1,n2⟩:=a7e.mp g;have:=i (m:=m.erase x) n2 λy d=>(List.mem_erase_of_ne (a:=y) (b:=x) (λz=>n1 (by rw[← z];exact d))).mpr (h y (a6a _ d));have e:=List.length_erase_of_mem (h x a3a);have p:0 < m.length:=List.length_pos_of_mem (h x a3a);rw[a8f];lia
theorem aQ2{qs:List (Str×List Str)}{cs:List Str}(nd:cs.Nodup):∀ (n:Nat) (q:Str×List Str),q∈qs->cs.length-(inS cs q.2).length<=n->∃ a∈cF qs cs,∀ c∈inS cs q.2,c∈a
 | n,q,p,hn=>by
   have hm:inS cs q.2∈fU qs cs:=((cT qs cs).2 _).mpr ⟨q,p,rfl⟩;by_cases h:∀ b∈fU qs cs,(∀ c∈inS cs q.2,c∈b)->inS cs q.2=b;exact⟨_,cC.mpr ⟨hm,h⟩,λ_ h=>h⟩
   ·obtain⟨b,k,g,d⟩:∃ b∈fU qs cs,(∀ c∈inS cs q.2,c∈b)/\inS cs q.2≠b:=by
     apply a4d;intro z;exact h λb k g=>a4d λd=>z ⟨b,k,g,d⟩
    obtain⟨f,l,rfl⟩:=((cT qs cs).2 b).mp k;have u:(inS cs f.2).length<=cs.length:=List.length_filter_le _ _;have r:(inS cs q.2).length < (inS cs f.2).length:=by
     refine Nat.lt_of_le_of_ne (yL nd g) λe=>d ?_;refine bD8 λc j=>⟨λh=>(bT.mp (g c (bT.mpr ⟨j,h⟩))).2,λh=>?_⟩;apply a4d;intro z;have s:∀ x∈inS cs q.2,x∈(inS cs f.2).erase c:=λx o=>(List.mem_erase_of_ne (λe=>z (by rw[← e];exact(bT.mp o).2))).mpr (g x o);have t:=yL.nd_le (nd.sublist List.filter_sublist) s;have i:c∈inS cs f.2:=bT.mpr ⟨j,h⟩;rw[List.length_erase_of_mem i]at t;have:0 < (inS cs f.2).length:=List.length_pos_of_mem i;have v:(inS cs q.2).length=(inS cs f.2).length:=e;unfold inS at *;lia
    match n with
    | 0=>lia
    | n+1=>
      obtain⟨a,ha,m⟩:=aQ2 nd n f l (by lia);exact⟨a,ha,λc j=>m c (g c j)⟩
def aJ5{cs a:List Str}(nd:cs.Nodup):a∈abo cs↔∃ u∈cs,a=cs.filter λc=>decide (c≠u):=by
 have b:∀ (i:Nat) (hi:i < cs.length),cs.take i++cs.drop (i+1)=cs.filter λc=>decide (c≠cs[i]):=λi hi=>by
  have e:cs=cs.take i++cs[i]::cs.drop (i+1):=by rw[← List.drop_eq_getElem_cons hi,List.take_append_drop]
  have d:=nd;rw[e]at d;obtain⟨n1,n2,n3⟩:=List.nodup_append.mp d;generalize j:cs[i]=x at *
  conv=>rhs;rw[e]
  rw[List.filter_append,List.filter_cons_of_neg (by simp),List.filter_eq_self.mpr,List.filter_eq_self.mpr];intro c g;exact a4n λz=>(a7e.mp n2).1 (by rw[← z];exact g);intro c g;exact a4n λz=>n3 c g x a3a z
 unfold abo;rw[a2c];constructor;rintro⟨i,hi,rfl⟩;have f:=a9c.mp hi;exact⟨cs[i],a6b f,b i f⟩;rintro⟨u,h,rfl⟩;obtain⟨i,hi,rfl⟩:=a7d h;exact⟨i,a9c.mpr hi,b i hi⟩
def yM{cs a:List Str}(n2:2<=cs.length):a∈nbr cs↔∃ i j x y,i < j/\cs[i]? = some x/\cs[j]? = some y/\(j=i+1\/i=0/\j+1=cs.length)/\a=[x,y]:=by
 have two:∀ i (hi:i+1 < cs.length),(cs.drop i).take 2=[cs[i],cs[i+1]]:=λi hi=>by
  rw[List.drop_eq_getElem_cons (by lia),List.drop_eq_getElem_cons hi];rfl
 unfold nbr;rw[a5b,a2c,a9a];constructor;rintro(⟨i,hi,rfl⟩ | rfl);have b:=a9c.mp hi;exact⟨i,i+1,cs[i],cs[i+1],by lia,a0a (by lia),a0a (by lia),.inl rfl,two i (by lia)⟩;refine⟨0,cs.length-1,cs[0],cs[cs.length-1],by lia,a0a (by lia),a0a (by lia),.inr ⟨rfl,by lia⟩,?_⟩;rw[a5a,a5a,a0a (by lia),a0a (by lia)];rfl;rintro⟨i,j,x,y,f,c,d,h,rfl⟩;obtain⟨hi,rfl⟩:=a2a.mp c;obtain⟨e,rfl⟩:=a2a.mp d;rcases h with rfl | ⟨rfl,h⟩;exact .inl ⟨i,a9c.mpr (by lia),two i e⟩;refine .inr ?_;have:j=cs.length-1:=by lia
 subst this;rw[a5a,a5a,a0a (by lia),a0a (by lia)];rfl
open Hy
noncomputable abbrev edg(qs:List (Str×List Str)):List (List Str):=qs.map Prod.snd
def fC{qs:List (Str×List Str)}{e:List Str}:e∈edg qs↔∃ q∈qs,q.2=e:=a2c
open Classical in
noncomputable def isR(qs:List (Str×List Str))(cs:List Str):Bool:=decide (3<=cs.length)&&(decide cs.Nodup&&(decide (sX (cF qs cs)=sX (abo cs))||decide (sX (cF qs cs)=sX (nbr cs))))
def cP3{a b:List (List Str)}(h:sX a=sX b):∀ x,x∈a↔x∈b:=λx=>by
 rw[← (bS4 a).1.mem_iff,h,(bS4 b).1.mem_iff]
def bW2{a b:List (List Str)}(ha:a.Nodup)(c:b.Nodup)(h:∀ x,x∈a↔x∈b):sX a=sX b:=aW7 ((List.perm_ext_iff_of_nodup ha c).mpr h)
def aQ3{qs:List (Str×List Str)}{cs:List Str}(h:isR qs cs=true):3<=cs.length/\cs.Nodup/\((∀ x,x∈cF qs cs↔x∈abo cs)\/∀ x,x∈cF qs cs↔x∈nbr cs):=by
 unfold isR at h;simp only[Bool.and_eq_true,Bool.or_eq_true,decide_eq_true_eq]at h;exact⟨h.1,h.2.1,h.2.2.imp cP3 cP3⟩
def mZ{cs:List Str}(nd:cs.Nodup){i j:Nat}{x y:Str}(a:cs[i]? = some x)(b:cs[j]? = some y)(n:i≠j):x≠y:=λe=>by
 subst e;exact n ((List.getElem?_inj (a2a.mp a).1 nd).mp (a.trans b.symm))
def bW3{qs:List (Str×List Str)}{cs a:List Str}(h:a∈cF qs cs){x y:Str}(b:x∈a)(c:y∈a):Tg (edg qs) x y:=by
 obtain⟨q,d,rfl⟩:=((cT qs cs).2 a).mp (cC.mp h).1;exact⟨q.2,fC.mpr ⟨q,d,rfl⟩,(bT.mp b).2,(bT.mp c).2⟩
def bW4{qs:List (Str×List Str)}{cs:List Str}(h:isR qs cs=true):¬ Acy (edg qs) cs/\∀ c∈cs,∃ q∈qs,c∈q.2:=by
 obtain⟨n3,nd,hw⟩:=aQ3 h;have g:∀ (j:Nat) (l:j < cs.length),cs[j]? = some cs[j]:=λj l=>a0a l
 -- L a set has of F bW1 in a cF one
 have within:∀ e∈edg qs,∃ a∈cF qs cs,∀ c∈cs,c∈e->c∈a:=λe t=>by
  obtain⟨q,n,rfl⟩:=fC.mp t;obtain⟨a,ha,s⟩:=aQ2 nd cs.length q n (Nat.sub_le _ _);exact⟨a,ha,λc r n=>s c (bT.mpr ⟨r,n⟩)⟩
 rcases hw with hw | hw
 ·have o:∀ x∈cs,∀ y∈cs,∃ u∈cs,u≠x/\u≠y:=λx _ y _=>by
   have M:=mZ nd (g 0 (by lia)) (g 1 (by lia)) (by decide);have N:=mZ nd (g 0 (by lia)) (g 2 (by lia)) (by decide);have O:=mZ nd (g 1 (by lia)) (g 2 (by lia)) (by decide);by_cases p:cs[0]≠x/\cs[0]≠y;exact⟨_,a6b _,p⟩;by_cases G:cs[1]≠x/\cs[1]≠y;exact⟨_,a6b _,G⟩;refine⟨cs[2],a6b _,λe=>?_,λe=>?_⟩;by_cases w:cs[0]=y;exact G ⟨λz=>O (z.trans e.symm),λz=>M (w.trans z.symm)⟩;exact p ⟨λz=>N (z.trans e.symm),w⟩;by_cases w:cs[0]=x;exact G ⟨λz=>M (w.trans z.symm),λz=>O (z.trans e.symm)⟩;exact p ⟨w,λz=>N (z.trans e.symm)⟩
  have tg:∀ x∈cs,∀ y∈cs,Tg (edg qs) x y:=λx C y D=>by
   obtain⟨u,E,P,Q⟩:=o x C y D;have ha:=(hw _).mpr ((aJ5 nd).mpr ⟨u,E,rfl⟩);exact bW3 ha (List.mem_filter.mpr ⟨C,a4n (a0e P)⟩) (List.mem_filter.mpr ⟨D,a4n (a0e Q)⟩)
  refine⟨λa=>?_,λc r=>?_⟩;obtain⟨f,m,_⟩:=tg cs[0] (a6b _) cs[0] (a6b _);obtain⟨e,t,q⟩:=a.conf (List.ne_nil_of_mem m) (λ_ h=>h) tg;obtain⟨b,H,s⟩:=within e t;obtain⟨u,E,rfl⟩:=(aJ5 nd).mp ((hw b).mp H);exact of_decide_eq_true (List.mem_filter.mp (s u E (q u E))).2 rfl;obtain⟨f,m,p,_⟩:=tg c r c r;obtain⟨q,n,rfl⟩:=fC.mp m;exact⟨q,n,p⟩
 ·have d:∀ (i j:Nat) x y,i < j->cs[i]? = some x->cs[j]? = some y->(j=i+1\/i=0/\j+1=cs.length)->Tg (edg qs) x y:=λi j x y R C D h=>by
   have ha:=(hw [x,y]).mpr ((yM (by lia)).mpr ⟨i,j,x,y,R,C,D,h,rfl⟩);exact bW3 ha (by simp) (by simp)
  -- each one has two neighbours
  have two:∀ (i:Nat) (hi:i < cs.length),∃ j k,∃ (l:j < cs.length) (A:k < cs.length),j≠k/\j≠i/\k≠i/\Tg (edg qs) cs[i] cs[j]/\Tg (edg qs) cs[i] cs[k]:=λi hi=>by
   by_cases h0:i=0;subst h0;exact⟨1,cs.length-1,by lia,by lia,by lia,by lia,by lia,d 0 1 _ _ (by lia) (g _ _) (g _ _) (.inl rfl),d 0 (cs.length-1) _ _ (by lia) (g _ _) (g _ _) (.inr ⟨rfl,by lia⟩)⟩;by_cases p:i+1=cs.length;exact⟨i-1,0,by lia,by lia,by lia,by lia,by lia,(d (i-1) i _ _ (by lia) (g _ _) (g _ _) (.inl (by lia))).symm,(d 0 i _ _ (by lia) (g _ _) (g _ _) (.inr ⟨rfl,p⟩)).symm⟩;exact⟨i-1,i+1,by lia,by lia,by lia,by lia,by lia,(d (i-1) i _ _ (by lia) (g _ _) (g _ _) (.inl (by lia))).symm,d i (i+1) _ _ (by lia) (g _ _) (g _ _) (.inl rfl)⟩
  refine⟨λa=>?_,λc r=>?_⟩
  ·obtain⟨v,S,e,t,q⟩:=a.top (λz=>by rw[z]at n3;simp at n3);obtain⟨i,hi,rfl⟩:=a7d S;obtain⟨j,k,l,A,T,U,V,⟨f,m,B,W⟩,⟨X,I,J,K⟩⟩:=two i hi;have Y:=q f m B _ (a6b l) W;have Z:=q X I J _ (a6b A) K;have m3:=q f m B _ (a6b hi) B;obtain⟨b,H,s⟩:=within e t;obtain⟨_,_,x,y,_,_,_,_,rfl⟩:=(yM (by lia)).mp ((hw b).mp H);have s1:=s _ (a6b l) Y;have s2:=s _ (a6b A) Z;have s3:=s _ (a6b hi) m3;have d1:=mZ nd (g j l) (g k A) T;have d2:=mZ nd (g j l) (g i hi) U;have d3:=mZ nd (g k A) (g i hi) V;simp only[List.mem_cons,List.not_mem_nil,or_false]at s1 s2 s3;rcases s1 with s1 | s1<;>rcases s2 with s2 | s2<;>rcases s3 with s3 | s3<;>first
    | exact d1 (s1.trans s2.symm)
    | exact d2 (s1.trans s3.symm)
    | exact d3 (s2.trans s3.symm)
  ·obtain⟨i,hi,rfl⟩:=a7d r;obtain⟨j,k,_,_,_,_,_,⟨f,m,B,_⟩,_⟩:=two i hi;obtain⟨q,n,rfl⟩:=fC.mp m;exact⟨q,n,B⟩
def dN2{cs:List Str}(nd:cs.Nodup):(abo cs).Nodup:=by
 unfold abo;refine List.pairwise_map.mpr ((List.nodup_range).imp_of_mem λ{i j} hi d n e=>n ?_);have a:=a9c.mp hi;have f:=a9c.mp d;apply a4d;intro z;have g:cs[i]∉cs.take i++cs.drop (i+1):=λh=>by
  have e:cs=cs.take i++cs[i]::cs.drop (i+1):=by rw[← List.drop_eq_getElem_cons a,List.take_append_drop]
  have b:=nd;rw[e]at b;obtain⟨n1,n2,n3⟩:=List.nodup_append.mp b;rcases a5b.mp h with h | h;exact n3 _ h _ a3a rfl;exact(a7e.mp n2).1 h
 have c:cs[i]∈cs.take j++cs.drop (j+1):=by
  rcases Nat.lt_or_ge i j with h | h;exact a6d _ (a7b (i:=i) (by rw[List.getElem?_take_of_lt h];exact a0a a));refine a1c _ (a7b (i:=i-(j+1)) ?_);rw[List.getElem?_drop,show j+1+(i-(j+1))=i by lia];exact a0a a
 rw[← e]at c;exact g c
def dN3{cs:List Str}(nd:cs.Nodup)(n3:3<=cs.length):(nbr cs).Nodup:=by
 have g:∀ (j:Nat) (c:j < cs.length),cs[j]? = some cs[j]:=λj c=>a0a c;have two:∀ i (hi:i+1 < cs.length),(cs.drop i).take 2=[cs[i],cs[i+1]]:=λi hi=>by
  rw[List.drop_eq_getElem_cons (by lia),List.drop_eq_getElem_cons hi];rfl
 unfold nbr;refine List.nodup_append.mpr ⟨List.pairwise_map.mpr ((List.nodup_range).imp_of_mem λ{i j} hi c n e=>n ?_),by simp,λa ha b m e=>?_⟩
 ·obtain⟨i,hi,rfl⟩:=a2c.mp ha;have d:=a9c.mp hi;rw[a9a.mp m,two i (by lia),a5a,a5a,g 0 (by lia),g (cs.length-1) (by lia)]at e;injection e with f h
  injection h with h _
  have k:cs[i]=cs[0]:=f;have l:cs[i+1]=cs[cs.length-1]:=h;by_cases h0:i=0;subst h0;exact mZ nd (g 1 (by lia)) (g (cs.length-1) (by lia)) (by lia) l;exact mZ nd (g i (by lia)) (g 0 (by lia)) h0 k
 ·have d:=a9c.mp hi;have o:=a9c.mp c;rw[two i (by lia),two j (by lia)]at e;injection e with f _
  apply a4d;intro z;exact mZ nd (g i (by lia)) (g j (by lia)) z f
def bW5{qs:List (Str×List Str)}{cs:List Str}(h:RingA (edg qs) cs):isR qs cs=true:=by
 have g:∀ x,x∈cF qs cs↔x∈abo cs:=λx=>by
  rw[aJ5 h.nd];have k:∀ u∈cs,(cs.filter λc=>decide (c≠u))∈cF qs cs:=λu f=>by
   obtain⟨e,r,q⟩:=h.one u f;obtain⟨t,i,rfl⟩:=fC.mp r;have s:(cs.filter λc=>decide (c≠u))=inS cs t.2:=List.filter_congr λc a=>decide_eq_decide.mpr (q c a).symm;rw[s];refine cC.mpr ⟨((cT qs cs).2 _).mpr ⟨t,i,rfl⟩,λb v l=>?_⟩;obtain⟨m,j,rfl⟩:=((cT qs cs).2 b).mp v;refine bD8 λc a=>⟨λd=>(bT.mp (l c (bT.mpr ⟨a,d⟩))).2,λd=>?_⟩;rw[q c a];intro z;subst z;obtain⟨w,o,y⟩:=h.no m.2 (fC.mpr ⟨m,j,rfl⟩);refine y ?_;by_cases p:w=c;rw[p];exact d;exact(bT.mp (l w (bT.mpr ⟨o,(q w o).mpr p⟩))).2
  constructor;intro A;obtain⟨B,C⟩:=cC.mp A;obtain⟨t,i,rfl⟩:=((cT qs cs).2 x).mp B;obtain⟨u,f,D⟩:=h.no t.2 (fC.mpr ⟨t,i,rfl⟩);exact⟨u,f,C _ (cC.mp (k u f)).1 λc a=>List.mem_filter.mpr ⟨(bT.mp a).1,a4n λz=>D (by rw[← z];exact(bT.mp a).2)⟩⟩;rintro⟨u,f,rfl⟩;exact k u f
 unfold isR;rw[a4n h.n,a4n h.nd,a4n (bW2 (uF qs cs) (dN2 h.nd) g)];rfl
def bW6{qs:List (Str×List Str)}{cs:List Str}(h:RingB (edg qs) cs):isR qs cs=true:=by
 have hn:=h.n;have nd:=h.nd;have g:∀ (j:Nat) (f:j < cs.length),cs[j]? = some cs[j]:=λj f=>a0a f;have T:=λ(i j:Nat) (hi:i < cs.length) (f:j < cs.length) (l:i < j)=>h.tg i j _ _ l (g i hi) (g j f)
 -- three never I in one
 have v:∀ (i j k:Nat) (hi:i < cs.length) (f:j < cs.length) (s:k < cs.length),i < j->j < k->∀ e∈edg qs,cs[i]∈e->cs[j]∈e->cs[k]∈e->False:=λi j k hi f s l Z e t o p V=>by
  have a1:=(T i j hi f l).mp ⟨e,t,o,p⟩;have a2:=(T j k f s Z).mp ⟨e,t,p,V⟩;have a3:=(T i k hi s (by lia)).mp ⟨e,t,o,V⟩;lia
 have two:∀ (i j:Nat) (hi:i < cs.length) (f:j < cs.length),i < j->∀ q∈qs,cs[i]∈q.2->cs[j]∈q.2->inS cs q.2=[cs[i],cs[j]]:=λi j hi f l q u o p=>by
  have F:∀ c∈inS cs q.2,c=cs[i]\/c=cs[j]:=λc r=>by
   obtain⟨C,w⟩:=bT.mp r;obtain⟨k,s,rfl⟩:=a7d C;have t:q.2∈edg qs:=fC.mpr ⟨q,u,rfl⟩;by_cases J:k=i;subst J;exact .inl rfl;by_cases e2:k=j;subst e2;exact .inr rfl;exfalso;rcases Nat.lt_or_ge k i with h | h;exact v k i j s hi f h l q.2 t w o p;rcases Nat.lt_or_ge k j with h' | h';exact v i k j hi s f (by lia) h' q.2 t o w p;exact v i j k hi f s l (by lia) q.2 t o p w
  have J:inS cs q.2=cs.filter λc=>decide (c=cs[i]\/c=cs[j]):=List.filter_congr λc r=>decide_eq_decide.mpr ⟨λhm=>F c (bT.mpr ⟨r,hm⟩),λz=>by
   rcases z with z | z<;>rw[z];exact o;exact p⟩
  rw[J];have e:cs=cs.take i++cs[i]::((cs.drop (i+1)).take (j-i-1)++cs[j]::cs.drop (j+1)):=by
   have C:cs=cs.take i++cs[i]::cs.drop (i+1):=by rw[← List.drop_eq_getElem_cons hi,List.take_append_drop]
   have K:j-i-1 < (cs.drop (i+1)).length:=by rw[a7f];lia
   have h3:(cs.drop (i+1))[j-i-1]=cs[j]:=by rw[List.getElem_drop];congr 1;lia
   have h4:(cs.drop (i+1)).drop (j-i-1+1)=cs.drop (j+1):=by rw[List.drop_drop];congr 1;lia
   have w:cs.drop (i+1)=(cs.drop (i+1)).take (j-i-1)++cs[j]::cs.drop (j+1):=by
    conv=>lhs;rw[← List.take_append_drop (j-i-1) (cs.drop (i+1)),List.drop_eq_getElem_cons K,h3,h4]
   conv=>lhs;rw[C,w]
  have D:=nd;rw[e]at D;obtain⟨_,n2,n3⟩:=List.nodup_append.mp D;obtain⟨W,n5⟩:=a7e.mp n2;obtain⟨_,n6,n7⟩:=List.nodup_append.mp n5;have n8:=(a7e.mp n6).1;generalize G:cs[i]=x at *;generalize X:cs[j]=y at *
  conv=>lhs;rw[e]
  have f0:(cs.take i).filter (λc=>decide (c=x\/c=y))=[]:=List.filter_eq_nil_iff.mpr λc r z=>by
   rcases of_decide_eq_true z with z | z;exact n3 c r x (by simp) z;exact n3 c r y (by simp) z
  have f1:((cs.drop (i+1)).take (j-i-1)).filter (λc=>decide (c=x\/c=y))=[]:=List.filter_eq_nil_iff.mpr λc r z=>by
   rcases of_decide_eq_true z with z | z;exact W (by rw[← z];exact a6d _ r);exact n7 c r y (by simp) z
  have f2:(cs.drop (j+1)).filter (λc=>decide (c=x\/c=y))=[]:=List.filter_eq_nil_iff.mpr λc r z=>by
   rcases of_decide_eq_true z with z | z;exact W (by rw[← z];exact a1c _ (a6a _ r));exact n8 (by rw[← z];exact r)
  rw[List.filter_append,f0,List.filter_cons_of_pos (by simp),List.filter_append,f1,List.filter_cons_of_pos (by simp),f2];rfl
 have E:∀ (i j:Nat) (hi:i < cs.length) (f:j < cs.length),i < j->(j=i+1\/i=0/\j+1=cs.length)->[cs[i],cs[j]]∈cF qs cs:=λi j hi f l L=>by
  obtain⟨e,t,o,p⟩:=(T i j hi f l).mpr L;obtain⟨q,u,rfl⟩:=fC.mp t;rw[← two i j hi f l q u o p];refine cC.mpr ⟨((cT qs cs).2 _).mpr ⟨q,u,rfl⟩,λb hb F=>?_⟩;obtain⟨q',M,rfl⟩:=((cT qs cs).2 b).mp hb;have k1:=(bT.mp (F _ (bT.mpr ⟨a6b hi,o⟩))).2;have k2:=(bT.mp (F _ (bT.mpr ⟨a6b f,p⟩))).2;rw[two i j hi f l q u o p,two i j hi f l q' M k1 k2]
 have N:∀ x,x∈cF qs cs↔x∈nbr cs:=λx=>by
  rw[yM (by lia)];constructor
  ·intro G;obtain⟨C,w⟩:=cC.mp G;obtain⟨q,u,rfl⟩:=((cT qs cs).2 x).mp C
   -- a A of one in it
   have nb:∀ (i:Nat) (hi:i < cs.length),∃ a∈cF qs cs,cs[i]∈a:=λi hi=>by
    by_cases O:i+1=cs.length;exact⟨_,E 0 i (by lia) hi (by lia) (.inr ⟨rfl,O⟩),by simp⟩;exact⟨_,E i (i+1) hi (by lia) (by lia) (.inl rfl),by simp⟩
   have len2:∀ a∈cF qs cs,∀ c∈a,(∀ d∈inS cs q.2,d=c)->inS cs q.2=a:=λa ha c r hd=>w a (cC.mp ha).1 λd P=>by rw[hd d P];exact r
   by_cases Q:∃ i j,∃ (hi:i < cs.length) (f:j < cs.length),i < j/\cs[i]∈q.2/\cs[j]∈q.2;obtain⟨i,j,hi,f,l,o,p⟩:=Q;exact⟨i,j,_,_,l,g i hi,g j f,(T i j hi f l).mp ⟨q.2,fC.mpr ⟨q,u,rfl⟩,o,p⟩,two i j hi f l q u o p⟩;have one:∃ (i:Nat) (hi:i < cs.length),∀ d∈inS cs q.2,d=cs[i]:=by
    by_cases h0:∃ (i:Nat) (hi:i < cs.length),cs[i]∈q.2;obtain⟨i,hi,m⟩:=h0;refine⟨i,hi,λd hd=>?_⟩;obtain⟨R,H⟩:=bT.mp hd;obtain⟨k,s,rfl⟩:=a7d R;rcases Nat.lt_trichotomy i k with z | z | z;exact absurd ⟨i,k,hi,s,z,m,H⟩ Q;subst z;rfl;exact absurd ⟨k,i,s,hi,z,H,m⟩ Q;refine⟨0,by lia,λd hd=>?_⟩;obtain⟨R,H⟩:=bT.mp hd;obtain⟨k,s,rfl⟩:=a7d R;exact absurd ⟨k,s,H⟩ h0
   obtain⟨i,hi,hd⟩:=one
   -- then a pair with Y one is S
   obtain⟨a,ha,U⟩:=nb i hi;have ea:=len2 a ha _ U hd;exfalso;by_cases O:i+1=cs.length;have B:=E 0 i (by lia) hi (by lia) (.inr ⟨rfl,O⟩);have:=len2 _ B cs[i] (by simp) hd;have:=hd cs[0] (by rw[this];simp);exact mZ nd (g 0 (by lia)) (g i hi) (by lia) this;have B:=E i (i+1) hi (by lia) (by lia) (.inl rfl);have:=len2 _ B cs[i] (by simp) hd;have:=hd cs[i+1] (by rw[this];simp);exact mZ nd (g (i+1) (by lia)) (g i hi) (by lia) this
  ·rintro⟨i,j,x,y,l,G,X,L,rfl⟩;obtain⟨hi,rfl⟩:=a2a.mp G;obtain⟨f,rfl⟩:=a2a.mp X;exact E i j hi f l L
 unfold isR;rw[a4n (show 3<=cs.length by lia),a4n nd,a4n (bW2 (uF qs cs) (dN3 nd (by lia)) N),Bool.or_true];rfl
end Mr
namespace Hy
open Classical
section
variable{α:Type}{E:List (List α)}{T Z W:List α}
structure Rn(E:List (List α))(T:List α):Prop where
 few:∀ z∈T,∀ x∈T,∀ y∈T,∀ w∈T,x≠z->y≠z->w≠z->Tg E z x->Tg E z y->Tg E z w->x≠y->w=x\/w=y
 two:∀ z∈T,∀ x∈T,∃ y∈T,y≠z/\y≠x/\Tg E z y
 all:∀ P:α->Prop,(∃ z∈T,P z)->(∀ z∈T,∀ w∈T,P z->w≠z->Tg E z w->P w)->∀ z∈T,P z
def RingB.ad(h:RingB E Z){i j:Nat}(hi:i < Z.length)(b:j < Z.length)(n:i≠j):Tg E Z[i] Z[j]↔(j=i+1\/i=j+1\/i=0/\j+1=Z.length\/j=0/\i+1=Z.length):=by
 have g:∀ (j:Nat) (b:j < Z.length),Z[j]? = some Z[j]:=λj b=>a0a b;rcases Nat.lt_or_ge i j with c | c
 ·rw[h.tg i j _ _ c (g i hi) (g j b)];constructor;rintro(a | a);exact .inl a;exact .inr (.inr (.inl a));intro a;lia
 ·have:=h.tg j i _ _ (by lia) (g j b) (g i hi);rw[show Tg E Z[i] Z[j]↔Tg E Z[j] Z[i]from⟨Tg.symm,Tg.symm⟩,this];constructor;rintro(a | a);exact .inr (.inl a);exact .inr (.inr (.inr a));intro a;lia
theorem RingB.ne(h:RingB E Z){i j:Nat}(hi:i < Z.length)(a:j < Z.length):Z[i]=Z[j]↔i=j:=⟨λe=>(List.getElem?_inj hi h.nd).mp (by rw[a0a hi,a0a a,e]),λe=>by subst e;rfl⟩
def RingB.rn(h:RingB E Z)(m:∀ z,z∈Z↔z∈T):Rn E T:=by
 have hn:=h.n;have d:∀ z∈T,∃ (i:Nat) (hi:i < Z.length),Z[i]=z:=λz l=>a7d ((m z).mpr l);have mem:∀ (i:Nat) (hi:i < Z.length),Z[i]∈T:=λi hi=>(m _).mp (a6b hi);refine⟨λz l x q y C w r t u v D F G H=>?_,λz l x q=>?_,λP I o=>?_⟩;obtain⟨i,hi,rfl⟩:=d z l;obtain⟨a,ha,rfl⟩:=d x q;obtain⟨b,J,rfl⟩:=d y C;obtain⟨c,o,rfl⟩:=d w r;rw[Ne,h.ne]at t u v H;rw[h.ad hi ha (a0e t)]at D;rw[h.ad hi J (a0e u)]at F;rw[h.ad hi o (a0e v)]at G;rw[h.ne,h.ne];lia
 ·obtain⟨i,hi,rfl⟩:=d z l;obtain⟨a,ha,rfl⟩:=d x q;have f:∀ (j:Nat) (p:j < Z.length),j≠i->j≠a->(j=i+1\/i=j+1\/i=0/\j+1=Z.length\/j=0/\i+1=Z.length)->∃ y∈T,y≠Z[i]/\y≠Z[a]/\Tg E Z[i] y:=λj p A K L=>
   ⟨Z[j],mem j p,λe=>A ((h.ne p hi).mp e),λe=>K ((h.ne p ha).mp e),(h.ad hi p (a0e A)).mpr L⟩
  by_cases h0:i=0;by_cases B:a=1;exact f (Z.length-1) (by lia) (by lia) (by lia) (by lia);exact f 1 (by lia) (by lia) (by lia) (by lia);by_cases O:i+1=Z.length;by_cases B:a=0;exact f (i-1) (by lia) (by lia) (by lia) (by lia);exact f 0 (by lia) (by lia) (by lia) (by lia);by_cases B:a=i+1;exact f (i-1) (by lia) (by lia) (by lia) (by lia);exact f (i+1) (by lia) (by lia) (by lia) (by lia)
 ·obtain⟨z,l,M⟩:=I;obtain⟨i,hi,rfl⟩:=d z l;have up:∀ k (g:i+k < Z.length),P Z[i+k]:=by
   intro k
   induction k with
   | zero=>intro g;exact M
   | succ k s=>
     intro g;exact o Z[i+k] (mem _ _) Z[i+(k+1)] (mem _ _) (s (by lia)) (λe=>by have:=(h.ne g (by lia)).mp e;lia) ((h.ad (by lia) g (by lia)).mpr (.inl (by lia)))
  have N:P Z[0]:=by
   have:=up (Z.length-1-i) (by lia);have e:i+(Z.length-1-i)=Z.length-1:=by lia
   simp only[e]at this;exact o Z[Z.length-1] (mem _ _) Z[0] (mem _ _) this (λe=>by have:=(h.ne (by lia) (by lia)).mp e;lia) ((h.ad (by lia) (by lia) (by lia)).mpr (.inr (.inr (.inr ⟨rfl,by lia⟩))))
  have all:∀ k (g:k < Z.length),P Z[k]:=by
   intro k
   induction k with
   | zero=>intro g;exact N
   | succ k s=>
     intro g;exact o Z[k] (mem _ _) Z[k+1] (mem _ _) (s (by lia)) (λe=>by have:=(h.ne g (by lia)).mp e;lia) ((h.ad (by lia) g (by lia)).mpr (.inl rfl))
  intro w r;obtain⟨k,g,rfl⟩:=d w r;exact all k g
structure Wy(E:List (List α))(T W:List α):Prop where
 nd:W.Nodup
 sub:∀ w∈W,w∈T
 ch:∀ (i:Nat) (h:i+1 < W.length),Tg E W[i] W[i+1]
theorem Wy.ne(h:Wy E T W){i j:Nat}(hi:i < W.length)(a:j < W.length):W[i]=W[j]↔i=j:=⟨λe=>(List.getElem?_inj hi h.nd).mp (by rw[a0a hi,a0a a,e]),λe=>by subst e;rfl⟩
def Wy.mid(h:Wy E T W)(r:Rn E T){i:Nat}(h0:0 < i)(hi:i+1 < W.length){w:α}(b:w∈T)(d:w≠W[i])(t:Tg E W[i] w):w=W[i-1]\/w=W[i+1]:=by
 have m:∀ (j:Nat) (a:j < W.length),W[j]∈T:=λj a=>h.sub _ (a6b a);have c:=h.ch (i-1) (by lia);have e:i-1+1=i:=by lia
 simp only[e]at c;refine r.few W[i] (m _ _) W[i-1] (m _ _) W[i+1] (m _ _) w b (λz=>by have:=(h.ne (by lia) (by lia)).mp z;lia) (λz=>by have:=(h.ne hi (by lia)).mp z;lia) d c.symm (h.ch i hi) t λz=>by have:=(h.ne (by lia) hi).mp z;lia
def Wy.on(h:Wy E T W)(r:Rn E T)(o:0 < W.length)(out:∃ z∈T,z∉W):∃ c∈T,c∉W/\Tg E (W[W.length-1]'(by lia)) c:=by
 apply a4d;intro st;have m:∀ (j:Nat) (f:j < W.length),W[j]∈T:=λj f=>h.sub _ (a6b f);have b:∀ w∈T,Tg E (W[W.length-1]'(by lia)) w->w∈W:=λw e t=>a4d λz=>st ⟨w,e,z,t⟩;obtain⟨z,s,u⟩:=out;refine u (r.all (· ∈ W) ⟨W[0],m 0 o,a6b o⟩ (λa ha w e g p t=>?_) z s);obtain⟨i,hi,rfl⟩:=a7d g;by_cases D:i+1=W.length
 ·have:i=W.length-1:=by lia
  subst this;exact b w e t
 ·by_cases h0:i=0
  ·subst h0
   -- k b l other d is k first one
   have v:2<=W.length:=by lia
   obtain⟨y,x,A,B,ty⟩:=r.two (W[W.length-1]'(by lia)) (m _ _) (W[W.length-2]'(by lia)) (m _ _);have C:=b y x ty;obtain⟨j,f,rfl⟩:=a7d C;have q:j≠W.length-1:=λz=>A (by subst z;rfl);have F:j≠W.length-2:=λz=>B (by subst z;rfl);by_cases n:j=0;subst n;rcases r.few W[0] (m _ _) W[1] (m _ _) (W[W.length-1]'(by lia)) (m _ _) w e (λz=>by have:=(h.ne (by lia) (by lia)).mp z;lia) (λz=>q ((h.ne (by lia) (by lia)).mp z).symm) p (h.ch 0 (by lia)) ty.symm t (λz=>by have:=(h.ne (by lia) (by lia)).mp z;lia)with z | z;rw[z];exact a6b _;rw[z];exact a6b _;have:=h.mid r (i:=j) (by lia) (by lia) (m (W.length-1) (by lia)) (λz=>q ((h.ne (by lia) (by lia)).mp z).symm) ty.symm;rcases this with z | z;have:=(h.ne (by lia) (by lia)).mp z;lia;have:=(h.ne (by lia) (by lia)).mp z;lia
  ·rcases h.mid r (i:=i) (by lia) (by lia) e p t with z | z;rw[z];exact a6b _;rw[z];exact a6b _
def Wy.ring(h:Wy E T W)(r:Rn E T)(n:4<=W.length)(d:∀ z∈T,z∈W):RingB E W:=by
 have m:∀ (j:Nat) (a:j < W.length),W[j]∈T:=λj a=>h.sub _ (a6b a);refine⟨h.nd,n,λi j x y q e b=>?_⟩;obtain⟨hi,rfl⟩:=a2a.mp e;obtain⟨a,rfl⟩:=a2a.mp b;constructor
 ·intro t;by_cases f:j=i+1;exact .inl f;by_cases h0:i=0;subst h0;by_cases c:j+1=W.length;exact .inr ⟨rfl,c⟩;rcases h.mid r (i:=j) (by lia) (by lia) (m 0 hi) (λz=>by have:=(h.ne hi a).mp z;lia) t.symm with z | z;have:=(h.ne hi (by lia)).mp z;lia;have:=(h.ne hi (by lia)).mp z;lia;rcases h.mid r (i:=i) (by lia) (by lia) (m j a) (λz=>by have:=(h.ne a hi).mp z;lia) t with z | z;have:=(h.ne a (by lia)).mp z;lia;have:=(h.ne a (by lia)).mp z;lia
 ·rintro(rfl | ⟨rfl,c⟩);exact h.ch i a;obtain⟨y,b,g,l,ty⟩:=r.two W[0] (m _ _) W[1] (m _ _);obtain⟨k,o,rfl⟩:=a7d (d y b);have s:k≠0:=λz=>g (by subst z;rfl);have k1:k≠1:=λz=>l (by subst z;rfl);by_cases p:k+1=W.length
  ·have:k=j:=by lia
   subst this;exact ty
  ·rcases h.mid r (i:=k) (by lia) (by lia) (m 0 hi) (λz=>by have:=(h.ne hi o).mp z;lia) ty.symm with z | z;have:=(h.ne hi (by lia)).mp z;lia;have:=(h.ne hi (by lia)).mp z;lia
end
end Hy
namespace Mr
open PySem Sx Hy
noncomputable def aD3(qs:List (Str×List Str))(x y:Str):Bool:=qs.any λq=>decide (x∈q.2)&&decide (y∈q.2)
def aD4{qs:List (Str×List Str)}{x y:Str}:aD3 qs x y=true↔Tg (edg qs) x y:=by
 unfold aD3;rw[List.any_eq_true];constructor;rintro⟨q,a,h⟩;simp only[Bool.and_eq_true,decide_eq_true_eq]at h;exact⟨q.2,fC.mpr ⟨q,a,rfl⟩,h.1,h.2⟩;rintro⟨e,he,b,c⟩;obtain⟨q,a,rfl⟩:=fC.mp he;exact⟨q,a,by simp[b,c]⟩
noncomputable def ahd(qs:List (Str×List Str))(cs way:List Str):List Str:=cs.filter λc=>!decide (c∈way)&&aD3 qs (way.getLast?.getD default) c
noncomputable def yN(qs:List (Str×List Str))(cs way:List Str):List Str:=way++(ahd qs cs way).take 1
noncomputable def wlk(qs:List (Str×List Str))(cs:List Str):List Str:=(cs.drop 1).foldl (λw _=>yN qs cs w) (cs.take 1)
def cP4{qs:List (Str×List Str)}{T:List Str}(nd:T.Nodup)(on:∀ W,Wy (edg qs) T W->∀ h:0 < W.length,(∃ z∈T,z∉W)->∃ c∈T,c∉W/\Tg (edg qs) (W[W.length-1]'(by lia)) c) :
  Wy (edg qs) T (wlk qs T)/\(wlk qs T).length=T.length:=by
 cases T with
 | nil=>exact⟨⟨.nil,(λ_ h=>nomatch h),(λi h=>absurd (show i+1 < 0 from h) (by lia))⟩,rfl⟩
 | cons t r=>
   have j:∀ (l:List Str) (W:List Str),Wy (edg qs) (t::r) W->0 < W.length->W.length+l.length<=(t::r).length->Wy (edg qs) (t::r) (l.foldl (λw _=>yN qs (t::r) w) W)/\(l.foldl (λw _=>yN qs (t::r) w) W).length=W.length+l.length:=by
    intro l
    induction l with
    | nil=>intro W h _ _;exact⟨h,rfl⟩
    | cons x l s=>
      intro W h h0 u;rw[a8f]at u;have out:∃ z∈t::r,z∉W:=by
       apply a4d;intro z;have:=yL.nd_le nd (m:=W) λy v=>a4d λn=>z ⟨y,v,n⟩;lia
      obtain⟨c,A,B,ct⟩:=on W h h0 out;have k:W.getLast?.getD default=W[W.length-1]'(by lia):=by rw[List.getLast?_eq_getElem?,a0a (by lia)];rfl
      have o:c∈ahd qs (t::r) W:=by
       unfold ahd;rw[List.mem_filter,k];exact⟨A,by rw[aD4.mpr ct];simp[B]⟩
      obtain⟨f,p,e⟩:∃ f p,ahd qs (t::r) W=f::p:=by
       cases he:ahd qs (t::r) W with
       | nil=>rw[he]at o;cases o
       | cons a b=>exact⟨a,b,rfl⟩
      have d:f∈ahd qs (t::r) W:=by rw[e];exact a3a
      unfold ahd at d;rw[List.mem_filter,k]at d;obtain⟨k1,k2⟩:=d;simp only[Bool.and_eq_true,Bool.not_eq_true',decide_eq_false_iff_not]at k2;have C:yN qs (t::r) W=W++[f]:=by unfold yN;rw[e];rfl
      have D:Wy (edg qs) (t::r) (W++[f]):=by
       refine⟨List.nodup_append.mpr ⟨h.nd,by simp,λa ha b q z=>k2.1 (by rw[List.mem_singleton]at q;rw[← q,← z];exact ha)⟩,λw hw=>?_,λi hi=>?_⟩;rcases a5b.mp hw with hw | hw;exact h.sub w hw;rw[a9a.mp hw];exact k1;rw[a3b,List.length_singleton]at hi;by_cases g:i+1 < W.length;rw[List.getElem_append_left (by lia),List.getElem_append_left g];exact h.ch i g;have:i=W.length-1:=by lia
       subst this;rw[List.getElem_append_left (by lia),List.getElem_append_right (by lia)];simp only[List.getElem_singleton];exact aD4.mp k2.2
      rw[List.foldl_cons,C];obtain⟨E,F⟩:=s (W++[f]) D (by rw[a3b];lia) (by rw[a3b,List.length_singleton];lia);exact⟨E,by rw[F,a3b,List.length_singleton,a8f];lia⟩
   obtain⟨k1,k2⟩:=j r [t] ⟨by simp,λw hw=>by rw[List.mem_singleton.mp hw];exact a3a,λi h=>absurd h (by simp)⟩ (by simp) (by simp;lia);exact⟨k1,by show(r.foldl _ [t]).length=_;rw[k2];simp;lia⟩
def cG9{qs:List (Str×List Str)}{T:List Str}(h:Mn (edg qs) T)(r:RingA (edg qs) T\/∃ Z,RingB (edg qs) Z/\∀ z,z∈Z↔z∈T):isR qs (wlk qs T)=true:=by
 have same:∀ {W:List Str},Wy (edg qs) T W->W.length=T.length->∀ z∈T,z∈W:=λ{W} w hl z c=>by
  apply a4d;intro n;have o:=yL.nd_le w.nd (m:=T.erase z) λy l=>(List.mem_erase_of_ne (a:=y) (b:=z) (λe=>n (by rw[← e];exact l))).mpr (w.sub y l);rw[List.length_erase_of_mem c]at o;have:=List.length_pos_of_mem c;lia
 rcases r with r | ⟨Z,f,m⟩;obtain⟨w,d⟩:=cP4 (qs:=qs) h.nd λW w h0 ⟨z,c,p⟩=>⟨z,c,p,r.clq _ (w.sub _ (a6b _)) z c⟩;have g:=same w d;refine bW5 ⟨w.nd,by rw[d];exact r.n,λu i=>?_,λe j=>?_⟩;obtain⟨e,j,q⟩:=r.one u (w.sub u i);exact⟨e,j,λx k=>q x (w.sub x k)⟩;obtain⟨u,i,s⟩:=r.no e j;exact⟨u,g u i,s⟩;have rn:=f.rn m;obtain⟨w,d⟩:=cP4 (qs:=qs) h.nd λW w h0 out=>w.on rn h0 out;have g:=same w d;refine bW6 (w.ring rn ?_ g);have:Z.length<=T.length:=yL.nd_le f.nd λx k=>(m x).mp k;have:=f.n;lia
noncomputable def zG(cs:List Str):List (List Str):=cs.foldl (λps c=>ps++ps.map λa=>a++[c]) [[]]
def aQ4(cs:List Str)(c:Str):zG (cs++[c])=zG cs++(zG cs).map λa=>a++[c]:=by unfold zG;rw[List.foldl_append];rfl
def aJ6(cs:List Str):(zG cs).length=2 ^ cs.length/\(∀ T,T.Sublist cs->T∈zG cs)/\∀ T∈zG cs,T.Sublist cs:=by
 have f:∀ n,∀ cs:List Str,cs.length=n->(zG cs).length=2 ^ n/\(∀ T,T.Sublist cs->T∈zG cs)/\∀ T∈zG cs,T.Sublist cs:=by
  intro n
  induction n with
  | zero=>
    intro cs h;rw[List.length_eq_zero_iff.mp h];refine⟨rfl,λT d=>?_,λT d=>?_⟩;rw[List.sublist_nil.mp d];exact a9a.mpr rfl;rw[a9a.mp d];exact List.Sublist.refl _
  | succ n k=>
    intro cs h;rcases List.eq_nil_or_concat cs with e | ⟨l,c,e⟩;rw[e]at h;cases h
    ·rw[List.concat_eq_append]at e;subst e;obtain⟨m,g,i⟩:=k l (by simpa using h);rw[aQ4];refine⟨by rw[a3b,a1a,m,Nat.pow_succ];lia,λT d=>?_,λT d=>?_⟩
     ·obtain⟨a,b,rfl,j,o⟩:=List.sublist_append_iff.mp d;have p:b=[]\/b=[c]:=by
       cases o with
       | cons _ h=>exact .inl (List.sublist_nil.mp h)
       | cons_cons _ h=>right;rw[List.sublist_nil.mp h]
      rcases p with rfl | rfl;rw[a4g];exact a6d _ (g a j);exact a1c _ (a2c.mpr ⟨a,g a j,rfl⟩)
     ·rcases a5b.mp d with d | d;exact(i T d).trans (List.sublist_append_left _ _);obtain⟨a,ha,rfl⟩:=a2c.mp d;exact(i a ha).append (List.Sublist.refl _)
 exact f _ cs rfl
noncomputable def aX7(qs:List (Str×List Str)):Option (List Str):=((zG (dQ qs)).map (wlk qs)).find? (isR qs)
def bJ1{qs:List (Str×List Str)}(h0:qs≠[])(nd:(dQ qs).Nodup)(h:¬ Acy (edg qs) (dQ qs)):∃ w,aX7 qs=some w/\isR qs w=true:=by
 obtain⟨T,a,b,c⟩:=cZ5 (E:=edg qs) (λz=>h0 (List.map_eq_nil_iff.mp z)) nd h;have d:=cG9 b c;unfold aX7;cases e:((zG (dQ qs)).map (wlk qs)).find? (isR qs)with
 | none=>exact absurd d (by simpa using List.find?_eq_none.mp e (wlk qs T) (List.mem_map_of_mem ((aJ6 _).2.1 T a)))
 | some w=>exact⟨w,rfl,List.find?_some e⟩
noncomputable def gM:Nat->List (Str×List Str)->List (Str×Option Str)
 | 0,_=>[]
 | n+1,aK=>match ears aK with
   | []=>[]
   | p::_=>p::gM n (wo aK p.1)
def Cov(qs:List (Str×List Str))(S:List Str):Prop:=∀ q∈qs,∀ z∈q.2,z∈S
theorem Cov.wo{qs:List (Str×List Str)}{S:List Str}(h:Cov qs S)(z:Str):Cov (wo qs z) S:=λq a=>h q (aC9 a).1
def dN4{qs:List (Str×List Str)}{z:Str}{q:Str×List Str}(h:q∈qs)(n:q.1≠z):q∈wo qs z:=List.mem_filter.mpr ⟨h,by simpa using n⟩
def cH0{qs:List (Str×List Str)}(h:(qs.map Prod.fst).Nodup)(z:Str):((wo qs z).map Prod.fst).Nodup:=h.sublist (bD2 qs z)
def mV{aK:List (Str×List Str)}{p:Str×Option Str}:p∈ears aK↔∃ q∈aK,q.1=p.1/\p.2∈aQ1 aK q.1 q.2:=by
 unfold ears;rw[List.mem_flatMap];constructor;rintro⟨q,a,h⟩;obtain⟨x,b,rfl⟩:=a2c.mp h;exact⟨q,a,rfl,b⟩;rintro⟨q,a,e,h⟩;exact⟨q,a,a2c.mpr ⟨p.2,h,by rw[e]⟩⟩
def cZ6{aK:List (Str×List Str)}(hn:(aK.map Prod.fst).Nodup)(b:2<=aK.length){q:Str×List Str}(a:q∈aK):(wo aK q.1).length≠0:=by
 have:=yH hn ⟨q,a,rfl⟩;lia
def dN5{aK:List (Str×List Str)}(hn:(aK.map Prod.fst).Nodup){q:Str×List Str}(b:q∈aK)(g:List Str):g∈edg aK↔g=q.2\/g∈edg (wo aK q.1):=by
 rw[fC,fC];constructor;rintro⟨t,a,rfl⟩;by_cases e:t.1=q.1;rw[cP0 hn a b e];exact .inl rfl;exact .inr ⟨t,dN4 a e,rfl⟩;rintro(rfl | ⟨t,a,rfl⟩);exact⟨q,b,rfl⟩;exact⟨t,(aC9 a).1,rfl⟩
def bW7{aK:List (Str×List Str)}{S:List Str}(hn:(aK.map Prod.fst).Nodup)(h:2<=aK.length){p:Str×Option Str}(i:p∈ears aK):Acy (edg aK) S↔Acy (edg (wo aK p.1)) S:=by
 obtain⟨q,d,e,a⟩:=mV.mp i;unfold aQ1 at a;rw[a4j (cZ6 hn h d)]at a;obtain⟨f,b,_⟩:=a2c.mp a;obtain⟨b,ha⟩:=List.mem_filter.mp b;rw[← e];refine cZ3 (e:=q.2) (f:=f.2) (dN5 hn d) (fC.mpr ⟨f,b,rfl⟩) λx j Z0=>?_;obtain⟨g,k,c⟩:=Z0;obtain⟨t,l,rfl⟩:=fC.mp k;have:=a6g.mp ha x (List.mem_filter.mpr ⟨j,a4n (kW.mpr ⟨t,l,c⟩)⟩);exact of_decide_eq_true this
def bW8{aK:List (Str×List Str)}{S:List Str}(hn:(aK.map Prod.fst).Nodup)(f:2<=aK.length)(cv:Cov aK S)(h:Acy (edg aK) S):ears aK≠[]:=λz=>by
 obtain⟨l,m,q⟩:=h;obtain⟨i,j,hi,b,n,o⟩:=q.has_ear (by rw[a1a];exact f);rw[a1a]at hi b;have d:∀ {k:Nat} (a:k < aK.length),(edg aK)[k]?.getD []=aK[k].2:=λa=>by rw[a8b,a0a a];rfl
 have ne:aK[j].1≠aK[i].1:=λe=>n ((List.getElem?_inj (l:=aK.map Prod.fst) (by rw[a1a];exact hi) hn).mp (by rw[a8b,a8b,a0a hi,a0a b];exact a4q some e.symm));have:(aK[i].1,some aK[j].1)∈ears aK:=by
  refine mV.mpr ⟨aK[i],a6b hi,rfl,?_⟩;unfold aQ1;rw[a4j (cZ6 hn f (a6b hi))];refine a2c.mpr ⟨aK[j],List.mem_filter.mpr ⟨dN4 (a6b b) ne,a6g.mpr λc p=>a4n ?_⟩,rfl⟩;obtain⟨g,r⟩:=List.mem_filter.mp p;obtain⟨t,s,ct⟩:=kW.mp (of_decide_eq_true r);obtain⟨u,v⟩:=aC9 s;obtain⟨k,a,rfl⟩:=a7d u;have:=o c ((m c).mpr (cv _ (a6b hi) c g)) (by rw[d hi];exact g) ⟨k,λz=>v (by subst z;rfl),by rw[a1a];exact a,by rw[d a];exact ct⟩;rwa[d b]at this
 rw[z]at this;cases this
def bW9(q:Str×List Str)(S:List Str):Acy (edg [q]) S:=by
 refine⟨S,λ_=>Iff.rfl,?_⟩
 induction S with
 | nil=>trivial
 | cons v b c=>exact⟨⟨q.2,by simp,λf d _ x _ a=>by rw[show f=q.2 by simpa using d]at a;exact a⟩,c⟩
def cH1(q:Str×List Str):ears [q]=[(q.1,none)]:=by
 have:wo [q] q.1=[]:=List.filter_eq_nil_iff.mpr λx a=>by rw[a9a.mp a];simp
 unfold ears aQ1;rw[List.flatMap_cons,this];rfl
theorem aQ5{S:List Str}:∀ (n:Nat) (aK:List (Str×List Str)),aK.length=n->(aK.map Prod.fst).Nodup->Cov aK S->1<=n->((gM n aK).length=n↔Acy (edg aK) S)
 | 0,_,_,_,_,h=>absurd h (by decide)
 | 1,aK,hl,hn,cv,_=>by
   obtain⟨q,rfl⟩:=List.length_eq_one_iff.mp hl;unfold gM;rw[cH1];exact⟨λ_=>bW9 q S,λ_=>rfl⟩
 | n+2,aK,hl,hn,cv,_=>by
   unfold gM;cases e:ears aK with
   | nil=>exact⟨λh=>by simp at h,λh=>absurd e (bW8 hn (by lia) cv h)⟩
   | cons p r=>
     have a:p∈ears aK:=by rw[e];exact a3a
     obtain⟨q,b,c,_⟩:=mV.mp a;have f:=yH hn ⟨q,b,c⟩;have d:=aQ5 (S:=S) (n+1) (wo aK p.1) (by lia) (cH0 hn _) (cv.wo _) (by lia);rw[bW7 hn (by lia) a,← d,a8f];lia
theorem bE0:∀ (n:Nat) (aK:List (Str×List Str)),(gM n aK).length<=n
 | 0,_=>a8a _
 | n+1,aK=>by
   unfold gM;cases ears aK with
   | nil=>simp
   | cons p r=>have:=bE0 n (wo aK p.1);simp;lia
theorem aD5:∀ (n:Nat) (aK:List (Str×List Str)),aK.length=n->(aK.map Prod.fst).Nodup->(gM n aK).length=n->bI9 aK (gM n aK)=true
 | 0,aK,hl,_,_=>by unfold gM bI9;exact a4n hl
 | n+1,aK,hl,hn,a=>by
   unfold gM at a ⊢;cases e:ears aK with
   | nil=>rw[e]at a;simp at a
   | cons p r=>
     rw[e]at a;have b:p∈ears aK:=by rw[e];exact a3a
     obtain⟨q,c,d,_⟩:=mV.mp b;have f:=yH hn ⟨q,c,d⟩;unfold bI9;rw[a4n b,aD5 n (wo aK p.1) (by lia) (cH0 hn _) (by simpa using a)];rfl
open L2 Dv
local macro_rules | `(tactic| walk_at "dx")=>do
 let l:=("yG pG yF yA xZ yB yE vP nY cD9 pX pY pZ qA qB qC qE qF qG qH qI qJ qK qL qM qN aH5 qO jW lM qQ lN lO lP qR qS aH6 qT qU aH7 qV qW qX qY qZ lQ rB rC rD lR rE rF rG rH rJ rK tZ rL rM rN lT lU rO rP rQ rR rS rT rV aH8 lV iP lW rW lX sJ sK sL sM sN sO sP sQ sR mT aH9 sS mI iR gB tY mS mR sT mJ mK mL sU sV sW sY sZ aI0 aI1 aI2 tD tE tF mM mO mP tG mQ iQ tH zL tI tJ aI3 tK cE1 tL tM oN bV tN tO tP tQ rX rY rZ sA sC sD sE sF lY lZ mB sH sI reduceIte aC0 aB2 aB7 aP5 aP6".splitOn " ").toArray.map fun s=>Lean.mkIdent s.toName
 let m:=("yC yD aX3 tR tT tU zM aI4 Int.reducePow Int.reduceNeg Int.reduceLT Int.reduceLE Nat.reducePow Nat.reduceLT Int.reduceToNat Nat.reduceLeDiff tX cX5 cX6 cX7 cX8 cX9 cY0 cY1 cY2 cY3 tV aI5 tW mD mE mG mH aP9 List.getElem?_cons_succ List.getElem?_cons_zero Option.getD_some List.set_cons_zero List.set_cons_succ eM aT1 List.length_cons List.length_nil Nat.reduceAdd Nat.zero_add true_and and_true and_self Bool.not_false Bool.not_true Bool.false_eq_true Bool.true_and Bool.and_true Bool.or_false decide_eq_true_eq".splitOn " ").toArray.map fun s=>Lean.mkIdent s.toName
 `(tactic| simp only[$[↓$l:ident],*,$[$m:ident],*])
def sl4:10000<=sizeLine:=by decide
def bX0{k:List Str}(h:∀ z∈k,As z):Ok 1 (tS k):=.tup (oks h)
def bX1(x y:List Str)(h:tS x=tS y):x=y:=by
 injection h with h
 exact(List.map_inj_right aJ3).mp h
def aQ6{cs:List Str}(j:cs.length<=6){K:Res->List Sl->Prop}(k:K (.own (.lst ((zG cs).map tS))) [⟨.val,tS cs⟩]):CK gF [⟨.val,tS cs⟩] K:=by
 have sl:=sl4;unfold gF;rw[eC];show RS iH [_,none,none,none] _;unfold iH;walk_at "dx";refine⟨a5c _,by decide,jD (λi a=>i<=6/\∃ b d,a=[some ⟨.val,tS cs⟩,some ⟨.own,.lst ((zG (cs.take i)).map tS)⟩,ov b d,none]) ⟨by decide,false,.non,rfl⟩ ?_ ?_⟩
 ·rintro i d a hd ⟨hi,b,d',rfl⟩;obtain⟨c,f,rfl⟩:=iL hd;have l:(zG (cs.take i)).length<=64:=by
   rw[(aJ6 _).1,a8d];exact a4c (Nat.pow_le_pow_right (by decide) (by lia:min i cs.length<=6)) (by decide)
  have g:=(a2a.mp f).1;have h:∀ T∈zG (cs.take i),T.length<=6:=λT e=>by have:=((aJ6 _).2.2 T e).length_le;rw[a8d]at this;lia
  walk_at "dx";refine⟨by rw[a1a];lia,fM (λT=>tS (T++[c])) tS (zG (cs.take i)) [_,_,_,none] rfl (λT e=>?_) ?_⟩;have:=h T e;walk_at "dx";exact⟨by decide,by rw[a1a];lia,by show Res.val (.tup _)=.val (.tup ((T++[c]).map D.str));rw[a3c];rfl⟩;walk_at "dx";refine⟨by rw[a1a,a1a];lia,_,.inl rfl,by lia,true,.str c,?_⟩;rw[show cs.take (i+1)=cs.take i++[c] by rw[a2f,f];rfl,aQ4,a3c,List.map_map];rfl
 ·rintro a ⟨_,b,d,rfl⟩;walk_at "dx";rw[a1a,List.take_length];exact k
def aX8{qs:List (Str×List Str)}{x y:Str}(b:Qn qs)(c:As x)(d:As y){K:Res->List Sl->Prop}(k:K (.val (.bl (aD3 qs x y))) [⟨.val,qD qs⟩,⟨.val,.str x⟩,⟨.val,.str y⟩]):CK dN [⟨.val,qD qs⟩,⟨.val,.str x⟩,⟨.val,.str y⟩] K:=by
 have sl:=sl4;unfold dN;rw[eC];show RS dY [_,_,_,none,none] _;unfold dY;walk_at "dx";refine⟨by rw[a1a];have:=b.1;lia,fM (λq=>.bl (decide (x∈q.2)&&decide (y∈q.2))) qP qs [_,_,_,none,none] rfl (λq a=>?_) ?_⟩;have ha:∀ z∈q.2,As z:=λz e=>((b.2 q a).2.2 z e).2;walk_at "dx";refine jJ c ha ?_;walk_at "dx";split;rename_i h;refine jJ d ha ?_;walk_at "dx";rw[a4n h];rfl;rename_i h;rw[a4k h];rfl;rw[show(qs.map λq=>D.bl (decide (x∈q.2)&&decide (y∈q.2)))=(qs.map λq=>decide (x∈q.2)&&decide (y∈q.2)).map D.bl by rw[List.map_map];rfl];walk_at "dx";rw[List.any_map];exact k
def aX9(l:List Str){n:Int}(h:0<=n):aL0 (l.map D.str) none (some n)=(l.take n.toNat).map D.str:=by rw[aC5 _ h,a3i]
def aQ7(l:List Str){n:Int}(h:0<=n):aL0 (l.map D.str) (some n) none=(l.drop n.toNat).map D.str:=by rw[cF8 _ h,List.map_drop]
def cZ7{l:List D}{i:Nat}(h:0<=(0+(i:Int)))(hi:i+2<=l.length):aL0 l (some (0+(i:Int))) (some (0+(i:Int)+2))=(l.drop i).take 2:=by
 unfold aL0;have a:HT.sIx l.length 0 (some (0+(i:Int)))=i:=by rw[show(0+(i:Int))=((i:Nat):Int) by lia,HT.sIx_nat];lia
 have b:HT.sIx l.length l.length (some (0+(i:Int)+2))=i+2:=by rw[show(0+(i:Int)+2)=((i+2:Nat):Int) by lia,HT.sIx_nat];lia
 rw[a,b,show i+2-i=2 by lia]
def wC{α:Type}{o:Option α}{x:α}{K:α->Prop}(e:o=some x)(k:K x):OK1 o K:=iE.mpr ⟨x,e,k⟩
def bE1{l:List Str}(h:l≠[]):atI (l.map D.str) (-1)=some (.str (l.getLast?.getD default)):=by
 rcases List.eq_nil_or_concat l with e | ⟨r,c,e⟩;exact absurd e h;rw[List.concat_eq_append]at e;subst e;rw[a3c];show atI (r.map D.str++[D.str c]) (-1)=_;rw[bV5];simp
def bX2{qs:List (Str×List Str)}{cs:List Str}(s:Qn qs)(n:∀ z∈cs,As z)(v:cs.length<=100){K:Res->List Sl->Prop}(k:(∀ z∈wlk qs cs,z∈cs)->(wlk qs cs).length<=cs.length->K (.val (tS (wlk qs cs))) [⟨.val,qD qs⟩,⟨.val,tS cs⟩]):CK kQ [⟨.val,qD qs⟩,⟨.val,tS cs⟩] K:=by
 have sl:=sl4;unfold kQ;rw[eC];show RS nX [_,_,none,none,none,none] _;unfold nX;walk_at "dx";rw[aX9 _ (by decide),aQ7 _ (by decide)];show OK1 (cN2 _ _ ((cs.drop 1).map D.str) _) _;refine jD (λi o=>∃ W b d p,o=[some ⟨.val,qD qs⟩,some ⟨.val,tS cs⟩,some ⟨.val,tS W⟩,ov b d,fo p,none]/\W=((cs.drop 1).take i).foldl (λw _=>yN qs cs w) (cs.take 1)/\(∀ z∈W,z∈cs)/\W.length<=min 1 cs.length+i/\(i < (cs.drop 1).length->W≠[])) ⟨cs.take 1,false,.non,none,rfl,rfl,λz a=>a3e a,by rw[a8d];lia,λh z=>?_⟩ ?_ ?_;rw[a7f]at h;have:=a4q List.length z;rw[a8d,a3h]at this;lia
 ·rintro i d o hd ⟨W,b,d',p,rfl,m,f,j,q⟩;obtain⟨c,l,rfl⟩:=iL hd;have hi:=(a2a.mp l).1;have g:=q hi;rw[a7f]at hi;have r:∀ z∈W,As z:=λz a=>n z (f z a);have t:As (W.getLast?.getD default):=by
   rw[List.getLast?_eq_some_getLast g];exact r _ (List.getLast_mem g)
  walk_at "dx";refine⟨by rw[a1a];lia,bB (λc=>!decide (c∈W)&&aD3 qs (W.getLast?.getD default) c) D.str D.str cs [_,_,_,_,_,none] rfl (λz a=>?_) ?_⟩;walk_at "dx";refine jJ (n z a) r ?_;walk_at "dx";by_cases h:z∈W;simp only[decide_eq_true h,Bool.not_true];walk_at "dx";rfl;simp only[decide_eq_false h,Bool.not_false];walk_at "dx";rw[bE1 g];walk_at "dx";refine aX8 s t (n z a) ?_;walk_at "dx";walk_at "dx";rw[aX9 _ (by decide)];have u:((cs.filter λc=>!decide (c∈W)&&aD3 qs (W.getLast?.getD default) c).take (1:Int).toNat)=(ahd qs cs W).take 1:=rfl;rw[u];have x:((ahd qs cs W).take 1).length<=1:=by rw[a8d];lia
  refine⟨by rw[a1a,a1a];lia,_,.inl rfl,yN qs cs W,true,_,some (true,_),by unfold yN;rw[← a3c];rfl,by rw[show(cs.drop 1).take (i+1)=(cs.drop 1).take i++[c] by rw[a2f,l];rfl,List.foldl_append,← m];rfl,λz a=>?_,by unfold yN;rw[a3b];lia,λ_ z=>?_⟩;unfold yN at a;rcases a5b.mp a with h | h;exact f z h;exact(List.mem_filter.mp (a3e h)).1;unfold yN at z;exact g (List.append_eq_nil_iff.mp z).1
 ·rintro o ⟨W,b,d,p,rfl,m,f,j,_⟩;rw[a1a,List.take_length]at m;rw[a1a,a7f]at j;have e:W=wlk qs cs:=m;subst e;walk_at "dx";exact k f (by lia)
def bJ2{qs:List (Str×List Str)}{cs:List Str}(u:Qn qs)(e:∀ z∈cs,As z)(y:cs.length<=100){K:Res->List Sl->Prop}(k:K (.own (.lst ((fU qs cs).map tS))) [⟨.val,qD qs⟩,⟨.val,tS cs⟩]):CK jH [⟨.val,qD qs⟩,⟨.val,tS cs⟩] K:=by
 have sl:=sl4;have w:=u.1;unfold jH;rw[eC];show RS kR [_,_,none,none,none,none,none] _;unfold kR;walk_at "dx";refine⟨a5c _,jD (λi f=>∃ g j l m n o,f=[some ⟨.val,qD qs⟩,some ⟨.val,tS cs⟩,some ⟨.own,.lst ((fU (qs.take i) cs).map tS)⟩,ov g j,ov l m,ov n o,none]) ⟨false,.non,false,.non,false,.non,rfl⟩ ?_ ?_⟩
 ·rintro i d f hd ⟨g,j,l,m,n,o,rfl⟩;obtain⟨q,b,rfl⟩:=iL hd;have p:=a7b b;have ha:∀ z∈q.2,As z:=λz a=>((u.2 q p).2.2 z a).2;have sa:∀ k∈fU (qs.take i) cs,∀ z∈k,As z:=λk r z a=>by
   obtain⟨t,_,rfl⟩:=((cT _ _).2 k).mp r;exact e z (bT.mp a).1
  have x:=yK (qs.take i) cs;rw[a8d]at x;walk_at "dx";refine⟨by rw[a1a];lia,bB (λc=>decide (c∈q.2)) D.str D.str cs [_,_,_,_,_,_,none] rfl (λz a=>?_) ?_⟩;walk_at "dx";refine jJ (e z a) ha ?_;walk_at "dx";walk_at "dx";show OK1 (inD true (tS (inS cs q.2)) (.lst ((fU (qs.take i) cs).map tS))) _;refine pF (bX0 λz a=>e z (bT.mp a).1) (λd hd=>by obtain⟨k,r,rfl⟩:=a2c.mp hd;exact bX0 (sa k r)) (by decide) (by decide) ?_;rw[nZ tS bX1];walk_at "dx";have v:qs.take (i+1)=qs.take i++[q]:=by rw[a2f,b];rfl
  split
  ·rename_i s;have h:¬ inS cs q.2∈fU (qs.take i) cs:=by simpa using s
   refine⟨by rw[a1a];lia,_,.inl rfl,true,.str q.1,true,tS q.2,true,tS (inS cs q.2),?_⟩;rw[v,oG,a4j h,a3c];rfl
  ·rename_i s;have h:inS cs q.2∈fU (qs.take i) cs:=by simpa using s
   refine⟨_,.inl rfl,true,.str q.1,true,tS q.2,true,tS (inS cs q.2),?_⟩;rw[v,oG,a4i h];rfl
 ·rintro f ⟨g,j,l,m,n,o,rfl⟩;walk_at "dx";rw[a1a,List.take_length];exact k
def cZ8{a b:List Str}(ha:∀ z∈a,As z)(d:∀ z∈b,As z)(g:a.length<=100){K:Res->List Sl->Prop}(k:K (.val (.bl (bW1 a b))) [⟨.val,tS a⟩,⟨.val,tS b⟩]):CK eW [⟨.val,tS a⟩,⟨.val,tS b⟩] K:=by
 have sl:=sl4;unfold eW;rw[eC];show RS fG [_,_,none] _;unfold fG;walk_at "dx";refine vO (bX0 ha) (bX0 d) (by decide) (by decide) ?_;rw[show decide (tS a=tS b)=decide (a=b)from decide_eq_decide.mpr ⟨bX1 a b,λe=>by rw[e]⟩];walk_at "dx";by_cases h:a=b;rw[a4n h,a4j (by decide)];unfold bW1 at k;rw[a4n h]at k;exact k;rw[a4k h,a4i (by decide)];refine⟨by rw[a1a];lia,bU6 D.str (λc=>decide (c∈b)) a ?_ ?_⟩;intro y f;walk_at "dx";refine jJ (ha y f) d ?_;walk_at "dx";walk_at "dx";rw[aC7];unfold bW1 at k;rw[a4k h]at k;exact k
def bX3{qs:List (Str×List Str)}{cs:List Str}(c:Qn qs)(d:∀ z∈cs,As z)(e:cs.length<=100){K:Res->List Sl->Prop}(k:K (.own (.lst ((cF qs cs).map tS))) [⟨.val,qD qs⟩,⟨.val,tS cs⟩]):CK eX [⟨.val,qD qs⟩,⟨.val,tS cs⟩] K:=by
 have sl:=sl4;have f:=c.1;have sa:∀ k∈fU qs cs,(∀ z∈k,As z)/\k.length<=100:=λk g=>by
  obtain⟨t,_,rfl⟩:=((cT _ _).2 k).mp g;exact⟨λz h=>d z (bT.mp h).1,a4c (List.length_filter_le _ _) e⟩
 have j:=yK qs cs;unfold eX;rw[eC];show RS fH [_,_,none,none,none] _;unfold fH;walk_at "dx";refine bJ2 c d e ?_;walk_at "dx";refine⟨by rw[a1a];lia,bB (λa=>!((fU qs cs).any λb=>bW1 a b)) tS tS (fU qs cs) [_,_,_,none,none] rfl (λa ha=>?_) ?_⟩;walk_at "dx";refine⟨by rw[a1a];lia,fM (λb=>.bl (bW1 a b)) tS (fU qs cs) [_,_,_,_,none] rfl (λb i=>?_) ?_⟩;walk_at "dx";refine cZ8 (sa a ha).1 (sa b i).1 (sa a ha).2 ?_;walk_at "dx";rw[show((fU qs cs).map λb=>D.bl (bW1 a b))=((fU qs cs).map λb=>bW1 a b).map D.bl by rw[List.map_map];rfl];walk_at "dx";rw[List.any_map];rfl;walk_at "dx";exact k
local macro_rules | `(tactic| walk_at "dy")=>`(tactic| simp -implicitDefEqProofs only[↓yG,↓aC0,↓oN,↓aB2,↓aB7,↓pG,↓yF,↓yA,↓xZ,↓yB,↓yE,yC,yD,aX3,↓vP,↓nY,↓cD9,↓pX,↓pY,↓pZ,↓qA,↓qB,↓qC,↓qE,↓qF,↓qG,↓qH,↓qI,↓qJ,↓qK,↓qL,↓qM,↓qN,↓aH5,↓qO,↓jW,↓lM,↓qQ,↓lN,↓lO,↓lP,↓qR,↓qS,↓aH6,↓qT,↓qU,↓aH7,↓qV,↓qW,↓qX,↓qY,↓qZ,↓lQ,↓rB,↓rC,↓rD,↓lR,↓rE,↓rF,↓rG,↓rH,↓rJ,↓rK,↓tZ,↓rL,↓rM,↓rN,↓lT,↓lU,↓rO,↓rP,↓rQ,↓rR,↓rS,↓rT,↓rV,↓aH8,↓lV,↓iP,↓lW,↓rW,↓lX,↓sJ,↓sK,↓sL,↓sM,↓sN,↓sO,↓sP,↓sQ,↓sR,↓mT,↓aH9,↓sS,↓mI,↓iR,↓gB,↓tY,↓mS,↓mR,↓sT,↓mJ,↓mK,↓mL,↓sU,↓sV,↓sW,↓sY,↓sZ,↓aI0,↓aI1,↓aI2,↓tD,↓tE,↓tF,↓mM,↓mO,↓mP,↓tG,↓mQ,↓iQ,↓tH,↓zL,↓tI,↓tJ,↓aI3,↓tK,↓cE1,↓tL,↓tM,↓oN,↓bV,tR,tT,tU,zM,aI4,Int.reducePow,Int.reduceNeg,Int.reduceLT,Int.reduceLE,Nat.reducePow,Nat.reduceLT,Int.reduceToNat,Nat.reduceLeDiff,↓tN,↓tO,↓tP,↓tQ,tX,cX5,cX6,cX7,cX8,cX9,cY0,cY1,cY2,cY3,tV,aI5,tW,↓rX,↓rY,↓rZ,↓sA,↓sC,↓sD,↓sE,↓sF,↓lY,↓lZ,↓mB,↓sH,↓sI,mD,mE,mG,mH,aP9,List.getElem?_cons_succ,List.getElem?_cons_zero,Option.getD_some,List.set_cons_zero,List.set_cons_succ,eM,aT1,List.length_cons,List.length_nil,Nat.reduceAdd,Nat.zero_add,true_and,and_true,and_self,Bool.not_false,Bool.not_true,Bool.false_eq_true,Bool.true_and,Bool.and_true,Bool.or_false,↓reduceIte,decide_eq_true_eq])
def dN6{cs:List Str}(f:cs.length<=100):cK [⟨.val,tS cs⟩]=some (.own (.lst ((abo cs).map tS)),[⟨.val,tS cs⟩]):=by
 have sl:=sl4;have a:∀ K:Res->List Sl->Prop,K (.own (.lst ((abo cs).map tS))) [⟨.val,tS cs⟩]->∃ x,cK [⟨.val,tS cs⟩]=some x/\K x.1 x.2:=by
  intro K k;apply iE.mp;show CK cK [⟨.val,tS cs⟩] K;unfold cK;rw[eC];show RS fJ [_,none] _;unfold fJ;walk_at "dy";refine⟨by rw[a1a];lia,by rw[cA,a1a];lia,?_⟩;rw[a1a,a8h];refine fM (λi:Nat=>tS (cs.take i++cs.drop (i+1))) (λi:Nat=>.int (0+(i:Int))) (List.range cs.length) [_,none] rfl (λi hi=>?_) ?_;have b:=a9c.mp hi;walk_at "dx";rw[aX9 _ (by lia),aQ7 _ (by lia),show(0+(i:Int)).toNat=i by lia,show(0+(i:Int)+1).toNat=i+1 by lia];refine⟨by rw[a1a,a1a,a8d,a7f];lia,?_⟩;show Res.val (.tup _)=.val (.tup ((cs.take i++cs.drop (i+1)).map D.str));rw[a3c];walk_at "dx";unfold abo at k;rw[List.map_map]at k;exact k
 obtain⟨x,e,c,d⟩:=a (λr as'=>r=.own (.lst ((abo cs).map tS))/\as'=[⟨.val,tS cs⟩]) ⟨rfl,rfl⟩;rw[e];exact a4q some (Prod.ext c d)
def dN7{cs:List Str}(a:cs.length<=100){K:Res->List Sl->Prop}:CK cK [⟨.val,tS cs⟩] K=K (.own (.lst ((abo cs).map tS))) [⟨.val,tS cs⟩]:=by
 unfold CK;rw[dN6 a,bV]
def dN8{cs:List Str}(a:3<=cs.length)(c:cs.length<=100){K:Res->List Sl->Prop}(k:K (.own (.lst ((nbr cs).map tS))) [⟨.val,tS cs⟩]):CK fK [⟨.val,tS cs⟩] K:=by
 have sl:=sl4;unfold fK;rw[eC];show RS gG [_,none,none] _;unfold gG;walk_at "dx";refine⟨by rw[a1a];lia,by rw[cA,a1a];lia,?_⟩;rw[a1a,show((cs.length:Int)-1).toNat=cs.length-1 by lia];refine fM (λi:Nat=>tS ((cs.drop i).take 2)) (λi:Nat=>.int (0+(i:Int))) (List.range (cs.length-1)) [_,none,none] rfl (λi hi=>?_) ?_;have b:=a9c.mp hi;walk_at "dx";show Res.val (.tup _)=.val (.tup (((cs.drop i).take 2).map D.str));rw[cZ7 (by lia) (by rw[a1a];lia),← List.map_drop,← a3i];walk_at "dx";refine wC (x:=.str (cs.getD 0 default)) ?_ (wC (x:=.str (cs.getD (cs.length-1) default)) ?_ ⟨by decide,by decide,by rw[a1a,a1f];lia,?_⟩)
 ·have h0:0 < cs.length:=by lia
  unfold atI;rw[cY9 (by decide) (by rw[a1a];lia)];show(cs.map D.str)[0]? = _;rw[a8b,a0a h0,a5a,a0a h0];rfl
 ·rw[bE1 (λz=>by rw[z]at a;simp at a),List.getLast?_eq_getElem?,a5a]
 ·unfold nbr at k;rw[a3c,List.map_map]at k;exact k
def cP5{cs:List Str}:(nud [] cs < cs.length)↔¬ cs.Nodup:=by
 have h:=bS1 cs [];have l:=bC5 cs [];constructor;intro z nd;have:=h.mpr ⟨nd,λ_ _=>List.not_mem_nil⟩;lia;intro nd;refine Nat.lt_of_le_of_ne l λe=>nd (h.mp e).1
def bE2{ks:List (List Str)}(h:∀ k∈ks,∀ z∈k,As z):Ok 2 (.lst (ks.map tS)):=.lst λd hd=>by obtain⟨k,a,rfl⟩:=a2c.mp hd;exact bX0 (h k a)
def bX4{a b:List (List Str)}:(D.lst (a.map tS)=D.lst (b.map tS))↔a=b:=⟨λh=>by injection h with h;exact(List.map_inj_right bX1).mp h,λe=>by rw[e]⟩
def bJ3{qs:List (Str×List Str)}{cs:List Str}(A:Qn qs)(M:qs.length<=60)(f:∀ z∈cs,As z)(B:cs.length<=60){K:Res->List Sl->Prop}(k:K (.val (.bl (isR qs cs))) [⟨.val,qD qs⟩,⟨.val,tS cs⟩]):CK jI [⟨.val,qD qs⟩,⟨.val,tS cs⟩] K:=by
 have sl:=sl4;unfold jI;rw[eC];show RS kS [_,_,none] _;unfold kS;walk_at "dx";rw[a1a];by_cases N:cs.length < 3
 ·rw[a4i (by lia)];have:isR qs cs=false:=by unfold isR;rw[a4k (by lia)];rfl
  rw[this]at k;exact k
 ·rw[a4j (by lia)];refine⟨by lia,?_⟩;by_cases e:cs.Nodup
  ·have C:nud [] cs=cs.length:=aO9.mpr e;rw[a4j (by lia)];have p:∀ k∈cF qs cs,∀ z∈k,As z:=λk d z m=>by
    obtain⟨t,_,rfl⟩:=((cT _ _).2 k).mp (cC.mp d).1;exact f z (bT.mp m).1
   have O:=bJ0 qs cs
   -- of two unlike ones none is empty
   have E:2<=(cF qs cs).length->∀ k∈cF qs cs,k≠[]:=λF k d z=>by
    subst z;obtain⟨_,h0⟩:=cC.mp d
    match hw:cF qs cs,F with
    | a::b::r,_=>
      have nd:=uF qs cs;have ha:a∈cF qs cs:=by rw[hw];simp
      have G:b∈cF qs cs:=by rw[hw];simp
      have H:=h0 a (cC.mp ha).1 λc f=>absurd f List.not_mem_nil;have I:=h0 b (cC.mp G).1 λc f=>absurd f List.not_mem_nil;rw[hw,← H,← I]at nd;simp at nd
   have q:∀ k∈abo cs,(∀ z∈k,As z)/\k≠[]:=λk d=>by
    obtain⟨u,P,rfl⟩:=(aJ5 e).mp d;refine⟨λz m=>f z (List.mem_filter.mp m).1,λz=>?_⟩;have g:∀ (j:Nat) (s:j < cs.length),cs[j]? = some cs[j]:=λj s=>a0a s;have h0:=List.filter_eq_nil_iff.mp z cs[0] (a6b _);have v:=List.filter_eq_nil_iff.mp z cs[1] (a6b _);simp only[decide_eq_true_eq,Classical.not_not]at h0 v;exact mZ e (g 0 (by lia)) (g 1 (by lia)) (by decide) (h0.trans v.symm)
   have w:∀ k∈nbr cs,(∀ z∈k,As z)/\k≠[]:=λk d=>by
    obtain⟨i,j,x,y,_,J,L,_,rfl⟩:=(yM (by lia)).mp d;refine⟨λz m=>?_,by simp⟩;simp only[List.mem_cons,List.not_mem_nil,or_false]at m;rcases m with rfl | rfl;exact f _ (a7b J);exact f _ (a7b L)
   have Q:(abo cs).length=cs.length:=by unfold abo;rw[a1a,a1f]
   have R:(nbr cs).length=cs.length:=by unfold nbr;rw[a3b,a1a,a1f,List.length_singleton];lia
   have sa:∀ {l:List (List Str)},(∀ k∈l,∀ z∈k,As z)->∀ k∈sX l,∀ z∈k,As z:=λ{l} h k d=>h k ((bS4 l).1.mem_iff.mp d);refine bX3 A f (by lia) ?_;walk_at "dx";rw[bS8];refine⟨⟨by lia,E⟩,?_⟩;walk_at "dx";have n:cs.length<=100:=a4c B (by decide);rw[dN7 n];walk_at "dx";rw[bS8];refine⟨⟨by lia,λ_ k d=>(q k d).2⟩,?_⟩;walk_at "dx";refine vO (bE2 (sa p)) (bE2 (sa λk d=>(q k d).1)) (by decide) (by decide) ?_;rw[show decide (D.lst ((sX (cF qs cs)).map tS)=D.lst ((sX (abo cs)).map tS))=decide (sX (cF qs cs)=sX (abo cs))from decide_eq_decide.mpr bX4];walk_at "dx";by_cases o:sX (cF qs cs)=sX (abo cs)
   ·rw[a4i o];have:isR qs cs=true:=by unfold isR;rw[a4n (by lia:3<=cs.length),a4n e,a4n o];rfl
    rw[this]at k;exact k
   ·rw[a4j o];refine dN8 (by lia) (by lia) ?_;walk_at "dx";rw[bS8];refine⟨⟨by lia,λ_ k d=>(w k d).2⟩,?_⟩;walk_at "dx";refine vO (bE2 (sa p)) (bE2 (sa λk d=>(w k d).1)) (by decide) (by decide) ?_;rw[show decide (D.lst ((sX (cF qs cs)).map tS)=D.lst ((sX (nbr cs)).map tS))=decide (sX (cF qs cs)=sX (nbr cs))from decide_eq_decide.mpr bX4];have:isR qs cs=decide (sX (cF qs cs)=sX (nbr cs)):=by unfold isR;rw[a4n (by lia:3<=cs.length),a4n e,a4k o,Bool.true_and,Bool.true_and,Bool.false_or]
    rw[this]at k;walk_at "dx";exact k
  ·have:=cP5.mpr e;rw[a4i (by lia)];have:isR qs cs=false:=by unfold isR;rw[a4k e,Bool.false_and,a9h]
   rw[this]at k;exact k
def bJ4{qs:List (Str×List Str)}(c:Qn qs)(o:qs.length<=60)(p:(dQ qs).length<=6){K:Res->List Sl->Prop}(k:K (.val (match aX7 qs with | some w=>tS w | none=>.non)) [⟨.val,qD qs⟩]):CK mU [⟨.val,qD qs⟩] K:=by
 have sl:=sl4;have q:=aJ4 c;unfold mU;rw[eC];show RS kU [_,none,none] _;unfold kU;walk_at "dx";refine vD c ?_;walk_at "dx";refine aQ6 p ?_;walk_at "dx";refine bR4 (λi h=>(((zG (dQ qs)).take i).map (wlk qs)).find? (isR qs)=none/\∃ b d j d',h=[some ⟨.val,qD qs⟩,ov b d,ov j d']) ⟨rfl,false,.non,false,.non,rfl⟩ ?_ ?_
 ·rintro i d h hd ⟨a,b,s,j,t,rfl⟩;obtain⟨T,f,rfl⟩:=iL hd;have m:=(aJ6 _).2.2 T (a7b f);have u:=m.length_le;have n:∀ z∈T,As z:=λz l=>q z (m.subset l);walk_at "dx";refine bX2 c n (by lia) λr v=>?_;walk_at "dx";refine bJ3 c o (λz l=>n z (r z l)) (by lia) ?_;walk_at "dx";have hi:=(a2a.mp f).1;by_cases g:isR qs (wlk qs T)=true
  ·rw[a4i g];refine .inr (.inl ⟨_,_,rfl,?_⟩);have:aX7 qs=some (wlk qs T):=by
    unfold aX7;have e:zG (dQ qs)=(zG (dQ qs)).take i++T::(zG (dQ qs)).drop (i+1):=by
     conv=>lhs;rw[← List.take_append_drop i (zG (dQ qs)),List.drop_eq_getElem_cons hi,(a2a.mp f).2]
    rw[e,a3c,List.find?_append,a,a8e,List.find?_cons_of_pos g];rfl
   rw[this]at k;walk_at "dx";exact k
  ·rw[a4j g];refine .inl ⟨_,.inl rfl,?_,true,_,true,_,rfl⟩;rw[a2f,f,a3c,List.find?_append,a];show[wlk qs T].find? (isR qs)=none;rw[List.find?_cons_of_neg g];rfl
 ·rintro h ⟨a,b,d,j,d',rfl⟩;rw[a1a,List.take_length]at a;walk_at "dx";rw[show aX7 qs=none from a]at k;exact k
def aQ8{qs:List (Str×List Str)}(c:Qn qs)(hn:(qs.map Prod.fst).Nodup){K:Res->List Sl->Prop}(k:K (.own (.lst ((gM qs.length qs).map eD))) [⟨.val,qD qs⟩]):CK iS [⟨.val,qD qs⟩] K:=by
 have sl:=sl4;have h:=c.1;unfold iS;rw[eC];show RS iG [_,none,none,none] _;unfold iG;walk_at "dx";refine⟨a5c _,aD1 c ?_⟩;walk_at "dx";refine uW (λm τ=>∃ aK done,m=aK.length/\Qn aK/\(aK.map Prod.fst).Nodup/\done++gM aK.length aK=gM qs.length qs/\done.length+aK.length=qs.length/\τ=[some ⟨.val,qD qs⟩,some ⟨.val,qD aK⟩,some ⟨.own,.lst (done.map eD)⟩,some ⟨.own,.lst ((ears aK).map eD)⟩]) qs.length (by lia) ⟨qs,[],rfl,c,hn,rfl,by simp,rfl⟩ ?_;rintro m τ ⟨aK,done,rfl,a,b,d,i,rfl⟩;walk_at "dx";cases e:ears aK with
 | nil=>
   refine wC (x:=false) rfl ?_;rw[a4j (by decide)];have:gM aK.length aK=[]:=by
    cases aK.length with
    | zero=>rfl
    | succ n=>unfold gM;rw[e]
   rw[this,a4g]at d;subst d;exact k
 | cons p r=>
   have g:p∈ears aK:=by rw[e];exact a3a
   obtain⟨q,f,j,_⟩:=mV.mp g;have s:=yH b ⟨q,f,j⟩;have l:=bU9 a g;refine wC (x:=true) rfl ?_;rw[a4i rfl];refine wC (x:=eD p) (by rw[a8e];exact dX0) ⟨by rw[a1a];lia,wC (x:=eD p) (by rw[a8e];exact dX0) ?_⟩;walk_at "dx";refine aD0 a l.1.2 ?_;walk_at "dx";refine aD1 (a.wo _) ?_;walk_at "dx";refine .inl ⟨_,_,.inl rfl,by lia,wo aK p.1,done++[p],rfl,a.wo _,cH0 b _,?_,by rw[a3b,List.length_singleton];lia,by rw[a3c];rfl⟩;rw[← d];have o:aK.length=(wo aK p.1).length+1:=by lia
   rw[o];rw[List.append_assoc]
   conv=>rhs;unfold gM
   rw[e];rfl
def cH2:∀ {qs:List (Str×List Str)},(∀ q∈qs,q.2.Nodup)->(dQ qs).Nodup:=by
 intro qs;have c:∀ n,∀ qs:List (Str×List Str),qs.length=n->(∀ q∈qs,q.2.Nodup)->(dQ qs).Nodup:=by
  intro n
  induction n with
  | zero=>intro qs h _;rw[List.length_eq_zero_iff.mp h];exact .nil
  | succ n d=>
    intro qs h hd;rcases List.eq_nil_or_concat qs with e | ⟨l,q,e⟩;rw[e]at h;cases h;rw[List.concat_eq_append]at e;subst e;rw[aC8];refine List.nodup_append.mpr ⟨d l (by simpa using h) λq f=>hd q (a6d _ f),(hd q (by simp)).sublist List.filter_sublist,λa ha b g e=>?_⟩;have:=(List.mem_filter.mp g).2;rw[← e]at this;simp[ha]at this
 exact c _ qs rfl
def Qw.cn{qs:List (Str×List Str)}(h:Qw qs):(dQ qs).Nodup/\(dQ qs).length<=6:=by
 have nd:=cH2 h.cd;obtain⟨cs,b,c⟩:=h.cs;refine⟨nd,?_⟩;rw[← b];exact yL.nd_le nd λz a=>by
  obtain⟨q,d,a⟩:=uC a;exact c q d z a
abbrev bX5(qs:List (Str×List Str)):Prop:=Acy (edg qs) (dQ qs)
def bE3(qs:List (Str×List Str)):Cov qs (dQ qs):=λq a z b=>kW.mpr ⟨q,a,b⟩
def Qw.tk{qs:List (Str×List Str)}(h:Qw qs):(gM qs.length qs).length=qs.length↔bX5 qs:=aQ5 qs.length qs rfl h.nd (bE3 qs) h.l1
open Classical in
noncomputable def aY0(qs:List (Str×List Str)):D:=if bX5 qs then .tup [.str "ears",.lst ((gM qs.length qs).map eD)]else .tup [.str "ring",match aX7 qs with | some w=>tS w | none=>.non]
def zQ{qs:List (Str×List Str)}(a:Qn qs){K:Res->List Sl->Prop}(k:K (.val (tS (dQ qs))) [⟨.val,qD qs⟩]):CK dZ [⟨.val,qD qs⟩] K:=by
 have:dZ=cU:=rfl;rw[this];exact vD a k
def aQ9{aK:List (Str×List Str)}(hn:(aK.map Prod.fst).Nodup)(b:2<=aK.length){z:Str}(a:∃ q∈aK,q.1=z){h:Str}:(z,some h)∈ears aK↔h∈gZ aK z:=by
 have:=bV2 hn (z,some h);rw[← decide_eq_true_iff (p:=(z,some h)∈ears aK),this];unfold uE;rw[uD.mpr a,a4k (by lia:¬ aK.length=1),a4n (by lia:1 < aK.length)];simp
def cH3{aK:List (Str×List Str)}(hn:(aK.map Prod.fst).Nodup)(c:2<=aK.length)(h:∀ q∈aK,gZ aK q.1=[]):ears aK=[]:=by
 refine List.eq_nil_iff_forall_not_mem.mpr λp g=>?_;obtain⟨q,b,e,d⟩:=mV.mp g;have a:=d;unfold aQ1 at a;rw[a4j (cZ6 hn c b)]at a;obtain⟨f,_,i⟩:=a2c.mp a;have:(q.1,some f.1)∈ears aK:=mV.mpr ⟨q,b,rfl,by rw[i];exact d⟩;have:=(aQ9 hn c ⟨q,b,rfl⟩).mp this;rw[h q b]at this;cases this
structure StK(qs aK:List (Str×List Str))(found:List D):Prop where
 l1:1<=aK.length
 ln:found.length+aK.length=qs.length
 q:Qn aK
 nd:(aK.map Prod.fst).Nodup
 cv:Cov aK (dQ qs)
 ac:bX5 qs↔Acy (edg aK) (dQ qs)
noncomputable abbrev stS(a b:Int)(qs aK:List (Str×List Str))(found:List D)(c d e:Option Sl):Sg:=[some ⟨.par,.lst [.int a,.int b]⟩,some ⟨.val,qD qs⟩,some ⟨.own,.lst (aK.map qP)⟩,some ⟨.own,.lst found⟩,c,d,e,none,none]
def bX6{a b:Int}{qs:List (Str×List Str)}(h:Qw qs){K:Res->List Sl->Prop}(k1:∀ l g j,bX5 qs->K (.own (.lst l)) [⟨.par,.lst [.int g,.int j]⟩,⟨.val,qD qs⟩])(k2:∀ g j,¬ bX5 qs->K (.val .non) [⟨.par,.lst [.int g,.int j]⟩,⟨.val,qD qs⟩]):CK dX [⟨.par,.lst [.int a,.int b]⟩,⟨.val,qD qs⟩] K:=by
 have sl:10000<=sizeLine:=by decide
 have Z:=h.l6;have G:=h.l1;unfold dX;rw[eC];show RS eN [_,_,none,none,none,none,none,none,none] _;unfold eN;walk_at "dx";refine⟨a5c _,?_⟩;refine uW (λm τ=>∃ aK found g j v C E w,m=aK.length/\StK qs aK found/\τ=stS g j qs aK found (fo v) (ov C E) (fo w)) qs.length (by lia) ⟨qs,[],a,b,none,false,.non,none,rfl,⟨G,by simp,h.qn,h.nd,bE3 qs,Iff.rfl⟩,rfl⟩ ?_;rintro m τ ⟨aK,found,g,j,v,C,E,w,rfl,s,rfl⟩;have H:=s.ln;have k:=s.q;unfold stS;walk_at "dx";rw[a1a];by_cases t:2<=aK.length
 ·rw[a4i (by lia)];refine⟨by lia,bB (λq:Str×List Str=>!(gZ aK q.1).isEmpty) (λq=>.str q.1) qP aK [_,_,some ⟨.lent,.lst (aK.map qP)⟩,_,fo v,none,fo w,none,none] rfl (λq c=>?_) ?_⟩;walk_at "dx";refine pH (.inr (.inl ⟨rfl,rfl⟩)) k s.nd ⟨q,c,rfl⟩ ?_;walk_at "dx";refine⟨a5c _,aC4 (n:=0) (oks λz o=>(bD3 k z o).2) (by decide) ?_⟩;walk_at "dx";cases gZ aK q.1<;>rfl;walk_at "dx";have I:(aK.filter λq=>!(gZ aK q.1).isEmpty).map (λq=>D.str q.1)=((aK.filter λq=>!(gZ aK q.1).isEmpty).map Prod.fst).map D.str:=by rw[List.map_map];rfl
  have J:((aK.filter λq=>!(gZ aK q.1).isEmpty).map Prod.fst).length<=aK.length:=by rw[a1a];exact List.length_filter_le _ _
  have A:∀ z∈(aK.filter λq=>!(gZ aK q.1).isEmpty).map Prod.fst,(∃ q∈aK,q.1=z)/\gZ aK z≠[]:=λz o=>by
   obtain⟨q,p,rfl⟩:=a2c.mp o;obtain⟨p,F⟩:=List.mem_filter.mp p;exact⟨⟨q,p,rfl⟩,λe=>by rw[e]at F;cases F⟩
  rw[I];generalize L:(aK.filter λq=>!(gZ aK q.1).isEmpty).map Prod.fst=S at J A;refine⟨a5c _,aC4 (n:=0) (oks λz o=>by obtain⟨⟨q,p,e⟩,_⟩:=A z o;rw[← e];exact(k.2 q p).1.2) (by decide) ?_⟩;walk_at "dx";have lS:(S.map D.str).length=S.length:=a1a _;by_cases u:S=[]
  ·have M:ears aK=[]:=cH3 s.nd t λq c=>by
    cases e:gZ aK q.1 with
    | nil=>rfl
    | cons x y=>
      have:q.1∈(aK.filter λq=>!(gZ aK q.1).isEmpty).map Prod.fst:=a2c.mpr ⟨q,List.mem_filter.mpr ⟨c,by rw[e];rfl⟩,rfl⟩;rw[L,u]at this;cases this
   subst u;rw[a4i (show(List.map D.str []).isEmpty=true from rfl)];exact .inr (.inl ⟨_,_,rfl,k2 g j λa=>bW8 s.nd t s.cv (s.ac.mp a) M⟩)
  ·rw[a4j (by cases S with | nil=>exact absurd rfl u | cons z r=>exact λz=>nomatch z)];have N:=List.length_pos_iff.mpr u;refine dO (by lia) (by lia) λd a1 b1 O d1=>?_;obtain⟨z,P,hm⟩:=bU3 D.str (l:=S) (i:=d) O (by lia);obtain⟨f,B⟩:=A z hm;have o:Tx z:=by obtain⟨q,p,rfl⟩:=f;exact(k.2 q p).1
   have Q:=yH s.nd f;walk_at "dx";rw[P];walk_at "dx";refine pH (.inl ⟨rfl,rfl⟩) k s.nd f ?_;walk_at "dx";have hL:=bV0 (aK:=aK) (z:=z);have R:=List.length_pos_iff.mpr B;have lL:((gZ aK z).map D.str).length=(gZ aK z).length:=a1a _;refine dO (by lia) (by lia) λT U V W e1=>?_;obtain⟨y,X,Y⟩:=bU3 D.str (l:=gZ aK z) (i:=T) W (by lia);walk_at "dx";rw[X];walk_at "dx";refine⟨sl2,by lia,by rw[a1a];lia,bB (λq:Str×List Str=>!decide (q.1=z)) qP qP aK [_,_,some ⟨.lent,.lst (aK.map qP)⟩,_,_,_,_,none,none] rfl (λq c=>?_) ?_⟩;walk_at "dx";refine vQ (k.2 q c).1.2 o.2 ?_;walk_at "dx";walk_at "dx";have ok:(z,some y)∈ears aK:=(aQ9 s.nd t f).mpr Y;exact .inl ⟨_,(wo aK z).length,.inl rfl,by lia,wo aK z,found++[D.tup [.str z,.str y]],U,V,some (true,.lst (S.map D.str)),true,.str z,some (true,.lst ((gZ aK z).map D.str)),rfl,⟨by lia,by rw[a3b];simp only[List.length_cons,List.length_nil];lia,k.wo _,cH0 s.nd _,s.cv.wo _,s.ac.trans (bW7 s.nd t ok)⟩,rfl⟩
 ·rw[a4j (by lia)];obtain⟨q,rfl⟩:=List.length_eq_one_iff.mp (by have:=s.l1;lia:aK.length=1);refine wC (x:=qP q) rfl ?_;walk_at "dx";exact⟨sl2,a4c (by decide) sl2,by lia,k1 _ g j (s.ac.mpr (bW9 _ _))⟩
noncomputable def iJ(cs own:List Str):List Int:=((List.range cs.length).filter λk:Nat=>decide (cs.getD k default∈own)).map λk:Nat=>0+(k:Int)
noncomputable def tr(cs:List Str)(l:List Int):List Str:=l.map λk=>cs.getD k.toNat default
def cH4(cs:List Str):(List.range cs.length).map (λk=>cs.getD k default)=cs:=by
 refine a9g λi=>?_;rw[a8b];by_cases hi:i < cs.length;rw[List.getElem?_range hi,a0a hi];simp[hi];rw[a9e (by simp;lia),a9e (by lia)];rfl
def cZ9(cs own:List Str):tr cs (iJ cs own)=inS cs own:=by
 unfold tr iJ inS;rw[List.map_map]
 conv=>rhs;rw[← cH4 cs]
 rw[List.filter_map];refine List.map_congr_left λk _=>?_;show cs.getD (0+(k:Int)).toNat default=cs.getD k default;rw[show(0+(k:Int)).toNat=k by lia]
def cH5{cs a b:List Str}(h:∀ c∈cs,c∈a↔c∈b):iJ cs a=iJ cs b:=by
 unfold iJ;congr 1;refine List.filter_congr λk d=>decide_eq_decide.mpr (h _ ?_);have:=a9c.mp d;rw[a5a,a0a this];exact a6b this
def aR0(cs own:List Str):iJ cs (inS cs own)=iJ cs own:=cH5 λc a=>by rw[bT];exact⟨λh=>h.2,λh=>⟨a,h⟩⟩
def aR1(cs own:List Str):SoG (λa b:Int=>decide (a < b)) (iJ cs own):=by
 unfold SoG iJ;refine List.pairwise_map.mpr ((List.pairwise_lt_range.sublist List.filter_sublist).imp λ{a b} h=>?_);simp;lia
def dU3(cs own:List Str):sG (λa b:Int=>decide (a < b)) (iJ cs own)=iJ cs own:=cW4 xQ (.refl _) (aR1 cs own)
def aR2{cs own:List Str}{x:Int}:x∈iJ cs own↔∃ k:Nat,k < cs.length/\cs.getD k default∈own/\x=0+(k:Int):=by
 unfold iJ;rw[a2c];constructor;rintro⟨k,c,rfl⟩;obtain⟨a,b⟩:=List.mem_filter.mp c;exact⟨k,a9c.mp a,by simpa using b,rfl⟩;rintro⟨k,a,b,rfl⟩;exact⟨k,List.mem_filter.mpr ⟨a9c.mpr a,by simpa using b⟩,rfl⟩
def cP6{cs a b:List Str}(nd:cs.Nodup):(∀ x∈iJ cs a,x∈iJ cs b)↔∀ c∈inS cs a,c∈inS cs b:=by
 constructor
 ·intro h c i;obtain⟨d,f⟩:=bT.mp i;obtain⟨k,g,rfl⟩:=a7d d;have e:cs.getD k default=cs[k]:=by rw[a5a,a0a g];rfl
  obtain⟨j,_,l,n⟩:=aR2.mp (h (0+(k:Int)) (aR2.mpr ⟨k,g,by rw[e];exact f,rfl⟩));have:j=k:=by lia
  subst this;exact bT.mpr ⟨d,by rw[← e];exact l⟩
 ·intro h x m;obtain⟨k,d,f,rfl⟩:=aR2.mp m;have e:cs.getD k default=cs[k]:=by rw[a5a,a0a d];rfl
  have:=h cs[k] (bT.mpr ⟨a6b d,by rw[← e];exact f⟩);exact aR2.mpr ⟨k,d,by rw[e];exact(bT.mp this).2,rfl⟩
def cP7{cs a b:List Str}:iJ cs a=iJ cs b↔inS cs a=inS cs b:=⟨λh=>by rw[← cZ9,← cZ9,h],λh=>by rw[← aR0 cs a,h,aR0]⟩
noncomputable def grt(ls:List (List Int)):List (List Int):=ls.foldl (λg x=>if((ls.filter λo=>!decide (x=o)&&x.all λk=>decide (k∈o))=[])/\x∉g then g++[x]else g) []
def dN9(ls:List (List Int)):(grt ls).Nodup/\∀ x,x∈grt ls↔x∈ls/\∀ o∈ls,(∀ k∈x,k∈o)->x=o:=by
 have top:∀ x,((ls.filter λo=>!decide (x=o)&&x.all λk=>decide (k∈o))=[])↔∀ o∈ls,(∀ k∈x,k∈o)->x=o:=λx=>by
  rw[List.filter_eq_nil_iff];constructor;intro h o f i;have:=h o f;simp only[Bool.and_eq_true,Bool.not_eq_true',decide_eq_false_iff_not,List.all_eq_true,decide_eq_true_eq,not_and]at this;exact a4d λn=>this n i;intro h o f;simp only[Bool.and_eq_true,Bool.not_eq_true',decide_eq_false_iff_not,List.all_eq_true,decide_eq_true_eq,not_and];exact λn i=>n (h o f i)
 have j:∀ (l g:List (List Int)),g.Nodup->(l.foldl (λg x=>if((ls.filter λo=>!decide (x=o)&&x.all λk=>decide (k∈o))=[])/\x∉g then g++[x]else g) g).Nodup /\
   ∀ x,x∈l.foldl (λg x=>if((ls.filter λo=>!decide (x=o)&&x.all λk=>decide (k∈o))=[])/\x∉g then g++[x]else g) g↔x∈g\/x∈l/\∀ o∈ls,(∀ k∈x,k∈o)->x=o:=by
  intro l
  induction l with
  | nil=>intro g d;exact⟨d,λx=>by simp⟩
  | cons y r q=>
    intro g d;rw[List.foldl_cons];split
    ·rename_i h;obtain⟨m,p⟩:=q (g++[y]) (List.nodup_append.mpr ⟨d,by simp,λa ha b s z=>h.2 (by rw[List.mem_singleton.mp s]at z;rw[← z];exact ha)⟩);refine⟨m,λx=>?_⟩;rw[p,a5b,a9a,a2b];constructor;rintro((c | rfl) | c);exact .inl c;exact .inr ⟨.inl rfl,(top x).mp h.1⟩;exact .inr ⟨.inr c.1,c.2⟩;rintro(c | ⟨rfl | c,e⟩);exact .inl (.inl c);exact .inl (.inr rfl);exact .inr ⟨c,e⟩
    ·rename_i h;obtain⟨m,p⟩:=q g d;refine⟨m,λx=>?_⟩;rw[p,a2b];constructor;rintro(c | c);exact .inl c;exact .inr ⟨.inr c.1,c.2⟩;rintro(c | ⟨rfl | c,e⟩);exact .inl c;refine .inl (a4d λn=>h ⟨(top x).mpr e,n⟩);exact .inr ⟨c,e⟩
 obtain⟨k1,k2⟩:=j ls [] .nil;exact⟨k1,λx=>(k2 x).trans (by simp)⟩
def cH6{qs:List (Str×List Str)}{cs:List Str}(nd:cs.Nodup):(grt (qs.map λq=>iJ cs q.2)).Perm ((cF qs cs).map (iJ cs)):=by
 obtain⟨l,m⟩:=dN9 (qs.map λq=>iJ cs q.2);have d:∀ a∈cF qs cs,inS cs a=a:=λa ha=>by
  obtain⟨q,_,rfl⟩:=((cT qs cs).2 a).mp (cC.mp ha).1;exact bD8 λc r=>by rw[bT];exact⟨λh=>h.2,λh=>⟨r,h⟩⟩
 have f:((cF qs cs).map (iJ cs)).Nodup:=by
  refine List.pairwise_map.mpr ((uF qs cs).imp_of_mem λ{a b} ha g n e=>n ?_);rw[← d a ha,← d b g];exact cP7.mp e
 refine(List.perm_ext_iff_of_nodup l f).mpr λx=>?_;rw[m,a2c,a2c];constructor;rintro⟨⟨q,i,rfl⟩,h⟩;refine⟨inS cs q.2,cC.mpr ⟨((cT qs cs).2 _).mpr ⟨q,i,rfl⟩,λb g j=>?_⟩,aR0 cs q.2⟩;obtain⟨o,k,rfl⟩:=((cT qs cs).2 b).mp g;exact cP7.mp (h (iJ cs o.2) (a2c.mpr ⟨o,k,rfl⟩) ((cP6 nd).mpr j));rintro⟨a,ha,rfl⟩;obtain⟨s,t⟩:=cC.mp ha;obtain⟨q,i,e⟩:=((cT qs cs).2 a).mp s;refine⟨⟨q,i,by rw[e,aR0]⟩,λo k j=>?_⟩;obtain⟨p,u,rfl⟩:=a2c.mp k;have:a=inS cs p.2:=t (inS cs p.2) (((cT qs cs).2 _).mpr ⟨p,u,rfl⟩) (by have:=(cP6 nd).mp j;rw[d a ha]at this;exact this);rw[this,aR0]
def bE4{cs:List Str}(nd:cs.Nodup){i j:Nat}{hi:i < cs.length}{a:j < cs.length}:cs[i]=cs[j]↔i=j:=⟨λe=>(List.getElem?_inj hi nd).mp (by rw[a0a hi,a0a a,e]),λe=>by subst e;rfl⟩
noncomputable def aI(n:Nat):List (List Int):=(List.range n).map λj:Nat=>((List.range n).filter λk:Nat=>!decide (0+(k:Int)=0+(j:Int))).map λk:Nat=>0+(k:Int)
def dU4{cs:List Str}(nd:cs.Nodup):aI cs.length=(abo cs).map (iJ cs):=by
 unfold aI abo;rw[List.map_map];refine List.map_congr_left λj b=>?_;have b:=a9c.mp b;show _=iJ cs (cs.take j++cs.drop (j+1));unfold iJ;congr 1;refine List.filter_congr λk a=>?_;have a:=a9c.mp a;have e:cs.getD k default=cs[k]:=by rw[a5a,a0a a];rfl
 rw[a9d,a4m,e];simp only[Bool.not_eq_true',decide_eq_false_iff_not];rw[a5b,List.mem_take_iff_getElem,List.mem_drop_iff_getElem];constructor;intro h;by_cases c:k < j;exact .inl ⟨k,by lia,rfl⟩;exact .inr ⟨k-(j+1),by lia,by congr 1;lia⟩;rintro(⟨i,hi,g⟩ | ⟨i,hi,g⟩) z;have:=(bE4 nd).mp g;lia;have:=(bE4 nd).mp g;lia
noncomputable def nI(n:Nat):List (List Int):=(List.range n).map λk:Nat=>sG (λa b:Int=>decide (a < b)) [0+(k:Int),(0+(k:Int)+1) % (n:Int)]
def bX7{cs:List Str}(nd:cs.Nodup){i j:Nat}(hi:i < cs.length)(c:j < cs.length)(m:i≠j){l:List Int}(f:l.Perm [(i:Int),(j:Int)]):sG (λa b:Int=>decide (a < b)) l=iJ cs [cs[i],cs[j]]:=by
 refine cW4 xQ ?_ (aR1 _ _);refine List.Perm.trans ?_ f.symm;have n1:(iJ cs [cs[i],cs[j]]).Nodup:=by
  unfold iJ;exact List.pairwise_map.mpr ((List.nodup_range.sublist List.filter_sublist).imp λ{a b} h e=>h (by lia))
 refine(List.perm_ext_iff_of_nodup n1 (by simp;lia)).mpr λx=>?_;rw[aR2];constructor
 ·rintro⟨k,g,hm,rfl⟩;have e:cs.getD k default=cs[k]:=by rw[a5a,a0a g];rfl
  rw[e]at hm;simp only[List.mem_cons,List.not_mem_nil,or_false]at hm ⊢;rcases hm with hm | hm;have:=(bE4 nd).mp hm;lia;have:=(bE4 nd).mp hm;lia
 ·intro d;simp only[List.mem_cons,List.not_mem_nil,or_false]at d;rcases d with rfl | rfl;exact⟨i,hi,by rw[a5a,a0a hi];simp,by lia⟩;exact⟨j,c,by rw[a5a,a0a c];simp,by lia⟩
def dU5{cs:List Str}(nd:cs.Nodup)(n3:3<=cs.length):nI cs.length=(nbr cs).map (iJ cs):=by
 obtain⟨m,hm⟩:∃ m,cs.length=m+1:=⟨cs.length-1,by lia⟩;unfold nI nbr;rw[a3c,List.map_map,hm,List.range_succ,a3c,Nat.add_sub_cancel];congr 1
 ·refine List.map_congr_left λk a=>?_;have a:=a9c.mp a;have e:(cs.drop k).take 2=[cs[k],cs[k+1]]:=by
   rw[List.drop_eq_getElem_cons (by lia),List.drop_eq_getElem_cons (by lia)];rfl
  show _=iJ cs ((cs.drop k).take 2);rw[e];refine bX7 nd (by lia) (by lia) (by lia) ?_;rw[Int.zero_add,Int.emod_eq_of_lt (by lia) (by lia)];exact .refl _
 ·show[_]=[iJ cs _];congr 1;rw[a5a,a5a,a0a (by lia),a0a (by lia)];refine bX7 nd (by lia) (by lia) (by lia) ?_;rw[Int.zero_add,show((m:Int)+1) % ((m+1:Nat):Int)=((0:Nat):Int) by simp];exact .swap _ _ _
def cP8{cs:List Str}{a b:List (List Str)}(ha:∀ x∈a,inS cs x=x)(c:∀ x∈b,inS cs x=x):(a.map (iJ cs)).Perm (b.map (iJ cs))↔a.Perm b:=by
 refine⟨λh=>?_,λh=>h.map _⟩;have back:∀ l:List (List Str),(∀ x∈l,inS cs x=x)->(l.map (iJ cs)).map (tr cs)=l:=λl d=>by
  rw[List.map_map]
  conv=>rhs;rw[← List.map_id l]
  exact List.map_congr_left λx e=>by show tr cs (iJ cs x)=x;rw[cZ9,d x e]
 have:=h.map (tr cs);rwa[back a ha,back b c]at this
def bX8{cs l:List Str}(h:l.Sublist cs):cs.Nodup->inS cs l=l:=by
 induction h with
 | slnil=>intro _;rfl
 | @cons l cs a h b=>
   intro nd;obtain⟨n1,n2⟩:=a7e.mp nd;show(a::cs).filter _=l;rw[List.filter_cons_of_neg (by simpa using λz=>n1 (h.subset z))];exact b n2
 | @cons_cons l cs a h b=>
   intro nd;obtain⟨n1,n2⟩:=a7e.mp nd;show(a::cs).filter _=a::l;rw[List.filter_cons_of_pos (by simp)];congr 1;rw[← b n2];refine List.filter_congr λc d=>decide_eq_decide.mpr ?_;rw[b n2,a2b];exact⟨λh=>h.resolve_left λz=>n1 (z ▸ d),.inr⟩
def dU6{cs:List Str}(nd:cs.Nodup):∀ x∈abo cs,inS cs x=x:=λx a=>by
 obtain⟨i,_,rfl⟩:=a2c.mp a;refine bX8 ?_ nd
 conv=>rhs;rw[← List.take_append_drop i cs]
 exact(List.Sublist.refl _).append (List.drop_sublist_drop_left cs (by lia))
def dU7{cs:List Str}(nd:cs.Nodup)(n3:3<=cs.length):∀ x∈nbr cs,inS cs x=x:=λx c=>by
 obtain⟨i,j,a,b,f,ha,d,_,rfl⟩:=(yM (by lia)).mp c;obtain⟨hi,rfl⟩:=a2a.mp ha;obtain⟨g,rfl⟩:=a2a.mp d;refine bX8 ?_ nd;have e:(cs[i]::cs.drop (i+1)).Sublist cs:=by rw[← List.drop_eq_getElem_cons hi];exact List.drop_sublist _ _
 refine List.Sublist.trans (List.Sublist.cons_cons _ (List.singleton_sublist.mpr ?_)) e;exact List.mem_drop_iff_getElem.mpr ⟨j-(i+1),by lia,by congr 1;lia⟩
def dO0{qs:List (Str×List Str)}{cs:List Str}:∀ a∈cF qs cs,inS cs a=a:=λa ha=>by
 obtain⟨q,_,rfl⟩:=((cT qs cs).2 a).mp (cC.mp ha).1;exact bD8 λc b=>by rw[bT];exact⟨λh=>h.2,λh=>⟨b,h⟩⟩
def cP9{a b:List (List Str)}:sX a=sX b↔a.Perm b:=⟨λe=>(bS4 a).1.symm.trans (e ▸ (bS4 b).1),aW7⟩
def three{cs:List Str}(n:cs.length=3):(nbr cs).Perm (abo cs):=by
 match cs,n with
 | [a,b,c],_=>
   show[[a,b],[b,c],[a,c]].Perm [[b,c],[a,c],[a,b]];exact(List.Perm.swap _ _ _).trans ((List.Perm.swap _ _ _).cons _)
def dA0{qs:List (Str×List Str)}{cs:List Str}(n3:3<=cs.length)(nd:cs.Nodup):isR qs cs=true↔(sG tlI (grt (qs.map λq=>iJ cs q.2))=sG tlI (aI cs.length)\/3 < cs.length/\sG tlI (grt (qs.map λq=>iJ cs q.2))=sG tlI (nI cs.length)):=by
 have L:=bC4 xQ;have a:=cH6 (qs:=qs) nd;have b:sG tlI (grt (qs.map λq=>iJ cs q.2))=sG tlI (aI cs.length)↔sX (cF qs cs)=sX (abo cs):=by
  rw[cO1 L,cP9,dU4 nd,← cP8 dO0 (dU6 nd)];exact⟨λh=>a.symm.trans h,λh=>a.trans h⟩
 have c:sG tlI (grt (qs.map λq=>iJ cs q.2))=sG tlI (nI cs.length)↔sX (cF qs cs)=sX (nbr cs):=by
  rw[cO1 L,cP9,dU5 nd n3,← cP8 dO0 (dU7 nd n3)];exact⟨λh=>a.symm.trans h,λh=>a.trans h⟩
 rw[b,c];unfold isR;simp only[Bool.and_eq_true,Bool.or_eq_true,decide_eq_true_eq];constructor;rintro⟨_,_,h | h⟩;exact .inl h;by_cases d:3 < cs.length;exact .inr ⟨d,h⟩;exact .inl (h.trans (aW7 (three (by lia))));rintro(h | ⟨_,h⟩);exact⟨n3,nd,.inl h⟩;exact⟨n3,nd,.inr h⟩
noncomputable def dA1:DS:=(bW (dA 7 (dCB uB (aE (aH 7) aV)))
 (bW (pI (eK (aY (eqD false) (aH 7) (dCB uB (aE (cG [13] (zI (aE (aH 3) aV)) (dgN 13) iC (dFz (cG [11] (zI (aE (aH 3) aV)) (dgN 11) (eK (aY (eqD true) (aH 11) (aH 13))) (dFz (aH 11))))) aV)))) (iA (dC (.bl true))) gL)
 (iA (aN1 (aY gtI (aH 3) (dC (.int 3))) (aY (eqD false) (aH 7) (dCB uB (aE (cG [11] (zI (aE (aH 3) aV)) (dgN 11) iC (dFz (dCB xS (aE (nO (aE (dFz (aH 11)) (aE (aY bB4 (aY jK (aH 11) (dC (.int 1))) (aH 3)) aV))) aV)))) aV)))))))
noncomputable def dA2:DS:=(bW (dA 7 (nO aV))
 (bW (xG (dIt (aH 4)) (dgN 8)
 (bW (dA 9 (cG [12] (dIt (aH 4)) (dgN 12) (bZ4 (eK (aY (eqD true) (aH 8) (aH 12))) (eK (dCB bZ5 (aE (cG [11] (dIt (aH 8)) (dgN 11) iC (aY (inD false) (aH 11) (aH 12))) aV)))) (dFz (aH 12))))
 (pI (bZ4 (eK (aY (eqD false) (aH 9) (nO aV))) (eK (aY (inD true) (aH 8) (aH 7)))) (jM (nH "list" 7 aT2 (aE (dFz (aH 8)) aV))) gL)))
 dA1))
noncomputable def dA3:DS:=(bW (dA 4 (nO aV))
 (bW (xG (dIt (aH 0)) (nJ 2 (cL (dgN 5) (cL (dgN 6) lH)))
 (jM (nH "list" 4 aT2 (aE (dFz (dCB xS (aE (cG [11] (zI (aE (aH 3) aV)) (dgN 11) (eK (aY (inD false) (aY ixD (aH 1) (aH 11)) (aH 6))) (dFz (aH 11))) aV))) aV))))
 dA2))
def cH7{n:Nat}(k:List Int):Ok (n+1) (lI k):=.lst okI
def bX9(x y:List Int)(h:lI x=lI y):x=y:=by
 injection h with h
 exact(List.map_inj_right λa b e=>by injection e).mp h
def aD6{n:Nat}(ks:List (List Int)):∀ d∈ks.map lI,Ok (n+1) d:=λd hd=>by
 obtain⟨k,_,rfl⟩:=a2c.mp hd;exact cH7 k
noncomputable abbrev irS(qs:List (Str×List Str))(cs:List Str)(n:Int)(ss:List (List Int))(a b c d e:Option Sl):Sg:=[some ⟨.val,qD qs⟩,some ⟨.val,tS cs⟩,some ⟨.val,tS (dQ qs)⟩,some ⟨.val,.int n⟩,some ⟨.own,.lst (ss.map lI)⟩,a,b,c,d,e,none,none,none,none]
def dU8{qs:List (Str×List Str)}{cs:List Str}{m:Int}{n:Nat}(hm:m.toNat=n){ss c:List (List Int)}{l o p:Bool}{q d6 r:D}{s:Option (Bool×D)}(n3:3<=n)(t:n<=60)(x:c.length<=60){K:Res->List Sl->Prop}
  (k:∀ b:Bool,(b=true↔(sG tlI c=sG tlI (aI n)\/3 < n/\sG tlI c=sG tlI (nI n)))->K (.val (.bl b)) [⟨.val,qD qs⟩,⟨.val,tS cs⟩]):RS dA1 (irS qs cs m ss (ov l q) (ov o d6) (some ⟨.own,.lst (c.map lI)⟩) (ov p r) (fo s)) (bZ7 [⟨.val,qD qs⟩,⟨.val,tS cs⟩] K):=by
 have sl:1000<=sizeLine:=by decide
 unfold dA1 irS;walk_at "dx";have y:(aI n).length=n:=by unfold aI;rw[a1a,a1f]
 have A:(nI n).length=n:=by unfold nI;rw[a1a,a1f]
 refine⟨by lia,⟨by lia,by lia⟩,by rw[cA];lia,?_⟩;rw[hm];refine fM (λj:Nat=>lI (((List.range n).filter λk:Nat=>!decide (0+(k:Int)=0+(j:Int))).map λk:Nat=>0+(k:Int))) (λi:Nat=>.int (0+(i:Int))) (List.range n) [_,_,_,_,_,_,_,_,_,_,none,none,none,none] rfl (λj u=>?_) ?_;walk_at "dx";refine⟨⟨by lia,by lia⟩,by rw[cA];lia,?_⟩;rw[hm];refine bB (λk:Nat=>!decide (0+(k:Int)=0+(j:Int))) (λi:Nat=>.int (0+(i:Int))) (λi:Nat=>.int (0+(i:Int))) (List.range n) [_,_,_,_,_,_,_,_,_,_,none,none,none,_] rfl (λi hi=>?_) ?_;walk_at "dx";walk_at "dx";show _=Res.val (D.lst (List.map D.int (List.map _ _)));rw[List.map_map];rfl;walk_at "dx";have v:(List.range n).map (λj:Nat=>lI (((List.range n).filter λk:Nat=>!decide (0+(k:Int)=0+(j:Int))).map λk:Nat=>0+(k:Int)))=(aI n).map lI:=by unfold aI;rw[List.map_map];rfl
 have f:m=(n:Int):=by lia
 rw[v];walk_at "dx";refine⟨by lia,vO (n:=2) (m:=2) (.lst (aD6 _)) (.lst (aD6 _)) (by decide) (by decide) ?_⟩;have inj:∀ a b:List (List Int),(D.lst (a.map lI)=D.lst (b.map lI))↔a=b:=λa b=>⟨λh=>by injection h with h;exact(List.map_inj_right bX9).mp h,λe=>by rw[e]⟩;walk_at "dx";by_cases d:sG tlI c=sG tlI (aI n);rw[a4i ((inj _ _).mpr d)];exact k true ⟨λ_=>.inl d,λ_=>rfl⟩;rw[a4j λz=>d ((inj _ _).mp z)];by_cases g:3 < n
 ·rw[a4i (by lia)];refine⟨⟨by lia,by lia⟩,by rw[cA];lia,?_⟩;rw[hm];refine fM (λi:Nat=>lI (sG (λa b:Int=>decide (a < b)) [0+(i:Int),(0+(i:Int)+1) % m])) (λi:Nat=>.int (0+(i:Int))) (List.range n) [_,_,_,_,_,_,_,_,_,_,none,none,none,none] rfl (λj u=>?_) ?_;walk_at "dx";refine⟨by lia,sl2,?_⟩;rw[show[D.int (0+(j:Int)),D.int ((0+(j:Int)+1) % m)]=[0+(j:Int),(0+(j:Int)+1) % m].map D.int from rfl];walk_at "dx";walk_at "dx";have w:(List.range n).map (λi:Nat=>lI (sG (λa b:Int=>decide (a < b)) [0+(i:Int),(0+(i:Int)+1) % m]))=(nI n).map lI:=by unfold nI;rw[List.map_map,f];rfl
  rw[w];walk_at "dx";refine⟨by lia,vO (n:=2) (m:=2) (.lst (aD6 _)) (.lst (aD6 _)) (by decide) (by decide) ?_⟩;walk_at "dx";refine k _ ?_;rw[decide_eq_true_iff,inj];exact⟨λh=>.inr ⟨g,h⟩,λh=>(h.resolve_left d).2⟩
 ·rw[a4j (by lia)];exact k false ⟨(λz=>nomatch z),λh=>(h.elim d λz=>g z.1).elim⟩
def dU9{ls:List (List Int)}{i:Nat}{x:List Int}(h:ls[i]? = some x):(ls.take (i+1)).foldl (λg x=>if((ls.filter λo=>!decide (x=o)&&x.all λk=>decide (k∈o))=[])/\x∉g then g++[x]else g) []=(λg=>if((ls.filter λo=>!decide (x=o)&&x.all λk=>decide (k∈o))=[])/\x∉g then g++[x]else g) ((ls.take i).foldl (λg x=>if((ls.filter λo=>!decide (x=o)&&x.all λk=>decide (k∈o))=[])/\x∉g then g++[x]else g) []):=by
 rw[a2f,h,List.foldl_append];rfl
def dV0{qs:List (Str×List Str)}{cs:List Str}{m:Int}{n:Nat}(hm:m.toNat=n){ss:List (List Int)}{A B:Bool}{C d6:D}(n3:3<=n)(q:n<=60)(sl:ss.length<=60)(E:∀ s∈ss,s.length<=60){K:Res->List Sl->Prop}
  (k:∀ b:Bool,(b=true↔(sG tlI (grt ss)=sG tlI (aI n)\/3 < n/\sG tlI (grt ss)=sG tlI (nI n)))->K (.val (.bl b)) [⟨.val,qD qs⟩,⟨.val,tS cs⟩]):RS dA2 (irS qs cs m ss (ov A C) (ov B d6) none none none) (bZ7 [⟨.val,qD qs⟩,⟨.val,tS cs⟩] K):=by
 have sz:1000<=sizeLine:=by decide
 unfold dA2 irS;walk_at "dx";refine⟨a5c _,?_⟩;refine jD (λi τ=>∃ t u p,∃ gs:List (List Int),gs=(ss.take i).foldl (λg x=>if((ss.filter λo=>!decide (x=o)&&x.all λk=>decide (k∈o))=[])/\x∉g then g++[x]else g) []/\gs.length<=i/\τ=[some ⟨.val,qD qs⟩,some ⟨.val,tS cs⟩,some ⟨.val,tS (dQ qs)⟩,some ⟨.val,.int m⟩,some ⟨.lent,.lst (ss.map lI)⟩,ov A C,ov B d6,some ⟨.own,.lst (gs.map lI)⟩,ov t u,fo p,none,none,none,none]) ⟨false,.non,none,[],rfl,a8a _,rfl⟩ ?_ ?_
 ·rintro i d τ hd ⟨t,u,p,gs,f,j,rfl⟩;obtain⟨x,v,rfl⟩:=iL hd;have w:=a7b v;have F:=(a2a.mp v).1;have G:=E x w;have c:=dU9 v;rw[← f]at c;dsimp only at c;walk_at "dx";refine⟨by rw[a1a];lia,bB (λo=>!decide (x=o)&&x.all λk=>decide (k∈o)) lI lI ss [_,_,_,_,_,_,_,_,_,fo p,none,none,none,none] rfl (λo I=>?_) ?_⟩
  ·walk_at "dx";refine vO (n:=1) (m:=1) (cH7 x) (cH7 o) (by decide) (by decide) ?_;rw[show decide (lI x=lI o)=decide (x=o)from decide_eq_decide.mpr ⟨bX9 x o,λe=>by rw[e]⟩];walk_at "dx";by_cases l:x=o;rw[a4n l];rfl;rw[a4k l];rw[a4i (show(!false)=true from rfl)];refine⟨by rw[a1a];lia,bU6 D.int (λk=>decide (k∈o)) x (λy J=>?_) ?_⟩
   ·walk_at "dx";refine pF (n:=0) (m:=0) .int okI (by decide) (by decide) ?_;rw[nZ D.int λa b e=>by injection e];walk_at "dx"
    try rfl
   ·walk_at "dx";rw[aC7]
  ·walk_at "dx";refine⟨a5c _,aC4 (n:=1) (aD6 _) (by decide) ?_⟩;rw[List.isEmpty_map];walk_at "dx";generalize ss.filter (λo=>!decide (x=o)&&x.all λk=>decide (k∈o))=H at c ⊢;cases H with
   | cons a r=>
     rw[a4j (λz=>nomatch z)];rw[a4j (λz=>nomatch z.1)]at c;exact⟨_,.inl rfl,true,_,some (true,_),gs,c.symm,by lia,rfl⟩
   | nil=>
     rw[a4i (show([]:List (List Int)).isEmpty=true from rfl)];refine pF (n:=1) (m:=1) (cH7 x) (aD6 gs) (by decide) (by decide) ?_;rw[nZ lI bX9];walk_at "dx";by_cases h:x∈gs;rw[a4j (by simpa using h)];rw[a4j (λz=>z.2 h)]at c;exact⟨_,.inl rfl,true,_,some (true,_),gs,c.symm,by lia,rfl⟩;rw[a4i (by simpa using h)];rw[a4i ⟨rfl,h⟩]at c;refine⟨by rw[a1a];lia,_,.inl rfl,true,_,some (true,_),gs++[x],c.symm,by rw[a3b,List.length_singleton];lia,by rw[a3c];rfl⟩
 ·rintro τ ⟨t,u,p,gs,f,j,rfl⟩;rw[a1a,List.take_length]at f;rw[a1a]at j;walk_at "dx";subst f;exact dU8 hm n3 q (by lia) k
def dV1{qs:List (Str×List Str)}{cs:List Str}{m:Int}{n:Nat}(hm:m.toNat=n)(hn:cs.length=n)(v:Qn qs)(e:qs.length<=60)(w:∀ z∈cs,As z)(n3:3<=n)(f:n<=60){K:Res->List Sl->Prop}
  (k:∀ b:Bool,(b=true↔(sG tlI (grt (qs.map λq=>iJ cs q.2))=sG tlI (aI n)\/3 < n/\sG tlI (grt (qs.map λq=>iJ cs q.2))=sG tlI (nI n)))->K (.val (.bl b)) [⟨.val,qD qs⟩,⟨.val,tS cs⟩]):RS dA3 [some ⟨.val,qD qs⟩,some ⟨.val,tS cs⟩,some ⟨.val,tS (dQ qs)⟩,some ⟨.val,.int m⟩,none,none,none,none,none,none,none,none,none,none] (bZ7 [⟨.val,qD qs⟩,⟨.val,tS cs⟩] K):=by
 have sz:1000<=sizeLine:=by decide
 unfold dA3;walk_at "dx";refine⟨a5c _,?_⟩;refine jD (λi g=>∃ h l o d6,g=[some ⟨.val,qD qs⟩,some ⟨.val,tS cs⟩,some ⟨.val,tS (dQ qs)⟩,some ⟨.val,.int m⟩,some ⟨.own,.lst (((qs.take i).map λq=>iJ cs q.2).map lI)⟩,ov h l,ov o d6,none,none,none,none,none,none,none]) ⟨false,.non,false,.non,rfl⟩ ?_ ?_
 ·rintro i d g hd ⟨h,l,o,d6,rfl⟩;obtain⟨q,a,rfl⟩:=iL hd;have p:=a7b a;have y:=(a2a.mp a).1;walk_at "dx";refine⟨⟨by lia,by lia⟩,by rw[cA];lia,?_⟩;rw[hm];refine bB (λk:Nat=>decide (cs.getD k default∈q.2)) (λi:Nat=>.int (0+(i:Int))) (λi:Nat=>.int (0+(i:Int))) (List.range n) [_,_,_,_,_,_,_,none,none,none,none,none,none,none] rfl (λj u=>?_) ?_;have u:=a9c.mp u;obtain⟨c,A,r,t⟩:=bV8 (cs:=cs) (n:=0+(j:Int)) (by lia) (by lia);walk_at "dx";rw[A];walk_at "dx";refine jJ (w c r) (λx B=>((v.2 q p).2.2 x B).2) ?_;walk_at "dx";rw[← t,show(0+(j:Int)).toNat=j by lia];walk_at "dx";have C:((List.range n).filter λk:Nat=>decide (cs.getD k default∈q.2)).map (λi:Nat=>D.int (0+(i:Int)))=(iJ cs q.2).map D.int:=by unfold iJ;rw[List.map_map,hn];rfl
  have F:(iJ cs q.2).length<=60:=by
   unfold iJ;rw[a1a];exact a4c (List.length_filter_le _ _) (by rw[a1f];lia)
  rw[C];walk_at "dx";rw[dU3];refine⟨by lia,by rw[a1a,a1a,a8d];lia,_,.inl rfl,true,.str q.1,true,.tup (q.2.map D.str),?_⟩;rw[a2f,a,a3c,a3c];rfl
 ·rintro g ⟨h,l,o,d6,rfl⟩;rw[a1a,List.take_length];refine dV0 hm n3 f (by rw[a1a];exact e) (λs E=>?_) k;obtain⟨q,_,rfl⟩:=a2c.mp E;unfold iJ;rw[a1a];exact a4c (List.length_filter_le _ _) (by rw[a1f];lia)
def zR{qs:List (Str×List Str)}{cs:List Str}(f:Qn qs)(g:qs.length<=60)(e:∀ z∈cs,As z)(h:cs.length<=60){K:Res->List Sl->Prop}(k:K (.val (.bl (isR qs cs))) [⟨.val,qD qs⟩,⟨.val,tS cs⟩]):CK gH [⟨.val,qD qs⟩,⟨.val,tS cs⟩] K:=by
 have sz:1000<=sizeLine:=by decide
 have i:=aJ4 f;unfold gH;rw[eC];show RS fL [_,_,none,none,none,none,none,none,none,none,none,none,none,none] _;rw[show fL=(bW (dA 2 (bH 1 dZ (aE (aH 0) aV)))
 (bW (dA 3 (dCB uQ (aE (aH 1) aV)))
 (bW (pI (dOr (eK (aY ltI (aH 3) (dC (.int 3)))) (eK (aY ltI (dCB uZ (aE (aH 1) aV)) (aH 3)))) (iA (dC (.bl false))) gL)
 (bW (pI (cT6 (eK (dCB bZ5 (aE (cG [10] (dIt (aH 1)) (dgN 10) iC (aY (inD false) (aH 10) (aH 2))) aV)))) (iA (dC (.bl false))) gL)
 dA3))))from rfl]
 walk_at "dx";refine zQ f ?_;walk_at "dx";rw[a1a];by_cases p:cs.length < 3
 ·rw[a4i (by lia)];have:isR qs cs=false:=by unfold isR;rw[a4k (by lia)];rfl
  rw[this]at k;exact k
 ·rw[a4j (by lia)];refine⟨by lia,?_⟩;by_cases a:cs.Nodup
  ·have j:nud [] cs=cs.length:=aO9.mpr a;rw[a4j (by lia)];refine⟨by lia,bU6 D.str (λc=>decide (c∈dQ qs)) cs (λy l=>?_) ?_⟩
   ·walk_at "dx";refine jJ (e y l) i ?_;walk_at "dx"
    try rfl
   ·walk_at "dx";rw[aC7];by_cases d:∀ c∈cs,c∈dQ qs;rw[a4j (by simpa using d)];refine dV1 (m:=(cs.length:Int)) (n:=cs.length) (by lia) rfl f g e (by lia) h λb o=>?_;have:b=isR qs cs:=a9d.mpr (o.trans (dA0 (by lia) a).symm);rw[this];exact k;rw[a4i (by simpa using d)];have:isR qs cs=false:=Bool.eq_false_iff.mpr λz=>d λc e=>kW.mpr ((bW4 z).2 c e);rw[this]at k;exact k
  ·rw[a4i (by have:=cP5.mpr a;lia)];have:isR qs cs=false:=by unfold isR;rw[a4k a];simp
   rw[this]at k;exact k
end Mr
namespace Mr
open PySem L2 Dv
local macro_rules | `(tactic| walk_at "dx")=>do
 let l:=("yG pG yF yA xZ yB yE vP nY cD9 pX pY pZ qA qB qC qE qF qG qH qI qJ qK qL qM qN aH5 qO jW lM qQ lN lO lP qR qS aH6 qT qU aH7 qV qW qX qY qZ lQ rB rC rD lR rE rF rG rH rJ rK tZ rL rM rN lT lU rO rP rQ rR rS rT rV aH8 lV iP lW rW lX sJ sK sL sM sN sO sP sQ sR mT aH9 sS mI iR gB tY mS mR sT mJ mK mL sU sV sW sY sZ aI0 aI1 aI2 tD tE tF mM mO mP tG mQ iQ tH zL tI tJ aI3 tK cE1 tL tM oN bV tN tO tP tQ rX rY rZ sA sC sD sE sF lY lZ mB sH sI reduceIte aC0 aB2 aB7 aP5 aP6".splitOn " ").toArray.map fun s=>Lean.mkIdent s.toName
 let m:=("yC yD aX3 tR tT tU zM aI4 Int.reducePow Int.reduceNeg Int.reduceLT Int.reduceLE Nat.reducePow Nat.reduceLT Int.reduceToNat Nat.reduceLeDiff tX cX5 cX6 cX7 cX8 cX9 cY0 cY1 cY2 cY3 tV aI5 tW mD mE mG mH aP9 List.getElem?_cons_succ List.getElem?_cons_zero Option.getD_some List.set_cons_zero List.set_cons_succ eM aT1 List.length_cons List.length_nil Nat.reduceAdd Nat.zero_add true_and and_true and_self Bool.not_false Bool.not_true Bool.false_eq_true Bool.true_and Bool.and_true Bool.or_false decide_eq_true_eq".splitOn " ").toArray.map fun s=>Lean.mkIdent s.toName
 `(tactic| simp only[$[↓$l:ident],*,$[$m:ident],*])
def cH8{qs:List (Str×List Str)}{es:List (Str×Option Str)}(B:Qn qs)(hn:(qs.map Prod.fst).Nodup)(C:∀ p∈es,Eg p){K:Res->List Sl->Prop}(k:K (.val (.bl (zP qs es))) [⟨.val,qD qs⟩,⟨.val,.lst (es.map eD)⟩]) :
  CK iT [⟨.val,qD qs⟩,⟨.val,.lst (es.map eD)⟩] K:=by
 have sl:1000<=sizeLine:=by decide
 unfold iT;rw[eC];show RS iI [_,_,none,none,none,none] _;unfold iI;walk_at "dx";refine bR4 (λi τ=>∃ aK u v w x,Qn aK/\(aK.map Prod.fst).Nodup/\zP qs es=zP aK (es.drop i)/\τ=[some ⟨.val,qD qs⟩,some ⟨.val,.lst (es.map eD)⟩,some ⟨.own,.lst (aK.map qP)⟩,ov u v,ov w x,none]) ⟨qs,false,.non,false,.non,B,hn,rfl,rfl⟩ ?_ ?_
 ·rintro i d τ hd ⟨aK,u,v,w,x,b,e,l,rfl⟩;obtain⟨p,o,rfl⟩:=iL hd;have t:=C p (a7b o);have E:=b.1;have F:es.drop i=p::es.drop (i+1):=by
   obtain⟨c,y⟩:=a2a.mp o;rw[List.drop_eq_getElem_cons c,y]
  rw[F]at l;have r:zP qs es=(uE aK p&&zP (wo aK p.1) (es.drop (i+1))):=l;have f:uE aK p=false->K (.val (.bl false)) [⟨.val,qD qs⟩,⟨.val,.lst (es.map eD)⟩]:=λh=>by
   rw[r,h,Bool.false_and]at k;exact k
  have G:(aK.map qP).length=aK.length:=a1a _;walk_at "dx";refine⟨by rw[a1a];lia,fM (λq=>.str q.1) qP aK [_,_,_,_,_,none] rfl (λq h=>?_) ?_⟩;walk_at "dx"
  walk_at "dx";rw[show aK.map (λq=>D.str q.1)=(aK.map Prod.fst).map D.str by rw[List.map_map];rfl];refine bU7 t.1.2 (λz s=>?_) ?_;obtain⟨q,c,rfl⟩:=a2c.mp s;exact(b.2 q c).1.2
  walk_at "dx";split
  ·rename_i c;refine .inr (.inl ⟨_,_,rfl,f ?_⟩);have a:cG4 aK p.1=false:=by unfold cG4;simpa using c
   unfold uE;rw[a,Bool.false_and]
  ·rename_i c;have a:cG4 aK p.1=true:=by unfold cG4;simpa using c
   have A:0 < aK.length:=by
    obtain⟨q,h,_⟩:=uD.mp a;exact List.length_pos_of_mem h
   have fin:uE aK p=true->zP qs es=zP (wo aK p.1) (es.drop (i+1)):=λh=>by rw[r,h,Bool.true_and]
   rw[G];split;rename_i y;rw[isN];walk_at "dx";split;rename_i g;refine .inr (.inl ⟨_,_,rfl,f ?_⟩);unfold uE;rw[a4n (by lia:aK.length=1),g,Bool.and_self,Bool.not_true,Bool.false_and,a9h];rename_i g;rw[a4j (by lia)];refine⟨by lia,bV1 b t.1.2 ?_⟩;walk_at "dx";refine .inl ⟨_,.inl rfl,wo aK p.1,true,.str p.1,true,oD p.2,b.wo _,e.sublist (bD2 _ _),fin ?_,rfl⟩;unfold uE;rw[a,Bool.eq_false_iff.mpr g,a4k (by lia:¬ 1 < aK.length)];simp;rename_i y;rw[a4i (by lia)];refine pH (.inl ⟨rfl,rfl⟩) b e (uD.mp a) ?_;walk_at "dx";rw[show(gZ aK p.1).map D.str=((gZ aK p.1).map some).map oD by rw[List.map_map];rfl];refine pF (n:=0) (m:=0) (dU2 t.2) (dU1 λz s=>(bD3 b z s).2) (by decide) (by decide) ?_;rw[nZ oD dM3];walk_at "dx";split
   ·rename_i g;refine .inr (.inl ⟨_,_,rfl,f ?_⟩);have j:p.2∉(gZ aK p.1).map some:=by simpa using g
    unfold uE;rw[a4n (by lia:1 < aK.length),a4k j,Bool.not_false,Bool.and_self,Bool.not_true,a9h,a9h]
   ·rename_i g;refine⟨by lia,bV1 b t.1.2 ?_⟩;walk_at "dx";refine .inl ⟨_,.inl rfl,wo aK p.1,true,.str p.1,true,oD p.2,b.wo _,e.sublist (bD2 _ _),fin ?_,rfl⟩;have j:p.2∈(gZ aK p.1).map some:=by simpa using g
    unfold uE;rw[a,a4k (by lia:¬ aK.length=1),a4n j];simp
 ·rintro τ ⟨aK,u,v,w,x,b,e,l,rfl⟩;rw[a1a,List.drop_length]at l;walk_at "dx";refine⟨a5c _,aC4 (n:=2) (λd hd=>?_) (by decide) ?_⟩;obtain⟨q,c,rfl⟩:=a2c.mp hd;refine .tup λd hd=>?_;simp only[List.mem_cons,List.not_mem_nil,or_false]at hd;rcases hd with rfl | rfl;exact .str (b.2 q c).1.2;exact .tup (oks λz s=>((b.2 q c).2.2 z s).2)
  rw[List.isEmpty_map];rw[l]at k;walk_at "dx";exact k
end Mr
namespace Mr
open PySem L2
noncomputable def top(i:Nat):Stmt:=PySem.Challenge.pw_mostrows_k46_ears_told.main.body.getD i (.Pass ⟨0,0,0,0⟩)
noncomputable abbrev aD7:Stmt:=top 24
noncomputable abbrev oO:Stmt:=top 26
noncomputable abbrev aD8:Stmt:=top 27
noncomputable abbrev nA:Stmt:=top 29
noncomputable abbrev nD:Stmt:=top 28
noncomputable abbrev yO:Stmt:=top 25
noncomputable abbrev oP:Stmt:=top 30
noncomputable abbrev aR3:Stmt:=top 23
noncomputable abbrev uG:Stmt:=top 32
noncomputable abbrev oA:Stmt:=top 33
noncomputable abbrev aR4:Stmt:=top 16
noncomputable abbrev vR:Stmt:=top 1
noncomputable abbrev aR5:Stmt:=top 17
noncomputable abbrev vS:Stmt:=top 18
noncomputable abbrev aR6:Stmt:=top 19
noncomputable abbrev yP:Stmt:=top 20
noncomputable abbrev yQ:Stmt:=top 3
noncomputable abbrev nE:Stmt:=top 12
noncomputable abbrev bE5:Stmt:=top 13
noncomputable abbrev aR7:Stmt:=top 6
noncomputable abbrev uH:Stmt:=top 7
noncomputable abbrev uI:Stmt:=top 8
noncomputable abbrev uJ:Stmt:=top 10
noncomputable abbrev vT:Stmt:=top 9
noncomputable abbrev aR8:Stmt:=top 11
noncomputable abbrev aR9:Stmt:=top 14
noncomputable abbrev cQ0:Stmt:=top 21
noncomputable abbrev uK:Stmt:=top 31
noncomputable abbrev uL:Stmt:=top 35
noncomputable abbrev yS:Stmt:=top 34
noncomputable abbrev yT:Stmt:=top 36
noncomputable abbrev dO1:Stmt:=top 37
structure Adr where
 a0O:Addr
 a0t:FuncData
 a0W:Addr
 a0z:FuncData
 a2F:Addr
 a1y:FuncData
 a0U:Addr
 a0A:FuncData
 a0V:Addr
 a0B:FuncData
 a2G:Addr
 a1G:FuncData
 a1H:Addr
 a0I:FuncData
 a3r:Addr
 a2p:FuncData
 a1v:Addr
 a0D:FuncData
 a1t:Addr
 a0E:FuncData
 without:Addr
 a1J:FuncData
 a0r:Addr
 a0H:FuncData
 a1k:Addr
 a2r:FuncData
 a0s:Addr
 a1s:FuncData
 a1q:Addr
 a2u:FuncData
 a0w:Addr
 a1A:FuncData
 a0v:Addr
 a1D:FuncData
 a0m:Addr
 a0C:FuncData
 walked:Addr
 a2L:FuncData
 a1p:Addr
 a2s:FuncData
 a0o:Addr
 a0N:FuncData
 a0n:Addr
 a0Q:FuncData
 a0p:Addr
 a0R:FuncData
 neighbours:Addr
 a1r:FuncData
 a1n:Addr
 a2v:FuncData
 a0Z:Addr
 a2q:FuncData
 ears:Addr
 a3m:FuncData
 a1Q:Addr
 a0M:FuncData
 a1O:Addr
 a0T:FuncData
 a2J:Addr
 a1z:FuncData
 a2K:Addr
 a1B:FuncData
 law:Addr
 a3P:FuncData
structure Txt(K:W.Frag)(mg:Str->Option Value)(a:Adr):Prop where
 a0l:mg "_law_take"=some (.ref a.a0O)
 a0k:Fun K "_law_take" "_law_take" aD7 a.a0O a.a0t
 a0P:mg "_law_shuffled"=some (.ref a.a0W)
 a0x:Fun K "_law_shuffled" "_law_shuffled" oO a.a0W a.a0z
 a2t:mg "_law_some"=some (.ref a.a2F)
 a1u:Fun K "_law_some" "_law_some" aD8 a.a2F a.a1y
 a2P:mg "_law_round_sets"=some (.ref a.a0U)
 a1m:Fun K "_law_round_sets" "_law_round_sets" nA a.a0U a.a0A
 a2Q:mg "_law_plain_sets"=some (.ref a.a0V)
 a0X:Fun K "_law_plain_sets" "_law_plain_sets" nD a.a0V a.a0B
 a2Z:mg "_law_names"=some (.ref a.a2G)
 a1R:Fun K "_law_names" "_law_names" yO a.a2G a.a1G
 a2w:mg "_law_question"=some (.ref a.a1H)
 a0L:Fun K "_law_question" "_law_question" oP a.a1H a.a0I
 a2Y:mg "_law_box"=some (.ref a.a3r)
 a2m:Fun K "_law_box" "_law_box" aR3 a.a3r a.a2p
 a1L:mg "_law_holders"=some (.ref a.a1v)
 a0J:Fun K "_law_holders" "_law_holders" uG a.a1v a.a0D
 a3l:mg "_law_taken_off"=some (.ref a.a1t)
 a1x:Fun K "_law_taken_off" "_law_taken_off" oA a.a1t a.a0E
 a3y:mg "without"=some (.ref a.without)
 a2I:Fun K "without" "without" aR4 a.without a.a1J
 a2O:mg "columns_of"=some (.ref a.a0r)
 a1C:Fun K "columns_of" "columns_of" vR a.a0r a.a0H
 a3K:mg "has_all"=some (.ref a.a1k)
 a3k:Fun K "has_all" "has_all" aR5 a.a1k a.a2r
 a3v:mg "holders_of"=some (.ref a.a0s)
 a2n:Fun K "holders_of" "holders_of" vS a.a0s a.a1s
 a3x:mg "ears_in"=some (.ref a.a1q)
 a2M:Fun K "ears_in" "ears_in" aR6 a.a1q a.a2u
 a3A:mg "taken_off"=some (.ref a.a0w)
 a2E:Fun K "taken_off" "taken_off" yP a.a0w a.a1A
 a3B:mg "all_parts"=some (.ref a.a0v)
 a2z:Fun K "all_parts" "all_parts" yQ a.a0v a.a1D
 a2R:mg "stand_together"=some (.ref a.a0m)
 a1j:Fun K "stand_together" "stand_together" nE a.a0m a.a0C
 a3N:mg "walked"=some (.ref a.walked)
 a3n:Fun K "walked" "walked" bE5 a.walked a.a2L
 a3I:mg "sets_in"=some (.ref a.a1p)
 a2T:Fun K "sets_in" "sets_in" aR7 a.a1p a.a2s
 a3u:mg "lies_within"=some (.ref a.a0o)
 a1Y:Fun K "lies_within" "lies_within" uH a.a0o a.a0N
 a3o:mg "widest_sets"=some (.ref a.a0n)
 a1M:Fun K "widest_sets" "widest_sets" uI a.a0n a.a0Q
 a3p:mg "all_but_one"=some (.ref a.a0p)
 a1N:Fun K "all_but_one" "all_but_one" uJ a.a0p a.a0R
 a3w:mg "neighbours"=some (.ref a.neighbours)
 a2j:Fun K "neighbours" "neighbours" vT a.neighbours a.a1r
 a3H:mg "is_ring"=some (.ref a.a1n)
 a2V:Fun K "is_ring" "is_ring" aR8 a.a1n a.a2v
 a3M:mg "ring_of"=some (.ref a.a0Z)
 a2S:Fun K "ring_of" "ring_of" aR9 a.a0Z a.a2q
 a3R:mg "ears"=some (.ref a.ears)
 a3J:Fun K "ears" "ears" cQ0 a.ears a.a3m
 a3s:mg "_law_columns"=some (.ref a.a1Q)
 a1U:Fun K "_law_columns" "_law_columns" uK a.a1Q a.a0M
 a3q:mg "_law_is_ring"=some (.ref a.a1O)
 a1V:Fun K "_law_is_ring" "_law_is_ring" uL a.a1O a.a0T
 a3z:mg "_law_shows"=some (.ref a.a2J)
 a2D:Fun K "_law_shows" "_law_shows" yS a.a2J a.a1z
 a3D:mg "_law_right"=some (.ref a.a2K)
 a2C:Fun K "_law_right" "_law_right" yT a.a2K a.a1B
 a3Y:mg "law"=some (.ref a.law)
 a3X:Fun K "law" "law" dO1 a.law a.a3P
 a3F:mg "all"=none
 a3U:mg "any"=none
 a3V:mg "dict"=none
 a3C:mg "enumerate"=none
 a3Q:mg "int"=none
 a1F:mg "isinstance"=none
 a0K:mg "len"=none
 a2N:mg "list"=none
 a3T:mg "min"=none
 a0y:mg "range"=none
 a3S:mg "set"=none
 a1E:mg "sorted"=none
 a1I:mg "tuple"=none
 a3O:∃ t,mg "FEWEST"=some (.int 3 t)
def oH:bootBuiltins "all"=some (.builtin "all"):=by decide +kernel
def bE6:bootBuiltins "any"=some (.builtin "any"):=by decide +kernel
def bY0:bootBuiltins "dict"=some (.type "dict"):=by decide +kernel
def zS:bootBuiltins "enumerate"=some (.type "enumerate"):=by decide +kernel
def aJ7:bootBuiltins "int"=some (.type "int"):=by decide +kernel
def gJ:bootBuiltins "isinstance"=some (.builtin "isinstance"):=by decide +kernel
def bJ:bootBuiltins "len"=some (.builtin "len"):=by decide +kernel
def iK:bootBuiltins "list"=some (.type "list"):=by decide +kernel
def bE7:bootBuiltins "min"=some (.builtin "min"):=by decide +kernel
def boot_range:bootBuiltins "range"=some (.type "range"):=by decide +kernel
def bE8:bootBuiltins "set"=some (.type "set"):=by decide +kernel
def eY:bootBuiltins "sorted"=some (.builtin "sorted"):=by decide +kernel
def eO:bootBuiltins "tuple"=some (.type "tuple"):=by decide +kernel
def yU:FnScope ["_law_box_here","_law_many","_law_digit","_law_one"] ["_law_box_here","_law_many"] (aW aD7):=⟨rfl,rfl,rfl,by decide +kernel,rfl,by decide +kernel,by decide +kernel⟩
def oB:FnScope ["_law_box_here","_law_things","_law_left","_law_found"] ["_law_box_here","_law_things"] (aW oO):=⟨rfl,rfl,rfl,by decide +kernel,rfl,by decide +kernel,by decide +kernel⟩
def yV:FnScope ["_law_box_here","_law_things"] ["_law_box_here","_law_things"] (aW aD8):=⟨rfl,rfl,rfl,by decide +kernel,rfl,by decide +kernel,by decide +kernel⟩
def kX:FnScope ["_law_box_here","_law_many","_law_found","_law_own","_law_k","_law_j"] ["_law_box_here"] (aW nA):=⟨rfl,rfl,rfl,by decide +kernel,rfl,by decide +kernel,by decide +kernel⟩
def kY:FnScope ["_law_box_here","_law_many","_law_count","_law_found","_law_used","_law_k","_law_own","_law_fresh","_law_column"] ["_law_box_here"] (aW nD):=⟨rfl,rfl,rfl,by decide +kernel,rfl,by decide +kernel,by decide +kernel⟩
def vU:FnScope ["_law_box_here","_law_many","_law_letters","_law_x","_law_y","_law_common","_law_at","_law_first","_law_longer","_law_found","_law_k","_law_word"] ["_law_box_here","_law_many"] (aW yO):=⟨rfl,rfl,rfl,by decide +kernel,rfl,by decide +kernel,by decide +kernel⟩
def oC:FnScope ["_law_box_here","_law_way","_law_sets","_law_columns_here","_law_tables","_law_found","_law_k","_law_own","_law_at"] ["_law_box_here"] (aW oP):=⟨rfl,rfl,rfl,by decide +kernel,rfl,by decide +kernel,by decide +kernel⟩
def aD9:FnScope ["_law_script","_law_k","_law_cell","_law_seed"] ["_law_script","_law_k"] (aW aR3):=⟨rfl,rfl,rfl,by decide +kernel,rfl,by decide +kernel,by decide +kernel⟩
def oQ:FnScope ["_law_left","_law_kt","_law_own","_law_others","_law_wanted","_law_other","_law_columns_here","_law_column"] ["_law_left","_law_kt"] (aW uG):=⟨rfl,rfl,rfl,by decide +kernel,rfl,by decide +kernel,by decide +kernel⟩
def nF:FnScope ["_law_box_here","_law_question_here","_law_left","_law_found","_law_some_here","_law_kt","_law_keepers","_law_columns_here","_law_pair"] ["_law_box_here","_law_question_here"] (aW oA):=⟨rfl,rfl,rfl,by decide +kernel,rfl,by decide +kernel,by decide +kernel⟩
def aE0:FnScope ["question","name","pair"] ["question","name"] (aW aR4):=⟨rfl,rfl,rfl,by decide +kernel,rfl,by decide +kernel,by decide +kernel⟩
def uM:FnScope ["question","found","name","columns","column"] ["question"] (aW vR):=⟨rfl,rfl,rfl,by decide +kernel,rfl,by decide +kernel,by decide +kernel⟩
def aE1:FnScope ["columns","some","column"] ["columns","some"] (aW aR5):=⟨rfl,rfl,rfl,by decide +kernel,rfl,by decide +kernel,by decide +kernel⟩
def uN:FnScope ["left","name","columns","others","shared","column","other","held"] ["left","name","columns"] (aW vS):=⟨rfl,rfl,rfl,by decide +kernel,rfl,by decide +kernel,by decide +kernel⟩
def aE2:FnScope ["left","found","name","columns","holder"] ["left"] (aW aR6):=⟨rfl,rfl,rfl,by decide +kernel,rfl,by decide +kernel,by decide +kernel⟩
def vV:FnScope ["question","left","taken","found"] ["question"] (aW yP):=⟨rfl,rfl,rfl,by decide +kernel,rfl,by decide +kernel,by decide +kernel⟩
def vW:FnScope ["names","parts","name","ahead"] ["names"] (aW yQ):=⟨rfl,rfl,rfl,by decide +kernel,rfl,by decide +kernel,by decide +kernel⟩
def kZ:FnScope ["question","one","other","name","columns"] ["question","one","other"] (aW nE):=⟨rfl,rfl,rfl,by decide +kernel,rfl,by decide +kernel,by decide +kernel⟩
def aS0:FnScope ["question","columns","way","step","ahead","column"] ["question","columns"] (aW bE5):=⟨rfl,rfl,rfl,by decide +kernel,rfl,by decide +kernel,by decide +kernel⟩
def aE3:FnScope ["question","columns","found","name","own","one","column"] ["question","columns"] (aW aR7):=⟨rfl,rfl,rfl,by decide +kernel,rfl,by decide +kernel,by decide +kernel⟩
def oR:FnScope ["one","other","column"] ["one","other"] (aW uH):=⟨rfl,rfl,rfl,by decide +kernel,rfl,by decide +kernel,by decide +kernel⟩
def oS:FnScope ["question","columns","found","one","other"] ["question","columns"] (aW uI):=⟨rfl,rfl,rfl,by decide +kernel,rfl,by decide +kernel,by decide +kernel⟩
def oU:FnScope ["columns","at"] ["columns"] (aW uJ):=⟨rfl,rfl,rfl,by decide +kernel,rfl,by decide +kernel,by decide +kernel⟩
def uO:FnScope ["columns","pairs","at"] ["columns"] (aW vT):=⟨rfl,rfl,rfl,by decide +kernel,rfl,by decide +kernel,by decide +kernel⟩
def aE4:FnScope ["question","columns","found"] ["question","columns"] (aW aR8):=⟨rfl,rfl,rfl,by decide +kernel,rfl,by decide +kernel,by decide +kernel⟩
def aE5:FnScope ["question","columns","way"] ["question"] (aW aR9):=⟨rfl,rfl,rfl,by decide +kernel,rfl,by decide +kernel,by decide +kernel⟩
def bY1:FnScope ["question","taken"] ["question"] (aW cQ0):=⟨rfl,rfl,rfl,by decide +kernel,rfl,by decide +kernel,by decide +kernel⟩
def oV:FnScope ["_law_question_here","_law_found","_law_kt","_law_own","_law_column"] ["_law_question_here"] (aW uK):=⟨rfl,rfl,rfl,by decide +kernel,rfl,by decide +kernel,by decide +kernel⟩
def oW:FnScope ["_law_question_here","_law_columns_here","_law_known","_law_many","_law_sets","_law_kt","_law_own","_law_great","_law_one","_law_lesser","_law_column","_law_k","_law_other","_law_j"] ["_law_question_here","_law_columns_here"] (aW uL):=⟨rfl,rfl,rfl,by decide +kernel,rfl,by decide +kernel,by decide +kernel⟩
def vX:FnScope ["_law_question_here","_law_some_here","_law_left","_law_kt","_law_holder","_law_pair"] ["_law_question_here","_law_some_here"] (aW yS):=⟨rfl,rfl,rfl,by decide +kernel,rfl,by decide +kernel,by decide +kernel⟩
def vY:FnScope ["_law_question_here","_law_due","_law_told","_law_good","_law_one"] ["_law_question_here","_law_due"] (aW yT):=⟨rfl,rfl,rfl,by decide +kernel,rfl,by decide +kernel,by decide +kernel⟩
def cQ1:FnScope ["_law_script","_law_first","_law_second","_law_question_here","_law_due"] ["_law_script"] (aW dO1):=⟨rfl,rfl,rfl,by decide +kernel,rfl,by decide +kernel,by decide +kernel⟩
section
variable{P:Program}{w:World}{K:W.Frag}{mg:Str->Option Value}{base:Heap}{a:Adr}
def aZ(T:Txt K mg a):eT K a.a0t ["_law_box_here","_law_many"] []:=T.a0k.binds (ps:=["_law_box_here","_law_many"]) λ_ _ _ _ _ _ us b=>match us,b with | [_,_],_=>rfl
def hJ(T:Txt K mg a):eT K a.a0z ["_law_box_here","_law_things"] []:=T.a0x.binds (ps:=["_law_box_here","_law_things"]) λ_ _ _ _ _ _ us b=>match us,b with | [_,_],_=>rfl
def oJ(T:Txt K mg a):eT K a.a1y ["_law_box_here","_law_things"] []:=T.a1u.binds (ps:=["_law_box_here","_law_things"]) λ_ _ _ _ _ _ us b=>match us,b with | [_,_],_=>rfl
def wD(T:Txt K mg a):eT K a.a0A ["_law_box_here"] []:=T.a1m.binds (ps:=["_law_box_here"]) λ_ _ _ _ _ _ us b=>match us,b with | [_],_=>rfl
def wE(T:Txt K mg a):eT K a.a0B ["_law_box_here"] []:=T.a0X.binds (ps:=["_law_box_here"]) λ_ _ _ _ _ _ us b=>match us,b with | [_],_=>rfl
def yX(T:Txt K mg a):eT K a.a1G ["_law_box_here","_law_many"] []:=T.a1R.binds (ps:=["_law_box_here","_law_many"]) λ_ _ _ _ _ _ us b=>match us,b with | [_,_],_=>rfl
def oX(T:Txt K mg a):eT K a.a0I ["_law_box_here"] []:=T.a0L.binds (ps:=["_law_box_here"]) λ_ _ _ _ _ _ us b=>match us,b with | [_],_=>rfl
def yY(T:Txt K mg a):eT K a.a2p ["_law_script","_law_k"] []:=T.a2m.binds (ps:=["_law_script","_law_k"]) λ_ _ _ _ _ _ us b=>match us,b with | [_,_],_=>rfl
def mW(T:Txt K mg a):eT K a.a0D ["_law_left","_law_kt"] []:=T.a0J.binds (ps:=["_law_left","_law_kt"]) λ_ _ _ _ _ _ us b=>match us,b with | [_,_],_=>rfl
def yZ(T:Txt K mg a):eT K a.a0E ["_law_box_here","_law_question_here"] []:=T.a1x.binds (ps:=["_law_box_here","_law_question_here"]) λ_ _ _ _ _ _ us b=>match us,b with | [_,_],_=>rfl
def aS1(T:Txt K mg a):eT K a.a1J ["question","name"] []:=T.a2I.binds (ps:=["question","name"]) λ_ _ _ _ _ _ us b=>match us,b with | [_,_],_=>rfl
def vZ(T:Txt K mg a):eT K a.a0H ["question"] []:=T.a1C.binds (ps:=["question"]) λ_ _ _ _ _ _ us b=>match us,b with | [_],_=>rfl
def bY2(T:Txt K mg a):eT K a.a2r ["columns","some"] []:=T.a3k.binds (ps:=["columns","some"]) λ_ _ _ _ _ _ us b=>match us,b with | [_,_],_=>rfl
def aS2(T:Txt K mg a):eT K a.a1s ["left","name","columns"] []:=T.a2n.binds (ps:=["left","name","columns"]) λ_ _ _ _ _ _ us b=>match us,b with | [_,_,_],_=>rfl
def aS3(T:Txt K mg a):eT K a.a2u ["left"] []:=T.a2M.binds (ps:=["left"]) λ_ _ _ _ _ _ us b=>match us,b with | [_],_=>rfl
def aY1(T:Txt K mg a):eT K a.a1A ["question"] []:=T.a2E.binds (ps:=["question"]) λ_ _ _ _ _ _ us b=>match us,b with | [_],_=>rfl
def aY2(T:Txt K mg a):eT K a.a1D ["names"] []:=T.a2z.binds (ps:=["names"]) λ_ _ _ _ _ _ us b=>match us,b with | [_],_=>rfl
def wF(T:Txt K mg a):eT K a.a0C ["question","one","other"] []:=T.a1j.binds (ps:=["question","one","other"]) λ_ _ _ _ _ _ us b=>match us,b with | [_,_,_],_=>rfl
def cH9(T:Txt K mg a):eT K a.a2L ["question","columns"] []:=T.a3n.binds (ps:=["question","columns"]) λ_ _ _ _ _ _ us b=>match us,b with | [_,_],_=>rfl
def bY3(T:Txt K mg a):eT K a.a2s ["question","columns"] []:=T.a2T.binds (ps:=["question","columns"]) λ_ _ _ _ _ _ us b=>match us,b with | [_,_],_=>rfl
def aJ8(T:Txt K mg a):eT K a.a0N ["one","other"] []:=T.a1Y.binds (ps:=["one","other"]) λ_ _ _ _ _ _ us b=>match us,b with | [_,_],_=>rfl
def aJ9(T:Txt K mg a):eT K a.a0Q ["question","columns"] []:=T.a1M.binds (ps:=["question","columns"]) λ_ _ _ _ _ _ us b=>match us,b with | [_,_],_=>rfl
def aK0(T:Txt K mg a):eT K a.a0R ["columns"] []:=T.a1N.binds (ps:=["columns"]) λ_ _ _ _ _ _ us b=>match us,b with | [_],_=>rfl
def aS4(T:Txt K mg a):eT K a.a1r ["columns"] []:=T.a2j.binds (ps:=["columns"]) λ_ _ _ _ _ _ us b=>match us,b with | [_],_=>rfl
def bY4(T:Txt K mg a):eT K a.a2v ["question","columns"] []:=T.a2V.binds (ps:=["question","columns"]) λ_ _ _ _ _ _ us b=>match us,b with | [_,_],_=>rfl
def bY5(T:Txt K mg a):eT K a.a2q ["question"] []:=T.a2S.binds (ps:=["question"]) λ_ _ _ _ _ _ us b=>match us,b with | [_],_=>rfl
def dO2(T:Txt K mg a):eT K a.a3m ["question"] []:=T.a3J.binds (ps:=["question"]) λ_ _ _ _ _ _ us b=>match us,b with | [_],_=>rfl
def aK1(T:Txt K mg a):eT K a.a0M ["_law_question_here"] []:=T.a1U.binds (ps:=["_law_question_here"]) λ_ _ _ _ _ _ us b=>match us,b with | [_],_=>rfl
def aK2(T:Txt K mg a):eT K a.a0T ["_law_question_here","_law_columns_here"] []:=T.a1V.binds (ps:=["_law_question_here","_law_columns_here"]) λ_ _ _ _ _ _ us b=>match us,b with | [_,_],_=>rfl
def aY3(T:Txt K mg a):eT K a.a1z ["_law_question_here","_law_some_here"] []:=T.a2D.binds (ps:=["_law_question_here","_law_some_here"]) λ_ _ _ _ _ _ us b=>match us,b with | [_,_],_=>rfl
def aY4(T:Txt K mg a):eT K a.a1B ["_law_question_here","_law_due"] []:=T.a2C.binds (ps:=["_law_question_here","_law_due"]) λ_ _ _ _ _ _ us b=>match us,b with | [_,_],_=>rfl
end
open Dv
section
variable{P:Program}{w:World}{K:W.Frag}{mg:Str->Option Value}{base:Heap}{a:Adr}
def aY5(T:Txt K mg a):FnOk P w K mg base CX0 1 a.a0O a.a0t ["_law_box_here","_law_many"] (dsp 2 aJ):=by
 refine cH T.a0k yU (by decide) jE (λcdv A outer s H E b=>?_);have nd:=yU.nd;unfold jE;exact(aG (kD (bN aT6 pB (eJ (aA (pv 0)) ge_int (λ_ _=>rfl)) ge_int (bG _)) (aG (aS (i:=2) nd rfl (Or.inl rfl) (bA mX jC (eJ (aA (pv 0)) ge_int (λ_ _=>rfl)) (aA (pv 1))))
  (aG (cM8 (k:=0) (λΓ=>cK2 (gE (bA bB5 bQ6 (eJ (aA (pv 0)) ge_int (λ_ _=>rfl)) (aA (pv 1))) Γ) (cK1 (pv 0) (gE ge_int Γ) aZ3)))
  (aM (bI (aA (pv 2)))))) eI)
  (aG (aS (i:=3) nd rfl (Or.inl rfl) (bA mX jC (bA jU jV (eJ (aA (pv 0)) ge_int (λ_ _=>rfl)) ge_int) ge_int))
  (aG (cM8 (k:=0) (λΓ=>cK2 (gE (bA bL bM (bA mX jC (bA bL bM (bA jU jV (aA (pv 3)) ge_int) ge_int) ge_int) ge_int) Γ) (cK1 (pv 0) (gE ge_int Γ) aZ3)))
  (aM (bI (bA mX jC (bA bB5 bQ6 (bA bL bM (bA jU jV (aA (pv 3)) ge_int) (eJ (aA (pv 0)) ge_int (λ_ _=>rfl))) ge_int) (aA (pv 1))))))))
def zA(T:Txt K mg a)(b:FnOk P w K mg base CX0 1 a.a0O a.a0t ["_law_box_here","_law_many"] (dsp 2 aJ)):FnOk P w K mg base CX0 2 a.a0W a.a0z ["_law_box_here","_law_things"] (dsp 2 bC):=by
 refine cH T.a0x oB (by decide) eV (λcdv A outer s H E c=>?_);have nd:=oB.nd;unfold eV;exact(aG (aS (i:=2) nd rfl (Or.inl rfl) (bZ wM (λΓ=>cV oF (by rfl) T.a2N iK (gA (aB (aA (pv 1)) aF) Γ))))
  (aG (aS (i:=3) nd rfl (Or.inl rfl) (eB aF))
  (aG (aG7 (λΓ=>aE9 a4e (gT (bN aT6 pB (bZ cS (λΓ=>aT bE (by rfl) T.a0K bJ (gA (aB (aA (pv 2)) aF) Γ))) ge_int (bG _)) Γ)
  (gSs (aM (gS (jT lK (λΓ=>hZ K (by rfl) a7c a1e a2e eU (pv 3) (gA (aB (cE (jT bQ5 (λΓ=>hZ K (by rfl) a7c F.slot_list_pop F.type_list_pop cA8 (pv 2) (gA (aB (cE (aU (λΓ=>aN b (c.mono (by decide)) (by rfl) T.a0l T.a0k.kp (aZ T) .nil bK (gA (aB (aA (pv 0)) (aB (bZ cS (λΓ=>aT bE (by rfl) T.a0K bJ (gA (aB (aA (pv 2)) aF) Γ))) aF)) Γ)))) aF) Γ)))) aF) Γ))))) Γ)))
  (aM (bI (aA (pv 3)))))))
def aY6(T:Txt K mg a)(b:FnOk P w K mg base CX0 2 a.a0W a.a0z ["_law_box_here","_law_things"] (dsp 2 bC))(c:FnOk P w K mg base CX0 1 a.a0O a.a0t ["_law_box_here","_law_many"] (dsp 2 aJ)):FnOk P w K mg base CX0 3 a.a2F a.a1y ["_law_box_here","_law_things"] (dsp 2 cD):=by
 refine cH T.a1u yV (by decide) jF (λcdv A outer s H E d=>?_);have nd:=yV.nd;unfold jF;exact(aM (bI (eQ (aU (λΓ=>aN b (d.mono (by decide)) (by rfl) T.a0P T.a0x.kp (hJ T) .nil bK (gA (aB (aA (pv 0)) (aB (aA (pv 1)) aF)) Γ))) gX (fR (bA bL bM ge_int (aU (λΓ=>aN c (d.mono (by decide)) (by rfl) T.a0l T.a0k.kp (aZ T) .nil bK (gA (aB (aA (pv 0)) (aB (bZ cD6 (λΓ=>aT (aL4 (by rfl)) (by rfl) T.a3T bE7 (gA (aB ge_int (aB (bZ cS (λΓ=>aT bE (by rfl) T.a0K bJ (gA (aB (aA (pv 1)) aF) Γ))) aF)) Γ))) aF)) Γ))))))))
def vE(T:Txt K mg a)(b:FnOk P w K mg base CX0 1 a.a0O a.a0t ["_law_box_here","_law_many"] (dsp 2 aJ))(d:FnOk P w K mg base CX0 3 a.a2F a.a1y ["_law_box_here","_law_things"] (dsp 2 cD)):FnOk P w K mg base CX0 4 a.a0V a.a0B ["_law_box_here"] (dsp 1 cN):=by
 refine cH T.a0X kY (by decide) dU (λcdv A outer s H E c=>?_);have nd:=kY.nd;unfold dU;exact(aG (aS (i:=1) nd rfl (Or.inr rfl) (bA bL bM ge_int (aU (λΓ=>aN b (c.mono (by decide)) (by rfl) T.a0l T.a0k.kp (aZ T) .nil bK (gA (aB (aA (pv 0)) (aB ge_int aF)) Γ)))))
  (aG (aS (i:=2) nd rfl (Or.inl rfl) (bA bL bM ge_int (aU (λΓ=>aN b (c.mono (by decide)) (by rfl) T.a0l T.a0k.kp (aZ T) .nil bK (gA (aB (aA (pv 0)) (aB ge_int aF)) Γ)))))
  (aG (kD (bN (gP c.units) (dJ (neg:=false)) (aU (λΓ=>aN b (c.mono (by decide)) (by rfl) T.a0l T.a0k.kp (aZ T) .nil bK (gA (aB (aA (pv 0)) (aB ge_int aF)) Γ))) ge_int (bG _)) (aM (bI (bR (ow:=[5]) (aQ (by decide)) (λΓ=>bO (csc [5] (by kernel_rfl)) (gI (jA (λΓ=>dI (by rfl) T.a0y (gA (aB (aA (pv 2)) aF) Γ)) aV1) Γ) (λ_ _ _ _=>(aP (i:=5) nd rfl (Or.inl rfl) (.inr rfl))) (aO (by decide)) (λ_ _ _ _=>dD) (λ_ _ _ _=>gE (cE (aU (λΓ=>aN d (c.mono (by decide)) (by rfl) T.a2t T.a1u.kp (oJ T) .nil bK (gA (aB (aA (pv 0)) (aB (bZ bC1 (λΓ=>aU4 (T:="list") (U:="range") (aI6 rfl) (by rfl) T.a2N iK (by rfl) T.a0y boot_range (gA (aB (aA (pv 1)) aF) Γ))) aF)) Γ)))) Γ))))) eI)
  (aG (aS (i:=3) nd rfl (Or.inl rfl) (eB (aB (cE (aU (λΓ=>aN d (c.mono (by decide)) (by rfl) T.a2t T.a1u.kp (oJ T) .nil bK (gA (aB (aA (pv 0)) (aB (bZ bC1 (λΓ=>aU4 (T:="list") (U:="range") (aI6 rfl) (by rfl) T.a2N iK (by rfl) T.a0y boot_range (gA (aB (aA (pv 1)) aF) Γ))) aF)) Γ)))) aF)))
  (aG (aS (i:=4) nd rfl (Or.inr rfl) (bZ wM (λΓ=>cV oF (by rfl) T.a2N iK (gA (aB (eJ (aA (pv 3)) ge_int (λ_ _=>rfl)) aF) Γ))))
  (aG (jO (own:=[5]) (aQ (by decide)) (λΓ=>iY a4e rfl (gI (jA (λΓ=>dI (by rfl) T.a0y (gA (aB (bA bL6 bQ3 (aA (pv 2)) ge_int) aF) Γ)) aV1) Γ) (aP (i:=5) nd rfl (Or.inl rfl))
  (gSs (aG (aS (i:=6) nd rfl (Or.inl rfl) (aU (λΓ=>aN d (c.mono (by decide)) (by rfl) T.a2t T.a1u.kp (oJ T) .nil bK (gA (aB (aA (pv 0)) (aB (eJ (aA (pv 3)) (aU (λΓ=>aN b (c.mono (by decide)) (by rfl) T.a0l T.a0k.kp (aZ T) .nil bK (gA (aB (aA (pv 0)) (aB (bZ cS (λΓ=>aT bE (by rfl) T.a0K bJ (gA (aB (aA (pv 3)) aF) Γ))) aF)) Γ))) (λ_ _=>rfl)) aF)) Γ))))
  (aG (iV (ow:=[8]) (i:=7) (aQ (by decide)) (λΓ=>fV (i:=7) nd rfl rfl (csc [8] (by kernel_rfl)) (gI (jA (λΓ=>dI (by rfl) T.a0y (gA (aB (aA (pv 1)) aF) Γ)) aV1) Γ) (λ_ _ _ _=>(aP (i:=8) nd rfl (Or.inl rfl) (.inr rfl))) (aO (by decide)) (λ_ _ _ _=>(cM (bN (fZ c.units) (fW (neg:=true)) (aA (pv 8)) (aA (pv 4)) (by with_unfolding_all rfl)))) (λ_ _ _ _=>gE (cE (aA (pv 8))) Γ) rfl))
  (aG (aS (i:=6) nd rfl (Or.inl rfl) (bA bL bM (eQ (aA (pv 6)) gX (fR (aU (λΓ=>aN b (c.mono (by decide)) (by rfl) T.a0l T.a0k.kp (aZ T) .nil bK (gA (aB (aA (pv 0)) (aB (bA bL bM (bZ cS (λΓ=>aT bE (by rfl) T.a0K bJ (gA (aB (aA (pv 6)) aF) Γ))) ge_int) aF)) Γ))))) (eQ (aA (pv 7)) gX (fR (aU (λΓ=>aN b (c.mono (by decide)) (by rfl) T.a0l T.a0k.kp (aZ T) .nil bK (gA (aB (aA (pv 0)) (aB ge_int aF)) Γ)))))))
  (aG (kD (bN (gP c.units) (dJ (neg:=false)) (aA (pv 6)) (eB aF) (bG _)) (aM (aS (i:=6) nd rfl (Or.inl rfl) (eQ (aA (pv 4)) gX (fR ge_int)))) eI)
  (aG (gS (jT lK (λΓ=>hZ K (by rfl) a7c a1e a2e eU (pv 3) (gA (aB (cE (eQ (aA (pv 6)) gX (fR ge_int))) aF) Γ))))
  (aM (gS (aG4 aH4 (λΓ=>hZ K (by rfl) a7c F.slot_list_extend F.type_list_extend aH3 (pv 4) (gA (aB (bR (ow:=[8]) (aQ (by decide)) (λΓ=>bO (csc [8] (by kernel_rfl)) (gI (bY K (by rfl) (eJ (aA (pv 3)) (cT5 bL7 aV6 ge_int) (λ_ _=>rfl))) Γ) (λ_ _ _ _=>(aP (i:=8) nd rfl (Or.inl rfl) (.inr rfl))) (aO (by decide)) (λ_ _ _ _=>(cM (bN (fZ c.units) (fW (neg:=true)) (aA (pv 8)) (aA (pv 4)) (by with_unfolding_all rfl)))) (λ_ _ _ _=>gE (cE (aA (pv 8))) Γ))) aF) Γ)))))))))) Γ)))
  (aM (bI (aA (pv 3))))))))))
def aS5(T:Txt K mg a)(b:FnOk P w K mg base CX0 1 a.a0O a.a0t ["_law_box_here","_law_many"] (dsp 2 aJ)):FnOk P w K mg base CX0 2 a.a2G a.a1G ["_law_box_here","_law_many"] (dsp 2 dL):=by
 refine cH T.a1R vU (by decide) iF (λcdv A outer s H E c=>?_);have nd:=vU.nd;unfold iF;exact(aG (aS (i:=2) nd rfl (Or.inr rfl) aA4)
  (aG (kD (bN (gP c.units) (dJ (neg:=false)) (aU (λΓ=>aN b (c.mono (by decide)) (by rfl) T.a0l T.a0k.kp (aZ T) .nil bK (gA (aB (aA (pv 0)) (aB ge_int aF)) Γ))) ge_int (bG _)) (aG (dI8 (i:=3) (j:=4) (λΓ=>dE4 (i:=3) (j:=4) rfl nd rfl rfl (by decide) rfl rfl (gA (aB (eJ (aA (pv 2)) (aU (λΓ=>aN b (c.mono (by decide)) (by rfl) T.a0l T.a0k.kp (aZ T) .nil bK (gA (aB (aA (pv 0)) (aB ge_int aF)) Γ))) (λ_ _=>rfl)) (aB (eJ (aA (pv 2)) (bA bL bM ge_int (aU (λΓ=>aN b (c.mono (by decide)) (by rfl) T.a0l T.a0k.kp (aZ T) .nil bK (gA (aB (aA (pv 0)) (aB ge_int aF)) Γ)))) (λ_ _=>rfl)) aF)) Γ) rfl))
  (aM (bI (eQ (eB (aB (cE (aA (pv 3))) (aB (cE (bA bL bM (aA (pv 3)) (aA (pv 4)))) (aB (cE (aA (pv 4))) (aB (cE (bA bL bM (aA (pv 4)) (aA (pv 3)))) (aB (cE (bA bL bM (aA (pv 3)) (aA (pv 3)))) (aB (cE (bA bL bM (bA bL bM (aA (pv 3)) (aA (pv 4))) (aA (pv 3)))) (aB (cE (bA bL bM (aA (pv 4)) (aA (pv 4)))) (aB (cE (bA bL bM (bA bL bM (aA (pv 3)) (aA (pv 3))) (aA (pv 4)))) aF))))))))) gX (fR (aA (pv 1))))))) eI)
  (aG (aS (i:=5) nd rfl (Or.inl rfl) (cV1 (sep:="") K (λΓ=>hZ K (by rfl) F.plainAttrs_str F.slot_str_join F.type_str_join (cE2 K (by rfl)) bK9 (gA (aB (bR (ow:=[10]) (aQ (by decide)) (λΓ=>bO (csc [10] (by kernel_rfl)) (gI (jA (λΓ=>dI (by rfl) T.a0y (gA (aB (aU (λΓ=>aN b (c.mono (by decide)) (by rfl) T.a0l T.a0k.kp (aZ T) .nil bK (gA (aB (aA (pv 0)) (aB ge_int aF)) Γ))) aF) Γ)) aV1) Γ) (λ_ _ _ _=>(aP (i:=10) nd rfl (Or.inl rfl) (.inr rfl))) (aO (by decide)) (λ_ _ _ _=>dD) (λ_ _ _ _=>gE (eJ (aA (pv 2)) (aU (λΓ=>aN b (c.mono (by decide)) (by rfl) T.a0l T.a0k.kp (aZ T) .nil bK (gA (aB (aA (pv 0)) (aB ge_int aF)) Γ))) (λ_ _=>rfl)) Γ))) aF) Γ))))
  (aG (aS (i:=6) nd rfl (Or.inl rfl) (aU (λΓ=>aN b (c.mono (by decide)) (by rfl) T.a0l T.a0k.kp (aZ T) .nil bK (gA (aB (aA (pv 0)) (aB (bA bL bM (bZ cS (λΓ=>aT bE (by rfl) T.a0K bJ (gA (aB (aA (pv 5)) aF) Γ))) ge_int) aF)) Γ))))
  (aG (aS (i:=7) nd rfl (Or.inl rfl) (aU (λΓ=>aN b (c.mono (by decide)) (by rfl) T.a0l T.a0k.kp (aZ T) .nil bK (gA (aB (aA (pv 0)) (aB ge_int aF)) Γ))))
  (aG (aS (i:=8) nd rfl (Or.inl rfl) (aU (λΓ=>aN b (c.mono (by decide)) (by rfl) T.a0l T.a0k.kp (aZ T) .nil bK (gA (aB (aA (pv 0)) (aB ge_int aF)) Γ))))
  (aG (aS (i:=9) nd rfl (Or.inl rfl) (eB aF))
  (aG (jO (own:=[10]) (aQ (by decide)) (λΓ=>iY a4e rfl (gI (jA (λΓ=>dI (by rfl) T.a0y (gA (aB (aA (pv 1)) aF) Γ)) aV1) Γ) (aP (i:=10) nd rfl (Or.inl rfl))
  (gSs (aG (aS (i:=11) nd rfl (Or.inl rfl) (bA bL bM (bA bL bM (eQ (aA (pv 5)) gX (fR (aA (pv 6)))) (eJ (aA (pv 2)) (bA mX jC (bA bL bM (aA (pv 7)) (bA jU jV ge_int (aA (pv 10)))) ge_int) (λ_ _=>rfl))) (eQ (aA (pv 5)) (fR (aA (pv 6))) gX)))
  (aM (gS (jT lK (λΓ=>hZ K (by rfl) a7c a1e a2e eU (pv 9) (gA (aB (cE (bA bL bM (aA (pv 11)) (bA jU jV aA4 (bZ aW0 (λΓ=>cV wW (by rfl) T.a3Q aJ7 (gA (aB (aA8 (gN (gP c.units) (dJ (neg:=false)) (aA (pv 8)) ge_int (bG _)) (xC (gN (gP c.units) (dJ (neg:=false)) (bA mX jC (aA (pv 10)) ge_int) ge_int (bG _)))) aF) Γ)))))) aF) Γ)))))) Γ)))
  (aM (bI (aA (pv 9))))))))))))
def zC(T:Txt K mg a)(d:FnOk P w K mg base CX0 1 a.a0O a.a0t ["_law_box_here","_law_many"] (dsp 2 aJ))(f:FnOk P w K mg base CX0 4 a.a0U a.a0A ["_law_box_here"] (bQ1 1 cRS))(g:FnOk P w K mg base CX0 4 a.a0V a.a0B ["_law_box_here"] (dsp 1 cN))(c:FnOk P w K mg base CX0 2 a.a0W a.a0z ["_law_box_here","_law_things"] (dsp 2 bC))(e:FnOk P w K mg base CX0 2 a.a2G a.a1G ["_law_box_here","_law_many"] (dsp 2 dL)):FnOk P w K mg base CX0 5 a.a1H a.a0I ["_law_box_here"] (bQ1 1 dG):=by
 refine aV3 T.a0L oC (by decide) dW dH (λcdv A outer s H E b=>GM.to ?_);have nd:=oC.nd;unfold dW;exact(aJ2 (cW9 (aS (i:=1) nd rfl (Or.inl rfl) (aU (λΓ=>aN d (b.mono (by decide)) (by rfl) T.a0l T.a0k.kp (aZ T) .nil bK (gA (aB (aA (pv 0)) (aB ge_int aF)) Γ)))))
  (aJ2 (dU0 (bN (gP b.units) (dJ (neg:=false)) (aA (pv 1)) ge_int (bG _)) (dL9 (aW8 bT4 (λΓ=>pL (i:=2) nd rfl (Or.inl rfl) (aN f (b.mono (by decide)) (by rfl) T.a2P T.a1m.kp (wD T) .nil bK (gA (aB (aA (pv 0)) aF) Γ))))) (bT3 (aM (aS (i:=2) nd rfl (Or.inl rfl) (aU (λΓ=>aN g (b.mono (by decide)) (by rfl) T.a2Q T.a0X.kp (wE T) .nil bK (gA (aB (aA (pv 0)) aF) Γ)))))))
  (bT3 (aG (aS (i:=3) nd rfl (Or.inr rfl) (aU (λΓ=>aN c (b.mono (by decide)) (by rfl) T.a0P T.a0x.kp (hJ T) .nil bK (gA (aB (aA (pv 0)) (aB (aU (λΓ=>aN e (b.mono (by decide)) (by rfl) T.a2Z T.a1R.kp (yX T) .nil bK (gA (aB (aA (pv 0)) (aB ge_int aF)) Γ))) aF)) Γ))))
  (aG (aS (i:=4) nd rfl (Or.inl rfl) (cE (aA (pv 3))))
  (aG (kD (bN aT6 pB (aU (λΓ=>aN d (b.mono (by decide)) (by rfl) T.a0l T.a0k.kp (aZ T) .nil bK (gA (aB (aA (pv 0)) (aB ge_int aF)) Γ))) ge_int (bG _)) (aM (aS (i:=4) nd rfl (Or.inl rfl) (aU (λΓ=>aN e (b.mono (by decide)) (by rfl) T.a2Z T.a1R.kp (yX T) .nil bK (gA (aB (aA (pv 0)) (aB ge_int aF)) Γ))))) eI)
  (aG (aS (i:=5) nd rfl (Or.inl rfl) (eB aF))
  (aG (jO (own:=[6,7]) (kH (bQ (aQ (by decide)) (bQ (aQ (by decide)) gW))) (λΓ=>iY a4e rfl (gI (cV4 K (λΓ=>cV3 K (by rfl) (by rfl) T.a3C zS (gA (aB (aU (λΓ=>aN c (b.mono (by decide)) (by rfl) T.a0P T.a0x.kp (hJ T) .nil bK (gA (aB (aA (pv 0)) (aB (aA (pv 2)) aF)) Γ))) aF) Γ))) Γ) (fA (n:=2) K rfl rfl (bP (aP (i:=6) nd rfl (Or.inl rfl)) (bP (aP (i:=7) nd rfl (Or.inl rfl)) gQ)))
  (gSs (aM (gS (jT lK (λΓ=>hZ K (by rfl) a7c a1e a2e eU (pv 5) (gA (aB (oK (aB (eJ (aA (pv 4)) (aA (pv 6)) (λ_ _=>rfl)) (aB (bZ pC (λΓ=>cV iZ (by rfl) T.a1I eO (gA (aB (bR (ow:=[8]) (aQ (by decide)) (λΓ=>bO (csc [8] (by kernel_rfl)) (gI (bY K (by rfl) (aU (λΓ=>aN c (b.mono (by decide)) (by rfl) T.a0P T.a0x.kp (hJ T) .nil bK (gA (aB (aA (pv 0)) (aB (aA (pv 7)) aF)) Γ)))) Γ) (λ_ _ _ _=>(aP (i:=8) nd rfl (Or.inl rfl) (.inr rfl))) (aO (by decide)) (λ_ _ _ _=>dD) (λ_ _ _ _=>gE (eJ (aA (pv 3)) (aA (pv 8)) (λ_ _=>rfl)) Γ))) aF) Γ))) aF))) aF) Γ))))) Γ)))
  (aM (bI (bZ pC (λΓ=>cV iZ (by rfl) T.a1I eO (gA (aB (aA (pv 5)) aF) Γ)))))))))))))
def bJ5(T:Txt K mg a):FnOk P w K mg base CX0 1 a.a3r a.a2p ["_law_script","_law_k"] (dsp 2 fS):=by
 refine cH T.a2m aD9 (by decide) kM (λcdv A outer s H E b=>?_);have nd:=aD9.nd;unfold kM;exact(aG (aS (i:=2) nd rfl (Or.inl rfl) (bA bL bM (bA jU jV ge_int (aA (pv 1))) ge_int))
  (aG (kD (bN aL2 xI (aA (pv 1)) (bZ cS (λΓ=>aT bE (by rfl) T.a0K bJ (gA (aB (aA (pv 0)) aF) Γ))) (bG _)) (aM (aS (i:=2) nd rfl (Or.inl rfl) (eJ (aA (pv 0)) (aA (pv 1)) (λ_ _=>rfl)))) (aM (kD (bN aT6 pB (bZ cS (λΓ=>aT bE (by rfl) T.a0K bJ (gA (aB (aA (pv 0)) aF) Γ))) ge_int (bG _)) (aM (aS (i:=2) nd rfl (Or.inl rfl) (bA bL bM (aA (pv 2)) (bA jU jV (bA mX jC (eJ (aA (pv 0)) (bA mX jC (aA (pv 1)) (bZ cS (λΓ=>aT bE (by rfl) T.a0K bJ (gA (aB (aA (pv 0)) aF) Γ)))) (λ_ _=>rfl)) ge_int) ge_int)))) eI)))
  (aG (aS (i:=3) nd rfl (Or.inl rfl) (bA bL bM (bA mX jC (bA bL bM (bA jU jV (bA mX jC (aA (pv 2)) ge_int) ge_int) (bA jU jV ge_int (aA (pv 1)))) ge_int) ge_int))
  (aM (bI (eB (aB (cE (bA jU jV (aA (pv 2)) (bZ aW0 (λΓ=>cV wW (by rfl) T.a3Q aJ7 (gA (aB (gN dR1 cU3 (aA (pv 2)) (bA dE8 cU2 ge_int ge_int) (bG _)) aF) Γ))))) (aB (cE (aA (pv 3))) aF))))))))
def zT(T:Txt K mg a):FnOk P w K mg base CX0 1 a.a1v a.a0D ["_law_left","_law_kt"] (dsp 2 cJ):=by
 refine cH T.a0J oQ (by decide) fE (λcdv A outer s H E b=>?_);have nd:=oQ.nd;unfold fE;exact(aG (aS (i:=2) nd rfl (Or.inl rfl) (dL2 (dR8 b) (bZ cF0 (λΓ=>cV (bI3 rfl) (by rfl) T.a3V bY0 (gA (aB (aA (pv 0)) aF) Γ))) (aA (pv 1)) (λ_ _=>rfl)))
  (aG (aS (i:=3) nd rfl (Or.inr rfl) (bR (ow:=[5,6]) (kH (bQ (aQ (by decide)) (bQ (aQ (by decide)) gW))) (λΓ=>bO (csc [5,6] (by kernel_rfl)) (gI (bY K (by rfl) (aA (pv 0))) Γ) (λ_ _ _ _=>(fA (n:=2) K rfl rfl (bP (aP (i:=5) nd rfl (Or.inl rfl) (.inr rfl)) (bP (aP (i:=6) nd rfl (Or.inl rfl) (.inr rfl)) gQ)))) (kA (dE (aO (by decide)) (dE (aO (by decide)) jZ dF) dF)) (λ_ _ _ _=>(cM (bN (nT b.units) (dJ (neg:=true)) (aA (pv 5)) (aA (pv 1)) (bG _)))) (λ_ _ _ _=>gE (oK (aB (cE (aA (pv 5))) (aB (cE (aA (pv 6))) aF))) Γ))))
  (aG (aS (i:=4) nd rfl (Or.inr rfl) (bR (ow:=[7]) (aQ (by decide)) (λΓ=>bO (csc [7] (by kernel_rfl)) (gI (bY K (by rfl) (aA (pv 2))) Γ) (λ_ _ _ _=>(aP (i:=7) nd rfl (Or.inr rfl) (.inl rfl))) (aO (by decide)) (λ_ _ _ _=>(cM (bN (nT b.units) (dJ (neg:=true)) (bR (ow:=[5,6]) (kH (bQ (aQ (by decide)) (bQ (aQ (by decide)) gW))) (λΓ=>bO (csc [5,6] (by kernel_rfl)) (gI (bY K (by rfl) (aA (pv 3))) Γ) (λ_ _ _ _=>(fA (n:=2) K rfl rfl (bP (aP (i:=5) nd rfl (Or.inl rfl) (.inr rfl)) (bP (aP (i:=6) nd rfl (Or.inl rfl) (.inr rfl)) gQ)))) (kA (dE (aO (by decide)) (dE (aO (by decide)) jZ dF) dF)) (λ_ _ _ _=>(cM (bN (nU b.units) (fW (neg:=false)) (aA (pv 7)) (aA (pv 6)) (by with_unfolding_all rfl)))) (λ_ _ _ _=>gE ge_int Γ))) (eB aF) (bG _)))) (λ_ _ _ _=>gE (cE (aA (pv 7))) Γ))))
  (aM (bI (bR (ow:=[5,6]) (kH (bQ (aQ (by decide)) (bQ (aQ (by decide)) gW))) (λΓ=>bO (csc [5,6] (by kernel_rfl)) (gI (bY K (by rfl) (aA (pv 3))) Γ) (λ_ _ _ _=>(fA (n:=2) K rfl rfl (bP (aP (i:=5) nd rfl (Or.inl rfl) (.inr rfl)) (bP (aP (i:=6) nd rfl (Or.inr rfl) (.inl rfl)) gQ)))) (kA (dE (aO (by decide)) (dE (aO (by decide)) jZ dF) dF)) (λ_ _ _ _=>(cM (nM (bZ uV (λΓ=>aT (kJ K (by rfl) (by rfl)) (by rfl) T.a3F oH (gA (aB (bR (ow:=[7]) (aQ (by decide)) (λΓ=>bO (csc [7] (by kernel_rfl)) (gI (bY K (by rfl) (aA (pv 4))) Γ) (λ_ _ _ _=>(aP (i:=7) nd rfl (Or.inl rfl) (.inr rfl))) (aO (by decide)) (λ_ _ _ _=>dD) (λ_ _ _ _=>gE (gN (nU b.units) (fW (neg:=false)) (aA (pv 7)) (aA (pv 6)) (by with_unfolding_all rfl)) Γ))) aF) Γ)))))) (λ_ _ _ _=>gE (cE (aA (pv 5))) Γ))))))))
def wG(T:Txt K mg a)(c:FnOk P w K mg base CX0 1 a.a1v a.a0D ["_law_left","_law_kt"] (dsp 2 cJ))(d:FnOk P w K mg base CX0 1 a.a0O a.a0t ["_law_box_here","_law_many"] (dsp 2 aJ)):FnOk P w K mg base CX0 2 a.a1t a.a0E ["_law_box_here","_law_question_here"] (dsp 2 dX):=by
 refine cH T.a1x nF (by decide) eN (λcdv A outer s H E b=>?_);have nd:=nF.nd;unfold eN;exact(aG (aS (i:=2) nd rfl (Or.inr rfl) (bZ wM (λΓ=>cV oF (by rfl) T.a2N iK (gA (aB (aA (pv 1)) aF) Γ))))
  (aG (aS (i:=3) nd rfl (Or.inl rfl) (eB aF))
  (aG (aG7 (λΓ=>aE9 a4e (gT (bN aT6 pB (bZ cS (λΓ=>aT bE (by rfl) T.a0K bJ (gA (aB (aA (pv 2)) aF) Γ))) ge_int (bG _)) Γ)
  (gSs (aG (iV (ow:=[5,7]) (i:=4) (kH (bQ (aQ (by decide)) (bQ (aQ (by decide)) gW))) (λΓ=>fV (i:=4) nd rfl rfl (csc [5,7] (by kernel_rfl)) (gI (bY K (by rfl) (aA (pv 2))) Γ) (λ_ _ _ _=>(fA (n:=2) K rfl rfl (bP (aP (i:=5) nd rfl (Or.inl rfl) (.inr rfl)) (bP (aP (i:=7) nd rfl (Or.inl rfl) (.inr rfl)) gQ)))) (kA (dE (aO (by decide)) (dE (aO (by decide)) jZ dF) dF)) (λ_ _ _ _=>(cM (bN (nT b.units) (dJ (neg:=true)) (aU (λΓ=>aN c (b.mono (by decide)) (by rfl) T.a1L T.a0J.kp (mW T) .nil bK (gA (aB (aA (pv 2)) (aB (aA (pv 5)) aF)) Γ))) (eB aF) (bG _)))) (λ_ _ _ _=>gE (cE (aA (pv 5))) Γ) rfl))
  (aG (kD (bN (gP b.units) (dJ (neg:=false)) (aA (pv 4)) (eB aF) (bG _)) (aM (bI aA5)) eI)
  (aG (aS (i:=5) nd rfl (Or.inr rfl) (eJ (aA (pv 4)) (aU (λΓ=>aN d (b.mono (by decide)) (by rfl) T.a0l T.a0k.kp (aZ T) .nil bK (gA (aB (aA (pv 0)) (aB (bZ cS (λΓ=>aT bE (by rfl) T.a0K bJ (gA (aB (aA (pv 4)) aF) Γ))) aF)) Γ))) (λ_ _=>rfl)))
  (aG (aS (i:=6) nd rfl (Or.inl rfl) (aU (λΓ=>aN c (b.mono (by decide)) (by rfl) T.a1L T.a0J.kp (mW T) .nil bK (gA (aB (aA (pv 2)) (aB (aA (pv 5)) aF)) Γ))))
  (aG (gS (jT lK (λΓ=>hZ K (by rfl) a7c a1e a2e eU (pv 3) (gA (aB (oK (aB (cE (aA (pv 5))) (aB (eJ (aA (pv 6)) (aU (λΓ=>aN d (b.mono (by decide)) (by rfl) T.a0l T.a0k.kp (aZ T) .nil bK (gA (aB (aA (pv 0)) (aB (bZ cS (λΓ=>aT bE (by rfl) T.a0K bJ (gA (aB (aA (pv 6)) aF) Γ))) aF)) Γ))) (λ_ _=>rfl)) aF))) aF) Γ))))
  (aM (aS (i:=2) nd rfl (Or.inr rfl) (bR (ow:=[8]) (aQ (by decide)) (λΓ=>bO (csc [8] (by kernel_rfl)) (gI (bY K (by rfl) (aA (pv 2))) Γ) (λ_ _ _ _=>(aP (i:=8) nd rfl (Or.inl rfl) (.inr rfl))) (aO (by decide)) (λ_ _ _ _=>(cM (bN (nT b.units) (dJ (neg:=true)) (eJ (aA (pv 8)) ge_int (λ_ _=>rfl)) (aA (pv 5)) (bG _)))) (λ_ _ _ _=>gE (cE (aA (pv 8))) Γ)))))))))) Γ)))
  (aM (bI (bA bL bM (aA (pv 3)) (eB (aB (oK (aB (eJ (eJ (aA (pv 2)) ge_int (λ_ _=>rfl)) ge_int (λ_ _=>rfl)) (aB aA5 aF))) aF))))))))
def bJ6(T:Txt K mg a):FnOk P w K mg base CX0 1 a.without a.a1J ["question","name"] (dsp 2 fT):=by
 refine cH T.a2I aE0 (by decide) kN (λcdv A outer s H E b=>?_);have nd:=aE0.nd;unfold kN;exact(aM (bI (bZ pC (λΓ=>cV iZ (by rfl) T.a1I eO (gA (aB (bR (ow:=[2]) (aQ (by decide)) (λΓ=>bO (csc [2] (by kernel_rfl)) (gI (bY K (by rfl) (aA (pv 0))) Γ) (λ_ _ _ _=>(aP (i:=2) nd rfl (Or.inl rfl) (.inr rfl))) (aO (by decide)) (λ_ _ _ _=>(cM (bN (nT b.units) (dJ (neg:=true)) (eJ (aA (pv 2)) ge_int (λ_ _=>rfl)) (aA (pv 1)) (bG _)))) (λ_ _ _ _=>gE (cE (aA (pv 2))) Γ))) aF) Γ)))))
def aK3(T:Txt K mg a):FnOk P w K mg base CX0 1 a.a0r a.a0H ["question"] (dsp 1 cU):=by
 refine cH T.a1C uM (by decide) gC (λcdv A outer s H E b=>?_);have nd:=uM.nd;unfold gC;exact(aG (aS (i:=1) nd rfl (Or.inr rfl) (eB aF))
  (aG (jO (own:=[2,3]) (kH (bQ (aQ (by decide)) (bQ (aQ (by decide)) gW))) (λΓ=>iY a4e rfl (gI (bY K (by rfl) (aA (pv 0))) Γ) (fA (n:=2) K rfl rfl (bP (aP (i:=2) nd rfl (Or.inl rfl)) (bP (aP (i:=3) nd rfl (Or.inl rfl)) gQ)))
  (gSs (aM (gS (aG4 aH4 (λΓ=>hZ K (by rfl) a7c F.slot_list_extend F.type_list_extend aH3 (pv 1) (gA (aB (bR (ow:=[4]) (aQ (by decide)) (λΓ=>bO (csc [4] (by kernel_rfl)) (gI (bY K (by rfl) (aA (pv 3))) Γ) (λ_ _ _ _=>(aP (i:=4) nd rfl (Or.inl rfl) (.inr rfl))) (aO (by decide)) (λ_ _ _ _=>(cM (bN (fZ b.units) (fW (neg:=true)) (aA (pv 4)) (aA (pv 1)) (by with_unfolding_all rfl)))) (λ_ _ _ _=>gE (cE (aA (pv 4))) Γ))) aF) Γ))))) Γ)))
  (aM (bI (bZ pC (λΓ=>cV iZ (by rfl) T.a1I eO (gA (aB (aA (pv 1)) aF) Γ)))))))
def bJ7(T:Txt K mg a):FnOk P w K mg base CX0 1 a.a1k a.a2r ["columns","some"] (dsp 2 jG):=by
 refine cH T.a3k aE1 (by decide) kO (λcdv A outer s H E b=>?_);have nd:=aE1.nd;unfold kO;exact(aM (bI (bZ uV (λΓ=>aT (kJ K (by rfl) (by rfl)) (by rfl) T.a3F oH (gA (aB (bR (ow:=[2]) (aQ (by decide)) (λΓ=>bO (csc [2] (by kernel_rfl)) (gI (bY K (by rfl) (aA (pv 1))) Γ) (λ_ _ _ _=>(aP (i:=2) nd rfl (Or.inl rfl) (.inr rfl))) (aO (by decide)) (λ_ _ _ _=>dD) (λ_ _ _ _=>gE (gN (nU b.units) (fW (neg:=false)) (aA (pv 2)) (aA (pv 0)) (by with_unfolding_all rfl)) Γ))) aF) Γ)))))
def aK4(T:Txt K mg a)(c:FnOk P w K mg base CX0 1 a.without a.a1J ["question","name"] (dsp 2 fT))(d:FnOk P w K mg base CX0 1 a.a0r a.a0H ["question"] (dsp 1 cU))(e:FnOk P w K mg base CX0 1 a.a1k a.a2r ["columns","some"] (dsp 2 jG)):FnOk P w K mg base CX0 2 a.a0s a.a1s ["left","name","columns"] (dsp 3 fF):=by
 refine cH T.a2n uN (by decide) gD (λcdv A outer s H E b=>?_);have nd:=uN.nd;unfold gD;exact(aG (aS (i:=3) nd rfl (Or.inr rfl) (aU (λΓ=>aN c (b.mono (by decide)) (by rfl) T.a3y T.a2I.kp (aS1 T) .nil bK (gA (aB (aA (pv 0)) (aB (aA (pv 1)) aF)) Γ))))
  (aG (kD (bN (gP b.units) (dJ (neg:=false)) (bZ cS (λΓ=>aT bE (by rfl) T.a0K bJ (gA (aB (aA (pv 3)) aF) Γ))) ge_int (bG _)) (aM (bI (eB (aB aA5 aF)))) eI)
  (aG (aS (i:=4) nd rfl (Or.inr rfl) (bR (ow:=[5]) (aQ (by decide)) (λΓ=>bO (csc [5] (by kernel_rfl)) (gI (bY K (by rfl) (aA (pv 2))) Γ) (λ_ _ _ _=>(aP (i:=5) nd rfl (Or.inl rfl) (.inr rfl))) (aO (by decide)) (λ_ _ _ _=>(cM (bN (nU b.units) (fW (neg:=false)) (aA (pv 5)) (aU (λΓ=>aN d (b.mono (by decide)) (by rfl) T.a2O T.a1C.kp (vZ T) .nil bK (gA (aB (aA (pv 3)) aF) Γ))) (by with_unfolding_all rfl)))) (λ_ _ _ _=>gE (cE (aA (pv 5))) Γ))))
  (aM (bI (bR (ow:=[6,7]) (kH (bQ (aQ (by decide)) (bQ (aQ (by decide)) gW))) (λΓ=>bO (csc [6,7] (by kernel_rfl)) (gI (bY K (by rfl) (aA (pv 3))) Γ) (λ_ _ _ _=>(fA (n:=2) K rfl rfl (bP (aP (i:=6) nd rfl (Or.inl rfl) (.inr rfl)) (bP (aP (i:=7) nd rfl (Or.inl rfl) (.inr rfl)) gQ)))) (kA (dE (aO (by decide)) (dE (aO (by decide)) jZ dF) dF)) (λ_ _ _ _=>(cM (nM (aU (λΓ=>aN e (b.mono (by decide)) (by rfl) T.a3K T.a3k.kp (bY2 T) .nil bK (gA (aB (aA (pv 7)) (aB (aA (pv 4)) aF)) Γ)))))) (λ_ _ _ _=>gE (cE (aA (pv 6))) Γ))))))))
def bJ8(T:Txt K mg a)(b:FnOk P w K mg base CX0 2 a.a0s a.a1s ["left","name","columns"] (dsp 3 fF)):FnOk P w K mg base CX0 3 a.a1q a.a2u ["left"] (dsp 1 gY):=by
 refine cH T.a2M aE2 (by decide) kP (λcdv A outer s H E c=>?_);have nd:=aE2.nd;unfold kP;exact(aG (aS (i:=1) nd rfl (Or.inl rfl) (eB aF))
  (aG (jO (own:=[2,3]) (kH (bQ (aQ (by decide)) (bQ (aQ (by decide)) gW))) (λΓ=>iY a4e rfl (gI (bY K (by rfl) (aA (pv 0))) Γ) (fA (n:=2) K rfl rfl (bP (aP (i:=2) nd rfl (Or.inr rfl)) (bP (aP (i:=3) nd rfl (Or.inl rfl)) gQ)))
  (gSs (aM (gS (aG4 aH4 (λΓ=>hZ K (by rfl) a7c F.slot_list_extend F.type_list_extend aH3 (pv 1) (gA (aB (bR (ow:=[4]) (aQ (by decide)) (λΓ=>bO (csc [4] (by kernel_rfl)) (gI (bY K (by rfl) (aU (λΓ=>aN b (c.mono (by decide)) (by rfl) T.a3v T.a2n.kp (aS2 T) .nil bK (gA (aB (aA (pv 0)) (aB (aA (pv 2)) (aB (aA (pv 3)) aF))) Γ)))) Γ) (λ_ _ _ _=>(aP (i:=4) nd rfl (Or.inl rfl) (.inr rfl))) (aO (by decide)) (λ_ _ _ _=>dD) (λ_ _ _ _=>gE (oK (aB (cE (aA (pv 2))) (aB (cE (aA (pv 4))) aF))) Γ))) aF) Γ))))) Γ)))
  (aM (bI (aA (pv 1))))))
def aS6(T:Txt K mg a)(b:FnOk P w K mg base CX0 3 a.a1q a.a2u ["left"] (dsp 1 gY))(c:FnOk P w K mg base CX0 1 a.without a.a1J ["question","name"] (dsp 2 fT)):FnOk P w K mg base CX0 4 a.a0w a.a1A ["question"] (dsp 1 iS):=by
 refine cH T.a2E vV (by decide) iG (λcdv A outer s H E d=>?_);have nd:=vV.nd;unfold iG;exact(aG (aS (i:=1) nd rfl (Or.inl rfl) (cE (aA (pv 0))))
  (aG (aS (i:=2) nd rfl (Or.inl rfl) (eB aF))
  (aG (aS (i:=3) nd rfl (Or.inl rfl) (aU (λΓ=>aN b (d.mono (by decide)) (by rfl) T.a3x T.a2M.kp (aS3 T) .nil bK (gA (aB (aA (pv 1)) aF) Γ))))
  (aG (aG7 (λΓ=>aE9 a4e (gT (cC7 (aA (pv 3)) (λ_=>rfl)) Γ)
  (gSs (aG (gS (jT lK (λΓ=>hZ K (by rfl) a7c a1e a2e eU (pv 2) (gA (aB (eJ (aA (pv 3)) ge_int (λ_ _=>rfl)) aF) Γ))))
  (aG (aS (i:=1) nd rfl (Or.inl rfl) (aU (λΓ=>aN c (d.mono (by decide)) (by rfl) T.a3y T.a2I.kp (aS1 T) .nil bK (gA (aB (aA (pv 1)) (aB (eJ (eJ (aA (pv 3)) ge_int (λ_ _=>rfl)) ge_int (λ_ _=>rfl)) aF)) Γ))))
  (aM (aS (i:=3) nd rfl (Or.inl rfl) (aU (λΓ=>aN b (d.mono (by decide)) (by rfl) T.a3x T.a2M.kp (aS3 T) .nil bK (gA (aB (aA (pv 1)) aF) Γ))))))) Γ)))
  (aM (bI (aA (pv 2))))))))
def aS7(T:Txt K mg a):FnOk P w K mg base CX0 1 a.a0v a.a1D ["names"] (dsp 1 gF):=by
 refine cH T.a2z vW (by decide) iH (λcdv A outer s H E b=>?_);have nd:=vW.nd;unfold iH;exact(aG (aS (i:=1) nd rfl (Or.inl rfl) (eB (aB (oK aF) aF)))
  (aG (jO (own:=[2]) (aQ (by decide)) (λΓ=>iY a4e rfl (gI (bY K (by rfl) (aA (pv 0))) Γ) (aP (i:=2) nd rfl (Or.inr rfl))
  (gSs (aM (aS (i:=1) nd rfl (Or.inl rfl) (bA bL bM (aA (pv 1)) (bR (ow:=[3]) (aQ (by decide)) (λΓ=>bO (csc [3] (by kernel_rfl)) (gI (bY K (by rfl) (aA (pv 1))) Γ) (λ_ _ _ _=>(aP (i:=3) nd rfl (Or.inl rfl) (.inr rfl))) (aO (by decide)) (λ_ _ _ _=>dD) (λ_ _ _ _=>gE (cE (bA bL bM (aA (pv 3)) (oK (aB (cE (aA (pv 2))) aF)))) Γ)))))) Γ)))
  (aM (bI (aA (pv 1))))))
def vF(T:Txt K mg a):FnOk P w K mg base CX0 1 a.a0m a.a0C ["question","one","other"] (dsp 3 dN):=by
 refine cH T.a1j kZ (by decide) dY (λcdv A outer s H E b=>?_);have nd:=kZ.nd;unfold dY;exact(aM (bI (bZ bS9 (λΓ=>aT (aP2 K (by rfl) (by rfl)) (by rfl) T.a3U bE6 (gA (aB (bR (ow:=[3,4]) (kH (bQ (aQ (by decide)) (bQ (aQ (by decide)) gW))) (λΓ=>bO (csc [3,4] (by kernel_rfl)) (gI (bY K (by rfl) (aA (pv 0))) Γ) (λ_ _ _ _=>(fA (n:=2) K rfl rfl (bP (aP (i:=3) nd rfl (Or.inl rfl) (.inr rfl)) (bP (aP (i:=4) nd rfl (Or.inl rfl) (.inr rfl)) gQ)))) (kA (dE (aO (by decide)) (dE (aO (by decide)) jZ dF) dF)) (λ_ _ _ _=>dD) (λ_ _ _ _=>gE (aA8 (gN (nU b.units) (fW (neg:=false)) (aA (pv 1)) (aA (pv 4)) (by with_unfolding_all rfl)) (xC (gN (nU b.units) (fW (neg:=false)) (aA (pv 2)) (aA (pv 4)) (by with_unfolding_all rfl)))) Γ))) aF) Γ)))))
def bY6(T:Txt K mg a)(b:FnOk P w K mg base CX0 1 a.a0m a.a0C ["question","one","other"] (dsp 3 dN)):FnOk P w K mg base CX0 2 a.walked a.a2L ["question","columns"] (dsp 2 kQ):=by
 refine cH T.a3n aS0 (by decide) nX (λcdv A outer s H E c=>?_);have nd:=aS0.nd;unfold nX;exact(aG (aS (i:=2) nd rfl (Or.inr rfl) (eQ (aA (pv 1)) gX (fR ge_int)))
  (aG (jO (own:=[3]) (aQ (by decide)) (λΓ=>iY a4e rfl (gI (bY K (by rfl) (eQ (aA (pv 1)) (fR ge_int) gX)) Γ) (aP (i:=3) nd rfl (Or.inl rfl))
  (gSs (aG (iV (ow:=[5]) (i:=4) (aQ (by decide)) (λΓ=>fV (i:=4) nd rfl rfl (csc [5] (by kernel_rfl)) (gI (bY K (by rfl) (aA (pv 1))) Γ) (λ_ _ _ _=>(aP (i:=5) nd rfl (Or.inl rfl) (.inr rfl))) (aO (by decide)) (λ_ _ _ _=>(cM (GW.gt (aN0 (bN (fZ c.units) (fW (neg:=true)) (aA (pv 5)) (aA (pv 2)) (by with_unfolding_all rfl)) (xB (nM (aU (λΓ=>aN b (c.mono (by decide)) (by rfl) T.a2R T.a1j.kp (wF T) .nil bK (gA (aB (aA (pv 0)) (aB (eJ (aA (pv 2)) (cT5 bL7 aV6 ge_int) (λ_ _=>rfl)) (aB (aA (pv 5)) aF))) Γ))))))))) (λ_ _ _ _=>gE (cE (aA (pv 5))) Γ) rfl))
  (aM (aS (i:=2) nd rfl (Or.inr rfl) (bA bL bM (aA (pv 2)) (bZ pC (λΓ=>cV iZ (by rfl) T.a1I eO (gA (aB (eQ (aA (pv 4)) gX (fR ge_int)) aF) Γ))))))) Γ)))
  (aM (bI (aA (pv 2))))))
def bJ9(T:Txt K mg a):FnOk P w K mg base CX0 1 a.a1p a.a2s ["question","columns"] (dsp 2 jH):=by
 refine cH T.a2T aE3 (by decide) kR (λcdv A outer s H E b=>?_);have nd:=aE3.nd;unfold kR;exact(aG (aS (i:=2) nd rfl (Or.inl rfl) (eB aF))
  (aG (jO (own:=[3,4]) (kH (bQ (aQ (by decide)) (bQ (aQ (by decide)) gW))) (λΓ=>iY a4e rfl (gI (bY K (by rfl) (aA (pv 0))) Γ) (fA (n:=2) K rfl rfl (bP (aP (i:=3) nd rfl (Or.inl rfl)) (bP (aP (i:=4) nd rfl (Or.inr rfl)) gQ)))
  (gSs (aG (aS (i:=5) nd rfl (Or.inl rfl) (bZ pC (λΓ=>cV iZ (by rfl) T.a1I eO (gA (aB (bR (ow:=[6]) (aQ (by decide)) (λΓ=>bO (csc [6] (by kernel_rfl)) (gI (bY K (by rfl) (aA (pv 1))) Γ) (λ_ _ _ _=>(aP (i:=6) nd rfl (Or.inl rfl) (.inr rfl))) (aO (by decide)) (λ_ _ _ _=>(cM (bN (nU b.units) (fW (neg:=false)) (aA (pv 6)) (aA (pv 4)) (by with_unfolding_all rfl)))) (λ_ _ _ _=>gE (cE (aA (pv 6))) Γ))) aF) Γ))))
  (aM (kD (bN (fZ b.units) (fW (neg:=true)) (aA (pv 5)) (aA (pv 2)) (by with_unfolding_all rfl)) (aM (gS (jT lK (λΓ=>hZ K (by rfl) a7c a1e a2e eU (pv 2) (gA (aB (cE (aA (pv 5))) aF) Γ))))) eI))) Γ)))
  (aM (bI (aA (pv 2))))))
def zU(T:Txt K mg a):FnOk P w K mg base CX0 1 a.a0o a.a0N ["one","other"] (dsp 2 eW):=by
 refine cH T.a1Y oR (by decide) fG (λcdv A outer s H E b=>?_);have nd:=oR.nd;unfold fG;exact(aM (bI (aA8 (gN (nT b.units) (dJ (neg:=true)) (aA (pv 0)) (aA (pv 1)) (bG _)) (xC (bZ uV (λΓ=>aT (kJ K (by rfl) (by rfl)) (by rfl) T.a3F oH (gA (aB (bR (ow:=[2]) (aQ (by decide)) (λΓ=>bO (csc [2] (by kernel_rfl)) (gI (bY K (by rfl) (aA (pv 0))) Γ) (λ_ _ _ _=>(aP (i:=2) nd rfl (Or.inl rfl) (.inr rfl))) (aO (by decide)) (λ_ _ _ _=>dD) (λ_ _ _ _=>gE (gN (nU b.units) (fW (neg:=false)) (aA (pv 2)) (aA (pv 1)) (by with_unfolding_all rfl)) Γ))) aF) Γ)))))))
def zV(T:Txt K mg a)(b:FnOk P w K mg base CX0 1 a.a1p a.a2s ["question","columns"] (dsp 2 jH))(c:FnOk P w K mg base CX0 1 a.a0o a.a0N ["one","other"] (dsp 2 eW)):FnOk P w K mg base CX0 2 a.a0n a.a0Q ["question","columns"] (dsp 2 eX):=by
 refine cH T.a1M oS (by decide) fH (λcdv A outer s H E d=>?_);have nd:=oS.nd;unfold fH;exact(aG (aS (i:=2) nd rfl (Or.inr rfl) (aU (λΓ=>aN b (d.mono (by decide)) (by rfl) T.a3I T.a2T.kp (bY3 T) .nil bK (gA (aB (aA (pv 0)) (aB (aA (pv 1)) aF)) Γ))))
  (aM (bI (bR (ow:=[3]) (aQ (by decide)) (λΓ=>bO (csc [3] (by kernel_rfl)) (gI (bY K (by rfl) (aA (pv 2))) Γ) (λ_ _ _ _=>(aP (i:=3) nd rfl (Or.inr rfl) (.inl rfl))) (aO (by decide)) (λ_ _ _ _=>(cM (aA7 (nM (bZ bS9 (λΓ=>aT (aP2 K (by rfl) (by rfl)) (by rfl) T.a3U bE6 (gA (aB (bR (ow:=[4]) (aQ (by decide)) (λΓ=>bO (csc [4] (by kernel_rfl)) (gI (bY K (by rfl) (aA (pv 2))) Γ) (λ_ _ _ _=>(aP (i:=4) nd rfl (Or.inl rfl) (.inr rfl))) (aO (by decide)) (λ_ _ _ _=>dD) (λ_ _ _ _=>gE (cE (aU (λΓ=>aN c (d.mono (by decide)) (by rfl) T.a3u T.a1Y.kp (aJ8 T) .nil bK (gA (aB (aA (pv 3)) (aB (aA (pv 4)) aF)) Γ)))) Γ))) aF) Γ))))))) (λ_ _ _ _=>gE (cE (aA (pv 3))) Γ))))))
def zX(T:Txt K mg a):FnOk P w K mg base CX0 1 a.a0p a.a0R ["columns"] (dsp 1 cK):=by
 refine cH T.a1N oU (by decide) fJ (λcdv A outer s H E b=>?_);have nd:=oU.nd;unfold fJ;exact(aM (bI (bR (ow:=[1]) (aQ (by decide)) (λΓ=>bO (csc [1] (by kernel_rfl)) (gI (jA (λΓ=>dI (by rfl) T.a0y (gA (aB (bZ cS (λΓ=>aT bE (by rfl) T.a0K bJ (gA (aB (aA (pv 0)) aF) Γ))) aF) Γ)) aV1) Γ) (λ_ _ _ _=>(aP (i:=1) nd rfl (Or.inl rfl) (.inr rfl))) (aO (by decide)) (λ_ _ _ _=>dD) (λ_ _ _ _=>gE (cE (bA bL bM (eQ (aA (pv 0)) gX (fR (aA (pv 1)))) (eQ (aA (pv 0)) (fR (bA bL bM (aA (pv 1)) ge_int)) gX))) Γ)))))
def aK5(T:Txt K mg a):FnOk P w K mg base CX0 1 a.neighbours a.a1r ["columns"] (dsp 1 fK):=by
 refine cH T.a2j uO (by decide) gG (λcdv A outer s H E b=>?_);have nd:=uO.nd;unfold gG;exact(aG (iV (ow:=[2]) (i:=1) (aQ (by decide)) (λΓ=>fV (i:=1) nd rfl rfl (csc [2] (by kernel_rfl)) (gI (jA (λΓ=>dI (by rfl) T.a0y (gA (aB (bA bL6 bQ3 (bZ cS (λΓ=>aT bE (by rfl) T.a0K bJ (gA (aB (aA (pv 0)) aF) Γ))) ge_int) aF) Γ)) aV1) Γ) (λ_ _ _ _=>(aP (i:=2) nd rfl (Or.inl rfl) (.inr rfl))) (aO (by decide)) (λ_ _ _ _=>dD) (λ_ _ _ _=>gE (cE (eQ (aA (pv 0)) (fR (aA (pv 2))) (fR (bA bL bM (aA (pv 2)) ge_int)))) Γ) rfl))
  (aM (bI (bA bL bM (aA (pv 1)) (eB (aB (oK (aB (eJ (aA (pv 0)) ge_int (λ_ _=>rfl)) (aB (eJ (aA (pv 0)) (cT5 bL7 aV6 ge_int) (λ_ _=>rfl)) aF))) aF))))))
def bK0(T:Txt K mg a)(c:FnOk P w K mg base CX0 2 a.a0n a.a0Q ["question","columns"] (dsp 2 eX))(d:FnOk P w K mg base CX0 1 a.a0p a.a0R ["columns"] (dsp 1 cK))(e:FnOk P w K mg base CX0 1 a.neighbours a.a1r ["columns"] (dsp 1 fK)):FnOk P w K mg base CX0 3 a.a1n a.a2v ["question","columns"] (dsp 2 jI):=by
 refine cH T.a2V aE4 (by decide) kS (λcdv A outer s H E b=>?_);have nd:=aE4.nd;unfold kS;exact(aG (kD (GW.gt (cC8 (bN aL2 xI (bZ cS (λΓ=>aT bE (by rfl) T.a0K bJ (gA (aB (aA (pv 1)) aF) Γ))) (cC5 (by rfl) T.a3O) (bG _)) (bP5 (bN aL2 xI (bZ aB6 (λΓ=>bC6 (id:="len") (U:="set") (xO rfl) (by rfl) T.a0K bJ (by rfl) T.a3S bE8 (gA (aB (aA (pv 1)) aF) Γ))) (bZ cS (λΓ=>aT bE (by rfl) T.a0K bJ (gA (aB (aA (pv 1)) aF) Γ))) (bG _))))) (aM (bI wB)) eI)
  (aG (aS (i:=2) nd rfl (Or.inl rfl) (bZ vA (λΓ=>aT pE (by rfl) T.a1E eY (gA (aB (aU (λΓ=>aN c (b.mono (by decide)) (by rfl) T.a3o T.a1M.kp (aJ9 T) .nil bK (gA (aB (aA (pv 0)) (aB (aA (pv 1)) aF)) Γ))) aF) Γ))))
  (aM (bI (dS6 (gN (gP b.units) (dJ (neg:=false)) (aA (pv 2)) (bZ vA (λΓ=>aT pE (by rfl) T.a1E eY (gA (aB (aU (λΓ=>aN d (b.mono (by decide)) (by rfl) T.a3p T.a1N.kp (aK0 T) .nil bK (gA (aB (aA (pv 1)) aF) Γ))) aF) Γ))) (bG _)) (xC (gN (gP b.units) (dJ (neg:=false)) (aA (pv 2)) (bZ vA (λΓ=>aT pE (by rfl) T.a1E eY (gA (aB (aU (λΓ=>aN e (b.mono (by decide)) (by rfl) T.a3w T.a2j.kp (aS4 T) .nil bK (gA (aB (aA (pv 1)) aF) Γ))) aF) Γ))) (bG _))))))))
def bK1(T:Txt K mg a)(c:FnOk P w K mg base CX0 1 a.a0v a.a1D ["names"] (dsp 1 gF))(d:FnOk P w K mg base CX0 1 a.a0r a.a0H ["question"] (dsp 1 cU))(e:FnOk P w K mg base CX0 2 a.walked a.a2L ["question","columns"] (dsp 2 kQ))(f:FnOk P w K mg base CX0 3 a.a1n a.a2v ["question","columns"] (dsp 2 jI)):FnOk P w K mg base CX0 4 a.a0Z a.a2q ["question"] (dsp 1 mU):=by
 refine cH T.a2S aE5 (by decide) kU (λcdv A outer s H E b=>?_);have nd:=aE5.nd;unfold kU;exact(aG (jO (own:=[1]) (aQ (by decide)) (λΓ=>iY a4e rfl (gI (bY K (by rfl) (aU (λΓ=>aN c (b.mono (by decide)) (by rfl) T.a3B T.a2z.kp (aY2 T) .nil bK (gA (aB (aU (λΓ=>aN d (b.mono (by decide)) (by rfl) T.a2O T.a1C.kp (vZ T) .nil bK (gA (aB (aA (pv 0)) aF) Γ))) aF) Γ)))) Γ) (aP (i:=1) nd rfl (Or.inl rfl))
  (gSs (aG (aS (i:=2) nd rfl (Or.inl rfl) (aU (λΓ=>aN e (b.mono (by decide)) (by rfl) T.a3N T.a3n.kp (cH9 T) .nil bK (gA (aB (aA (pv 0)) (aB (aA (pv 1)) aF)) Γ))))
  (aM (kD (nM (aU (λΓ=>aN f (b.mono (by decide)) (by rfl) T.a3H T.a2V.kp (bY4 T) .nil bK (gA (aB (aA (pv 0)) (aB (aA (pv 2)) aF)) Γ)))) (aM (bI (aA (pv 2)))) eI))) Γ)))
  (aM (bI aA5)))
def zY(T:Txt K mg a):FnOk P w K mg base CX0 1 a.a1Q a.a0M ["_law_question_here"] (dsp 1 dZ):=by
 refine cH T.a1U oV (by decide) jY (λcdv A outer s H E b=>?_);have nd:=oV.nd;unfold jY;exact(aG (aS (i:=1) nd rfl (Or.inr rfl) (eB aF))
  (aG (jO (own:=[2,3]) (kH (bQ (aQ (by decide)) (bQ (aQ (by decide)) gW))) (λΓ=>iY a4e rfl (gI (bY K (by rfl) (aA (pv 0))) Γ) (fA (n:=2) K rfl rfl (bP (aP (i:=2) nd rfl (Or.inl rfl)) (bP (aP (i:=3) nd rfl (Or.inl rfl)) gQ)))
  (gSs (aM (gS (aG4 aH4 (λΓ=>hZ K (by rfl) a7c F.slot_list_extend F.type_list_extend aH3 (pv 1) (gA (aB (bR (ow:=[4]) (aQ (by decide)) (λΓ=>bO (csc [4] (by kernel_rfl)) (gI (bY K (by rfl) (aA (pv 3))) Γ) (λ_ _ _ _=>(aP (i:=4) nd rfl (Or.inl rfl) (.inr rfl))) (aO (by decide)) (λ_ _ _ _=>(cM (bN (fZ b.units) (fW (neg:=true)) (aA (pv 4)) (aA (pv 1)) (by with_unfolding_all rfl)))) (λ_ _ _ _=>gE (cE (aA (pv 4))) Γ))) aF) Γ))))) Γ)))
  (aM (bI (bZ pC (λΓ=>cV iZ (by rfl) T.a1I eO (gA (aB (aA (pv 1)) aF) Γ)))))))
def zZ(T:Txt K mg a)(c:FnOk P w K mg base CX0 1 a.a1Q a.a0M ["_law_question_here"] (dsp 1 dZ)):FnOk P w K mg base CX0 2 a.a1O a.a0T ["_law_question_here","_law_columns_here"] (dsp 2 gH):=by
 refine cH T.a1V oW (by decide) fL (λcdv A outer s H E b=>?_);have nd:=oW.nd;unfold fL;exact(aG (aS (i:=2) nd rfl (Or.inr rfl) (aU (λΓ=>aN c (b.mono (by decide)) (by rfl) T.a3s T.a1U.kp (aK1 T) .nil bK (gA (aB (aA (pv 0)) aF) Γ))))
  (aG (aS (i:=3) nd rfl (Or.inr rfl) (bZ cS (λΓ=>aT bE (by rfl) T.a0K bJ (gA (aB (aA (pv 1)) aF) Γ))))
  (aG (kD (GW.gt (cC8 (bN aL2 xI (aA (pv 3)) ge_int (bG _)) (bP5 (bN aL2 xI (bZ aB6 (λΓ=>bC6 (id:="len") (U:="set") (xO rfl) (by rfl) T.a0K bJ (by rfl) T.a3S bE8 (gA (aB (aA (pv 1)) aF) Γ))) (aA (pv 3)) (bG _))))) (aM (bI wB)) eI)
  (aG (kD (aA7 (nM (bZ uV (λΓ=>aT (kJ K (by rfl) (by rfl)) (by rfl) T.a3F oH (gA (aB (bR (ow:=[10]) (aQ (by decide)) (λΓ=>bO (csc [10] (by kernel_rfl)) (gI (bY K (by rfl) (aA (pv 1))) Γ) (λ_ _ _ _=>(aP (i:=10) nd rfl (Or.inl rfl) (.inr rfl))) (aO (by decide)) (λ_ _ _ _=>dD) (λ_ _ _ _=>gE (gN (nU b.units) (fW (neg:=false)) (aA (pv 10)) (aA (pv 2)) (by with_unfolding_all rfl)) Γ))) aF) Γ))))) (aM (bI wB)) eI)
  (aG (aS (i:=4) nd rfl (Or.inl rfl) (eB aF))
  (aG (jO (own:=[5,6]) (kH (bQ (aQ (by decide)) (bQ (aQ (by decide)) gW))) (λΓ=>iY a4e rfl (gI (bY K (by rfl) (aA (pv 0))) Γ) (fA (n:=2) K rfl rfl (bP (aP (i:=5) nd rfl (Or.inl rfl)) (bP (aP (i:=6) nd rfl (Or.inr rfl)) gQ)))
  (gSs (aM (gS (jT lK (λΓ=>hZ K (by rfl) a7c a1e a2e eU (pv 4) (gA (aB (cE (bZ aP4 (λΓ=>aT aC2 (by rfl) T.a1E eY (gA (aB (bR (ow:=[11]) (aQ (by decide)) (λΓ=>bO (csc [11] (by kernel_rfl)) (gI (jA (λΓ=>dI (by rfl) T.a0y (gA (aB (aA (pv 3)) aF) Γ)) aV1) Γ) (λ_ _ _ _=>(aP (i:=11) nd rfl (Or.inl rfl) (.inr rfl))) (aO (by decide)) (λ_ _ _ _=>(cM (bN (nU b.units) (fW (neg:=false)) (eJ (aA (pv 1)) (aA (pv 11)) (λ_ _=>rfl)) (aA (pv 6)) (by with_unfolding_all rfl)))) (λ_ _ _ _=>gE (cE (aA (pv 11))) Γ))) aF) Γ)))) aF) Γ))))) Γ)))
  (aG (aS (i:=7) nd rfl (Or.inl rfl) (eB aF))
  (aG (jO (own:=[8]) (aQ (by decide)) (λΓ=>iY a4e rfl (gI (bY K (by rfl) (aA (pv 4))) Γ) (aP (i:=8) nd rfl (Or.inr rfl))
  (gSs (aG (iV (ow:=[12]) (i:=9) (aQ (by decide)) (λΓ=>fV (i:=9) nd rfl rfl (csc [12] (by kernel_rfl)) (gI (bY K (by rfl) (aA (pv 4))) Γ) (λ_ _ _ _=>(aP (i:=12) nd rfl (Or.inr rfl) (.inl rfl))) (aO (by decide)) (λ_ _ _ _=>(cM (GW.gt (aN0 (bN (nT b.units) (dJ (neg:=true)) (aA (pv 8)) (aA (pv 12)) (bG _)) (xB (nM (bZ uV (λΓ=>aT (kJ K (by rfl) (by rfl)) (by rfl) T.a3F oH (gA (aB (bR (ow:=[11]) (aQ (by decide)) (λΓ=>bO (csc [11] (by kernel_rfl)) (gI (bY K (by rfl) (aA (pv 8))) Γ) (λ_ _ _ _=>(aP (i:=11) nd rfl (Or.inl rfl) (.inr rfl))) (aO (by decide)) (λ_ _ _ _=>dD) (λ_ _ _ _=>gE (gN (nU b.units) (fW (neg:=false)) (aA (pv 11)) (aA (pv 12)) (by with_unfolding_all rfl)) Γ))) aF) Γ))))))))) (λ_ _ _ _=>gE (cE (aA (pv 12))) Γ) rfl))
  (aM (kD (GW.gt (aN0 (bN (gP b.units) (dJ (neg:=false)) (aA (pv 9)) (eB aF) (bG _)) (xB (bN (fZ b.units) (fW (neg:=true)) (aA (pv 8)) (aA (pv 7)) (by with_unfolding_all rfl))))) (aM (gS (jT lK (λΓ=>hZ K (by rfl) a7c a1e a2e eU (pv 7) (gA (aB (cE (aA (pv 8))) aF) Γ))))) eI))) Γ)))
  (aG (aS (i:=7) nd rfl (Or.inl rfl) (bZ xT (λΓ=>aT (vB b.units) (by rfl) T.a1E eY (gA (aB (aA (pv 7)) aF) Γ))))
  (aG (kD (bN (gP b.units) (dJ (neg:=false)) (aA (pv 7)) (bZ xT (λΓ=>aT (vB b.units) (by rfl) T.a1E eY (gA (aB (bR (ow:=[13]) (aQ (by decide)) (λΓ=>bO (csc [13] (by kernel_rfl)) (gI (jA (λΓ=>dI (by rfl) T.a0y (gA (aB (aA (pv 3)) aF) Γ)) aV1) Γ) (λ_ _ _ _=>(aP (i:=13) nd rfl (Or.inr rfl) (.inl rfl))) (aO (by decide)) (λ_ _ _ _=>dD) (λ_ _ _ _=>gE (cE (bR (ow:=[11]) (aQ (by decide)) (λΓ=>bO (csc [11] (by kernel_rfl)) (gI (jA (λΓ=>dI (by rfl) T.a0y (gA (aB (aA (pv 3)) aF) Γ)) aV1) Γ) (λ_ _ _ _=>(aP (i:=11) nd rfl (Or.inl rfl) (.inr rfl))) (aO (by decide)) (λ_ _ _ _=>(cM (bN (nT b.units) (dJ (neg:=true)) (aA (pv 11)) (aA (pv 13)) (bG _)))) (λ_ _ _ _=>gE (cE (aA (pv 11))) Γ)))) Γ))) aF) Γ))) (bG _)) (aM (bI wB)) eI)
  (aM (bI (aA8 (gN aT6 pB (aA (pv 3)) ge_int (bG _)) (xC (gN (gP b.units) (dJ (neg:=false)) (aA (pv 7)) (bZ xT (λΓ=>aT (vB b.units) (by rfl) T.a1E eY (gA (aB (bR (ow:=[11]) (aQ (by decide)) (λΓ=>bO (csc [11] (by kernel_rfl)) (gI (jA (λΓ=>dI (by rfl) T.a0y (gA (aB (aA (pv 3)) aF) Γ)) aV1) Γ) (λ_ _ _ _=>(aP (i:=11) nd rfl (Or.inl rfl) (.inr rfl))) (aO (by decide)) (λ_ _ _ _=>dD) (λ_ _ _ _=>gE (cE (bZ aP4 (λΓ=>aT aC2 (by rfl) T.a1E eY (gA (aB (eB (aB (cE (aA (pv 11))) (aB (bA mX jC (bA bL bM (aA (pv 11)) ge_int) (aA (pv 3))) aF))) aF) Γ)))) Γ))) aF) Γ))) (bG _))))))))))))))))
def aS8(T:Txt K mg a)(c:FnOk P w K mg base CX0 1 a.a1v a.a0D ["_law_left","_law_kt"] (dsp 2 cJ)):FnOk P w K mg base CX0 2 a.a2J a.a1z ["_law_question_here","_law_some_here"] (dsp 2 iT):=by
 refine cH T.a2D vX (by decide) iI (λcdv A outer s H E b=>?_);have nd:=vX.nd;unfold iI;exact(aG (aS (i:=2) nd rfl (Or.inl rfl) (bZ wM (λΓ=>cV oF (by rfl) T.a2N iK (gA (aB (aA (pv 0)) aF) Γ))))
  (aG (jO (own:=[3,4]) (kH (bQ (aQ (by decide)) (bQ (aQ (by decide)) gW))) (λΓ=>iY a4e rfl (gI (bY K (by rfl) (aA (pv 1))) Γ) (fA (n:=2) K rfl rfl (bP (aP (i:=3) nd rfl (Or.inr rfl)) (bP (aP (i:=4) nd rfl (Or.inl rfl)) gQ)))
  (gSs (aG (kD (bN (fZ b.units) (fW (neg:=true)) (aA (pv 3)) (bR (ow:=[5]) (aQ (by decide)) (λΓ=>bO (csc [5] (by kernel_rfl)) (gI (bY K (by rfl) (aA (pv 2))) Γ) (λ_ _ _ _=>(aP (i:=5) nd rfl (Or.inl rfl) (.inr rfl))) (aO (by decide)) (λ_ _ _ _=>dD) (λ_ _ _ _=>gE (eJ (aA (pv 5)) ge_int (λ_ _=>rfl)) Γ))) (by with_unfolding_all rfl)) (aM (bI wB)) eI)
  (aG (kD (GW.gt (aN0 (bN (gP b.units) (dJ (neg:=false)) (bZ cS (λΓ=>aT bE (by rfl) T.a0K bJ (gA (aB (aA (pv 2)) aF) Γ))) ge_int (bG _)) (xB (bN bO7 (cM9 (neg:=true)) (aA (pv 4)) aA5 (bG _))))) (aM (bI wB)) eI)
  (aG (kD (GW.gt (aN0 (bN aT6 pB (bZ cS (λΓ=>aT bE (by rfl) T.a0K bJ (gA (aB (aA (pv 2)) aF) Γ))) ge_int (bG _)) (xB (bN (fZ b.units) (fW (neg:=true)) (aA (pv 4)) (aU (λΓ=>aN c (b.mono (by decide)) (by rfl) T.a1L T.a0J.kp (mW T) .nil bK (gA (aB (aA (pv 2)) (aB (aA (pv 3)) aF)) Γ))) (by with_unfolding_all rfl))))) (aM (bI wB)) eI)
  (aM (iV (ow:=[5]) (i:=2) (aQ (by decide)) (λΓ=>fV (i:=2) nd rfl rfl (csc [5] (by kernel_rfl)) (gI (bY K (by rfl) (aA (pv 2))) Γ) (λ_ _ _ _=>(aP (i:=5) nd rfl (Or.inl rfl) (.inr rfl))) (aO (by decide)) (λ_ _ _ _=>(cM (bN (nT b.units) (dJ (neg:=true)) (eJ (aA (pv 5)) ge_int (λ_ _=>rfl)) (aA (pv 3)) (bG _)))) (λ_ _ _ _=>gE (cE (aA (pv 5))) Γ) rfl)))))) Γ)))
  (aM (bI (gN (gP b.units) (dJ (neg:=false)) (aA (pv 2)) (eB aF) (bG _))))))
end
end Mr
namespace Dv
open PySem L2
def cI0{X:Cx}{pins:List (Addr×Obj)}{σ:St}{H:Hp}{s:Shared}{p:Addr}{o:Obj}{xs:List V}(I:Inv X pins σ H s)(h:H p=some (.frz o (.lst xs)))(hn:X.H₀ p=none):Inv X pins σ (upd H p (.lst xs)) s:=by
 have ne:∀ {b:Addr} {u:HO},H b=some u->u≠.frz o (.lst xs)->b≠p:=λe n z=>by subst z;rw[h]at e;cases e;exact n rfl
 have d:∀ b,H b=none->b≠p:=λb e z=>by subst z;rw[h]at e;cases e
 have st:∀ a x,eR X.prog X.w H s.heap a x->eR X.prog X.w (upd H p (.lst xs)) s.heap a x:=λa x k=>
  k.stay (λ_ _ _ e=>e) (λb e=>by rw[aL (ne e nofun)];exact e) λb ys e=>by rw[aL (ne e nofun)];exact e
 have f:∀ {b:Addr} {u:HO},X.H₀ b=some u->b≠p:=λe z=>by subst z;rw[hn]at e;cases e
 refine{I with base:=?_,free:=?_,freeC:=?_,pin:=?_,hok:=?_}
 ·exact⟨I.base.keep,I.base.slot,λb ob q n i=>by
    have:=I.base.free b ob q n i;rw[aL (d b this)];exact this,I.base.there,λb xs e=>by rw[aL (f e)];exact I.base.tups b xs e,λb ob x e=>by rw[aL (f e)];exact I.base.frzs b ob x e,λb ps e=>by rw[aL (f e)];exact I.base.tbls b ps e⟩
 ·rw[aL (d _ I.free)];exact I.free
 ·intro x c e;rw[aL (d _ (I.freeC x c e))];exact I.freeC x c e
 ·intro q j;obtain⟨l,g,m⟩:=I.pin q j;exact⟨l,by rw[aL (d _ g)];exact g,m⟩
 ·intro a x e;by_cases ha:a=p;subst ha;rw[aR]at e;cases e;exact st a _ (I.hok a _ h).2;rw[aL ha]at e;exact st a x (I.hok a x e)
def tUz(H₀:Hp)(t:TE):TE:=λσ H Q=>t σ H λv H1=>∃ p o xs,v=.ref p/\H1 p=some (.frz o (.lst xs))/\H₀ p=none/\Q v (upd H1 p (.lst xs))
def dV2{X:Cx}{e:Expr}{t:TE}{H₀:Hp}(h0:X.H₀=H₀)(h:PE X e t):PE X e (tUz H₀ t):=λpins s σ H Q I q=>
 thn (h pins s σ H _ I q) λu s1 ⟨v,g,a,b,p,o,xs,i,c,d,f⟩=>⟨v,_,cI0 a c (by rw[h0];exact d),b,f⟩
def bK2{Γ:Gm}{c:DT}{σ:Sg}{σV:St}{H:Hp}{Q:Bool->Hp->Prop}(ok:StOk Γ H σ σV)(h:RT c σ λb σ'=>∀ H',StOk Γ H' σ' σV->Step σ σV H σ' σV H'->Q b H'):dTT Γ c σV H Q:=by
 obtain⟨⟨b,σ'⟩,e,k⟩:=iE.mp h;exact⟨σ,ok,b,σ',e,k⟩
def dV3{Γ:Gm}{r:DE}{σ:Sg}{σV:St}{H:Hp}{Q:V->Hp->Prop}(ok:StOk Γ H σ σV)(h:RE r σ λx σ'=>∀ v H',StOk Γ H' σ' σV->nG Γ H' σ' σV x v->Step σ σV H σ' σV H'->Q v H'):dTE Γ r σV H Q:=by
 obtain⟨⟨x,σ'⟩,e,k⟩:=iE.mp h;exact⟨σ,ok,x,σ',e,λv H' a b c _=>k v H' a b c⟩
def dA4{Γ:Gm}{H:Hp}{σ:Sg}{σV:St}(c:∀ a o,Γ.H₀ a=some o->H a=some o)(hd:∀ a,H a=none->Γ.H₀ a=none)(f:σ.length=σV.length)(b:∀ (i:Nat) s,σ[i]? = some (some s)->s.m=.val/\∃ v,σV[i]? = some (some v)/\Rp H s.d v):StOk Γ H σ σV:=
 ⟨λi s e=>by
  obtain⟨m,v,g,r⟩:=b i s e;obtain⟨h,k⟩:=s;cases m;exact⟨v,g,r⟩,λi j s t p _ e _ m=>(by rw[(b i s e).1]at m;cases m),λi s p e m=>(by rw[(b i s e).1]at m;cases m),λi s p e m=>(by rw[(b i s e).1]at m;cases m),λa o e _=>c a o e,hd,f⟩
def dO3{Γ:Gm}{E:Ex}{r:DS}{σ:Sg}{σV:St}{H:Hp}{D:Ends}(ok:StOk Γ H σ σV)(h:RS r σ λo=>bH0 Γ E σ σV H o D):dTS Γ E r D σV H:=by
 obtain⟨o,e,k⟩:=iE.mp h;exact⟨σ,ok,o,e,k⟩
end Dv
namespace PySem
open Sem (wp)
section
variable{prog:Program}{w:World}{K:Type}[DecidableEq K]{knd:HeapKind prog w K}{A:Around}{E:Value->Shared->Prop}{s:Shared}
end
end PySem
namespace L2
open PySem PySem.Spec PyProof.Rows
section
variable{X:Cx}{pins:List (Addr×Obj)}{σ:St}{H:Hp}{s:Shared}{a b:Addr}{z:V}{r:Value}{kvs:List (List Key×V)}{k:List Key}{A:Around}{E:Value->Shared->Prop}
end
end L2
namespace Dv
open PySem L2
section
variable{Γ:Gm}{H H':Hp}{σ σ':Sg}{σV σV':St}{q g:Addr}{o o':HO}
end
section
variable{Γ:Gm}{H H':Hp}{σ σ':Sg}{σV σV':St}{g p:Nat}
end
section
variable{H H':Hp}{n:Nat}
end
def tFQ(t:TE):TE:=λσ H Q=>t σ H λv a=>FQ (Q v) a
def dV4{X:Cx}{e:Expr}{t:TE}(h:PE X e t):PE X e (tFQ t):=λpins s σ H Q I q=>
 thn (h pins s σ H _ I q) λu s1 ⟨v,a,b,d,f⟩=>by
  suffices ∀ a,FQ (Q v) a->Inv X pins σ a s1->∃ v c,Inv X pins σ c s1/\fN v u/\Q v c from this a f b
  intro a q b
  induction q with
  | done q=>exact⟨v,_,b,d,q⟩
  | step g i _ j=>
    obtain⟨o,k⟩:=bP6 b g i;exact j o k
end Dv
namespace Mr
open PySem L2 Dv Sx Hy
local macro_rules | `(tactic| walk_at "dx")=>do
 let l:=("yG pG yF yA xZ yB yE vP nY cD9 pX pY pZ qA qB qC qE qF qG qH qI qJ qK qL qM qN aH5 qO jW lM qQ lN lO lP qR qS aH6 qT qU aH7 qV qW qX qY qZ lQ rB rC rD lR rE rF rG rH rJ rK tZ rL rM rN lT lU rO rP rQ rR rS rT rV aH8 lV iP lW rW lX sJ sK sL sM sN sO sP sQ sR mT aH9 sS mI iR gB tY mS mR sT mJ mK mL sU sV sW sY sZ aI0 aI1 aI2 tD tE tF mM mO mP tG mQ iQ tH zL tI tJ aI3 tK cE1 tL tM oN bV tN tO tP tQ rX rY rZ sA sC sD sE sF lY lZ mB sH sI reduceIte aC0 aB2 aB7 aP5 aP6".splitOn " ").toArray.map fun s=>Lean.mkIdent s.toName
 let m:=("yC yD aX3 tR tT tU zM aI4 Int.reducePow Int.reduceNeg Int.reduceLT Int.reduceLE Nat.reducePow Nat.reduceLT Int.reduceToNat Nat.reduceLeDiff tX cX5 cX6 cX7 cX8 cX9 cY0 cY1 cY2 cY3 tV aI5 tW mD mE mG mH aP9 List.getElem?_cons_succ List.getElem?_cons_zero Option.getD_some List.set_cons_zero List.set_cons_succ eM aT1 List.length_cons List.length_nil Nat.reduceAdd Nat.zero_add true_and and_true and_self Bool.not_false Bool.not_true Bool.false_eq_true Bool.true_and Bool.and_true Bool.or_false decide_eq_true_eq".splitOn " ").toArray.map fun s=>Lean.mkIdent s.toName
 `(tactic| simp only[$[↓$l:ident],*,$[$m:ident],*])
def spX:Sp:=λvs H Q _=>∃ x qs,vs=[x]/\Rp H (qD qs) x/\Qw qs/\∀ v H',aF2 H H'->(∀ a,H' a=none->H a=none)->Rp H' (aY0 qs) v->(bX5 qs->∃ p q o xs,v=.ref p/\H' p=some (.tup [.str "ears",.ref q])/\H q=none/\H' q=some (.frz o (.lst xs)))->Q v H'
section
variable{P:Program}{w:World}{K:W.Frag}{mg:Str->Option Value}{base:Heap}{a:Adr}
def eA2{H:Hp}{d:D}{x:V}(r:Rp H d x):ArgOk H [⟨.val,d⟩] [x]:=⟨rfl,λi s e=>by
  cases i with
  | zero=>cases e;exact⟨x,rfl,r⟩
  | succ i=>simp at e,λi j s t p _ e _ m=>by
  cases i with
  | zero=>cases e;cases m
  | succ i=>simp at e,λi s e=>by
  cases i with
  | zero=>cases e;exact nofun
  | succ i=>simp at e⟩
def dO4{d:D}{x:V}{b:Addr}:¬ cD4 [⟨.val,d⟩] [x] b:=λ⟨i,s,e,m,_⟩=>by
 cases i with
 | zero=>cases e;cases m
 | succ i=>simp at e
def cI1(T:Txt K mg a)(G:FnOk P w K mg base CX0 4 a.a0w a.a1A ["question"] (dsp 1 iS))(I:FnOk P w K mg base CX0 4 a.a0Z a.a2q ["question"] (dsp 1 mU)):FnOk P w K mg base CX0 5 a.ears a.a3m ["question"] spX:=by
 refine Fun.ok T.a3J bY1 (λvs H Q E Z1=>by obtain⟨x,qs,e,_⟩:=Z1;rw[e];rfl) λcdv A outer s H vs Q E J h=>?_;obtain⟨x,qs,rfl,O,f,k⟩:=h;have nd:=bY1.nd
 let Γ:Gm:=⟨H,λ_=>False⟩
 refine⟨_,(cZ (pL (i:=1) nd rfl (Or.inl rfl) (aN G (J.mono (by decide)) (by rfl) T.a3A T.a2E.kp (aY1 T) .nil bK (bF (pv 0) eL)))
  (cZ (wR (gT (bN (gP J.units) (dJ (neg:=false)) (bZ cS (λΓ=>aT bE (by rfl) T.a0K bJ (gA (aB (aA (pv 1)) aF) Γ))) (bZ cS (λΓ=>aT bE (by rfl) T.a0K bJ (gA (aB (aA (pv 0)) aF) Γ))) (bG _)) Γ) (iX (aZ1 (dV4 (cK4 (bF bK9 (bF (pv 1) eL)))))) jR)
  (iX (GS.to (E:=Ex.no) (bI (oK (aB aA4 (aB (cE (aU (λΓ=>aN I (J.mono (by decide)) (by rfl) T.a3M T.a2S.kp (bY5 T) .nil bK (gA (aB (aA (pv 0)) aF) Γ)))) aF)))) Γ)))),?_⟩
 obtain⟨⟨res,as'⟩,U,d⟩:=iE.mp (aQ8 (K:=λr as'=>r=.own (.lst ((gM qs.length qs).map eD))) f.qn f.nd rfl);dsimp only at d;subst d;refine⟨x,rfl,_,_,_,eA2 O,rfl,U,λv H1 po V=>?_⟩;obtain⟨p,rfl,L,W⟩:=V;have s1:aF2 H H1:=λa o e=>po.fr a o e dO4;have M:StOk Γ H1 [some ⟨.val,qD qs⟩,some ⟨.own,.lst ((gM qs.length qs).map eD)⟩] [some x,some (.ref p)]:=by
  refine⟨λi s e=>?_,λi j s t q n y g X Y v1 v2=>?_,λi s q e m g=>?_,λi s q e m _=>?_,λa o e _=>s1 a o e,po.dom,rfl⟩
  ·match i,e with
   | 0,e=>cases e;exact⟨x,rfl,O.mono (.same s1)⟩
   | 1,e=>cases e;exact⟨_,rfl,p,rfl,W⟩
  ·match i,j,y,g with
   | 0,_,y,_=>cases y;cases X
   | 1,0,_,g=>cases g;exact Y rfl
   | 1,1,_,_=>exact n rfl
  ·match i,e with
   | 0,e=>cases e;cases m
   | 1,e=>cases e;cases g;exact L
  ·match i,e with
   | 0,e=>cases e;cases m
   | 1,e=>cases e;cases m
 refine(show dTT Γ _ [some x,some (.ref p)] H1 _ from ?_);refine bK2 M ?_;walk_at "dx";intro l c Z;unfold aY0 at k;by_cases ac:bX5 qs
 ·have lt:=f.tk.mpr ac;rw[a4i ac]at k;rw[a4i (by rw[a1a,a1a,lt])];obtain⟨v,y,q,g,N⟩:=c.rel 1 _ rfl;cases y;cases g;obtain⟨xs,F,h2⟩:=pD N;refine⟨.ref p,rfl,sl2,λr B=>?_⟩;have C:p≠r:=bD F B;refine .step (p:=p) (u:=.lst xs) (by rw[aL C];exact F) True.intro λo=>.done ?_;have kp:∀ {b:Addr} {u:HO},l b=some u->b≠p->upd (upd l r (.tup [.str "ears",.ref p])) p (.frz o (.lst xs)) b=some u:=λe n=>by rw[aL n,aL (bD e B)];exact e
  have ex:Ext l (upd (upd l r (.tup [.str "ears",.ref p])) p (.frz o (.lst xs))):=⟨λb ys e=>kp e λz=>(by subst z;rw[F]at e;cases e),λb ob u e=>kp e λz=>(by subst z;rw[F]at e;cases e)⟩;have R:upd (upd l r (.tup [.str "ears",.ref p])) p (.frz o (.lst xs)) r=some (.tup [.str "ears",.ref p]):=by rw[aL (a0e C),aR]
  refine k _ _ (λb ob e=>kp (c.keep b ob e id) λz=>by subst z;rw[L]at e;cases e) (λb e=>c.dom b ?_) (.tup R (.cons (.str _) (.cons (.lst aR (h2.mono ex)) .nil))) λ_=>⟨r,p,o,xs,rfl,R,L,aR⟩;cases z:l b with
  | none=>rfl
  | some u=>
    by_cases S:b=p;rw[S,aR]at e;cases e;rw[kp z S]at e;cases e
 ·have lt:(gM qs.length qs).length≠qs.length:=λz=>ac (f.tk.mp z);have l6:=f.l6;rw[a4j ac]at k;rw[a4j (by rw[a1a,a1a];lia)];refine(show dTS Γ Ex.no _ _ [some x,some (.ref p)] l from ?_);refine dO3 c ?_;walk_at "dx";refine bJ4 f.qn (by lia) f.cn.2 ?_;walk_at "dx";exact⟨by decide,λv σV' H' D r' st'=>k v H' (λa o e=>D.keep a o e id) D.dom r' λz=>absurd z ac⟩
end
theorem bE9:∀ (n:Nat) {aK:List (Str×List Str)},Qn aK->∀ p∈gM n aK,Eg p
 | 0,_,_,_,h=>by simp[gM]at h
 | n+1,aK,a,p,h=>by
   unfold gM at h;cases e:ears aK with
   | nil=>rw[e]at h;cases h
   | cons x r=>
     rw[e]at h;rcases a2b.mp h with rfl | h;exact bU9 a (by rw[e];exact a3a);exact bE9 n (a.wo _) p h
def spR:Sp:=λvs H Q _=>∃ x qs b,vs=[x,.bl b]/\Rp H (qD qs) x/\Qw qs/\(b=true↔bX5 qs)/\∀ H',aF2 H H'->(∀ a,H' a=none->H a=none)->Q (.bl true) H'
section
variable{P:Program}{w:World}{K:W.Frag}{mg:Str->Option Value}{base:Heap}{a:Adr}
def bY7(T:Txt K mg a)(O:FnOk P w K mg base CX0 5 a.ears a.a3m ["question"] spX)(R:FnOk P w K mg base CX0 2 a.a1O a.a0T ["_law_question_here","_law_columns_here"] (dsp 2 gH))(S:FnOk P w K mg base CX0 2 a.a2J a.a1z ["_law_question_here","_law_some_here"] (dsp 2 iT)):FnOk P w K mg base CX0 6 a.a2K a.a1B ["_law_question_here","_law_due"] spR:=by
 refine Fun.ok T.a2C vY (λvs H Q E Z1=>by obtain⟨x,qs,d,e,_⟩:=Z1;rw[e];rfl) λcdv A outer s H vs Q E r h=>?_;obtain⟨x,qs,d,rfl,rq,f,t,k⟩:=h;have nd:=vY.nd
 let Γ:Gm:=⟨H,λ_=>False⟩
 refine⟨_,(cZ (pL (i:=2) nd rfl (Or.inl rfl) (aN O (r.mono (by decide)) (by rfl) T.a3R T.a3J.kp (dO2 T) .nil bK (bF (pv 0) eL)))
  (cZ (wR (gT (GW.gt (cC8 (aA7 (nM (bB7 (c:="tuple") K (by decide) (λΓ=>aT (pW K (by rfl)) (by rfl) T.a1F gJ (bF (gE (aA (pv 2)) Γ) (bF (aE7 (v:=.ty "tuple") (by rfl) T.a1I eO rfl) eL)))))) (cC8 (bN (nT r.units) (dJ (neg:=true)) (bZ cS (λΓ=>aT bE (by rfl) T.a0K bJ (gA (aB (aA (pv 2)) aF) Γ))) ge_int (bG _)) (bP5 (bN (nT r.units) (dJ (neg:=true)) (eJ (aA (pv 2)) ge_int (λ_ _=>rfl)) (eJ (eB (aB aA4 (aB aA4 aF))) (bZ aW0 (λΓ=>cV wW (by rfl) T.a3Q aJ7 (gA (aB (aA (pv 1)) aF) Γ))) (λ_ _=>rfl)) (bG _)))))) Γ) (GSs.to (E:=Ex.no) (aM (bI wB)) Γ) jR)
  (cZ (wR (gT (bN (gP r.units) (dJ (neg:=false)) (eJ (aA (pv 2)) ge_int (λ_ _=>rfl)) aA4 (bG _)) Γ) (GSs.to (E:=Ex.no) (aM (bI (aA8 (bB7 (c:="tuple") K (by decide) (λΓ=>aT (pW K (by rfl)) (by rfl) T.a1F gJ (bF (gE (eJ (aA (pv 2)) ge_int (λ_ _=>rfl)) Γ) (bF (aE7 (v:=.ty "tuple") (by rfl) T.a1I eO rfl) eL)))) (xC (aU (λΓ=>aN R (r.mono (by decide)) (by rfl) T.a3q T.a1V.kp (aK2 T) .nil bK (gA (aB (aA (pv 0)) (aB (eJ (aA (pv 2)) ge_int (λ_ _=>rfl)) aF)) Γ))))))) Γ) jR)
  (cZ (wR (gT (aA7 (nM (bB7 (c:="list") K (by decide) (λΓ=>aT (pW K (by rfl)) (by rfl) T.a1F gJ (bF (gE (eJ (aA (pv 2)) ge_int (λ_ _=>rfl)) Γ) (bF (aE7 (v:=.ty "list") (by rfl) T.a2N iK rfl) eL)))))) Γ) (GSs.to (E:=Ex.no) (aM (bI wB)) Γ) jR)
  (cZ (wR (gT (aA7 (nM (bZ uV (λΓ=>aT (kJ K (by rfl) (by rfl)) (by rfl) T.a3F oH (gA (aB (bR (ow:=[4]) (aQ (by decide)) (λΓ=>bO (csc [4] (by kernel_rfl)) (gI (bY K (by rfl) (eJ (aA (pv 2)) ge_int (λ_ _=>rfl))) Γ) (λ_ _ _ _=>(aP (i:=4) nd rfl (Or.inl rfl) (.inr rfl))) (aO (by decide)) (λ_ _ _ _=>dD) (λ_ _ _ _=>gE (aA8 (bB7 (c:="tuple") K (by decide) (λΓ=>aT (pW K (by rfl)) (by rfl) T.a1F gJ (bF (gE (aA (pv 4)) Γ) (bF (aE7 (v:=.ty "tuple") (by rfl) T.a1I eO rfl) eL)))) (xC (gN (gP r.units) (dJ (neg:=false)) (bZ cS (λΓ=>aT bE (by rfl) T.a0K bJ (gA (aB (aA (pv 4)) aF) Γ))) ge_int (bG _)))) Γ))) aF) Γ))))) Γ) (GSs.to (E:=Ex.no) (aM (bI wB)) Γ) jR)
  (cZ (pL (i:=3) nd rfl (Or.inl rfl) (gE (aU (λΓ=>aN S (r.mono (by decide)) (by rfl) T.a3z T.a2D.kp (aY3 T) .nil bK (gA (aB (aA (pv 0)) (aB (eJ (aA (pv 2)) ge_int (λ_ _=>rfl)) aF)) Γ))) Γ))
  (cZ (wQ (bO9 K (by rfl) a7c F.slot_list_clear F.type_list_clear cA9 (dV2 (H₀:=H) rfl (dF5 dW7 (pv 2) fX (λ_ _=>rfl)))))
  (iX (aZ1 (pv 3)))))))))),?_⟩
 refine⟨x,rfl,x,qs,rfl,rq,f,λv U s1 d1 rv fr=>?_⟩;have sl:1000<=sizeLine:=by decide
 have l6:=f.l6;have V:As (Str.ofString "ears"):=(show ∀ c∈_,c < 128 by decide);have y:As (Str.ofString "ring"):=(show ∀ c∈_,c < 128 by decide);have j:StOk Γ U [some ⟨.val,qD qs⟩,some ⟨.val,.bl d⟩,some ⟨.val,aY0 qs⟩,none,none] [some x,some (.bl d),some v,none,none]:=by
  refine dA4 s1 d1 rfl λi s e=>?_
  match i,e with
  | 0,e=>cases e;exact⟨rfl,x,rfl,rq.mono (.same s1)⟩
  | 1,e=>cases e;exact⟨rfl,_,rfl,.bl d⟩
  | 2,e=>cases e;exact⟨rfl,v,rfl,rv⟩
  | 3,e=>cases e
  | 4,e=>cases e
  | n+5,e=>cases e
 refine(show dTT Γ _ [some x,some (.bl d),some v,none,none] U _ from ?_);refine bK2 j ?_;by_cases ac:bX5 qs
 ·obtain rfl:d=true:=t.mpr ac;obtain⟨p,q,o,xs,rfl,hp,B,W⟩:=fr ac;rw[show aY0 qs=.tup [.str (Str.ofString "ears"),.lst ((gM qs.length qs).map eD)] by unfold aY0;rw[a4i ac]]at j ⊢;walk_at "dx";refine wC (x:=.val (.bl true)) rfl ?_;walk_at "dx";rw[a4j (by decide)];refine⟨sl2,vQ V V ?_⟩;rw[a4n rfl];walk_at "dx";intro X l C;refine(show dTT Γ _ [some x,some (.bl true),some (.ref p),none,none] X _ from bK2 l ?_);walk_at "dx";refine vQ V y ?_;rw[a4k (by decide)];walk_at "dx";intro Y m G;refine(show dTT Γ _ [some x,some (.bl true),some (.ref p),none,none] Y _ from bK2 m ?_);walk_at "dx";refine wC (x:=.val (.bl true)) rfl ?_;walk_at "dx";intro Z g I;refine(show dTT Γ _ [some x,some (.bl true),some (.ref p),none,none] Z _ from bK2 g ?_);walk_at "dx";have tl:=bE0 qs.length qs;refine⟨by rw[a1a];lia,fM (λ_=>.bl true) eD (gM qs.length qs) [_,_,_,none,none] rfl (λe he=>?_) ?_⟩;walk_at "dx";refine wC (x:=.val (.bl true)) rfl ?_;walk_at "dx";rfl
  rw[show(gM qs.length qs).map (λ_=>D.bl true)=((gM qs.length qs).map λ_=>true).map D.bl by rw[List.map_map];rfl];walk_at "dx";intro H5 J st5;rw[a4j (by rw[aC7];simp)];refine(show dTE Γ _ [some x,some (.bl true),some (.ref p),none,none] H5 _ from dV3 J ?_);walk_at "dx";refine cH8 f.qn f.nd (bE9 _ f.qn) ?_;rw[← bV3 f.nd,aD5 _ _ rfl f.nd (f.tk.mpr ac)];walk_at "dx";intro u H6 L r6 st6;cases r6;have M:Ext U H6:=((((C.ext j).trans (G.ext l)).trans (I.ext m)).trans (st5.ext g)).trans (st6.ext J);have hp6:=M.tup _ _ hp;have hq6:=M.frz _ _ _ W;refine⟨.ref p,rfl,.ref q,by show(gR H6 p).bind _=_;rw[dS hp6];rfl,q,o,xs,rfl,hq6,B,.inl ⟨rfl,xs,SqL.of aR⟩,q,xs,rfl,rfl,aR,.bl true,rfl,?_⟩;rw[cQ2];refine k _ (λb ob e=>?_) λb e=>L.dom b ?_;rw[aL (λz=>by subst z;rw[B]at e;cases e)];exact L.keep b ob e id;by_cases bq:b=q;rw[bq,aR]at e;cases e;rw[aL bq]at e;exact e
 ·obtain rfl:d=false:=Bool.eq_false_iff.mpr λz=>ac (t.mp z);obtain⟨w,ew,hw⟩:=bJ1 (λz=>by have:=f.l1;rw[z]at this;exact absurd this (by decide)) f.cn.1 ac;have N:∀ z∈w,z∈dQ qs:=λz hz=>kW.mpr ((bW4 hw).2 z hz);have hwl:w.length<=6:=a4c (yL.nd_le (aQ3 hw).2.1 N) f.cn.2;rw[show aY0 qs=.tup [.str (Str.ofString "ring"),tS w] by unfold aY0;rw[a4j ac,ew]]at j ⊢;walk_at "dx";refine wC (x:=.val (.bl true)) rfl ?_;walk_at "dx";rw[a4j (by decide)];refine⟨sl2,vQ y y ?_⟩;rw[a4n rfl];walk_at "dx";intro X l C;refine(show dTT Γ _ [some x,some (.bl false),some v,none,none] X _ from bK2 l ?_);walk_at "dx";refine vQ y y ?_;rw[a4n rfl];walk_at "dx";intro Y m G;refine(show dTS Γ Ex.no _ _ [some x,some (.bl false),some v,none,none] Y from dO3 m ?_);walk_at "dx";refine wC (x:=.val (.bl true)) rfl ?_;walk_at "dx";refine zR f.qn (by lia) (λz hz=>aJ4 f.qn z (N z hz)) (by lia) ?_;rw[hw];walk_at "dx";intro u σV' Z g r4 I;cases r4;exact k Z (λb ob e=>g.keep b ob e id) g.dom
end
open Classical in
noncomputable def gK:Dv.Run:=λas=>if ∃ qs a,as=[⟨.val,qD qs⟩,⟨.val,.bl a⟩]/\Qw qs/\(a=true↔bX5 qs)then some (.val (.bl true),as)else none
def bK3{vs:List V}{H:Hp}{Q:L2.VK}{E:XK}(h:dsp 2 gK vs H Q E):spR vs H Q E:=by
 obtain⟨as,res,as',ok,q,e,k⟩:=h;unfold gK at e;split at e
 ·rename_i f;cases e;obtain⟨qs,c,rfl,g,j⟩:=f;obtain⟨x,ex,l⟩:=ok.rel 0 _ rfl;obtain⟨y,d,n⟩:=ok.rel 1 _ rfl;cases n;have r:∀ b,¬ cD4 [⟨.val,qD qs⟩,⟨.val,.bl c⟩] vs b:=λb ⟨i,s,e,m,_⟩=>by
   match i,e with
   | 0,e=>cases e;cases m
   | 1,e=>cases e;cases m
  refine⟨x,qs,c,?_,l,g,j,λH' p hd=>k _ _ ⟨λi s e m=>?_,λa o e _=>p a o e,hd⟩ (.bl true)⟩
  ·match vs,ok.len,ex,d with
   | [_,_],_,ex,d=>cases ex;cases d;rfl
  ·match i,e with
   | 0,e=>cases e;cases m
   | 1,e=>cases e;cases m
 ·cases e
def bF0{qs:List (Str×List Str)}{due:Bool}(h:Qw qs)(hd:due=true↔bX5 qs){K:Res->List Sl->Prop}(k:K (.val (.bl true)) [⟨.val,qD qs⟩,⟨.val,.bl due⟩]):CK gK [⟨.val,qD qs⟩,⟨.val,.bl due⟩] K:=iE.mpr ⟨_,a4i ⟨qs,due,rfl,h,hd⟩,k⟩
end Mr
namespace Mr
open PySem L2 Dv
def aE6:MS:=(bZ8 (aP7 1 1 dG (aE (bH 2 fS (aE (aH 0) (aE (dC (.int 0)) aV))) aV))
 (bZ8 (aP7 2 1 dG (aE (bH 2 fS (aE (aH 0) (aE (dC (.int 1)) aV))) aV))
 (RS (bW (xG (dIt (bG9 (aE (dFz (aH 1)) (aE (dFz (aH 2)) (aE (dFz (aH 1)) aV))))) (dgN 3)
 (bW (dA 4 (aY (isD true) (bH 2 dX (aE (bH 2 fS (aE (aH 0) (aE (dC (.int 2)) aV))) (aE (aH 3) aV))) (dC .non)))
 (pI (cT6 (eK (bH 2 gK (aE (aH 3) (aE (aH 4) aV))))) (iA (dC (.bl false))) gL)))
 (iA (dC (.bl true)))))))
def zD:MC:=dB2 5 aE6
def aY7:bB2 aE6:=(xU (wO (xV dH)) (xU (wO (xV dH)) aC3))
section
variable{P:Program}{w:World}{K:W.Frag}{mg:Str->Option Value}{base:Heap}{a:Adr}
def dO5(T:Txt K mg a)(d:FnOk P w K mg base CX0 5 a.a1H a.a0I ["_law_box_here"] (bQ1 1 dG))(b:FnOk P w K mg base CX0 1 a.a3r a.a2p ["_law_script","_law_k"] (dsp 2 fS))(e:FnOk P w K mg base CX0 2 a.a1t a.a0E ["_law_box_here","_law_question_here"] (dsp 2 dX))(f:FnOk P w K mg base CX0 6 a.a2K a.a1B ["_law_question_here","_law_due"] (dsp 2 gK)):FnOk P w K mg base CX0 7 a.law a.a3P ["_law_script"] (bQ1 1 zD):=by
 refine aV3 T.a3X cQ1 (by decide) aE6 aY7 (λcdv A outer s H E c=>GM.to ?_);have nd:=cQ1.nd;unfold aE6;exact(aJ2 (aW8 (xV dH) (λΓ=>pL (i:=1) nd rfl (Or.inl rfl) (aN d (c.mono (by decide)) (by rfl) T.a2w T.a0L.kp (oX T) .nil bK (gA (aB (aU (λΓ=>aN b (c.mono (by decide)) (by rfl) T.a2Y T.a2m.kp (yY T) .nil bK (gA (aB (aA (pv 0)) (aB ge_int aF)) Γ))) aF) Γ))))
  (aJ2 (aW8 (xV dH) (λΓ=>pL (i:=2) nd rfl (Or.inl rfl) (aN d (c.mono (by decide)) (by rfl) T.a2w T.a0L.kp (oX T) .nil bK (gA (aB (aU (λΓ=>aN b (c.mono (by decide)) (by rfl) T.a2Y T.a2m.kp (yY T) .nil bK (gA (aB (aA (pv 0)) (aB ge_int aF)) Γ))) aF) Γ))))
  (bT3 (aG (jO (own:=[3]) (aQ (by decide)) (λΓ=>iY a4e rfl (gI (bY K (by rfl) (oK (aB (cE (aA (pv 1))) (aB (cE (aA (pv 2))) (aB (cE (aA (pv 1))) aF))))) Γ) (aP (i:=3) nd rfl (Or.inl rfl))
  (gSs (aG (aS (i:=4) nd rfl (Or.inl rfl) (gN bO7 (cM9 (neg:=true)) (aU (λΓ=>aN e (c.mono (by decide)) (by rfl) T.a3l T.a1x.kp (yZ T) .nil bK (gA (aB (aU (λΓ=>aN b (c.mono (by decide)) (by rfl) T.a2Y T.a2m.kp (yY T) .nil bK (gA (aB (aA (pv 0)) (aB ge_int aF)) Γ))) (aB (aA (pv 3)) aF)) Γ))) aA5 (bG _)))
  (aM (kD (aA7 (nM (aU (λΓ=>aN f (c.mono (by decide)) (by rfl) T.a3D T.a2C.kp (aY4 T) .nil bK (gA (aB (aA (pv 3)) (aB (aA (pv 4)) aF)) Γ))))) (aM (bI wB)) eI))) Γ)))
  (aM (bI wB))))))
end
open Sx Hy
local macro_rules | `(tactic| walk_at "dx")=>do
 let l:=("yG pG yF yA xZ yB yE vP nY cD9 pX pY pZ qA qB qC qE qF qG qH qI qJ qK qL qM qN aH5 qO jW lM qQ lN lO lP qR qS aH6 qT qU aH7 qV qW qX qY qZ lQ rB rC rD lR rE rF rG rH rJ rK tZ rL rM rN lT lU rO rP rQ rR rS rT rV aH8 lV iP lW rW lX sJ sK sL sM sN sO sP sQ sR mT aH9 sS mI iR gB tY mS mR sT mJ mK mL sU sV sW sY sZ aI0 aI1 aI2 tD tE tF mM mO mP tG mQ iQ tH zL tI tJ aI3 tK cE1 tL tM oN bV tN tO tP tQ rX rY rZ sA sC sD sE sF lY lZ mB sH sI reduceIte aC0 aB2 aB7 aP5 aP6".splitOn " ").toArray.map fun s=>Lean.mkIdent s.toName
 let m:=("yC yD aX3 tR tT tU zM aI4 Int.reducePow Int.reduceNeg Int.reduceLT Int.reduceLE Nat.reducePow Nat.reduceLT Int.reduceToNat Nat.reduceLeDiff tX cX5 cX6 cX7 cX8 cX9 cY0 cY1 cY2 cY3 tV aI5 tW mD mE mG mH aP9 List.getElem?_cons_succ List.getElem?_cons_zero Option.getD_some List.set_cons_zero List.set_cons_succ eM aT1 List.length_cons List.length_nil Nat.reduceAdd Nat.zero_add true_and and_true and_self Bool.not_false Bool.not_true Bool.false_eq_true Bool.true_and Bool.and_true Bool.or_false decide_eq_true_eq".splitOn " ").toArray.map fun s=>Lean.mkIdent s.toName
 `(tactic| simp only[$[↓$l:ident],*,$[$m:ident],*])
def bY8{i n:Nat}{C:MC}{d:DA}{σ:Sg}{Q:Out->Prop}:aP7 i n C d σ Q=RA d σ λrs a=>AK a rs λas=>(as.length=n/\eM rs=true)/\C as λy as'=>BK rs as' a λb=>PtK i y b λc=>Q (.nx c):=by
 unfold aP7 RA AK BK PtK;congr 1;funext x;congr 1;funext as;apply propext;constructor;rintro⟨h,q⟩;simp only[cE0 h.2]at q;exact⟨h,q⟩;rintro⟨h,q⟩;simp only[← cE0 h.2]at q;exact⟨h,q⟩
def cI2(ns:List Int)(hn:ns.length<=63):zD [⟨.val,.lst (ns.map D.int)⟩] λy _=>y=.val (.bl true):=by
 have sl:10000<=sizeLine:=by decide
 unfold zD dB2;refine aY7 _ _ _ (λo h=>bV6 h) ?_;show aE6 [_,none,none,none,none] _;unfold aE6;unfold bZ8;rw[bY8];walk_at "dx";refine bT9 (by decide) (by decide) λa b=>?_;walk_at "dx";refine yJ λqs r s k=>?_;walk_at "dx";rw[bY8];walk_at "dx";refine bT9 (by decide) (by decide) λt u=>?_;walk_at "dx";refine yJ λrs v w n=>?_;walk_at "dx";refine⟨a4c (by decide) sl,?_⟩;refine jD (λi m=>∃ c e f g,m=[some ⟨.val,.lst (ns.map D.int)⟩,some ⟨.val,qD qs⟩,some ⟨.val,qD rs⟩,ov c e,ov f g]) ⟨false,.non,false,.non,rfl⟩ ?_ ?_
 ·rintro i d m hd ⟨c,e,f,g,rfl⟩;obtain⟨os,j,rfl⟩:∃ os,Qw os/\d=qD os:=by
   have:=a7b hd;simp only[List.mem_cons,List.not_mem_nil,or_false]at this;rcases this with rfl | rfl | rfl;exact⟨qs,k,rfl⟩;exact⟨rs,n,rfl⟩;exact⟨qs,k,rfl⟩
  walk_at "dx";refine bT9 (by decide) (by decide) λx A=>?_;walk_at "dx";refine bX6 j (λl p q ac=>?_) λp q ac=>?_;walk_at "dx";rw[show isD true (.lst l) .non=some (.val (.bl true)) by simp[isD]];walk_at "dx";refine bF0 j ⟨λ_=>ac,λ_=>rfl⟩ ?_;walk_at "dx";exact⟨_,.inl rfl,true,_,true,_,rfl⟩;walk_at "dx";rw[show isD true .non .non=some (.val (.bl false)) by simp[isD]];walk_at "dx";refine bF0 (due:=false) j ⟨(λz=>nomatch z),λz=>absurd z ac⟩ ?_;walk_at "dx";exact⟨_,.inl rfl,true,_,true,_,rfl⟩
 ·rintro σ' ⟨c,e,f,g,rfl⟩;walk_at "dx"
end Mr
namespace Mr
open PySem L2
def aS9(H0 H:Hp)(es:List V):Prop:=∀ e∈es,∃ (w:Addr) (ns:List Int),e=.ref w/\H w=some (.lst (ns.map V.int))/\ns.length<=5/\((∀ n∈ns,0<=n/\n < 6)/\ns.Nodup/\ns≠[])/\H0 w=none
def LoI(m:Int)(H:Hp)(e:V):Prop:=∃ (w:Addr) (ns:List Int),e=.ref w/\H w=some (.lst (ns.map V.int))/\∀ n∈ns,n < m
def LoI.mono{m:Int}{H H':Hp}{e:V}(h:LoI m H e)(k:∀ w o,e=.ref w->H w=some o->H' w=some o):LoI m H' e:=by
 obtain⟨w,ns,a,b,c⟩:=h;exact⟨w,ns,a,k w _ a b,c⟩
theorem LoI.ne{m:Int}{H:Hp}{e:V}{l:Addr}(h:LoI m H e)(c:H l=none):e≠.ref l:=λz=>by
 obtain⟨w,ns,a,b,d⟩:=h;rw[z]at a;cases a;rw[c]at b;cases b
def aK6{α:Type}{l:List α}{x:α}(h:l.Nodup)(d:x∉l):(l++[x]).Nodup:=List.nodup_append.mpr ⟨h,by simp,λa ha b c z=>d (by rw[List.mem_singleton]at c;subst c;rw[← z];exact ha)⟩
noncomputable abbrev i6:List V:=(List.range 6).map λ(i:Nat)=>V.int (i:Int)
def zE:Sps:=λ_ vs H Q _=>∃ p q:Addr,vs=[.ref p,.ref q]/\hX H p/\H q=some (.lst i6) /\
 ∀ (r:Addr) (ns:List Int) H',H r=none->H' r=some (.lst (ns.map V.int))->ns.length<=5->((∀ n∈ns,0<=n/\n < 6)/\ns.Nodup/\ns≠[])->hX H' p->SameBut p H H'->Q (.ref r) H'
def lA:Sps:=λ_ vs H Q _=>∃ p:Addr,vs=[.ref p]/\hX H p /\
 ∀ (r:Addr) (es:List V) H',H r=none->H' r=some (.lst es)->1<=es.length->es.length<=6->aS9 H H' es->hX H' p->SameBut p H H'->Q (.ref r) H'
def aK7{H:Hp}{w s:Addr}{ns:List Int}{es:List V}(h:H w=some (.lst (ns.map V.int)))(h':H s=some (.lst es))(a:V.ref w∈es):w≠s:=λz=>by
 subst z;rw[h]at h';injection h' with h'
 injection h' with h'
 rw[← h']at a;obtain⟨n,_,e⟩:=a2c.mp a;cases e
local macro_rules | `(tactic| walk_at "sx")=>do
 let l:=("cL5 bN4 cL6 cL7 cL8 bN5 aZ7 bN1 bN2 dW5 dG7 cL3 dG8 bN3 cL4 cL9 bN6 bN7 dG9 bN8 bA3 cM1 dH5 cM4 bO2 cM2 bO3 bO4 reduceIte aM5 aM6 bO5 bO6 dI0".splitOn " ").toArray.map fun s=>Lean.mkIdent s.toName
 let m:=("dW9 List.set_cons_zero List.set_cons_succ Int.reducePow Int.reduceNeg Int.reduceLT Int.reduceLE Int.reduceAdd".splitOn " ").toArray.map fun s=>Lean.mkIdent s.toName
 `(tactic| simp only[$[↓$l:ident],*,$[$m:ident],*])
local macro_rules | `(tactic| walk_at "sy")=>do
 let l:=("bN4 cL6 cL7 cL8 bN5 aZ7 bN1 bN2 dW5 dG7 cL3 dG8 bN3 cL4 cL9 bN6 bN7 dG9 bN8 bA3 cM1 dH5 cM4 bO2 cM2 bO3 bO4 reduceIte aM5 aM6 bO5 bO6 dI0".splitOn " ").toArray.map fun s=>Lean.mkIdent s.toName
 let m:=("dW9 List.set_cons_zero List.set_cons_succ Int.reducePow Int.reduceNeg Int.reduceLT Int.reduceLE Int.reduceAdd".splitOn " ").toArray.map fun s=>Lean.mkIdent s.toName
 `(tactic| simp only[$[↓$l:ident],*,$[$m:ident],*])
section
variable{P:Program}{w:World}{K:W.Frag}{mg:Str->Option Value}{base:Heap}{a:Adr}
def uP(T:Txt K mg a)(Z:FnOk P w K mg base CX0 1 a.a0O a.a0t ["_law_box_here","_law_many"] (xA K))(a0F:FnOk P w K mg base CX0 3 a.a2F a.a1y ["_law_box_here","_law_things"] (zE K)):FnOk P w K mg base CX0 4 a.a0U a.a0A ["_law_box_here"] (lA K):=by
 refine T.a1m.ok kX (λvs H Q E h=>?_) (λcdv A outer s H vs Q E S h=>?_);obtain⟨p,rfl,_⟩:=h;rfl;obtain⟨p,rfl,hb,k⟩:=h;have nd:=kX.nd;refine⟨_,(cZ (pL (i:=1) nd rfl (Or.inr rfl) (bF5 bA2 fX (aN Z (S.mono (by decide)) rfl T.a0l T.a0k.kp (aZ T) .nil bK (bF (pv 0) (bF fX eL)))))
  (cZ (fV (i:=2) nd rfl rfl (csc [4] (by kernel_rfl)) (dI rfl T.a0y (bF (pv 1) eL)) (λ_ _ _ _=>(aP (i:=4) nd rfl (Or.inl rfl) (.inr rfl))) (aO (by decide)) (λ_ _ _ _=>aF4) (λ_ _ _ _=>(cK5 (bF (pv 4) (bF (bF5 mX (bF5 bA2 (pv 4) fX) (pv 1)) eL)))) rfl)
  (cZ (wR (lB (bA1 S.units) (aN Z (S.mono (by decide)) rfl T.a0l T.a0k.kp (aZ T) .nil bK (bF (pv 0) (bF fX eL))) fX (bG _)) (cZ (pL (i:=1) nd rfl (Or.inr rfl) (aT (aL4 rfl) (by rfl) T.a3T (bE7) (bF (pv 1) (bF fX eL))))
  (iX (fV (i:=2) nd rfl rfl (csc [5] (by kernel_rfl)) (dI rfl T.a0y (bF (pv 1) eL)) (λ_ _ _ _=>(aP (i:=5) nd rfl (Or.inr rfl) (.inl rfl))) (aO (by decide)) (λ_ _ _ _=>aF4) (λ_ _ _ _=>(bO (csc [4] (by kernel_rfl)) (dI rfl T.a0y (bF (pv 1) eL)) (λ_ _ _ _=>(aP (i:=4) nd rfl (Or.inl rfl) (.inr rfl))) (aO (by decide)) (λ_ _ _ _=>(aZ5 (lB (dH9 S.units) (pv 4) (pv 5) (bG _)))) (λ_ _ _ _=>(pv 4)))) rfl))) jR)
  (cZ (iY a4e rfl (bO8 K rfl (pv 2)) (aP (i:=3) nd rfl (Or.inl rfl))
  (iX (wR (PW.pt (aZ0 (lB aL2 (pv 1) fX (bG _)) (aZ0 (lB aL2 (aT bE (by rfl) T.a0K (bJ) (bF (pv 3) eL)) fX (bG _)) (aT5 (lB (bA1 S.units) (aN Z (S.mono (by decide)) rfl T.a0l T.a0k.kp (aZ T) .nil bK (bF (pv 0) (bF fX eL))) fX (bG _)))))) (iX (wQ (hZ K rfl a7c a1e a2e eU (pv 3) (bF (bF5 bA2 (pv 1) (aN Z (S.mono (by decide)) rfl T.a0l T.a0k.kp (aZ T) .nil bK (bF (pv 0) (bF (bF5 bL6 fX (pv 1)) eL)))) eL)))) jR)))
  (cZ (wR (PW.pt (aZ0 (lB aL2 (aT bE (by rfl) T.a0K (bJ) (bF (pv 2) eL)) fX (bG _)) (aT5 (lB (bA1 S.units) (aN Z (S.mono (by decide)) rfl T.a0l T.a0k.kp (aZ T) .nil bK (bF (pv 0) (bF fX eL))) fX (bG _))))) (iX (wQ (hZ K rfl a7c a1e a2e eU (pv 2) (bF (aN a0F (S.mono (by decide)) rfl T.a2t T.a1u.kp (oJ T) .nil bK (bF (pv 0) (bF (aU4 (T:="list") (U:="range") (aI6 rfl) (by rfl) T.a2N iK (by rfl) T.a0y boot_range (bF fX eL)) eL))) eL)))) jR)
  (cZ (wR (lB (bA1 S.units) (aN Z (S.mono (by decide)) rfl T.a0l T.a0k.kp (aZ T) .nil bK (bF (pv 0) (bF fX eL))) fX (bG _)) (iX (wQ (bO9 K rfl a7c F.slot_list_pop F.type_list_pop dG1 (pv 2)))) jR)
  (iX (aZ1 (pv 2))))))))),?_⟩
 rw[show lC ["_law_box_here","_law_many","_law_found","_law_own","_law_k","_law_j"] [.ref p]=([some (.ref p),none,none,none,none,none]:St)from rfl];have b:∀ {w:Addr},H w=none->w≠p:=λhw z=>by subst z;obtain⟨i',j',e'⟩:=hb;rw[hw]at e';cases e'
 have mono:∀ {H' H'':Hp} {es:List V},aS9 H H' es->(∀ w,H w=none->∀ o,H' w=some o->H'' w=some o)->aS9 H H'' es:=λho hk e c=>by
  obtain⟨w,ns,e1,v,e3,e4,e5⟩:=ho e c;exact⟨w,ns,e1,hk w e5 _ v,e3,e4,e5⟩
 have u:∀ {H' H'':Hp} {es:List V},aS9 H H' es->SameBut p H' H''->aS9 H H'' es:=λho hs=>mono ho λw hw o e=>hs w o (b hw) e;have G:∀ {H':Hp} {es:List V} {l:Addr} {o:HO},aS9 H H' es->H' l=none->aS9 H (upd H' l o) es:=λho t=>mono ho λw _ o e=>by rw[aL (bD e t)];exact e
 try walk_at "sy"
 rw[cL5]
 try walk_at "sy"
 refine cS5 ⟨p,4,rfl,hb,by decide,by decide,λd1 H1 d10 d11 hb1 hs1=>?_⟩
 try walk_at "sy"
 have m0:3<=3+d1:=by lia
 have m6:3+d1<=6:=by lia
 generalize hmm:(3+d1:Int)=m at m0 m6 ⊢;clear hmm d10 d11 d1;refine aM7 (λσ' H'=>∃ (s:Addr) (es:List V),σ'=[some (V.ref p),some (V.int m),some (V.ref s),none,none,none]/\H s=none/\H' s=some (.lst es)/\es.length=m.toNat/\aS9 H H' es/\hX H' p/\SameBut p H H'/\es.Nodup/\∀ e∈es,LoI m H' e) ?_ ?_
 ·clear hb1 hs1;rintro σ' H2 ⟨s,es,rfl,d,f,hel,g,hb2,hs2,hen,hlo⟩;refine aM7 (λσ' H'=>∃ (m':Int) (s':Addr) (es':List V),σ'=[some (V.ref p),some (V.int m'),some (V.ref s'),none,none,none]/\3<=m'/\m'<=6/\H s'=none/\H' s'=some (.lst es')/\es'.length=m'.toNat/\aS9 H H' es'/\hX H' p/\SameBut p H H'/\es'.Nodup/\∀ e∈es',LoI m' H' e) ?_ ?_
  ·clear d f hel g hb2 hs2 m0 m6 hen hlo;rintro σ' H3 ⟨m,s,es,rfl,m0,m6,d,f,hel,g,hb3,L,hen,hlo⟩;refine aM7 (λσ' H'=>∃ o3:Option V,σ'=[some (V.ref p),some (V.int m),some (V.ref s),o3,none,none]/\H' s=some (.lst es)/\aS9 H H' es/\hX H' p/\SameBut p H H') ?_ ?_
   ·clear f g hb3 L;rintro σ' H4 ⟨o3,rfl,f,g,hb4,hs4⟩;refine aM7 (λσ' H'=>∃ es':List V,σ'=[some (V.ref p),some (V.int m),some (V.ref s),o3,none,none]/\H' s=some (.lst es')/\3<=es'.length/\es'.length<=6/\aS9 H H' es'/\hX H' p/\SameBut p H H') ?_ ?_
    ·clear f g hb4 hs4 hel;rintro σ' H5 ⟨es,rfl,f,hl3,hl6,g,hb5,M⟩;refine aM7 (λσ' H'=>∃ es':List V,σ'=[some (V.ref p),some (V.int m),some (V.ref s),o3,none,none]/\H' s=some (.lst es')/\1<=es'.length/\es'.length<=6/\aS9 H H' es'/\hX H' p/\SameBut p H H') ?_ ?_
     ·clear f hl3 hl6 g hb5 M;rintro σ' H6 ⟨es,rfl,f,hl1,hl6,g,hb6,I⟩
      try walk_at "sx"
      exact k s es H6 d f hl1 hl6 g hb6 I
     ·intro C hC
      try walk_at "sx"
      refine cS5 ⟨p,4,rfl,hb5,by decide,by decide,λd6 H6 d60 d61 hb6 I=>?_⟩
      try walk_at "sx"
      have D:=I s _ (b d) f;refine cK9 (λ_=>?_) (λ_=>hC _ _ ⟨es,rfl,D,by lia,hl6,u g I,hb6,M.trans I⟩);refine⟨tyL D,s,es,es[es.length-1],rfl,rfl,D,a0a (by lia),?_⟩;refine hC _ _ ⟨es.dropLast,rfl,aR,by rw[List.length_dropLast];lia,by rw[List.length_dropLast];lia,?_,hb6.put (b d),(M.trans I).put d⟩;intro e c;have he':=List.dropLast_subset _ c;obtain⟨B,W,f1,f2,f3,f4,f5⟩:=(u g I) e he';have hne:B≠s:=aK7 f2 D (by rw[← f1];exact he');exact⟨B,W,f1,by rw[aL hne];exact f2,f3,f4,f5⟩
    ·intro C hC;have skip:∀ H',hX H' p->SameBut p H4 H'->C [some (V.ref p),some (V.int m),some (V.ref s),o3,none,none] H':=λH' hb' O=>
      hC _ _ ⟨es,rfl,O s _ (b d) f,by lia,by lia,u g O,hb',hs4.trans O⟩
     try walk_at "sx"
     rw[aA2 (wI f)]
     try walk_at "sx"
     refine cK9 (λt=>?_) (λ_=>?_)
     ·have hl6:(es.length:Int) < 6:=by simpa using t
      refine cS5 ⟨p,3,rfl,hb4,by decide,by decide,λd5 H5 d50 d51 hb5 M=>?_⟩
      try walk_at "sx"
      refine cK9 (λ_=>?_) (λ_=>skip _ hb5 M);have hse5:=M s _ (b d) f;refine⟨tyL hse5,6,rfl,by decide,by decide,λq hq=>?_⟩;have hsq:SameBut p H5 (upd H5 q (.lst i6)):=SameBut.refl.upd hq;refine cS5 ⟨p,q,rfl,hb5.upd hq,aR,λr ns H6 S e6 n5 nm hb6 I=>?_⟩;have hs56:=hsq.trans I;have D:=hs56 s _ (b d) hse5;have hs45:=hs4.trans M;refine⟨s,es,_,rfl,rfl,D,Nat.lt_of_le_of_lt (by lia:es.length<=6) (by decide),?_⟩;refine hC _ _ ⟨es++[.ref r],rfl,aR,by simp;lia,by simp;lia,?_,hb6.put (b d),(hs45.trans hs56).put d⟩;intro e c;rcases a5b.mp c with h | h;obtain⟨B,W,f1,f2,f3,f4,f5⟩:=(u g (M.trans hs56)) e h;have hne:B≠s:=aK7 f2 D (by rw[← f1];exact h);exact⟨B,W,f1,by rw[aL hne];exact f2,f3,f4,f5⟩;rw[a9a.mp h];have hrs:r≠s:=(bD (hsq s _ (b d) hse5) S).symm;exact⟨r,ns,rfl,by rw[aL hrs];exact e6,n5,nm,(hs45.trans hsq).none (hb5.upd hq) S⟩
     ·try refine dR9 ?_
      exact skip _ hb4 SameBut.refl
   ·intro C hC
    try walk_at "sx"
    refine up (cB9 (wI f)) ?_;refine dH2 (aM4 (xs:=es)) (λi σ H'=>∃ o3:Option V,σ=[some (V.ref p),some (V.int m),some (V.ref s),o3,none,none]/\H' s=some (.lst es)/\aS9 H H' es/\hX H' p/\SameBut p H H'/\∀ (j:Nat) e,i<=j->es[j]? = some e->LoI m H' e) ⟨none,rfl,f,g,hb3,L,λj e _ c=>hlo e (a7b c)⟩ ?_ ?_ ?_;rintro i σ H' ⟨o3,_,X,_⟩;exact SqL.of X
    ·rintro i x σ H' hx ⟨o3,rfl,X,J,R,h6,h7⟩;have hxm:=a7b hx;obtain⟨w,ns,rfl,ww,wl,⟨wn,wd⟩,w0⟩:=J x hxm;have wlo:∀ n∈ns,n < m:=by
      obtain⟨B,W,e1,v,e3⟩:=h7 i _ (a8a _) hx;cases e1;rw[ww]at v;injection v with v;injection v with v
      intro n hn;have:V.int n∈W.map V.int:=by rw[← v];exact List.mem_map_of_mem hn
      obtain⟨n',hn',e⟩:=a2c.mp this;cases e;exact e3 n hn'
     have h7':∀ {H'':Hp},(∀ B o,B≠w->H B=none->H' B=some o->H'' B=some o)->∀ (j:Nat) e,i+1<=j->es[j]? = some e->LoI m H'' e:=λ{H''} hk j e hj c=>by
      have hem:=a7b c;refine(h7 j e (by lia) c).mono λB o e1 v=>hk B o (λz=>?_) ?_ v;subst z e1;have:=(List.getElem?_inj (a2a.mp hx).1 hen).mp (hx.trans c.symm);lia;obtain⟨w'',_,f1,_,_,_,f5⟩:=J e hem;rw[e1]at f1;cases f1;exact f5
     have hws:w≠s:=aK7 ww X hxm;have skip:∀ H'',hX H'' p->SameBut p H' H''->∃ o3:Option V,[some (V.ref p),some (V.int m),some (V.ref s),some (V.ref w),none,none]=[some (V.ref p),some (V.int m),some (V.ref s),o3,none,none]/\H'' s=some (.lst es)/\aS9 H H'' es/\hX H'' p/\SameBut p H H''/\∀ (j:Nat) e,i+1<=j->es[j]? = some e->LoI m H'' e:=λH'' hb' O=>
      ⟨_,rfl,O s _ (b d) X,u J O,hb',h6.trans O,h7' λB o _ hw e=>O B o (b hw) e⟩
     try walk_at "sx"
     refine cK9 (λhm=>?_) (λ_=>?_)
     ·have hm6:m < 6:=by simpa using hm
      rw[aA2 (wI ww)]
      try walk_at "sx"
      refine cK9 (λt=>?_) (λ_=>?_)
      ·rw[a1a]at t;have hl4:(ns.length:Int) < 4:=by simpa using t
       refine cS5 ⟨p,3,rfl,R,by decide,by decide,λd7 H7 d70 d71 hb7 hs7=>?_⟩
       try walk_at "sx"
       refine cK9 (λ_=>?_) (λ_=>skip _ hb7 hs7);have ww7:=hs7 w _ (b w0) ww;refine⟨tyL ww7,?_⟩;refine cS5 ⟨p,6-m,rfl,hb7,by lia,by lia,λd8 H8 d80 d81 hb8 hs8=>?_⟩;have ww8:=hs8 w _ (b w0) ww7
       try walk_at "sx"
       have Y:=hs7.trans hs8;refine⟨w,_,_,rfl,rfl,ww8,by rw[a1a];exact Nat.lt_of_le_of_lt (by lia:ns.length<=10) (by decide),?_⟩;refine⟨_,rfl,by rw[aL hws.symm];exact Y s _ (b d) X,?_,hb8.put (b w0),(h6.trans Y).put w0,h7' λB o hw hw0 e=>by rw[aL hw];exact Y B o (b hw0) e⟩;intro e c;obtain⟨B,W,e1,v,e3,e4,e5⟩:=(u J Y) e c;by_cases hww:B=w;subst hww;rw[ww8]at v;refine⟨B,ns++[m+d8],e1,by rw[aR];simp,by simp;lia,⟨?_,aK6 wd.1 λhm'=>(by have:=wlo _ hm';lia),λz=>by simp at z⟩,e5⟩;intro n hn;rcases a5b.mp hn with h | h;exact wn n h;rw[a9a.mp h];lia;exact⟨B,W,e1,by rw[aL hww];exact v,e3,e4,e5⟩
      ·try refine dR9 ?_
       exact skip _ R SameBut.refl
     ·try refine dR9 ?_
      exact skip _ R SameBut.refl
    ·rintro σ H' ⟨o3,rfl,X,J,R,h6,_⟩;exact hC _ _ ⟨o3,rfl,X,J,R,h6⟩
  ·intro C hC
   try walk_at "sx"
   refine cS5 ⟨p,2,rfl,hb2,by decide,by decide,λd3 H3 d30 d31 hb3 L=>?_⟩
   try walk_at "sx"
   refine cK9 (λ_=>?_) (λ_=>hC _ _ ⟨m,s,es,rfl,m0,m6,d,L s _ (b d) f,hel,u g L,hb3,hs2.trans L,hen,λe c=>(hlo e c).mono λB o e1 v=>L B o (b (by obtain⟨w'',_,f1,_,_,_,f5⟩:=g e c;rw[e1]at f1;cases f1;exact f5)) v⟩);obtain⟨m',hm',m0',m5'⟩:∃ m',min m 5=m'/\3<=m'/\m'<=5:=⟨_,rfl,by lia,by lia⟩;rw[hm'];have hs3':=hs2.trans L;refine⟨m',rfl,by lia,by lia,?_⟩;refine aU3 (P:=λ_=>True) wJ (λi ys H'=>ys.length=i/\aS9 H H' ys/\hX H' p/\SameBut p H H'/\ys.Nodup/\∀ e∈ys,LoI m' H' e) ⟨rfl,(λe c=>nomatch c),hb3,hs3',.nil,(λe c=>nomatch c)⟩ ?_ (by rw[fP];exact a4c (by lia:m'.toNat<=6) (by decide)) ?_ ?_;rintro i ys H' ⟨h1,_⟩;exact⟨trivial,by lia⟩
   ·rintro i x ys H' N hx ⟨h1,X,J,R,h6,h7⟩ hN;obtain⟨hi,rfl⟩:=pO hx
    try walk_at "sx"
    refine⟨m',rfl,by lia,by lia,?_⟩;refine aU3 (P:=λ_=>True) wJ (λj us H''=>j<=5/\∃ ws:List Int,us=ws.map V.int/\ws.length<=j/\(∀ n∈ws,0<=n/\n < 6)/\H''=H'/\ws.Nodup/\(∀ n∈ws,n < j)/\(j<=m'.toNat/\(j<=i->j<=ws.length)/\j<=ws.length+1)) ⟨by lia,[],rfl,a8a _,(λz hz=>nomatch hz),rfl,.nil,(λz hz=>nomatch hz),a5c _,λ_=>a5c _,a5c _⟩ ?_ (by rw[fP];exact a4c (by lia:m'.toNat<=6) (by decide)) ?_ ?_;rintro j us H'' ⟨_,ws,rfl,h,_,rfl,_⟩;exact⟨trivial,by rw[a1a];exact h⟩
    ·rintro j y us H'' N2 hy ⟨_,ws,rfl,g1,g2,rfl,g3,g4,g5⟩ hN2;obtain⟨hj,rfl⟩:=pO hy
     try walk_at "sx"
     refine cK9 (λ_=>?_) (λhne=>?_)
     ·refine hN2 _ _ ⟨by lia,ws++[0+(j:Int)],by simp,by simp;lia,?_,rfl,aK6 g3 (λhm'=>by have:=g4 _ hm';lia),(λn hn=>by
       rcases a5b.mp hn with h | h;have:=g4 n h;lia;rw[a9a.mp h];lia),by lia,by rw[a3b,List.length_singleton];lia,by rw[a3b,List.length_singleton];lia⟩
      intro n hn;rcases a5b.mp hn with h | h;exact g2 n h;rw[a9a.mp h];lia
     ·have hji:j=i:=by simp at hne;lia
      exact hN2 _ _ ⟨by lia,ws,rfl,by lia,g2,rfl,g3,(λn hn=>by have:=g4 n hn;lia),by lia,by lia,by lia⟩
    ·rintro us H'' ⟨gj,ws,rfl,g1,g2,rfl,g3,g4,g5⟩ l t;have hws:ws≠[]:=λz=>by have:=g5.2.2;rw[z,fP]at this;simp at this;lia
     refine hN _ _ ⟨by simp[h1],?_,J.upd t,R.upd t,aK6 h6 (λz=>(h7 _ z).ne t rfl),λe c=>?_⟩
     rotate_left
     ·rcases a5b.mp c with h | h
      ·exact(h7 e h).mono λB o _ v=>by rw[aL (bD v t)];exact v
      ·rw[a9a.mp h];exact⟨l,ws,rfl,aR,λn hn=>by have:=g4 n hn;lia⟩
     intro e c;rcases a5b.mp c with h | h;exact(G X t) e h;rw[a9a.mp h];exact⟨l,ws,rfl,aR,by lia,⟨g2,g3,hws⟩,R.none J t⟩
   ·rintro ys H' ⟨h1,X,J,R,h6,h7⟩ l t
    try walk_at "sx"
    rw[fP]at h1;exact hC _ _ ⟨m',l,ys,rfl,m0',by lia,R.none J t,aR,h1,G X t,J.upd t,R.upd t,h6,λe c=>(h7 e c).mono λB o _ v=>by rw[aL (bD v t)];exact v⟩
 ·intro C hC
  try walk_at "sx"
  refine⟨m,rfl,by lia,by lia,?_⟩;refine aU3 (P:=λ_=>True) wJ (λi ys H'=>ys.length=i/\aS9 H H' ys/\hX H' p/\SameBut p H H'/\ys.Nodup/\∀ e∈ys,LoI m H' e) ⟨rfl,(λe c=>nomatch c),hb1,hs1,.nil,(λe c=>nomatch c)⟩ ?_ (by rw[fP];exact a4c (by lia:m.toNat<=6) (by decide)) ?_ ?_;rintro i ys H' ⟨h1,_⟩;exact⟨trivial,by lia⟩
  ·rintro i x ys H' N hx ⟨h1,X,J,R,h6,h7⟩ hN;obtain⟨hi,rfl⟩:=pO hx
   try walk_at "sx"
   rw[dH4 (by lia)];have hmod0:0<=(0+(i:Int)+1) % m:=a2i _ (by lia);have hmod1:(0+(i:Int)+1) % m < m:=a2h _ (by lia);have hmod2:(0+(i:Int))≠(0+(i:Int)+1) % m:=λz=>by
    by_cases h:(0+(i:Int)+1) < m;rw[Int.emod_eq_of_lt (by lia) h]at z;lia;have:(0+(i:Int)+1)=m:=by lia
    rw[this,Int.emod_self]at z;lia
   refine⟨by show 2<=sizeLine;decide,λl t=>?_⟩;refine hN _ _ ⟨by simp[h1],?_,J.upd t,R.upd t,aK6 h6 (λz=>(h7 _ z).ne t rfl),λe c=>?_⟩
   rotate_left
   ·rcases a5b.mp c with h | h
    ·exact(h7 e h).mono λB o _ v=>by rw[aL (bD v t)];exact v
    ·rw[a9a.mp h];refine⟨l,[0+(i:Int),(0+(i:Int)+1) % m],rfl,aR,λn hn=>?_⟩;simp only[List.mem_cons,List.not_mem_nil,or_false]at hn;rcases hn with rfl | rfl<;>lia
   intro e c;rcases a5b.mp c with h | h;exact(G X t) e h;rw[a9a.mp h];refine⟨l,[0+(i:Int),(0+(i:Int)+1) % m],rfl,aR,by show 2<=5;decide,⟨?_,a7e.mpr ⟨λz=>hmod2 (a9a.mp z),by simp⟩,λz=>nomatch z⟩,R.none J t⟩;intro n hn;simp only[List.mem_cons,List.not_mem_nil,or_false]at hn;rcases hn with rfl | rfl<;>lia
  ·rintro ys H' ⟨h1,X,J,R,h6,h7⟩ l t
   try walk_at "sx"
   rw[fP]at h1;exact hC _ _ ⟨l,ys,rfl,R.none J t,aR,h1,G X t,J.upd t,R.upd t,h6,λe c=>(h7 e c).mono λB o _ v=>by rw[aL (bD v t)];exact v⟩
end
open Dv
def bY9{K:W.Frag}(vs:List V)(H:Hp)(Q:L2.VK)(E:XK)(h:xA K vs H Q E):dsp 2 aJ vs H Q E:=by
 obtain⟨p,m,rfl,⟨i,j,n⟩,m0,w,k⟩:=h;have r:=dO (a:=i) (b:=j) (m:=m) m0 (by lia) (K:=λres as'=>∃ d c f,0<=d/\d < m/\res=.val (.int d)/\as'=[⟨.par,.lst [.int c,.int f]⟩,⟨.val,.int m⟩]) λd c f g l=>⟨d,c,f,g,l,rfl,rfl⟩;obtain⟨⟨res,as'⟩,e,d,c,f,g,l,o,q⟩:=iE.mp r;cases o;cases q;refine⟨_,_,_,cX1 n,rfl,e,λv H' po s=>?_⟩;cases s;obtain⟨t,u⟩:=cF7 po;exact k d H' g l t u
noncomputable abbrev d6:List D:=(List.range 6).map λ(i:Nat)=>D.int (i:Int)
def bZ0{K:W.Frag}(vs:List V)(H:Hp)(Q:L2.VK)(E:XK)(h:zE K vs H Q E):dsp 2 cD vs H Q E:=by
 obtain⟨p,q,rfl,⟨i,j,G⟩,w,k⟩:=h;have g:p≠q:=λz=>by
  subst z;rw[G]at w;cases w
 have M:∀ {H':Hp} {xs:List V},Rps H' d6 xs->xs=i6:=λr=>Rps.ints_inv (ns:=(List.range 6).map λ(i:Nat)=>(i:Int)) r;have N:Rps H d6 i6:=jN ((List.range 6).map λ(i:Nat)=>(i:Int));have r:=aX1 (a:=i) (b:=j) (xs:=d6) (m:=.par) (t:=.lst d6) (.inl ⟨rfl,rfl⟩) (by decide) (by decide) (K:=λres as'=>∃ ys d f,(ys.length<=4/\ys≠[])/\((∀ y∈ys,y∈d6)/\ys.Nodup)/\res=.own (.lst ys)/\as'=[⟨.par,.lst [.int d,.int f]⟩,⟨.par,.lst d6⟩]) λys d f h0 A O R=>⟨ys,d,f,⟨A,h0⟩,⟨O,R (List.pairwise_map.mpr (List.nodup_range.imp λ{a b} q e=>q (by injection e with e;lia)))⟩,rfl,rfl⟩;obtain⟨⟨res,as'⟩,e,ys,d,f,I,A,S,T⟩:=iE.mp r;cases S;cases T;refine⟨[⟨.par,.lst [.int i,.int j]⟩,⟨.par,.lst d6⟩],_,_,⟨rfl,λn s es=>?_,λn l s t c hn es U m1 m2 v1 v2=>?_,λn s es=>?_⟩,rfl,e,λv H' po X=>?_⟩
 ·match n,es with
  | 0,es=>cases es;exact⟨_,rfl,p,rfl,_,G,jN [i,j]⟩
  | 1,es=>cases es;exact⟨_,rfl,q,rfl,_,w,N⟩
 ·match n,es,l,U with
  | 0,_,0,_=>exact hn rfl
  | 0,_,1,_=>cases v1;cases v2;exact g rfl
  | 1,_,0,_=>cases v1;cases v2;exact g rfl
  | 1,_,1,_=>exact hn rfl
 ·match n,es with
  | 0,es=>cases es;exact λz=>nomatch z
  | 1,es=>cases es;exact λz=>nomatch z
 ·obtain⟨r,rfl,Y,xs,B,C⟩:=X;obtain⟨ns,rfl,Z,D⟩:=yI (P:=λn=>0<=n/\n < 6) (ys:=ys) λy hy=>by
   obtain⟨x,B,rfl⟩:=a2c.mp (A.1 y hy);have:=a9c.mp B;exact⟨x,by lia,rfl⟩
  rw[C.ints_inv]at B;obtain⟨s0,v0,f1,f2,f3,f4⟩:=po.rel 0 _ rfl rfl;cases f1;cases f3;obtain⟨_,g0,xs0,J,g2⟩:=(eG (s:=⟨.par,.lst [.int d,.int f]⟩) (λz=>nomatch z)).mp f4;cases g0;rw[Rps.ints_inv (ns:=[d,f]) g2]at J;obtain⟨s1,v1,u1,u2,u3,u4⟩:=po.rel 1 _ rfl rfl;cases u1;cases u3;obtain⟨_,w0,xs1,L,w2⟩:=(eG (s:=⟨.par,.lst d6⟩) (λz=>nomatch z)).mp u4;cases w0;rw[M w2]at L;refine k r ns H' Y B (by have:=I.1;lia) ⟨D,(List.pairwise_map.mp A.2).imp λ{a b} q e=>q (by rw[e]),λz=>I.2 (by rw[z];rfl)⟩ ⟨d,f,J⟩ λc o hc F=>?_;by_cases u:c=q;subst u;rw[w]at F;cases F;exact L;refine po.fr c o F λ⟨n,s,es,mt,ev⟩=>?_
  match n,es with
  | 0,_=>cases ev;exact hc rfl
  | 1,_=>cases ev;exact u rfl
theorem aK8{H0:Hp}{r:Addr}{In:Hp->Prop}(e:∀ H w o u,In H->H0 w=none->w≠r->In (upd H w (.frz o u))){Q:Hp->Prop}:∀ (todo done:List (V×List Int)) (H:Hp),In H ->
  (∀ x∈todo,∃ w,x.1=.ref w/\(H w=some (.lst (x.2.map V.int))\/∃ o,H w=some (.frz o (.lst (x.2.map V.int))))/\H0 w=none/\w≠r) ->
  (∀ x∈done,∃ w o,x.1=.ref w/\H w=some (.frz o (.lst (x.2.map V.int)))) ->
  (∀ H',In H'->(∀ x∈done++todo,∃ w o,x.1=.ref w/\H' w=some (.frz o (.lst (x.2.map V.int))))->Q H')->FQ Q H
 | [],done,H,hi,_,hd,k=>.done (k H hi (by rw[a4g];exact hd))
 | x::todo,done,H,hi,l,hd,k=>by
   obtain⟨w,m,d,p,q⟩:=l x a3a;have g:=λy f=>l y (a6a _ f);have n:∀ H',In H'->(∀ y∈(done++[x])++todo,∃ w o,y.1=.ref w/\H' w=some (.frz o (.lst (y.2.map V.int))))->Q H':=λH' a b=>k H' a (by rw[List.append_assoc]at b;exact b);rcases d with d | ⟨o,d⟩
   ·refine .step d True.intro λo=>aK8 e todo (done++[x]) _ (e _ _ _ _ hi p q) (λy f=>?_) (λy f=>?_) n
    ·obtain⟨u,j,c,s,t⟩:=g y f;refine⟨u,j,?_,s,t⟩;by_cases i:u=w
     ·subst i;rw[aR];rcases c with c | ⟨o',c⟩
      ·rw[d]at c;injection c with c
       rw[c];exact .inr ⟨o,rfl⟩
      ·rw[d]at c;cases c
     ·rw[aL i];exact c
    ·rcases a5b.mp f with h | h;obtain⟨u,o',j,c⟩:=hd y h;exact⟨u,o',j,by rw[aL (λz=>by subst z;rw[d]at c;cases c)];exact c⟩;rw[a9a.mp h];exact⟨w,o,m,aR⟩
   ·refine aK8 e todo (done++[x]) H hi g (λy f=>?_) n;rcases a5b.mp f with h | h;exact hd y h;rw[a9a.mp h];exact⟨w,o,m,d⟩
theorem bF1{H0 H:Hp}{r:Addr}{es:List V}(b:∀ w (ns:List Int),H w=some (.lst (ns.map V.int))->V.ref w∈es->w≠r):∀ {l:List V},(∀ e∈l,e∈es)->aS9 H0 H l->∃ ps:List (V×List Int),ps.map Prod.fst=l/\(∀ x∈ps,x.2.length<=5/\(∀ n∈x.2,0<=n/\n < 6)/\x.2.Nodup/\x.2≠[]) /\
  ∀ x∈ps,∃ w,x.1=.ref w/\(H w=some (.lst (x.2.map V.int))\/∃ o,H w=some (.frz o (.lst (x.2.map V.int))))/\H0 w=none/\w≠r
 | [],_,_=>⟨[],rfl,λ_ h=>absurd h List.not_mem_nil,λ_ h=>absurd h List.not_mem_nil⟩
 | e::l,hm,c=>by
   obtain⟨ps,g,i,j⟩:=bF1 b (λx a=>hm x (a6a _ a)) λx a=>c x (a6a _ a);obtain⟨w,ns,d,f,k,m,p⟩:=c e a3a;refine⟨(e,ns)::ps,by rw[a8e,g],λx a=>?_,λx a=>?_⟩;rcases a2b.mp a with rfl | a;exact⟨k,m⟩;exact i x a;rcases a2b.mp a with rfl | a;exact⟨w,d,.inl f,p,b w ns f (by rw[← d];exact hm e a3a)⟩;exact j x a
theorem aT0{H:Hp}:∀ {ps:List (V×List Int)},(∀ x∈ps,∃ w o,x.1=.ref w/\H w=some (.frz o (.lst (x.2.map V.int))))->Rps H (ps.map λx=>.lst (x.2.map D.int)) (ps.map Prod.fst)
 | [],_=>.nil
 | x::r,h=>by
   obtain⟨w,o,a,b⟩:=h x a3a;rw[a8e,a8e,a];exact .cons (.lst b (jN _)) (aT0 λy c=>h y (a6a _ c))
def dA5{K:W.Frag}(vs:List V)(H:Hp)(Q:L2.VK)(E:XK)(h:bQ1 1 cRS vs H Q E):spF (lA K) vs H Q E:=by
 obtain⟨as,v,f,a,b,rfl,q⟩:=h;obtain⟨Y,I,J⟩:=v.rel 0 _ rfl;obtain⟨p,rfl,xs,j,k⟩:=(eG (s:=⟨.par,.lst [.int a,.int b]⟩) (λz=>nomatch z)).mp J;rw[Rps.ints_inv (ns:=[a,b]) k]at j;have L:vs=[.ref p]:=by
  have f:=v.len
  match vs,f with
  | [x],_=>cases I;rfl
 subst L;refine⟨p,rfl,⟨a,b,j⟩,λr es H' k y l1 l6 M N O=>?_⟩;obtain⟨ps,A,B,P⟩:=bF1 (r:=r) (es:=es) (λw ns R hm=>aK7 R y hm) (λe h=>h) M;refine aK8 (H0:=H) (r:=r) (In:=λd=>d r=some (.lst es)/\hX d p/\SameBut p H d) (λd w o u ⟨m,g,i⟩ t S=>⟨by rw[aL S.symm];exact m,g.put (λz=>by subst z;rw[j]at t;cases t),i.put t⟩) ps [] H' ⟨y,N,O⟩ P (λ_ h=>absurd h List.not_mem_nil) λd ⟨m,⟨C,D,g⟩,i⟩ T=>?_;have U:ps.length=es.length:=by rw[← A,a1a]
 have F:=aT0 (ps:=ps) T;rw[A]at F;refine q (ps.map Prod.snd) C D ⟨by rw[a1a];lia,by rw[a1a];lia,λl f=>?_⟩ (.ref r) d ⟨λn s e mt=>?_,λc o e n=>i c o (λz=>n ⟨0,_,rfl,rfl,by rw[z];rfl⟩) e,λc e=>?_⟩ ⟨r,rfl,k,es,m,by rw[List.map_map];exact F⟩;obtain⟨x,G,rfl⟩:=a2c.mp f;exact⟨by have:=(B x G).1;lia,(B x G).2⟩
 ·match n,e with
  | 0,e=>cases e;exact⟨_,_,rfl,rfl,rfl,p,rfl,_,g,jN [C,D]⟩
 ·cases X:H c with
  | none=>rfl
  | some o=>
    by_cases z:c=p;subst z;rw[g]at e;cases e;rw[i c o z X]at e;cases e
noncomputable def adr:Adr:=⟨121,Hd.cI7,133,Hd.cI9,140,Hd.cJ0,150,Hd.cJ2,145,Hd.cJ1,126,Hd.cI8,155,Hd.cJ3,114,Hd.cI6,165,Hd.cJ5,170,Hd.cJ6,78,Hd.dC6,19,Hd.dB5,83,Hd.dC7,88,Hd.dC8,93,Hd.dC9,100,Hd.cI4,24,Hd.dB6,61,Hd.dC3,66,Hd.dC4,29,Hd.dB7,34,Hd.dB8,39,Hd.dB9,49,Hd.dC1,44,Hd.dC0,56,Hd.dC2,73,Hd.dC5,107,Hd.cI5,160,Hd.cJ4,180,Hd.cJ8,175,Hd.cJ7,185,Hd.cJ9,192,Hd.aY8⟩
def oY{K:W.Frag}{x q:Str}{s:Stmt}{f:Addr}{fd:FuncData}(m:Value)(c:Addr)(e:fd=W.fnOf x q (aU0 s) (uR s) (aW s) .none .none .none m none (.ref c) .none)(l:K.lookup f=some ⟨.type "function",none,.func fd,#[]⟩)(d:W.codeIn K (.ref c) q=true)(k:W.keepIn K (.ref f)=true):Fun K x q s f fd:=⟨⟨_,_,_,_,_,_,_,_,_,e,l,d⟩,k⟩
def txt{P:Params}{h:Heap}{mg:Str->Option Value}(X:(Hd.KF P).In h)(G:h.Ns mainGlobals mg):Txt (Hd.KF P) mg adr:=⟨a0d X G (by kernel_rfl),
oY (.str "law_mostrows_k46_ears_told" 311) 120 (by kernel_rfl) (by kernel_rfl) (by kernel_rfl) (by kernel_rfl),
a0d X G (by kernel_rfl),
oY (.str "law_mostrows_k46_ears_told" 311) 132 (by kernel_rfl) (by kernel_rfl) (by kernel_rfl) (by kernel_rfl),
a0d X G (by kernel_rfl),
oY (.str "law_mostrows_k46_ears_told" 311) 139 (by kernel_rfl) (by kernel_rfl) (by kernel_rfl) (by kernel_rfl),
a0d X G (by kernel_rfl),
oY (.str "law_mostrows_k46_ears_told" 311) 149 (by kernel_rfl) (by kernel_rfl) (by kernel_rfl) (by kernel_rfl),
a0d X G (by kernel_rfl),
oY (.str "law_mostrows_k46_ears_told" 311) 144 (by kernel_rfl) (by kernel_rfl) (by kernel_rfl) (by kernel_rfl),
a0d X G (by kernel_rfl),
oY (.str "law_mostrows_k46_ears_told" 311) 125 (by kernel_rfl) (by kernel_rfl) (by kernel_rfl) (by kernel_rfl),
a0d X G (by kernel_rfl),
oY (.str "law_mostrows_k46_ears_told" 311) 154 (by kernel_rfl) (by kernel_rfl) (by kernel_rfl) (by kernel_rfl),
a0d X G (by kernel_rfl),
oY (.str "law_mostrows_k46_ears_told" 311) 113 (by kernel_rfl) (by kernel_rfl) (by kernel_rfl) (by kernel_rfl),
a0d X G (by kernel_rfl),
oY (.str "law_mostrows_k46_ears_told" 311) 164 (by kernel_rfl) (by kernel_rfl) (by kernel_rfl) (by kernel_rfl),
a0d X G (by kernel_rfl),
oY (.str "law_mostrows_k46_ears_told" 311) 169 (by kernel_rfl) (by kernel_rfl) (by kernel_rfl) (by kernel_rfl),
a0d X G (by kernel_rfl),
oY (.str "mostrows.ears" 267) 77 (by kernel_rfl) (by kernel_rfl) (by kernel_rfl) (by kernel_rfl),
a0d X G (by kernel_rfl),
oY (.str "mostrows.questions" 187) 18 (by kernel_rfl) (by kernel_rfl) (by kernel_rfl) (by kernel_rfl),
a0d X G (by kernel_rfl),
oY (.str "mostrows.ears" 267) 82 (by kernel_rfl) (by kernel_rfl) (by kernel_rfl) (by kernel_rfl),
a0d X G (by kernel_rfl),
oY (.str "mostrows.ears" 267) 87 (by kernel_rfl) (by kernel_rfl) (by kernel_rfl) (by kernel_rfl),
a0d X G (by kernel_rfl),
oY (.str "mostrows.ears" 267) 92 (by kernel_rfl) (by kernel_rfl) (by kernel_rfl) (by kernel_rfl),
a0d X G (by kernel_rfl),
oY (.str "mostrows.ears" 267) 99 (by kernel_rfl) (by kernel_rfl) (by kernel_rfl) (by kernel_rfl),
a0d X G (by kernel_rfl),
oY (.str "mostrows.parts" 195) 23 (by kernel_rfl) (by kernel_rfl) (by kernel_rfl) (by kernel_rfl),
a0d X G (by kernel_rfl),
oY (.str "mostrows.rings" 203) 60 (by kernel_rfl) (by kernel_rfl) (by kernel_rfl) (by kernel_rfl),
a0d X G (by kernel_rfl),
oY (.str "mostrows.rings" 203) 65 (by kernel_rfl) (by kernel_rfl) (by kernel_rfl) (by kernel_rfl),
a0d X G (by kernel_rfl),
oY (.str "mostrows.rings" 203) 28 (by kernel_rfl) (by kernel_rfl) (by kernel_rfl) (by kernel_rfl),
a0d X G (by kernel_rfl),
oY (.str "mostrows.rings" 203) 33 (by kernel_rfl) (by kernel_rfl) (by kernel_rfl) (by kernel_rfl),
a0d X G (by kernel_rfl),
oY (.str "mostrows.rings" 203) 38 (by kernel_rfl) (by kernel_rfl) (by kernel_rfl) (by kernel_rfl),
a0d X G (by kernel_rfl),
oY (.str "mostrows.rings" 203) 48 (by kernel_rfl) (by kernel_rfl) (by kernel_rfl) (by kernel_rfl),
a0d X G (by kernel_rfl),
oY (.str "mostrows.rings" 203) 43 (by kernel_rfl) (by kernel_rfl) (by kernel_rfl) (by kernel_rfl),
a0d X G (by kernel_rfl),
oY (.str "mostrows.rings" 203) 55 (by kernel_rfl) (by kernel_rfl) (by kernel_rfl) (by kernel_rfl),
a0d X G (by kernel_rfl),
oY (.str "mostrows.rings" 203) 72 (by kernel_rfl) (by kernel_rfl) (by kernel_rfl) (by kernel_rfl),
a0d X G (by kernel_rfl),
oY (.str "mostrows.ears" 267) 106 (by kernel_rfl) (by kernel_rfl) (by kernel_rfl) (by kernel_rfl),
a0d X G (by kernel_rfl),
oY (.str "law_mostrows_k46_ears_told" 311) 159 (by kernel_rfl) (by kernel_rfl) (by kernel_rfl) (by kernel_rfl),
a0d X G (by kernel_rfl),
oY (.str "law_mostrows_k46_ears_told" 311) 179 (by kernel_rfl) (by kernel_rfl) (by kernel_rfl) (by kernel_rfl),
a0d X G (by kernel_rfl),
oY (.str "law_mostrows_k46_ears_told" 311) 174 (by kernel_rfl) (by kernel_rfl) (by kernel_rfl) (by kernel_rfl),
a0d X G (by kernel_rfl),
oY (.str "law_mostrows_k46_ears_told" 311) 184 (by kernel_rfl) (by kernel_rfl) (by kernel_rfl) (by kernel_rfl),
a0d X G (by kernel_rfl),
oY (.str "law_mostrows_k46_ears_told" 311) 191 (by kernel_rfl) (by kernel_rfl) (by kernel_rfl) (by kernel_rfl),
a6e X G (by kernel_rfl),
a6e X G (by kernel_rfl),
a6e X G (by kernel_rfl),
a6e X G (by kernel_rfl),
a6e X G (by kernel_rfl),
a6e X G (by kernel_rfl),
a6e X G (by kernel_rfl),
a6e X G (by kernel_rfl),
a6e X G (by kernel_rfl),
a6e X G (by kernel_rfl),
a6e X G (by kernel_rfl),
a6e X G (by kernel_rfl),
a6e X G (by kernel_rfl),
⟨205,a0d X G (by kernel_rfl)⟩⟩
def dO6{P:Program}{w:World}{mg:Str->Option Value}{base:Heap}(T:Txt (Hd.KF w.params) mg adr):FnOk P w (Hd.KF w.params) mg base CX0 7 192 Hd.aY8 ["_law_script"] (bQ1 1 zD):=by
 have a:=aY5 (P:=P) (w:=w) (base:=base) T;have b:=zA (P:=P) (w:=w) (base:=base) T a;have c:=aY6 (P:=P) (w:=w) (base:=base) T b a;have g:=a.imp (bY9 (K:=Hd.KF w.params));have h:=c.imp (bZ0 (K:=Hd.KF w.params));have i:=(uP (P:=P) (w:=w) (base:=base) T g h).fz.imp (dA5 (K:=Hd.KF w.params));have j:=vE (P:=P) (w:=w) (base:=base) T a c;have k:=aS5 (P:=P) (w:=w) (base:=base) T a;have l:=zC (P:=P) (w:=w) (base:=base) T a i j b k;have m:=bJ5 (P:=P) (w:=w) (base:=base) T;have d:=zT (P:=P) (w:=w) (base:=base) T;have n:=wG (P:=P) (w:=w) (base:=base) T d a;have e:=bJ6 (P:=P) (w:=w) (base:=base) T;have f:=aK3 (P:=P) (w:=w) (base:=base) T;have o:=bJ7 (P:=P) (w:=w) (base:=base) T;have p:=aK4 (P:=P) (w:=w) (base:=base) T e f o;have q:=bJ8 (P:=P) (w:=w) (base:=base) T p;have r:=aS6 (P:=P) (w:=w) (base:=base) T q e;have s:=aS7 (P:=P) (w:=w) (base:=base) T;have t:=vF (P:=P) (w:=w) (base:=base) T;have u:=bY6 (P:=P) (w:=w) (base:=base) T t;have v:=bJ9 (P:=P) (w:=w) (base:=base) T;have x:=zU (P:=P) (w:=w) (base:=base) T;have y:=zV (P:=P) (w:=w) (base:=base) T v x;have z:=zX (P:=P) (w:=w) (base:=base) T;have A:=aK5 (P:=P) (w:=w) (base:=base) T;have B:=bK0 (P:=P) (w:=w) (base:=base) T y z A;have C:=bK1 (P:=P) (w:=w) (base:=base) T s f u B;have D:=cI1 (P:=P) (w:=w) (base:=base) T r C;have E:=zY (P:=P) (w:=w) (base:=base) T;have F:=zZ (P:=P) (w:=w) (base:=base) T E;have G:=aS8 (P:=P) (w:=w) (base:=base) T d;have H:=(bY7 (P:=P) (w:=w) (base:=base) T D F G).imp λ_ _ _ _=>bK3;have I:=dO5 (P:=P) (w:=w) (base:=base) T l m n H;exact I
def cI3:W.WalkO Hd.Vw [] (W.XL Hd.Vw []) (W.InK Hd.KF) PySem.Challenge.rw_mostrows_k46_ears_told.row.toRowW Hd.dP9 [] (λf vs=>PySem.call f vs):=by
 refine L2.cR9 (l:=PySem.Challenge.rw_mostrows_k46_ears_told) (K:=Hd.KF) (n:=63) (k:=7) (x:="_law_script") (CX:=λ_=>CX0) (sp:=λw=>bQ1 1 zD) rfl (by decide) (by kernel_rfl) ⟨rfl,by decide,by decide⟩ (λw h Y=>Y) (λw mg i h X G e=>?_) (λw _ a ns b c d=>bI6 (xV aY7) (by kernel_rfl) c d (cI2 ns b)) λ_ _ _ _ _ z=>z;have T:=txt X G;have g:=T.a3Y.symm.trans e;cases g;exact⟨Hd.aY8,λs v=>.of_eq (by kernel_rfl),λbase _ _=>dO6 T⟩
end Mr
open PySem PySem.W PyProof.Rows
theorem PySem.Challenge.cw_mostrows_k46_ears_told_holds : PySem.Challenge.rw_mostrows_k46_ears_told.Holds :=
 Hd.dV5 Mr.cI3
#print axioms PySem.Challenge.cw_mostrows_k46_ears_told_holds
