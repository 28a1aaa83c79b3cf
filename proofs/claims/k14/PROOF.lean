import PyProof.Rows.All
import Wide.All
import OpenK.AllK
import Wide.FinOn
import Lean
import PyProof.EqAt
import PyProof.EqKinds
import PyProof.TupleCall
import PyProof.StationsW
import PyProof.RulesAs
import PyProof.ExcClass2
import PyProof.Rows.Exc
import OpenK.KMake
import PyProof.InstStoreFacts
import OpenK.KCls
import PyProof.ExcArgsOwn
import PyProof.ExcAttrAll.ValueError
import PyProof.FitsInt
import PyProof.FString
import PyProof.FString4
import PyProof.StrLawsRepr
import PyProof.NsDelKeeps
import PyProof.NoPylong
import PyProof.FitsBits
import PyProof.Rows.RuleM_int
import PyProof.P3In
import PyProof.NeData
import PyProof.Draws
import PyProof.ZipIter
import PyProof.EnumMake
import PySem.SetOps
import PyProof.SetScanFacts
import PyProof.WalksMore
import PyProof.SetNew
import PyProof.SetKind
import PyProof.Rows.SetFrom
import PyProof.TupleKey
import PyProof.IsRules
import PyProof.SetRoads
import PyProof.DictRoadsH
import PyProof.AttrMissHeap
import PySem.Challenge.RW_mostrows_k14_joined_and_thinned
set_option compiler.extract_closed false
set_option Elab.async false
set_option linter.all false
set_option maxRecDepth 100000
set_option maxHeartbeats 4000000
def a2F:=@PySem.wpAny_bind
def a2G:=@PySem.wpAny_pure
def a2H:=@if_pos
def a2I:=@if_neg
def a2J:=@beq_iff_eq
def a2K:=@decide_eq_true_eq
def a2L:=@PySem.wpAny_holding
def a2M:=@decide_eq_false
def a2N:=@if_false
def a2O:=@PySem.wpAny_newObj_type
def a2P:=@if_true
def a2Q:=@PySem.wpAny_mono
def a2R:=@PySem.wpAny_passesOwn
def a2S:=@PySem.codeAny_builtin
def a2T:=@bne_self_eq_false
def a2U:=@PySem.wpAny_rule
def a2V:=@PySem.wpAny_call_entry
def a2W:=@PySem.wpAny_getItem_str_slice
def a2X:=@PySem.wpAny_Call_Name_kw
def a2Y:=@congrArg
def a2Z:=@PySem.wpAny_truthy_bool
def a3j:=@decide_eq_true
def a3k:=@PySem.wpAny_askSetting
def a3l:=@PySem.wpAny_loadPart'
def a3m:=@PySem.wpAny_typeOf
def a3n:=@PySem.sizeLine_eq
def a3o:=@PySem.plainId_quiet
def a3p:=@PySem.codeAny_mono
def a3q:=@PySem.wpAny_setEntries_of
def a3r:=@PySem.putSet_of
def a3s:=@PySem.wpAny_standAt
def a3t:=@PySem.call_meets
def a3u:=@PySem.wpAny_specialOf
def a3v:=@PySem.wpAny_updateSeq
def a3w:=@PySem.wpAny_ite_split
def a0a:=@List.getElem?_eq_some_iff
def a1a:=@List.getElem?_eq_getElem
def a2a:=@List.getElem?_set_ne
def a3a:=@List.mem_cons_self
def a4a:=@List.mem_cons_of_mem
def a5a:=@Option.some.inj
def a6a:=@PySem.Heap.get?_push_of_some
def a7a:=@List.length_map
def a8a:=@Nat.le_refl
def a9a:=@List.length_append
def a0b:=@List.getElem?_set_self
def a1b:=@List.size_toArray
def a2b:=@List.getElem?_append_right
def a3b:=@PySem.Heap.get?_push_size
def a4b:=@PySem.Heap.lt_size
def a5b:=@Array.getElem?_toList
def a6b:=@Nat.le_trans
def a7b:=@List.mem_cons
def a8b:=@List.mem_singleton
def a9b:=@Array.getElem?_eq_getElem
def a0c:=@List.getElem?_map
def a1c:=@Nat.lt_of_lt_of_le
def a2c:=@List.mem_of_getElem?
def a3c:=@List.mem_append
def a4c:=@List.mem_append_right
def a5c:=@Option.map_eq_some_iff
def a6c:=@List.getElem?_append_left
def a7c:=@List.eq_nil_of_length_eq_zero
def a8c:=@List.take_of_length_le
def a9c:=@Ne.symm
def a0d:=@Array.length_toList
def a1d:=@Nat.zero_le
def a2d:=@List.getElem?_cons_succ
def a3d:=@List.map_append
def a4d:=@Nat.ne_of_lt
def a5d:=@List.getElem?_toArray
def a6d:=@PySem.W.mg_of
def a7d:=@List.getElem?_eq_none_iff
def a8d:=@Bool.false_ne_true
def a9d:=@Bool.and_eq_true
def a0e:=@PySem.Heap.get?_update_other
def a1e:=@List.map_cons
def a2e:=@PySem.Heap.get?_update_self
def a3e:=@PyProof.Rows.slot_tuple_getitem
def a4e:=@Array.getElem?_eq_some_iff
def a5e:=@Classical.byContradiction
def a6e:=@PySem.W.mg_none_of
def a7e:=@List.mem_map
def a8e:=@List.length_take
def a9e:=@Nat.zero_add
def a0f:=@List.pairwise_cons
def a1f:=@PySem.W.kia_one
def a2f:=@List.append_nil
def a3f:=@List.length_set
def a4f:=@Bool.eq_iff_iff
def a5f:=@List.getElem_of_mem
def a6f:=@Nat.lt_irrefl
def a7f:=@PySem.F.plainAttrs_list
def a8f:=@List.mem_of_mem_take
def a9f:=@List.length_drop
def a0g:=@PySem.Around.under_plainId
def a1g:=@List.mem_range
def a2g:=@Nat.le_of_lt
def a3g:=@Nat.lt_trans
def a4g:=@Nat.pow_succ
def a5g:=@PyProof.Rows.F.plain_set_update_loop
def a6g:=@Array.toList_push
def a7g:=@List.take_add_one
def a8g:=@List.filterMap_cons
def a9g:=@Array.getD_eq_getD_getElem?
def a0h:=@PySem.Heap.SameBut.update
def a1h:=@Nat.lt_succ_self
def a2h:=@List.length_cons
def a3h:=@List.mem_append_left
def a4h:=@List.nodup_cons
def a5h:=@List.ext_getElem?
def a6h:=@PySem.PassesOwn.never
def a7h:=@PySem.F.slot_list_append
def a8h:=@PySem.F.type_list_append
def a9h:=@Nat.mul_comm
def a0i:=@PySem.mem_of_lookup
def a1i:=@PySem.F.plain_extend_loop
def a2i:=@List.lookup_cons
def a3i:=@List.all_eq_true
def a4i:=@Int.emod_lt_of_pos
def a5i:=@Nat.not_lt_zero
def a6i:=@List.getElem?_eq_none
def a7i:=@Nat.le_of_not_lt
def a8i:=@Nat.lt_of_not_le
def a9i:=@Int.emod_nonneg
def a0j:=@Nat.not_lt
def a1j:=@Nat.mul_assoc
namespace Hd
open PySem PySem.W
noncomputable def top(i:Nat):Stmt:=PySem.Challenge.pw_mostrows_k14_joined_and_thinned.main.body.getD i (.Pass ⟨0,0,0,0⟩)
noncomputable def kG(x q:Str)(s:Stmt)(m:Value)(c:Addr):FuncData:=match s with
 | .FunctionDef _ a b _ _ _ e _ _ _=>fnOf x q a b e .none .none .none m none (.ref c) .none
 | _=>default
noncomputable def cM1:DefRec:=match top 21 with
 | .FunctionDef n a b _ _ _ e _ _ p=>⟨n,a,b,e,p⟩
 | _=>⟨"",default,[],default,default⟩
noncomputable def kE(P:Params)(x:Str)(t:Tok)(v:Value):DictEntry:=⟨PyData.keyHash P x,.str x t,v⟩
noncomputable def kT(l:List Value):Obj:=⟨.type "tuple",none,.seq l.toArray 0,#[]⟩
noncomputable def kF(f:FuncData):Obj:=⟨.type "function",none,.func f,#[]⟩
noncomputable def bZ3:=kG "table_of" "table_of" (top 1) (.str "mostrows.tables" 187) 20
noncomputable def bZ4:=kG "places_of" "places_of" (top 2) (.str "mostrows.tables" 187) 25
noncomputable def bZ5:=kG "picked" "picked" (top 3) (.str "mostrows.tables" 187) 30
noncomputable def bZ6:=kG "common_columns" "common_columns" (top 4) (.str "mostrows.tables" 187) 35
noncomputable def bZ7:=kG "grouped" "grouped" (top 5) (.str "mostrows.tables" 187) 42
noncomputable def bZ8:=kG "joined" "joined" (top 6) (.str "mostrows.tables" 187) 47
noncomputable def bZ9:=kG "thinned_by" "thinned_by" (top 7) (.str "mostrows.tables" 187) 52
noncomputable def cA0:=kG "_law_box" "_law_box" (top 9) (.str "law_mostrows_k14_joined_and_thinned" 240) 59
noncomputable def cA1:=kG "_law_take" "_law_take" (top 10) (.str "law_mostrows_k14_joined_and_thinned" 240) 66
noncomputable def cA2:=kG "_law_order" "_law_order" (top 11) (.str "law_mostrows_k14_joined_and_thinned" 240) 73
noncomputable def cA3:=kG "_law_names" "_law_names" (top 12) (.str "law_mostrows_k14_joined_and_thinned" 240) 78
noncomputable def cA4:=kG "_law_rows" "_law_rows" (top 13) (.str "law_mostrows_k14_joined_and_thinned" 240) 83
noncomputable def cA5:=kG "_law_table" "_law_table" (top 14) (.str "law_mostrows_k14_joined_and_thinned" 240) 90
noncomputable def cA6:=kG "_law_whole" "_law_whole" (top 15) (.str "law_mostrows_k14_joined_and_thinned" 240) 97
noncomputable def bJ6:=kG "_law_is_table" "_law_is_table" (top 16) (.str "law_mostrows_k14_joined_and_thinned" 240) 102
noncomputable def bJ7:=kG "_law_at" "_law_at" (top 17) (.str "law_mostrows_k14_joined_and_thinned" 240) 107
noncomputable def bJ8:=kG "_law_joined" "_law_joined" (top 18) (.str "law_mostrows_k14_joined_and_thinned" 240) 112
noncomputable def bJ9:=kG "_law_thin" "_law_thin" (top 19) (.str "law_mostrows_k14_joined_and_thinned" 240) 117
noncomputable def bK0:=kG "_law_right" "_law_right" (top 20) (.str "law_mostrows_k14_joined_and_thinned" 240) 124
noncomputable def aH1:=kG "law" "law" (top 21) (.str "law_mostrows_k14_joined_and_thinned" 240) 131
noncomputable def kC(x:Str)(a:Tok)(q:Str)(b c:Tok)(d e f:Int)(g:Addr)(h:Int)(i j k l:Addr)(m n:Int)(o:Tok):Obj:=⟨.type "code",none,.fields #[.str x a,.str q b,.str "/claim/cut.py" c,.int d 0,.int e 0,.int 0 0,.int 0 0,.int f 0,.ref g,.bool true,.int h 0,.ref i,.none,.ref j,.ref k,.ref l,.int m 0,.int n 0,.str "/claim/cut.py" o],#[]⟩
noncomputable def KF(P:Params):W.Frag:=[
(2,⟨.none,none,(.dict #[] 0),#[]⟩),
(3,⟨(.type "dict"),none,(.dict #[kE P "__name__" 165 (.str "law_mostrows_k14_joined_and_thinned" 240),kE P "__doc__" 166 .none,kE P "__package__" 167 .none,kE P "__loader__" 168 (.builtin "__main__.__loader__#opaque"),kE P "__spec__" 169 .none,kE P "__annotations__" 170 (.ref 6),kE P "__builtins__" 171 (.ref 4),kE P "__file__" 173 (.str "/claim/cut.py" 172),kE P "__cached__" 174 .none,kE P "table_of" 196 (.ref 21),kE P "places_of" 202 (.ref 26),kE P "picked" 208 (.ref 31),kE P "common_columns" 214 (.ref 36),kE P "grouped" 227 (.ref 43),kE P "joined" 233 (.ref 48),kE P "thinned_by" 239 (.ref 53),kE P "_law_box" 251 (.ref 60),kE P "_law_take" 261 (.ref 67),kE P "_law_order" 271 (.ref 74),kE P "_law_names" 277 (.ref 79),kE P "_law_rows" 283 (.ref 84),kE P "_law_table" 293 (.ref 91),kE P "_law_whole" 300 (.ref 98),kE P "_law_is_table" 306 (.ref 103),kE P "_law_at" 312 (.ref 108),kE P "_law_joined" 318 (.ref 113),kE P "_law_thin" 324 (.ref 118),kE P "_law_right" 333 (.ref 125),kE P "law" 344 (.ref 132)] 29),#[]⟩),
(6,⟨(.type "dict"),none,(.dict #[] 0),#[]⟩),
(15,kT []),
(17,kT [(.str "columns" 192),(.str "rows" 193)]),
(18,kT []),
(20,kC "table_of" 189 "table_of" 190 191 2 2 3 15 181 16 17 18 19 194 2 195),
(21,kF bZ3),
(22,kT []),
(25,⟨(.type "code"),none,(.fields #[(.str "places_of" 197),(.str "places_of" 198),(.str "/claim/cut.py" 199),(.int 4 0),(.int 2 0),(.int 0 0),(.int 0 0),(.int 3 0),(.ref 22),(.bool true),(.int 181 0),(.ref 23),.none,.none,.none,(.ref 24),(.int 200 0),(.int 4 0),(.str "/claim/cut.py" 201)]),#[]⟩),
(26,kF bZ4),
(27,kT []),
(30,⟨(.type "code"),none,(.fields #[(.str "picked" 203),(.str "picked" 204),(.str "/claim/cut.py" 205),(.int 6 0),(.int 2 0),(.int 0 0),(.int 0 0),(.int 3 0),(.ref 27),(.bool true),(.int 181 0),(.ref 28),.none,.none,.none,(.ref 29),(.int 206 0),(.int 6 0),(.str "/claim/cut.py" 207)]),#[]⟩),
(31,kF bZ5),
(32,kT []),
(35,⟨(.type "code"),none,(.fields #[(.str "common_columns" 209),(.str "common_columns" 210),(.str "/claim/cut.py" 211),(.int 8 0),(.int 2 0),(.int 0 0),(.int 0 0),(.int 3 0),(.ref 32),(.bool true),(.int 181 0),(.ref 33),.none,.none,.none,(.ref 34),(.int 212 0),(.int 8 0),(.str "/claim/cut.py" 213)]),#[]⟩),
(36,kF bZ6),
(37,kT []),
(39,kT [(.str "table" 218),(.str "columns" 219),(.str "others" 220),(.str "places" 221),(.str "other_places" 222),(.str "groups" 223),(.str "row" 224)]),
(40,kT []),
(42,kC "grouped" 215 "grouped" 216 217 10 3 3 37 181 38 39 40 41 225 10 226),
(43,kF bZ7),
(44,kT []),
(47,⟨(.type "code"),none,(.fields #[(.str "joined" 228),(.str "joined" 229),(.str "/claim/cut.py" 230),(.int 17 0),(.int 2 0),(.int 0 0),(.int 0 0),(.int 3 0),(.ref 44),(.bool true),(.int 181 0),(.ref 45),.none,.none,.none,(.ref 46),(.int 231 0),(.int 17 0),(.str "/claim/cut.py" 232)]),#[]⟩),
(48,kF bZ8),
(49,kT []),
(52,⟨(.type "code"),none,(.fields #[(.str "thinned_by" 234),(.str "thinned_by" 235),(.str "/claim/cut.py" 236),(.int 26 0),(.int 2 0),(.int 0 0),(.int 0 0),(.int 3 0),(.ref 49),(.bool true),(.int 181 0),(.ref 50),.none,.none,.none,(.ref 51),(.int 237 0),(.int 26 0),(.str "/claim/cut.py" 238)]),#[]⟩),
(53,kF bZ9),
(54,kT []),
(56,kT [(.str "_law_script" 245),(.str "_law_k" 246),(.str "_law_cell" 247),(.str "_law_seed" 248)]),
(57,kT []),
(59,kC "_law_box" 242 "_law_box" 243 244 32 2 3 54 181 55 56 57 58 249 32 250),
(60,kF cA0),
(61,kT []),
(63,kT [(.str "_law_box_here" 255),(.str "_law_many" 256),(.str "_law_digit" 257),(.str "_law_one" 258)]),
(64,kT []),
(66,kC "_law_take" 252 "_law_take" 253 254 40 2 3 61 181 62 63 64 65 259 40 260),
(67,kF cA1),
(68,kT []),
(70,kT [(.str "_law_box_here" 265),(.str "_law_things" 266),(.str "_law_left" 267),(.str "_law_found" 268)]),
(71,kT []),
(73,kC "_law_order" 262 "_law_order" 263 264 48 2 3 68 181 69 70 71 72 269 48 270),
(74,kF cA2),
(75,kT []),
(78,⟨(.type "code"),none,(.fields #[(.str "_law_names" 272),(.str "_law_names" 273),(.str "/claim/cut.py" 274),(.int 54 0),(.int 2 0),(.int 0 0),(.int 0 0),(.int 3 0),(.ref 75),(.bool true),(.int 181 0),(.ref 76),.none,.none,.none,(.ref 77),(.int 275 0),(.int 54 0),(.str "/claim/cut.py" 276)]),#[]⟩),
(79,kF cA3),
(80,kT []),
(83,⟨(.type "code"),none,(.fields #[(.str "_law_rows" 278),(.str "_law_rows" 279),(.str "/claim/cut.py" 280),(.int 74 0),(.int 3 0),(.int 0 0),(.int 0 0),(.int 3 0),(.ref 80),(.bool true),(.int 181 0),(.ref 81),.none,.none,.none,(.ref 82),(.int 281 0),(.int 74 0),(.str "/claim/cut.py" 282)]),#[]⟩),
(84,kF cA4),
(85,kT []),
(87,kT [(.str "_law_box_here" 287),(.str "_law_names_here" 288),(.str "_law_ceiling" 289),(.str "_law_columns" 290)]),
(88,kT []),
(90,kC "_law_table" 284 "_law_table" 285 286 78 3 3 85 181 86 87 88 89 291 78 292),
(91,kF cA5),
(92,kT []),
(94,kT [(.str "_law_found" 297)]),
(95,kT []),
(97,kC "_law_whole" 294 "_law_whole" 295 296 81 1 3 92 181 93 94 95 96 298 81 299),
(98,kF cA6),
(99,kT []),
(102,⟨(.type "code"),none,(.fields #[(.str "_law_is_table" 301),(.str "_law_is_table" 302),(.str "/claim/cut.py" 303),(.int 83 0),(.int 3 0),(.int 0 0),(.int 0 0),(.int 3 0),(.ref 99),(.bool true),(.int 181 0),(.ref 100),.none,.none,.none,(.ref 101),(.int 304 0),(.int 83 0),(.str "/claim/cut.py" 305)]),#[]⟩),
(103,kF bJ6),
(104,kT []),
(107,⟨(.type "code"),none,(.fields #[(.str "_law_at" 307),(.str "_law_at" 308),(.str "/claim/cut.py" 309),(.int 90 0),(.int 3 0),(.int 0 0),(.int 0 0),(.int 3 0),(.ref 104),(.bool true),(.int 181 0),(.ref 105),.none,.none,.none,(.ref 106),(.int 310 0),(.int 90 0),(.str "/claim/cut.py" 311)]),#[]⟩),
(108,kF bJ7),
(109,kT []),
(112,⟨(.type "code"),none,(.fields #[(.str "_law_joined" 313),(.str "_law_joined" 314),(.str "/claim/cut.py" 315),(.int 92 0),(.int 2 0),(.int 0 0),(.int 0 0),(.int 3 0),(.ref 109),(.bool true),(.int 181 0),(.ref 110),.none,.none,.none,(.ref 111),(.int 316 0),(.int 92 0),(.str "/claim/cut.py" 317)]),#[]⟩),
(113,kF bJ8),
(114,kT []),
(117,⟨(.type "code"),none,(.fields #[(.str "_law_thin" 319),(.str "_law_thin" 320),(.str "/claim/cut.py" 321),(.int 101 0),(.int 2 0),(.int 0 0),(.int 0 0),(.int 3 0),(.ref 114),(.bool true),(.int 181 0),(.ref 115),.none,.none,.none,(.ref 116),(.int 322 0),(.int 101 0),(.str "/claim/cut.py" 323)]),#[]⟩),
(118,kF bJ9),
(119,kT []),
(121,kT [(.str "_law_one" 328),(.str "_law_other" 329),(.str "_law_due" 330)]),
(122,kT []),
(124,kC "_law_right" 325 "_law_right" 326 327 105 2 3 119 181 120 121 122 123 331 105 332),
(125,kF bK0),
(126,kT []),
(128,kT [(.str "_law_script" 337),(.str "_law_box_here" 338),(.str "_law_names_here" 339),(.str "_law_one" 340),(.str "_law_other" 341)]),
(129,kT []),
(131,kC "law" 334 "law" 335 336 110 1 3 126 181 127 128 129 130 342 110 343),
(132,kF aH1)]
noncomputable def Vw:Program:=view PySem.Challenge.pw_mostrows_k14_joined_and_thinned [1,2,3,4,5,6,7,9,10,11,12,13,14,15,16,17,18,19,20,21]
def cT1:PySem.Challenge.rw_mostrows_k14_joined_and_thinned.wellSaid=true:=by kernel_rfl
def left:LeftO PySem.Challenge.rw_mostrows_k14_joined_and_thinned.row.prog Vw [] (λs=>xlAt Vw [] s&&recOk (RowW.records PySem.Challenge.rw_mostrows_k14_joined_and_thinned.row.toRowW) s) (λs=>[2,3,6,15,17,18,20,21,22,25,26,27,30,31,32,35,36,37,39,40,42,43,44,47,48,49,52,53,54,56,57,59,60,61,63,64,66,67,68,70,71,73,74,75,78,79,80,83,84,85,87,88,90,91,92,94,95,97,98,99,102,103,104,107,108,109,112,113,114,117,118,119,121,122,124,125,126,128,129,131,132].map s.heap.get?) (λw=>(KF w.params).map λp=>some p.2) 1306:=λw=>by kernel_rfl
def cT2(h:WalkO Vw [] (XL Vw []) (InK KF) PySem.Challenge.rw_mostrows_k14_joined_and_thinned.row.toRowW cM1 [] (λf vs=>PySem.call f vs)):PySem.Challenge.rw_mostrows_k14_joined_and_thinned.Holds:=
 holds_law cT1 λe=>holds_open (d:=cM1) (kwd:=[]) left (InK.of λ_=>by kernel_rfl) InK.keeps (λs e=>xl_of s (Bool.and_eq_true_iff.mp e).1) XL.keeps (by kernel_rfl) (by kernel_rfl) (by kernel_rfl) (λs e=>recFacts_of (Bool.and_eq_true_iff.mp e).2) (by kernel_rfl) e (by kernel_rfl) ⟨rfl,rfl,rfl,rfl,rfl,by decide +kernel⟩ (by w_witness2) h
end Hd
namespace L2
open PySem PySem.Spec PyProof.Rows
abbrev Key:=Sum Int Str
noncomputable def aM5:Key->Value->Bool
 | .inl k,v=>Value.isInt k v
 | .inr x,v=>Value.isStrOf x v
noncomputable def cT3(w:World):Key->Int
 | .inl k=>hashInt k
 | .inr x=>hashStr w x
def bT:∀ {k:Key} {v:Value},aM5 k v=true->(∃ i t,k=Sum.inl i/\v=Value.int i t)\/(∃ x t,k=Sum.inr x/\v=Value.str x t)
 | .inl i,v,h=>by
   obtain⟨t,e⟩:=Value.isInt_shape (k:=i) (v:=v) h;exact .inl ⟨i,t,rfl,e⟩
 | .inr x,v,h=>by
   obtain⟨t,e⟩:=Value.isStrOf_shape (x:=x) (v:=v) h;exact .inr ⟨x,t,rfl,e⟩
def aS1(i:Int)(t:Tok):aM5 (.inl i) (.int i t)=true:=by simp[aM5,Value.isInt]
def aS2(x:Str)(t:Tok):aM5 (.inr x) (.str x t)=true:=by simp[aM5,Value.isStrOf]
def cA7(a b:Int):decide ((Sum.inl a:Key)=Sum.inl b)=(a==b):=by
 by_cases e:a=b;subst e;simp;have h:¬ (Sum.inl a:Key)=Sum.inl b:=λq=>e (Sum.inl.inj q);rw[a2M h];exact(beq_eq_false_iff_ne.mpr e).symm
def cA8(a b:Str):decide ((Sum.inr a:Key)=Sum.inr b)=decide (a=b):=by
 by_cases e:a=b;subst e;simp;have h:¬ (Sum.inr a:Key)=Sum.inr b:=λq=>e (Sum.inr.inj q);rw[a2M h,a2M e]
def cA9(a:Int)(b:Str):decide ((Sum.inl a:Key)=Sum.inr b)=false:=a2M (λq=>nomatch q)
def cB0(a:Str)(b:Int):decide ((Sum.inr a:Key)=Sum.inl b)=false:=a2M (λq=>nomatch q)
noncomputable def cH(prog:Program)(w:World):PySem.KeyKind prog w Key where
 is:=aM5
 hash:=cT3 w
 inj:=λv a b ha hb=>by
  rcases bT ha with⟨i,t,rfl,rfl⟩ | ⟨x,t,rfl,rfl⟩
  ·rcases bT hb with⟨j,u,rfl,e⟩ | ⟨y,u,rfl,e⟩
   ·injection e with c _;rw[c]
   ·exact nomatch e
  ·rcases bT hb with⟨j,u,rfl,e⟩ | ⟨y,u,rfl,e⟩;exact nomatch e;injection e with c _;rw[c]
 byValue:=λk v h=>by
  rcases bT h with⟨i,t,rfl,rfl⟩ | ⟨x,t,rfl,rfl⟩<;>rfl
 pyHash:=λd h=>by
  rcases bT d with⟨i,t,rfl,rfl⟩ | ⟨x,t,rfl,rfl⟩;exact wpAny_pyHash_int h;exact wpAny_pyHash_str h
 eqBool:=λf d h=>by
  rcases bT f with⟨i,t,rfl,rfl⟩ | ⟨x,t,rfl,rfl⟩;rcases bT d with⟨j,u,rfl,rfl⟩ | ⟨y,u,rfl,rfl⟩;rw[cA7]at h;exact wpAny_eqBool_int h;rw[cA9]at h;exact SeqAt.EqAt.int_str i t y u _ _ _ _ h;rcases bT d with⟨j,u,rfl,rfl⟩ | ⟨y,u,rfl,rfl⟩;rw[cB0]at h;exact SeqAt.EqAt.str_int x t j u _ _ _ _ h;rw[cA8]at h;exact wpAny_eqBool_str h
 «strs»:=λk x t v h=>by
  rcases bT h with⟨i,u,rfl,e⟩ | ⟨y,u,rfl,e⟩;exact nomatch e;injection e with c _
  subst c;cases v<;>rfl
def aB7(prog:Program)(w:World)(i:Int)(t:Tok):(cH prog w).is (.inl i) (.int i t)=true:=aS1 i t
def aB8(prog:Program)(w:World)(x:Str)(t:Tok):(cH prog w).is (.inr x) (.str x t)=true:=aS2 x t
inductive V where
 | non | bl (b:Bool) | int (i:Int) | str (x:Str) | byt (b:Array UInt8) | flt (b:UInt64) | ref (a:Addr) | ty (n:String)
 deriving DecidableEq
def eH:V->Value->Prop
 | .non,u=>u=Value.none
 | .bl b,u=>u=Value.bool b
 | .int i,u=>∃ t,u=Value.int i t
 | .str x,u=>∃ t,u=Value.str x t
 | .byt b,u=>∃ t,u=Value.bytes b t
 | .flt b,u=>∃ t,u=Value.float b t
 | .ref a,u=>u=Value.ref a
 | .ty n,u=>u=Value.type n
abbrev bW:List V->List Value->Prop:=Paired eH
theorem bW.length{xs:List V}{us:List Value}(r:bW xs us):xs.length=us.length:=Paired.length r
theorem bW.get:∀ {xs:List V} {us:List Value} {i:Nat} {x:V},bW xs us->xs[i]? = some x->∃ u,us[i]? = some u/\eH x u
 | _,_,_,_,.nil,e=>by simp at e
 | _,_,0,_,.cons r _,e=>by simp at e;subst e;exact⟨_,rfl,r⟩
 | _,_,i+1,x,.cons _ t,e=>by
   obtain⟨u,a,b⟩:=bW.get (i:=i) (x:=x) t (by simpa using e);exact⟨u,by simpa using a,b⟩
theorem bW.set{x:V}{u:Value}(r:eH x u):∀ {xs:List V} {us:List Value} (i:Nat),bW xs us->bW (xs.set i x) (us.set i u)
 | _,_,_,.nil=>.nil
 | _,_,0,.cons _ t=>.cons r t
 | _,_,i+1,.cons q t=>.cons q (bW.set r i t)
theorem bW.append:∀ {xs ys:List V} {us ws:List Value},bW xs us->bW ys ws->bW (xs++ys) (us++ws)
 | _,_,_,_,.nil,s=>s
 | _,_,_,_,.cons r t,s=>.cons r (bW.append t s)
theorem bW.take:∀ {xs:List V} {us:List Value} (n:Nat),bW xs us->bW (xs.take n) (us.take n)
 | _,_,0,_=>.nil
 | _,_,_+1,.nil=>.nil
 | _,_,n+1,.cons r t=>.cons r (bW.take n t)
theorem bW.drop:∀ {xs:List V} {us:List Value} (n:Nat),bW xs us->bW (xs.drop n) (us.drop n)
 | _,_,0,r=>r
 | _,_,_+1,.nil=>.nil
 | _,_,n+1,.cons _ t=>bW.drop n t
def bK1:Option V->Option Value->Prop
 | some v,some u=>eH v u
 | none,none=>True
 | _,_=>False
def KV{κ:Type}:List (κ×V)->List (κ×Value)->Prop:=Paired λ(p:κ×V) (q:κ×Value)=>p.1=q.1/\eH p.2 q.2
noncomputable def kV:Key->V
 | .inl i=>.int i
 | .inr x=>.str x
inductive HO where
 | lst (xs:List V)
 | tup (xs:List V)
 | dK (kvs:List (Key×V)) | dT (kvs:List (List Key×V))
 | set (S:Int->Bool) (n:Nat)
 | ins (C dx:Addr) (fs:List (Str×V))
 | own (x:Addr)
 | xd (fs:List (Str×V))
 | met (f x:Addr)
 | rng (lo hi:Int)
 | frz (o:Obj) (u:HO)
 | tbl (ps:Array Value)
 | ext (φ:Heap->Prop)
abbrev Hp:=Addr->Option HO
noncomputable def upd(H:Hp)(a:Addr)(o:HO):Hp:=λb=>if b=a then some o else H b
def aQ{H:Hp}{a:Addr}{o:HO}:upd H a o a=some o:=by unfold upd;rw[a2H rfl]
def aL{H:Hp}{a b:Addr}{o:HO}(h:b≠a):upd H a o b=H b:=by unfold upd;rw[a2I h]
def cM2{H:Hp}{a b:Addr}{o u:HO}(h:H a=some o)(h':H b=some u)(d:o≠u):a≠b:=by
 intro e;subst e;rw[h]at h';exact d (a5a h')
def dE{H:Hp}{a b:Addr}{o:HO}(h:H a=some o)(h':H b=none):a≠b:=by
 intro e;subst e;rw[h]at h';cases h'
def cT4(h:Heap)(a:Addr):Prop:=∃ o,h.get? a=some o/\o.dict=none
section
variable(P:Program)(w:World)
def cL(H:Hp)(h:Heap)(a:Addr):HO->Prop
 | .lst xs=>xs.length<=sizeLine/\∃ (its:List Value) (n:Nat),bW xs its/\h.get? a=some {cls:=.type "list",data:=.seq its.toArray n}
 | .tup xs=>xs.length<=sizeLine/\∃ its:List Value,bW xs its/\IsTup h a its.toArray/\cT4 h a
 | .dK kvs=>kvs.length<=sizeLine/\(a==sysModules)=false/\∃ vs,KV kvs vs/\h.DictOf (cH P w) a vs
 | .dT kvs=>kvs.length<=sizeLine/\(a==sysModules)=false/\∃ xs:List (List Key×Addr×Value),
   Paired (λ(p:List Key×V) (q:List Key×Addr×Value)=>p.1=q.1/\H q.2.1=some (.tup (p.1.map kV))/\eH p.2 q.2.2) kvs xs /\
   ∃ o es ep,h.get? a=some o/\o.ExactDict/\o.data=.dict es ep/\es.toList=xs.map (entryOfKey (tupleKind (cH P w)))/\(xs.map (·.1)).Nodup
 | .set S n=>h.SetOf (intKind P w) a S n
 | .ins C dx fs=>H dx=some (.own a)/\fs.length<=1000/\dx≠a/\h.get? a=some (W.instObj C dx) /\
   ∃ mA,h.Ns1 dx mA/\(∀ f,bK1 (fs.lookup f) (mA f))/\Within mA (fs.map (·.1))
 | .own _=>∃ o,h.get? a=some o
 | .xd fs=>∃ mA,h.Ns1 a mA/\∀ f,bK1 (fs.lookup f) (mA f)
 | .rng lo hi=>∃ t u v,h.get? a=some {cls:=.type "range",data:=.fields #[.int lo t,.int hi u,.int 1 v]}
 | .frz o u=>h.get? a=some o/\cL H h a u
 | .tbl ps=>h.get? a=some {cls:=.none,data:=.fields ps}
 | .met f x=>h.get? a=some (W.methodObj (.ref f) (.ref x))
 | .ext φ=>φ h/\(∃ o,h.get? a=some o)/\∀ b c:Heap,φ b->(∀ o,b.get? a=some o->c.get? a=some o)->φ c
def HOk(H:Hp)(h:Heap):Prop:=∀ a o,H a=some o->cL P w H h a o
end
section
variable{P:Program}{w:World}{H H':Hp}{h h':Heap}{a:Addr}{o:HO}
theorem cL.lt(x:cL P w H h a o):a < h.objs.size:=by
 cases o with
 | lst xs=>obtain⟨_,_,_,_,e⟩:=x;exact a4b e
 | tup xs=>obtain⟨_,_,_,p,_⟩:=x;exact p.lt
 | dK kvs=>obtain⟨_,_,_,_,o,_,_,e,_⟩:=x;exact a4b e
 | dT kvs=>obtain⟨_,_,_,_,o,_,_,e,_⟩:=x;exact a4b e
 | set S n=>obtain⟨o,_,_,_,e,_⟩:=x;exact a4b e
 | ins C dx fs=>obtain⟨_,_,_,e,_⟩:=x;exact a4b e
 | own y=>obtain⟨_,e⟩:=x;exact a4b e
 | xd fs=>obtain⟨_,⟨_,_,_,e,_⟩,_⟩:=x;exact a4b e
 | rng lo hi=>obtain⟨_,_,_,e⟩:=x;exact a4b e
 | frz ob u=>obtain⟨e,_⟩:=x;exact a4b e
 | tbl ps=>exact a4b (show h.get? a=some _ from x)
 | met f y=>exact a4b (show h.get? a=some _ from x)
 | ext φ=>obtain⟨_,⟨_,e⟩,_⟩:=x;exact a4b e
theorem Paired.mapP{c d:Type}{F G:c->d->Prop}:∀ {l₁:List c} {l₂:List d},Paired F l₁ l₂->(∀ a b,F a b->G a b)->Paired G l₁ l₂
 | _,_,.nil,_=>.nil
 | _,_,.cons r t,f=>.cons (f _ _ r) (Paired.mapP t f)
def cL.stay(x:cL P w H h a o)(k:∀ b u,(b=a\/H b=some (.own a))->h.get? b=some u->h'.get? b=some u)
  (j:∀ b,H b=some (.own a)->H' b=some (.own a)) (l:∀ b xs,H b=some (.tup xs)->H' b=some (.tup xs)):cL P w H' h' a o:=by
 induction o with
 | lst xs=>obtain⟨z,its,n,r,e⟩:=x;exact⟨z,its,n,r,k _ _ (.inl rfl) e⟩
 | tup xs=>obtain⟨z,its,r,⟨ob,e,c⟩,⟨g,i,m⟩⟩:=x;exact⟨z,its,r,⟨ob,k _ _ (.inl rfl) e,c⟩,⟨g,k _ _ (.inl rfl) i,m⟩⟩
 | dK kvs=>obtain⟨z,y,vs,r,ob,es,ep,e,c⟩:=x;exact⟨z,y,vs,r,ob,es,ep,k _ _ (.inl rfl) e,c⟩
 | dT kvs=>
   obtain⟨z,y,xs,r,ob,es,ep,e,c⟩:=x;exact⟨z,y,xs,Paired.mapP r λp q z=>⟨z.1,l _ _ z.2.1,z.2.2⟩,ob,es,ep,k _ _ (.inl rfl) e,c⟩
 | set S n=>obtain⟨ob,es,ep,t,e,c⟩:=x;exact⟨ob,es,ep,t,k _ _ (.inl rfl) e,c⟩
 | ins C dx fs=>
   obtain⟨d,z,ne,e,mA,⟨od,es,ep,i,c⟩,r⟩:=x;exact⟨j _ d,z,ne,k _ _ (.inl rfl) e,mA,⟨od,es,ep,k _ _ (.inr d) i,c⟩,r⟩
 | own y=>obtain⟨ob,e⟩:=x;exact⟨ob,k _ _ (.inl rfl) e⟩
 | xd fs=>obtain⟨mA,⟨od,es,ep,e,c⟩,r⟩:=x;exact⟨mA,⟨od,es,ep,k _ _ (.inl rfl) e,c⟩,r⟩
 | rng lo hi=>obtain⟨t,u,v,e⟩:=x;exact⟨t,u,v,k _ _ (.inl rfl) e⟩
 | frz ob u s=>obtain⟨e,q⟩:=x;exact⟨k _ _ (.inl rfl) e,s q⟩
 | tbl ps=>
   have e:h.get? a=some {cls:=.none,data:=.fields ps}:=x;show h'.get? a=some {cls:=.none,data:=.fields ps};exact k a _ (.inl rfl) e
 | met f y=>
   have e:h.get? a=some (W.methodObj (.ref f) (.ref y)):=x;show h'.get? a=some (W.methodObj (.ref f) (.ref y));exact k a _ (.inl rfl) e
 | ext φ=>obtain⟨p,⟨o,e⟩,st⟩:=x;exact⟨st _ _ p λo q=>k _ _ (.inl rfl) q,⟨o,k _ _ (.inl rfl) e⟩,st⟩
theorem HOk.lt(x:HOk P w H h)(e:H a=some o):a < h.objs.size:=(x a o e).lt
theorem HOk.fresh(x:HOk P w H h)(e:h.objs.size<=a):H a=none:=by
 cases q:H a with
 | none=>rfl
 | some u=>exact absurd (a1c (x.lt q) e) (a6f _)
def HOk.kept(x:HOk P w H h)(k:∀ b u,h.get? b=some u->h'.get? b=some u):HOk P w H h':=λa o e=>
 (x a o e).stay (λb u _ q=>k b u q) (λ_ q=>q) λ_ _ q=>q
def HOk.laid(x:HOk P w H h)(k:∀ b u,h.get? b=some u->h'.get? b=some u)(f:h.objs.size<=a)(d:cL P w (upd H a o) h' a o):HOk P w (upd H a o) h':=λb u e=>by
 have hn:=x.fresh f;by_cases hb:b=a;subst hb;rw[aQ]at e;cases e;exact d;rw[aL hb]at e;exact(x b u e).stay (λc v _ q=>k c v q) (λc q=>by rw[aL (dE q hn)];exact q) λc xs q=>by rw[aL (dE q hn)];exact q
end
def Rd(H:Hp)(a:Addr)(u:HO):Prop:=H a=some u\/∃ o,H a=some (.frz o u)
theorem Rd.ok{P:Program}{w:World}{H:Hp}{h:Heap}{a:Addr}{u:HO}(r:Rd H a u)(x:HOk P w H h):cL P w H h a u:=by
 rcases r with r | ⟨o,r⟩;exact x a u r;obtain⟨_,q⟩:=x a _ r;exact q
def Mut:Option HO->Prop
 | some (.lst _)=>True
 | some (.dK _)=>True
 | some (.dT _)=>True
 | some (.set _ _)=>True
 | some (.ins _ _ _)=>True
 | some (.ext _)=>True
 | _=>False
section
variable{P:Program}{w:World}{H:Hp}{h h':Heap}{x e:Addr}{o':HO}
def HOk.write(ok:HOk P w H h)(mu:Mut (H x))(l:e=x\/H e=some (.own x))(k:∀ b u,b≠e->h.get? b=some u->h'.get? b=some u)(i:∃ u,h'.get? e=some u)
  (j:cL P w (upd H x o') h' x o'):HOk P w (upd H x o') h':=λb u q=>by
 have d:∀ c y,H c=some (.own y)->c≠x:=λc y r z=>by subst z;rw[r]at mu;exact mu
 have f:∀ c xs,H c=some (.tup xs)->c≠x:=λc xs r z=>by subst z;rw[r]at mu;exact mu
 by_cases hb:b=x;subst hb;rw[aQ]at q;cases q;exact j;rw[aL hb]at q;by_cases a:b=e
 ·have m:H b=some (.own x):=by
   rcases l with z | z;exact absurd (a.trans z) hb;rw[a];exact z
  rw[q]at m;cases m;obtain⟨v,n⟩:=i;exact⟨v,by rw[a];exact n⟩
 ·refine(ok b u q).stay (λc v g r=>k c v ?_ r) (λc r=>by rw[aL (d c b r)];exact r) λc xs r=>by rw[aL (f c xs r)];exact r
  rcases g with rfl | g;exact a;rintro rfl;rcases l with z | z;exact d c b g z;rw[g]at z;cases z;exact hb rfl
end
structure Un(fs ex:List Addr)(H H':Hp)(h h':Heap):Prop where
 keep:∀ b o,h.get? b=some o->H b=none->b∉fs->b∉ex->h'.get? b=some o
 slot:∀ b o,h.get? b=some o->H b=none->b∈fs->b∉ex->∃ sl,h'.get? b=some {o with slots:=sl}
 free:∀ b o,h.get? b=some o->H b=none->b∉ex->H' b=none
 there:∀ b o,h.get? b=some o->b∉ex->∃ o',h'.get? b=some o'
 tups:∀ b xs,H b=some (.tup xs)->H' b=some (.tup xs)
 frzs:∀ b o u,H b=some (.frz o u)->H' b=some (.frz o u)
 tbls:∀ b ps,H b=some (.tbl ps)->∃ more,H' b=some (.tbl (ps++more))
section
variable{fs fs' ex ex':List Addr}{H H1 H2:Hp}{h h1 h2 h':Heap}{a x e:Addr}{o:HO}
def Un.any(u:Un fs ex H H1 h h1){b:Addr}{ob:Obj}(q:h.get? b=some ob)(n:H b=none)(a:b∉ex):∃ sl,h1.get? b=some {ob with slots:=sl}:=by
 by_cases hb:b∈fs;exact u.slot b ob q n hb a;exact⟨ob.slots,u.keep b ob q n hb a⟩
def Un.kept(k:∀ b u,h.get? b=some u->h'.get? b=some u):Un fs ex H H h h':=
 ⟨λb ob q _ _ _=>k b ob q,λb ob q _ _ _=>⟨ob.slots,k b ob q⟩,λ_ _ _ n _=>n,λb ob q _=>⟨ob,k b ob q⟩,λ_ _ q=>q,λ_ _ _ q=>q,λ_ ps q=>⟨#[],by rw[q];simp⟩⟩
def Un.refl:Un fs ex H H h h:=Un.kept λ_ _ q=>q
def Un.laid(k:∀ b u,h.get? b=some u->h'.get? b=some u)(c:h.objs.size<=a)(hn:H a=none):Un fs ex H (upd H a o) h h' where
 keep:=λb u q _ _ _=>k b u q
 slot:=λb u q _ _ _=>⟨u.slots,k b u q⟩
 free:=λb u q n _=>by rw[aL (a4d (a1c (a4b q) c))];exact n
 there:=λb u q _=>⟨u,k b u q⟩
 tups:=λb xs q=>by rw[aL (dE q hn)];exact q
 frzs:=λb u xs q=>by rw[aL (dE q hn)];exact q
 tbls:=λb ps q=>⟨#[],by rw[aL (dE q hn),q];simp⟩
def Un.write(mu:Mut (H x))(f:e=x\/H e=some (.own x))(k:∀ b u,b≠e->h.get? b=some u->h'.get? b=some u)(c:∃ u,h'.get? e=some u):Un fs ex H (upd H x o) h h':=by
 have d:∀ b,H b=none->b≠x:=λb n z=>by subst z;rw[n]at mu;exact mu
 have hb:∀ b,H b=none->b≠e:=λb n z=>by
  subst z;rcases f with r | r;exact d b n r;rw[n]at r;cases r
 have hm:∀ b u,H b=some u->¬ Mut (some u)->b≠x:=λb u q g z=>by subst z;rw[q]at mu;exact g mu
 refine⟨λb u q n _ _=>k b u (hb b n) q,λb u q n _ _=>⟨u.slots,k b u (hb b n) q⟩,λb u q n _=>by rw[aL (d b n)];exact n,λb u q _=>?_,
  λb xs q=>by rw[aL (hm b _ q λz=>z)];exact q,λb u xs q=>by rw[aL (hm b _ q λz=>z)];exact q,λb ps q=>⟨#[],by rw[aL (hm b _ q λz=>z),q];simp⟩⟩
 by_cases a:b=e;subst a;exact c;exact⟨u,k b u a q⟩
end
noncomputable def trk(h:Heap)(H:Hp):List Addr:=(List.range h.objs.size).filter λa=>(H a).isSome
noncomputable def bC3(h:Heap)(H:Hp):Heap:=W.hideAll h (trk h H)
def aS3(h:Heap)(H:Hp):(bC3 h H).objs.size=h.objs.size:=W.hideAll_size _ _
def bC4{h:Heap}{H:Hp}{b:Addr}{o:Obj}(e:h.get? b=some o)(n:H b=none):(bC3 h H).get? b=some o:=
 W.hideAll_get _ e λhm=>by
  have q:(H b).isSome=true:=(List.mem_filter.mp hm).2;rw[n]at q;simp at q
def bO6{h:Heap}{H:Hp}{b:Addr}{o:Obj}(e:(bC3 h H).get? b=some o):h.get? b=some o/\H b=none:=by
 have a:h.get? b=some o:=W.of_hideAll (trk h H) e;refine⟨a,?_⟩;cases q:H b with
 | none=>rfl
 | some x=>
   have hm:b∈trk h H:=List.mem_filter.mpr ⟨a1g.mpr (a4b a),by simp[q]⟩;have z:(bC3 h H).get? b=none:=W.hideAll_none (trk h H) hm;rw[z]at e;cases e
noncomputable def bO7(g h:Heap)(L:Addr):List (Addr×Obj):=(List.range h.objs.size).filterMap λa=>if a=L\/(g.get? a).isSome=true then none else(h.get? a).map λo=>(a,o)
noncomputable def eI(g h:Heap)(L d:Addr):List (Addr×Obj):=(bO7 g h L).filter λp=>decide (p.1≠d)
structure Mod(K:W.Frag)(mg:Str->Option Value)(base:Heap):Prop where
 kin:K.In base
 glob:base.Ns mainGlobals mg
 blt:∃ mb,base.Ns builtinsNs mb/\∀ x:Str,x≠"__name__"->mb x=bootBuiltins x
 nolimit:base.NoLimit
structure Cx where
 prog:Program
 w:World
 K:W.Frag
 mg:Str->Option Value
 base:Heap
 A:Around
 N:List Str
 s₀:Shared
 H₀:Hp
 env:Env
 outer:List Env
 stack:List Env
 ex:List Addr
 fn:Str->Bool
 calm:Bool
 pn:List (Addr×Obj)
 xe:Value->Shared->Prop
noncomputable def frs(l:List Env):List Addr:=l.filterMap (·.frame)
noncomputable abbrev Cx.fs(X:Cx):List Addr:=frs X.outer
def Vis(sc:Scope)(x:Str):Prop:=sc.names.lookup x=some .local\/sc.names.lookup x=some .cell\/sc.names.lookup x=some .free
def Loc(sc:Scope)(x:Str):Prop:=sc.names.lookup x=some .local\/sc.names.lookup x=some .cell
def cT5(env:Env)(h:Heap)(m:Str->Option Value)(x:Str)(u:Value):Prop:=
 (env.kindOf x=some .local/\m x=some u)\/((env.kindOf x=some .cell\/env.kindOf x=some .free)/\∃ c,env.cells.lookup x=some c/\h.IsCell c (some u))
structure Cx.Ok(X:Cx):Prop where
 mod:Mod X.K X.mg X.base
 kind:X.env.scope.kind=.function
 glob:X.env.globals=mainGlobals
 blt:X.env.builtins=builtinsNs
 above:X.s₀.heap.objs.size<=X.env.locals
 inj:∀ x y c,X.env.cells.lookup x=some c->X.env.cells.lookup y=some c->x=y
 has:∀ x,(X.env.kindOf x=some .cell\/X.env.kindOf x=some .free)->∃ c,X.env.cells.lookup x=some c
 cab:∀ x c,X.fn x=true->X.env.cells.lookup x=some c->X.s₀.heap.objs.size<=c
 hd:X.calm=true->X.A.handled=none
 frames:X.A.frames=some X.stack
 stk:X.stack=X.outer\/(X.stack=X.env::X.outer/\X.env.frame=some X.env.locals)
 exf:∀ b∈X.ex,b≠X.env.locals/\∀ x c,X.env.cells.lookup x=some c->c≠b
 bs:∀ b o,X.base.get? b=some o->X.s₀.heap.get? b=some o/\X.H₀ b=none
 bsz:X.base.objs.size<=X.s₀.heap.objs.size
 noex:∀ b o,X.base.get? b=some o->b∉X.ex
 exfs:∀ b∈X.ex,b∉X.fs
 funs:X.s₀.heap.FunFrames X.base X.outer
 frf:∀ b∈X.fs,X.H₀ b=none
structure Inv(X:Cx)(pins:List (Addr×Obj))(σ:List (Option V))(H:Hp)(s:Shared):Prop where
 ok:X.Ok
 os:s.os=X.s₀.os
 bare:AllBare s.gens
 base:Un X.fs X.ex X.H₀ H X.s₀.heap s.heap
 loc:∃ m,s.heap.Ns X.env.locals m/\∀ (i:Nat) (x:Str) (v:V),X.N[i]? = some x->σ[i]? = some (some v)->Vis X.env.scope x->∃ u,eH v u/\cT5 X.env s.heap m x u
 cell:∀ x c,X.env.cells.lookup x=some c->∃ v,s.heap.IsCell c v
 free:H X.env.locals=none
 freeC:∀ x c,X.env.cells.lookup x=some c->H c=none
 pin:∀ p∈X.pn++pins,s.heap.get? p.1=some p.2/\H p.1=none/\p.1≠X.env.locals/\p.1∉X.fs/\∀ v,p.2.data≠.cell v
 hok:HOk X.prog X.w H s.heap
 len:σ.length=X.N.length
section
variable{X:Cx}{pins:List (Addr×Obj)}{σ:List (Option V)}{H H':Hp}{s:Shared}{h':Heap}
def Cx.Ok.nofr(ok:X.Ok){b:Addr}{o:Obj}(e:X.base.get? b=some o):b∉X.fs:=λhb=>by
 have:=(ok.funs.mem hb).1;rw[e]at this;cases this
theorem Inv.bs(I:Inv X pins σ H s):∀ b o,X.base.get? b=some o->s.heap.get? b=some o/\H b=none:=λb o e=>
 ⟨I.base.keep b o (I.ok.bs b o e).1 (I.ok.bs b o e).2 (I.ok.nofr e) (I.ok.noex b o e),I.base.free b o (I.ok.bs b o e).1 (I.ok.bs b o e).2 (I.ok.noex b o e)⟩
def Inv.bk(I:Inv X pins σ H s):∀ b o,X.base.get? b=some o->s.heap.get? b=some o:=λb o e=>(I.bs b o e).1
theorem Inv.mod(I:Inv X pins σ H s):Mod X.K X.mg X.base:=I.ok.mod
def Inv.kIn(I:Inv X pins σ H s):X.K.In s.heap:=I.ok.mod.kin.keeps I.bk
theorem Inv.lt(I:Inv X pins σ H s):X.env.locals < s.heap.objs.size:=let ⟨_,hn,_⟩:=I.loc;hn.lt
def Inv.sz(I:Inv X pins σ H s):X.s₀.heap.objs.size<=s.heap.objs.size:=a6b I.ok.above (a2g I.lt)
def Inv.nofs(I:Inv X pins σ H s){a:Addr}(h:s.heap.objs.size<=a):a∉X.fs:=λhb=>by
 obtain⟨_,o,b,_⟩:=I.ok.funs.mem hb;exact absurd (a1c (a4b b) (a6b I.sz h)) (a6f _)
def Inv.cne(I:Inv X pins σ H s):∀ x c,X.env.cells.lookup x=some c->c≠X.env.locals:=λx c e z=>by
 obtain⟨v,o,d,hd⟩:=I.cell x c e;obtain⟨m,⟨o',es,ep,a,b,_⟩,_⟩:=I.loc;rw[z,a]at d;cases d;rw[b]at hd;cases hd
theorem Inv.funs(I:Inv X pins σ H s):s.heap.FunFrames X.base X.outer:=by
 have all:∀ (l:List Env),(∀ b∈frs l,b∈X.fs)->X.s₀.heap.FunFrames X.base l->s.heap.FunFrames X.base l:=by
  intro l
  induction l with
  | nil=>intro _ _;trivial
  | cons env r d=>
    intro hs f;obtain⟨g,⟨L,o,a,hn,h,hd⟩,i⟩:=f;have c:L∈X.fs:=hs L (by unfold frs;rw[a8g,a];exact a3a);obtain⟨sl,e⟩:=I.base.slot L o h (I.ok.frf L c) c λz=>I.ok.exfs L z c;exact⟨g,⟨L,_,a,hn,e,hd⟩,d (λb hb=>hs b (by unfold frs;rw[a8g,a];exact a4a _ hb)) i⟩
 exact all X.outer (λ_ hb=>hb) I.ok.funs
theorem Inv.stack(I:Inv X pins σ H s):s.heap.FunFrames X.base X.stack:=by
 rcases I.ok.stk with e | ⟨e,a⟩;rw[e];exact I.funs;rw[e];obtain⟨m,hn,_⟩:=I.loc;refine .cons (by rw[I.ok.kind];decide) a hn ?_ I.funs;exact Heap.get?_none_of_le (a6b I.ok.bsz I.ok.above)
def Inv.stkSub(I:Inv X pins σ H s):∀ b∈frs X.stack,b∈X.env.locals::X.fs:=λb hb=>by
 rcases I.ok.stk with e | ⟨e,a⟩;rw[e]at hb;exact a4a _ hb;rw[e]at hb;unfold frs at hb;rw[a8g,a]at hb;exact hb
def Inv.stkFree(I:Inv X pins σ H s):∀ b∈frs X.stack,H b=none:=λb hb=>by
 rcases a7b.mp (I.stkSub b hb)with e | hb;rw[e];exact I.free;obtain⟨_,o,a,_⟩:=I.ok.funs.mem hb;exact I.base.free b o a (I.ok.frf b hb) λz=>I.ok.exfs b z hb
def Inv.step{g':Array GenState}{t':Nat}{d':Drawn}{ch:List Addr}(I:Inv X pins σ H s)
  (f:∀ b∈ch,(b∈X.ex\/X.s₀.heap.objs.size<=b)/\b≠X.env.locals/\(∀ x c,X.env.cells.lookup x=some c->c≠b)/\∀ p∈X.pn++pins,p.1≠b)
  (keep:∀ b o,b≠X.env.locals->b∉X.fs->b∉ch->s.heap.get? b=some o->H b=none->h'.get? b=some o)
  (slot:∀ b o,b≠X.env.locals->b∈X.fs->b∉ch->s.heap.get? b=some o->H b=none->∃ sl,h'.get? b=some {o with slots:=sl}) (free:∀ b o,b∉ch->s.heap.get? b=some o->H b=none->H' b=none)
  (there:∀ b o,b∉ch->s.heap.get? b=some o->∃ o',h'.get? b=some o')
  (tups:∀ b xs,H b=some (.tup xs)->H' b=some (.tup xs)) (frzs:∀ b o u,H b=some (.frz o u)->H' b=some (.frz o u)) (tbls:∀ b ps,H b=some (.tbl ps)->∃ more,H' b=some (.tbl (ps++more)))
  (ns:∀ m,s.heap.Ns X.env.locals m->h'.Ns X.env.locals m) (hok:HOk X.prog X.w H' h') (G:AllBare g') :
  Inv X pins σ H' {s with heap:=h',gens:=g',drawn:=d',toks:=t'}:=by
 have A:∀ b o,X.s₀.heap.get? b=some o->b≠X.env.locals:=λb o e=>a4d (a1c (a4b e) I.ok.above);have j:∀ b o,X.s₀.heap.get? b=some o->b∉X.ex->b∉ch:=λb o e a hb=>by
  rcases(f b hb).1 with z | z;exact a z;exact absurd (a1c (a4b e) z) (a6f _)
 have g:∀ x c,X.env.cells.lookup x=some c->∀ v,s.heap.IsCell c v->h'.IsCell c v:=λx c e v ⟨o,y,hd⟩=>by
  have h:c∉ch:=λz=>(f c z).2.2.1 x c e rfl;by_cases D:c∈X.fs;obtain⟨sl,q⟩:=slot c o (I.cne x c e) D h y (I.freeC x c e);exact⟨_,q,hd⟩;exact⟨o,keep c o (I.cne x c e) D h y (I.freeC x c e),hd⟩
 refine⟨I.ok,I.os,G,⟨λb o e n hb a=>?_,λb o e n hb a=>?_,λb o e n a=>?_,λb o e a=>?_,λb xs e=>tups b xs (I.base.tups b xs e),λb o xs e=>frzs b o xs (I.base.frzs b o xs e),λb ps e=>?_⟩,?_,λx c e=>?_,?_,λx c e=>?_,λp E=>?_,hok,I.len⟩;exact keep b o (A b o e) hb (j b o e a) (I.base.keep b o e n hb a) (I.base.free b o e n a);obtain⟨sl,t⟩:=I.base.slot b o e n hb a;obtain⟨C,B⟩:=slot b _ (A b o e) hb (j b o e a) t (I.base.free b o e n a);exact⟨C,B⟩;obtain⟨o',t⟩:=I.base.there b o e a;exact free b o' (j b o e a) t (I.base.free b o e n a);obtain⟨o',t⟩:=I.base.there b o e a;exact there b o' (j b o e a) t;obtain⟨J,t⟩:=I.base.tbls b ps e;obtain⟨K,B⟩:=tbls b _ t;exact⟨J++K,by rw[B,Array.append_assoc]⟩;obtain⟨m,hn,L⟩:=I.loc;refine⟨m,ns m hn,λi x v t B M=>?_⟩;obtain⟨u,r,l⟩:=L i x v t B M;refine⟨u,r,?_⟩;rcases l with l | ⟨k,c,e,z⟩;exact .inl l;exact .inr ⟨k,c,e,g x c e _ z⟩;obtain⟨v,z⟩:=I.cell x c e;exact⟨v,g x c e v z⟩;obtain⟨m,⟨o,_,_,y,_⟩,_⟩:=I.loc;exact free _ o (λz=>(f _ z).2.1 rfl) y I.free;obtain⟨v,o,y,hd⟩:=I.cell x c e;exact free c o (λz=>(f c z).2.2.1 x c e rfl) y (I.freeC x c e);obtain⟨e,n,ne,F,d⟩:=I.pin p E;have h:p.1∉ch:=λz=>(f p.1 z).2.2.2 p E rfl;exact⟨keep p.1 p.2 ne F h e n,free p.1 p.2 h e n,ne,F,d⟩
def Inv.un{t':Nat}(I:Inv X pins σ H s)(u:Un X.fs [] H H' s.heap h')(hok:HOk X.prog X.w H' h'):Inv X pins σ H' {s with heap:=h',toks:=t'}:=by
 obtain⟨m,⟨o,es,ep,f,r⟩,_⟩:=id I.loc;obtain⟨sl,g⟩:=u.any f I.free (by simp);exact I.step (g':=s.gens) (d':=s.drawn) (ch:=[]) (λ_ z=>nomatch z) (λb o _ hb _ e n=>u.keep b o e n hb (by simp)) (λb o _ hb _ e n=>u.slot b o e n hb (by simp)) (λb o _ e n=>u.free b o e n (by simp)) (λb o _ e=>u.there b o e (by simp)) u.tups u.frzs u.tbls (λm' hm=>by
  obtain⟨o',c,d,a,h⟩:=hm;rw[f]at a;cases a;exact⟨_,c,d,g,h⟩) hok I.bare
def Inv.call{g':Array GenState}{t':Nat}{d':Drawn}{ch:List Addr}(I:Inv X pins σ H s)(u:Un (frs X.stack) ch H H' s.heap h')(hok:HOk X.prog X.w H' h')(k:AllBare g')
  (d:∀ b∈ch,(b∈X.ex\/X.s₀.heap.objs.size<=b)/\b≠X.env.locals/\(∀ x c,X.env.cells.lookup x=some c->c≠b)/\∀ p∈X.pn++pins,p.1≠b) :
  Inv X pins σ H' {s with heap:=h',gens:=g',drawn:=d',toks:=t'}:=by
 obtain⟨m,⟨o,es,ep,j,r⟩,_⟩:=id I.loc;obtain⟨sl,g⟩:=u.any j I.free λz=>(d _ z).2.1 rfl;exact I.step (ch:=ch) d (λb o g hb a e n=>u.keep b o e n (λz=>(a7b.mp (I.stkSub b z)).elim g hb) a) (λb o _ _ a e n=>u.any e n a) (λb o a e n=>u.free b o e n a) (λb o a e=>u.there b o e a) u.tups u.frzs u.tbls (λm' hm=>by
  obtain⟨o',h,i,f,l⟩:=hm;rw[j]at f;cases f;exact⟨_,h,i,g,l⟩) hok k
def Inv.turned{t':Nat}{it:Addr}(I:Inv X pins σ H s)(k:∀ b o,b≠it->s.heap.get? b=some o->h'.get? b=some o)(hn:H it=none)(f:it≠X.env.locals)
  (g:it∈X.ex\/X.s₀.heap.objs.size<=it) (h:∀ x c,X.env.cells.lookup x=some c->c≠it) (i:∀ p∈X.pn++pins,p.1≠it):Inv X pins σ H {s with heap:=h',toks:=t'}:=by
 have d:∀ b u,H b=some u->b≠it:=λb u e z=>by rw[z,hn]at e;cases e
 refine I.step (g':=s.gens) (d':=s.drawn) (ch:=[it]) (λb hb=>?_) (λb o _ _ a e _=>k b o (λz=>a (by simp[z])) e) (λb o _ _ a e _=>⟨o.slots,k b o (λz=>a (by simp[z])) e⟩) (λ_ _ _ _ n=>n)
  (λb o a e=>⟨o,k b o (λz=>a (by simp[z])) e⟩) (λ_ _ e=>e) (λ_ _ _ e=>e) (λb ps e=>⟨#[],by rw[e];simp⟩) (λm hm=>?_) (λb u e=>?_) I.bare
 ·have e:b=it:=by simpa using hb
  subst e;exact⟨g,f,h,i⟩
 ·obtain⟨o,es,ep,j,r⟩:=hm;exact⟨o,es,ep,k _ o (a9c f) j,r⟩
 ·refine(I.hok b u e).stay (λc v a q=>k c v ?_ q) (λ_ q=>q) λ_ _ q=>q;rcases a with z | z;rw[z];exact d b u e;exact d c _ z
def Inv.tok(I:Inv X pins σ H s)(t:Nat):Inv X pins σ H {s with toks:=t}:=I.un (h':=s.heap) (t':=t) Un.refl I.hok
theorem Inv.kept{t':Nat}(I:Inv X pins σ H s)(k:∀ b u,s.heap.get? b=some u->h'.get? b=some u):Inv X pins σ H {s with heap:=h',toks:=t'}:=I.un (Un.kept k) (I.hok.kept k)
theorem Inv.laid{a:Addr}{o:HO}{t':Nat}(I:Inv X pins σ H s)(k:∀ b u,s.heap.get? b=some u->h'.get? b=some u)(c:s.heap.objs.size<=a)(d:cL X.prog X.w (upd H a o) h' a o) :
  Inv X pins σ (upd H a o) {s with heap:=h',toks:=t'}:=I.un (Un.laid k c (I.hok.fresh c)) (I.hok.laid k c d)
theorem Inv.write{x e:Addr}{o:HO}{t':Nat}(I:Inv X pins σ H s)(mu:Mut (H x))(d:e=x\/H e=some (.own x))(k:∀ b u,b≠e->s.heap.get? b=some u->h'.get? b=some u)(a:∃ u,h'.get? e=some u)
  (c:cL X.prog X.w (upd H x o) h' x o):Inv X pins σ (upd H x o) {s with heap:=h',toks:=t'}:=I.un (Un.write mu d k a) (I.hok.write mu d k a c)
def Inv.weak{σ':List (Option V)}(I:Inv X pins σ H s)(b:σ'.length=σ.length)(w:∀ (i:Nat) v,σ'[i]? = some (some v)->σ[i]? = some (some v)):Inv X pins σ' H s:=
 ⟨I.ok,I.os,I.bare,I.base,let ⟨m,hn,a⟩:=I.loc;⟨m,hn,λi x v c d e=>a i x v c (w i v d) e⟩,I.cell,I.free,I.freeC,I.pin,I.hok,b.trans I.len⟩
def Inv.pins_of{a:List (Addr×Obj)}(I:Inv X pins σ H s)(h:∀ p∈a,s.heap.get? p.1=some p.2/\H p.1=none/\p.1≠X.env.locals/\p.1∉X.fs/\∀ v,p.2.data≠.cell v):Inv X a σ H s:=
 ⟨I.ok,I.os,I.bare,I.base,I.loc,I.cell,I.free,I.freeC,λp b=>(a3c.mp b).elim (λz=>I.pin p (a3h _ z)) (h p),I.hok,I.len⟩
def aH2{N:List Str}(c:N.Nodup){i j:Nat}{x:Str}(a:N[i]? = some x)(b:N[j]? = some x):i=j:=by
 obtain⟨f,d⟩:=a0a.mp a;obtain⟨g,e⟩:=a0a.mp b;exact(List.getElem_inj c).mp (d.trans e.symm)
def yA{M:Model}{A:Around}{E:Value->Shared->Prop}{i:Nat}{x:Str}{v:V}{u:Value}{Q:Unit->Shared->Prop}(I:Inv X pins σ H s)(hN:X.N.Nodup)(hi:X.N[i]? = some x)(t:Loc X.env.scope x)(r:eH v u)
  (h:∀ s',Inv X pins (σ.set i (some v)) H s'->(∃ a,Heap.SameBut a s.heap s'.heap/\(a=X.env.locals\/X.env.cells.lookup x=some a))->Q () s') (hf:X.fn x=true\/X.env.scope.names.lookup x=some .local:=by first | exact .inl rfl | exact .inr rfl | assumption):wpAny M A (storeName X.env x u) Q E s:=by
 obtain⟨m,hn,hl⟩:=id I.loc;have J:(X.env.scope.kind==.class||(X.env.scope.kind==.module&&X.env.locals != X.env.globals))=false:=by rw[I.ok.kind];rfl
 have D:i < σ.length:=by rw[I.len];exact(a0a.mp hi).1
 have cne:=I.cne;have f:∀ {a:Addr} {h':Heap},(∃ o,s.heap.get? a=some o/\H a=none)->Heap.SameBut a s.heap h'->HOk X.prog X.w H h':=λ{a h'} ha hs b ob e=>by
  obtain⟨_,_,B⟩:=ha;refine(I.hok b ob e).stay (λc R l q=>(hs.2 c ?_).trans q) (λ_ q=>q) λ_ _ q=>q;rintro rfl;rcases l with rfl | l;rw[B]at e;cases e;rw[B]at l;cases l
 rcases t with F | F
 ·refine wpAny_storeName_local F hn (λh' T hs=>?_) J;obtain⟨oL,_,_,U,_⟩:=id hn;refine h _ ⟨I.ok,I.os,I.bare,⟨λb o e n hb t=>?_,λb o e n hb t=>?_,I.base.free,λb o e t=>?_,I.base.tups,I.base.frzs,I.base.tbls⟩,⟨_,T,λj y W g C Y=>?_⟩,λy c e=>?_,I.free,I.freeC,λp Z=>?_,f ⟨oL,U,I.free⟩ hs,by simpa using I.len⟩ ⟨_,hs,.inl rfl⟩;exact(hs.2 b (a4d (a1c (a4b e) I.ok.above))).trans (I.base.keep b o e n hb t);obtain⟨sl,g⟩:=I.base.slot b o e n hb t;exact⟨sl,(hs.2 b (a4d (a1c (a4b e) I.ok.above))).trans g⟩;obtain⟨o',g⟩:=I.base.there b o e t;exact⟨o',(hs.2 b (a4d (a1c (a4b e) I.ok.above))).trans g⟩;by_cases hj:j=i;subst hj;rw[hi]at g;cases g;rw[a0b D]at C;cases C;exact⟨u,r,.inl ⟨F,by simp⟩⟩;rw[a2a (a9c hj)]at C;obtain⟨u',r',q⟩:=hl j y W g C Y;refine⟨u',r',?_⟩;rcases q with⟨k,e⟩ | ⟨k,c,e,z⟩;refine .inl ⟨k,?_⟩;have:y≠x:=λe=>hj (aH2 hN g (e ▸ hi));simp[this,e];exact .inr ⟨k,c,e,z.sameBut hs (cne y c e)⟩;obtain⟨R,z⟩:=I.cell y c e;exact⟨R,z.sameBut hs (cne y c e)⟩;obtain⟨e,n,ne,nf,d⟩:=I.pin p Z;exact⟨(hs.2 p.1 ne).trans e,n,ne,nf,d⟩
 ·have G:X.fn x=true:=by
   rcases hf with z | z;exact z;rw[z]at F;cases F
  obtain⟨c,l⟩:=I.ok.has x (.inl F);obtain⟨R,z⟩:=I.cell x c l;refine wpAny_storeName_cell I.ok.kind F l z (λh' K hs=>?_);obtain⟨oc,L,O⟩:=id z;refine h {s with heap:=h'} ⟨I.ok,I.os,I.bare,⟨λb o e n hb t=>?_,λb o e n hb t=>?_,I.base.free,λb o e t=>?_,I.base.tups,I.base.frzs,I.base.tbls⟩,⟨m,hn.sameBut hs (a9c (cne x c l)),λj y W g C Y=>?_⟩,λy S e=>?_,I.free,I.freeC,λp Z=>?_,f ⟨oc,L,I.freeC x c l⟩ hs,by simpa using I.len⟩ ⟨c,hs,.inr l⟩;exact(hs.2 b (a4d (a1c (a4b e) (I.ok.cab x c G l)))).trans (I.base.keep b o e n hb t);obtain⟨sl,g⟩:=I.base.slot b o e n hb t;exact⟨sl,(hs.2 b (a4d (a1c (a4b e) (I.ok.cab x c G l)))).trans g⟩;obtain⟨o',g⟩:=I.base.there b o e t;exact⟨o',(hs.2 b (a4d (a1c (a4b e) (I.ok.cab x c G l)))).trans g⟩;by_cases hj:j=i;subst hj;rw[hi]at g;cases g;rw[a0b D]at C;cases C;exact⟨u,r,.inr ⟨.inl F,c,l,K⟩⟩;rw[a2a (a9c hj)]at C;obtain⟨u',r',q⟩:=hl j y W g C Y;refine⟨u',r',?_⟩;rcases q with q | ⟨k,S,e,z'⟩;exact .inl q;refine .inr ⟨k,S,e,z'.sameBut hs ?_⟩;rintro rfl;exact hj (aH2 hN g (I.ok.inj _ _ _ e l ▸ hi));by_cases P:S=c;subst P;exact⟨_,K⟩;obtain⟨w2,z2⟩:=I.cell y S e;exact⟨w2,z2.sameBut hs P⟩;obtain⟨e,n,ne,nf,d⟩:=I.pin p Z;refine⟨(hs.2 p.1 ?_).trans e,n,ne,nf,d⟩;intro q;rw[q,L]at e;have q':oc=p.2:=a5a e;exact d R (by rw[← q'];exact O)
def aH3{M:Model}{A:Around}{E:Value->Shared->Prop}{i:Nat}{x:Str}{v:V}{u:Value}{Q:Unit->Shared->Prop}(I:Inv X pins σ H s)(a:X.N.Nodup)(hi:X.N[i]? = some x)(b:Loc X.env.scope x)(r:eH v u)
  (h:∀ s',Inv X pins (σ.set i (some v)) H s'->Q () s') (c:X.fn x=true\/X.env.scope.names.lookup x=some .local:=by first | exact .inl rfl | exact .inr rfl | assumption):wpAny M A (storeName X.env x u) Q E s:=
 yA I a hi b r (λs' d _=>h s' d) c
def Inv.call'{s':Shared}{ch:List Addr}(I:Inv X pins σ H s)(d:s'.os=s.os)(u:Un (frs X.stack) ch H H' s.heap s'.heap)(hok:HOk X.prog X.w H' s'.heap)(f:AllBare s'.gens)
  (a:∀ b∈ch,(b∈X.ex\/X.s₀.heap.objs.size<=b)/\b≠X.env.locals/\(∀ x c,X.env.cells.lookup x=some c->c≠b)/\∀ p∈X.pn++pins,p.1≠b):Inv X pins σ H' s':=by
 obtain⟨h',g',d',t',o'⟩:=s';have e:o'=s.os:=d;subst e;exact I.call (g':=g') (t':=t') (d':=d') u hok f a
end
abbrev XK:=Value->Option Addr->Hp->Prop
abbrev St:=List (Option V)
abbrev VK:=V->Hp->Prop
abbrev TE:=St->Hp->VK->Prop
abbrev TT:=St->Hp->(Bool->Hp->Prop)->Prop
abbrev TA:=St->Hp->(List V->Hp->Prop)->Prop
structure Ends where
 nx:St->Hp->Prop
 rt:VK
 bk:St->Hp->Prop:=λ_ _=>False
 ct:St->Hp->Prop:=λ_ _=>False
abbrev TS:=Ends->St->Hp->Prop
def EP(X:Cx)(pins:List (Addr×Obj))(σ:St)(Q:VK)(u:Value)(s':Shared):Prop:=∃ v H',Inv X pins σ H' s'/\eH v u/\Q v H'
def TP(X:Cx)(pins:List (Addr×Obj))(σ:St)(Q:Bool->Hp->Prop)(b:Bool)(s':Shared):Prop:=∃ H',Inv X pins σ H' s'/\Q b H'
def AP(X:Cx)(pins:List (Addr×Obj))(σ:St)(Q:List V->Hp->Prop)(us:List Value)(s':Shared):Prop:=∃ vs H',Inv X pins σ H' s'/\bW vs us/\Q vs H'
def SP(X:Cx)(pins:List (Addr×Obj))(D:Ends)(f:Flow)(s':Shared):Prop:=
 match f with
 | .next=>∃ σ' H',Inv X pins σ' H' s'/\D.nx σ' H'
 | .brk=>∃ σ' H',Inv X pins σ' H' s'/\D.bk σ' H'
 | .cont=>∃ σ' H',Inv X pins σ' H' s'/\D.ct σ' H'
 | .ret u=>∃ v σ' H',Inv X pins σ' H' s'/\eH v u/\D.rt v H'
def PE(X:Cx)(e:Expr)(t:TE):Prop:=
 ∀ (pins:List (Addr×Obj)) (s:Shared) (σ:St) (H:Hp) (Q:VK),Inv X pins σ H s->t σ H Q->wpAny (model X.prog X.w) X.A (eval e X.env) (EP X pins σ Q) X.xe s
def PT(X:Cx)(e:Expr)(t:TT):Prop:=
 ∀ (pins:List (Addr×Obj)) (s:Shared) (σ:St) (H:Hp) (Q:Bool->Hp->Prop),Inv X pins σ H s->t σ H Q->wpAny (model X.prog X.w) X.A (isTrue e X.env (eval e X.env)) (TP X pins σ Q) X.xe s
def PW(X:Cx)(e:Expr)(t:TT):Prop:=
 ∀ (a:Sem Value) (pins:List (Addr×Obj)) (s:Shared) (σ:St) (H:Hp) (Q:Bool->Hp->Prop),Inv X pins σ H s->t σ H Q->wpAny (model X.prog X.w) X.A (isTrue e X.env a) (TP X pins σ Q) X.xe s
def PW.pt{X:Cx}{e:Expr}{t:TT}(h:PW X e t):PT X e t:=h _
def PA(X:Cx)(es:List Expr)(t:TA):Prop:=
 ∀ (a:Pos) (pins:List (Addr×Obj)) (s:Shared) (σ:St) (H:Hp) (Q:List V->Hp->Prop),Inv X pins σ H s->t σ H Q->wpAny (model X.prog X.w) X.A (spliced (backTo a (starEach es X.env))) (AP X pins σ Q) X.xe s
def PS(X:Cx)(st:Stmt)(t:TS):Prop:=
 ∀ (pins:List (Addr×Obj)) (s:Shared) (σ:St) (H:Hp) (D:Ends),Inv X pins σ H s->t D σ H->wpAny (model X.prog X.w) X.A (exec st X.env) (SP X pins D) X.xe s
def PSs(X:Cx)(st:List Stmt)(t:TS):Prop:=
 ∀ (pins:List (Addr×Obj)) (s:Shared) (σ:St) (H:Hp) (D:Ends),Inv X pins σ H s->t D σ H->wpAny (model X.prog X.w) X.A (execs st X.env) (SP X pins D) X.xe s
def thn{b:Type}{t:Sem b}{Q c:b->Shared->Prop}{M:Model}{A:Around}{E:Value->Shared->Prop}{s:Shared}(h:wpAny M A t Q E s)(d:∀ a s,Q a s->c a s):wpAny M A t c E s:=a2Q h d λ_ _ x=>x
section
variable{X:Cx}
def bB9(i:Nat):TE:=λσ H Q=>∃ v,σ[i]? = some (some v)/\Q v H
def tC(v:V):TE:=λ_ H Q=>Q v H
def cB1{i:Nat}{x:Str}{pos:Pos}(g:X.N[i]? = some x)(j:Vis X.env.scope x)(hd:(x==("__debug__":Str))=false:=by decide)(d:(x==("__classdict__":Str))=false:=by decide):PE X (.Name x pos) (bB9 i):=by
 intro pins s σ H Q I h;obtain⟨v,e,h⟩:=h;obtain⟨m,hn,k⟩:=I.loc;obtain⟨u,r,l⟩:=k i x v g e j;have fin:EP X pins σ Q u s:=⟨v,H,I,r,h⟩;rcases l with⟨b,hm⟩ | ⟨b,c,f,a⟩;exact wpAny_Name (wpAny_loadName_local I.ok.kind b hn hm fin) hd;rcases b with b | b;exact wpAny_Name (wpAny_loadName_cell I.ok.kind b f a fin) hd;exact wpAny_Name (wpAny_loadName_free I.ok.kind b f a fin d) hd
def cB2{i j pos}:PE X (.Constant (.int i) j pos) (tC (.int i)):=λ_ _ _ H _ I h=>wpAny_Constant_int ⟨.int i,H,I.tok _,⟨_,rfl⟩,h⟩
def cM3{b j pos}:PE X (.Constant (.bool b) j pos) (tC (.bl b)):=λ_ _ _ H _ I h=>Constant_bool ⟨.bl b,H,I,rfl,h⟩
def bK2{x j pos}:PE X (.Constant (.str x) j pos) (tC (.str x)):=λ_ _ _ H _ I h=>Calls.Constant_str ⟨.str x,H,I.tok _,⟨_,rfl⟩,h⟩
def Gl(X:Cx)(x:Str):Prop:=X.env.kindOf x=some .globalImplicit
def bO8{E:Value->Shared->Prop}{pins:List (Addr×Obj)}{s:Shared}{σ:St}{H:Hp}{x:Str}{u:Value}{pos:Pos}{Q:Value->Shared->Prop}(I:Inv X pins σ H s)(a:Gl X x)(hm:X.mg x=some u)(h:Q u s)
  (hd:(x==("__debug__":Str))=false:=by decide):wpAny (model X.prog X.w) X.A (eval (.Name x pos) X.env) Q E s:=
 Calls.Name_function_global I.ok.kind a (Calls.loadGlobal_global (by rw[I.ok.glob];exact I.mod.glob.keeps I.bk) hm h) hd
def qK{E:Value->Shared->Prop}{pins:List (Addr×Obj)}{s:Shared}{σ:St}{H:Hp}{x:Str}{u:Value}{pos:Pos}{Q:Value->Shared->Prop}(I:Inv X pins σ H s)(a:Gl X x)(hm:X.mg x=none)(b:bootBuiltins x=some u)(h:Q u s)
  (hn:x≠"__name__":=by decide) (hd:(x==("__debug__":Str))=false:=by decide):wpAny (model X.prog X.w) X.A (eval (.Name x pos) X.env) Q E s:=by
 obtain⟨mb,c,d⟩:=I.mod.blt;exact Calls.Name_function_global I.ok.kind a (Calls.loadGlobal_builtin (by rw[I.ok.glob];exact I.mod.glob.keeps I.bk) hm (by rw[I.ok.blt];exact c.keeps I.bk) ((d x hn).trans b) h) hd
def oA{x:Str}{v:V}{u:Value}{pos:Pos}(a:Gl X x)(hm:X.mg x=none)(b:bootBuiltins x=some u)(r:eH v u)(hn:x≠"__name__":=by decide)(hd:(x==("__debug__":Str))=false:=by decide):PE X (.Name x pos) (tC v):=
 λ_ _ _ H _ I h=>qK I a hm b ⟨v,H,I,r,h⟩ hn hd
variable{a b:Expr}{ta tb:TE}{pos:Pos}
def tB(t:TE):TT:=λσ H Q=>t σ H λx a=>∃ c,x=.bl c/\Q c a
def cB3{e:Expr}{t:TE}(h:PE X e t)(b:∀ a,isTrue e X.env a=(do let v ← a;standAt e.pos;holding [v] (truthy v)):=by intro _;rfl):PT X e (tB t):=by
 intro pins s σ H Q I c;refine isTrue_plain (thn (h pins s σ H _ I c) λv s1 Z0=>?_) (b _);obtain⟨x,f,g,i,j⟩:=Z0;obtain⟨d,rfl,q⟩:=j;cases i;exact a2Z ⟨f,g,q⟩
variable{tA tB':TT}{eI:List Expr}
def cT6(t u:TT):TT:=λσ H Q=>t σ H λc a=>if c=true then u σ a Q else Q false a
def tOr(t u:TT):TT:=λσ H Q=>t σ H λc a=>if c=true then Q true a else u σ a Q
def cT7(t:TT):TT:=λσ H Q=>t σ H λc a=>Q (!c) a
def bO9(ha:PT X a tA):PW X (.BoolOp .And [a] pos) tA:=by
 intro b pins s σ H Q I h;refine isTrue_and (thn (ha pins s σ H Q I h) λc s1 e=>?_);cases c with
 | true=>exact isTrue_and_nil e
 | false=>exact e
def cB4(ha:PT X a tA):PW X (.BoolOp .Or [a] pos) tA:=by
 intro b pins s σ H Q I h;refine isTrue_or (thn (ha pins s σ H Q I h) λc s1 e=>?_);cases c with
 | false=>exact isTrue_or_nil e
 | true=>exact e
def cB5(ha:PT X a tA)(hb:PW X (.BoolOp .And (b::eI) pos) tB'):PW X (.BoolOp .And (a::b::eI) pos) (cT6 tA tB'):=by
 intro g pins s σ H Q I h;refine isTrue_and (thn (ha pins s σ H _ I h) λc s1 Z0=>?_);obtain⟨d,e,f⟩:=Z0;cases c with
 | true=>exact hb g pins s1 σ d Q e f
 | false=>exact⟨d,e,f⟩
def cM4(ha:PT X a tA)(hb:PW X (.BoolOp .Or (b::eI) pos) tB'):PW X (.BoolOp .Or (a::b::eI) pos) (tOr tA tB'):=by
 intro g pins s σ H Q I h;refine isTrue_or (thn (ha pins s σ H _ I h) λc s1 Z0=>?_);obtain⟨d,e,f⟩:=Z0;cases c with
 | true=>exact⟨d,e,f⟩
 | false=>exact hb g pins s1 σ d Q e f
def cB6(ha:PT X a tA):PT X (.UnaryOp .Not a pos) (cT7 tA):=by
 intro pins s σ H Q I h;exact isTrue_not (ha pins s σ H (λc b=>Q (!c) b) I h)
def cM5(ta tb:TE):TE:=λσ H Q=>ta σ H λx a=>∃ c,x=.bl c/\if c=true then tb σ a Q else Q (.bl false) a
def cM6(ta:TE):TE:=λσ H Q=>ta σ H λx a=>∃ c,x=.bl c/\Q (.bl (!c)) a
def cB7{op}{t:TE}(h:PE X a t):PE X (.BoolOp op [a] pos) t:=λpins s σ H Q I b=>BoolOp_one (h pins s σ H Q I b)
def cB8(ha:PE X a ta)(hb:PE X (.BoolOp .And (b::eI) pos) tb):PE X (.BoolOp .And (a::b::eI) pos) (cM5 ta tb):=by
 intro pins s σ H Q I h;refine BoolOp_and (thn (ha pins s σ H _ I h) λv s1 Z0=>?_);obtain⟨x,e,f,g,d⟩:=Z0;obtain⟨c,rfl,d⟩:=d;cases g;refine a2Z ?_;cases c with
 | true=>exact hb pins s1 σ e Q f d
 | false=>exact⟨.bl false,e,f,rfl,d⟩
def cB9(ha:PE X a ta):PE X (.UnaryOp .Not a pos) (cM6 ta):=by
 intro pins s σ H Q I h;refine UnaryOp_ (thn (ha pins s σ H _ I h) λv s1 Z0=>?_);obtain⟨x,d,e,f,b⟩:=Z0;obtain⟨c,rfl,b⟩:=b;cases f;exact not_of (a2Z ⟨.bl (!c),d,e,rfl,b⟩)
end
def SqL(K:W.Frag)(H:Hp)(a:Addr)(xs:List V):Prop:=
 Rd H a (.lst xs) \/
  ∃ (o:Obj) (its:Array Value) (n:Nat),K.lookup a=some o/\o.cls=.type "list"/\o.dict=none/\o.data=.seq its n/\its.size<=sizeLine/\bW xs its.toList
def SqT(K:W.Frag)(H:Hp)(a:Addr)(xs:List V):Prop:=
 Rd H a (.tup xs) \/
  ∃ (o:Obj) (its:Array Value) (n:Nat),K.lookup a=some o/\o.cls=.type "tuple"/\o.data=.seq its n/\its.size<=sizeLine/\bW xs its.toList
noncomputable def cT8:Value->Option V
 | .none=>some .non
 | .bool b=>some (.bl b)
 | .int i _=>some (.int i)
 | .str x _=>some (.str x)
 | .bytes b _=>some (.byt b)
 | .float b _=>some (.flt b)
 | .ref a=>some (.ref a)
 | .type n=>some (.ty n)
 | _=>none
def eH.abs{x:V}{u:Value}(r:eH x u):cT8 u=some x:=by
 cases x with
 | non=>cases r;rfl
 | bl _=>cases r;rfl
 | int _=>obtain⟨t,rfl⟩:=r;rfl
 | str _=>obtain⟨t,rfl⟩:=r;rfl
 | byt _=>obtain⟨t,rfl⟩:=r;rfl
 | flt _=>obtain⟨t,rfl⟩:=r;rfl
 | ref _=>cases r;rfl
 | ty _=>cases r;rfl
def eH.inj{x y:V}{u:Value}(r:eH x u)(q:eH y u):x=y:=a5a (r.abs.symm.trans q.abs)
theorem bW.inj:∀ {xs ys:List V} {us:List Value},bW xs us->bW ys us->xs=ys
 | _,_,_,.nil,.nil=>rfl
 | _,_,_,.cons r t,.cons a b=>by rw[r.inj a,bW.inj t b]
section
variable{X:Cx}{pins:List (Addr×Obj)}{σ:St}{H:Hp}{s:Shared}{a:Addr}{xs ys:List V}
def SqL.of{K:W.Frag}(h:H a=some (.lst xs)):SqL K H a xs:=.inl (.inl h)
def SqT.of{K:W.Frag}(h:H a=some (.tup xs)):SqT K H a xs:=.inl (.inl h)
def Inv.list(I:Inv X pins σ H s)(h:SqL X.K H a xs):∃ its:List Value,bW xs its/\PlainL s.heap a its.toArray/\xs.length<=sizeLine:=by
 rcases h with h | ⟨o,its,n,b,c,hd,hs,d,r⟩;obtain⟨z,its,n,r,e⟩:=h.ok I.hok;exact⟨its,r,⟨_,n,e,rfl,rfl,rfl⟩,z⟩;refine⟨its.toList,r,⟨o,n,I.kIn a o b,c,hd,by simpa using hs⟩,?_⟩;have e:=r.length;simp only[Array.length_toList]at e;lia
def Inv.tuple(I:Inv X pins σ H s)(h:SqT X.K H a xs):∃ its:List Value,bW xs its/\IsTup s.heap a its.toArray/\xs.length<=sizeLine:=by
 rcases h with h | ⟨o,its,n,b,c,hs,d,r⟩;obtain⟨z,its,r,p,_⟩:=h.ok I.hok;exact⟨its,r,p,z⟩;refine⟨its.toList,r,⟨o,I.kIn a o b,c,n,by simpa using hs⟩,?_⟩;have e:=r.length;simp only[Array.length_toList]at e;lia
def Inv.list_inj(I:Inv X pins σ H s)(h:SqL X.K H a xs)(h':SqL X.K H a ys):xs=ys:=by
 obtain⟨its,r,⟨o,n,e,_,_,d⟩,_⟩:=I.list h;obtain⟨b,f,⟨o',i,c,_,_,d'⟩,_⟩:=I.list h';rw[e]at c;cases c;rw[d]at d';injection d' with g _
 have:its=b:=by simpa using a2Y Array.toList g
 subst this;exact r.inj f
def Inv.tuple_inj(I:Inv X pins σ H s)(h:SqT X.K H a xs)(h':SqT X.K H a ys):xs=ys:=by
 obtain⟨its,r,⟨o,e,_,n,d⟩,_⟩:=I.tuple h;obtain⟨b,f,⟨o',c,_,i,d'⟩,_⟩:=I.tuple h';rw[e]at c;cases c;rw[d]at d';injection d' with g _
 have:its=b:=by simpa using a2Y Array.toList g
 subst this;exact r.inj f
end
noncomputable abbrev Cx.wish(X:Cx)(E:Value->Shared->Prop):Cx:={X with xe:=E}
noncomputable abbrev Cx.nox(X:Cx):Cx:=X.wish λ_ _=>False
theorem Cx.Ok.wish{X:Cx}(ok:X.Ok)(E:Value->Shared->Prop):(X.wish E).Ok:=
 ⟨ok.mod,ok.kind,ok.glob,ok.blt,ok.above,ok.inj,ok.has,ok.cab,ok.hd,ok.frames,ok.stk,ok.exf,ok.bs,ok.bsz,ok.noex,ok.exfs,ok.funs,ok.frf⟩
def Cx.Ok.unwish{X:Cx}{E:Value->Shared->Prop}(ok:(X.wish E).Ok):X.Ok:=
 ⟨ok.mod,ok.kind,ok.glob,ok.blt,ok.above,ok.inj,ok.has,ok.cab,ok.hd,ok.frames,ok.stk,ok.exf,ok.bs,ok.bsz,ok.noex,ok.exfs,ok.funs,ok.frf⟩
section
variable{X:Cx}{pins:List (Addr×Obj)}{σ:St}{H:Hp}{s:Shared}{E:Value->Shared->Prop}
theorem Inv.wish(I:Inv X pins σ H s)(E:Value->Shared->Prop):Inv (X.wish E) pins σ H s:=⟨I.ok.wish E,I.os,I.bare,I.base,I.loc,I.cell,I.free,I.freeC,I.pin,I.hok,I.len⟩
theorem Inv.unwish(I:Inv (X.wish E) pins σ H s):Inv X pins σ H s:=⟨I.ok.unwish,I.os,I.bare,I.base,I.loc,I.cell,I.free,I.freeC,I.pin,I.hok,I.len⟩
theorem SP.unwish{D:Ends}{f:Flow}{s':Shared}(h:SP (X.wish E) pins D f s'):SP X pins D f s':=by
 cases f with
 | next=>obtain⟨σ',H',I,q⟩:=h;exact⟨σ',H',I.unwish,q⟩
 | brk=>obtain⟨σ',H',I,q⟩:=h;exact⟨σ',H',I.unwish,q⟩
 | cont=>obtain⟨σ',H',I,q⟩:=h;exact⟨σ',H',I.unwish,q⟩
 | ret u=>obtain⟨v,σ',H',I,r,q⟩:=h;exact⟨v,σ',H',I.unwish,r,q⟩
theorem PSs.nox{st:List Stmt}{t:TS}(h:PSs X.nox st t):PSs X st t:=λpins s σ H D I a=>
 a2Q (h pins s σ H D (I.wish _) a) (λ_ _ q=>q.unwish) λ_ _ z=>False.elim z
end
section
variable{X:Cx}{st:Stmt}{eI:List Stmt}{t u:TS}{e:Expr}{te:TE}{pos:Pos}
def cM7:TS:=λD σ H=>D.nx σ H
def cC0(t u:TS):TS:=λD σ H=>t {D with nx:=u D} σ H
def bP0:PSs X [] cM7:=λ_ _ σ H _ I h=>wpAny_execs_nil ⟨σ,H,I,h⟩
def wI(a:PS X st t)(b:PSs X eI u):PSs X (st::eI) (cC0 t u):=by
 intro pins s σ H D I h;refine wpAny_execs_cons (thn (a pins s σ H {D with nx:=u D} I h) λf s1 q=>?_);cases f with
 | next=>
   obtain⟨σ',H',c,q⟩:=q;exact b pins s1 σ' H' D c q
 | ret v=>exact q
 | brk=>exact q
 | cont=>exact q
def aB9(a:PS X st t):PSs X [st] t:=by
 intro pins s σ H D I h;refine wpAny_execs_cons (thn (a pins s σ H D I h) λf s1 q=>?_);cases f with
 | next=>exact wpAny_execs_nil q
 | ret v=>exact q
 | brk=>exact q
 | cont=>exact q
def Inv.quiet{pins:List (Addr×Obj)}{σ:St}{H:Hp}{s:Shared}(I:Inv X pins σ H s):interactive X.env=false:=by simp[interactive,I.ok.kind]
def bC5(te:TE):TS:=λD σ H=>te σ H λ_ a=>D.nx σ a
def aS4(a:PE X e te)(hs:swapsWith e none pos.line X.env=pure false:=by rfl):PS X (.Expr e pos) (bC5 te):=by
 intro pins s σ H D I h;exact wpAny_Expr_any (thn (a pins s σ H _ I h) λv s1 ⟨x,b,c,f,d⟩=>⟨σ,b,c,d⟩) I.quiet hs
def cM8(te:TE):TS:=λD σ H=>te σ H D.rt
def bK3(a:PE X e te):PS X (.Return (some e) pos) (cM8 te):=by
 intro pins s σ H D I h;exact wpAny_Return_some (thn (a pins s σ H _ I h) λv s1 ⟨x,b,c,d,f⟩=>⟨x,σ,b,c,d,f⟩)
def cT9(c:TT)(t u:TS):TS:=λD σ H=>c σ H λb a=>if b=true then t D σ a else u D σ a
def cM9{c:Expr}{a b:List Stmt}{e:TT}(j:PT X c e)(ha:PSs X a t)(hb:PSs X b u):PS X (.If c a b pos) (cT9 e t u):=by
 intro pins s σ H D I h;refine wpAny_If (thn (j pins s σ H _ I h) λd s1 Z0=>?_);obtain⟨f,g,i⟩:=Z0;cases d with
 | true=>exact ha pins s1 σ f D g i
 | false=>exact hb pins s1 σ f D g i
end
abbrev TG:=V->St->Hp->(St->Hp->Prop)->Prop
abbrev TGs:=List V->St->Hp->(St->Hp->Prop)->Prop
def PG(X:Cx)(a:Expr)(t:TG):Prop:=
 ∀ (pins:List (Addr×Obj)) (s:Shared) (σ:St) (H:Hp) (v:V) (u:Value) (Q:St->Hp->Prop),Inv X pins σ H s->eH v u->t v σ H Q ->
   wpAny (model X.prog X.w) X.A (assign a X.env u) (λ_ s'=>∃ σ' H',Inv X pins σ' H' s'/\Q σ' H') X.xe s
def PGs(X:Cx)(a:List Expr)(t:TGs):Prop:=
 ∀ (pins:List (Addr×Obj)) (s:Shared) (σ:St) (H:Hp) (vs:List V) (us:List Value) (Q:St->Hp->Prop),Inv X pins σ H s->bW vs us->t vs σ H Q ->
   wpAny (model X.prog X.w) X.A (assignInOrder ((assignEach a X.env).map (·.2)) us) (λ_ s'=>∃ σ' H',Inv X pins σ' H' s'/\Q σ' H') X.xe s
abbrev mT:=V->V->V->Hp->(Hp->Prop)->Prop
def cR2(X:Cx)(t:mT):Prop:=
 ∀ (pins:List (Addr×Obj)) (s:Shared) (σ:St) (H:Hp) (o i v:V) (ov a u:Value) (Q:Hp->Prop),Inv X pins σ H s->eH o ov->eH i a->eH v u->t o i v H Q ->
   wpAny (model X.prog X.w) X.A (setItem ov a u) (λ_ s'=>∃ H',Inv X pins σ H' s'/\Q H') X.xe s
section
variable{X:Cx}{pos:Pos}
def pY(i:Nat):TG:=λv σ H Q=>Q (σ.set i (some v)) H
def bF{i:Nat}{x:Str}(a:X.N.Nodup)(hi:X.N[i]? = some x)(b:Loc X.env.scope x)(c:X.fn x=true\/X.env.scope.names.lookup x=some .local:=by first | exact .inl rfl | exact .inr rfl | assumption):PG X (.Name x pos) (pY i):=by
 intro pins s σ H v u Q I r h;exact wpAny_assign_Name (aH3 I a hi b r (λs' d=>⟨_,H,d,h⟩) c)
def cR3:TGs:=λvs σ H Q=>vs=[]/\Q σ H
def cC1(t:TG)(u:TGs):TGs:=λvs σ H Q=>∃ v r,vs=v::r/\t v σ H λσ' H'=>u r σ' H' Q
def bP1:PGs X [] cR3:=by
 intro pins s σ H vs us Q I r h;obtain⟨e,h⟩:=h;subst e;cases r;exact assignInOrder_nil ⟨σ,H,I,h⟩
def wJ{e:Expr}{es:List Expr}{t:TG}{u:TGs}(b:PG X e t)(c:PGs X es u)
  (hs:(assignEach (e::es) X.env).map (·.2)=assign e X.env::(assignEach es X.env).map (·.2):=by rfl):PGs X (e::es) (cC1 t u):=by
 intro pins s σ H vs us Q I r h;obtain⟨v,k,d,h⟩:=h;subst d;cases r with
 | cons r f=>
   rw[hs];refine assignInOrder_cons (thn (b pins s σ H _ _ _ I r h) λ_ s1 Z0=>?_);obtain⟨a,g,i,j⟩:=Z0;exact c pins s1 a g _ _ Q i f j
def cU0(K:W.Frag)(n:Nat)(t:TGs):TG:=λv σ H Q=>∃ a xs,v=.ref a/\SqT K H a xs/\xs.length=n/\t xs σ H Q
def cC2{es:List Expr}{k:Nat}{t:TGs}{n:Nat}(g:X.calm=true)(h:PGs X es t)
  (hn:(assignEach es X.env).length=n:=by rfl) (c:(assignEach es X.env).findIdx? (·.1)=none:=by rfl):PG X (.Tuple es k pos) (cU0 X.K n t):=by
 intro pins s σ H v u Q I r d;obtain⟨a,xs,i,j,l,d⟩:=d;subst i;cases r;obtain⟨its,f,m,w⟩:=I.tuple j;refine assign_Tuple_tuple (I.ok.hd g) m (by simp[hn,← l,f.length]) c λh' p=>?_;have q:Inv X pins σ H {s with heap:=h'}:=I.kept (t':=s.toks) λb o e=>p b o (a4d (a4b e)) e;exact h pins _ σ H xs _ Q q (by simpa using f) d
def cR4(to a:TE)(t:mT):TG:=λv σ H Q=>to σ H λo b=>a σ b λi c=>t o i v c λd=>Q σ d
def aS5{o i:Expr}{to b:TE}{t:mT}(c:PE X o to)(hi:PE X i b)(hs:cR2 X t)
  (ha:∀ v,assign (.Subscript o i pos) X.env v=(do
   let ov ← holding [v] (eval o X.env)
   let a ← holding [v,ov] (eval i X.env)
   standAt pos
   holding [v,ov,a] (setItem ov a v)
   release [v,ov,a] []):=by intro _;rfl):PG X (.Subscript o i pos) (cR4 to b t):=by
 intro pins s σ H v u Q I r h;rw[ha];refine a2F (a2L (thn (c pins s σ H _ I h) λov s1 Z0=>?_));obtain⟨x,d,e,f,g⟩:=Z0;refine a2F (a2L (thn (hi pins s1 σ d _ e g) λa s2 ⟨y,j,k,l,m⟩=>?_));refine a2F (a3s (a2F (a2L (thn (hs pins s2 σ j x y v ov a u _ k f l r m) λ_ w ⟨n,p,q⟩=>?_))));exact wpAny_release ⟨σ,n,p,q⟩
def bP2(a:TE)(g:TG):TS:=λD σ H=>a σ H λx b=>g x σ b D.nx
def aH4{tg e:Expr}{a:TE}{g:TG}(b:PE X e a)(c:PG X tg g)(hs:swapsWithSole [tg] e pos.line X.env=pure false:=by rfl)(d:swappedStores [tg] e X.env=pure none:=by rfl)
  (f:(assignEach [tg] X.env).map (·.2)=[assign tg X.env]:=by rfl):PS X (.Assign [tg] e pos) (bP2 a g):=by
 intro pins s σ H D I h;refine wpAny_Assign_stores (thn (b pins s σ H _ I h) λv s1 Z0=>?_) hs d;obtain⟨x,i,j,k,l⟩:=Z0;rw[f];exact thn (c pins s1 σ i x v _ j k l) λ_ s2 q=>q
def bK4{i:Nat}{x:Str}{e:Expr}{b:TE}{a:Pos}(c:X.N.Nodup)(hi:X.N[i]? = some x)(d:Loc X.env.scope x)(f:PE X e b)(hs:swapsWith e (some (.Name x a)) pos.line X.env=pure false:=by rfl)(g:X.fn x=true\/X.env.scope.names.lookup x=some .local:=by first | exact .inl rfl | exact .inr rfl | assumption) :
  PS X (.Assign [.Name x a] e pos) (bP2 b (pY i)):=by
 intro pins s σ H D I h;refine wpAny_Assign_Name (thn (f pins s σ H _ I h) λv s1 Z0=>?_) hs;obtain⟨y,j,k,l,m⟩:=Z0;exact aH3 k c hi d l (λs2 n=>⟨_,j,n,m⟩) g
end
section
variable{X:Cx}{pos:Pos}
def aS6(c:TT)(tb:TS):TS:=λD σ H=>∃ W:Nat->St->Hp->Prop,(∃ m,W m σ H)/\∀ m σ H,W m σ H ->
 c σ H λb a=>if b=true then ∃ N:St->Hp->Prop,(∀ σ' H',N σ' H'->∃ m',m' < m/\W m' σ' H')/\tb {D with nx:=N,ct:=N,bk:=D.nx} σ a else D.nx σ a
def bC6{c:Expr}{e:List Stmt}{m:TT}{o:TS}(p:PassesOwn (model X.prog X.w) X.A X.env X.xe)(x:PT X c m)(hb:PSs X e o):PS X (.While c e [] pos) (aS6 m o):=by
 intro pins s σ H D I h;obtain⟨W,⟨y,z⟩,turn⟩:=h;refine wpAny_While (codeAny_whileLoop (λn s'=>∃ σ' H',Inv X pins σ' H' s'/\W n σ' H') ?_ y ⟨σ,H,I,z⟩);rintro n s1 ⟨d,q,B,C⟩;refine a2R p (thn (x pins s1 d q _ B (turn n d q C)) λb s2 Z0=>?_);obtain⟨r,t,i⟩:=Z0;cases b with
 | true=>
   obtain⟨N,u,i⟩:=i;rw[a2H rfl];refine a2R p (thn (hb pins s2 d r _ t i) λf E j=>?_);cases f with
   | next=>
     obtain⟨a,g,k,n3⟩:=j;obtain⟨m',hm,l⟩:=u a g n3;exact⟨m',hm,a,g,k,l⟩
   | cont=>
     obtain⟨a,g,k,n3⟩:=j;obtain⟨m',hm,l⟩:=u a g n3;exact⟨m',hm,a,g,k,l⟩
   | brk=>exact j
   | ret v=>exact j
 | false=>
   rw[a2I a8d];exact wpAny_execs_nil ⟨d,r,t,i⟩
end
structure It where
 go:Nat->Hp->Prop
 yld:Nat->Hp->V->Hp->Prop
 stop:Nat->Hp->Prop
def bC7(X:Cx)(pins:List (Addr×Obj))(H:Hp)(b:Addr):Prop:=
 H b=none/\b≠X.env.locals/\b∉X.fs/\(b∈X.ex\/X.s₀.heap.objs.size<=b)/\(∀ x c,X.env.cells.lookup x=some c->c≠b)/\∀ p∈X.pn++pins,p.1≠b
def Inv.fpOk{X:Cx}{pins:List (Addr×Obj)}{σ:St}{H H':Hp}{s:Shared}{b:Addr}(I:Inv X pins σ H s)(hb:s.heap.objs.size<=b)(hn:H' b=none):bC7 X pins H' b:=by
 refine⟨hn,Nat.ne_of_gt (a1c I.lt hb),I.nofs hb,.inr (a6b I.sz hb),λx c e z=>?_,λp a z=>?_⟩;obtain⟨v,q⟩:=I.cell x c e;exact absurd (a1c q.lt (by rw[z];exact hb)) (a6f _);exact absurd (a1c (a4b (I.pin p a).1) (by rw[z];exact hb)) (a6f _)
structure Turn(P:Program)(w:World)(K:W.Frag)(tg:Expr)(J:It)(fp:List Addr)(it:Addr)(tn:Nat->Heap->Prop):Prop where
 mem:it∈fp
 obj:∀ i h,tn i h->∀ b∈fp,∃ o,h.get? b=some o/\∀ v,o.data≠.cell v
 keep:∀ i h h',tn i h->(∀ b∈fp,∀ o,h.get? b=some o->h'.get? b=some o)->tn i h'
 item:∀ (X:Cx),X.prog=P->X.w=w->X.K=K->X.calm=true->∀ (i:Nat) (pins:List (Addr×Obj)) (s:Shared) (σ:St) (H:Hp) (E:Value->Shared->Prop),Inv X pins σ H s->(∀ b∈fp,bC7 X pins H b)->tn i s.heap->J.go i H ->
  wpAny (model P w) X.A (pyNext (.ref it)) (λr s1=>∃ u,r=some u /\
   wpAny (model P w) X.A (letOwnedTupleGo tg (.ref it) u) (λ_ s2=>∃ x H',Inv X pins σ H' s2/\eH x u/\J.yld i H x H'/\tn (i+1) s2.heap/\∀ b∈fp,H' b=none) E s1) E s
 done:∀ (X:Cx),X.prog=P->X.w=w->X.K=K->X.calm=true->∀ (i:Nat) (pins:List (Addr×Obj)) (s:Shared) (σ:St) (H:Hp) (E:Value->Shared->Prop),Inv X pins σ H s->(∀ b∈fp,bC7 X pins H b)->tn i s.heap->J.stop i H ->
  wpAny (model P w) X.A (pyNext (.ref it)) (λr s1=>r=none/\Inv X pins σ H s1) E s
 self:∀ (A:Around) (i:Nat) (s:Shared) (Q:Value->Shared->Prop) (E:Value->Shared->Prop),tn i s.heap->Q (.ref it) s->wpAny (model P w) A (pyIter (.ref it)) Q E s
abbrev TI:=St->Hp->(It->Hp->Prop)->Prop
def PIE(X:Cx)(pins:List (Addr×Obj))(σ:St)(tg:Expr)(R:It->Hp->Prop)(a:Value)(s2:Shared):Prop:=
 ∃ (it:Addr) (fp:List Addr) (tn:Nat->Heap->Prop) (J:It) (H':Hp),a=.ref it/\Inv X pins σ H' s2/\Turn X.prog X.w X.K tg J fp it tn/\tn 0 s2.heap/\(∀ b∈fp,bC7 X pins H' b)/\R J H'
def PI(X:Cx)(tg iter:Expr)(a:TI):Prop:=
 ∀ (pins:List (Addr×Obj)) (s:Shared) (σ:St) (H:Hp) (R:It->Hp->Prop),Inv X pins σ H s->a σ H R ->
   wpAny (model X.prog X.w) X.A (eval iter X.env) (λv s1=>wpAny (model X.prog X.w) X.A (pyIter v) (PIE X pins σ tg R) X.xe s1) X.xe s
def aS7{M:Model}{A:Around}{E:Value->Shared->Prop}{s:Shared}{tg:Expr}{it:Addr}{u:Value}{o:Obj}{n:String}{vs:Array Value}{Q:Unit->Shared->Prop}(b:s.heap.get? it=some o)(c:o.cls=.type n)(hd:o.data=.fields vs)
  (hn:["enumerate","zip","dict_itemiterator","dict_reverseitemiterator","odict_iterator","itertools.zip_longest","itertools.pairwise"].contains n=false) (a:Q () s):wpAny M A (letOwnedTupleGo tg (.ref it) u) Q E s:=by
 unfold letOwnedTupleGo;cases tg<;>first
  | exact a2G a
  | (cases u<;>first
    | exact a2G a
    | (refine a2F (wpAny_load b ?_)
       rw[c,hd];show wpAny M A (if(["enumerate","zip","dict_itemiterator","dict_reverseitemiterator","odict_iterator","itertools.zip_longest","itertools.pairwise"].contains n&&vs[0]? == some (rawInt _))=true then _ else _) Q E s;rw[a2I (by intro h;rw[hn,Bool.false_and]at h;cases h)];exact a2G a))
noncomputable def Itl(K:W.Frag)(a:Addr):It:=
 ⟨λi H=>∃ xs x,SqL K H a xs/\xs[i]? = some x,λi H x H'=>H'=H/\∀ xs,SqL K H a xs->xs[i]? = some x,λi H=>∃ xs,SqL K H a xs/\xs.length<=i⟩
noncomputable def Itt(K:W.Frag)(a:Addr):It:=
 ⟨λi H=>∃ xs x,SqT K H a xs/\xs[i]? = some x,λi H x H'=>H'=H/\∀ xs,SqT K H a xs->xs[i]? = some x,λi H=>∃ xs,SqT K H a xs/\xs.length<=i⟩
noncomputable def Itr(lo:Int)(n:Nat):It:=⟨λi _=>i < n,λi H x H'=>H'=H/\x=.int (lo+i),λi _=>n<=i⟩
def aS8{P:Program}{w:World}{K:W.Frag}{tg:Expr}(a it:Addr):Turn P w K tg (Itl K a) [it] it (λi h=>h.IsListIter it a i) where
 mem:=by simp
 obj:=λi h st b hb=>by
  have e:b=it:=by simpa using hb
  subst e;obtain⟨o,e,c,d⟩:=st;exact⟨o,e,λv z=>by rw[d]at z;cases z⟩
 keep:=λi h h' st k=>st.at λo e=>k it (by simp) o e
 item:=by
  intro X j l m D i pins s σ H E I f st n;subst j l m;obtain⟨xs,x,g,q⟩:=n;obtain⟨its,r,p,F⟩:=I.list g;obtain⟨u,G,J⟩:=r.get q;obtain⟨t,y,L,A,B,C⟩:=f it (by simp);refine wpAny_pyNext_list_item st p.isList (x:=u) (by simpa using G) λh' st' M=>?_;have N:Inv X pins σ H {s with heap:=h'}:=I.turned (t':=s.toks) (λb o hb e=>(M.2 b hb).trans e) t y A B C;obtain⟨o,e,c,d⟩:=id st';exact⟨u,rfl,aS7 (s:={s with heap:=h'}) e c d (by decide) ⟨x,H,N,J,⟨rfl,λys O=>by rw[I.list_inj O g];exact q⟩,st',λb hb=>(f b hb).1⟩⟩
 done:=by
  intro X j l m D i pins s σ H E I f st n;subst j l m;obtain⟨xs,g,q⟩:=n;obtain⟨its,r,p,F⟩:=I.list g;obtain⟨t,y,L,A,B,C⟩:=f it (by simp);have R:=r.length;exact wpAny_pyNext_list_end (I.ok.hd D) st p.isList (by simp;lia) λh' Q=>⟨rfl,I.turned (t':=s.toks) (λb o hb e=>Q b o hb e) t y A B C⟩
 self:=λ_ _ _ _ _ st h=>wpAny_pyIter_listiter st h
def aM6{P:Program}{w:World}{K:W.Frag}{tg:Expr}(a it:Addr):Turn P w K tg (Itt K a) [it] it (λi h=>h.IsTupleIter it a i) where
 mem:=by simp
 obj:=λi h st b hb=>by
  have e:b=it:=by simpa using hb
  subst e;obtain⟨o,e,c,d⟩:=st;exact⟨o,e,λv z=>by rw[d]at z;cases z⟩
 keep:=λi h h' st k=>st.at λo e=>k it (by simp) o e
 item:=by
  intro X j l m D i pins s σ H E I f st n;subst j l m;obtain⟨xs,x,g,q⟩:=n;obtain⟨its,r,p,F⟩:=I.tuple g;obtain⟨u,G,J⟩:=r.get q;obtain⟨t,y,L,A,B,C⟩:=f it (by simp);refine wpAny_pyNext_tuple_item st (show s.heap.IsTuple a its.toArray from p) (x:=u) (by simpa using G) λh' st' M=>?_;have N:Inv X pins σ H {s with heap:=h'}:=I.turned (t':=s.toks) (λb o hb e=>(M.2 b hb).trans e) t y A B C;obtain⟨o,e,c,d⟩:=id st';exact⟨u,rfl,aS7 (s:={s with heap:=h'}) e c d (by decide) ⟨x,H,N,J,⟨rfl,λys O=>by rw[I.tuple_inj O g];exact q⟩,st',λb hb=>(f b hb).1⟩⟩
 done:=by
  intro X j l m D i pins s σ H E I f st n;subst j l m;obtain⟨xs,g,q⟩:=n;obtain⟨its,r,p,F⟩:=I.tuple g;obtain⟨t,y,L,A,B,C⟩:=f it (by simp);have R:=r.length;exact wpAny_pyNext_tuple_end (I.ok.hd D) st (show s.heap.IsTuple a its.toArray from p) (by simp;lia) λh' Q=>⟨rfl,I.turned (t':=s.toks) (λb o hb e=>Q b o hb e) t y A B C⟩
 self:=λ_ _ _ _ _ st h=>wpAny_pyIter_tupleiter st h
def aM7{P:Program}{w:World}{K:W.Frag}{tg:Expr}(it:Addr)(lo:Int)(n:Nat):Turn P w K tg (Itr lo n) [it] it (λi h=>IsRangeIter h it (lo+(i:Nat)*1) ((n:Int)-(i:Nat)) 1) where
 mem:=by simp
 obj:=λi h st b hb=>by
  have e:b=it:=by simpa using hb
  subst e;exact⟨_,st,λv z=>by
   have u:Data.fields _=Data.cell v:=z;cases u⟩
 keep:=λi h h' st k=>k it (by simp) _ st
 item:=by
  intro X c d f g i pins s σ H E I a st j;subst c d f;obtain⟨l,m,x,p,q,r⟩:=a it (by simp);have W:=Walks.range (prog:=X.prog) (w:=X.w) (I.ok.hd g) it lo 1 n;refine W.item i s _ _ j st λv h' tk y st' A=>?_;obtain⟨t,rfl⟩:=y;have B:Inv X pins σ H {s with heap:=h',toks:=tk}:=I.turned (λb o hb e=>A b o (by simpa using hb) e) l m p q r;refine⟨_,rfl,aS7 (s:={s with heap:=h',toks:=tk}) (n:="range_iterator") st' rfl rfl (by decide) ⟨.int (lo+i),H,B,⟨t,?_⟩,⟨rfl,rfl⟩,st',λb hb=>(a b hb).1⟩⟩;rw[Int.mul_one]
 done:=by
  intro X c d f g i pins s σ H E I a st j;subst c d f;obtain⟨l,m,x,p,q,r⟩:=a it (by simp);exact wpAny_pyNext_range_end (I.ok.hd g) st (by have:n<=i:=j;lia) λh' C=>⟨rfl,I.turned (t':=s.toks) (λb o hb e=>C b o hb e) l m p q r⟩
 self:=λ_ _ _ _ _ st h=>wpAny_pyIter_rangeiter st h
section
variable{X:Cx}{tg:Expr}
def bC8{pins:List (Addr×Obj)}{σ:St}{H:Hp}{s:Shared}{R:It->Hp->Prop}{E:Value->Shared->Prop}{lo hi:Int}{t u v:Tok}{tk:Nat}(I:Inv X pins σ H s)(c:-(2 ^ 62)<=lo)(d:lo < 2 ^ 62)(f:-(2 ^ 62)<=hi)(g:hi < 2 ^ 62)
  (q:R (Itr lo (hi-lo).toNat) H):wpAny (model X.prog X.w) X.A (pyIter (.ref s.heap.objs.size)) (PIE X pins σ tg R) E {s with heap:=s.heap.push {cls:=.type "range",data:=.fields #[.int lo t,.int hi u,.int 1 v]},toks:=tk}:=by
 refine wpAny_pyIter_range (IsRange.new ..) (small_one c d f g) ?_;have a:Inv X pins σ H {s with heap:=s.heap.push {cls:=.type "range",data:=.fields #[.int lo t,.int hi u,.int 1 v]},toks:=tk}:=I.kept λb o e=>a6a _ e;refine⟨(s.heap.push {cls:=.type "range",data:=.fields #[.int lo t,.int hi u,.int 1 v]}).objs.size,[(s.heap.push {cls:=.type "range",data:=.fields #[.int lo t,.int hi u,.int 1 v]}).objs.size],_,_,H,rfl,
  a.kept (t':=tk) λb o e=>a6a _ e,aM7 _ lo (hi-lo).toNat,?_,λb hb=>?_,q⟩
 ·have h:lo+((0:Nat):Int)*1=lo:=by simp
  have i:(((hi-lo).toNat:Nat):Int)-((0:Nat):Int)=Builtin.Range.rangeSize lo hi 1:=by rw[rangeSize_one];split<;>lia
  show IsRangeIter _ _ (lo+((0:Nat):Int)*1) ((((hi-lo).toNat:Nat):Int)-((0:Nat):Int)) 1;rw[h,i];exact a3b _ rfl
 ·have e:b=(s.heap.push {cls:=.type "range",data:=.fields #[.int lo t,.int hi u,.int 1 v]}).objs.size:=by simpa using hb
  subst e;exact a.fpOk (a8a _) (a.hok.fresh (a8a _))
def cC3(a:TA):TI:=λσ H R=>a σ H λvs b=>∃ j:Int,vs=[.int j] /\ -(2 ^ 62)<=j/\j < 2 ^ 62/\R (Itr 0 j.toNat) b
def oB{a:Expr}{c:TA}{p pos:Pos}(d:Gl X "range")(hm:X.mg "range"=none)(ha:PA X [a] c)(hs:starEach [a] X.env=[(false,eval a X.env)]:=by rfl):PI X tg (.Call (.Name "range" p) [a] [] pos) (cC3 c):=by
 intro pins s σ H R I h;refine Call_ (qK I d hm boot_range (PyProof.Rows.callWith_type1 (thn (ha pos pins s σ H _ I h) λus s1 Z0=>?_) hs rfl));obtain⟨vs,l,f,g,b⟩:=Z0;obtain⟨j,e,b,i,q⟩:=b;subst e;cases g with
 | cons r k=>
   cases k;obtain⟨t,rfl⟩:=r;exact call_range_1 (bC8 f (by lia) (by lia) b i (by simpa using q))
def cC4(b:TI)(g:TG)(c:TS):TS:=λD σ H=>b σ H λJ d=>∃ W:Nat->Nat->St->Hp->Prop,(∃ m,W 0 m σ d)/\∀ i m σ H,W i m σ H ->
 (J.stop i H/\D.nx σ H)\/(J.go i H/\∃ N:St->Hp->Prop,(∀ σ' H',N σ' H'->∃ m',m' < m/\W (i+1) m' σ' H')/\∀ x H',J.yld i H x H'->g x σ H' λa e=>c {D with nx:=N,ct:=N,bk:=D.nx} a e)
noncomputable def oC(fp:List Addr)(h:Heap):List (Addr×Obj):=fp.filterMap λb=>(h.get? b).map λo=>(b,o)
def iQ{fp:List Addr}{h:Heap}{b:Addr}{o:Obj}(hb:b∈fp)(e:h.get? b=some o):(b,o)∈oC fp h:=List.mem_filterMap.mpr ⟨b,hb,by rw[e];rfl⟩
def aS9{fp:List Addr}{h:Heap}{p:Addr×Obj}(a:p∈oC fp h):p.1∈fp/\h.get? p.1=some p.2:=by
 obtain⟨b,hb,e⟩:=List.mem_filterMap.mp a;cases q:h.get? b with
 | none=>rw[q]at e;cases e
 | some o=>
   rw[q]at e;have c:(b,o)=p:=a5a e;subst c;exact⟨hb,q⟩
def Inv.pinned{pins:List (Addr×Obj)}{σ:St}{H:Hp}{s:Shared}{fp:List Addr}(I:Inv X pins σ H s)(c:∀ b∈fp,bC7 X pins H b)(f:∀ b∈fp,∃ o,s.heap.get? b=some o/\∀ v,o.data≠.cell v):Inv X (pins++oC fp s.heap) σ H s:=
 I.pins_of λp g=>(a3c.mp g).elim (λz=>I.pin p (a4c _ z)) λz=>by
  obtain⟨hb,e⟩:=aS9 z;obtain⟨h,i,j,_⟩:=c p.1 hb;obtain⟨o,a,d⟩:=f p.1 hb;rw[e]at a;cases a;exact⟨e,h,i,j,d⟩
def Inv.unpinned{pins pl:List (Addr×Obj)}{σ:St}{H:Hp}{s:Shared}(I:Inv X (pins++pl) σ H s):Inv X pins σ H s:=I.pins_of λp a=>I.pin p (a4c _ (a3h _ a))
def qL{iter:Expr}{p:List Stmt}{R:TI}{g:TG}{S:TS}{pos:Pos}(z:PassesOwn (model X.prog X.w) X.A X.env X.xe)(U:X.calm=true)(hi:PI X tg iter R)(hg:PG X tg g)(hb:PSs X p S)
  (hs:∀ x,foldedSetIterable iter X.env x=pure x:=by intro _;rfl):PS X (.For tg iter p [] pos) (cC4 R g S):=by
 intro pins s σ H D I h;refine wpAny_For (thn (hi pins s σ H _ I h) λv s1 h1=>thn h1 λitv s2 h2=>?_) hs;obtain⟨it,fp,tn,J,H2,e,I2,T,G,V,W,⟨m0,w0⟩,turn⟩:=h2;subst e
 -- Y stays true of K q objects through K loop
 have c:∀ {H':Hp},(∀ b∈fp,H' b=none)->∀ b∈fp,bC7 X pins H' b:=λhn b hb=>⟨hn b hb,(V b hb).2⟩;refine codeAny_forLoop_any (λn s'=>∃ i σ' H',Inv X pins σ' H' s'/\tn i s'.heap/\(∀ b∈fp,H' b=none)/\W i n σ' H') ?_ m0 ⟨0,σ,H2,I2,G,λb hb=>(V b hb).1,w0⟩;rintro n Z ⟨i,j,F,I3,B,C,w3⟩;rcases turn i n j F w3 with⟨stop,qn⟩ | ⟨go,N,hN,step⟩
 ·refine a2R z (thn (T.done X rfl rfl rfl U i pins Z j F X.xe I3 (c C) B stop) λr s4 Z0=>?_);obtain⟨L,I4⟩:=Z0;subst L;exact wpAny_execs_nil ⟨j,F,I4,qn⟩
 ·refine a2R z (thn (T.item X rfl rfl rfl U i pins Z j F X.xe I3 (c C) B go) λr s4 Z0=>?_);obtain⟨u,L,h4⟩:=Z0;subst L;refine a2R z (thn h4 λ_ s5 ⟨x,H5,I5,r5,y5,y,M⟩=>?_);have O:=I5.pinned (c M) (T.obj _ _ y);refine a2R z (thn (hg _ s5 j H5 x u _ O r5 (step x H5 y5)) λ_ s6 ⟨P,H6,I6,q6⟩=>?_);refine a2R z (thn (hb _ s6 P H6 _ I6 q6) λf Q t=>?_);have again:∀ {a:St} {k:Hp},Inv X (pins++oC fp s5.heap) a k Q->N a k->∃ m,m < n/\∃ i σ' H',Inv X pins σ' H' Q/\tn i Q.heap/\(∀ b∈fp,H' b=none)/\W i m σ' H':=λ{a k} l E=>by
   obtain⟨m',hm,w7⟩:=hN a k E;refine⟨m',hm,i+1,a,k,l.unpinned,T.keep _ _ _ y λb hb o e=>(l.pin (b,o) (a4c _ (a4c _ (iQ hb e)))).1,λb hb=>?_,w7⟩;obtain⟨o,e,d⟩:=T.obj _ _ y b hb;exact(l.pin (b,o) (a4c _ (a4c _ (iQ hb e)))).2.1
  cases f with
  | next=>obtain⟨a,k,l,E⟩:=t;exact again l E
  | cont=>obtain⟨a,k,l,E⟩:=t;exact again l E
  | brk=>obtain⟨a,k,l,t⟩:=t;exact⟨a,k,l.unpinned,t⟩
  | ret v=>obtain⟨x7,a,k,l,r7,t⟩:=t;exact⟨x7,a,k,l.unpinned,r7,t⟩
end
abbrev R2:=V->V->Hp->VK->Prop
def OpR(X:Cx)(f:Value->Value->Sem Value)(r:R2):Prop:=
 ∀ (pins:List (Addr×Obj)) (s:Shared) (σ:St) (H:Hp) (x y:V) (v u:Value) (Q:VK),Inv X pins σ H s->eH x v->eH y u->r x y H Q ->
   wpAny (model X.prog X.w) X.A (f v u) (EP X pins σ Q) X.xe s
def jO(X:Cx)(f:Value)(r:List V->Hp->VK->Prop):Prop:=
 ∀ (pins:List (Addr×Obj)) (s:Shared) (σ:St) (H:Hp) (xs:List V) (us:List Value) (Q:VK),Inv X pins σ H s->bW xs us->r xs H Q ->
   wpAny (model X.prog X.w) X.A (call f us) (EP X pins σ Q) X.xe s
def tOp(r:R2)(a b:TE):TE:=λσ H Q=>a σ H λx c=>b σ c λy d=>r x y d Q
def tUn(r:V->Hp->VK->Prop)(a:TE):TE:=λσ H Q=>a σ H λx b=>r x b Q
def rI(C:Int->Int->Prop)(g:Int->Int->V):R2:=λx y H Q=>∃ i j,x=.int i/\y=.int j/\C i j/\Q (g i j) H
def rI0(g:Int->Int->V):R2:=λx y H Q=>∃ i j,x=.int i/\y=.int j/\Q (g i j) H
section
variable{X:Cx}{a b c:Expr}{ta tb tc:TE}{pos:Pos}
def cN0(ha:PE X a ta)(hb:PE X b tb){pins:List (Addr×Obj)}{s:Shared}{σ:St}{H:Hp}{R:V->V->Hp->Prop}(I:Inv X pins σ H s)
  (h:ta σ H λx g=>tb σ g λy c=>R x y c) {Q:Value->Shared->Prop} {f:Value->Value->Sem Value}
  (i:∀ v u s2 x y c,Inv X pins σ c s2->eH x v->eH y u->R x y c->wpAny (model X.prog X.w) X.A (f v u) Q X.xe s2) :
  wpAny (model X.prog X.w) X.A (eval a X.env) (λv d=>wpAny (model X.prog X.w) X.A (eval b X.env) (λu e=>wpAny (model X.prog X.w) X.A (f v u) Q X.xe e) X.xe d) X.xe s:=by
 refine thn (ha pins s σ H _ I h) λv s1 Z0=>?_;obtain⟨x,g,j,k,l⟩:=Z0;refine thn (hb pins s1 σ g _ j l) λu s2 ⟨y,c,m,n,o⟩=>?_;exact i v u s2 x y c m k n o
def cN1{op:Operator}{r:R2}(c:OpR X (binaryOp op) r)(ha:PE X a ta)(hb:PE X b tb):PE X (.BinOp a op b pos) (tOp r ta tb):=by
 intro pins s σ H Q I h;exact wpAny_BinOp (cN0 ha hb I h λv u s2 x y d e f g q=>c pins s2 σ d x y v u Q e f g q)
def opI{f:Value->Value->Sem Value}{C:Int->Int->Prop}{g:Int->Int->Int}
  (rule:∀ (i j:Int) (t u:Tok) (s:Shared) (Q:Value->Shared->Prop) (E:Value->Shared->Prop),C i j->Q (.int (g i j) s.toks) {s with toks:=s.toks+1}->wpAny (model X.prog X.w) X.A (f (.int i t) (.int j u)) Q E s) :
  OpR X f (rI C λi j=>.int (g i j)):=by
 intro pins s σ H x y v u Q I a b h;obtain⟨i,j,rfl,rfl,c,q⟩:=h;obtain⟨t,rfl⟩:=a;obtain⟨d,rfl⟩:=b;exact rule i j t d s _ _ c ⟨.int (g i j),H,I.tok _,⟨_,rfl⟩,q⟩
def cU1{f:Value->Value->Sem Value}{g:Int->Int->Int}
  (rule:∀ (i j:Int) (t u:Tok) (s:Shared) (Q:Value->Shared->Prop) (E:Value->Shared->Prop),Q (.int (g i j) s.toks) {s with toks:=s.toks+1}->wpAny (model X.prog X.w) X.A (f (.int i t) (.int j u)) Q E s) :
  OpR X f (rI0 λi j=>.int (g i j)):=by
 intro pins s σ H x y v u Q I a b h;obtain⟨i,j,rfl,rfl,q⟩:=h;obtain⟨t,rfl⟩:=a;obtain⟨c,rfl⟩:=b;exact rule i j t c s _ _ ⟨.int (g i j),H,I.tok _,⟨_,rfl⟩,q⟩
def cN2{f:Value->Value->Sem Value}{g:Int->Int->Bool}
  (rule:∀ (i j:Int) (t u:Tok) (s:Shared) (Q:Value->Shared->Prop) (E:Value->Shared->Prop),Q (.bool (g i j)) s->wpAny (model X.prog X.w) X.A (f (.int i t) (.int j u)) Q E s) :
  OpR X f (rI0 λi j=>.bl (g i j)):=by
 intro pins s σ H x y v u Q I a b h;obtain⟨i,j,rfl,rfl,q⟩:=h;obtain⟨t,rfl⟩:=a;obtain⟨c,rfl⟩:=b;exact rule i j t c s _ _ ⟨.bl (g i j),H,I,rfl,q⟩
def bY2(i j:Int):Prop:=0<=j/\j<=1000000/\i.natAbs < 2 ^ 64
def cC5(i j:Int):Prop:=(-(2 ^ 64) < i/\i < 2 ^ 64)\/(-(2 ^ 64) < j/\j < 2 ^ 64)
theorem cC5.ok{i j:Int}(h:cC5 i j):IntMulOk i j:=by
 rcases h with⟨a,b⟩ | ⟨a,b⟩;exact .of_left (intBits_le_64 a b);exact .of_right (intBits_le_64 a b)
def cC6:OpR X (binaryOp .Add) (rI0 λi j=>.int (i+j)):=cU1 λ_ _ _ _ _ _ _ q=>add_int q
def cC7:OpR X (binaryOp .Mult) (rI cC5 λi j=>.int (i*j)):=opI λ_ _ _ _ _ _ _ a q=>mul_int q a.ok
def jE:OpR X (binaryOp .Mod) (rI (λ_ j=>0 < j) λi j=>.int (i % j)):=opI λi j _ _ _ _ _ a q=>by
 have b:(0:Int) < j:=a;exact mod_int' (by lia) (by rw[Int.fmod_eq_emod_of_nonneg i (by lia)];exact q)
def cC8:OpR X (binaryOp .Pow) (rI bY2 λi j=>.int (i ^ j.toNat)):=opI λ_ _ _ _ _ _ _ a q=>pow_int_small a.1 a.2.1 a.2.2 q
end
section
variable{X:Cx}{a b c:Expr}{ta tb tc:TE}{pos:Pos}
def bK5{pins:List (Addr×Obj)}{σ:St}{H:Hp}{s:Shared}{Q:VK}{k a:Bool}(I:Inv X pins σ H s)(q:Q (.bl k) H)(e:k=a):EP X pins σ Q (.bool a) s:=by
 subst e;exact⟨.bl k,H,I,rfl,q⟩
def cN3:OpR X (compareOp .Lt) (rI0 λi j=>.bl (decide (i < j))):=cN2 λ_ _ _ _ _ _ _ q=>lt_int q
def bP3:OpR X (compareOp .Gt) (rI0 λi j=>.bl (decide (j < i))):=cN2 λ_ _ _ _ _ _ _ q=>gt_int q
def cN4:OpR X (compareOp .GtE) (rI0 λi j=>.bl (decide (j<=i))):=cN2 λ_ _ _ _ _ _ _ q=>ge_int q
def aT0:OpR X (compareOp .In) (λx y H Q=>∃ i j,x=.str i/\y=.str j/\Q (.bl (!(Builtin.Str.occurrences j i 0 j.length 1).isEmpty)) H):=by
 intro pins s σ H x y v u Q I a b h;obtain⟨i,j,rfl,rfl,q⟩:=h;obtain⟨t,rfl⟩:=a;obtain⟨c,rfl⟩:=b;exact in_str (bK5 I q rfl)
def yB:OpR X (compareOp .NotIn) (λx y H Q=>∃ i j,x=.str i/\y=.str j/\Q (.bl (!(!(Builtin.Str.occurrences j i 0 j.length 1).isEmpty))) H):=by
 intro pins s σ H x y v u Q I a b h;obtain⟨i,j,rfl,rfl,q⟩:=h;obtain⟨t,rfl⟩:=a;obtain⟨c,rfl⟩:=b;exact notIn_str (bK5 I q rfl)
def OpR.or{f:Value->Value->Sem Value}{r a:R2}(h:OpR X f r)(h':OpR X f a):OpR X f (λx y H Q=>r x y H Q\/a x y H Q):=by
 intro pins s σ H x y v u Q I b c q;rcases q with q | q;exact h pins s σ H x y v u Q I b c q;exact h' pins s σ H x y v u Q I b c q
def eY(b:Expr){op:CmpOp}(h:op≠.In:=by decide)(a:op≠.NotIn:=by decide):behindInMarks op b=false:=by
 have c:(op==CmpOp.In)=false:=by cases op<;>first | rfl | exact absurd rfl h
 have d:(op==CmpOp.NotIn)=false:=by cases op<;>first | rfl | exact absurd rfl a
 cases b<;>simp[behindInMarks,c,d]
def bP4{op:CmpOp}{r:R2}(c:OpR X (compareOp op) r)(ha:PE X a ta)(hb:PE X b tb)(hm:behindInMarks op b=false):PE X (.Compare a [op] [b] pos) (tOp r ta tb):=by
 intro pins s σ H Q I h;exact wpAny_Compare1 (cN0 ha hb I h λv u s2 x y d e f g q=>c pins s2 σ d x y v u Q e f g q) hm
def cN5(t:TE):TT:=λσ H Q=>t σ H λx H'=>∃ k,x=.bl k/\Q k H'
def bP5{op:CmpOp}{r:R2}(d:OpR X (compareOp op) r)(ha:PE X a ta)(hb:PE X b tb)(hm:behindInMarks op b=false):PT X (.Compare a [op] [b] pos) (cN5 (tOp r ta tb)):=by
 intro pins s σ H Q I h;refine wpAny_isTrue_Compare1 (thn (ha pins s σ H _ I h) λv s1 ⟨x,f,g,i,j⟩=>thn (hb pins s1 σ f _ g j) λu s2 ⟨y,l,m,n,o⟩=>
  thn (d pins s2 σ l x y v u _ m i n o) λc A ⟨z,p,q,t,k,e,w⟩=>?_) hm
 subst e;cases t;exact a2Z ⟨p,q,w⟩
def qM:(sizeLine:Nat) < 2 ^ 63:=by rw[a3n];decide
def aM8:OpR X (binaryOp .Add) (λx y H Q=>∃ i j,x=.str i/\y=.str j/\i.length+j.length<=sizeLine/\Q (.str (i++j)) H):=by
 intro pins s σ H x y v u Q I a b h;obtain⟨i,j,rfl,rfl,c,q⟩:=h;obtain⟨t,rfl⟩:=a;obtain⟨d,rfl⟩:=b;exact add_str (λd tk=>⟨.str (i++j),H,I.tok _,⟨_,rfl⟩,q⟩) c
def aC0{x:V}{us:List Value}(r:bW [x] us):∃ u,us=[u]/\eH x u:=by
 cases r with
 | cons a b=>cases b;exact⟨_,rfl,a⟩
def cN6{x y:V}{us:List Value}(r:bW [x,y] us):∃ u a,us=[u,a]/\eH x u/\eH y a:=by
 cases r with
 | cons b c=>
   cases c with
   | cons d e=>cases e;exact⟨_,_,rfl,b,d⟩
def yC:jO X (.type "int") (λxs H Q=>(∃ i,xs=[.int i]/\Q (.int i) H)\/∃ k,xs=[.bl k]/\Q (.int (if k then 1 else 0)) H):=by
 intro pins s σ H xs us Q I r h;rcases h with⟨i,rfl,q⟩ | ⟨k,rfl,q⟩;obtain⟨u,rfl,t,rfl⟩:=aC0 r;exact call_int_int ⟨.int i,H,I,⟨_,rfl⟩,q⟩;obtain⟨u,rfl,a⟩:=aC0 r;cases a;exact call_int_bool ⟨.int (if k then 1 else 0),H,I.tok _,⟨_,rfl⟩,q⟩
end
structure ObjM(h:Heap)(x dx C:Addr)(mA:Str->Option Value):Prop where
 obj:h.get? x=some (W.instObj C dx)
 ns:h.Ns1 dx mA
 ne:dx≠x
def aT1{h:Heap}{dx:Addr}{mA:Str->Option Value}(n:h.Ns1 dx mA):∃ od,h.get? dx=some od/\∀ name,W.lookIn name od=some (mA name):=by
 obtain⟨o,es,ep,c,hd,d,_,hm⟩:=n;refine⟨o,c,λname=>?_⟩;have e:=hm name;unfold nsFind findBy at e;rw[← Array.find?_toList]at e;unfold W.lookIn;rw[hd];dsimp only;split;rename_i y q;rw[q]at e;exact a2Y some e;rename_i q;rw[q]at e;have a:es.toList.any (·.refKey)=false:=by
  rw[List.any_eq_false];intro y f;obtain⟨z,t,b⟩:=d y (Array.mem_toList_iff.mp f);simp[DictEntry.refKey,b]
 have g:¬ es.toList.any (·.refKey)=true:=by rw[a];exact a8d
 rw[a2I g];exact a2Y some e
def ObjM.look{h:Heap}{x dx C:Addr}{mA:Str->Option Value}(I:ObjM h x dx C mA):∃ od,W.InstAt h x (W.instObj C dx) C (some od)/\∀ name,W.lookIn name od=some (mA name):=
 let ⟨od,a,hl⟩:=aT1 I.ns
 ⟨od,⟨I.obj,rfl,rfl,a⟩,hl⟩
section
variable{prog:Program}{w:World}{A:Around}{E:Value->Shared->Prop}{s:Shared}{K:W.Frag}{x dx C f:Addr}{mA:Str->Option Value}{name:Str}{v:Value}
end
section
variable{P:Program}{w:World}{H H':Hp}{h h':Heap}{a C dx:Addr}{fs fs':List (Str×V)}
def fO(hok:HOk P w H h)(e:H a=some (.ins C dx fs)):∃ mA,ObjM h a dx C mA/\(∀ f,bK1 (fs.lookup f) (mA f))/\Within mA (fs.map (·.1))/\fs.length<=1000/\H dx=some (.own a):=by
 obtain⟨d,z,ne,ob,mA,n,r,q⟩:=(show cL P w H h a (.ins C dx fs)from hok a _ e);exact⟨mA,⟨ob,n,ne⟩,r,q,z,d⟩
end
structure Cls(K:W.Frag)(C:Addr):Prop where
 pg:W.plainGet K C Str.empty=true
 hd:W.hasDictIn K C=true
 po:W.plainOver K C=true
 sa:W.findIn K (.ref C) "__setattr__"=some (some (.builtin "object.__setattr__"))
def Cls.get{K:W.Frag}{C:Addr}(c:Cls K C)(f:Str):W.plainGet K C f=true:=c.pg
section
variable{X:Cx}{pins:List (Addr×Obj)}{σ:St}{H:Hp}{s:Shared}{a C dx:Addr}{fs:List (Str×V)}{f:Str}{v:V}{A:Around}{E:Value->Shared->Prop}
end
section
variable{X:Cx}{o e value:Expr}{f:Str}{pos pos' tpos:Pos}{ta tv:TE}
end
section
variable{X:Cx}{pins:List (Addr×Obj)}{σ:St}{H:Hp}{s:Shared}{A:Around}{E:Value->Shared->Prop}{Q:Value->Shared->Prop}{c:Value}{b:Bool}
inductive TyOf(K:W.Frag)(H:Hp):V->Value->Prop where
 | non:TyOf K H .non (.type "NoneType")
 | bl (x:Bool):TyOf K H (.bl x) (.type "bool")
 | int (i:Int):TyOf K H (.int i) (.type "int")
 | str (x:Str):TyOf K H (.str x) (.type "str")
 | flt (x:UInt64):TyOf K H (.flt x) (.type "float")
 | lst {a:Addr} {xs:List V} (e:H a=some (.lst xs)):TyOf K H (.ref a) (.type "list")
 | frz {a:Addr} {o:Obj} {xs:List V} (e:H a=some (.frz o (.lst xs))):TyOf K H (.ref a) (.type "list")
 | tup {a:Addr} {xs:List V} (e:H a=some (.tup xs)):TyOf K H (.ref a) (.type "tuple")
 | dK {a:Addr} {kvs:List (Key×V)} (e:H a=some (.dK kvs)):TyOf K H (.ref a) (.type "dict")
 | dT {a:Addr} {kvs:List (List Key×V)} (e:H a=some (.dT kvs)):TyOf K H (.ref a) (.type "dict")
 | ins {a C dx:Addr} {fs:List (Str×V)} (e:H a=some (.ins C dx fs)) (cl:Cls K C) (ha:W.findIn K (.ref C) "__class__"=some (some (.builtin "object.__class__")))
   (hn:W.specialIn K (.builtin "object.__class__") "__get__"=some (some (.builtin "getset_descriptor.__get__"))) (htk:W.takesIn K (.builtin "object.__class__")=some true)
   (hm:W.mroIn K C (.type "object")=some true):TyOf K H (.ref a) (.ref C)
def aT2{x:V}{u t:Value}(I:Inv X pins σ H s)(d:eH x u)(ty:TyOf X.K H x t)(e:W.kitOne X.K t c=some b)(h:∀ tk,Q (.bool b) {s with toks:=tk}) :
  wpAny (model X.prog X.w) A (call (.builtin "isinstance") [u,c]) Q E s:=by
 cases ty with
 | non=>cases (show u=Value.none from d);exact a1f W.kitx_none I.kIn True.intro e (λz=>nomatch z) h
 | bl y=>cases (show u=Value.bool y from d);exact a1f W.kitx_bool I.kIn True.intro e (λz=>nomatch z) h
 | int i=>obtain⟨t,q⟩:=(show ∃ t,u=Value.int i t from d);cases q;exact a1f W.kitx_int I.kIn True.intro e (λz=>nomatch z) h
 | str y=>obtain⟨t,q⟩:=(show ∃ t,u=Value.str y t from d);cases q;exact a1f W.kitx_str I.kIn True.intro e (λz=>nomatch z) h
 | flt y=>obtain⟨t,q⟩:=(show ∃ t,u=Value.float y t from d);cases q;exact a1f W.kitx_float I.kIn True.intro e (λz=>nomatch z) h
 | @lst a xs f=>
   cases (show u=Value.ref a from d);obtain⟨_,_,n,_,g⟩:=(show cL X.prog X.w H s.heap a (.lst xs)from I.hok a _ f);exact a1f W.kitx_list I.kIn ⟨_,g,rfl⟩ e (λz=>nomatch z) h
 | @frz a ob xs f=>
   cases (show u=Value.ref a from d);obtain⟨_,_,_,n,_,g⟩:=(show cL X.prog X.w H s.heap a (.frz ob (.lst xs))from I.hok a _ f);exact a1f W.kitx_list I.kIn ⟨_,g,rfl⟩ e (λz=>nomatch z) h
 | @tup a xs f=>
   cases (show u=Value.ref a from d);obtain⟨_,_,_,p,_⟩:=(show cL X.prog X.w H s.heap a (.tup xs)from I.hok a _ f);obtain⟨o,g,j,_⟩:=p;exact a1f W.kitx_tuple I.kIn ⟨o,g,j⟩ e (λz=>nomatch z) h
 | @dK a kvs f=>
   cases (show u=Value.ref a from d);obtain⟨_,_,vs,_,p⟩:=(show cL X.prog X.w H s.heap a (.dK kvs)from I.hok a _ f);obtain⟨o,es,ep,g,j,_⟩:=p;exact a1f W.kitx_dict I.kIn ⟨o,g,j.1⟩ e (λz=>nomatch z) h
 | @dT a kvs f=>
   cases (show u=Value.ref a from d);obtain⟨_,_,xs,_,o,es,ep,g,j,_⟩:=(show cL X.prog X.w H s.heap a (.dT kvs)from I.hok a _ f);exact a1f W.kitx_dict I.kIn ⟨o,g,j.1⟩ e (λz=>nomatch z) h
 | @ins a C dx fs f cl ha hn htk hm=>
   cases (show u=Value.ref a from d);obtain⟨mA,O,_⟩:=fO I.hok f;obtain⟨od,J,_⟩:=O.look;exact a1f (W.kitx_own (cl.get _) cl.hd ha hn htk hm) I.kIn J e (λz=>nomatch z) h
end
structure Room(k:Nat)(A:Around):Prop where
 hd:A.handled=none
 dp:A.depth+3*k+5 < recursionLimit
 un:A.units+16*k+200 < cLine
def Room.mono{j k:Nat}{A:Around}(r:Room k A)(h:j<=k):Room j A:=⟨r.hd,by have:=r.dp;lia,by have:=r.un;lia⟩
theorem Room.deeper{k:Nat}{A:Around}(r:Room (k+1) A)(env:Env):Room k (A.deeper env):=
 ⟨r.hd,by have:=r.dp;show A.depth+1+3*k+5 < _;lia,by have:=r.un;show A.units+3+16*k+200 < _;lia⟩
theorem Room.depth{k:Nat}{A:Around}(r:Room k A):A.depth < recursionLimit:=by have:=r.dp;lia
theorem Room.units{k:Nat}{A:Around}(r:Room k A):A.units+64 < cLine:=by have:=r.un;lia
def Room.units0{k:Nat}{A:Around}(r:Room k A):A.units < cLine:=by have:=r.un;lia
def cL0:TA:=λ_ H Q=>Q [] H
def bP6(a:TE)(tr:TA):TA:=λσ H Q=>a σ H λx b=>tr σ b λxs c=>Q (x::xs) c
section
variable{X:Cx}{e:Expr}{es:List Expr}{te:TE}{t:TA}{pos:Pos}
def oE:PA X [] cL0:=λ_ _ _ _ H Q I h=>Calls.spliced_nil ⟨[],H,I,.nil,h⟩
def eZ(ha:PE X e te)(a:PA X es t)(hs:starEach (e::es) X.env=(false,eval e X.env)::starEach es X.env:=by rfl):PA X (e::es) (bP6 te t):=by
 intro pos pins s σ H Q I h;rw[hs];show wpAny _ _ (spliced ((false,eval e X.env)::backTo pos (starEach es X.env))) _ _ s;refine Calls.spliced_cons (thn (ha pins s σ H _ I h) λu s1 Z0=>?_);obtain⟨x,b,c,d,f⟩:=Z0;exact thn (a pos pins s1 σ b _ c f) λus s2 ⟨xs,g,i,j,k⟩=>⟨x::xs,g,i,.cons d j,k⟩
def cU2(t:TA):TE:=λσ H Q=>t σ H λxs a=>xs.length<=sizeLine/\∀ p,a p=none->Q (.ref p) (upd a p (.tup xs))
def cN7(t:TA):TE:=λσ H Q=>t σ H λxs a=>xs.length<=sizeLine/\∀ p,a p=none->Q (.ref p) (upd a p (.lst xs))
def cC9{d}(h:PA X es t):PE X (.Tuple es d pos) (cU2 t):=by
 intro pins s σ H Q I f;refine wpAny_Tuple_spliced (thn (h pos pins s σ H _ I f) λus s1 ⟨xs,a,c,r,z,q⟩=>⟨by rw[← r.length];exact z,?_⟩);have g:a s1.heap.objs.size=none:=c.hok.fresh (a8a _);refine⟨.ref s1.heap.objs.size,upd a s1.heap.objs.size (.tup xs),c.laid (t':=s1.toks) (λb u e=>a6a _ e) (a8a _) ?_,rfl,q _ g⟩;exact⟨z,us,r,⟨_,a3b _ rfl,rfl,_,rfl⟩,⟨_,a3b _ rfl,rfl⟩⟩
def bK6(h:PA X es t):PE X (.List es pos) (cN7 t):=by
 intro pins s σ H Q I d;refine wpAny_List_spliced (thn (h pos pins s σ H _ I d) λus s1 ⟨xs,a,c,r,z,q⟩=>⟨by rw[← r.length];exact z,?_⟩);have f:a s1.heap.objs.size=none:=c.hok.fresh (a8a _);refine⟨.ref s1.heap.objs.size,upd a s1.heap.objs.size (.lst xs),c.laid (t':=s1.toks) (λb u e=>a6a _ e) (a8a _) ?_,rfl,q _ f⟩;exact⟨z,us,0,r,a3b _ rfl⟩
end
abbrev Sp:=List V->Hp->VK->XK->Prop
abbrev CXT:=List Env->Hp->Shared->XK->Value->Shared->Prop
structure Env0(P:Program)(w:World)(K:W.Frag)(mg:Str->Option Value)(base:Heap)(A:Around)(outer:List Env)(s:Shared)(H:Hp):Prop where
 frames:A.frames=some outer
 mod:Mod K mg base
 bs:∀ b o,base.get? b=some o->s.heap.get? b=some o/\H b=none
 bsz:base.objs.size<=s.heap.objs.size
 funs:s.heap.FunFrames base outer
 frf:∀ b∈frs outer,H b=none
 hok:HOk P w H s.heap
 bare:AllBare s.gens
def CE(outer:List Env)(P:Program)(w:World)(H:Hp)(s:Shared)(Q:VK)(u:Value)(s':Shared):Prop:=
 ∃ v H',s'.os=s.os/\AllBare s'.gens/\Un (frs outer) [] H H' s.heap s'.heap/\HOk P w H' s'.heap/\eH v u/\Q v H'
def CR(CX:CXT)(outer:List Env)(P:Program)(w:World)(H:Hp)(s:Shared)(Q:VK)(E:XK)(r:Result)(s':Shared):Prop:=
 match r with
 | .ok (.ret u)=>CE outer P w H s Q u s'
 | .ok _=>False
 | .error e=>CX outer H s E e s'
structure FnOk(P:Program)(w:World)(K:W.Frag)(mg:Str->Option Value)(base:Heap)(CX:CXT)(k:Nat)(f:Addr)(fd:FuncData)(ps:List Str)(sp:Sp):Prop where
 len:∀ vs H Q E,sp vs H Q E->vs.length=ps.length
 run:∀ (A:Around) (outer:List Env) (s:Shared) (H:Hp) (args:Args) (us:List Value) (vs:List V) (Q:VK) (E:XK),Room k A->Env0 P w K mg base A outer s H->BindsTo s fd args (ps.zip us)->bW vs us->sp vs H Q E ->
  codeAny (model P w) A (.call (.ref f) args) (CR CX outer P w H s Q E) s
def FnOk.imp{P:Program}{w:World}{K:W.Frag}{mg:Str->Option Value}{base:Heap}{CX:CXT}{k:Nat}{f:Addr}{fd:FuncData}{ps:List Str}{sp a:Sp}(F:FnOk P w K mg base CX k f fd ps sp)
  (h:∀ vs H Q E,a vs H Q E->sp vs H Q E):FnOk P w K mg base CX k f fd ps a:=
 ⟨λvs H Q E q=>F.len vs H Q E (h _ _ _ _ q),λA outer s H args us vs Q E b c hb d hs=>F.run A outer s H args us vs Q E b c hb d (h _ _ _ _ hs)⟩
section
variable{X:Cx}{pins:List (Addr×Obj)}{σ:St}{H:Hp}{s s':Shared}
def Inv.env0(I:Inv X pins σ H s):Env0 X.prog X.w X.K X.mg X.base X.A X.stack s H:=
 ⟨I.ok.frames,I.ok.mod,I.bs,a6b I.ok.bsz I.sz,I.stack,I.stkFree,I.hok,I.bare⟩
def Inv.after{Q:VK}{u:Value}(I:Inv X pins σ H s)(h:CE X.stack X.prog X.w H s Q u s'):EP X pins σ Q u s':=by
 obtain⟨v,H',os,bare,un,hok,r,q⟩:=h;obtain⟨c,g,d,t,a⟩:=s';obtain rfl:a=s.os:=os;exact⟨v,H',I.call (h':=c) (g':=g) (d':=d) (t':=t) (ch:=[]) un hok bare (λb z=>absurd z (by simp)),r,q⟩
end
def bP7(sp:Sp)(a:List V)(E:XK)(t:TA):TE:=λσ H Q=>t σ H λvs b=>sp (vs++a) b Q E
def eP(K:W.Frag)(fd:FuncData)(ps:List Str)(ds:List Value):Prop:=
 ∀ (s:Shared) (us:List Value),K.In s.heap->(us++ds).length=ps.length->BindsTo s fd ⟨us,[]⟩ (ps.zip (us++ds))
def eP.all{K:W.Frag}{fd:FuncData}{ps:List Str}(h:∀ us:List Value,us.length=ps.length->bindArgs fd ⟨us,[]⟩=pure (ps.zip us)):eP K fd ps []:=λs us _ a=>by
 rw[a2f]at a ⊢;exact .of_eq (h us a)
def aT3(CX:CXT)(X:Cx)(E:XK):Prop:=∀ (pins:List (Addr×Obj)) (σ:St) (H:Hp) (s:Shared) (e:Value) (s':Shared),Inv X pins σ H s->CX X.stack H s E e s'->X.xe e s'
section
variable{X:Cx}{CX:CXT}{k:Nat}{f C:Addr}{fd:FuncData}{ps:List Str}{sp:Sp}{dvs:List V}{ds:List Value}{E:XK}{x m:Str}{p pos apos:Pos}{e o:Expr}{es:List Expr}{ta:TE}{t:TA}
def cD0{pins:List (Addr×Obj)}{σ:St}{H:Hp}{s:Shared}{Q:VK}{us:List Value}{vs:List V}(F:FnOk X.prog X.w X.K X.mg X.base CX k f fd ps sp)(c:Room k X.A)(hb:eP X.K fd ps ds)(hd:bW dvs ds)(d:aT3 CX X E)
  (I:Inv X pins σ H s) (r:bW vs us) (h:sp (vs++dvs) H Q E):wpAny (model X.prog X.w) X.A (call (.ref f) us) (EP X pins σ Q) X.xe s:=by
 have b:bW (vs++dvs) (us++ds):=r.append hd;have g:(us++ds).length=ps.length:=by rw[← b.length];exact F.len _ _ _ _ h
 refine wpAny_call (a3p (F.run X.A X.stack s H ⟨us,[]⟩ (us++ds) (vs++dvs) Q E c I.env0 (hb s us I.kIn g) b h) λr s' a=>?_);cases r with
 | error e=>exact d pins σ H s e s' I a
 | ok i=>
   cases i with
   | ret u=>exact I.after a
   | next=>exact False.elim a
   | brk=>exact False.elim a
   | cont=>exact False.elim a
def aH(F:FnOk X.prog X.w X.K X.mg X.base CX k f fd ps sp)(d:Room k X.A)(g:Gl X x)(hm:X.mg x=some (.ref f))(i:W.keepIn X.K (.ref f)=true)(hb:eP X.K fd ps ds)(hd:bW dvs ds)(j:aT3 CX X E)
  (ha:PA X (e::es) t) (a:(x==("__debug__":Str))=false:=by decide) (l:starEach (e::es) X.env=(false,eval e X.env)::starEach es X.env:=by rfl) (b:(backTo pos (starEach es X.env)).any (·.1)=false:=by rfl) :
  PE X (.Call (.Name x p) (e::es) [] pos) (bP7 sp dvs E t):=by
 intro pins s σ H Q I h;refine a2X (bO8 I g hm ?_ a);refine W.callWith_K (h₀:=X.base) I.ok.mod.kin i (thn (ha pos pins s σ H _ I h) λus s1 ⟨vs,m,c,r,q⟩=>⟨c.kIn,?_⟩) l b;exact cD0 F d hb hd j c r q
end
def PK(X:Cx)(a:List Keyword)(t:TA):Prop:=
 ∀ (b:Pos) (pins:List (Addr×Obj)) (s:Shared) (σ:St) (H:Hp) (Q:List V->Hp->Prop),Inv X pins σ H s->t σ H Q->wpAny (model X.prog X.w) X.A (evalAll ((backToKw b (keywordEach a X.env)).map (·.2))) (AP X pins σ Q) X.xe s
section
variable{X:Cx}{CX:CXT}{k:Nat}{f C:Addr}{fd:FuncData}{ps ks:List Str}{sp:Sp}{E:XK}{x m:Str}{p pos apos kpos:Pos}{e o:Expr}{es:List Expr}{kws:List Keyword}{te ta:TE}{t tk:TA}{nm:Option Str}
variable{g:List Value->List Value->List Value}{gV:List V->List V->List V}
end
structure FnScope(N P:List Str)(sc:Scope):Prop where
 kind:sc.kind=.function
 co:sc.isCoroutine=false
 gen:sc.isGenerator=false
 nd:N.Nodup
 pre:N.take P.length=P
 par:∀ x∈P,sc.names.lookup x=some .local\/sc.names.lookup x=some .cell
 nofree:∀ y∈sc.names,y.2≠.free
theorem yD{kindOf:Str->Option NameKind}{x:Str}:∀ {binds:List (Str×Value)} {m:Str->Option Value},(∀ v,(x,v)∉binds)->bindL kindOf binds m x=m x
 | [],_,_=>rfl
 | (n,v)::r,m,h=>by
   unfold bindL;rw[yD λw a=>h w (a4a _ a)];split
   ·have:x≠n:=by rintro rfl;exact h v a3a
    simp[this]
   ·rfl
theorem yE{kindOf:Str->Option NameKind}{x:Str}:∀ {binds:List (Str×Value)} {m:Str->Option Value},(∀ v,(x,v)∉binds)->bindC kindOf binds m x=m x
 | [],_,_=>rfl
 | (n,v)::r,m,h=>by
   unfold bindC;rw[yE λw a=>h w (a4a _ a)];split;rfl
   ·have:x≠n:=by rintro rfl;exact h v a3a
    simp[this]
theorem yF{kindOf:Str->Option NameKind}{x:Str}{v:Value}:∀ {P:List Str} {vs:List Value} {i:Nat} {m:Str->Option Value},P.Nodup->P[i]? = some x->vs[i]? = some v->kindOf x=some .local ->
  bindL kindOf (P.zip vs) m x=some v
 | [],_,_,_,_,h,_,_=>by simp at h
 | _::_,[],_,_,_,_,h,_=>by simp at h
 | p::P,w::vs,0,m,nd,a,b,c=>by
   simp at a b;subst a;subst b;show bindL kindOf ((p,w)::P.zip vs) m p=_;unfold bindL;rw[yD λv d=>(a4h.mp nd).1 (List.of_mem_zip d).1,a2H c];simp
 | p::P,w::vs,i+1,m,nd,a,b,c=>by
   show bindL kindOf ((p,w)::P.zip vs) m x=_;unfold bindL;exact yF (i:=i) (a4h.mp nd).2 (by simpa using a) (by simpa using b) c
theorem yG{kindOf:Str->Option NameKind}{x:Str}{v:Value}:∀ {P:List Str} {vs:List Value} {i:Nat} {m:Str->Option Value},P.Nodup->P[i]? = some x->vs[i]? = some v->kindOf x≠some .local ->
  bindC kindOf (P.zip vs) m x=some v
 | [],_,_,_,_,h,_,_=>by simp at h
 | _::_,[],_,_,_,_,h,_=>by simp at h
 | p::P,w::vs,0,m,nd,a,b,c=>by
   simp at a b;subst a;subst b;show bindC kindOf ((p,w)::P.zip vs) m p=_;unfold bindC;rw[yE λv d=>(a4h.mp nd).1 (List.of_mem_zip d).1,a2I c];simp
 | p::P,w::vs,i+1,m,nd,a,b,c=>by
   show bindC kindOf ((p,w)::P.zip vs) m x=_;unfold bindC;exact yG (i:=i) (a4h.mp nd).2 (by simpa using a) (by simpa using b) c
noncomputable def hC(N:List Str)(vs:List V):St:=vs.map some++List.replicate (N.length-vs.length) none
noncomputable def bK7(CX:CXT)(P:Program)(w:World)(K:W.Frag)(mg:Str->Option Value)(base:Heap)(N:List Str)(qual:Str)(scope:Scope)(f:Addr)(b:Value)(A:Around)(outer:List Env)(s:Shared)(H:Hp)(E:XK):Cx where
 prog:=P
 w:=w
 K:=K
 mg:=mg
 base:=base
 A:=A.deeper (envOfC qual scope s.heap.objs.size f b)
 N:=N
 s₀:=s
 H₀:=H
 env:=envOfC qual scope s.heap.objs.size f b
 outer:=outer
 stack:=envOfC qual scope s.heap.objs.size f b::outer
 ex:=[]
 calm:=true
 fn:=λ_=>true
 pn:=[]
 xe:=λe s'=>wpAny (model P w) (A.deeper (envOfC qual scope s.heap.objs.size f b)) (leaving (envOfC qual scope s.heap.objs.size f b) e) (λ_ a=>CX outer H s E e a) (λc a=>CX outer H s E c a) s'
def aH5{sc:Scope}{n:Nat}{x:Str}(h:sc.names.lookup x=some .cell):∃ c,(cellsFrom n sc.names []).lookup x=some c:=by
 have q:=W.cellsFrom_some sc.names n [] (.inl h);exact Option.isSome_iff_exists.mp q
def aT4{CX:CXT}{P:Program}{w:World}{K:W.Frag}{mg:Str->Option Value}{base:Heap}{N ps:List Str}{qual:Str}{scope:Scope}{f:Addr}{t:Value}{A:Around}{outer:List Env}{s s1:Shared}{H:Hp}{E:XK}{us:List Value}{vs:List V}
  (S:FnScope N ps scope) (hd:A.handled=none) (g:Env0 P w K mg base A outer s H) (I:vs.length=ps.length) (r:bW vs us)
  (x:InCallC s s.heap.objs.size (bindL (envOfC qual scope s.heap.objs.size f t).kindOf (ps.zip us) λ_=>none) (cellsFrom (s.heap.objs.size+1) scope.names []) (bindC (envOfC qual scope s.heap.objs.size f t).kindOf (ps.zip us) λ_=>none) s1) :
  Inv (bK7 CX P w K mg base N qual scope f t A outer s H E) [] (hC N vs) H s1:=by
 have F:ps.length<=N.length:=by have:=a2Y List.length S.pre;rw[a8e]at this;lia
 obtain⟨B,tk,rfl,C⟩:=x.done;have j:∀ b:Addr,b∉(bK7 CX P w K mg base N qual scope f t A outer s H E).ex:=λb z=>absurd (show b∈([]:List Addr)from z) (by simp);refine⟨⟨g.mod,S.kind,rfl,rfl,a8a _,λy z c B d=>?_,λy l=>?_,λy c _ h=>?_,λ_=>hd,Around.frames_deeper g.frames,.inr ⟨rfl,rfl⟩,λb z=>absurd z (j b),g.bs,g.bsz,λb _ _=>j b,λb z=>absurd z (j b),g.funs,g.frf⟩,
  rfl,g.bare,Un.kept C,⟨_,x.toInCall.ns,λi y v B d J=>?_⟩,λy c h=>⟨_,x.cell y c h⟩,g.hok.fresh (a8a _),λy c h=>?_,λp m=>absurd (show p∈([]:List (Addr×Obj))from m) (by simp),g.hok.kept C,?_⟩
 ·exact name_of_addr x.apart (a0i B) (a0i d)
 ·have l:scope.names.lookup y=some .cell\/scope.names.lookup y=some .free:=l;rcases l with l | l;exact aH5 l;exact absurd rfl (S.nofree _ (a0i l))
 ·exact a2g (x.above y c (a0i h))
 ·have hi:i < vs.length:=by
   unfold hC at d;by_cases hi:i < vs.length;exact hi;rw[a2b (by simpa using hi)]at d;rw[List.getElem?_replicate]at d;split at d<;>cases d
  have ha:vs[i]? = some v:=by
   unfold hC at d;rw[a6c (by simpa using hi),a0c]at d;cases e:vs[i]? with
   | none=>rw[e]at d;cases d
   | some a=>rw[e]at d;cases d;rfl
  obtain⟨u,D,G⟩:=r.get ha;have m:ps[i]? = some y:=by
   rw[← S.pre,List.getElem?_take_of_lt (by lia)];exact B
  have o:ps.Nodup:=by rw[← S.pre];exact S.nd.sublist (List.take_sublist _ _)
  refine⟨u,G,?_⟩;rcases S.par y (a2c m)with k | k;exact .inl ⟨k,yF o m D k⟩;obtain⟨c,e⟩:=aH5 (n:=s.heap.objs.size+1) k;refine .inr ⟨.inl k,c,e,?_⟩;have q:=x.cell y c e;rw[yG o m D (by show scope.names.lookup y≠_;rw[k];decide)]at q;exact q
 ·exact g.hok.fresh (a2g (x.above y c (a0i h)))
 ·unfold hC;show _=N.length;rw[a9a,a7a,List.length_replicate];lia
def cN8{CX:CXT}{P:Program}{w:World}{K:W.Frag}{mg:Str->Option Value}{base:Heap}{k:Nat}{f:Addr}{name qual:Str}{a:Arguments}{c:List Stmt}{scope:Scope}{z kV doc pm cdv ct oc:Value}{an od:Option Addr}
  {osl:Array (Option Value)} {N ps:List Str} {sp:Sp} (lk:K.lookup f=some ⟨oc,od,.func (W.fnOf name qual a c scope z kV doc pm an cdv ct),osl⟩) (j:W.codeIn K cdv qual=true) (S:FnScope N ps scope)
  (len:∀ vs H Q E,sp vs H Q E->vs.length=ps.length)
  (d:∀ (A:Around) (outer:List Env) (s:Shared) (H:Hp) (vs:List V) (Q:VK) (E:XK),Room k (A.deeper (envOfC qual scope s.heap.objs.size f cdv))->sp vs H Q E ->
   ∃ t,PSs (bK7 CX P w K mg base N qual scope f cdv A outer s H E) c t/\t {nx:=λ_ H'=>Q .non H',rt:=Q} (hC N vs) H) :
  FnOk P w K mg base CX (k+1) f (W.fnOf name qual a c scope z kV doc pm an cdv ct) ps sp:=by
 refine⟨len,λA outer s H args us vs Q E l h hb r i=>?_⟩;have C:=len _ _ _ _ i;have B:K.In s.heap:=h.mod.kin.keeps λb o e=>(h.bs b o e).1;have m:s.heap.NoLimit:=h.mod.nolimit.keeps λb o e=>(h.bs b o e).1;have g:∀ y∈ps.zip us,scope.names.lookup y.1=some .local\/(scope.names.lookup y.1=some .cell/\((cellsFrom (s.heap.objs.size+1) scope.names []).lookup y.1).isSome=true):=λ⟨n,v⟩ D=>by
  rcases S.par n (List.of_mem_zip D).1 with q | q;exact .inl q;exact .inr ⟨q,W.cellsFrom_some _ _ _ (.inl q)⟩
 refine codeAny_call_function l.depth (B _ _ lk) rfl S.co S.gen rfl (W.codeRec_of B j) (hb _ _ _ _ ?_);refine wpAny_newFunctionEnv_cells S.kind g λenv F s1 x=>?_;subst F;refine⟨m.keeps x.toInCall.keep,codeAny_func ?_⟩;obtain⟨t,G,L⟩:=d A outer s H vs Q E (l.deeper _) i;have I:Inv (bK7 CX P w K mg base N qual scope f cdv A outer s H E) [] (hC N vs) H s1:=aT4 S l.hd h C r x;refine a2Q (G [] s1 (hC N vs) H _ I L) (λM s' hs=>?_) λe s' hs=>hs;have fin:∀ {σ':St} {H':Hp} {v:V} {u:Value},Inv (bK7 CX P w K mg base N qual scope f cdv A outer s H E) [] σ' H' s'->eH v u->Q v H'->CE outer P w H s Q u s':=
  λ{σ' H' v u} J p q=>⟨v,H',J.os,J.bare,J.base,J.hok,p,q⟩
 cases M with
 | ret u=>
   obtain⟨v,σ',H',J,p,q⟩:=hs;exact fin J p q
 | next=>
   obtain⟨σ',H',J,q⟩:=hs;exact fin (v:=V.non) (u:=Value.none) J rfl q
 | brk=>
   obtain⟨_,_,_,q⟩:=hs;exact False.elim q
 | cont=>
   obtain⟨_,_,_,q⟩:=hs;exact False.elim q
section
variable{X:Cx}{x:Str}{p pos:Pos}{e:Expr}{es:List Expr}{t:TA}{id T:String}{r:List V->Hp->VK->Prop}
def tCB(r:List V->Hp->VK->Prop)(t:TA):TE:=λσ H Q=>t σ H λvs a=>r vs a Q
def cA(c:jO X (.builtin id) r)(d:Gl X x)(hm:X.mg x=none)(f:bootBuiltins x=some (.builtin id))(ha:PA X (e::es) t)(hn:x≠"__name__":=by decide)(a:(x==("__debug__":Str))=false:=by decide)
  (g:starEach (e::es) X.env=(false,eval e X.env)::starEach es X.env:=by rfl) (b:(backTo pos (starEach es X.env)).any (·.1)=false:=by rfl):PE X (.Call (.Name x p) (e::es) [] pos) (tCB r t):=by
 intro pins s σ H Q I h;refine a2X (qK I d hm f ?_ hn a);exact PyProof.Rows.callWith_builtin1 (thn (ha pos pins s σ H _ I h) λus s1 ⟨vs,i,j,k,l⟩=>c pins s1 σ i vs us Q j k l) g b
def bG(c:jO X (.type T) r)(d:Gl X x)(hm:X.mg x=none)(f:bootBuiltins x=some (.type T))(ha:PA X (e::es) t)(hn:x≠"__name__":=by decide)(a:(x==("__debug__":Str))=false:=by decide)
  (g:starEach (e::es) X.env=(false,eval e X.env)::starEach es X.env:=by rfl) (b:(backTo pos (starEach es X.env)).any (·.1)=false:=by rfl):PE X (.Call (.Name x p) (e::es) [] pos) (tCB r t):=by
 intro pins s σ H Q I h;refine a2X (qK I d hm f ?_ hn a);exact PyProof.Rows.callWith_type1 (thn (ha pos pins s σ H _ I h) λus s1 ⟨vs,i,j,k,l⟩=>c pins s1 σ i vs us Q j k l) g b
end
end L2
namespace HT
open PySem PyProof.Rows
noncomputable def lexLt:List Int->List Int->Bool
 | [],[]=>false
 | [],_::_=>true
 | _::_,[]=>false
 | x::xs,y::ys=>if x=y then lexLt xs ys else decide (x < y)
def lexLt_cons(x y:Int)(xs ys:List Int):lexLt (x::xs) (y::ys)=if x=y then lexLt xs ys else decide (x < y):=rfl
def wK:lexLt [] []=false:=rfl
def pZ(y:Int)(ys:List Int):lexLt [] (y::ys)=true:=rfl
def qA(x:Int)(xs:List Int):lexLt (x::xs) []=false:=rfl
def bC9(A:Around)(s:Shared)(a:Int)(t:Tok)(c:Int)(u:Tok):∃ e,SeqAt.EqAt A s (.int a t) (.int c u) e/\(e=true↔a=c):=
 ⟨(a==c),SeqAt.EqAt.int_int a t c u,by simp⟩
def bD0(A:Around)(s:Shared)(a:Int)(t:Tok)(c:Int)(u:Tok)(prog:Program)(w:World)(E:Value->Shared->Prop)(Q:Value->Shared->Prop)(h:Q (.bool (decide (a < c))) s) :
  wpAny (model prog w) A (richCompare .Lt (.int a t) (.int c u)) Q E s:=
 (PyProof.Rows.lt_int h:wpAny (model prog w) A (compareOp .Lt (.int a t) (.int c u)) Q E s)
section
open PySem.SeqAt
open PySem.AutoSeq1 (wpAny_loadPart')
open PySem.MeetsSeq PySem.MeetsSeq2 PySem.MeetsSeq3
def wL(l b:Addr)(items f:Array Value)(n n2:Nat)(I E:Option Addr)(sl sl2:Array (Option Value))(ns C:List Int)(hi:IntsAre items.toList ns)(hj:IntsAre f.toList C) :
  Meets (Builtin.«tuple.__lt__» ⟨[.ref l,.ref b],[]⟩)
   (λ_ R s=>s.heap.get? l=some {cls:=.type "tuple",dict:=I,data:=.seq items n,slots:=sl}/\s.heap.get? b=some {cls:=.type "tuple",dict:=E,data:=.seq f n2,slots:=sl2} /\
    R (.ok (.ret (.bool (lexLt ns C)))) s):=
 .of_wp λprog w A R s h=>by
  obtain⟨D,g,d,tk,os⟩:=s;obtain⟨J,hb,h⟩:=h;have N:=AutoSeq1.sub_tuple_tuple;have O:items.size=ns.length:=by rw[← hi.length];simp
  have P:f.size=C.length:=by rw[← hj.length];simp
  wp_walk using a3l J,a3l hb,wpAny_forIn_list _ (λeI b s'=>b.1=none/\s'=⟨D,g,d,tk,os⟩/\∃ (vs ws:List Value) (ns' i:List Int),eI=vs.zip ws /\
   IntsAre vs ns'/\IntsAre ws i/\ns'.length+f.size=i.length+items.size/\R (.ok (.ret (.bool (lexLt ns' i)))) ⟨D,g,d,tk,os⟩) _
  case turn=>
   rintro⟨y,x⟩ eI b s' ⟨p,rfl,vs,ws,ns',i,j,r,k,hlen,m⟩;cases r with
   | nil=>rw[List.zip_nil_left]at j;cases j
   | cons a t z=>
     cases k with
     | nil=>rw[List.zip_nil_right]at j;cases j
     | cons c u B=>
       rw[List.zip_cons_cons]at j;injection j with F v
       injection F with K L
       subst K L;rw[lexLt_cons]at m;simp only[List.length_cons]at hlen;obtain⟨e,M,o⟩:=bC9 A.in1 ⟨D,g,d,tk,os⟩ a t c u;refine a2F (M prog w _ _ ?_);cases e with
       | true=>
         rw[a2H (o.mp rfl)]at m
         wp_walk
         exact⟨rfl,rfl,_,_,_,_,v,z,B,by lia,m⟩
       | false=>
         rw[a2I (λq=>absurd (o.mpr q) a8d)]at m;have G:=bD0 A.in1 ⟨D,g,d,tk,os⟩ a t c u prog w
         wp_walk using G
         exact⟨_,rfl,by simpa using m⟩
  case fin=>
   rintro⟨Q,S⟩ s' ⟨p,rfl,vs,ws,ns',i,j,r,k,hlen,m⟩;simp only at p;subst p;have H:lexLt ns' i=decide (items.size < f.size):=by
    cases r with
    | nil=>
      cases k with
      | nil=>
        simp only[List.length_nil]at hlen;rw[wK];exact(a2M (by lia)).symm
      | cons c u hw=>
        simp only[List.length_nil,List.length_cons]at hlen;rw[pZ];exact(a3j (by lia)).symm
    | cons a t H=>
      cases k with
      | nil=>
        simp only[List.length_nil,List.length_cons]at hlen;rw[qA];exact(a2M (by lia)).symm
      | cons c u hw=>
        rw[List.zip_cons_cons]at j;cases j
   rw[H]at m
   wp_walk
   exact⟨_,rfl,by simpa[Builtin.Tuple.tupleCompareSizes]using m⟩
  case h=>
   exact⟨rfl,rfl,items.toList,f.toList,ns,C,rfl,hi,hj,by lia,h⟩
end
section
variable{prog:Program}{w:World}{A:Around}{E:Value->Shared->Prop}{s:Shared}
def lt_tupInts{l b:Addr}{items a:Array Value}{ns c:List Int}{Q:Value->Shared->Prop}(k:IsTup s.heap l items)(hb:IsTup s.heap b a)(hi:IntsAre items.toList ns)(hj:IntsAre a.toList c)
  (m:A.units < cLine) (h:Q (.bool (lexLt ns c)) s):wpAny (model prog w) A (compareOp .Lt (.ref l) (.ref b)) Q E s:=by
 obtain⟨⟨cls,o,data,sl⟩,g,i,n,hd⟩:=id k;obtain⟨⟨j,f,data2,sl2⟩,d,e,n2,hd2⟩:=id hb;simp only at i hd e hd2;subst i hd e hd2;exact richCompare_meets_room (op:=.Lt) ⟨_,g,rfl⟩ ⟨_,d,rfl⟩ F.slot_tuple_lt F.entry_tuple_lt (F.args_tuple_lt_2 _ _) (wL l b items a n n2 o f sl sl2 ns c hi hj)
  ⟨g,d,show Value.bool (lexLt ns c)≠Value.notImplemented/\Q (.bool (lexLt ns c)) s from⟨(λx=>nomatch x),h⟩⟩ m
def cat_tup{t b:Addr}{vs ws:List Value}{Q:Value->Shared->Prop}(l:IsTup s.heap t vs.toArray)(hb:IsTup s.heap b ws.toArray)(h:vs≠[])
  (m:ws=[]->Q (.ref t) s) (o:ws≠[]->Q (.ref s.heap.objs.size) {s with heap:=s.heap.push {cls:=.type "tuple",data:=.seq (vs++ws).toArray}})
  (hsz:vs.length+ws.length<=sizeLine):wpAny (model prog w) A (binaryOp .Add (.ref t) (.ref b)) Q E s:=by
 obtain⟨⟨cls,i,data,sl⟩,f,j,n,hd⟩:=id l;obtain⟨⟨k,c,data2,sl2⟩,a,d,n2,hd2⟩:=id hb;simp only at j hd d hd2;subst j hd d hd2;have e:vs.toArray++ws.toArray=(vs++ws).toArray:=by simp
 by_cases g:ws=[]
 ·exact concat_meets ⟨_,f,rfl⟩ ⟨_,a,rfl⟩ noFill_tuple_add seq_tuple_add F.slot_tuple_add F.entry_tuple_add (F.args_tuple_add_2 _ _)
   (tuple_addW1 t b vs.toArray ws.toArray n n2 i c sl sl2 (by simpa using h) (by simp[g])) ⟨f,a,m g⟩
 ·refine concat_meets ⟨_,f,rfl⟩ ⟨_,a,rfl⟩ noFill_tuple_add seq_tuple_add F.slot_tuple_add F.entry_tuple_add (F.args_tuple_add_2 _ _)
   (tuple_addW2 t b vs.toArray ws.toArray n n2 i c sl sl2 (by simpa using h) (by simpa using g) (by rw[List.size_toArray,List.size_toArray];exact hsz)) ⟨f,a,?_⟩
  rw[e];exact o g
noncomputable def sIx(n d:Nat):Option Int->Nat
 | none=>d
 | some v=>if v < 0 then(v+(n:Int)).toNat else min v.toNat n
def cD1(n d:Nat)(hd:d<=n)(o:Option Int):sIx n d o<=n:=by
 cases o with
 | none=>exact hd
 | some v=>
   show(if v < 0 then(v+(n:Int)).toNat else min v.toNat n)<=n;by_cases a:v < 0;rw[a2H a];lia;rw[a2I a];exact Nat.min_le_right _ _
def aT5(v:Int)(n d:Nat):(if v < 0 then max (v+(n:Int)) 0 else min v (n:Int))=((sIx n d (some v):Nat):Int):=by
 show(if v < 0 then max (v+(n:Int)) 0 else min v (n:Int))=(((if v < 0 then(v+(n:Int)).toNat else min v.toNat n):Nat):Int);by_cases a:v < 0;simp only[if_pos a];lia;simp only[if_neg a];lia
def aM9(lo hi:Option Int)(n:Nat):Builtin.Slice.sliceAdjust lo hi 1 (n:Int)=(((sIx n 0 lo:Nat):Int),((sIx n n hi:Nat):Int)):=by
 have a:¬ ((1:Int) < 0):=by lia
 unfold Builtin.Slice.sliceAdjust;simp only[a,if_false];refine Prod.ext ?_ ?_
 ·cases lo with
  | none=>rfl
  | some v=>exact aT5 v n 0
 ·cases hi with
  | none=>rfl
  | some v=>exact aT5 v n n
def aN0(i j:Nat):Builtin.Slice.slicePlaces (i:Int) (j:Int) 1=j-i:=by
 unfold Builtin.Slice.slicePlaces;have a:(1:Int) > 0:=by lia
 simp only[a,if_true,Int.ediv_one];split<;>lia
def qN{v:Value}{o:Option Int}{Q:Option Int->Shared->Prop}(p:IsPart v o)(h:Q o s):wpAny (model prog w) A (Builtin.Slice.slicePartIndex v) Q E s:=by
 cases p with
 | none=>exact slicePart_none h
 | int i t=>exact slicePart_int h
def gP{sl:Addr}{c d:Value}{lo hi:Option Int}{n:Nat}{Q:Int×Int×Nat->Shared->Prop}(hs:s.heap.IsSliceOf sl c d .none)(pl:IsPart c lo)(e:IsPart d hi)
  (h:Q (((sIx n 0 lo:Nat):Int),1,sIx n n hi-sIx n 0 lo) s):wpAny (model prog w) A (Builtin.Slice.sliceApplied (.ref sl) (pure (n:Int))) Q E s:=by
 obtain⟨os,a,f,b⟩:=id hs;unfold Builtin.Slice.sliceApplied Builtin.Slice.sliceFields;refine a2F (a2F (wpAny_field a b (x:=c) rfl (a2F (wpAny_field a b (x:=d) rfl (a2F (wpAny_field a b (x:=.none) rfl (a2G ?_)))))));refine a2F (slicePart_none ?_);show wpAny _ _ (if((1:Int)==0)=true then _ else _) _ _ s;rw[a2I (by decide)];refine a2F (qN pl (a2F (qN e (a2F (a2G ?_)))));show wpAny _ _ (match Builtin.Slice.sliceAdjust lo hi 1 (n:Int)with | (lo,hi)=>pure (lo,(1:Int),Builtin.Slice.slicePlaces lo hi 1)) _ _ s;rw[aM9 lo hi n];show wpAny _ _ (pure (((sIx n 0 lo:Nat):Int),(1:Int),Builtin.Slice.slicePlaces ((sIx n 0 lo:Nat):Int) ((sIx n n hi:Nat):Int) 1)) _ _ s;rw[aN0];exact a2G h
def bD1(xs:Array Value)(i k:Nat):((List.range k).filterMap λ(m:Nat)=>xs[((i:Int)+(m:Int)*1).toNat]?).toArray=((xs.toList.drop i).take k).toArray:=by
 have e:(λ(m:Nat)=>xs[((i:Int)+(m:Int)*1).toNat]?)=λm=>xs[i+m]?:=by
  funext m;have:((i:Int)+(m:Int)*1).toNat=i+m:=by lia
  rw[this]
 rw[e];have:=pick_run xs i k;rw[List.filterMap_map]at this;have a:((λx=>xs[x]?) ∘ λx=>i+x)=λm=>xs[i+m]?:=rfl;rw[a]at this;rw[this]
def getItem_tuple_cut{t sl:Addr}{items:Array Value}{g i:Value}{lo hi:Option Int}{Q:Value->Shared->Prop}(b:IsTup s.heap t items)(hs:s.heap.IsSliceOf sl g i .none)(pl:IsPart g lo)(j:IsPart i hi)
  (k:¬ (sIx items.size 0 lo=0/\sIx items.size items.size hi=items.size))
  (h:Q (.ref s.heap.objs.size) {s with heap:=s.heap.push {cls:=.type "tuple",data:=.seq ((items.toList.drop (sIx items.size 0 lo)).take (sIx items.size items.size hi-sIx items.size 0 lo)).toArray}})
  (hsz:items.size<=sizeLine):wpAny (model prog w) A (getItem (.ref t) (.ref sl)) Q E s:=by
 have a:sizeOk (.seq ((items.toList.drop (sIx items.size 0 lo)).take (sIx items.size items.size hi-sIx items.size 0 lo)).toArray):=by
  show((items.toList.drop (sIx items.size 0 lo)).take (sIx items.size items.size hi-sIx items.size 0 lo)).toArray.size<=sizeLine;rw[a1b,a8e,a9f,a0d];lia
 have hj:sIx items.size items.size hi<=items.size:=cD1 _ _ (a8a _) hi;obtain⟨os,c,d,l⟩:=id hs;have e:s.TypeIs (.ref sl) "slice":=⟨os,c,d⟩;unfold getItem
 try with_reducible refine a2L ?_
 first | refine a2F (a2G ?_) | skip
 refine a2F (wpAny_sequenceKey b.typeIs (by decide) ?_);refine a2F (wpAny_callSpecial?_slot (name:=Str.ofString "__getitem__") b.typeIs a3e
  (a2V a3e b.typeIs entry_tuple_getitem ?_ (args_tuple_getitem _ _)))
 show wpAny _ _ (Builtin.Tuple.tupleItemsOf (.ref t) >>= _) _ _ s;refine a2F (tupleItemsOf_ b ?_);refine a2F (a3m e ?_);rw[a2H (by decide)];refine a2F (gP hs pl j ?_);have f:¬ ((((sIx items.size 0 lo:Nat):Int)==0&&(1:Int)==1&&(sIx items.size items.size hi-sIx items.size 0 lo)==items.size)=true):=by
  intro q;rw[a9d,a9d]at q;have n:((sIx items.size 0 lo:Nat):Int)=0:=eq_of_beq q.1.1;have o:sIx items.size items.size hi-sIx items.size 0 lo=items.size:=eq_of_beq q.2;exact k ⟨by lia,by lia⟩
 show wpAny _ _ (if(((sIx items.size 0 lo:Nat):Int)==0&&(1:Int)==1&&(sIx items.size items.size hi-sIx items.size 0 lo)==items.size)=true then _ else _) _ _ s;rw[a2I f,bD1]
 first
  | exact a2F (m:=Builtin.Tuple.tupleExact _) (a2O (a2G ⟨_,rfl,a2G h⟩) a)
  | exact a2F (m:=Builtin.Tuple.tupleExact _) (a2O (a2F (a2G (a2G ⟨_,rfl,a2G h⟩))) a)
  | exact a2F (a2F (m:=Builtin.Tuple.tupleExact _) (a2O (a2G (a2G ⟨_,rfl,a2G h⟩)) a))
  | exact a2F (a2F (m:=Builtin.Tuple.tupleExact _) (a2O (a2G ⟨_,rfl,a2G h⟩) a))
end
end HT
namespace L2
open PySem PySem.Spec PyProof.Rows
abbrev TO:=St->Hp->(Option Int->Hp->Prop)->Prop
def PO(X:Cx)(e:Option Expr)(t:TO):Prop:=
 ∀ (pins:List (Addr×Obj)) (s:Shared) (σ:St) (H:Hp) (Q:Option Int->Hp->Prop),Inv X pins σ H s->t σ H Q ->
   wpAny (model X.prog X.w) X.A (evalPart e X.env) (λu s'=>∃ o H',Inv X pins σ H' s'/\IsPart u o/\Q o H') X.xe s
def bP8:TO:=λ_ H Q=>Q none H
def cN9(t:TE):TO:=λσ H Q=>t σ H λx a=>∃ i,x=.int i/\Q (some i) a
def qO{ns:List Int}:∀ {us:List Value},bW (ns.map V.int) us->IntsAre us ns:=by
 induction ns with
 | nil=>intro us r;rw[List.map_nil]at r;cases r;exact .nil
 | cons n ns a=>
   intro us r;rw[a1e]at r;cases r with
   | cons b c=>
     obtain⟨t,e⟩:=b;subst e;exact .cons n t (a c)
section
variable{X:Cx}{e:Expr}{te:TE}{lo hi:Option Expr}{tl th:TO}{pos p2:Pos}
def bP9:PO X none bP8:=by
 intro pins s σ H Q I h;rw[evalPart_none];exact a2G ⟨none,H,I,.none,h⟩
def bQ0(h:PE X e te):PO X (some e) (cN9 te):=by
 intro pins s σ H Q I a;rw[evalPart_some];refine thn (h pins s σ H _ I a) λu s1 Z0=>?_;obtain⟨x,b,c,d,f⟩:=Z0;obtain⟨i,rfl,q⟩:=f;obtain⟨t,rfl⟩:=d;exact⟨some i,b,c,.int i t,q⟩
def SlR(X:Cx)(r:V->Option Int->Option Int->Hp->VK->Prop):Prop:=
 ∀ (pins:List (Addr×Obj)) (s:Shared) (σ:St) (H:Hp) (x:V) (v a b:Value) (lo hi:Option Int) (sl:Addr) (Q:VK),Inv X pins σ H s->eH x v->s.heap.IsSliceOf sl a b .none->IsPart a lo->IsPart b hi->r x lo hi H Q ->
   ∃ T id,typeLookup (.type T) "__getitem__"=pure (some (.builtin id))/\s.TypeIs v T/\wpAny (model X.prog X.w) X.A (getItem v (.ref sl)) (EP X pins σ Q) X.xe s
def tSl(r:V->Option Int->Option Int->Hp->VK->Prop)(te:TE)(tl th:TO):TE:=λσ H Q=>te σ H λx a=>tl σ a λl b=>th σ b λu c=>r x l u c Q
def bD2{r:V->Option Int->Option Int->Hp->VK->Prop}(g:SlR X r)(i:PE X e te)(j:PO X lo tl)(k:PO X hi th):PE X (.Subscript e (.Slice lo hi none p2) pos) (tSl r te tl th):=by
 intro pins s σ H Q I h;refine Subscript_ (thn (i pins s σ H _ I h) λv s1 Z0=>?_);obtain⟨x,m,n,o,p⟩:=Z0;refine wpAny_Slice (thn (j pins s1 σ m _ n p) λc s2 ⟨l,t,y,pl,z⟩=>thn (k pins s2 σ t _ y z) λd a ⟨u,f,B,C,D⟩=>?_);rw[evalPart_none];refine a2G ?_;have E:Inv X pins σ f {a with heap:=a.heap.push {cls:=.type "slice",data:=.fields #[c,d,.none]}}:=B.kept (t':=a.toks) λb ob q=>a6a _ q;obtain⟨T,id,F,G,J⟩:=g pins {a with heap:=a.heap.push {cls:=.type "slice",data:=.fields #[c,d,.none]}} σ f x v c d l u a.heap.objs.size Q E o (Heap.IsSliceOf.new ..) pl C D;show wpAny (model X.prog X.w) X.A (subscriptTail e (.Slice lo hi none p2) v (.ref a.heap.objs.size)) (EP X pins σ Q) X.xe {a with heap:=a.heap.push {cls:=.type "slice",data:=.fields #[c,d,.none]}};exact tail_any (ops:=[.ref a.heap.objs.size,v]) G F J (by with_unfolding_all rfl)
noncomputable def aC1(xs:List V)(lo hi:Option Int):List V:=(xs.drop (HT.sIx xs.length 0 lo)).take (HT.sIx xs.length xs.length hi-HT.sIx xs.length 0 lo)
def oF(xs:List V)(lo hi:Option Int):(aC1 xs lo hi).length<=xs.length:=by
 unfold aC1;rw[a8e,a9f];lia
def cU3(K:W.Frag):V->Option Int->Option Int->Hp->VK->Prop:=λx lo hi H Q=>∃ a xs,x=.ref a/\SqT K H a xs /\
 ¬ (HT.sIx xs.length 0 lo=0/\HT.sIx xs.length xs.length hi=xs.length)/\∀ p,H p=none->Q (.ref p) (upd H p (.tup (aC1 xs lo hi)))
def cD2:SlR X (cU3 X.K):=by
 intro pins s σ H x v k l lo hi sl Q I f hs pl g h;obtain⟨a,xs,rfl,i,j,q⟩:=h;cases f;obtain⟨its,r,d,e⟩:=I.tuple i;have c:its.toArray.size=xs.length:=by rw[a1b];exact r.length.symm
 refine⟨"tuple",_,a3e.lookup,d.typeIs,?_⟩;refine HT.getItem_tuple_cut d hs pl g (by rw[c];exact j) ?_ (by rw[c];exact e);rw[c];refine⟨.ref s.heap.objs.size,_,I.laid (t':=s.toks) (o:=.tup (aC1 xs lo hi)) (λb ob q=>a6a _ q) (a8a _) ?_,rfl,q _ (I.hok.fresh (a8a _))⟩;exact⟨a6b (oF xs lo hi) e,_,(r.drop (HT.sIx xs.length 0 lo)).take (HT.sIx xs.length xs.length hi-HT.sIx xs.length 0 lo),IsTup.new _ _,⟨_,a3b _ rfl,rfl⟩⟩
def cU4(K:W.Frag):R2:=λx y H Q=>∃ a b ns c,x=.ref a/\y=.ref b/\SqT K H a (ns.map V.int)/\SqT K H b (c.map V.int)/\Q (.bl (HT.lexLt ns c)) H
def cD3(d:X.A.units < cLine):OpR X (compareOp .Lt) (cU4 X.K):=by
 intro pins s σ H x y v u Q I e f h;obtain⟨a,b,ns,ms,rfl,rfl,ha,hb,q⟩:=h;cases e;cases f;obtain⟨its,g,i,_⟩:=I.tuple ha;obtain⟨c,j,p2,_⟩:=I.tuple hb;have k:IntsAre its.toArray.toList ns:=qO g;have l:IntsAre c.toArray.toList ms:=qO j;exact HT.lt_tupInts i p2 k l d ⟨.bl (HT.lexLt ns ms),H,I,rfl,q⟩
def cO0(K:W.Frag):R2:=λx y H Q=>∃ a b xs ys,x=.ref a/\y=.ref b/\SqT K H a xs/\SqT K H b ys/\xs≠[]/\xs.length+ys.length<=sizeLine /\
 (ys=[]->Q (.ref a) H)/\(ys≠[]->∀ p,H p=none->Q (.ref p) (upd H p (.tup (xs++ys))))
def bW.nil_iff{xs:List V}{us:List Value}(r:bW xs us):us=[]↔xs=[]:=by
 cases r with
 | nil=>simp
 | cons _ _=>simp
def bQ1:OpR X (binaryOp .Add) (cO0 X.K):=by
 intro pins s σ H x y v u Q I g i h;obtain⟨a,b,xs,ys,rfl,rfl,ha,hb,j,e,k,l⟩:=h;cases g;cases i;obtain⟨its,d,m,_⟩:=I.tuple ha;obtain⟨f,c,p2,_⟩:=I.tuple hb;refine HT.cat_tup m p2 (λz=>j (d.nil_iff.mp z)) (λz=>⟨.ref a,H,I,rfl,k (c.nil_iff.mp z)⟩) (λz=>?_) (by rw[← d.length,← c.length];exact e);refine⟨.ref s.heap.objs.size,_,I.laid (t':=s.toks) (o:=.tup (xs++ys)) (λb ob q=>a6a _ q) (a8a _) ?_,rfl,l (λw=>z (c.nil_iff.mpr w)) _ (I.hok.fresh (a8a _))⟩;exact⟨by rw[a9a];exact e,_,d.append c,IsTup.new _ _,⟨_,a3b _ rfl,rfl⟩⟩
end
noncomputable def ixN(n:Nat)(i:Int):Option Nat:=if 0<=i then(if i < n then some i.toNat else none)else if -(n:Int)<=i then some (i+n).toNat else none
noncomputable def atI{α:Type}(xs:List α)(i:Int):Option α:=(ixN xs.length i).bind λj=>xs[j]?
def aC2{n:Nat}{i:Int}{j:Nat}(h:ixN n i=some j):seqIndex? i n=some j/\j < n /\ -(n:Int)<=i/\i < n:=by
 unfold ixN at h;by_cases h0:0<=i;rw[a2H h0]at h;by_cases a:i < n;rw[a2H a]at h;have e:i.toNat=j:=a5a h;exact⟨by rw[seqIndex_of h0 a,e],by lia,by lia,a⟩;rw[a2I a]at h;cases h;rw[a2I h0]at h;by_cases a:-(n:Int)<=i;rw[a2H a]at h;have e:(i+n).toNat=j:=a5a h;exact⟨by rw[seqIndex_neg (by lia) a,e],by lia,a,by lia⟩;rw[a2I a]at h;cases h
def aC3{a:Type}{xs:List a}{i:Int}{v:a}(h:atI xs i=some v):∃ j,seqIndex? i xs.length=some j/\xs[j]? = some v/\j < xs.length /\ -(xs.length:Int)<=i/\i < xs.length:=by
 unfold atI at h;cases e:ixN xs.length i with
 | none=>rw[e]at h;cases h
 | some j=>
   rw[e]at h;obtain⟨b,c,d,f⟩:=aC2 e;exact⟨j,b,h,c,d,f⟩
def bQ2{a:Type}{xs:List a}{j:Nat}{v:a}(h:xs[j]? = some v):atI xs (j:Int)=some v:=by
 have hj:j < xs.length:=(a0a.mp h).1;have e:ixN xs.length (j:Int)=some j:=by
  unfold ixN;rw[a2H (by lia),a2H (by lia)];simp
 unfold atI;rw[e];exact h
def aT6(b:Expr):Prop:=∀ o i,subscripted b false o i=operate [o,i] (getItem o i)
def IxR(X:Cx)(r:R2):Prop:=
 ∀ (b a:Expr) (pins:List (Addr×Obj)) (s:Shared) (σ:St) (H:Hp) (x y:V) (v u:Value) (Q:VK),Inv X pins σ H s->eH x v->eH y u->r x y H Q ->
   subscripted a false v u=operate [v,u] (getItem v u)->wpAny (model X.prog X.w) X.A (subscriptTail b a v u) (EP X pins σ Q) X.xe s
def MtR(X:Cx)(id:String)(r:V->List V->Hp->VK->Prop):Prop:=
 ∀ (pins:List (Addr×Obj)) (s:Shared) (σ:St) (H:Hp) (x:V) (xs:List V) (v:Value) (us:List Value) (Q:VK),Inv X pins σ H s->eH x v->bW xs us->r x xs H Q ->
   wpAny (model X.prog X.w) X.A (call (.builtin id) (v::us)) (EP X pins σ Q) X.xe s
section
variable{X:Cx}{a b:Expr}{ta tb:TE}{pos:Pos}
def cO1{r:R2}(c:IxR X r)(ha:PE X a ta)(hb:PE X b tb)(hs:aT6 b):PE X (.Subscript a b pos) (tOp r ta tb):=by
 intro pins s σ H Q I h;exact Subscript_ (cN0 ha hb I h λv u s2 x y d e f g q=>c a b pins s2 σ d x y v u Q e f g q (hs _ _))
def cU5(K:W.Frag):R2:=λx y H Q=>∃ p xs i v,x=.ref p/\y=.int i/\SqL K H p xs/\atI xs i=some v/\Q v H
def cU6(K:W.Frag):R2:=λx y H Q=>∃ p xs i v,x=.ref p/\y=.int i/\SqT K H p xs/\atI xs i=some v/\Q v H
def cU7:R2:=λx y H Q=>∃ z i c,x=.str z/\y=.int i/\z.length<=sizeLine/\atI z.cps.toList i=some c/\Q (.str ⟨#[c]⟩) H
def bQ3:IxR X (cU5 X.K):=by
 intro b c pins s σ H x y v u Q I f g h hs;obtain⟨p,xs,i,z,rfl,rfl,k,l,q⟩:=h;cases f;obtain⟨t,rfl⟩:=g;obtain⟨its,r,pl,B⟩:=I.list k;obtain⟨j,a,m,C,n,o⟩:=aC3 l;obtain⟨w,e,d⟩:=r.get m;have A:=r.length;have hn:=qM;have fin:EP X pins σ Q w s:=⟨z,H,I,d,q⟩;by_cases h0:0<=i
 ·have hj:i.toNat=j:=by
   rw[seqIndex_of h0 o]at a;exact a5a a
  exact item_listR pl.isList h0 (by lia) (by rw[hj];simpa using e) fin hs
 ·have hj:(i+(its.toArray.size:Int)).toNat=j:=by
   rw[seqIndex_neg (by lia) n]at a;rw[a1b,← A];exact a5a a
  exact subscriptTail_builtinR (x:=w) pl.isList.typeIs slot_list_getitem.lookup
   (wpAny_getItem_list_neg (Q:=λr s'=>r=w/\EP X pins σ Q r s') pl.isList (by lia) (by rw[a1b]<;>lia) (by lia) (by rw[hj];simpa using e) ⟨rfl,fin⟩) hs
def cD4:IxR X (cU6 X.K):=by
 intro a b pins s σ H x y v u Q I d e h hs;obtain⟨p,xs,i,z,rfl,rfl,f,g,q⟩:=h;cases d;obtain⟨t,rfl⟩:=e;obtain⟨its,r,pl,o⟩:=I.tuple f;obtain⟨j,k,l,A,B,C⟩:=aC3 g;obtain⟨w,m,c⟩:=r.get l;have n:=r.length;have hn:=qM;have fin:EP X pins σ Q w s:=⟨z,H,I,c,q⟩;exact subscriptTail_builtinR (x:=w) pl.typeIs slot_tuple_getitem.lookup
  (getItem_tuple (j:=j) (Q:=λr s'=>r=w/\EP X pins σ Q r s') pl (by lia) (by lia) (by rw[a1b,← n];exact k) (by simpa using m) ⟨rfl,fin⟩) hs
def cD5:IxR X cU7:=by
 intro a b pins s σ H x y v u Q I e f h hs;obtain⟨z,i,c,rfl,rfl,r,g,q⟩:=h;obtain⟨t,rfl⟩:=e;obtain⟨w,rfl⟩:=f;obtain⟨j,d,k,A,l,m⟩:=aC3 g;have n:z.cps.toList.length=z.length:=by simp[Str.length]
 rw[n]at d l m;have hn:=qM;exact tail_any (typeIs_str s z t) slot_str_getitem.lookup (getItem_str (c:=c) (by
  have o:decide (i < -(2 ^ 63:Int))=false:=a2M (by lia);have p:decide (i ≥ 2 ^ 63)=false:=a2M (by lia);rw[o,p,Bool.or_false]) (by rw[d];simpa using k) ⟨.str ⟨#[c]⟩,H,I.tok _,⟨_,rfl⟩,q⟩) hs
def aN1(its:List Value)(n j:Nat)(u:Value):Obj.mapSeq (·.setIfInBounds j u) {cls:=.type "list",data:=.seq its.toArray n}={cls:=.type "list",data:=.seq (its.set j u).toArray n}:=by
 simp[Obj.mapSeq]
theorem Inv.lst{pins:List (Addr×Obj)}{σ:St}{H:Hp}{s:Shared}{p:Addr}{xs:List V}(I:Inv X pins σ H s)(h:H p=some (.lst xs)) :
  ∃ (its:List Value) (n:Nat),bW xs its/\s.heap.get? p=some {cls:=.type "list",data:=.seq its.toArray n}/\xs.length<=sizeLine:=by
 obtain⟨z,its,n,r,e⟩:=I.hok p _ h;exact⟨its,n,r,e,z⟩
def Inv.lstUpd{pins:List (Addr×Obj)}{σ:St}{H:Hp}{s:Shared}{p:Addr}{xs ys:List V}{its its':List Value}{n a:Nat}{f:Obj->Obj}(I:Inv X pins σ H s)(h:H p=some (.lst xs))
  (d:s.heap.get? p=some {cls:=.type "list",data:=.seq its.toArray n}) (c:f {cls:=.type "list",data:=.seq its.toArray n}={cls:=.type "list",data:=.seq its'.toArray a}) (r:bW ys its') (hz:ys.length<=sizeLine) (t:Nat) :
  Inv X pins σ (upd H p (.lst ys)) {s with heap:=s.heap.update p f,toks:=t}:=by
 have e:(s.heap.update p f).get? p=some {cls:=.type "list",data:=.seq its'.toArray a}:=by
  rw[a2e f d (by rw[c]<;>rfl),c]
 refine I.write (x:=p) (e:=p) (by rw[h];trivial) (.inl rfl) (λb u hb q=>(a0e _ _ (a9c hb)).trans q) ⟨_,e⟩ ?_;exact⟨hz,its',a,r,e⟩
def cD6:V->V->V->Hp->(Hp->Prop)->Prop:=λo i v H Q=>∃ p xs k j,o=.ref p/\i=.int k/\H p=some (.lst xs)/\ixN xs.length k=some j/\Q (upd H p (.lst (xs.set j v)))
def wM:cR2 X cD6:=by
 intro pins s σ H o i v ov y u Q I m ri w h;obtain⟨p,xs,k,j,rfl,rfl,e,hj,q⟩:=h;cases m;obtain⟨t,rfl⟩:=ri;obtain⟨its,n,r,b,x⟩:=I.lst e;obtain⟨a,z,f,g⟩:=aC2 hj;have c:=r.length;have hn:=qM;have l:Inv X pins σ (upd H p (.lst (xs.set j v))) {s with heap:=s.heap.update p (Obj.mapSeq (·.setIfInBounds j u))}:=
  I.lstUpd e b (aN1 its n j u) (r.set w j) (by rw[a3f];exact x) s.toks
 by_cases h0:0<=k
 ·have d:k.toNat=j:=by
   rw[seqIndex_of h0 g]at a;exact a5a a
  exact W.ki_setAt b h0 (by lia) (by rw[a1b,← c];exact g) (by rw[d];exact⟨_,l,q⟩)
 ·have d:(k+(its.toArray.size:Int)).toNat=j:=by
   rw[seqIndex_neg (by lia) f]at a;rw[a1b,← c];exact a5a a
  exact W.ki_setBack b (by lia) (by rw[a1b,← c];exact f) (by lia) (by rw[d];exact⟨_,l,q⟩)
def yH(lo hi:Option Int)(n:Nat):(sliceBounds lo hi none n).1=((HT.sIx n 0 lo:Nat):Int)/\(sliceBounds lo hi none n).2.1=((HT.sIx n n hi:Nat):Int)/\(sliceBounds lo hi none n).2.2=1:=by
 refine⟨?_,?_,rfl⟩
 ·cases lo with
  | none=>simp[sliceBounds,HT.sIx]
  | some i=>
    simp only[sliceBounds,HT.sIx,Option.getD_none,show(1:Int) > 0 by decide,if_true];by_cases h:i < 0;simp only[h,if_true]<;>lia;simp only[h,if_false]<;>lia
 ·cases hi with
  | none=>simp[sliceBounds,HT.sIx]
  | some i=>
    simp only[sliceBounds,HT.sIx,Option.getD_none,show(1:Int) > 0 by decide,if_true];by_cases h:i < 0;simp only[h,if_true]<;>lia;simp only[h,if_false]<;>lia
def wN(its:List Value)(lo hi:Option Int):slicePick its.toArray lo hi none=((its.drop (HT.sIx its.length 0 lo)).take (HT.sIx its.length its.length hi-HT.sIx its.length 0 lo)).toArray:=by
 obtain⟨a,b,c⟩:=yH lo hi its.toArray.size;unfold slicePick;rw[a,b,c];simp only[sliceRange_one,pick_run,List.size_toArray]<;>rfl
def cU8(K:W.Frag):V->Option Int->Option Int->Hp->VK->Prop:=λx lo hi H Q=>∃ a xs,x=.ref a/\SqL K H a xs/\∀ p,H p=none->Q (.ref p) (upd H p (.lst (aC1 xs lo hi)))
def bQ4:SlR X (cU8 X.K):=by
 intro pins s σ H x v j k lo hi sl Q I e hs pl f h;obtain⟨a,xs,rfl,g,q⟩:=h;cases e;obtain⟨its,r,d,i⟩:=I.list g;have c:=r.length;refine⟨"list",_,slot_list_getitem.lookup,d.isList.typeIs,?_⟩;refine wpAny_getItem_list_slice d.isList hs pl f .none (by simp) ?_ (by rw[List.size_toArray]<;>lia);rw[wN,← c];refine⟨.ref s.heap.objs.size,_,I.laid (t':=s.toks) (o:=.lst (aC1 xs lo hi)) (λb ob q=>a6a _ q) (a8a _) ?_,rfl,q _ (I.hok.fresh (a8a _))⟩;exact⟨a6b (oF xs lo hi) i,_,0,(r.drop (HT.sIx xs.length 0 lo)).take (HT.sIx xs.length xs.length hi-HT.sIx xs.length 0 lo),a3b _ rfl⟩
def mU:jO X (.builtin "len") (λxs H Q=>∃ p ys,xs=[.ref p]/\(SqL X.K H p ys\/SqT X.K H p ys)/\Q (.int ys.length) H):=by
 intro pins s σ H xs us Q I r h;obtain⟨p,ys,rfl,b,q⟩:=h;obtain⟨u,rfl,d⟩:=aC0 r;cases d;have hn:=qM;rcases b with b | b;obtain⟨its,c,pl,e⟩:=I.list b;have a:=c.length;exact Calls.call_len_list pl.isList (by simp only[List.size_toArray]<;>lia) ⟨.int ys.length,H,I.tok _,⟨s.toks+1,by rw[a1b,a]⟩,q⟩;obtain⟨its,c,pl,e⟩:=I.tuple b;have a:=c.length;exact len_tuple pl (by simp only[List.size_toArray]<;>lia) ⟨.int ys.length,H,I.tok _,⟨s.toks+1,by rw[a1b,a]⟩,q⟩
def yI:jO X (.builtin "len") (λxs H Q=>∃ z,xs=[.str z]/\z.length<=sizeLine/\Q (.int z.length) H):=by
 intro pins s σ H xs us Q I r h;obtain⟨z,rfl,a,q⟩:=h;obtain⟨u,rfl,t,rfl⟩:=aC0 r;have hn:=qM;exact len_str (by lia) ⟨.int z.length,H,I.tok _,⟨_,rfl⟩,q⟩
def mV:jO X (.type "list") (λxs H Q=>∃ p ys,xs=[.ref p]/\(SqL X.K H p ys\/SqT X.K H p ys)/\∀ l,H l=none->Q (.ref l) (upd H l (.lst ys))):=by
 intro pins s σ H xs us Q I r h;obtain⟨p,ys,rfl,d,q⟩:=h;obtain⟨u,rfl,k⟩:=aC0 r;cases k;have fin:∀ (its:List Value),bW ys its->ys.length<=sizeLine->∀ (h':Heap) (a:Nat),(∀ b o',s.heap.get? b=some o'->h'.get? b=some o') ->
   h'.get? s.heap.objs.size=some {cls:=.type "list",dict:=none,data:=.seq its.toArray a,slots:=#[]}->EP X pins σ Q (.ref s.heap.objs.size) {s with heap:=h'}:=λits c f h' a kp e=>
  ⟨.ref s.heap.objs.size,_,I.laid (t':=s.toks) kp (a8a _) (show cL X.prog X.w _ h' _ (.lst ys)from⟨f,its,a,c,e⟩),rfl,q _ (I.hok.fresh (a8a _))⟩
 rcases d with d | d;obtain⟨its,c,pl,f⟩:=I.list d;have g:=c.length;obtain⟨o,i,j,n,hd⟩:=pl.isList;exact call_list_seq p (.inl rfl) i j hd (λh' a kp e=>fin its c f h' a kp e) (by simp only[List.size_toArray]<;>lia);obtain⟨its,c,pl,f⟩:=I.tuple d;have g:=c.length;obtain⟨o,i,j,n,hd⟩:=pl;exact call_list_seq p (.inr rfl) i j hd (λh' a kp e=>fin its c f h' a kp e) (by simp only[List.size_toArray]<;>lia)
def jP:jO X (.type "tuple") (λxs H Q=>∃ p ys,xs=[.ref p]/\((SqL X.K H p ys/\∀ l,H l=none->Q (.ref l) (upd H l (.tup ys)))\/(SqT X.K H p ys/\Q (.ref p) H))):=by
 intro pins s σ H xs us Q I r h;obtain⟨p,ys,rfl,h⟩:=h;obtain⟨u,rfl,i⟩:=aC0 r;cases i;rcases h with⟨a,q⟩ | ⟨a,q⟩
 ·obtain⟨its,c,pl,d⟩:=I.list a;have f:=c.length;refine call_tuple_list pl.isList (λh' kp=>?_) (by simp only[List.size_toArray]<;>lia);have g:Inv X pins σ H {s with heap:=h'}:=I.kept (t':=s.toks) kp;have j:Inv X pins σ (upd H h'.objs.size (.tup ys)) {s with heap:=h'.push {cls:=.type "tuple",data:=.seq its.toArray}}:=
   g.laid (t':=s.toks) (λb o e=>a6a _ e) (a8a _) (show cL X.prog X.w _ _ _ (.tup ys)from⟨d,its,c,IsTup.new _ _,⟨_,a3b _ rfl,rfl⟩⟩)
  exact⟨.ref h'.objs.size,_,j,rfl,q _ (g.hok.fresh (a8a _))⟩
 ·obtain⟨its,c,pl,d⟩:=I.tuple a;exact call_tuple_same pl ⟨.ref p,H,I,rfl,q⟩
def tyV(K:W.Frag)(T:String)(x:V)(H:Hp):Prop:=match x with
 | .str _=>T="str"
 | .int _=>T="int"
 | .ref p=>(T="list"/\∃ xs,SqL K H p xs)\/(T="tuple"/\∃ o,K.lookup p=some o/\o.cls=.type "tuple"/\o.dict=none) \/
   (T="dict"/\((∃ kvs,H p=some (.dK kvs))\/∃ kvs,H p=some (.dT kvs)))\/(T="set"/\∃ S n,H p=some (.set S n))
 | _=>False
def cD7{pins:List (Addr×Obj)}{σ:St}{H:Hp}{s:Shared}{T:String}{x:V}{v:Value}(I:Inv X pins σ H s)(r:eH x v)(ty:tyV X.K T x H) :
  s.TypeIs v T/\∀ a,v=.ref a->∃ ob,s.heap.get? a=some ob/\ob.dict=none:=by
 cases x with
 | str z=>
   obtain⟨t,rfl⟩:=r;cases (show T="str" from ty);exact⟨typeIs_str s z t,λ_ e=>nomatch e⟩
 | int i=>
   obtain⟨t,rfl⟩:=r;cases (show T="int" from ty);exact⟨typeIs_int s i t,λ_ e=>nomatch e⟩
 | ref p=>
   cases r;rcases ty with⟨rfl,xs,f⟩ | ⟨rfl,o,b,g,hd⟩ | ⟨rfl,b⟩ | ⟨rfl,S,n,b⟩;obtain⟨its,_,pl,_⟩:=I.list f;refine⟨pl.isList.typeIs,λa e=>?_⟩;cases e;obtain⟨o,n,e,c,hd,_⟩:=pl;exact⟨o,e,hd⟩;refine⟨⟨o,I.kIn p o b,g⟩,λa e=>?_⟩;cases e;exact⟨o,I.kIn _ o b,hd⟩
   ·have z:∃ o,s.heap.get? p=some o/\o.ExactDict:=by
     rcases b with⟨kvs,b⟩ | ⟨kvs,b⟩;obtain⟨_,_,_,_,o,_,_,e,ex,_⟩:=I.hok p _ b;exact⟨o,e,ex⟩;obtain⟨_,_,_,_,o,_,_,e,ex,_⟩:=I.hok p _ b;exact⟨o,e,ex⟩
    obtain⟨o,e,ex⟩:=z;refine⟨⟨o,e,ex.1⟩,λa d=>?_⟩;cases d;exact⟨o,e,ex.2.1⟩
   ·obtain⟨o,_,_,_,e,ex,_⟩:=I.hok p _ b;refine⟨⟨o,e,ex.1⟩,λa d=>?_⟩;cases d;exact⟨o,e,ex.2.1⟩
 | _=>exact False.elim ty
def tBM(K:W.Frag)(T:String)(r:V->List V->Hp->VK->Prop)(to:TE)(t:TA):TE:=λσ H Q=>to σ H λx a=>tyV K T x a/\t σ a λxs b=>r x xs b Q
variable{o e:Expr}{es:List Expr}{to:TE}{t:TA}{name:Str}{apos cpos:Pos}{T id:String}{r:V->List V->Hp->VK->Prop}
def cO2(pa:PlainAttrs T)(slot:Slot T name id)(f:typeOf (.builtin id)=pure (.type "method_descriptor"))(hm:MtR X id r)(k:PE X o to)(ha:PA X (e::es) t)
  (b:attributeBase o name X.env (eval o X.env)=eval o X.env:=by rfl)
  (d:((backTo cpos (starEach (e::es) X.env)).all (λx=>!x.1)&&(backToKw cpos (keywordEach [] X.env)).all (λx=>x.1.isSome)
   && decide ((e::es).length+([]:List Keyword).length+(if([]:List Keyword).isEmpty then 0 else 1) < 30))=true:=by rfl)
  (c:(apos.endLine==cpos.line)=true:=by rfl) (hs:starEach (e::es) X.env=(false,eval e X.env)::starEach es X.env:=by rfl) (a:(backTo cpos (starEach es X.env)).any (·.1)=false:=by rfl) :
  PE X (.Call (.Attribute o name apos) (e::es) [] cpos) (tBM X.K T r to t):=by
 intro pins s σ H Q I h;refine wpAny_Call_method_late b d c rfl (thn (k pins s σ H _ I h) λv s1 Z0=>?_);obtain⟨x,l,g,i,ty,m⟩:=Z0;obtain⟨n,p⟩:=cD7 g i ty;refine⟨T,id,pa,slot,f,n,p,?_⟩;have j:=ha cpos pins s1 σ l _ g m;rw[hs]at j ⊢;refine Calls.callWith_builtin (by show(false||(backTo cpos (starEach es X.env)).any (·.1))=false;rw[a]<;>rfl) (Calls.evalArgs_plain ?_);exact thn j λus s2 ⟨vs,q,u,w,y⟩=>hm pins s2 σ q x vs v us Q u i w y
end
def MtM(X:Cx)(id:String)(r:V->List V->Hp->VK->Prop):Prop:=
 ∀ (pins:List (Addr×Obj)) (s:Shared) (σ:St) (H:Hp) (x:V) (xs:List V) (v:Value) (us:List Value) (Q:VK),Inv X pins σ H s->eH x v->bW xs us->r x xs H Q ->
   wpAny (model X.prog X.w) X.A (call (.builtin id) (v::us)) (EP X pins σ Q) X.xe s
def bW.one:∀ {x:V} {us:List Value},bW [x] us->∃ u,us=[u]/\eH x u
 | _,_,.cons r .nil=>⟨_,rfl,r⟩
theorem bW.eraseIdx:∀ {xs:List V} {us:List Value} (i:Nat),bW xs us->bW (xs.eraseIdx i) (us.eraseIdx i)
 | _,_,_,.nil=>.nil
 | _,_,0,.cons _ t=>t
 | _,_,i+1,.cons r t=>.cons r (bW.eraseIdx i t)
theorem yJ{a:Type}:∀ (l:List a) (i:Nat),(l.eraseIdx i).length<=l.length
 | [],_=>a8a _
 | _::_,0=>Nat.le_succ _
 | _::r,i+1=>Nat.succ_le_succ (yJ r i)
section
variable{X:Cx}{pins:List (Addr×Obj)}{σ:St}{H:Hp}{s:Shared}{l b:Addr}{xs ys zs:List V}
def Inv.lset{its its':List Value}{n:Nat}{f:Array Value->Array Value}{t':Nat}(I:Inv X pins σ H s)(a:H l=some (.lst xs))
  (e:s.heap.get? l=some {cls:=.type "list",data:=.seq its.toArray n}) (b:f its.toArray=its'.toArray) (c:bW ys its') (hz:ys.length<=sizeLine) :
  Inv X pins σ (upd H l (.lst ys)) {s with heap:=s.heap.update l (Obj.mapSeq f),toks:=t'}:=by
 have q:=PySem.IsL.update e f;rw[b]at q;refine I.write (x:=l) (e:=l) (by rw[a];exact trivial) (.inl rfl) (λg u hb d=>(a0e s.heap (Obj.mapSeq f) (a9c hb)).trans d) ⟨_,q⟩ ?_;exact⟨hz,its',_,c,q⟩
def Inv.lnew{its:List Value}{t':Nat}(I:Inv X pins σ H s)(a:bW ys its)(hz:ys.length<=sizeLine) :
  Inv X pins σ (upd H s.heap.objs.size (.lst ys)) {s with heap:=s.heap.push {cls:=.type "list",data:=.seq its.toArray},toks:=t'}:=
 I.laid (λ_ _ q=>a6a _ q) (a8a _) ⟨hz,its,0,a,a3b _ rfl⟩
theorem Inv.fresh(I:Inv X pins σ H s):H s.heap.objs.size=none:=I.hok.fresh (a8a _)
def Inv.lstM(I:Inv X pins σ H s)(a:H l=some (.lst xs)):xs.length<=sizeLine/\∃ (its:List Value) (n:Nat),bW xs its/\xs.length=its.length/\s.heap.get? l=some {cls:=.type "list",data:=.seq its.toArray n}:=by
 obtain⟨z,its,n,r,e⟩:=I.hok l _ a;exact⟨z,its,n,r,r.length,e⟩
def aH6{n:Nat}(h:n<=sizeLine):Builtin.List.listTooLong n=false:=by
 unfold Builtin.List.listTooLong;exact a2M (by lia)
end
section
variable{X:Cx}
def oG:V->List V->Hp->VK->Prop:=λx vs H Q=>∃ l xs y,x=.ref l/\vs=[y]/\H l=some (.lst xs)/\xs.length < sizeLine/\Q .non (upd H l (.lst (xs++[y])))
def jQ:MtM X "list.append" oG:=by
 intro pins s σ H x vs v us Q I b c h;obtain⟨l,xs,y,rfl,rfl,a,f,q⟩:=h;cases b;obtain⟨u,rfl,d⟩:=c.one;obtain⟨z,its,n,r,g,e⟩:=I.lstM a;refine a3t F.slot_list_append ⟨_,e,rfl⟩ F.entry_list_append (F.args_list_append_2 _ _) (PySem.list_append l its.toArray n u (by rw[a1b];lia)) ⟨e,?_⟩;refine⟨.non,_,I.lset (its':=its++[u]) a e (by simp) (r.append (.cons d .nil)) ?_,rfl,q⟩;rw[a9a,List.length_singleton];lia
def bQ5:V->List V->Hp->VK->Prop:=λx vs H Q=>∃ l b xs zs,x=.ref l/\vs=[.ref b]/\H l=some (.lst xs)/\H b=some (.lst zs)/\xs.length+zs.length<=sizeLine/\Q .non (upd H l (.lst (xs++zs)))
def cD8:MtM X "list.extend" bQ5:=by
 intro pins s σ H x vs v us Q I g i h;obtain⟨l,b,xs,t,rfl,rfl,f,j,w,q⟩:=h;cases g;obtain⟨u,rfl,k⟩:=i.one;cases k;obtain⟨z,its,n,r,y,e⟩:=I.lstM f;obtain⟨A,a,n2,m,o,p⟩:=I.lstM j;have d:its.toArray.size+a.toArray.size<=sizeLine:=by rw[a1b,a1b];lia
 have c:¬ (!its.toArray.isEmpty&&Builtin.List.listTooLong (its.toArray.size+a.toArray.size))=true:=by
  rw[aH6 d,Bool.and_false];exact a8d
 refine a3t F.slot_list_extend ⟨_,e,rfl⟩ F.entry_list_extend (F.args_list_extend_2 _ _)
  (AutoSeq1.list_extend_list_list_0 l its.toArray n b a.toArray n2 c (by rw[a1b];lia) (by lia)) ⟨e,p,?_⟩
 refine⟨.non,_,I.lset (its':=its++a) f e (by simp) (r.append m) ?_,rfl,q⟩;rw[a9a];lia
def bK8:V->List V->Hp->VK->Prop:=λx vs H Q=>∃ l xs i k y,x=.ref l/\vs=[.int i]/\H l=some (.lst xs) /\ -(2 ^ 63)<=i/\i < 2 ^ 63/\seqIndex? i xs.length=some k/\xs[k]? = some y/\Q y (upd H l (.lst (xs.eraseIdx k)))
def bD3:MtM X "list.pop" bK8:=by
 intro pins s σ H x vs v us Q I c d h;obtain⟨l,xs,i,k,y,rfl,rfl,b,f,g,j,m,q⟩:=h;cases c;obtain⟨u,rfl,o⟩:=d.one;obtain⟨t,rfl⟩:=o;obtain⟨z,its,n,r,p,e⟩:=I.lstM b;obtain⟨w,A,a⟩:=r.get m;refine a3t F.slot_list_pop ⟨_,e,rfl⟩ F.entry_list_pop (F.args_list_pop_2 _ _)
  (MeetsSeq.list_pop_at l its.toArray n i t k w (fitsIndex_both f g) (by rw[a1b,← p];exact j) (by rw[← a5b];exact A) (by rw[a1b];lia)) ⟨e,?_⟩
 refine⟨y,_,I.lset (its':=its.eraseIdx k) b e ?_ (r.eraseIdx k) ?_,a,q⟩;show its.toArray.eraseIdxIfInBounds k=(its.eraseIdx k).toArray;rw[List.eraseIdxIfInBounds_toArray];have:=yJ xs k;lia
def cU9:R2:=λx y H Q=>∃ l b xs zs,x=.ref l/\y=.ref b/\H l=some (.lst xs)/\H b=some (.lst zs)/\xs.length+zs.length<=sizeLine/\∀ p,H p=none->Q (.ref p) (upd H p (.lst (xs++zs)))
def cD9:OpR X (binaryOp .Add) cU9:=by
 intro pins s σ H x y v u Q I c d h;obtain⟨l,b,xs,o,rfl,rfl,f,g,p,q⟩:=h;cases c;cases d;obtain⟨z,its,n,r,t,e⟩:=I.lstM f;obtain⟨w,a,n2,i,j,k⟩:=I.lstM g;refine PySem.P.add_list e k ?_ (by rw[a1b,a1b];lia);have m:its.toArray++a.toArray=(its++a).toArray:=by simp
 rw[m];exact⟨.ref _,_,I.lnew (t':=s.toks) (r.append i) (by rw[a9a];lia),rfl,q _ I.fresh⟩
end
section
variable{prog:Program}{w:World}{A:Around}{E:Value->Shared->Prop}{s:Shared}
set_option maxRecDepth 100000 in
end
section
variable{X:Cx}
end
end L2
namespace Att
open PySem PySem.W PySem.Calls PyProof.Rows
def oH{P:Params}{h:Heap}:∀ (ns:List Int) (vs:List Value),WellAll P h vs (ns.map WData.int)->IntsAre vs ns:=by
 intro ns
 induction ns with
 | nil=>
   intro vs w;rw[List.map_nil]at w;cases w;exact .nil
 | cons n ns c=>
   intro vs w;rw[a1e]at w;cases w with
   | cons a b=>
     cases a;exact .cons _ _ (c _ b)
def aT7{l:OpenLaw}{n:Nat}(hn:l.most=some n){P:Params}{h:Heap}{args:List WData}{vals:List Value}
  (b:l.row.toRowW.claim.pre args=true) (i:WellAll P h vals args) :
  ∃ a vs ns,vals=[Value.ref a]/\args=[WData.list (ns.map WData.int)]/\h.get? a=some {cls:=.type "list",data:=.seq vs.toArray}/\IntsAre vs ns/\ns.length<=n:=by
 have j:WShape.hasAll [] args [.list .int]=true:=(pre_splitW b).1;have k:l.pre.holds [] {args:=args}=true:=(pre_splitW b).2;obtain⟨d,r,rfl,m,o⟩:=hasAllW_cons j;obtain rfl:=hasAllW_nil o;obtain⟨xs,rfl,p⟩:=hasW_list m;obtain⟨ns,rfl⟩:=items_int p;have c:ns.length<=n:=by
  unfold OpenLaw.pre at k;have f:(WTm.not (.lt (.lit (.int (n:Int))) (.len (.arg 0)))).holds [] {args:=[.list (ns.map .int)]}=true:=by
   have f:=(holds_andW k).1;rw[hn]at f;exact f
  have g:=condW_of f (w_not (w_lt w_lit (w_len_list (w_arg rfl))));rw[a7a]at g;refine a7i λq=>?_;have s:(n:Int) < ((ns.length:Nat):Int):=by lia
  first
   | (rw[a3j s]at g;exact absurd g (by decide))
   | (simp at g;lia)
 cases i with
 | cons t u=>
   cases u;cases t with
   | list v e=>exact⟨_,_,ns,rfl,rfl,v,oH ns _ e,c⟩
def aT8(l:OpenLaw)(args:List WData):l.row.toRowW.claim.post args (.bool true) args=true:=
 postW_of (r:=l.row.toRowW) (X:=(true==true))
  (show WShape.has [] (.bool true) .bool=true by first | rfl | decide | simp[WShape.has,WShape.arms,WShape.armsAll])
  (show(WTm.eq .res (.lit (.bool true))).value [] {args:=args,res:=some (.bool true),after:=args}=some (.bool (true==true))from w_eq_bool (w_res rfl) w_lit) rfl
def attach_call{l:OpenLaw}{n:Nat}{q:Program}{c:List Str}{u:(Str->Option Value)->Heap->Prop}{v:World->Heap->Prop}{d:DefRec}
  (hn:l.most=some n) (m:d.params.defaults=[])
  (call:∀ (w:World) (s₀ b:Shared) (mg mb:Str->Option Value) (g:Addr) (o:Obj) (pm k doc:Value) (a:Addr) (vs:List Value) (ns:List Int),
   Ground q c [] u w s₀ mg mb b.heap->v w b.heap ->
   b.heap.get? g=some o->o.data=.func (docDef d.name d.params d.body d.scope pm k doc)->b.heap.CodeRec k d.name->mg d.name=some (.ref g) ->
   b.heap.get? a=some {cls:=.type "list",data:=.seq vs.toArray}->IntsAre vs ns->ns.length<=n->b.gens=#[] ->
   codeAny (model l.prog w) callerA (.call (.ref g) ⟨[.ref a],[]⟩) (λr s'=>r=.ok (.ret (.bool true))/\OldK b.heap s'.heap/\s'.os=b.os/\AllBare s'.gens) b) :
  WalkO q c u v l.row.toRowW d [] (λf vs=>PySem.call f vs):=by
 intro w s₀ b mg mb G Y g o pm k doc z kV A hd p x s B args vals as h y C t D;obtain rfl:z=.none:=Dflts.none x m;obtain rfl:kV=.none:=Dflts.noKw x;obtain⟨a,vs,ns,rfl,rfl,i,e,j⟩:=aT7 hn h t;refine enter_call (a3p (call w s₀ b mg mb g o pm k doc a vs ns G Y A (fd_plain hd) p s i e j B) λr s' E=>?_);obtain⟨rfl,F,H,I⟩:=E;exact⟨.inl ⟨.bool true,.bool true,[],rfl,λ_=>rfl,.bool true,aT8 l _,λ_=>⟨List.Pairwise.nil,λ_ hm=>(nomatch hm)⟩⟩,F,H,I⟩
section
variable{prog:Program}{w:World}{A:Around}{E:Value->Shared->Prop}{s:Shared}{K:Frag}
end
end Att
namespace L2
open PySem PySem.Spec PyProof.Rows
theorem yK:∀ {vs:List Value} {ns:List Int},IntsAre vs ns->bW (ns.map V.int) vs
 | _,_,.nil=>.nil
 | _,_,.cons n t h=>.cons ⟨t,rfl⟩ (yK h)
def cE0(H:Hp):Prop:=∀ b,H b=none\/∃ o xs,H b=some (.frz o (.lst xs))
def bD4{P:Program}{w:World}{K:W.Frag}{mg mb:Str->Option Value}{CX:CXT}{k:Nat}{G a:Addr}{fd:FuncData}{x:Str}{sp:Sp}{c:Shared}{vs:List Value}{ns:List Int}
  (R:K.In c.heap) (t:c.heap.Ns mainGlobals mg) (hb:c.heap.Ns builtinsNs mb) (I:∀ x:Str,x≠"__name__"->mb x=bootBuiltins x) (y:c.heap.NoLimit) (Z:c.gens=#[])
  (ha:c.heap.get? a=some {cls:=.type "list",data:=.seq vs.toArray}) (hi:IntsAre vs ns) (S:ns.length<=sizeLine) (hr:Room k callerA)
  (F:∀ base:Heap,K.In base->base.Ns mainGlobals mg->FnOk P w K mg base CX k G fd [x] sp) (l:∀ (s:Shared) (u:Value),BindsTo s fd ⟨[u],[]⟩ [(x,u)])
  (J:∀ H:Hp,cE0 H->SqL K H a (ns.map V.int)->sp [.ref a] H (λv _=>v=.bl true) λ_ _ _=>False)
  (L:∀ H e s',CX [] H c (λ_ _ _=>False) e s'->False) :
  codeAny (model P w) callerA (.call (.ref G) ⟨[.ref a],[]⟩) (λr s'=>r=.ok (.ret (.bool true))/\OldK c.heap s'.heap/\s'.os=c.os/\AllBare s'.gens) c:=by
 have T:=yK hi;have A:=hi.length
 -- from an abstract heap in M nothing but B g may be tracked
 have j:∀ H:Hp,cE0 H->SqL K H a (ns.map V.int)->HOk P w H c.heap->(∀ b,H b≠none->b=a)->(H a≠none->K.lookup a=none) ->
   codeAny (model P w) callerA (.call (.ref G) ⟨[.ref a],[]⟩) (λr s'=>r=.ok (.ret (.bool true))/\OldK c.heap s'.heap/\s'.os=c.os/\AllBare s'.gens) c:=by
  intro H U hS hok X hK;have f:∀ {b:Addr} {o:Obj},c.heap.get? b=some o->H b=none->(bC3 c.heap H).get? b=some o:=λe n=>bC4 e n;have N:∀ {b:Addr} {o:Obj} {es:Array DictEntry} {ep:Nat},c.heap.get? b=some o->o.data=.dict es ep->H b=none:=λ{b o es ep} e d=>by
   cases q:H b with
   | none=>rfl
   | some u=>
     have O:b=a:=X b (by rw[q];simp);subst O;rw[ha]at e;cases e;have d':Data.seq vs.toArray _=Data.dict es ep:=d;cases d'
  have i:∀ {b:Addr} {m:Str->Option Value},c.heap.Ns b m->(bC3 c.heap H).Ns b m:=λ{b m} ⟨o,es,ep,e,d,r⟩=>⟨o,es,ep,f e (N e d),d,r⟩;have C:K.In (bC3 c.heap H):=λb o e=>f (R b o e) (by
   cases q:H b with
   | none=>rfl
   | some u=>
     have O:b=a:=X b (by rw[q];simp);subst O;rw[hK (by rw[q];simp)]at e;cases e)
  have hM:Mod K mg (bC3 c.heap H):=⟨C,i t,⟨mb,i hb,I⟩,let ⟨mc,h1,h2⟩:=y;⟨mc,i h1,h2⟩⟩;have e0:Env0 P w K mg (bC3 c.heap H) callerA [] c H:=⟨rfl,hM,λb o e=>bO6 e,Nat.le_of_eq (aS3 _ _),trivial,λb hb=>absurd (show b∈([]:List Addr)from hb) (by simp),hok,.of_eq Z⟩;refine a3p ((F _ C (i t)).run callerA [] c H ⟨[.ref a],[]⟩ [.ref a] [.ref a] _ _ hr e0 (l c (.ref a)) (.cons rfl .nil) (J H U hS)) λr s' h=>?_;cases r with
  | error e=>exact(L H e s' h).elim
  | ok fl=>
    cases fl with
    | next=>exact False.elim h
    | brk=>exact False.elim h
    | cont=>exact False.elim h
    | ret u=>
      obtain⟨v,H',os,bare,un,D,r',q⟩:=h;have q':v=.bl true:=q;subst q';obtain rfl:u=Value.bool true:=r';refine⟨rfl,OldK.of_keep λb o e=>?_,os,bare⟩;cases q:H b with
      | none=>exact un.keep b o e q (by intro z;exact absurd (show b∈([]:List Addr)from z) (by simp)) (by simp)
      | some u=>
        rcases U b with z | ⟨ob,xs,z⟩;rw[q]at z;cases z;have z2:=un.frzs b ob _ z;obtain⟨Y,_⟩:=hok b _ z;obtain⟨e2,_⟩:=D b _ z2;rw[e]at Y;cases Y;exact e2
 cases Q:K.lookup a with
 | some o=>
   -- B g is one of B p own objects
   have e:=R a o Q;rw[ha]at e;cases e;refine j (λ_=>none) (λ_=>.inl rfl) (.inr ⟨_,vs.toArray,_,Q,rfl,rfl,rfl,by rw[a1b,A];exact S,by simpa using T⟩) (λb u z=>by have E:(none:Option HO)=some u:=z;cases E) (λb z=>absurd rfl z) λz=>absurd rfl z
 | none=>
   refine j (λb=>if b=a then some (.frz {cls:=.type "list",data:=.seq vs.toArray} (.lst (ns.map V.int)))else none) (λb=>?_) (.inl (.inr ⟨{cls:=.type "list",data:=.seq vs.toArray},a2H rfl⟩)) (λb u z=>?_) (λb z=>?_) λ_=>Q;by_cases hb:b=a;exact .inr ⟨_,_,a2H hb⟩;exact .inl (a2I hb);by_cases hb:b=a;have E:=(a2H hb).symm.trans z;cases E;subst hb;exact⟨ha,by rw[a7a];exact S,vs,_,T,ha⟩;have E:=(a2I hb).symm.trans z;cases E;by_cases hb:b=a;exact hb;exact absurd (a2I hb) z
def bQ6{l:W.OpenLaw}{n k:Nat}{q:Program}{i:List Str}{E:(Str->Option Value)->Heap->Prop}{C:World->Heap->Prop}{d:DefRec}{K:Params->W.Frag}{CX:World->CXT}{sp:World->Sp}{x:Str}
  (hn:l.most=some n) (t:n<=sizeLine) (y:d.params.defaults=[]) (I:Room k callerA)
  (J:∀ (w:World) (h:Heap),C w h->(K w.params).In h)
  (F:∀ (w:World) (mg:Str->Option Value) (r:Addr) (h:Heap),(K w.params).In h->h.Ns mainGlobals mg->mg d.name=some (.ref r) ->
   ∃ fd:FuncData,(∀ (s:Shared) (u:Value),BindsTo s fd ⟨[u],[]⟩ [(x,u)]) /\
     ∀ base:Heap,(K w.params).In base->base.Ns mainGlobals mg->FnOk l.prog w (K w.params) mg base (CX w) k r fd [x] (sp w))
  (z:∀ (w:World) (H:Hp) (a:Addr) (ns:List Int),ns.length<=n->cE0 H->SqL (K w.params) H a (ns.map V.int)->sp w [.ref a] H (λv _=>v=.bl true) λ_ _ _=>False)
  (A:∀ (w:World) (H:Hp) (s:Shared) (e:Value) (s':Shared),CX w [] H s (λ_ _ _=>False) e s'->False) :
  W.WalkO q i E C l.row.toRowW d [] (λf vs=>PySem.call f vs):=by
 refine Att.attach_call hn y λw s₀ m mg mb r o pm Q doc a vs ns G Y R hd L B p j c M=>?_;have D:=J w _ Y;obtain⟨fd,hb,N⟩:=F w mg r _ D G.T.g B;exact bD4 D G.T.g G.T.b G.T.builtins G.T.nolimit M p j (a6b c t) I N hb (λH O P=>z w H a ns c O P) λH e s'=>A w H m e s'
noncomputable def aC4(s:Stmt):Arguments:=match s with
 | .FunctionDef _ a _ _ _ _ _ _ _ _=>a
 | _=>{posonlyargs:=[],args:=[],vararg:=none,kwonlyargs:=[],kw_defaults:=[],kwarg:=none,defaults:=[]}
noncomputable def kR(s:Stmt):List Stmt:=match s with
 | .FunctionDef _ _ b _ _ _ _ _ _ _=>b
 | _=>[]
noncomputable def aM(s:Stmt):Scope:=match s with
 | .FunctionDef _ _ _ _ _ _ sc _ _ _=>sc
 | _=>{kind:=.function,names:=[],isGenerator:=false,isCoroutine:=false}
abbrev CX0:CXT:=λ_ _ _ _ _ _=>False
abbrev E0:XK:=λ_ _ _=>False
def bB{X:Cx}:aT3 CX0 X E0:=λ_ _ _ _ _ _ _ h=>h.elim
structure Fun(K:W.Frag)(x qual:Str)(st:Stmt)(f:Addr)(fd:FuncData):Prop where
 ex:∃ (oc:Value) (od:Option Addr) (kV doc pm:Value) (an:Option Addr) (cdv ct:Value) (osl:Array (Option Value)),
  fd=W.fnOf x qual (aC4 st) (kR st) (aM st) .none kV doc pm an cdv ct/\K.lookup f=some ⟨oc,od,.func fd,osl⟩/\W.codeIn K cdv qual=true
 kp:W.keepIn K (.ref f)=true
section
variable{P:Program}{w:World}{K:W.Frag}{mg:Str->Option Value}{base:Heap}
theorem Fun.ok{x qual:Str}{st:Stmt}{f:Addr}{fd:FuncData}{N ps:List Str}{k:Nat}{sp:Sp}(F:Fun K x qual st f fd)(S:FnScope N ps (aM st))(len:∀ vs H Q E,sp vs H Q E->vs.length=ps.length)
  (a:∀ (cdv:Value) (A:Around) (outer:List Env) (s:Shared) (H:Hp) (vs:List V) (Q:VK) (E:XK),Room k (A.deeper (envOfC qual (aM st) s.heap.objs.size f cdv))->sp vs H Q E ->
   ∃ t,PSs (bK7 CX0 P w K mg base N qual (aM st) f cdv A outer s H E).nox (kR st) t/\t {nx:=λ_ H'=>Q .non H',rt:=Q} (hC N vs) H):FnOk P w K mg base CX0 (k+1) f fd ps sp:=by
 obtain⟨oc,od,kV,doc,pm,an,cdv,ct,osl,rfl,lk,b⟩:=F.ex;refine cN8 lk b S len λA outer s H vs Q E d c=>?_;obtain⟨t,h,q⟩:=a cdv A outer s H vs Q E d c;exact⟨t,h.nox,q⟩
def Fun.binds{x qual:Str}{st:Stmt}{f:Addr}{fd:FuncData}{ps:List Str}(F:Fun K x qual st f fd)
  (h:∀ (kV doc pm:Value) (an:Option Addr) (cdv ct:Value) (us:List Value),us.length=ps.length->bindArgs (W.fnOf x qual (aC4 st) (kR st) (aM st) .none kV doc pm an cdv ct) ⟨us,[]⟩=pure (ps.zip us)):eP K fd ps []:=by
 obtain⟨oc,od,kV,doc,pm,an,cdv,ct,osl,rfl,lk,a⟩:=F.ex;exact .all (h kV doc pm an cdv ct)
end
def bQ7{A:Around}{k:Nat}(a:Room k A):A.units+1 < cLine:=Nat.lt_of_le_of_lt (Nat.add_le_add_left (by decide:1<=64) _) a.units
section
variable{X:Cx}
def pv(i:Nat){x:Str}{pos:Pos}(b:X.N[i]? = some x:=by rfl)(c:Vis X.env.scope x:=by first | exact Or.inl rfl | exact Or.inr (Or.inl rfl) | exact Or.inr (Or.inr rfl))(hd:(x==("__debug__":Str))=false:=by decide)
  (a:(x==("__classdict__":Str))=false:=by decide):PE X (.Name x pos) (bB9 i):=cB1 b c hd a
end
def xY(H H':Hp):Prop:=∀ b o,H b=some o->H' b=some o
def xY.refl(H:Hp):xY H H:=λ_ _ h=>h
def aN2{scope:Scope}{env:Env}(h:∀ y∈scope.names,y.2=.free->∃ c,env.cells.lookup y.1=some c) :
  ∃ cl:List (Str×Addr),closureFor scope env=pure cl/\(∀ x c,cl.lookup x=some c->env.cells.lookup x=some c)/\∀ y∈scope.names,y.2=.free->∃ c,cl.lookup y.1=some c:=by
 have p:∀ (l:List (Str×NameKind)) (acc:List (Str×Addr)),(∀ y∈l,y.2=.free->∃ c,env.cells.lookup y.1=some c)->(∀ x c,acc.lookup x=some c->env.cells.lookup x=some c) ->
   ∃ cl:List (Str×Addr),((forIn l acc λ(x:Str×NameKind) (r:List (Str×Addr))=>if(x.2==NameKind.free)=true then do let a ← cellOf env x.1;pure (ForInStep.yield ((x.1,a)::r))else pure (ForInStep.yield r)):Sem (List (Str×Addr)))=pure cl /\
     (∀ x c,cl.lookup x=some c->env.cells.lookup x=some c)/\(∀ x c,acc.lookup x=some c->∃ d,cl.lookup x=some d)/\∀ y∈l,y.2=.free->∃ c,cl.lookup y.1=some c:=by
  intro l
  induction l with
  | nil=>intro acc _ ha;exact⟨acc,rfl,ha,λx c e=>⟨c,e⟩,λ_ b=>nomatch b⟩
  | cons y r t=>
    intro acc q ha;obtain⟨n,k⟩:=y;rw[List.forIn_cons];by_cases i:(k==NameKind.free)=true
    ·have s:k=.free:=by simpa using i
     obtain⟨c,u⟩:=q (n,k) a3a s;have v:cellOf env n=pure c:=by unfold cellOf;rw[u]
     obtain⟨cl,e,f,j,g⟩:=t ((n,c)::acc) (λy b=>q y (a4a _ b)) (λx d e=>by
      rw[a2i]at e;split at e
      ·rename_i m;have:x=n:=by simpa using m
       cases e;rw[this];exact u
      ·exact ha x d e)
     have has:∃ d,cl.lookup n=some d:=j n c (by rw[a2i];simp);refine⟨cl,?_,f,λx d e=>?_,λy b o=>?_⟩;simp only[i,if_true,v];exact e
     ·by_cases m:x=n;subst m;exact has;exact j x d (by rw[a2i];have:(x==n)=false:=by simpa using m
                                                       rw[this];exact e)
     ·rcases a7b.mp b with rfl | b;exact has;exact g y b o
    ·obtain⟨cl,e,f,j,g⟩:=t acc (λy b=>q y (a4a _ b)) ha;refine⟨cl,?_,f,j,λy b o=>?_⟩;simp only[i];exact e;rcases a7b.mp b with rfl | b;exact absurd (by simpa using o) i;exact g y b o
 obtain⟨cl,e,f,_,g⟩:=p scope.names [] h (λx c e=>nomatch e);refine⟨cl,?_,f,g⟩;unfold closureFor;simp only[bind_pure];exact e
def hW{a:Type}{x n:Str}{v:a}{r:List (Str×a)}(h:(x==n)=true):List.lookup x ((n,v)::r)=some v:=by rw[a2i,h]
def dN{a:Type}{x n:Str}{v:a}{r:List (Str×a)}(h:(x==n)=false):List.lookup x ((n,v)::r)=List.lookup x r:=by rw[a2i,h]
def bK9{scope:Scope}{env:Env}{x:Str}(h:(relabel scope env).names.lookup x=some .cell\/(relabel scope env).names.lookup x=some .free)(d:∀ y∈scope.names,y.2≠.cell) :
  (x,NameKind.free)∈scope.names:=by
 unfold relabel at h;dsimp only at h;revert h d;generalize scope.names=l;intro h d
 induction l with
 | nil=>rcases h with h | h<;>cases h
 | cons y r i=>
   obtain⟨n,k⟩:=y;rw[a1e]at h;dsimp only at h;have c:=λh=>i h λy j=>d y (a4a _ j);have f:k≠.cell:=d (n,k) a3a;by_cases e:(k==NameKind.free&&env.scope.kind==.function&&env.kindOf n==some .cell)=true
   ·have g:k=.free:=by
     simp only[Bool.and_eq_true,beq_iff_eq]at e;exact e.1.1
    rw[a2H e]at h;cases b:x==n with
    | true=>
      have a:x=n:=by simpa using b
      subst a g;exact a3a
    | false=>
      rw[dN b]at h;exact a4a _ (c h)
   ·rw[a2I e]at h;cases b:x==n with
    | true=>
      have a:x=n:=by simpa using b
      rw[hW b]at h;subst a;rcases h with h | h;exact absurd (a5a h) f
      ·rw[a5a h];exact a3a
    | false=>
      rw[dN b]at h;exact a4a _ (c h)
def jR{scope:Scope}{env:Env}{x:Str}(h:(relabel scope env).names.lookup x=some .cell\/(relabel scope env).names.lookup x=some .free) :
  (x,NameKind.free)∈scope.names\/scope.names.lookup x=some .cell:=by
 unfold relabel at h;dsimp only at h;revert h;generalize scope.names=l;intro h
 induction l with
 | nil=>rcases h with h | h<;>cases h
 | cons y r e=>
   obtain⟨n,k⟩:=y;rw[a1e]at h;dsimp only at h;by_cases c:(k==NameKind.free&&env.scope.kind==.function&&env.kindOf n==some .cell)=true
   ·have d:k=.free:=by
     simp only[Bool.and_eq_true,beq_iff_eq]at c;exact c.1.1
    rw[a2H c]at h;cases a:x==n with
    | true=>
      have b:x=n:=by simpa using a
      subst b d;exact .inl a3a
    | false=>
      rw[dN a]at h;rcases e h with z | z;exact .inl (a4a _ z)
      ·exact .inr (by rw[dN a];exact z)
   ·rw[a2I c]at h;cases a:x==n with
    | true=>
      have b:x=n:=by simpa using a
      rw[hW a]at h;subst b;rcases h with h | h;exact .inr (by rw[hW a];exact h)
      ·rw[a5a h];exact .inl a3a
    | false=>
      rw[dN a]at h;rcases e h with z | z;exact .inl (a4a _ z);exact .inr (by rw[dN a];exact z)
theorem cF:∀ (names:List (Str×NameKind)) (n:Nat) (acc:List (Str×Addr)),cellsFrom n names acc=cellsFrom n names []++acc
 | [],n,acc=>rfl
 | (x,k)::r,n,acc=>by
   unfold cellsFrom;split;rw[cF r (n+1) ((x,n)::acc),cF r (n+1) [(x,n)],List.append_assoc];rfl;exact cF r n acc
theorem gG:∀ (names:List (Str×NameKind)) (n:Nat) (x:Str) (c:Addr),(x,c)∈cellsFrom n names []->(x,NameKind.cell)∈names
 | [],n,x,c,h=>nomatch h
 | (y,k)::r,n,x,c,h=>by
   unfold cellsFrom at h;split at h
   ·rename_i b;have a:k=.cell:=by simpa using b
    rw[cF]at h;rcases a3c.mp h with z | z;exact a4a _ (gG r _ x c z);have e:=a8b.mp z;cases e;rw[a];exact a3a
   ·exact a4a _ (gG r _ x c h)
theorem cT:∀ (names:List (Str×NameKind)) (n:Nat) (x:Str),(x,NameKind.cell)∈names->∃ c,(cellsFrom n names []).lookup x=some c
 | [],n,x,h=>nomatch h
 | (y,k)::r,n,x,h=>by
   have a:∀ m,(x,NameKind.cell)∈r->∃ c,(cellsFrom m r []).lookup x=some c:=λm hm=>cT r m x hm;unfold cellsFrom;split
   ·rename_i b;rw[cF,List.lookup_append];rcases a7b.mp h with z | z
    ·cases z;cases e:(cellsFrom (n+1) r []).lookup y with
     | some c=>exact⟨c,rfl⟩
     | none=>exact⟨n,by simp⟩
    ·obtain⟨c,d⟩:=a (n+1) z;exact⟨c,by rw[d];rfl⟩
   ·rename_i b;rcases a7b.mp h with z | z;cases z;exact absurd rfl b;exact a n z
def bQ8{M:Model}{A:Around}{E:Value->Shared->Prop}{s:Shared}{scope:Scope}{globals:Addr}{cl:List (Str×Addr)}{qual:Str}{env:Env}{Q:Env->Shared->Prop}
  (c:Q (newEnv scope s.heap.objs.size globals (cellsFrom (s.heap.objs.size+1) scope.names cl) qual none .none (some env) builtinsNs) {s with heap:=pushCells (s.heap.push {cls:=.type "dict",data:=.dict #[]}) scope.names}) :
  wpAny M A (newFunctionEnv scope globals cl [] qual none .none (some env)) Q E s:=by
 simp only[newFunctionEnv,Option.isSome_some,if_true];refine a2F (wpAny_alloc ?_);refine a2F (wpAny_layCells _ (λb kind cells=>by cases a:kind==NameKind.cell<;>simp[a]) _ _ _ _ ?_);rw[show({s with heap:=s.heap.push {cls:=.type "dict",data:=.dict #[]}}:Shared).heap.objs.size=s.heap.objs.size+1 from Heap.size_push ..];refine a2F ?_;rw[List.forIn_nil];exact a2G (a2G c)
def wO{scope:Scope}{env:Env}{x:Str}(h:(relabel scope env).names.lookup x=some .local):scope.names.lookup x=some .local:=by
 unfold relabel at h;dsimp only at h;revert h;generalize scope.names=l;intro h
 induction l with
 | nil=>cases h
 | cons y r b=>
   obtain⟨n,k⟩:=y;rw[a1e]at h;dsimp only at h;by_cases c:(k==NameKind.free&&env.scope.kind==.function&&env.kindOf n==some .cell)=true
   ·rw[a2H c]at h;cases a:x==n with
    | true=>rw[hW a]at h;cases h
    | false=>rw[dN a]at h ⊢;exact b h
   ·rw[a2I c]at h;cases a:x==n with
    | true=>rw[hW a]at h ⊢;exact h
    | false=>rw[dN a]at h ⊢;exact b h
def Inv.adopt{X:Cx}{pins:List (Addr×Obj)}{σ:St}{H:Hp}{s:Shared}{a:Addr}{o:HO}(I:Inv X pins σ H s)(hn:H a=none)(g:X.s₀.heap.objs.size<=a)(h:a≠X.env.locals)
  (i:∀ x c,X.env.cells.lookup x=some c->c≠a) (j:∀ p∈X.pn++pins,p.1≠a) (d:cL X.prog X.w (upd H a o) s.heap a o):Inv X pins σ (upd H a o) s:=by
 have ne:∀ b u,H b=some u->b≠a:=λb u e=>dE e hn;refine⟨I.ok,I.os,I.bare,⟨I.base.keep,I.base.slot,λb ob q n k=>?_,I.base.there,λb xs q=>?_,λb ob u q=>?_,λb ps q=>?_⟩,I.loc,I.cell,?_,λx c e=>?_,λp f=>?_,λb u e=>?_,I.len⟩;rw[aL (a4d (a1c (a4b q) g))];exact I.base.free b ob q n k;have:=I.base.tups b xs q;rw[aL (ne b _ this)];exact this;have:=I.base.frzs b ob u q;rw[aL (ne b _ this)];exact this;obtain⟨m,this⟩:=I.base.tbls b ps q;exact⟨m,by rw[aL (ne b _ this)];exact this⟩;rw[aL (a9c h)];exact I.free;rw[aL (i x c e)];exact I.freeC x c e;obtain⟨e,n,r⟩:=I.pin p f;exact⟨e,by rw[aL (j p f)];exact n,r⟩;by_cases hb:b=a;subst hb;rw[aQ]at e;cases e;exact d;rw[aL hb]at e;exact(I.hok b u e).stay (λc v _ q=>q) (λc q=>by rw[aL (ne c _ q)];exact q) λc xs q=>by rw[aL (ne c _ q)];exact q
def aC5{prog:Program}{w:World}{A:Around}{R:Result->Shared->Prop}{s:Shared}{elt a iter:Expr}{l:List Expr}{scope:Scope}{pos:Pos}{it acc:Value}{env:Env}(I:Nat->Shared->Prop)
  (o:∀ n s,I n s->wpAny (model prog w) A (pyNext it) (λr e=>match r with
   | none=>R (.ok .next) e
   | some v=>wpAny (model prog w) A (letOwnedTupleGo a it v) (λ_ f=>wpAny (model prog w) A (assign a env v) (λ_ i=>
     wpAny (model prog w) A (forIn l true λc r=>if r=true then do let ok ← isTrue c env (eval c env);pure (ForInStep.yield ok)else pure (ForInStep.yield r)) (λok g=>
      if ok=true then wpAny (model prog w) A (eval elt env) (λx j=>
       wpAny (model prog w) A (call (.builtin "list.append") [acc,x]) (λ_ k=>∃ m,m < n/\I m k) (λ_ _=>False) j) (λ_ _=>False) g
      else ∃ m,m < n/\I m g) (λ_ _=>False) i) (λ_ _=>False) f) (λ_ _=>False) e) (λ_ _=>False) s)
  (n:Nat) (h:I n s) :
  codeAny (model prog w) A (.compLoop (.ListComp elt [⟨a,iter,l,0⟩] scope pos) 0 it acc env) R s:=by
 refine codeAny_loop rfl I (λn s u=>?_) n h;show wpAny _ A ((compTurn (.ListComp elt [⟨a,iter,l,0⟩] scope pos) 0 it acc env).onRaise (λx=>do noteFrame x env;theTreesLotGoes x)) _ _ s;refine wpAny_noted ?_;rw[compTurn_list];refine a2F (a3s (a2F (a2Q (o n s u) (λr e d=>?_) λ_ _ h'=>h'.elim)));cases r with
 | none=>exact a2G d
 | some v=>
   refine a2F (a2Q d (λ_ f d=>?_) λ_ _ h'=>h'.elim);refine a2F (a2Q d (λ_ i p=>a2F (a2Q p (λok g b=>?_) λ_ _ h'=>h'.elim)) λ_ _ h'=>h'.elim);cases ok with
   | true=>
     simp only[if_true]at b ⊢;refine a2F (a2F (a2Q b (λx j q=>a2F (a2Q q (λ_ k t=>a2G (a2G ⟨rfl,t⟩)) λ_ _ h'=>h'.elim)) λ_ _ h'=>h'.elim))
   | false=>
     simp only[Bool.false_eq_true,if_false]at b ⊢
     first
      | exact a2F (a2G (a2G ⟨rfl,b⟩))
      | exact a2G ⟨rfl,b⟩
noncomputable abbrev cxC(X:Cx)(scope:Scope)(cl:List (Str×Addr))(ex:List Addr)(s:Shared)(H:Hp):Cx:=
 {X with s₀:=s,H₀:=H,env:=compEnvC scope cl s.heap.objs.size X.env,outer:=X.stack,ex:=ex,fn:=λx=>scope.names.lookup x==some .cell,xe:=λ_ _=>False}
noncomputable def blank(own:List Nat)(σ:St):St:=own.foldl (λσ i=>σ.set i none) σ
theorem mW:∀ (own:List Nat) (σ:St),(blank own σ).length=σ.length
 | [],_=>rfl
 | i::r,σ=>(mW r (σ.set i none)).trans (by simp)
theorem kS:∀ (own:List Nat) (σ:St) (i:Nat) (v:V),(blank own σ)[i]? = some (some v)->i∉own/\σ[i]? = some (some v)
 | [],_,_,_,h=>⟨by simp,h⟩
 | j::r,σ,i,v,h=>by
   obtain⟨b,a⟩:=kS r (σ.set j none) i v h;by_cases e:i=j;subst e;rw[List.getElem?_set]at a;simp at a;rw[a2a (a9c e)]at a;exact⟨by simp[e,b],a⟩
def cE1(own:List Nat)(g:TG):Prop:=∀ x σ H Q,g x σ H Q->g x σ H λσ' H'=>Q σ' H'/\σ'.length=σ.length/\∀ i,i∉own->σ'[i]? = σ[i]?
def bH{own:List Nat}{i:Nat}(h:i∈own):cE1 own (pY i):=λx σ H Q q=>
 ⟨q,by simp,λj hj=>List.getElem?_set_ne (λe:i=j=>hj (by rw[← e];exact h))⟩
def bL0(X:Cx)(a:List Expr)(t:TT):Prop:=
 ∀ (pins:List (Addr×Obj)) (s:Shared) (σ:St) (H:Hp) (Q:Bool->Hp->Prop),Inv X pins σ H s->t σ H Q ->
   wpAny (model X.prog X.w) X.A (forIn a true λc r=>if r=true then do let ok ← isTrue c X.env (eval c X.env);pure (ForInStep.yield ok)else pure (ForInStep.yield r)) (TP X pins σ Q) X.xe s
def cO3:TT:=λ_ H Q=>Q true H
def bD5{X:Cx}:bL0 X [] cO3:=λ_ _ _ H _ I h=>wpAny_tests_nil ⟨H,I,h⟩
def bD6{X:Cx}{c:Expr}{t:TT}(h:PT X c t):bL0 X [c] t:=λpins s σ H Q I q=>wpAny_tests_one (h pins s σ H Q I q)
structure CompScope(X:Cx)(scope:Scope)(own:List Nat):Prop where
 kind:scope.kind=.function
 cells:∀ y∈scope.names,y.2=.cell->scope.names.lookup y.1=some .cell
 names:∀ y∈scope.names,y.2=.local->scope.names.lookup y.1=some .local
 free:∀ y∈scope.names,y.2=.free->X.env.kindOf y.1=some .cell\/X.env.kindOf y.1=some .free
 own:∀ i x,X.N[i]? = some x->(scope.names.lookup x=some .local\/scope.names.lookup x=some .cell)->i∈own
 calm:X.calm=true
def bL1(own:List Nat)(d:TI)(g:TG)(e:TT)(f:TE)(σ:St)(H:Hp)(F:List V->Hp->Prop):Prop:=
 d σ H λJ h=>∃ W:Nat->Nat->List V->Hp->Prop,(∃ m,W 0 m [] h)/\∀ i m ys H,W i m ys H->ys.length<=sizeLine /\
  ((J.stop i H/\F ys H)\/(J.go i H/\∀ x H',J.yld i H x H'->g x (blank own σ) H' λa j=>e a j λb c=>
    if b=true then f a c λv k=>∃ m',m' < m/\W (i+1) m' (ys++[v]) k else ∃ m',m' < m/\W (i+1) m' ys c))
def aT9(own:List Nat)(a:TI)(g:TG)(b:TT)(c:TE):TE:=λσ H Q=>bL1 own a g b c σ H λys H'=>∀ p,H' p=none->Q (.ref p) (upd H' p (.lst ys))
structure Stray(X:Cx)(pins:List (Addr×Obj))(H:Hp)(b:Addr):Prop where
 un:H b=none
 loc:b≠X.env.locals
 young:X.s₀.heap.objs.size<=b
 cell:∀ x c,X.env.cells.lookup x=some c->c≠b
 pin:∀ p∈X.pn++pins,p.1≠b
def Inv.stray{X:Cx}{pins:List (Addr×Obj)}{σ:St}{H H':Hp}{s:Shared}{b:Addr}(I:Inv X pins σ H s)(hb:s.heap.objs.size<=b)(hn:H' b=none):Stray X pins H' b:=by
 obtain⟨a,c,f,g,d,e⟩:=I.fpOk hb hn;exact⟨a,c,a6b I.sz hb,d,e⟩
set_option maxHeartbeats 8000000 in
def aN3{X:Cx}{tg iter elt:Expr}{ifs:List Expr}{scope:Scope}{pos:Pos}{own:List Nat}{g:TG}{tt:TT}{te:TE}{use:Option (Value->Sem Unit)}{Qf:Value->Shared->Prop}
  (S:CompScope X scope own) (hg:∀ cl ex s H,PG (cxC X scope cl ex s H) tg g) (hG:cE1 own g)
  (ht:∀ cl ex s H,bL0 (cxC X scope cl ex s H) ifs tt) (he:∀ cl ex s H,PE (cxC X scope cl ex s H) elt te)
  {pins:List (Addr×Obj)} {a:Shared} {σ:St} {h:Hp} {F:List V->Hp->Prop} {cl:List (Str×Addr)} {J:It} {fp:List Addr} {it D:Addr} {tn:Nat->Heap->Prop} {h₁:Heap} {mC:Str->Option Value} {tk m0:Nat} {W:Nat->Nat->List V->Hp->Prop}
  (l:Inv X pins σ h a) (T:Turn X.prog X.w X.K tg J fp it tn) (M:∀ x c,cl.lookup x=some c->(X.env.cells.lookup x=some c/\scope.names.lookup x≠some .cell)\/(a.heap.objs.size < c/\scope.names.lookup x=some .cell/\h₁.IsCell c none)) (cl2:∀ y∈scope.names,y.2=.free\/y.2=.cell->∃ c,cl.lookup y.1=some c)
  (cl3:∀ x y c,cl.lookup x=some c->cl.lookup y=some c->x=y)
  (P:∀ b∈fp,bC7 X pins h b) (L:∀ b∈fp,b < D) (B:D < a.heap.objs.size) (E:∀ b,b∈frs X.stack->b < D) (hbase:∀ b o,X.base.get? b=some o->b < D) (f:Stray X pins h D)
  (hD3:a.heap.get? D=some {cls:=.type "list",data:=.seq ([]:List Value).toArray}) (st3:tn 0 a.heap) (Q:h₁.Ns a.heap.objs.size mC) (t:∀ b o,a.heap.get? b=some o->h₁.get? b=some o)
  (w0:W 0 m0 [] h) (turn:∀ i m ys H,W i m ys H->ys.length<=sizeLine /\
  ((J.stop i H/\F ys H)\/(J.go i H/\∀ x H',J.yld i H x H'->g x (blank own σ) H' λσ2 h=>tt σ2 h λb H3=>
    if b=true then te σ2 H3 λv O=>∃ m',m' < m/\W (i+1) m' (ys++[v]) O else ∃ m',m' < m/\W (i+1) m' ys H3)))
  (fin:∀ D C ys H' s' m,Inv X pins σ (upd H' D (.lst ys)) s'->H' D=none->s'.heap.Ns C m->Stray X pins (upd H' D (.lst ys)) C->F ys H' ->
   compPost (model X.prog X.w) X.A X.xe use Qf (.ref D) C (.ok .next) s') :
  codeAny (model X.prog X.w) X.A (.compLoop (.ListComp elt [⟨tg,iter,ifs,0⟩] scope pos) 0 (.ref it) (.ref D) (compEnvC scope cl a.heap.objs.size X.env))
   (compPost (model X.prog X.w) X.A X.xe use Qf (.ref D) a.heap.objs.size) {a with heap:=h₁,toks:=tk}:=by
 have cneD:∀ x c,cl.lookup x=some c->c≠D:=λx c q=>by
  rcases M x c q with z | z;exact f.cell x c z.1;exact(a4d (a3g B z.1)).symm
 have cneF:∀ b∈fp,∀ x c,cl.lookup x=some c->c≠b:=λb hb x c q=>by
  rcases M x c q with z | z;exact(P b hb).2.2.2.2.1 x c z.1;exact(a4d (a3g (a3g (L b hb) B) z.1)).symm
 have okY:(cxC X scope cl (D::fp) a h).Ok:=by
  refine⟨l.ok.mod,S.kind,l.ok.glob,l.ok.blt,a8a _,cl3,λx hk=>?_,λx c hf q=>?_,l.ok.hd,l.ok.frames,.inl rfl,λb hb=>?_,λb o q=>?_,?_,λb o q hb=>?_,λb hb R=>?_,l.stack,l.stkFree⟩;rcases jR hk with z | z;exact cl2 _ z (.inl rfl);exact cl2 _ (mem_of_lookup z) (.inr rfl)
  ·rcases M x c q with z | z
   ·have hf':scope.names.lookup x=some .cell:=by simpa using hf
    exact absurd hf' z.2
   ·exact a2g z.1
  ·constructor;show b≠a.heap.objs.size;rcases a7b.mp hb with z | z;rw[z];exact a4d B;exact a4d (a3g (L b z) B);intro x c q;rcases a7b.mp hb with z | z;rw[z];exact cneD x c q;exact cneF b z x c q
  ·exact l.bs b o q
  ·exact a6b l.ok.bsz l.sz
  ·rcases a7b.mp hb with z | z;have:=hbase b o q;rw[z]at this;exact a6f _ this;rcases(P b z).2.2.2.1 with y | y;exact l.ok.noex b o q y;exact a6f _ (a1c (a4b q) (a6b l.ok.bsz y))
  ·rcases a7b.mp hb with z | z;have:=E b R;rw[z]at this;exact a6f _ this;rcases a7b.mp (l.stkSub b R)with y | y;exact(P b z).2.1 y;exact(P b z).2.2.1 y
 have IY:Inv (cxC X scope cl (D::fp) a h) pins (blank own σ) h {a with heap:=h₁,toks:=tk}:=by
  refine⟨okY,rfl,l.bare,Un.kept t,⟨_,Q,λi x v e1 e2 e3=>?_⟩,λx c q=>?_,l.hok.fresh (a8a _),λx c q=>by
   rcases M x c q with z | z;exact l.freeC x c z.1;exact l.hok.fresh (a2g z.1),λp hp=>?_,l.hok.kept t,(mW own σ).trans l.len⟩
  ·obtain⟨hno,e2'⟩:=kS own σ i v e2;have hnl:¬ (relabel scope X.env).names.lookup x=some .local:=λz=>hno (S.own i x e1 (.inl (wO z)));have hnc:¬ scope.names.lookup x=some .cell:=λz=>hno (S.own i x e1 (.inr z));have hcf:(relabel scope X.env).names.lookup x=some .cell\/(relabel scope X.env).names.lookup x=some .free:=by
    rcases e3 with z | z | z;exact absurd z hnl;exact .inl z;exact .inr z
   have hmem:=(jR hcf).resolve_right hnc;have U:=S.free _ hmem rfl;obtain⟨m,hm,hl⟩:=l.loc;obtain⟨u,r,lk⟩:=hl i x v e1 e2' (by rcases U with z | z;exact .inr (.inl z);exact .inr (.inr z));obtain⟨c,hc⟩:=cl2 _ hmem (.inl rfl);refine⟨u,r,.inr ⟨hcf,c,hc,?_⟩⟩;rcases lk with⟨z,_⟩ | ⟨_,c',hc',ic⟩;dsimp only at U;rw[z]at U;rcases U with y | y<;>cases y;have:=((M _ c hc).resolve_right λz=>hnc z.2.1).1;dsimp only at this;rw[hc']at this;cases this;obtain⟨o,ho,hd⟩:=ic;exact⟨o,t _ _ ho,hd⟩
  ·rcases M x c q with z | z;obtain⟨v,o,ho,hd⟩:=l.cell x c z.1;exact⟨v,o,t _ _ ho,hd⟩;exact⟨_,z.2.2⟩
  ·obtain⟨q,n,ne,nf,d⟩:=l.pin p hp;refine⟨t _ _ q,n,a4d (a4b q),λhb=>?_,d⟩;rcases a7b.mp (l.stkSub _ hb)with y | y;exact ne y;exact nf y
 have DY:D≠a.heap.objs.size:=a4d B;have statY:∀ {H':Hp},(∀ b∈fp,H' b=none)->∀ b∈fp,bC7 (cxC X scope cl (D::fp) a h) pins H' b:=λhn b hb=>by
  refine⟨hn b hb,?_,?_,.inl (a4a _ hb),cneF b hb,(P b hb).2.2.2.2.2⟩;show b≠a.heap.objs.size;exact a4d (a3g (L b hb) B);intro R;rcases a7b.mp (l.stkSub b R)with y | y;exact(P b hb).2.1 y;exact(P b hb).2.2.1 y
 have hDfp:D∉fp:=λz=>a6f _ (L D z);have hDstk:D∉frs X.stack:=λz=>a6f _ (E D z);have G:∀ {H':Hp} {o:Obj},(∀ b∈fp,H' b=none)->∀ b∈fp,bC7 (cxC X scope cl (D::fp) a h) (pins++[(D,o)]) H' b:=λ{H' o} fr b hb=>by
  obtain⟨a1,a2,a3,a4,a5,a6⟩:=statY fr b hb;refine⟨a1,a2,a3,a4,a5,λp hp z=>?_⟩;rcases a3c.mp hp with y | y;exact a6 p (a3h _ y) z;rcases a3c.mp y with y | y;exact a6 p (a4c _ y) z;have e:p=(D,o):=a8b.mp y;rw[e]at z;have z':D=b:=z;exact hDfp (by rw[z'];exact hb)
 have pin2:∀ {H':Hp} {s':Shared} {its:Array Value} {k:Nat},Inv (cxC X scope cl (D::fp) a h) pins (blank own σ) H' s'->H' D=none->s'.heap.get? D=some {cls:=.type "list",data:=.seq its k} ->
   Inv (cxC X scope cl (D::fp) a h) (pins++[(D,{cls:=.type "list",data:=.seq its k})]) (blank own σ) H' s':=λ{H' s' its k} I4 D4 o4=>I4.pins_of λp hp=>by
  rcases a3c.mp hp with z | z;exact I4.pin p (a4c _ z);have e:p=(D,{cls:=.type "list",data:=.seq its k}):=a8b.mp z;subst e;exact⟨o4,D4,DY,hDstk,λv z=>by cases z⟩
 refine aC5 (λn s'=>∃ i ys H' its k,Inv (cxC X scope cl (D::fp) a h) pins (blank own σ) H' s'/\tn i s'.heap/\(∀ b∈fp,H' b=none)/\H' D=none /\
  s'.heap.get? D=some {cls:=.type "list",data:=.seq its k}/\bW ys its.toList/\W i n ys H') ?_ m0
  ⟨0,[],h,#[],_,IY,T.keep _ _ _ st3 λb hb o q=>t b o q,λb hb=>(P b hb).1,f.un,t _ _ hD3,.nil,w0⟩
 rintro n s4 ⟨i,ys,O,its,k,I4,st4,fr4,D4,o4,v4,w4⟩;obtain⟨hz,step⟩:=turn i n ys O w4;rcases step with⟨stop,qn⟩ | ⟨go,step⟩
 ·refine thn (T.done (cxC X scope cl (D::fp) a h) rfl rfl rfl S.calm i _ s4 (blank own σ) O (λ_ _=>False) (pin2 I4 D4 o4) (G fr4) st4 stop) λr s5 Z0=>?_;obtain⟨hr,I5⟩:=Z0;subst hr;have oD:s5.heap.get? D=some {cls:=.type "list",data:=.seq its k}:=(I5.pin (D,_) (a4c _ (a4c _ a3a))).1;have N:Inv (cxC X scope cl (D::fp) a h) pins (blank own σ) O s5:=I5.unpinned;have IX:Inv X pins σ O s5:=by
   refine l.call' (ch:=D::fp) N.os N.base N.hok N.bare λb hb=>?_;rcases a7b.mp hb with z | z;rw[z];exact⟨.inr f.young,f.loc,f.cell,f.pin⟩;obtain⟨a1,a2,a3,a4,a5,a6⟩:=P b z;exact⟨a4,a2,a5,a6⟩
  obtain⟨m5,hm5,_⟩:=N.loc;have nC:O a.heap.objs.size=none:=N.free;have IX':Inv X pins σ (upd O D (.lst ys)) s5:=by
   refine IX.adopt D4 f.young f.loc f.cell f.pin ⟨hz,its.toList,k,v4,?_⟩;rw[oD]
  have strC:Stray X pins (upd O D (.lst ys)) a.heap.objs.size:=l.stray (a8a _) (by rw[aL (a9c DY)];exact nC);exact fin D _ ys O s5 m5 IX' D4 hm5 strC qn
 ·refine thn (T.item (cxC X scope cl (D::fp) a h) rfl rfl rfl S.calm i _ s4 (blank own σ) O (λ_ _=>False) (pin2 I4 D4 o4) (G fr4) st4 go) λr s5 Z0=>?_;obtain⟨u,hr,h5⟩:=Z0;subst hr;refine thn h5 λ_ s6 ⟨x,H6,I6,r6,y6,st6,fr6⟩=>?_;have I6':=I6.pinned (G fr6) (T.obj _ _ st6);refine thn (hg cl (D::fp) a h _ s6 (blank own σ) H6 x u _ I6' r6 (hG _ _ _ _ (step x H6 y6))) λ_ s7 ⟨σ7,H7,I7,⟨q7,l7,p7⟩⟩=>?_;refine thn (ht cl (D::fp) a h _ s7 σ7 H7 _ I7 q7) λb s8 ⟨H8,I8,q8⟩=>?_;have weak:∀ {Y:Hp} {Z:Shared},Inv (cxC X scope cl (D::fp) a h) ((pins++[(D,{cls:=.type "list",data:=.seq its k})])++oC fp s6.heap) σ7 Y Z ->
    Inv (cxC X scope cl (D::fp) a h) ((pins++[(D,{cls:=.type "list",data:=.seq its k})])++oC fp s6.heap) (blank own σ) Y Z:=λI9=>
   I9.weak l7.symm λj v e=>by rw[p7 j (kS own σ j v e).1];exact e
  have tn9:∀ {Y:Hp} {Z:Shared},Inv (cxC X scope cl (D::fp) a h) ((pins++[(D,{cls:=.type "list",data:=.seq its k})])++oC fp s6.heap) (blank own σ) Y Z->tn (i+1) Z.heap/\∀ b∈fp,Y b=none:=λI9=>
   ⟨T.keep _ _ _ st6 λb hb o q=>(I9.pin (b,o) (a4c _ (a4c _ (iQ hb q)))).1,λb hb=>by
    obtain⟨o,q,d⟩:=T.obj _ _ st6 b hb;exact(I9.pin (b,o) (a4c _ (a4c _ (iQ hb q)))).2.1⟩
  cases b with
  | true=>
    rw[a2H rfl]at q8 ⊢;refine thn (he cl (D::fp) a h _ s8 σ7 H8 _ I8 q8) λy Z Z0=>?_;obtain⟨v9,Y,I9,r9,m',hm',w9⟩:=Z0;have I:=weak I9;obtain⟨t9,f9⟩:=tn9 I;have p9:=I.pin (D,_) (a4c _ (a3h _ (a4c _ a3a)));have hlen:=v4.length;have hz':its.size<=sizeLine:=by rw[← a0d];lia
    refine append_at (hsz:=hz') p9.1 λh' hs' hD'=>?_;have I9u:Inv (cxC X scope cl (D::fp) a h) pins (blank own σ) Y Z:=I.unpinned.unpinned;have I10:Inv (cxC X scope cl (D::fp) a h) pins (blank own σ) Y {Z with heap:=h'}:=
     I9u.turned (it:=D) (t':=Z.toks) (λb o hb q=>(hs'.2 b hb).trans q) p9.2.1 DY (.inl a3a) cneD f.pin
    refine⟨m',hm',i+1,ys++[v9],Y,its.push y,k+1,I10,T.keep _ _ _ t9 λb hb o q=>(hs'.2 b λz=>hDfp (by rw[← z];exact hb)).trans q,f9,p9.2.1,hD',?_,w9⟩;rw[a6g];exact v4.append (.cons r9 .nil)
  | false=>
    rw[a2I a8d]at q8 ⊢;obtain⟨m',hm',w9⟩:=q8;have I:=weak I8;obtain⟨t9,f9⟩:=tn9 I;have p9:=I.pin (D,_) (a4c _ (a3h _ (a4c _ a3a)));exact⟨m',hm',i+1,ys,H8,its,k,I.unpinned.unpinned,t9,f9,p9.2.1,p9.1,v4,w9⟩
set_option maxHeartbeats 8000000 in
def yL{X:Cx}{tg iter elt:Expr}{B:List Expr}{scope:Scope}{pos E:Pos}{own:List Nat}{wi:TI}{g:TG}{tt:TT}{te:TE}{use:Option (Value->Sem Unit)}{Qf:Value->Shared->Prop}
  (S:CompScope X scope own) (hi:PI X tg iter wi) (hg:∀ cl ex s H,PG (cxC X scope cl ex s H) tg g) (hG:cE1 own g)
  (ht:∀ cl ex s H,bL0 (cxC X scope cl ex s H) B tt) (he:∀ cl ex s H,PE (cxC X scope cl ex s H) elt te)
  {pins:List (Addr×Obj)} {s:Shared} {σ:St} {H:Hp} {F:List V->Hp->Prop} (I:Inv X pins σ H s) (hw:bL1 own wi g tt te σ H F)
  (hs:∀ x,foldedSetIterable iter X.env x=pure x)
  (fin:∀ D C ys H' s' m,Inv X pins σ (upd H' D (.lst ys)) s'->H' D=none->s'.heap.Ns C m->Stray X pins (upd H' D (.lst ys)) C->F ys H' ->
   compPost (model X.prog X.w) X.A X.xe use Qf (.ref D) C (.ok .next) s') :
  wpAny (model X.prog X.w) X.A (comprehension (.ListComp elt [⟨tg,iter,B,0⟩] scope pos) scope X.env E (newList []) false (eval iter X.env) use) Qf X.xe s:=by
 obtain⟨cl,Q,R,U⟩:=aN2 (scope:=scope) (env:=X.env) λy O hf=>I.ok.has y.1 (S.free y O hf);refine wpAny_comprehension_free (use:=use) rfl hs Q S.kind S.names (thn (hi pins s σ H _ I hw) λv s₁ h₁=>thn h₁ λitv a G=>?_);obtain⟨it,fp,tn,J,H2,e,r,T,t,f2,W,⟨m0,w0⟩,turn⟩:=G;subst e;refine a2O (bQ8 ?_);dsimp only;have Y:(a.heap.push {cls:=.type "list",dict:=none,data:=.seq ([]:List Value).toArray}).objs.size=a.heap.objs.size+1:=Heap.size_push ..;have h:∀ b o,a.heap.get? b=some o->(a.heap.push {cls:=.type "list",dict:=none,data:=.seq ([]:List Value).toArray}).get? b=some o:=λb o q=>a6a _ q;have K:(a.heap.push {cls:=.type "list",dict:=none,data:=.seq ([]:List Value).toArray}).get? a.heap.objs.size=some {cls:=.type "list",dict:=none,data:=.seq ([]:List Value).toArray}:=a3b _ rfl;generalize hG3:a.heap.push {cls:=.type "list",dict:=none,data:=.seq ([]:List Value).toArray}=d at Y h K ⊢;have n:(d.push {cls:=.type "dict",data:=.dict #[]}).objs.size=d.objs.size+1:=Heap.size_push ..;have i:(pushCells (d.push {cls:=.type "dict",data:=.dict #[]}) scope.names).Ns d.objs.size (λ_=>none):=(Heap.Ns.new d (.type "dict")).keeps (pushCells_keeps _ _);have k:∀ b o,d.get? b=some o->(pushCells (d.push {cls:=.type "dict",data:=.dict #[]}) scope.names).get? b=some o:=λb o q=>pushCells_keeps _ _ b o (a6a _ q);have ok:=cellsFrom_ok scope.names (d.push {cls:=.type "dict",data:=.dict #[]}) (d.objs.size+1) [] ⟨λ_ _ hm=>(nomatch hm),List.Pairwise.nil⟩ (by rw[n];exact a8a _);rw[n]at ok;generalize pushCells (d.push {cls:=.type "dict",data:=.dict #[]}) scope.names=h₁ at i k ok ⊢;have Z:Inv X pins σ H2 {a with heap:=d}:=r.kept (t':=a.toks) h;have look:∀ x,(cellsFrom (d.objs.size+1) scope.names cl).lookup x=((cellsFrom (d.objs.size+1) scope.names []).lookup x).or (cl.lookup x):=λx=>by rw[cF,List.lookup_append]
 have L:∀ x c,(cellsFrom (d.objs.size+1) scope.names []).lookup x=some c->d.objs.size < c/\scope.names.lookup x=some .cell/\h₁.IsCell c none:=λx c q=>
  ⟨(ok.empty x c (mem_of_lookup q)).2,S.cells _ (gG _ _ x c (mem_of_lookup q)) rfl,(ok.empty x c (mem_of_lookup q)).1⟩
 have j:∀ x c,(cellsFrom (d.objs.size+1) scope.names cl).lookup x=some c->(X.env.cells.lookup x=some c/\scope.names.lookup x≠some .cell)\/(d.objs.size < c/\scope.names.lookup x=some .cell/\h₁.IsCell c none):=λx c q=>by
  rw[look]at q;cases e:(cellsFrom (d.objs.size+1) scope.names []).lookup x with
  | some M=>rw[e]at q;cases q;exact .inr (L x _ e)
  | none=>
    rw[e]at q;refine .inl ⟨R x c q,λz=>?_⟩;obtain⟨M,f⟩:=cT scope.names (d.objs.size+1) x (mem_of_lookup z);rw[e]at f;cases f
 have l:∀ x c,X.env.cells.lookup x=some c->c < d.objs.size:=λx c q=>by
  obtain⟨v,o,ho,hd⟩:=Z.cell x c q;exact a4b ho
 have p:=aN3 (iter:=iter) (elt:=elt) (pos:=pos) (use:=use) (Qf:=Qf) (tk:=a.toks) (h₁:=h₁) S hg hG ht he Z T j (λy O hk=>by
   rw[look];rcases hk with z | z
   ·obtain⟨c,hc⟩:=U y O z;cases e:(cellsFrom (d.objs.size+1) scope.names []).lookup y.1 with
    | some M=>exact⟨M,rfl⟩
    | none=>exact⟨c,hc⟩
   ·obtain⟨c,hc⟩:=cT scope.names (d.objs.size+1) y.1 (by rw[← z];exact O);exact⟨c,by rw[hc];rfl⟩) (λx y c q1 P=>by
   rcases j x c q1 with N | N;rcases j y c P with u | u;exact Z.ok.inj x y c N.1 u.1;exact absurd u.1 (a0j.mpr (a2g (l x c N.1)));rcases j y c P with u | u;exact absurd N.1 (a0j.mpr (a2g (l y c u.1)));have m1:(cellsFrom (d.objs.size+1) scope.names []).lookup x=some c:=by
    obtain⟨M,f⟩:=cT scope.names (d.objs.size+1) x (mem_of_lookup N.2.1);rw[look,f]at q1;cases q1;exact f
   have m2:(cellsFrom (d.objs.size+1) scope.names []).lookup y=some c:=by
    obtain⟨M,f⟩:=cT scope.names (d.objs.size+1) y (mem_of_lookup u.2.1);rw[look,f]at P;cases P;exact f
   exact name_of_addr ok.apart (mem_of_lookup m1) (mem_of_lookup m2)) f2 (λb hb=>by obtain⟨o,q,_⟩:=T.obj _ _ t b hb;exact a4b q)
  (by show a.heap.objs.size < d.objs.size;lia) (λb hb=>by
   rcases a7b.mp (r.stkSub b hb)with z | z;rw[z];exact r.lt;exact a8i λhle=>r.nofs hle z)
  (λb o q=>a4b (r.bs b o q).1) (r.stray (a8a _) (r.hok.fresh (a8a _))) K (T.keep _ _ _ t λb hb o q=>h b o q) i k w0 turn fin
 exact codeAny_compStart_list p (T.self _ 0 _ _ _ (T.keep _ _ _ t λb hb o q=>k b o (h b o q)) p)
def dF{X:Cx}{tg iter elt:Expr}{a:List Expr}{scope:Scope}{pos:Pos}{own:List Nat}{d:TI}{g:TG}{f:TT}{h:TE}
  (S:CompScope X scope own) (hi:PI X tg iter d) (i:∀ cl ex s H,PG (cxC X scope cl ex s H) tg g) (j:cE1 own g)
  (k:∀ cl ex s H,bL0 (cxC X scope cl ex s H) a f) (l:∀ cl ex s H,PE (cxC X scope cl ex s H) elt h)
  (hs:∀ x,foldedSetIterable iter X.env x=pure x:=by intro _;rfl):PE X (.ListComp elt [⟨tg,iter,a,0⟩] scope pos) (aT9 own d g f h):=by
 intro pins s σ H Q I n;rw[eval_ListComp];refine yL (use:=none) S hi i j k l I n hs λD C ys H' s' m p r hm str q=>?_;refine⟨m,hm,λh' c=>⟨.ref D,upd H' D (.lst ys),?_,rfl,q D r⟩⟩;exact p.turned (it:=C) (t':=s'.toks) (λb o hb e=>(c.2 b hb).trans e) str.un str.loc (.inr str.young) str.cell str.pin
def kU{X:Cx}{i:Nat}{x:Str}{tg iter elt:Expr}{d:List Expr}{scope:Scope}{pos c f:Pos}{own:List Nat}{u:TI}{g:TG}{w:TT}{y:TE}
  (B:X.N.Nodup) (j:X.N[i]? = some x) (A:X.env.scope.names.lookup x=some .local)
  (S:CompScope X scope own) (hi:PI X tg iter u) (E:∀ cl ex s H,PG (cxC X scope cl ex s H) tg g) (F:cE1 own g)
  (G:∀ cl ex s H,bL0 (cxC X scope cl ex s H) d w) (J:∀ cl ex s H,PE (cxC X scope cl ex s H) elt y)
  (k:swapsWith (.ListComp elt [⟨tg,iter,d,0⟩] scope pos) (some (.Name x c)) f.line X.env=pure true)
  (hs:∀ x,foldedSetIterable iter X.env x=pure x:=by intro _;rfl) :
  PS X (.Assign [.Name x c] (.ListComp elt [⟨tg,iter,d,0⟩] scope pos) f) (λD σ H=>aT9 own u g w y σ H λv K=>D.nx (σ.set i (some v)) K):=by
 intro pins s σ H L I M;rw[exec_Assign_Name_used _ _ _ _ k];refine a2F (a3s (a2F ?_));show wpAny _ _ (do let _ ← comprehension (.ListComp elt [⟨tg,iter,d,0⟩] scope pos) scope X.env _ (newList []) false (eval iter X.env) (some (assign (.Name x c) X.env))) _ _ s;refine a2F (thn (yL (use:=some (assign (.Name x c) X.env)) (Qf:=λ_ s'=>SP X pins L .next s') S hi E F G J I M hs λD C ys H' s' m O P hm str q=>?_) λ_ s' Q=>a2G (a2G Q));show wpAny _ _ (assign (.Name x c) X.env (.ref D)) _ _ s';refine wpAny_assign_Name (yA (v:=.ref D) O B j (.inl A) (show eH (.ref D) (Value.ref D)from rfl) (λl n p=>?_) (.inr A));obtain⟨a,h,ha⟩:=p;have r:C≠a:=by
  rcases ha with z | z;rw[z];exact str.loc;exact a9c (str.cell x a z)
 refine⟨m,hm.sameBut h r,λh' t=>⟨_,_,?_,q D P⟩⟩;exact n.turned (it:=C) (t':=l.toks) (λb o hb e=>(t.2 b hb).trans e) str.un str.loc (.inr str.young) str.cell str.pin
section
variable{X:Cx}
def bD7(n:X.calm=true):jO X (.builtin "all") (λxs H Q=>∃ (a:Addr) (bs:List Bool),xs=[.ref a]/\SqL X.K H a (bs.map V.bl)/\Q (.bl (bs.all id)) H):=by
 intro pins s σ H xs us Q I r h;obtain⟨a,bs,rfl,ha,q⟩:=h;obtain⟨u,rfl,t⟩:=aC0 r;cases t;obtain⟨its,f,p,D⟩:=I.list ha;have g:a < s.heap.objs.size:=by obtain⟨_,e,_⟩:=p.isList;exact a4b e
 have w:X.A.in1.handled=none:=I.ok.hd n;refine call_all_walk (wpAny_pyIter_list p.isList ?_);refine⟨s.heap.objs.size,[s.heap.objs.size,a],[s.heap.objs.size],its.toArray.size,_,_,λi=>(bs[i]?).getD true,rfl,Walks.list (A:=X.A.in1) w _ a (a4d g) its.toArray,
  ⟨⟨_,a3b _ rfl,rfl,rfl⟩,p.isList.push _⟩,λi v s' E F y k=>?_,λh' tk B=>?_⟩
 ·have hi:its[i]? = some v:=by simpa using y
  have c:=f.length;have l:i < its.length:=(a0a.mp hi).1;have hb:i < bs.length:=by rw[a7a]at c;lia
  obtain⟨u,m,C⟩:=f.get (i:=i) (x:=V.bl bs[i]) (by rw[a0c,a1a hb];rfl);rw[hi]at m;cases m;have e:v=Value.bool bs[i]:=C;subst e;simp only[List.getElem?_eq_getElem hb,Option.getD_some]at k;exact a2Z k
 ·have e:((List.range its.toArray.size).all λi=>(bs[i]?).getD true)=bs.all id:=by
   have c:=f.length;rw[a7a]at c;rw[a1b,← c];rw[a4f,a3i,a3i];constructor;intro j b hb;obtain⟨i,hi,rfl⟩:=a5f hb;have:=j i (a1g.mpr hi);simp only[List.getElem?_eq_getElem hi,Option.getD_some]at this;exact this;intro j i hi;have d:=a1g.mp hi;simp only[List.getElem?_eq_getElem d,Option.getD_some];exact j _ (List.getElem_mem d)
  rw[e];exact⟨.bl _,H,I.kept (t':=tk) λb o q=>B b o (λhm=>by
   have z:b=s.heap.objs.size:=by simpa using hm
   rw[z]at q;exact a6f _ (a4b q)) (a6a _ q),rfl,q⟩
noncomputable def Its(x:Str):It:=⟨λi _=>∃ c,x.cps[i]? = some c,λi H v H'=>H'=H/\∃ c,x.cps[i]? = some c/\v=.str ⟨#[c]⟩,λi _=>x.cps[i]? = none⟩
def aH7{P:Program}{w:World}{K:W.Frag}{tg:Expr}(x:Str)(t:Tok)(it:Addr)(ty:String)(a:ty="str_ascii_iterator"\/ty="str_iterator"):Turn P w K tg (Its x) [it] it (λi h=>h.IsStrIter it ty x t i) where
 mem:=by simp
 obj:=λi h st b hb=>by
  have e:b=it:=by simpa using hb
  subst e;obtain⟨o,e,c,d⟩:=st;exact⟨o,e,λv z=>by rw[d]at z;cases z⟩
 keep:=λi h h' st k=>by
  obtain⟨o,e,c,d⟩:=st;exact⟨o,k it (by simp) o e,c,d⟩
 item:=by
  intro X q r u y i pins s σ H E I g st A;subst q r u;obtain⟨c,f⟩:=A;obtain⟨j,l,G,m,n,p⟩:=g it (by simp);rcases a with rfl | rfl;refine wpAny_pyNext_ascii_item st f λh' st' B=>?_;have C:Inv X pins σ H {s with heap:=h',toks:=s.toks+1}:=I.turned (t':=s.toks+1) (λb o hb e=>(B.2 b hb).trans e) j l m n p;obtain⟨o,e,D,d⟩:=id st';exact⟨_,rfl,aS7 (s:={s with heap:=h',toks:=s.toks+1}) e D d (by decide) ⟨.str ⟨#[c]⟩,H,C,⟨_,rfl⟩,⟨rfl,c,f,rfl⟩,st',λb hb=>(g b hb).1⟩⟩;refine wpAny_pyNext_wide_item st f λh' st' B=>?_;have C:Inv X pins σ H {s with heap:=h',toks:=s.toks+1}:=I.turned (t':=s.toks+1) (λb o hb e=>(B.2 b hb).trans e) j l m n p;obtain⟨o,e,D,d⟩:=id st';exact⟨_,rfl,aS7 (s:={s with heap:=h',toks:=s.toks+1}) e D d (by decide) ⟨.str ⟨#[c]⟩,H,C,⟨_,rfl⟩,⟨rfl,c,f,rfl⟩,st',λb hb=>(g b hb).1⟩⟩
 done:=by
  intro X q r u y i pins s σ H E I g st A;subst q r u;have f:x.cps[i]? = none:=A;obtain⟨j,l,G,m,n,p⟩:=g it (by simp);rcases a with rfl | rfl;exact wpAny_pyNext_ascii_end (I.ok.hd y) st f λh' F=>⟨rfl,I.turned (t':=s.toks) (λb o hb e=>F b o hb e) j l m n p⟩;exact wpAny_pyNext_wide_end (I.ok.hd y) st f λh' F=>⟨rfl,I.turned (t':=s.toks) (λb o hb e=>F b o hb e) j l m n p⟩
 self:=λ_ _ _ _ _ st h=>by
  rcases a with rfl | rfl;exact wpAny_pyIter_striter_ascii st h;exact wpAny_pyIter_striter_wide st h
def cV0:V->Option Int->Option Int->Hp->VK->Prop:=λx lo hi H Q=>∃ z,x=.str z/\z.length<=sizeLine/\Q (.str (Txt.slice z lo hi)) H
def cE2:SlR X cV0:=by
 intro pins s σ H x v g m lo hi sl Q I e hs pl d h;obtain⟨z,rfl,f,q⟩:=h;obtain⟨t,rfl⟩:=e;refine⟨"str",_,F.slot_str_getitem.lookup,typeIs_str _ _ _,?_⟩;have fin:∀ b k,EP X pins σ Q (.str (Txt.slice z lo hi) b) {s with toks:=k}:=λb k=>⟨.str _,H,I.tok k,⟨b,rfl⟩,q⟩;have a:(Txt.slice z lo hi).length<=sizeLine:=a6b (Txt.slice_le z lo hi) f;cases pl with
 | none=>
   cases d with
   | none=>exact a2W (l:=none) (u:=none) (st:=none) hs rfl (post_val_or_str ⟨a,fin⟩)
   | int j c=>exact a2W (l:=none) (u:=some (j,c)) (st:=none) hs rfl (post_val_or_str ⟨a,fin⟩)
 | int i t1=>
   cases d with
   | none=>exact a2W (l:=some (i,t1)) (u:=none) (st:=none) hs rfl (post_val_or_str ⟨a,fin⟩)
   | int j c=>exact a2W (l:=some (i,t1)) (u:=some (j,c)) (st:=none) hs rfl (post_val_or_str ⟨a,fin⟩)
def aN4{ys:List Str}:∀ {us:List Value},bW (ys.map V.str) us->StrsAre us ys:=by
 induction ys with
 | nil=>intro us r;cases r;exact .nil
 | cons y r a=>
   intro us h;cases h with
   | cons b c=>
     obtain⟨t,rfl⟩:=b;exact .cons y t (a c)
def bD8(K:W.Frag):V->List V->Hp->VK->Prop:=λx vs H Q=>∃ b a ys,x=.str b/\vs=[.ref a]/\SqL K H a (ys.map V.str)/\(ys.map (·.length)).sum+ys.length*b.length<=16777216/\Q (.str (Txt.join b ys)) H
def bQ9:MtR X "str.join" (bD8 X.K):=by
 intro pins s σ H x vs v us Q I b c h;obtain⟨d,a,ys,rfl,rfl,ha,e,q⟩:=h;obtain⟨t,rfl⟩:=b;obtain⟨u,rfl,f⟩:=c.one;cases f;obtain⟨its,r,p,_⟩:=I.list ha;exact join_list p.isList (by simpa using aN4 r) e λg k=>⟨.str _,H,I.tok k,⟨g,rfl⟩,q⟩
def aC6:jO X (.builtin "isinstance") (λxs H Q=>∃ x c t b,xs=[x,.ty c]/\TyOf X.K H x t/\W.kitOne X.K t (.type c)=some b/\Q (.bl b) H):=by
 intro pins s σ H xs us Q I r h;obtain⟨x,c,t,b,rfl,ty,e,q⟩:=h;obtain⟨u,d,rfl,f,a⟩:=cN6 r;cases (show d=Value.type c from a);exact aT2 I f ty e λtk=>⟨.bl b,H,I.tok tk,rfl,q⟩
end
section
variable{σ:St}{H:Hp}{Q:VK}{v x y:V}{n:Nat}{i j:Int}{a b:Bool}{D:Ends}
end
noncomputable def fP(H:Hp)(p:Addr):Option (Bool×List V):=match H p with
 | some (.lst xs)=>some (true,xs)
 | some (.tup xs)=>some (false,xs)
 | some (.frz _ (.lst xs))=>some (true,xs)
 | _=>none
def bD9{H:Hp}{p:Addr}{xs:List V}(h:H p=some (.lst xs)):fP H p=some (true,xs):=by unfold fP;rw[h]
def cK{H:Hp}{p:Addr}{xs:List V}(h:H p=some (.tup xs)):fP H p=some (false,xs):=by unfold fP;rw[h]
def bE0{H:Hp}{p:Addr}{o:Obj}{xs:List V}(h:H p=some (.frz o (.lst xs))):fP H p=some (true,xs):=by unfold fP;rw[h]
def jF{K:W.Frag}{H:Hp}{p:Addr}{xs:List V}(h:fP H p=some (true,xs)):SqL K H p xs:=by
 unfold fP at h;split at h;rename_i e;cases h;exact .inl (.inl e);cases h;rename_i o ys e;cases h;exact .inl (.inr ⟨o,e⟩);cases h
def fA{K:W.Frag}{H:Hp}{p:Addr}{xs:List V}(h:fP H p=some (false,xs)):SqT K H p xs:=by
 unfold fP at h;split at h;cases h;rename_i e;cases h;exact .inl (.inl e);cases h;cases h
noncomputable def ixF(H:Hp)(x y:V):Option V:=match x,y with
 | .ref p,.int i=>(fP H p).bind λq=>atI q.2 i
 | .str z,.int i=>if z.length<=sizeLine then(atI z.cps.toList i).map λc=>.str ⟨#[c]⟩else none
 | _,_=>none
noncomputable def cL1(H:Hp)(x:V):Option Nat:=match x with
 | .ref p=>(fP H p).map (·.2.length)
 | .str z=>if z.length<=sizeLine then some z.length else none
 | _=>none
def cR5:R2:=λx y H Q=>∃ v,ixF H x y=some v/\Q v H
section
variable{X:Cx}
def cV1:IxR X cR5:=by
 intro a d pins s σ H x y v u Q I g j h hs;obtain⟨z,e,q⟩:=h;unfold ixF at e;split at e
 ·rename_i p i;cases f:fP H p with
  | none=>rw[f]at e;cases e
  | some w=>
    obtain⟨b,xs⟩:=w;rw[f]at e;cases b with
    | true=>exact bQ3 a d pins s σ H _ _ v u Q I g j ⟨p,xs,i,z,rfl,rfl,jF f,e,q⟩ hs
    | false=>exact cD4 a d pins s σ H _ _ v u Q I g j ⟨p,xs,i,z,rfl,rfl,fA f,e,q⟩ hs
 ·rename_i t i;split at e
  ·rename_i l;cases k:atI t.cps.toList i with
   | none=>rw[k]at e;cases e
   | some c=>
     rw[k]at e;cases e;exact cD5 a d pins s σ H _ _ v u Q I g j ⟨t,i,c,rfl,rfl,l,k,q⟩ hs
  ·cases e
 ·cases e
def cE3:List V->Hp->VK->Prop:=λxs H Q=>∃ x n,xs=[x]/\cL1 H x=some n/\Q (.int n) H
def dO:jO X (.builtin "len") cE3:=by
 intro pins s σ H xs us Q I r h;obtain⟨x,n,rfl,e,q⟩:=h;unfold cL1 at e;split at e
 ·rename_i p;cases a:fP H p with
  | none=>rw[a]at e;cases e
  | some w=>
    obtain⟨b,xs⟩:=w;rw[a]at e;cases e;cases b with
    | true=>exact mU pins s σ H _ us Q I r ⟨p,xs,rfl,.inl (jF a),q⟩
    | false=>exact mU pins s σ H _ us Q I r ⟨p,xs,rfl,.inr (fA a),q⟩
 ·rename_i z;split at e;rename_i c;cases e;exact yI pins s σ H _ us Q I r ⟨z,rfl,c,q⟩;cases e
 ·cases e
def cR6:V->Option Int->Option Int->Hp->VK->Prop:=λx lo hi H Q=>match x with
 | .str z=>z.length<=sizeLine/\Q (.str (Txt.slice z lo hi)) H
 | .ref p=>(∃ xs,fP H p=some (true,xs)/\∀ r,H r=none->Q (.ref r) (upd H r (.lst (aC1 xs lo hi)))) \/
   ∃ xs,fP H p=some (false,xs)/\¬ (HT.sIx xs.length 0 lo=0/\HT.sIx xs.length xs.length hi=xs.length)/\∀ r,H r=none->Q (.ref r) (upd H r (.tup (aC1 xs lo hi)))
 | _=>False
def cO4:SlR X cR6:=by
 intro pins s σ H x v a b lo hi sl Q I c hs pl d h;unfold cR6 at h;split at h;rename_i z;exact cE2 pins s σ H _ v a b lo hi sl Q I c hs pl d ⟨z,rfl,h.1,h.2⟩;rename_i p;rcases h with⟨xs,e,q⟩ | ⟨xs,e,hw,q⟩;exact bQ4 pins s σ H _ v a b lo hi sl Q I c hs pl d ⟨p,xs,rfl,jF e,q⟩;exact cD2 pins s σ H _ v a b lo hi sl Q I c hs pl d ⟨p,xs,rfl,fA e,hw,q⟩;exact h.elim
def cR7(K:W.Frag)(b:TE):TI:=λσ H R=>b σ H λx a=>match x with
 | .str z=>R (Its z) a
 | .ref p=>(∃ xs,fP a p=some (true,xs)/\R (Itl K p) a)\/∃ xs,fP a p=some (false,xs)/\R (Itt K p) a
 | _=>False
def cE4{tg l:Expr}{i:TE}(k:PE X l i):PI X tg l (cR7 X.K i):=by
 intro pins s σ H R I h;refine thn (k pins s σ H _ I h) λv s1 Z0=>?_;obtain⟨x,f,c,j,d⟩:=Z0;split at d
 ·rename_i x;obtain⟨t,rfl⟩:=j;cases ha:x.cps.all (· < 128)with
  | true=>
    refine wpAny_pyIter_ascii ha ?_;refine⟨s1.heap.objs.size,[s1.heap.objs.size],_,_,f,rfl,c.kept (t':=s1.toks) λb o e=>a6a _ e,aH7 x t _ _ (.inl rfl),⟨_,a3b _ rfl,rfl,rfl⟩,λb hb=>?_,d⟩;have e:b=s1.heap.objs.size:=by simpa using hb
    subst e;exact c.fpOk (a8a _) (c.hok.fresh (a8a _))
  | false=>
    refine wpAny_pyIter_wide ha ?_;refine⟨s1.heap.objs.size,[s1.heap.objs.size],_,_,f,rfl,c.kept (t':=s1.toks) λb o e=>a6a _ e,aH7 x t _ _ (.inr rfl),⟨_,a3b _ rfl,rfl,rfl⟩,λb hb=>?_,d⟩;have e:b=s1.heap.objs.size:=by simpa using hb
    subst e;exact c.fpOk (a8a _) (c.hok.fresh (a8a _))
 ·rename_i a;cases j;rcases d with⟨xs,g,q⟩ | ⟨xs,g,q⟩
  ·obtain⟨its,m,p,n⟩:=c.list (jF g);refine wpAny_pyIter_list p.isList ?_;refine⟨s1.heap.objs.size,[s1.heap.objs.size],_,_,f,rfl,c.kept (t':=s1.toks) λb o e=>a6a _ e,aS8 a _,⟨_,a3b _ rfl,rfl,rfl⟩,λb hb=>?_,q⟩;have e:b=s1.heap.objs.size:=by simpa using hb
   subst e;exact c.fpOk (a8a _) (c.hok.fresh (a8a _))
  ·obtain⟨its,m,p,n⟩:=c.tuple (fA g);refine wpAny_pyIter_tuple (show s1.heap.IsTuple a its.toArray from p) ?_;refine⟨s1.heap.objs.size,[s1.heap.objs.size],_,_,f,rfl,c.kept (t':=s1.toks) λb o e=>a6a _ e,aM6 a _,⟨_,a3b _ rfl,rfl,rfl⟩,λb hb=>?_,q⟩;have e:b=s1.heap.objs.size:=by simpa using hb
   subst e;exact c.fpOk (a8a _) (c.hok.fresh (a8a _))
 ·exact d.elim
noncomputable def bL2(N:List Str)(sc scope:Scope)(own:List Nat):Bool:=
 (match scope.kind with | .function=>true | _=>false) &&
 scope.names.all (λy=>match y.2 with
  | .cell=>(match scope.names.lookup y.1 with | some .cell=>true | _=>false)
  | .local=>(match scope.names.lookup y.1 with | some .local=>true | _=>false)
  | .free=>(match sc.names.lookup y.1 with | some .cell=>true | some .free=>true | _=>false)
  | _=>true) &&
 (List.range N.length).all λi=>match N[i]? with
  | some x=>(match scope.names.lookup x with | some .local=>own.contains i | some .cell=>own.contains i | _=>true)
  | none=>true
def csc{scope:Scope}(own:List Nat)(h:bL2 X.N X.env.scope scope own=true)(g:X.calm=true:=by rfl):CompScope X scope own:=by
 unfold bL2 at h;rw[a9d,a9d]at h;obtain⟨⟨j,b⟩,d⟩:=h;rw[a3i]at b d;refine⟨?_,λy a e=>?_,λy a e=>?_,λy a e=>?_,λi x f c=>?_,g⟩;revert j;cases scope.kind<;>simp;have:=b y a;rw[e]at this;dsimp only at this;split at this;assumption;cases this;have:=b y a;rw[e]at this;dsimp only at this;split at this;assumption;cases this;have:=b y a;rw[e]at this;dsimp only at this;show X.env.scope.names.lookup y.1=some .cell\/X.env.scope.names.lookup y.1=some .free;split at this;rename_i q;exact .inl q;rename_i q;exact .inr q;cases this;have hi:i < X.N.length:=(a0a.mp f).1;have:=d i (a1g.mpr hi);rw[f]at this;dsimp only at this;rcases c with c | c<;>rw[c]at this<;>simpa using this
end
structure ItIs(J:It)(xs:List V)(P:Hp->Prop):Prop where
 go:∀ H i x,P H->xs[i]? = some x->J.go i H
 yld:∀ H i x y H',P H->xs[i]? = some x->J.yld i H y H'->H'=H/\y=x
 stop:∀ H i,P H->xs[i]? = none->J.stop i H
def aU0{K:W.Frag}{a:Addr}{xs:List V}:ItIs (Itl K a) xs (λH=>SqL K H a xs) where
 go:=λH i x h e=>⟨xs,x,h,e⟩
 yld:=λH i x y H' h e ⟨b,c⟩=>⟨b,by have:=c xs h;rw[e]at this;exact(a5a this).symm⟩
 stop:=λH i h e=>⟨xs,h,a7d.mp e⟩
def bE1{K:W.Frag}{a:Addr}{xs:List V}:ItIs (Itt K a) xs (λH=>SqT K H a xs) where
 go:=λH i x h e=>⟨xs,x,h,e⟩
 yld:=λH i x y H' h e ⟨b,c⟩=>⟨b,by have:=c xs h;rw[e]at this;exact(a5a this).symm⟩
 stop:=λH i h e=>⟨xs,h,a7d.mp e⟩
noncomputable def bR0(lo:Int)(n:Nat):List V:=(List.range n).map λ(i:Nat)=>V.int (lo+(i:Int))
def aH8{lo:Int}{n i:Nat}{x:V}(h:(bR0 lo n)[i]? = some x):i < n/\x=.int (lo+i):=by
 unfold bR0 at h;rw[a0c]at h;cases e:(List.range n)[i]? with
 | none=>rw[e]at h;cases h
 | some k=>
   rw[e]at h;obtain⟨hi,a⟩:=a0a.mp e;rw[List.length_range]at hi;rw[List.getElem_range]at a;subst a;exact⟨hi,(a5a h).symm⟩
def aC7(lo:Int)(n:Nat):(bR0 lo n).length=n:=by simp[bR0]
def bE2{lo:Int}{n:Nat}{P:Hp->Prop}:ItIs (Itr lo n) (bR0 lo n) P where
 go:=λH i x _ e=>(aH8 e).1
 yld:=λH i x y H' _ e ⟨a,b⟩=>⟨a,by rw[(aH8 e).2];exact b⟩
 stop:=λH i _ e=>by
  have:=a7d.mp e;rw[aC7]at this;exact this
noncomputable def dQ(x:Str):List V:=x.cps.toList.map λc=>.str ⟨#[c]⟩
def eQ(x:Str):(dQ x).length=x.length:=by simp[dQ,Str.length]
def bE3{x:Str}{P:Hp->Prop}:ItIs (Its x) (dQ x) P where
 go:=λH i v _ e=>by
  unfold dQ at e;rw[a0c]at e;cases q:x.cps.toList[i]? with
  | none=>rw[q]at e;cases e
  | some c=>exact⟨c,by simpa using q⟩
 yld:=λH i v y H' _ e ⟨b,c,d,f⟩=>⟨b,by
  unfold dQ at e;rw[a0c]at e;have q:x.cps.toList[i]? = some c:=by simpa using d
  rw[q]at e;cases e;exact f⟩
 stop:=λH i _ e=>by
  have a:=a7d.mp e;rw[eQ]at a;show x.cps[i]? = none;rw[Array.getElem?_eq_none_iff];exact a
section
variable{σ:St}{H:Hp}{Q:VK}{z:Str}{p q:Addr}{xs ys:List V}{i j:Int}{b:Bool}{v x y:V}
def bE4(h:z.length<=sizeLine):cL1 H (.str z)=some z.length:=by show(if z.length<=sizeLine then some z.length else none)=_;rw[a2H h]
def aH9(h:fP H p=some (b,xs)):cL1 H (.ref p)=some xs.length:=by show(fP H p).map (·.2.length)=_;rw[h];rfl
def aU1(h:fP H p=some (b,xs))(e:atI xs i=some v):ixF H (.ref p) (.int i)=some v:=by show(fP H p).bind (λq=>atI q.2 i)=_;rw[h];exact e
def bR1{c:Nat}(h:z.length<=sizeLine)(e:atI z.cps.toList i=some c):ixF H (.str z) (.int i)=some (.str ⟨#[c]⟩):=by
 show(if z.length<=sizeLine then(atI z.cps.toList i).map λc=>V.str ⟨#[c]⟩else none)=_;rw[a2H h,e];rfl
end
section
variable{σ:St}{H:Hp}{Q:VK}{p:Addr}{xs:List V}{k:Int}{j:Nat}{v:V}
def bL3{a:Type}{ys:List a}{i:Int}(h0:0<=i)(b:i < ys.length):∃ c,atI ys i=some c:=by
 obtain⟨n,rfl⟩:=Int.eq_ofNat_of_zero_le h0;have hn:n < ys.length:=by lia
 exact⟨ys[n],bQ2 (a1a hn)⟩
end
end L2
namespace L2
open PySem
def aU2{a b:Type}{f:a->b}{ys:List a}{i:Int}:atI (ys.map f) i=(atI ys i).map f:=by
 unfold atI;rw[a7a];cases ixN ys.length i with
 | none=>rfl
 | some j=>simp
def bU{H:Hp}{p:Addr}{o:HO}(h:H p=none):xY H (upd H p o):=λb u e=>by rw[aL (dE e h)];exact e
def bR2(sep:Str)(ys:List Str):(Txt.join sep ys).length<=(ys.map (·.length)).sum+ys.length*sep.length:=by
 show(Builtin.Str.glued sep ys).length<=_;rw[StrLaws.glued_eq_join];exact StrLaws.join_length_le sep ys
end L2
namespace L2
def bE5{K:PySem.W.Frag}{t:String}:PySem.W.kitOne K (.type t) (.type t)=some true:=by
 unfold PySem.W.kitOne;rw[a2H (by simp)]
open PySem PySem.Spec PyProof.Rows
section
variable{prog:Program}{w:World}{A:Around}{E:Value->Shared->Prop}
theorem oJ{it:Addr}{x:Str}{t:Tok}{ty:String}(f:ty="str_ascii_iterator"\/ty="str_iterator"):∀ (n i:Nat) (s:Shared) (Q:List Value->Shared->Prop),s.heap.IsStrIter it ty x t i->i+n<=x.length ->
  (∀ h' tk us,h'.IsStrIter it ty x t (i+n)->Heap.SameBut it s.heap h'->bW (((dQ x).drop i).take n) us->Q us {s with heap:=h',toks:=tk})->wpAny (model prog w) A (draw (.ref it) n) Q E s
 | 0,i,s,Q,hit,_,j=>by
   show wpAny _ _ (pure []) Q E s;exact a2G (by simpa using j s.heap s.toks [] hit (Heap.SameBut.refl ..) (by simpa using(.nil:bW [] [])))
 | n+1,i,s,Q,hit,hle,j=>by
   have g:i < x.cps.size:=by have:x.length=x.cps.size:=rfl;lia
   have k:x.cps[i]? = some x.cps[i]:=by simp[g]
   have hd:(dQ x).drop i=V.str ⟨#[x.cps[i]]⟩::(dQ x).drop (i+1):=by
    rw[List.drop_eq_getElem_cons (by rw[eQ];exact g)];congr 1;simp[dQ]
   show wpAny _ _ (pyNext (.ref it) >>= _) Q E s;have go:∀ b,b.IsStrIter it ty x t (i+1)->Heap.SameBut it s.heap b ->
     wpAny (model prog w) A (match (some (Value.str ⟨#[x.cps[i]]⟩ s.toks))with | none=>pure [] | some v=>do return v::(← holding [v] (draw (.ref it) n))) Q E {s with heap:=b,toks:=s.toks+1}:=λb a c=>by
    refine a2F (a2L (oJ f n (i+1) _ _ a (by lia) λh tk us d e l=>a2G ?_));refine j h tk _ (by rw[show i+(n+1)=i+1+n by lia];exact d) (c.trans e) ?_;rw[hd,List.take_succ_cons];exact .cons ⟨_,rfl⟩ l
   rcases f with rfl | rfl;exact a2F (wpAny_pyNext_ascii_item hit k λb a c=>go b a c);exact a2F (wpAny_pyNext_wide_item hit k λb a c=>go b a c)
def wP{s:Shared}{x:Str}{t:Tok}{targets:List (Bool×(Value->Sem Unit))}{Q:Unit->Shared->Prop}(hh:A.handled=none)
  (hn:targets.length=x.length) (hstar:targets.findIdx? (·.1)=none)
  (h:∀ h' tk us,Heap.ExtBut s.heap.objs.size s.heap h'->bW (dQ x) us->wpAny (model prog w) A (assignInOrder (targets.map (·.2)) us) Q E {s with heap:=h',toks:=tk}) :
  wpAny (model prog w) A (unpack (.str x t) targets) Q E s:=by
 unfold unpack;rw[hn,hstar];refine a2F (a2L ?_);unfold unpackItems;refine a2F ?_;unfold notIterableAtAll;refine a2F (a3u (typeIs_str _ _ _) F.slot_str_iter.lookup ?_);refine a2G ?_;simp only[Bool.false_eq_true,if_false];have go:∀ ty,(ty="str_ascii_iterator"\/ty="str_iterator")->wpAny (model prog w) A (do
   let items ← holding [Value.ref s.heap.objs.size] (draw (.ref s.heap.objs.size) x.length)
   if items.length < x.length then
    rule "unpack.too-few";raiseError "ValueError" s!"not enough values to unpack (expected {x.length}, got {items.length})"
   if(← holding items (pyNext (.ref s.heap.objs.size))).isSome then
    rule "unpack.too-many";raiseError "ValueError" s!"too many values to unpack (expected {x.length})"
   return items:Sem (List Value)) (λus s'=>wpAny (model prog w) A (assignInOrder (targets.map (·.2)) us) Q E s') E {s with heap:=s.heap.push {cls:=.type ty,data:=.fields #[.str x t,.int 0 0]}}:=by
  intro ty hty;refine a2F (a2L (oJ (it:=s.heap.objs.size) (x:=x) (t:=t) hty x.length 0 _ _ ⟨_,a3b _ rfl,rfl,rfl⟩ (by lia) λh₁ tk us hit₁ hs₁ hv=>?_));have hv':bW (dQ x) us:=by
   have e:((dQ x).drop 0).take x.length=dQ x:=by
    rw[List.drop_zero];exact a8c (by rw[eQ];exact a8a _)
   rw[e]at hv;exact hv
  have hl:us.length=x.length:=by rw[← hv'.length,eQ]
  rw[a2I (by lia)];have hend:x.cps[x.length]? = none:=by simp[Str.length]
  rw[a9e]at hit₁;have fin:∀ h₂,Heap.ExtBut s.heap.objs.size h₁ h₂->wpAny (model prog w) A (do
    if(none:Option Value).isSome then
     rule "unpack.too-many";raiseError "ValueError" s!"too many values to unpack (expected {x.length})"
    return us:Sem (List Value)) (λus s'=>wpAny (model prog w) A (assignInOrder (targets.map (·.2)) us) Q E s') E {s with heap:=h₂,toks:=tk}:=by
   intro h₂ he₂;simp only[Option.isSome_none,Bool.false_eq_true,if_false];exact a2G (h h₂ tk us (λb o hb e=>he₂ b o hb (hs₁.extBut b o hb (a6a _ e))) hv')
  rcases hty with rfl | rfl;exact a2F (a2L (wpAny_pyNext_ascii_end hh hit₁ hend λh₂ he₂=>fin h₂ he₂));exact a2F (a2L (wpAny_pyNext_wide_end hh hit₁ hend λh₂ he₂=>fin h₂ he₂))
 cases ha:x.cps.all (· < 128)with
 | true=>exact a2F (a2L (wpAny_pyIter_ascii ha (go _ (.inl rfl))))
 | false=>exact a2F (a2L (wpAny_pyIter_wide ha (go _ (.inr rfl))))
end
section
variable{X:Cx}{pos:Pos}
def bE6(K:W.Frag)(n:Nat)(t:TGs):TG:=λv σ H Q=>match v with
 | .str z=>z.length=n/\t (dQ z) σ H Q
 | .ref a=>∃ xs,fP H a=some (false,xs)/\xs.length=n/\t xs σ H Q
 | _=>False
def bR3{es:List Expr}{k:Nat}{t:TGs}{n:Nat}(g:X.calm=true)(h:PGs X es t)
  (hn:(assignEach es X.env).length=n:=by rfl) (d:(assignEach es X.env).findIdx? (·.1)=none:=by rfl):PG X (.Tuple es k pos) (bE6 X.K n t):=by
 intro pins s σ H v u Q I r c;unfold bE6 at c;split at c;rename_i z;obtain⟨f,c⟩:=c;obtain⟨tk,rfl⟩:=r;rw[assign_Tuple];refine a2F (a3s (wP (I.ok.hd g) (hn.trans f.symm) d λh' tk us i j=>?_));have l:Inv X pins σ H {s with heap:=h',toks:=tk}:=I.kept λb o e=>i b o (a4d (a4b e)) e;exact h pins _ σ H _ _ Q l j c;rename_i a;obtain⟨xs,m,f,c⟩:=c;exact cC2 (k:=k) (pos:=pos) g h hn d pins s σ H _ u Q I r ⟨a,xs,rfl,fA m,f,c⟩;exact c.elim
end
section
variable{X:Cx}
def bL4:List V->Hp->VK->Prop:=λxs H Q=>∃ p b ys,xs=[.ref p]/\fP H p=some (b,ys)/\∀ l,H l=none->Q (.ref l) (upd H l (.lst ys))
def aN5:jO X (.type "list") bL4:=by
 intro pins s σ H xs us Q I r h;obtain⟨p,b,ys,rfl,a,q⟩:=h;cases b with
 | true=>exact mV pins s σ H _ us Q I r ⟨p,ys,rfl,.inl (jF a),q⟩
 | false=>exact mV pins s σ H _ us Q I r ⟨p,ys,rfl,.inr (fA a),q⟩
def cE5:List V->Hp->VK->Prop:=λxs H Q=>∃ p b ys,xs=[.ref p]/\fP H p=some (b,ys)/\if b=true then ∀ l,H l=none->Q (.ref l) (upd H l (.tup ys))else Q (.ref p) H
def bO:jO X (.type "tuple") cE5:=by
 intro pins s σ H xs us Q I r h;obtain⟨p,b,ys,rfl,a,q⟩:=h;cases b with
 | true=>exact jP pins s σ H _ us Q I r ⟨p,ys,rfl,.inl ⟨jF a,by simpa using q⟩⟩
 | false=>exact jP pins s σ H _ us Q I r ⟨p,ys,rfl,.inr ⟨fA a,by simpa using q⟩⟩
def bR4:R2:=λx y H Q=>match x,y with
 | .int i,.int j=>cC5 i j/\Q (.int (i*j)) H
 | .str z,.int i=>z.length<=1000/\0<=i/\i<=1000/\∀ y:Str,y.length<=z.length*i.toNat->y=Txt.mul z i->Q (.str y) H
 | _,_=>False
def bR5(z:Str)(i:Int)(h0:0<=i):(Txt.mul z i).length<=z.length*i.toNat:=by
 unfold Txt.mul;by_cases b:i < 1;rw[a2H b];exact a1d _;rw[a2I b];by_cases c:(i==1||z.length==0)=true
 ·rw[a2H c];have:1<=i.toNat:=by lia
  calc z.length=z.length*1:=by rw[Nat.mul_one]
   _<=z.length*i.toNat:=Nat.mul_le_mul_left _ this
 ·rw[a2I c];have a:∀ (k:Nat) (acc:Array Nat),((List.replicate k z.cps).foldl (· ++ ·) acc).size=acc.size+k*z.cps.size:=by
   intro k
   induction k with
   | zero=>intro acc;simp
   | succ k d=>
     intro acc;rw[List.replicate_succ,List.foldl_cons,d,Array.size_append,Nat.succ_mul];lia
  show((List.replicate i.toNat z.cps).foldl (· ++ ·) #[]).size<=_;rw[a];show 0+_<=_;rw[a9e,a9h];exact a8a _
def cE6:OpR X (binaryOp .Mult) bR4:=by
 intro pins s σ H x y v u Q I a b h;unfold bR4 at h;split at h;exact cC7 pins s σ H _ _ v u Q I a b ⟨_,_,rfl,rfl,h.1,h.2⟩
 ·rename_i z i;obtain⟨d,e,g,q⟩:=h;obtain⟨t,rfl⟩:=a;obtain⟨c,rfl⟩:=b;have f:z.length*i.toNat<=1000*1000:=Nat.mul_le_mul d (by lia);refine SB.mul ⟨?_,λha hb=>?_,λha hb=>?_⟩ λc k=>⟨.str _,H,I.tok k,⟨c,rfl⟩,q _ (bR5 z i e) rfl⟩;rw[a2M (by lia),a2M (by lia)];rfl
  ·have j:(1000:Int)<=(2 ^ 63-1) / i:=by
    rw[Int.le_ediv_iff_mul_le (by lia)];lia
   lia
  ·unfold Builtin.Str.tooLong;exact a2M (by rw[a3n];lia)
 ·exact h.elim
end
section
variable{H:Hp}{Q:VK}{i j:Int}{p:Addr}{b:Bool}{xs:List V}
end
end L2
namespace L2
open PySem
def bE7{x:Str}{j:Int}(h0:0<=j)(a:j<=x.length):(Txt.slice x none (some j)).cps.toList=x.cps.toList.take j.toNat:=by
 have e:=PySem.StrLaws.sliceText_to (x:=x) (j:=j) ⟨h0,by simpa[Str.length]using a⟩;have b:Txt.slice x none (some j)=_:=e;rw[b];simp
def aN6{x:Str}{i:Int}(h0:0<=i)(b:i<=x.length):(Txt.slice x (some i) none).cps.toList=x.cps.toList.drop i.toNat:=by
 have a:i<=x.cps.toList.length:=by simpa[Str.length]using b
 have e:=PySem.StrLaws.sliceText_from (x:=x) (i:=i) ⟨h0,a⟩;have c:Txt.slice x (some i) none=_:=e;rw[c];show(x.cps.toList.drop i.toNat).take _=_;exact a8c (by rw[a9f];lia)
def hX(x:Str):x.length=x.cps.toList.length:=by simp[Str.length]
open PySem.Spec PyProof.Rows
noncomputable instance:DecidableEq Dt:=λ_ _=>Classical.propDecidable _
section
variable{X:Cx}{pins:List (Addr×Obj)}{σ:St}{H:Hp}{s:Shared}
end
section
variable{X:Cx}{pins:List (Addr×Obj)}{σ:St}{H:Hp}{s:Shared}
end
section
variable{X:Cx}
def bR6{prog:Program}{w:World}{A:Around}{E:Value->Shared->Prop}{s:Shared}{t b:Addr}{ws:List Value}{Q:Value->Shared->Prop}(h:IsTup s.heap t ([]:List Value).toArray)(hb:IsTup s.heap b ws.toArray)
  (i:Q (.ref b) s):wpAny (model prog w) A (binaryOp .Add (.ref t) (.ref b)) Q E s:=by
 obtain⟨⟨cls,j,data,sl⟩,e,f,n,hd⟩:=id h;obtain⟨⟨g,d,data2,sl2⟩,a,c,n2,hd2⟩:=id hb;simp only at f hd c hd2;subst f hd c hd2;exact concat_meets ⟨_,e,rfl⟩ ⟨_,a,rfl⟩ noFill_tuple_add seq_tuple_add F.slot_tuple_add F.entry_tuple_add (F.args_tuple_add_2 _ _)
   (tuple_addW0 t b ([]:List Value).toArray ws.toArray n n2 j d sl sl2 (by simp)) ⟨e,a,i⟩
def bR7:R2:=λx y H Q=>match x,y with
 | .int i,.int j=>Q (.int (i+j)) H
 | .str a,.str b=>a.length+b.length<=sizeLine/\Q (.str (a++b)) H
 | .ref p,.ref q=>(∃ xs ys,H p=some (.lst xs)/\H q=some (.lst ys)/\xs.length+ys.length<=sizeLine/\∀ r,H r=none->Q (.ref r) (upd H r (.lst (xs++ys)))) \/
   ∃ xs ys,fP H p=some (false,xs)/\fP H q=some (false,ys)/\xs.length+ys.length<=sizeLine/\(xs=[]->Q (.ref q) H)/\(xs≠[]->ys=[]->Q (.ref p) H)/\(xs≠[]->ys≠[]->∀ r,H r=none->Q (.ref r) (upd H r (.tup (xs++ys))))
 | _,_=>False
def cE7:OpR X (binaryOp .Add) bR7:=by
 intro pins s σ H x y v u Q I a b h;unfold bR7 at h;split at h;exact cC6 pins s σ H _ _ v u Q I a b ⟨_,_,rfl,rfl,h⟩;exact aM8 pins s σ H _ _ v u Q I a b ⟨_,_,rfl,rfl,h.1,h.2⟩;rename_i p q;rcases h with⟨xs,ys,d,f,g,q⟩ | ⟨xs,ys,d,f,g,j,k,l⟩;exact cD9 pins s σ H _ _ v u Q I a b ⟨_,_,xs,ys,rfl,rfl,d,f,g,q⟩;by_cases c:xs=[];cases a;cases b;obtain⟨its,m,n,_⟩:=I.tuple (fA d);obtain⟨i,r,o,_⟩:=I.tuple (fA f);have e:its=[]:=m.nil_iff.mpr c;subst e;exact bR6 n o ⟨.ref q,H,I,rfl,j c⟩;exact bQ1 pins s σ H _ _ v u Q I a b ⟨p,q,xs,ys,rfl,rfl,fA d,fA f,c,g,k c,l c⟩;exact h.elim
end
section
variable{X:Cx}
theorem aU3:∀ {b:List Str} {us:List Value},bW (b.map V.str) us->∀ u∈us,∃ z t,u=.str z t
 | [],_,.nil=>λu a=>nomatch a
 | z::r,_,.cons c d=>λu a=>by
   rcases a7b.mp a with e | e;obtain⟨t,q⟩:=c;exact⟨z,t,e.trans q⟩;exact aU3 d u e
noncomputable def isZ(z:Str):Value->Bool
 | .str y _=>y==z
 | _=>false
end
section
variable{prog:Program}{w:World}{A:Around}{E:Value->Shared->Prop}{s:Shared}
end
noncomputable abbrev kW(acc:Array Value)(c:Nat):Obj:={cls:=.type "list",dict:=none,data:=.seq acc c,slots:=#[]}
structure LoopJ(prog:Program)(w:World)(A:Around)(I S:Addr)(n:Nat)(J:Nat->Array Value->Heap->Prop)(K:Array Value->Heap->Prop):Prop where
 item:∀ i acc (s:Shared) (c:Nat) (Q:Option Value->Shared->Prop) (E:Value->Shared->Prop),i < n->J i acc s.heap->s.heap.get? S=some (kW acc c) ->
  (∀ v h' tk,J (i+1) (acc.push v) h'->h'.get? S=some (kW acc c)->Q (some v) {s with heap:=h',toks:=tk})->wpAny (model prog w) A (pyNext (.ref I)) Q E s
 done:∀ acc (s:Shared) (c:Nat) (Q:Option Value->Shared->Prop) (E:Value->Shared->Prop),J n acc s.heap->s.heap.get? S=some (kW acc c) ->
  (∀ h' tk,K acc h'->h'.get? S=some (kW acc c)->Q none {s with heap:=h',toks:=tk})->wpAny (model prog w) A (pyNext (.ref I)) Q E s
 frame:∀ i acc h h',J i acc h->h'.objs.size=h.objs.size->(∀ b o,b≠S->h.get? b=some o->h'.get? b=some o)->J i acc h'
section
variable{prog:Program}{w:World}{A:Around}{E:Value->Shared->Prop}{I S:Addr}{n:Nat}{J:Nat->Array Value->Heap->Prop}{K:Array Value->Heap->Prop}{R:Result->Shared->Prop}
def cE8(L:LoopJ prog w A.in1 I S n J K)(hn:n<=sizeLine)(res:Value):∀ (k i:Nat) (s:Shared) (acc:Array Value) (c:Nat),n-i=k->i<=n->J i acc s.heap->acc.size=i->s.heap.get? S=some (kW acc c) ->
  (∀ h' tk a j,K a h'->a.size=n->h'.get? S=some (kW a j)->R (.ok (.ret res)) {s with heap:=h',toks:=tk})->codeAny (model prog w) A (.builtin "list.extend.loop" ⟨[.ref S,.ref I,res],[]⟩) R s:=by
 intro k
 induction k with
 | zero=>
   intro i s acc c x hi l ha m p;obtain rfl:i=n:=by lia
   (refine a2S F.entry_extend_loop ?_;rw[a0g a1i _])
   (show wpAny _ A.in1 (pyNext (.ref I) >>= _) _ _ s;refine a2F (L.done acc s c _ _ l m λh' tk q d=>?_))
   exact a2G (p h' tk acc c q ha d)
 | succ k y=>
   intro i s acc c x hi l ha m p;have f:i < n:=by lia
   (refine a2S F.entry_extend_loop ?_;rw[a0g a1i _])
   (show wpAny _ A.in1 (pyNext (.ref I) >>= _) _ _ s;refine a2F (L.item i acc s c _ _ f l m λv h' tk r d=>?_))
   (show wpAny _ A.in1 (updateSeq S (·.push v) >>= _) _ _ _;refine a2F ?_)
   refine a3v d rfl (a2G ⟨a3o a1i _,y (i+1) _ (acc.push v) (c+1) (by lia) f ?_ (by rw[Array.size_push,ha]) ?_ ?_⟩) (by rw[ha];lia) (by show(acc.push v).size<=sizeLine+1;rw[Array.size_push,ha];lia);exact L.frame _ _ _ _ r (Heap.size_update ..) λb o hb e=>(a0e _ _ (a9c hb)).trans e;rw[a2e _ d rfl];simp[Obj.mapSeq];intro t g a j q u h;exact p t g a j q u h
end
section
variable{prog:Program}{w:World}{A:Around}{E:Value->Shared->Prop}{s:Shared}{I:Addr}{Q:Bool->Shared->Prop}
end
section
variable{prog:Program}{w:World}{A:Around}{E:Value->Shared->Prop}{s:Shared}
end
section
variable{X:Cx}
end
structure ZK(h0:Heap)(xs ys:Array Value)(acc:Array Value)(h:Heap):Prop where
 keep:∀ b o,h0.get? b=some o->h.get? b=some o
 got:∀ j,j < min xs.size ys.size->∃ T x y,acc[j]? = some (.ref T)/\xs[j]? = some x/\ys[j]? = some y/\IsPair h T x y/\h0.objs.size+6<=T
 nd:acc.toList.Nodup
section
variable{prog:Program}{w:World}{A:Around}{E:Value->Shared->Prop}{s:Shared}
end
section
variable{prog:Program}{w:World}{A:Around}{E:Value->Shared->Prop}{s:Shared}
end
section
variable{X:Cx}
end
noncomputable def oK(t c:String):Bool:=t==c||(t=="bool"&&c=="int")
def bE8{K:W.Frag}{t c:String}(a:t="NoneType"\/t="int"\/t="bool"\/t="str"\/t="list"\/t="tuple")(b:c="int"\/c="bool"\/c="str"\/c="list"\/c="tuple"):W.kitOne K (.type t) (.type c)=some (oK t c):=by
 rcases a with rfl | rfl | rfl | rfl | rfl | rfl<;>rcases b with rfl | rfl | rfl | rfl | rfl<;>first | exact bE5 | rfl | (unfold W.kitOne;decide +kernel) | (unfold W.kitOne;rfl)
end L2
namespace Mr
open PySem L2 PyProof.Rows
inductive Tr where
 | leaf (z:Str) | node (l r:Tr)
end Mr
namespace L2
open PySem PyProof.Rows
end L2
namespace L2
open PySem
end L2
namespace L2
end L2
namespace Mr
open PySem L2
end Mr
namespace L2
open PySem
def bR8{X:Cx}(K:W.Frag)(b:X.K=K){tg l:Expr}{a:TE}(c:PE X l a):PI X tg l (cR7 K a):=by rw[← b];exact cE4 c
def bE9{X:Cx}{pos:Pos}(K:W.Frag)(b:X.K=K){es:List Expr}{k:Nat}{t:TGs}{n:Nat}(c:X.calm=true)(h:PGs X es t)
  (hn:(assignEach es X.env).length=n:=by rfl) (a:(assignEach es X.env).findIdx? (·.1)=none:=by rfl):PG X (.Tuple es k pos) (bE6 K n t):=by rw[← b];exact bR3 c h hn a
section
variable{X:Cx}{o e:Expr}{es:List Expr}{to:TE}{t:TA}{name:Str}{apos cpos:Pos}{T id:String}{r:V->List V->Hp->VK->Prop}
def oM(K:W.Frag)(g:X.K=K)(pa:PlainAttrs T)(slot:Slot T name id)(f:typeOf (.builtin id)=pure (.type "method_descriptor"))(hm:MtR X id r)(h:PE X o to)(ha:PA X (e::es) t)
  (b:attributeBase o name X.env (eval o X.env)=eval o X.env:=by rfl)
  (d:((backTo cpos (starEach (e::es) X.env)).all (λx=>!x.1)&&(backToKw cpos (keywordEach [] X.env)).all (λx=>x.1.isSome)&&decide ((e::es).length+([]:List Keyword).length+(if([]:List Keyword).isEmpty then 0 else 1) < 30))=true:=by rfl)
  (c:(apos.endLine==cpos.line)=true:=by rfl) (hs:starEach (e::es) X.env=(false,eval e X.env)::starEach es X.env:=by rfl) (a:(backTo cpos (starEach es X.env)).any (·.1)=false:=by rfl) :
  PE X (.Call (.Attribute o name apos) (e::es) [] cpos) (tBM K T r to t):=by rw[← g];exact cO2 pa slot f hm h ha b d c hs a
end
end L2
namespace Mr
open PySem L2
end Mr
namespace L2
open PySem
section
variable{H:Hp}{Q:VK}{p q:Addr}{xs:List V}
end
end L2
namespace L2
end L2
namespace Mr
open PySem L2
open PyProof.Rows
section
variable{p q f l sp:Addr}{t:Tr}{v:V}{es ls:List V}{zs:List Str}{H0 H H':Hp}{fs:List V}
end
end Mr
namespace L2
open PySem
section
variable{M:Model}{A:Around}{E:Value->Shared->Prop}{s:Shared}
end
open PySem.Spec PyProof.Rows
section
variable{P:Program}{w:World}{H:Hp}{h:Heap}{e:Addr}{C:Value}{d:Option Addr}{tb:Value}
end
section
variable{X:Cx}{pins:List (Addr×Obj)}{σ:St}{H:Hp}{s:Shared}
end
section
variable{P:Program}{w:World}{K:W.Frag}{mg:Str->Option Value}{base:Heap}{N:List Str}{qual:Str}{scope:Scope}{f:Addr}{cd:Value}{A:Around}{outer:List Env}{s:Shared}{H:Hp}{E:XK}
end
end L2
namespace PySem
section
variable{prog:Program}{w:World}{E:Value->Shared->Prop}{A:Around}{os:OsState}{h:Heap}{t:Nat}{g:Array GenState}{d:Drawn}{eI:List Value}{fI:Addr}{oI:Obj}{mN:Str->Option Value}
 {nm q:Str} {B newId initId:String} {C N:Addr} {bs bm bmB sub:List Value} {hdct ab:Bool} {sn:List Str} {col:Option Bool} {dd:Option Addr} {k0 k1 k2 k3 k5:Option Value}
end
end PySem
namespace L2
open PySem PySem.Spec PyProof.Rows
section
variable{P:Program}{w:World}{H:Hp}{h:Heap}{a:Addr}{o:HO}
end
section
variable{X:Cx}{pins:List (Addr×Obj)}{σ:St}{H:Hp}{s:Shared}
end
section
variable{X:Cx}{CX:CXT}{k:Nat}{f C:Addr}{fd:FuncData}{ps:List Str}{sp:Sp}{E:XK}{x:Str}{p pos:Pos}{e:Expr}{es:List Expr}{t:TA}{B newId initId:String}{bmB:List Value}
end
end L2
namespace L2
open PySem
section
variable{M:Model}{A:Around}{E:Value->Shared->Prop}{env:Env}
variable{nm q:Str}{C N:Addr}{bs bm:List Value}{hdct:Bool}{sn:List Str}{sub:List Value}{ab:Bool}{col:Option Bool}{dd:Option Addr}{k0 k1 k2 k3 k5:Option Value}{newId:String}
end
open PyProof.Rows
section
variable{prog:Program}{w:World}{A:Around}{E:Value->Shared->Prop}{h:Heap}{g:Array GenState}{d:Drawn}{t:Nat}{os:OsState}
variable{nm q:Str}{C N:Addr}{bs bm bmB:List Value}{hdct:Bool}{sn:List Str}{sub:List Value}{ab:Bool}{col:Option Bool}{dd:Option Addr}{k0 k1 k2 k3 k5:Option Value}{B newId initId:String}
end
open PySem.W PySem.Spec PySem.Builtin PySem.Builtin.ObjectAttr
section
variable{prog:Program}{w:World}{A:Around}{E:Value->Shared->Prop}{s:Shared}{K:Frag}{x C:Addr}{ox:Obj}{name:Str}{v:Value}{cd:ClassData}{bmB:List Value}{B:String}{Q:Unit->Shared->Prop}{R:Result->Shared->Prop}
end
end L2
namespace L2
open PySem PySem.W PySem.Spec PyProof.Rows
section
variable{prog:Program}{w:World}{A:Around}{E:Value->Shared->Prop}{s:Shared}{K:Frag}{x C:Addr}{ox:Obj}{od:Option Obj}{name:Str}{expr:Bool}{v:Value}{Q:Value->Shared->Prop}{B:String}
end
section
variable{M:Model}{A:Around}{E:Value->Shared->Prop}{s:Shared}
variable{K:Frag}{e C D:Addr}{oe:Obj}{Q:Bool->Shared->Prop}
end
section
variable{prog:Program}{w:World}{A:Around}{E:Value->Shared->Prop}{s:Shared}{K:Frag}{x C:Addr}{ox:Obj}{od:Option Obj}{B:String}
end
end L2
namespace L2
open PySem PySem.Spec PyProof.Rows
section
variable{X:Cx}{o e value:Expr}{to te tv:TE}{f:Str}{pos pos' apos:Pos}
end
section
variable{P:Program}{w:World}{K:W.Frag}{mg:Str->Option Value}{base:Heap}{N:List Str}{qual:Str}{scope:Scope}{f:Addr}{cd:Value}{A:Around}{outer:List Env}{s:Shared}{H:Hp}{E:XK}{x:Expr}{te:TE}{pos:Pos}
end
section
variable{X:Cx}{C:Addr}{x:Str}{p pos:Pos}{e:Expr}{es:List Expr}{t:TA}
end
section
variable{X:Cx}{R:Str}{CR:Addr}{rp apos pos:Pos}{a:Expr}{as:List Expr}{t:TA}
end
section
variable{X:Cx}{e:Expr}{te:TE}{z1:Str}{j:Nat}{p p' pos:Pos}
end
section
variable{X:Cx}{pins pins':List (Addr×Obj)}{σ:St}{H:Hp}{s:Shared}{E:Value->Shared->Prop}{e:Value}
end
section
variable{X:Cx}{CX:CXT}{k:Nat}{f:Addr}{fd:FuncData}{ps:List Str}{sp:Sp}{E:St->XK}{x:Str}{p pos:Pos}{e:Expr}{es:List Expr}{t:TA}{pins0:List (Addr×Obj)}
end
section
variable{X:Cx}{pins:List (Addr×Obj)}{σ:St}{H:Hp}{s:Shared}{T:Addr}{oT:Obj}
end
abbrev TH:=Addr->Addr->Option Addr->Addr->TS
section
variable{X:Cx}{t:Expr}{tt:TE}{n:Str}{i:Nat}{b0:Stmt}{body:List Stmt}{ts:TS}{pos:Pos}{eI:List ExceptHandler}{th:TH}
end
section
variable{κ:Type}[DecidableEq κ]
noncomputable def kX(kvs:List (κ×V))(k:κ):Option V:=(kvs.find? λa=>decide (a.1=k)).map (·.2)
def iR{p:κ×V}{r:List (κ×V)}{k:κ}(e:p.1=k):kX (p::r) k=some p.2:=by simp[kX,List.find?_cons,e]
def iS{p:κ×V}{r:List (κ×V)}{k:κ}(e:¬ p.1=k):kX (p::r) k=kX r k:=by simp[kX,List.find?_cons,e]
def bK1.isSome_eq{o:Option V}{u:Option Value}(r:bK1 o u):o.isSome=u.isSome:=by
 cases o with
 | none=>cases u with
   | none=>rfl
   | some _=>exact(show False from r).elim
 | some _=>cases u with
   | none=>exact(show False from r).elim
   | some _=>rfl
theorem bK1.getD{o:Option V}{u:Option Value}{d:V}{d':Value}(r:bK1 o u)(rd:eH d d'):eH (o.getD d) (u.getD d'):=by
 cases o with
 | none=>cases u with
   | none=>exact rd
   | some _=>exact(show False from r).elim
 | some _=>cases u with
   | none=>exact(show False from r).elim
   | some _=>exact r
end
def cO5{P:Program}{w:World}{k:Key}{u:Value}(r:eH (kV k) u):(cH P w).is k u=true:=by
 cases k with
 | inl i=>obtain⟨t,e⟩:=(show ∃ t,u=Value.int i t from r);subst e;exact aB7 P w i t
 | inr x=>obtain⟨t,e⟩:=(show ∃ t,u=Value.str x t from r);subst e;exact aB8 P w x t
theorem yM{P:Program}{w:World}:∀ {ks:List Key} {us:List Value},bW (ks.map kV) us->ItemsAre (cH P w) ks us
 | [],_,r=>by rw[List.map_nil]at r;cases r;exact .nil
 | k::ks,_,r=>by
   rw[a1e]at r;cases r with
   | cons h t=>exact .cons (cO5 h) (yM t)
abbrev KT(H:Hp):List (List Key×V)->List (List Key×Addr×Value)->Prop:=Paired λp q=>p.1=q.1/\H q.2.1=some (.tup (p.1.map kV))/\eH p.2 q.2.2
def KT.val{H:Hp}{kvs:List (List Key×V)}{xs:List (List Key×Addr×Value)}(r:KT H kvs xs)(k:List Key):bK1 (kX kvs k) ((atKey xs k).map (·.2)):=by
 induction r with
 | nil=>exact True.intro
 | @cons p q ps a h t f=>
   obtain⟨d,_,g⟩:=h;by_cases e:p.1=k
   ·have c:q.1=k:=d.symm.trans e;have b:atKey (q::a) k=some q.2:=by simp[atKey,List.find?_cons,c]
    rw[iR e,b];exact g
   ·have c:¬ q.1=k:=λz=>e (d.trans z);have b:atKey (q::a) k=atKey a k:=by simp[atKey,List.find?_cons,c]
    rw[iS e,b];exact f
def KT.keeps{H H':Hp}{kvs:List (List Key×V)}{xs:List (List Key×Addr×Value)}(r:KT H kvs xs)(a:∀ b ys,H b=some (.tup ys)->H' b=some (.tup ys)):KT H' kvs xs:=
 Paired.mapP r λ_ _ z=>⟨z.1,a _ _ z.2.1,z.2.2⟩
section
variable{P:Program}{w:World}{H:Hp}{h:Heap}{a:Addr}
def cE9{u:HO}(ok:HOk P w H h)(e:Rd H a u):cL P w H h a u:=e.ok ok
def bR9{kvs:List (Key×V)}(ok:HOk P w H h)(e:Rd H a (.dK kvs)):kvs.length<=sizeLine/\(a==sysModules)=false/\∃ vs,KV kvs vs/\h.DictOf (cH P w) a vs:=
 show cL P w H h a (.dK kvs)from cE9 ok e
def cO6{kvs:List (Key×V)}(ok:HOk P w H h)(e:H a=some (.dK kvs)):kvs.length<=sizeLine/\(a==sysModules)=false/\∃ vs,KV kvs vs/\h.DictOf (cH P w) a vs:=bR9 ok (.inl e)
def aI0{ks:List Key}(ok:HOk P w H h)(e:H a=some (.tup (ks.map kV))):(tupleKind (cH P w)).is h ks a:=by
 obtain⟨_,its,r,⟨o,b,c,n,d⟩,_⟩:=(show cL P w H h a (.tup (ks.map kV))from ok a _ e);exact⟨o,its.toArray,n,b,c,d,by simpa using yM r⟩
def bS0{kvs:List (List Key×V)}(ok:HOk P w H h)(e:Rd H a (.dT kvs)):kvs.length<=sizeLine/\(a==sysModules)=false /\
  ∃ xs,KT H kvs xs/\h.DictOfH (tupleKind (cH P w)) a xs:=by
 obtain⟨z,y,xs,r,o,es,ep,d,f,g,i,j⟩:=(show cL P w H h a (.dT kvs)from cE9 ok e);refine⟨z,y,xs,r,o,es,ep,d,f,g,i,λx b=>?_,j⟩;have all:∀ {l:List (List Key×V)} {m:List (List Key×Addr×Value)},KT H l m->∀ x∈m,(tupleKind (cH P w)).is h x.1 x.2.1:=by
  intro l m q
  induction q with
  | nil=>intro x b;exact nomatch b
  | @cons p q ps n c t k=>
    intro x b;rcases a7b.mp b with e | b;subst e;exact aI0 ok (by rw[← c.1];exact c.2.1);exact k x b
 exact all r x b
def cO7{kvs:List (List Key×V)}(ok:HOk P w H h)(e:H a=some (.dT kvs)):kvs.length<=sizeLine/\(a==sysModules)=false /\
  ∃ xs,KT H kvs xs/\h.DictOfH (tupleKind (cH P w)) a xs:=bS0 ok (.inl e)
end
section
variable{X:Cx}{pins:List (Addr×Obj)}{σ:St}{H:Hp}{s:Shared}{a:Addr}{y v:V}{u r:Value}{o:Option V}{A:Around}{E:Value->Shared->Prop}
def Inv.big(I:Inv X pins σ H s):sysModules < s.heap.objs.size:=by
 have h:mainGlobals < s.heap.objs.size:=(I.mod.glob.keeps I.bk).lt;exact a3g (by decide) h
def bS1{h':Heap}{t':Nat}{ob:HO}(I:Inv X pins σ H s)(mu:Mut (H a))(hs:Heap.SameBut a s.heap h')(d:∃ q,h'.get? a=some q)(c:cL X.prog X.w (upd H a ob) h' a ob) :
  Inv X pins σ (upd H a ob) {s with heap:=h',toks:=t'}:=
 I.write (x:=a) (e:=a) mu (.inl rfl) (λb q hb z=>(hs.2 b hb).trans z) d c
end
section
variable{X:Cx}{pins:List (Addr×Obj)}{σ:St}{H:Hp}{s:Shared}{a:Addr}{kvs:List (Key×V)}{k:Key}{u:Value}{A:Around}{E:Value->Shared->Prop}
end
section
variable{X:Cx}{o i e value:Expr}{pos pos' tpos:Pos}{td ty tv:TE}
end
def bF0{P:Program}{w:World}{H:Hp}(h:Heap)(hb:sysModules < h.objs.size):cL P w H (h.push {cls:=.type "dict",data:=.dict #[]}) h.objs.size (.dT []):=
 ⟨a1d _,beq_eq_false_iff_ne.mpr (a9c (a4d hb)),[],.nil,_,#[],0,a3b _ rfl,⟨rfl,rfl,rfl⟩,rfl,rfl,List.nodup_nil⟩
def aU4:TE:=λ_ H Q=>∀ p,H p=none->Q (.ref p) (upd H p (.dT []))
section
variable{X:Cx}{pos:Pos}
def bF1:PE X (.Dict [] [] pos) aU4:=λpins s σ H Q I h=>
 wpAny_Dict_empty ⟨.ref s.heap.objs.size,_,I.laid (a:=s.heap.objs.size) (o:=.dT []) (t':=s.toks) (λ_ _ q=>a6a _ q) (a8a _) (bF0 s.heap I.big),rfl,h _ (I.hok.fresh (a8a _))⟩
end
structure M2(X:Cx)(o:Expr)(m:Str)(apos:Pos)(e f:Expr)(cpos:Pos):Prop where
 base:attributeBase o m X.env (eval o X.env)=eval o X.env
 few:((backTo cpos (starEach [e,f] X.env)).all (λx=>!x.1)&&(backToKw cpos (keywordEach [] X.env)).all (λx=>x.1.isSome)
  && decide (([e,f]:List Expr).length+([]:List Keyword).length+(if([]:List Keyword).isEmpty then 0 else 1) < 30))=true
 line:(apos.endLine==cpos.line)=true
 trees:backTo cpos (starEach [e,f] X.env)=[(false,eval e X.env),(false,eval f X.env)]
def IsD(H:Hp)(a:Addr):Prop:=(∃ kvs,Rd H a (.dK kvs))\/∃ kvs,Rd H a (.dT kvs)
def bL5{X:Cx}{pins:List (Addr×Obj)}{σ:St}{H:Hp}{s:Shared}{a:Addr}(I:Inv X pins σ H s)(d:IsD H a) :
  s.TypeIs (.ref a) "dict"/\(∀ b,Value.ref a=.ref b->∃ ob,s.heap.get? b=some ob/\ob.dict=none)/\(a==sysModules)=false:=by
 rcases d with⟨kvs,e⟩ | ⟨kvs,e⟩;obtain⟨_,hd,vs,_,c⟩:=bR9 I.hok e;refine⟨c.typeIs,λb q=>?_,hd⟩;cases q;obtain⟨ob,_,_,f,g,_⟩:=c;exact⟨ob,f,g.2.1⟩;obtain⟨_,hd,xs,_,c⟩:=bS0 I.hok e;refine⟨c.typeIs,λb q=>?_,hd⟩;cases q;obtain⟨ob,_,_,f,g,_⟩:=c;exact⟨ob,f,g.2.1⟩
section
variable{X:Cx}{pins:List (Addr×Obj)}{σ:St}{H:Hp}{s:Shared}{a:Addr}{y d:V}{u r:Value}{o:Option V}{A:Around}{E:Value->Shared->Prop}
end
section
variable{X:Cx}{o e f:Expr}{apos cpos:Pos}{td ty tx:TE}
end
section
variable{X:Cx}{pins:List (Addr×Obj)}{σ:St}{H:Hp}{s:Shared}{a:Addr}{kvs:List (Key×V)}{A:Around}{E:Value->Shared->Prop}
end
section
variable{X:Cx}{pins:List (Addr×Obj)}{σ:St}{H:Hp}{s:Shared}{a:Addr}{y:V}{u:Value}{A:Around}{E:Value->Shared->Prop}
end
section
variable{X:Cx}
end
section
variable{K:W.Frag}{t:TA}{te to tv:TE}{f:Str}{σ:St}{H:Hp}{Q:VK}{D:Ends}{sp:Sp}{C:Addr}{E:XK}{Ex:St->XK}{tb:(St->XK)->TS}{th:TH}{i:Nat}{ts:TS}
end
end L2
namespace Mr
open PySem L2 PyProof.Rows
end Mr
namespace Mr
open PySem L2
section
variable{K:W.Frag}{H:Hp}{C t D0 D1 D2 D3:Addr}{b0 b1 b2 b3:Bool}
end
end Mr
namespace L2
open PySem PySem.Spec PyProof.Rows
section
variable{X:Cx}
end
section
variable{t tk tv td ty tx:TE}{r:List (TE×TE)}{σ:St}{H:Hp}{Q:VK}{R:List (V×V)->Hp->Prop}
end
end L2
namespace Mr
open PySem L2 PyProof.Rows
theorem qP{m:Nat}{sep:Str}(hs:∀ c∈sep.cps.toList,c < m):∀ b:List Str,(∀ z∈b,∀ c∈z.cps.toList,c < m)->∀ c∈(Str.join sep b).cps.toList,c < m
 | [],_=>λc a=>by simp[Str.join,Str.empty]at a
 | [x],h=>λc a=>h x a3a c a
 | x::y::r,h=>λc a=>by
   have d:=qP hs (y::r) λz f=>h z (a4a _ f);have e:(Str.join sep (x::y::r)).cps.toList=x.cps.toList++sep.cps.toList++(Str.join sep (y::r)).cps.toList:=by
    show(x++sep++Str.join sep (y::r)).cps.toList=_;rw[Str.cps_append,Str.cps_append,Array.toList_append,Array.toList_append]
   rw[e]at a;rcases a3c.mp a with a | a;rcases a3c.mp a with a | a;exact h x a3a c a;exact hs c a;exact d c a
def aC8{m:Nat}{sep:Str}(hs:∀ c∈sep.cps.toList,c < m)(a:List Str)(h:∀ z∈a,∀ c∈z.cps.toList,c < m):∀ c∈(Txt.join sep a).cps.toList,c < m:=by
 show ∀ c∈(Builtin.Str.glued sep a).cps.toList,c < m;rw[StrLaws.glued_eq_join];exact qP hs a h
def aU5:∀ c∈(Str.ofString "abcdefghijklmnopqrstuvwxyz").cps.toList,c < 128:=by decide
end Mr
namespace Dv
open PySem L2
inductive D where
 | non | bl (b:Bool) | int (i:Int) | str (x:Str) | tup (l:List D) | lst (l:List D) | dic (ks vs:List D)
noncomputable instance:DecidableEq D:=λ_ _=>Classical.propDecidable _
noncomputable instance:Inhabited D:=⟨.non⟩
noncomputable def qB:Key->D
 | .inl i=>.int i
 | .inr x=>.str x
def bS2:HO->List D->List V->Prop
 | .dK kvs,ks,ws=>ks=kvs.map (λa=>qB a.1)/\ws=kvs.map (·.2)
 | .dT kvs,ks,ws=>ks=kvs.map (λa=>D.tup (a.1.map qB))/\ws=kvs.map (·.2)
 | _,_,_=>False
mutual
inductive Rp(H:Hp):D->V->Prop
 | non:Rp H .non .non
 | bl (b:Bool):Rp H (.bl b) (.bl b)
 | int (i:Int):Rp H (.int i) (.int i)
 | str (x:Str):Rp H (.str x) (.str x)
 | tup {l:List D} {p:Addr} {xs:List V}:H p=some (.tup xs)->Rps H l xs->Rp H (.tup l) (.ref p)
 | lst {l:List D} {p:Addr} {xs:List V} {o:Obj}:H p=some (.frz o (.lst xs))->Rps H l xs->Rp H (.lst l) (.ref p)
 | dic {ks vs:List D} {p:Addr} {o:Obj} {u:HO} {ws:List V}:H p=some (.frz o u)->bS2 u ks ws->Rps H vs ws->Rp H (.dic ks vs) (.ref p)
inductive Rps(H:Hp):List D->List V->Prop
 | nil:Rps H [] []
 | cons {d:D} {r:List D} {x:V} {xs:List V}:Rp H d x->Rps H r xs->Rps H (d::r) (x::xs)
end
structure Ext(H H':Hp):Prop where
 tup:∀ p xs,H p=some (.tup xs)->H' p=some (.tup xs)
 frz:∀ p o u,H p=some (.frz o u)->H' p=some (.frz o u)
def Ext.same{H H':Hp}(h:xY H H'):Ext H H':=⟨λp xs e=>h p _ e,λp o u e=>h p _ e⟩
mutual
theorem Rp.mono{H H':Hp}(a:Ext H H'):∀ {d:D} {x:V},Rp H d x->Rp H' d x
 | _,_,.non=>.non
 | _,_,.bl b=>.bl b
 | _,_,.int i=>.int i
 | _,_,.str x=>.str x
 | _,_,.tup h r=>.tup (a.tup _ _ h) (Rps.mono a r)
 | _,_,.lst h r=>.lst (a.frz _ _ _ h) (Rps.mono a r)
 | _,_,.dic h k r=>.dic (a.frz _ _ _ h) k (Rps.mono a r)
theorem Rps.mono{H H':Hp}(b:Ext H H'):∀ {l:List D} {xs:List V},Rps H l xs->Rps H' l xs
 | _,_,.nil=>.nil
 | _,_,.cons a r=>.cons (Rp.mono b a) (Rps.mono b r)
end
section
variable{H:Hp}
theorem Rps.length:∀ {l:List D} {xs:List V},Rps H l xs->l.length=xs.length
 | _,_,.nil=>rfl
 | _,_,.cons _ r=>by simp[Rps.length r]
theorem Rps.get:∀ {l:List D} {xs:List V} {i:Nat} {d:D},Rps H l xs->l[i]? = some d->∃ x,xs[i]? = some x/\Rp H d x
 | _,_,_,_,.nil,h=>by simp at h
 | _,_,0,_,.cons a r,h=>by simp at h;subst h;exact⟨_,rfl,a⟩
 | _,_,i+1,_,.cons a r,h=>by
   obtain⟨x,e,q⟩:=Rps.get (i:=i) r (by simpa using h);exact⟨x,by simpa using e,q⟩
theorem Rps.append:∀ {l m:List D} {xs ys:List V},Rps H l xs->Rps H m ys->Rps H (l++m) (xs++ys)
 | _,_,_,_,.nil,h=>h
 | _,_,_,_,.cons a r,h=>.cons a (Rps.append r h)
theorem Rps.take:∀ {l:List D} {xs:List V} (n:Nat),Rps H l xs->Rps H (l.take n) (xs.take n)
 | _,_,0,_=>.nil
 | _,_,_+1,.nil=>.nil
 | _,_,n+1,.cons a r=>.cons a (Rps.take n r)
theorem Rps.drop:∀ {l:List D} {xs:List V} (n:Nat),Rps H l xs->Rps H (l.drop n) (xs.drop n)
 | _,_,0,r=>r
 | _,_,_+1,.nil=>.nil
 | _,_,n+1,.cons _ r=>Rps.drop n r
theorem Rps.set:∀ {l:List D} {xs:List V} {d:D} {x:V} (i:Nat),Rps H l xs->Rp H d x->Rps H (l.set i d) (xs.set i x)
 | _,_,_,_,_,.nil,_=>.nil
 | _,_,_,_,0,.cons _ r,q=>.cons q r
 | _,_,_,_,i+1,.cons a r,q=>.cons a (Rps.set i r q)
theorem Rps.eraseIdx:∀ {l:List D} {xs:List V} (i:Nat),Rps H l xs->Rps H (l.eraseIdx i) (xs.eraseIdx i)
 | _,_,_,.nil=>.nil
 | _,_,0,.cons _ r=>r
 | _,_,i+1,.cons a r=>.cons a (Rps.eraseIdx i r)
theorem wQ:∀ ns:List Int,Rps H (ns.map D.int) (ns.map V.int)
 | []=>.nil
 | n::r=>.cons (.int n) (wQ r)
theorem Rps.ints_inv:∀ {ns:List Int} {xs:List V},Rps H (ns.map D.int) xs->xs=ns.map V.int
 | [],_,h=>by cases h;rfl
 | n::r,_,h=>by
   rw[a1e]at h;cases h with
   | cons a t=>cases a;rw[Rps.ints_inv t];rfl
theorem Rps.strs_inv:∀ {ns:List Str} {xs:List V},Rps H (ns.map D.str) xs->xs=ns.map V.str
 | [],_,h=>by cases h;rfl
 | n::r,_,h=>by
   rw[a1e]at h;cases h with
   | cons a t=>cases a;rw[Rps.strs_inv t];rfl
theorem Rps.bls_inv:∀ {ns:List Bool} {xs:List V},Rps H (ns.map D.bl) xs->xs=ns.map V.bl
 | [],_,h=>by cases h;rfl
 | n::r,_,h=>by
   rw[a1e]at h;cases h with
   | cons a t=>cases a;rw[Rps.bls_inv t];rfl
end
inductive Md where
 | val | own | par | lent
 deriving DecidableEq
noncomputable def Md.mt:Md->Bool
 | .own=>true
 | .par=>true
 | _=>false
structure Sl where
 m:Md
 d:D
abbrev Sg:=List (Option Sl)
def cM(H:Hp)(d:D)(p:Addr):Prop:=match d with
 | .lst l=>∃ xs,H p=some (.lst xs)/\Rps H l xs
 | .dic ks vs=>∃ u ws,H p=some u/\bS2 u ks ws/\Rps H vs ws
 | _=>False
theorem cM.mono{H H':Hp}{d:D}{p:Addr}(h:cM H d p)(e:Ext H H')(c:∀ o,H p=some o->H' p=some o):cM H' d p:=by
 unfold cM at h ⊢;split at h;obtain⟨xs,a,b⟩:=h;exact⟨xs,c _ a,b.mono e⟩;obtain⟨u,ws,a,b,f⟩:=h;exact⟨u,ws,c _ a,b,f.mono e⟩;exact h.elim
def cM.obj{H:Hp}{d:D}{p:Addr}(h:cM H d p):∃ o,H p=some o/\(∀ xs,o≠.tup xs)/\∀ ob u,o≠.frz ob u:=by
 unfold cM at h;split at h;obtain⟨xs,a,b⟩:=h;exact⟨_,a,⟨λ_ z=>(by cases z),λ_ _ z=>(by cases z)⟩⟩;obtain⟨u,ws,a,b,c⟩:=h;refine⟨_,a,λ_ z=>?_,λ_ _ z=>?_⟩<;>(subst z;exact b);exact h.elim
def bF2(H:Hp)(s:Sl)(v:V):Prop:=match s.m with
 | .val=>Rp H s.d v
 | _=>∃ p,v=.ref p/\cM H s.d p
def cN{H:Hp}{s:Sl}{v:V}(h:s.m≠.val):bF2 H s v↔∃ p,v=.ref p/\cM H s.d p:=by
 obtain⟨m,d⟩:=s;cases m with
 | val=>exact absurd rfl h
 | own=>exact Iff.rfl
 | par=>exact Iff.rfl
 | lent=>exact Iff.rfl
def Vw(H:Hp)(d:D)(v:V):Prop:=Rp H d v\/∃ p,v=.ref p/\cM H d p
def bF2.vw{H:Hp}{s:Sl}{v:V}(h:bF2 H s v):Vw H s.d v:=by
 by_cases e:s.m=.val;obtain⟨m,d⟩:=s;cases e;exact .inl h;exact .inr ((cN e).mp h)
inductive Vws(H:Hp):List D->List V->Prop
 | nil:Vws H [] []
 | cons {d:D} {r:List D} {x:V} {xs:List V}:Vw H d x->Vws H r xs->Vws H (d::r) (x::xs)
def hU(σ:Sg)(σV:St)(a:Addr):Prop:=∃ (i:Nat) (s:Sl),σ[i]? = some (some s)/\s.m.mt=true/\σV[i]? = some (some (.ref a))
def aI1(σ:Sg)(σV:St)(a:Addr):Prop:=∃ (i:Nat) (s:Sl),σ[i]? = some (some s)/\s.m≠.val/\σV[i]? = some (some (.ref a))
def hU.nv{σ:Sg}{σV:St}{a:Addr}(h:hU σ σV a):aI1 σ σV a:=by
 obtain⟨i,s,c,b,d⟩:=h;exact⟨i,s,c,λz=>(by rw[z]at b;cases b),d⟩
structure Gm where
 H₀:Hp
 pr:Addr->Prop
structure StOk(Γ:Gm)(H:Hp)(σ:Sg)(σV:St):Prop where
 rel:∀ (i:Nat) s,σ[i]? = some (some s)->∃ v,σV[i]? = some (some v)/\bF2 H s v
 dis:∀ (i j:Nat) s t p,i≠j->σ[i]? = some (some s)->σ[j]? = some (some t)->s.m.mt=true->t.m≠.val->σV[i]? = some (some (.ref p))->σV[j]? = some (some (.ref p))->False
 own:∀ (i:Nat) s p,σ[i]? = some (some s)->s.m=.own->σV[i]? = some (some (.ref p))->Γ.H₀ p=none
 par:∀ (i:Nat) s p,σ[i]? = some (some s)->s.m=.par->σV[i]? = some (some (.ref p))->Γ.pr p
 keep:∀ a o,Γ.H₀ a=some o->¬ Γ.pr a->H a=some o
 dom:∀ a,H a=none->Γ.H₀ a=none
 len:σ.length=σV.length
structure Step(σ:Sg)(σV:St)(H:Hp)(σ':Sg)(σV':St)(H':Hp):Prop where
 fr:∀ a o,H a=some o->¬ hU σ σV a->H' a=some o
 dom:∀ a,H' a=none->H a=none
 mu:∀ a,hU σ' σV' a->hU σ σV a\/H a=none
 nv:∀ a,aI1 σ' σV' a->aI1 σ σV a\/H a=none
 kp:∀ (i:Nat) s,σ[i]? = some (some s)->∃ s',σ'[i]? = some (some s')
 fix:∀ (i:Nat) s,σ[i]? = some (some s)->(s.m=.par\/s.m=.lent)->∃ s',σ'[i]? = some (some s')/\s'.m=s.m/\(s.m=.lent->s'.d=s.d)/\σV'[i]? = σV[i]?
 lt:∀ (i:Nat) s',σ'[i]? = some (some s')->s'.m=.lent->∃ s,σ[i]? = some (some s)/\s.m=.lent
section
variable{σ σ1 σ2:Sg}{σV σV1 σV2:St}{H H1 H2:Hp}{Γ:Gm}
def Step.refl:Step σ σV H σ σV H:=⟨λ_ _ h _=>h,λ_ h=>h,λ_ h=>.inl h,λ_ h=>.inl h,λi s h=>⟨s,h⟩,λi s h _=>⟨s,h,rfl,λ_=>rfl,rfl⟩,λi s h m=>⟨s,h,m⟩⟩
theorem Step.trans(a:Step σ σV H σ1 σV1 H1)(b:Step σ1 σV1 H1 σ2 σV2 H2):Step σ σV H σ2 σV2 H2 where
 fr:=λc o h n=>b.fr c o (a.fr c o h n) λz=>by
  rcases a.mu c z with q | q;exact n q;rw[h]at q;cases q
 dom:=λc h=>a.dom c (b.dom c h)
 mu:=λc h=>by
  rcases b.mu c h with q | q;exact a.mu c q;exact .inr (a.dom c q)
 nv:=λc h=>by
  rcases b.nv c h with q | q;exact a.nv c q;exact .inr (a.dom c q)
 kp:=λi s h=>by
  obtain⟨s1,d⟩:=a.kp i s h;exact b.kp i s1 d
 fix:=λi s h hm=>by
  obtain⟨s1,d,e,f,g⟩:=a.fix i s h hm;obtain⟨s2,j,k,l,p⟩:=b.fix i s1 d (by rw[e];exact hm);exact⟨s2,j,k.trans e,λz=>(l (e.trans z)).trans (f z),p.trans g⟩
 lt:=λi s h m=>by
  obtain⟨s1,d,e⟩:=b.lt i s h m;exact a.lt i s1 d e
def StOk.mutObj(ok:StOk Γ H σ σV){a:Addr}(h:aI1 σ σV a):∃ o,H a=some o/\(∀ xs,o≠.tup xs)/\∀ ob u,o≠.frz ob u:=by
 obtain⟨i,s,b,c,d⟩:=h;obtain⟨v,e,r⟩:=ok.rel i s b;rw[d]at e;cases e;obtain⟨p,e,q⟩:=(cN c).mp r;cases e;exact q.obj
def Step.ext(st:Step σ σV H σ1 σV1 H1)(ok:StOk Γ H σ σV):Ext H H1:=by
 refine⟨λp xs h=>st.fr p _ h λz=>?_,λp o u h=>st.fr p _ h λz=>?_⟩;obtain⟨o,e,n,_⟩:=ok.mutObj z.nv;rw[h]at e;cases e;exact n _ rfl;obtain⟨o,e,_,n⟩:=ok.mutObj z.nv;rw[h]at e;cases e;exact n _ _ rfl
theorem bF2.mono{s:Sl}{v:V}(r:bF2 H s v)(e:Ext H H1)(b:∀ p o,v=.ref p->s.m≠.val->H p=some o->H1 p=some o):bF2 H1 s v:=by
 by_cases q:s.m=.val;obtain⟨m,d⟩:=s;cases q;exact Rp.mono e r;obtain⟨p,a,c⟩:=(cN q).mp r;exact(cN q).mpr ⟨p,a,c.mono e λo=>b p o a q⟩
theorem StOk.same(ok:StOk Γ H σ σV)(h:xY H H1):StOk Γ H1 σ σV:=
 ⟨λi s e=>by
  obtain⟨v,b,r⟩:=ok.rel i s e;exact⟨v,b,r.mono (.same h) λp o _ _ q=>h p o q⟩,ok.dis,ok.own,ok.par,λa o e n=>h a o (ok.keep a o e n),λa e=>ok.dom a (by
  cases q:H a with
  | none=>rfl
  | some o=>rw[h a o q]at e;cases e),ok.len⟩
def aU6(h:xY H H1){a:Addr}(e:H1 a=none):H a=none:=by
 cases q:H a with
 | none=>rfl
 | some o=>rw[h a o q]at e;cases e
def Step.same(h:xY H H1):Step σ σV H σ σV H1:=⟨λa o e _=>h a o e,λa e=>aU6 h e,λ_ h=>.inl h,λ_ h=>.inl h,λi s h=>⟨s,h⟩,λi s h _=>⟨s,h,rfl,λ_=>rfl,rfl⟩,λi s h m=>⟨s,h,m⟩⟩
end
inductive Res where
 | val (d:D) | own (d:D) | slot (i:Nat)
def jB(Γ:Gm)(H:Hp)(σ:Sg)(σV:St)(r:Res)(v:V):Prop:=match r with
 | .val d=>Rp H d v
 | .own d=>∃ p,v=.ref p/\cM H d p/\¬ aI1 σ σV p/\Γ.H₀ p=none
 | .slot i=>σV[i]? = some (some v)/\∃ s,σ[i]? = some (some s)
noncomputable def rd(σ:Sg):Res->Option D
 | .val d=>some d
 | .own d=>some d
 | .slot i=>match σ[i]? with
   | some (some s)=>some s.d
   | _=>none
section
variable{σ σ1:Sg}{σV σV1:St}{H H1:Hp}{Γ:Gm}{r:Res}{v:V}{d:D}
theorem jB.vw(ok:StOk Γ H σ σV)(h:jB Γ H σ σV r v)(e:rd σ r=some d):Vw H d v:=by
 cases r with
 | val d'=>cases e;exact .inl h
 | own d'=>cases e;obtain⟨p,a,b,_⟩:=h;exact .inr ⟨p,a,b⟩
 | slot i=>
   obtain⟨f,s,c⟩:=h;have g:some s.d=some d:=by
    have:rd σ (.slot i)=some s.d:=by show(match σ[i]? with | some (some s)=>some s.d | _=>none)=_;rw[c]
    rw[← this];exact e
   cases g;obtain⟨w,a,b⟩:=ok.rel i s c;rw[f]at a;cases a;exact b.vw
def jB.step(ok:StOk Γ H σ σV)(h:jB Γ H σ σV r v)(st:Step σ σV H σ1 σV H1):jB Γ H1 σ1 σV r v:=by
 cases r with
 | val d=>exact Rp.mono (st.ext ok) h
 | own d=>
   obtain⟨p,c,a,b,e⟩:=h;obtain⟨o,f,_⟩:=a.obj;refine⟨p,c,a.mono (st.ext ok) λo h=>st.fr p o h λz=>b z.nv,λz=>?_,e⟩;rcases st.nv p z with q | q;exact b q;rw[f]at q;cases q
 | slot i=>
   obtain⟨g,s,j⟩:=h;exact⟨g,st.kp i s j⟩
end
abbrev DE:=Sg->Option (Res×Sg)
abbrev DT:=Sg->Option (Bool×Sg)
abbrev DA:=Sg->Option (List Res×Sg)
inductive ResOks(Γ:Gm)(H:Hp)(σ:Sg)(σV:St):List Res->List V->Prop
 | nil:ResOks Γ H σ σV [] []
 | cons {r:Res} {rs:List Res} {v:V} {vs:List V}:jB Γ H σ σV r v->ResOks Γ H σ σV rs vs->(∀ d p,r=.own d->v=.ref p->∀ (j:Nat) d',rs[j]? = some (.own d')->vs[j]? ≠ some (.ref p))->ResOks Γ H σ σV (r::rs) (v::vs)
def Frh(H:Hp)(r:Res)(v:V):Prop:=∀ d p,r=.own d->v=.ref p->H p=none
def eJ{H:Hp}{d:D}{v:V}:Frh H (.val d) v:=λ_ _ e=>nomatch e
def Frh.back{H c:Hp}{r:Res}{v:V}{σ b:Sg}{σV a:St}(f:Frh c r v)(st:Step σ σV H b a c):Frh H r v:=λd p e g=>st.dom p (f d p e g)
def dTE(Γ:Gm)(r:DE):TE:=λσV H Q=>∃ σ,StOk Γ H σ σV/\∃ res σ',r σ=some (res,σ') /\
 ∀ v H',StOk Γ H' σ' σV->jB Γ H' σ' σV res v->Step σ σV H σ' σV H'->Frh H res v->Q v H'
def peW{X:Cx}{e:Expr}{t t':TE}(h:PE X e t)(w:∀ σ H Q,t' σ H Q->t σ H Q):PE X e t':=λpins s σ H Q I q=>h pins s σ H Q I (w σ H Q q)
def ptW{X:Cx}{e:Expr}{t t':TT}(h:PT X e t)(w:∀ σ H Q,t' σ H Q->t σ H Q):PT X e t':=λpins s σ H Q I q=>h pins s σ H Q I (w σ H Q q)
def pwW{X:Cx}{e:Expr}{t t':TT}(h:PW X e t)(w:∀ σ H Q,t' σ H Q->t σ H Q):PW X e t':=λa pins s σ H Q I q=>h a pins s σ H Q I (w σ H Q q)
def paW{X:Cx}{e:List Expr}{t t':TA}(h:PA X e t)(w:∀ σ H Q,t' σ H Q->t σ H Q):PA X e t':=λa pins s σ H Q I q=>h a pins s σ H Q I (w σ H Q q)
def psW{X:Cx}{e:Stmt}{t t':TS}(h:PS X e t)(w:∀ D σ H,t' D σ H->t D σ H):PS X e t':=λpins s σ H D I q=>h pins s σ H D I (w D σ H q)
def cL2{X:Cx}{e:List Stmt}{t t':TS}(h:PSs X e t)(w:∀ D σ H,t' D σ H->t D σ H):PSs X e t':=λpins s σ H D I q=>h pins s σ H D I (w D σ H q)
structure GE(X:Cx)(e:Expr)(r:DE):Prop where
 to:∀ Γ,PE X e (dTE Γ r)
def dTT(Γ:Gm)(r:DT):TT:=λσV H Q=>∃ σ,StOk Γ H σ σV/\∃ b σ',r σ=some (b,σ')/\∀ H',StOk Γ H' σ' σV->Step σ σV H σ' σV H'->Q b H'
structure GT(X:Cx)(e:Expr)(r:DT):Prop where
 to:∀ Γ,PT X e (dTT Γ r)
structure GW(X:Cx)(e:Expr)(r:DT):Prop where
 to:∀ Γ,PW X e (dTT Γ r)
def GW.gt{X:Cx}{e:Expr}{r:DT}(h:GW X e r):GT X e r:=.mk λΓ=>(h.to Γ).pt
def cV2(H:Hp)(rs:List Res)(vs:List V):Prop:=∀ (j:Nat) d p,rs[j]? = some (.own d)->vs[j]? = some (.ref p)->H p=none
def dTA(Γ:Gm)(r:DA):TA:=λσV H Q=>∃ σ,StOk Γ H σ σV/\∃ rs σ',r σ=some (rs,σ')/\∀ vs H',StOk Γ H' σ' σV->ResOks Γ H' σ' σV rs vs->Step σ σV H σ' σV H'->cV2 H rs vs->Q vs H'
structure GA(X:Cx)(es:List Expr)(r:DA):Prop where
 to:∀ Γ,PA X es (dTA Γ r)
noncomputable def aG(i:Nat):DE:=λσ=>match σ[i]? with
 | some (some s)=>some (if s.m=.val then .val s.d else .slot i,σ)
 | _=>none
def aC{X:Cx}{e:Expr}{i:Nat}(h:PE X e (bB9 i)):GE X e (aG i):=.mk λΓ=>peW h λσV H Q ⟨σ,ok,res,σ',e,k⟩=>by
 unfold aG at e;split at e;rename_i s hs;cases e;obtain⟨v,a,r⟩:=ok.rel i s hs;refine⟨v,a,k v H ok ?_ .refl (by split<;>exact λ_ _ e=>nomatch e)⟩;by_cases hm:s.m=.val;rw[a2H hm];obtain⟨m,d⟩:=s;cases hm;exact r;rw[a2I hm];exact⟨a,s,hs⟩;cases e
noncomputable def dC(d:D):DE:=λσ=>some (.val d,σ)
def cO8{X:Cx}{e:Expr}{v:V}{d:D}(h:PE X e (tC v))(a:∀ H,Rp H d v):GE X e (dC d):=.mk λΓ=>peW h λσV H Q ⟨σ,ok,res,σ',e,k⟩=>by
 cases e;exact k v H ok (a H) .refl eJ
def ge_int{X:Cx}{i:Int}{j pos}:GE X (.Constant (.int i) j pos) (dC (.int i)):=cO8 cB2 λ_=>.int i
def bF3{X:Cx}{i:Bool}{j pos}:GE X (.Constant (.bool i) j pos) (dC (.bl i)):=cO8 cM3 λ_=>.bl i
def fV{X:Cx}{i:Str}{j pos}:GE X (.Constant (.str i) j pos) (dC (.str i)):=cO8 bK2 λ_=>.str i
def aC9(H H':Hp)(r:Res)(v:V):Prop:=match r with
 | .val d=>Rp H' d v
 | .own d=>∃ p,v=.ref p/\H p=none/\cM H' d p
 | .slot _=>False
def aC9.frh{H H':Hp}{r:Res}{v:V}(h:aC9 H H' r v):Frh H r v:=λd p a b=>by
 subst a b;obtain⟨q,e,c,_⟩:=h;cases e;exact c
def aC9.res{Γ:Gm}{H H':Hp}{σ:Sg}{σV:St}{r:Res}{v:V}(h:aC9 H H' r v)(ok:StOk Γ H σ σV):jB Γ H' σ σV r v:=by
 cases r with
 | val d=>exact h
 | own d=>
   obtain⟨p,b,a,c⟩:=h;refine⟨p,b,c,λz=>?_,ok.dom p a⟩;obtain⟨o,e,_⟩:=ok.mutObj z;rw[a]at e;cases e
 | slot i=>exact h.elim
abbrev F1:=D->Option Res
abbrev F2:=D->D->Option Res
abbrev FN:=List D->Option Res
def cO9(a:V->Hp->VK->Prop)(f:F1):Prop:=∀ H d x Q res,Vw H d x->f d=some res->(∀ v H',xY H H'->aC9 H H' res v->Q v H')->a x H Q
def xZ(c:R2)(f:F2):Prop:=∀ H a b x y Q res,Vw H a x->Vw H b y->f a b=some res->(∀ v H',xY H H'->aC9 H H' res v->Q v H')->c x y H Q
def bS3(b:List V->Hp->VK->Prop)(f:FN):Prop:=∀ H a vs Q res,Vws H a vs->f a=some res->(∀ v H',xY H H'->aC9 H H' res v->Q v H')->b vs H Q
noncomputable def aU7(f:F1)(a:DE):DE:=λσ=>(a σ).bind λx=>(rd x.2 x.1).bind λd=>(f d).bind λr=>some (r,x.2)
noncomputable def aR(f:F2)(a b:DE):DE:=λσ=>(a σ).bind λx=>(b x.2).bind λy=>(rd y.2 x.1).bind λd=>(rd y.2 y.1).bind λe=>(f d e).bind λr=>some (r,y.2)
def aB{c d:Type}{o:Option c}{f:c->Option d}{b:d}(h:o.bind f=some b):∃ a,o=some a/\f a=some b:=by
 cases o with
 | none=>cases h
 | some a=>exact⟨a,rfl,h⟩
def nO{Γ:Gm}{l:R2}{f:F2}(q:xZ l f){m n:DE}{σV:St}{H:Hp}{Q:VK}(h:dTE Γ (aR f m n) σV H Q):tOp l (dTE Γ m) (dTE Γ n) σV H Q:=by
 obtain⟨σ,ok,res,σ',e,k⟩:=h;obtain⟨⟨x,c⟩,s,e⟩:=aB e;obtain⟨⟨y,i⟩,t,e⟩:=aB e;obtain⟨u,w,e⟩:=aB e;obtain⟨z,A,e⟩:=aB e;obtain⟨r,B,e⟩:=aB e;cases e;refine⟨σ,ok,x,c,s,λC I d D g _=>⟨c,d,y,i,t,λE F a G b _=>?_⟩⟩;have j:=D.step d b;refine q F u z C E Q _ (j.vw a w) (G.vw a A) B λv H' o p=>?_;exact k v H' (a.same o) (p.res a) ((g.trans b).trans (.same o)) (p.frh.back (g.trans b))
def bF4{Γ:Gm}{d:V->Hp->VK->Prop}{f:F1}(l:cO9 d f){g:DE}{σV:St}{H:Hp}{Q:VK}(h:dTE Γ (aU7 f g) σV H Q):tUn d (dTE Γ g) σV H Q:=by
 obtain⟨σ,ok,res,σ',e,k⟩:=h;obtain⟨⟨x,c⟩,m,e⟩:=aB e;obtain⟨n,o,e⟩:=aB e;obtain⟨r,p,e⟩:=aB e;cases e;refine⟨σ,ok,x,c,m,λq s a t b _=>?_⟩;refine l s n q Q _ (t.vw a o) p λv H' i j=>?_;exact k v H' (a.same i) (j.res a) (b.trans (.same i)) (j.frh.back b)
section
variable{X:Cx}{a b:Expr}{ra rb:DE}{pos:Pos}
def aO{op:Operator}{c:R2}{f:F2}(d:OpR X (binaryOp op) c)(e:xZ c f)(ha:GE X a ra)(hb:GE X b rb):GE X (.BinOp a op b pos) (aR f ra rb):=
 .mk λΓ=>peW (cN1 d (ha.to Γ) (hb.to Γ)) λ_ _ _=>nO e
def oN{op:CmpOp}{c:R2}{f:F2}(d:OpR X (compareOp op) c)(e:xZ c f)(ha:GE X a ra)(hb:GE X b rb)(hm:behindInMarks op b=false):GE X (.Compare a [op] [b] pos) (aR f ra rb):=
 .mk λΓ=>peW (bP4 d (ha.to Γ) (hb.to Γ) hm) λ_ _ _=>nO e
noncomputable def jC(r:DE):DT:=λσ=>(r σ).bind λx=>(rd x.2 x.1).bind λd=>match d with
 | .bl b=>some (b,x.2)
 | _=>none
def wR{r:DE}{σ σ':Sg}{b:Bool}(h:jC r σ=some (b,σ')):∃ x,r σ=some (x,σ')/\rd σ' x=some (.bl b):=by
 obtain⟨⟨x,c⟩,f,e⟩:=aB h;obtain⟨d,a,e⟩:=aB e;dsimp only at e a;split at e;cases e;exact⟨x,f,a⟩;cases e
def aU8{H:Hp}{b:Bool}{v:V}(h:Vw H (.bl b) v):v=.bl b:=by
 rcases h with h | ⟨p,_,h⟩;cases h;rfl;exact h.elim
def aI2{Γ:Gm}{r:DE}{σV:St}{H:Hp}{Q:Bool->Hp->Prop}(h:dTT Γ (jC r) σV H Q):dTE Γ r σV H (λx H'=>∃ k,x=.bl k/\Q k H'):=by
 obtain⟨σ,ok,b,σ',e,k⟩:=h;obtain⟨x,c,d⟩:=wR e;refine⟨σ,ok,x,σ',c,λv H' a f st _=>⟨b,aU8 (f.vw a d),k H' a st⟩⟩
def eM{op:CmpOp}{c:R2}{f:F2}(d:OpR X (compareOp op) c)(e:xZ c f)(ha:GE X a ra)(hb:GE X b rb)(hm:behindInMarks op b=false):GT X (.Compare a [op] [b] pos) (jC (aR f ra rb)):=
 .mk λΓ=>ptW (bP5 d (ha.to Γ) (hb.to Γ) hm) λσ H Q h=>nO e (aI2 h)
def oO{e:Expr}{r:DE}(h:GE X e r)(b:∀ a,isTrue e X.env a=(do let v ← a;standAt e.pos;holding [v] (truthy v)):=by intro _;rfl):GT X e (jC r):=
 .mk λΓ=>ptW (cB3 (h.to Γ) b) λ_ _ _ h=>aI2 h
end
def eN{H:Hp}{l:List D}{v:V}(h:Vw H (.tup l) v):∃ p xs,v=.ref p/\H p=some (.tup xs)/\Rps H l xs:=by
 rcases h with h | ⟨p,_,h⟩
 ·cases h with
  | tup h r=>exact⟨_,_,rfl,h,r⟩
 ·exact h.elim
def gQ{H:Hp}{l:List D}{v:V}(h:Vw H (.lst l) v):∃ p xs,v=.ref p/\fP H p=some (true,xs)/\Rps H l xs:=by
 rcases h with h | ⟨p,e,xs,h,r⟩
 ·cases h with
  | lst h r=>exact⟨_,_,rfl,bE0 h,r⟩
 ·exact⟨p,xs,e,bD9 h,r⟩
def cU{H:Hp}{i:Int}{v:V}(h:Vw H (.int i) v):v=.int i:=by
 rcases h with h | ⟨p,_,h⟩;cases h;rfl;exact h.elim
def hZ{H:Hp}{i:Str}{v:V}(h:Vw H (.str i) v):v=.str i:=by
 rcases h with h | ⟨p,_,h⟩;cases h;rfl;exact h.elim
def cF0{H:Hp}{v:V}(h:Vw H .non v):v=.non:=by
 rcases h with h | ⟨p,_,h⟩;cases h;rfl;exact h.elim
noncomputable def cF1:D->Option (Bool×List D)
 | .lst l=>some (true,l)
 | .tup l=>some (false,l)
 | _=>none
def cF2{H:Hp}{d:D}{v:V}{b:Bool}{l:List D}(h:Vw H d v)(e:cF1 d=some (b,l)):∃ p xs,v=.ref p/\fP H p=some (b,xs)/\Rps H l xs:=by
 cases d with
 | lst a=>cases e;exact gQ h
 | tup a=>cases e;obtain⟨p,xs,c,f,g⟩:=eN h;exact⟨p,xs,c,cK f,g⟩
 | _=>cases e
section
variable{X:Cx}{a b:Expr}{ra rb:DE}{pos:Pos}
variable{tA tB:DT}{eI:List Expr}
noncomputable def cL3(t u:DT):DT:=λσ=>(t σ).bind λx=>if x.1=true then u x.2 else some (false,x.2)
noncomputable def dOr(t u:DT):DT:=λσ=>(t σ).bind λx=>if x.1=true then some (true,x.2)else u x.2
noncomputable def bC0(t:DT):DT:=λσ=>(t σ).bind λx=>some (!x.1,x.2)
def bS4(ha:GT X a tA):GW X (.BoolOp .And [a] pos) tA:=.mk λΓ=>bO9 (ha.to Γ)
def aU9(ha:GT X a tA):GW X (.BoolOp .Or [a] pos) tA:=.mk λΓ=>cB4 (ha.to Γ)
def cF3(ha:GT X a tA)(hb:GW X (.BoolOp .And (b::eI) pos) tB):GW X (.BoolOp .And (a::b::eI) pos) (cL3 tA tB):=.mk λΓ=>pwW (cB5 (ha.to Γ) (hb.to Γ)) λσV H Q ⟨σ,ok,c,σ',e,k⟩=>by
 obtain⟨⟨x,d⟩,l,e⟩:=aB e;refine⟨σ,ok,x,d,l,λm f g=>?_⟩;dsimp only at e;split at e;rename_i h;rw[a2H h];exact⟨d,f,c,σ',e,λn i j=>k n i (g.trans j)⟩;rename_i h;rw[a2I h];cases e;exact k m f g
def bF5(ha:GT X a tA)(hb:GW X (.BoolOp .Or (b::eI) pos) tB):GW X (.BoolOp .Or (a::b::eI) pos) (dOr tA tB):=.mk λΓ=>pwW (cM4 (ha.to Γ) (hb.to Γ)) λσV H Q ⟨σ,ok,c,σ',e,k⟩=>by
 obtain⟨⟨x,d⟩,l,e⟩:=aB e;refine⟨σ,ok,x,d,l,λm f g=>?_⟩;dsimp only at e;split at e;rename_i h;rw[a2H h];cases e;exact k m f g;rename_i h;rw[a2I h];exact⟨d,f,c,σ',e,λn i j=>k n i (g.trans j)⟩
def oP(ha:GT X a tA):GT X (.UnaryOp .Not a pos) (bC0 tA):=.mk λΓ=>ptW (cB6 (ha.to Γ)) λσV H Q ⟨σ,ok,c,σ',e,k⟩=>by
 obtain⟨⟨x,f⟩,g,e⟩:=aB e;cases e;exact⟨σ,ok,x,_,g,λh b d=>k h b d⟩
noncomputable def yN(t u:DE):DE:=λσ=>(jC t σ).bind λx=>if x.1=true then u x.2 else some (.val (.bl false),x.2)
noncomputable def bF6(t:DE):DE:=λσ=>(jC t σ).bind λx=>some (.val (.bl (!x.1)),x.2)
def aI3{op}{r:DE}(h:GE X a r):GE X (.BoolOp op [a] pos) r:=.mk λΓ=>cB7 (h.to Γ)
def yO(ha:GE X a ra)(hb:GE X (.BoolOp .And (b::eI) pos) rb):GE X (.BoolOp .And (a::b::eI) pos) (yN ra rb):=.mk λΓ=>peW (cB8 (ha.to Γ) (hb.to Γ)) λσV H Q ⟨σ,ok,c,σ',e,k⟩=>by
 obtain⟨⟨x,g⟩,l,e⟩:=aB e;obtain⟨y,m,n⟩:=wR l;refine⟨σ,ok,y,g,m,λv o d p f _=>⟨x,aU8 (p.vw d n),?_⟩⟩;dsimp only at e;split at e;rename_i h;rw[a2H h];exact⟨g,d,c,σ',e,λq r i s j t=>k q r i s (f.trans j) (t.back f)⟩;rename_i h;rw[a2I h];cases e;exact k _ o d (.bl false) f eJ
def cF4(ha:GE X a ra):GE X (.UnaryOp .Not a pos) (bF6 ra):=.mk λΓ=>peW (cB9 (ha.to Γ)) λσV H Q ⟨σ,ok,c,σ',e,k⟩=>by
 obtain⟨⟨x,f⟩,g,e⟩:=aB e;obtain⟨y,h,i⟩:=wR g;cases e;exact⟨σ,ok,y,_,h,λv j b l d _=>⟨x,aU8 (l.vw b i),k _ j b (.bl _) d eJ⟩⟩
end
def Fz:HO->Prop
 | .lst _=>True
 | .dK _=>True
 | .dT _=>True
 | _=>False
def aV0{X:Cx}{pins:List (Addr×Obj)}{σ:St}{H:Hp}{s:Shared}{p:Addr}{u:HO}(I:Inv X pins σ H s)(h:H p=some u)(d:Fz u):∃ o,Inv X pins σ (upd H p (.frz o u)) s:=by
 have nt:∀ b xs,H b=some (.tup xs)->b≠p:=λb xs e z=>by subst z;rw[h]at e;cases e;exact d
 have j:∀ b o x,H b=some (.frz o x)->b≠p:=λb o x e z=>by subst z;rw[h]at e;cases e;exact d
 have no:∀ b x,H b=some (.own x)->b≠p:=λb x e z=>by subst z;rw[h]at e;cases e;exact d
 have nb:∀ b x,H b=some (.tbl x)->b≠p:=λb x e z=>by subst z;rw[h]at e;cases e;exact d
 have f:∀ b,H b=none->b≠p:=λb e z=>by subst z;rw[h]at e;cases e
 obtain⟨o,r⟩:∃ o,s.heap.get? p=some o:=by
  have:=I.hok p u h;have l:=this.lt;cases q:s.heap.get? p with
  | some o=>exact⟨o,rfl⟩
  | none=>
    cases u with
    | lst xs=>obtain⟨_,_,_,_,e⟩:=this;rw[q]at e;cases e
    | dK kvs=>obtain⟨_,_,_,_,ob,_,_,e,_⟩:=this;rw[q]at e;cases e
    | dT kvs=>obtain⟨_,_,_,_,ob,_,_,e,_⟩:=this;rw[q]at e;cases e
    | _=>exact d.elim
 have st:∀ a x,cL X.prog X.w H s.heap a x->cL X.prog X.w (upd H p (.frz o u)) s.heap a x:=λa x k=>
  k.stay (λ_ _ _ e=>e) (λb e=>by rw[aL (no b _ e)];exact e) λb xs e=>by rw[aL (nt b _ e)];exact e
 refine⟨o,{I with base:=?_,free:=?_,freeC:=?_,pin:=?_,hok:=?_}⟩
 ·exact⟨I.base.keep,I.base.slot,λb ob q n t=>by
    have:=I.base.free b ob q n t;rw[aL (f b this)];exact this,I.base.there,λb xs e=>by
    have:=I.base.tups b xs e;rw[aL (nt b _ this)];exact this,λb ob x e=>by
    have:=I.base.frzs b ob x e;rw[aL (j b _ _ this)];exact this,λb ps e=>by
    obtain⟨m,g⟩:=I.base.tbls b ps e;exact⟨m,by rw[aL (nb b _ g)];exact g⟩⟩
 ·rw[aL (f _ I.free)];exact I.free
 ·intro x c e;rw[aL (f _ (I.freeC x c e))];exact I.freeC x c e
 ·intro q v;obtain⟨y,i,A⟩:=I.pin q v;exact⟨y,by rw[aL (f _ i)];exact i,A⟩
 ·intro a x e;by_cases ha:a=p;subst ha;rw[aQ]at e;cases e;exact⟨r,st a u (I.hok a u h)⟩;rw[aL ha]at e;exact st a x (I.hok a x e)
def tFz(t:TE):TE:=λσ H Q=>t σ H λv H1=>Q v H1\/∃ p u,v=.ref p/\H1 p=some u/\Fz u/\∀ o,Q v (upd H1 p (.frz o u))
def cP0{X:Cx}{e:Expr}{t:TE}(h:PE X e t):PE X e (tFz t):=λpins s σ H Q I q=>
 thn (h pins s σ H _ I q) λu s1 ⟨v,d,b,c,a⟩=>by
  rcases a with a | ⟨p,x,j,f,g,a⟩;exact⟨v,d,b,c,a⟩;obtain⟨o,i⟩:=aV0 b f g;exact⟨v,_,i,c,a o⟩
def aV1{H:Hp}{d:D}{p:Addr}(h:cM H d p):∃ u,H p=some u/\Fz u/\∀ o H',Ext H H'->H' p=some (.frz o u)->Rp H' d (.ref p):=by
 unfold cM at h;split at h;obtain⟨xs,b,a⟩:=h;exact⟨_,b,True.intro,λo H' x e=>.lst e (a.mono x)⟩
 ·obtain⟨u,ws,b,a,c⟩:=h;refine⟨u,b,?_,λo H' x e=>.dic e a (c.mono x)⟩;cases u with
  | dK _=>exact True.intro
  | dT _=>exact True.intro
  | _=>exact a.elim
 ·exact h.elim
def aV2{H:Hp}{p:Addr}{u:HO}{o:Obj}(h:H p=some u)(a:Fz u):Ext H (upd H p (.frz o u)):=
 ⟨λb xs e=>by rw[aL (λz=>by subst z;rw[h]at e;cases e;exact a)];exact e,λb ob x e=>by rw[aL (λz=>by subst z;rw[h]at e;cases e;exact a)];exact e⟩
noncomputable def cR8(σ:Sg):Res->Option (D×Sg)
 | .val d=>some (d,σ)
 | .own d=>some (d,σ)
 | .slot i=>match σ[i]? with
   | some (some s)=>if s.m=.own then some (s.d,σ.set i (some ⟨.val,s.d⟩))else if s.m=.val then some (s.d,σ)else none
   | _=>none
noncomputable def dFz(r:DE):DE:=λσ=>(r σ).bind λx=>(cR8 x.2 x.1).bind λy=>some (.val y.1,y.2)
def aS{a:Type}{l:List a}{i j:Nat}{x y:a}(h:(l.set i x)[j]? = some y):(j=i/\y=x/\i < l.length)\/(j≠i/\l[j]? = some y):=by
 rw[List.getElem?_set]at h;split at h;rename_i e;split at h;cases h;exact .inl ⟨e.symm,rfl,by assumption⟩;cases h;rename_i e;exact .inr ⟨λz=>e z.symm,h⟩
def cI{X:Cx}{e:Expr}{r:DE}(h:GE X e r):GE X e (dFz r):=.mk λΓ=>peW (cP0 (h.to Γ)) λσV H Q ⟨σ,ok,res,σ',e,k⟩=>by
 obtain⟨⟨x,σ1⟩,U,e⟩:=aB e;obtain⟨⟨d,L⟩,C,e⟩:=aB e;cases e;refine⟨σ,ok,x,σ1,U,λv S b A c V=>?_⟩;dsimp only at C;cases x with
 | val d'=>cases C;exact .inl (k v S b A c eJ)
 | own d'=>
   cases C;obtain⟨p,rfl,M,W,Y⟩:=A;obtain⟨u,F,G,N⟩:=aV1 M;have hn:H p=none:=V _ p rfl rfl;refine .inr ⟨p,u,rfl,F,G,λo=>?_⟩;have x:=aV2 (o:=o) F G;refine k _ _ ⟨λi s e=>?_,b.dis,b.own,b.par,λa ob e n=>?_,λa e=>?_,b.len⟩ (N o _ x aQ) ⟨λa ob e n=>?_,λa e=>?_,c.mu,c.nv,c.kp,c.fix,c.lt⟩ eJ;obtain⟨w,D,B⟩:=b.rel i s e;refine⟨w,D,B.mono x λq ob O m C=>?_⟩;rw[aL (λz=>W ⟨i,s,e,m,by rw[D,O,z]⟩)];exact C;rw[aL (λz=>by subst z;rw[Y]at e;cases e)];exact b.keep a ob e n;by_cases z:a=p;subst z;rw[aQ]at e;cases e;rw[aL z]at e;exact b.dom a e;rw[aL (λz=>by subst z;rw[hn]at e;cases e)];exact c.fr a ob e n;by_cases z:a=p;subst z;rw[aQ]at e;cases e;rw[aL z]at e;exact c.dom a e
 | slot i=>
   obtain⟨A,s,hs⟩:=A;have g:(match σ1[i]? with | some (some s)=>if s.m=.own then some (s.d,σ1.set i (some ⟨.val,s.d⟩))else if s.m=.val then some (s.d,σ1)else none | _=>none)=some (d,L):=C;rw[hs]at g;dsimp only at g;obtain⟨w,D,B⟩:=b.rel i s hs;rw[A]at D;cases D;split at g
   ·rename_i hm;cases g;obtain⟨m,d⟩:=s;cases hm;obtain⟨p,rfl,M⟩:=(cN (s:=⟨.own,d⟩) (λz=>nomatch z)).mp B;obtain⟨u,F,G,N⟩:=aV1 M;refine .inr ⟨p,u,rfl,F,G,λo=>?_⟩;have x:=aV2 (o:=o) F G;have T:=N o _ x aQ;have Z:i < σ1.length:=(a0a.mp hs).1;have pm:hU σ1 σV p:=⟨i,_,hs,rfl,A⟩;have sub:∀ (j:Nat) t,(σ1.set i (some ⟨.val,d⟩))[j]? = some (some t)->t.m≠.val->j≠i/\σ1[j]? = some (some t):=λj t f hm=>by
     rcases aS f with⟨_,z,_⟩ | z;cases z;exact absurd rfl hm;exact z
    have I:∀ t:Sl,t.m.mt=true->t.m≠.val:=λt h z=>by rw[z]at h;cases h
    refine k _ _ ⟨λj t f=>?_,λj l t E q n f el m m'=>?_,λj t q f m=>?_,λj t q f m=>?_,λa ob e n=>?_,λa e=>?_,?_⟩ T
     ⟨λa ob e n=>?_,λa e=>?_,λa ⟨j,t,f,m,P⟩=>?_,λa ⟨j,t,f,m,P⟩=>?_,λj t f=>?_,λj t f m=>?_,λj t f m=>c.lt j t (sub j t f (by rw[m];exact λz=>nomatch z)).2 m⟩ eJ
    ·rcases aS f with⟨z,K,_⟩ | ⟨z,K⟩;cases K;rw[z];exact⟨_,A,T⟩;obtain⟨w,D,R⟩:=b.rel j t K;refine⟨w,D,R.mono x λq ob O m C=>?_⟩;rw[aL (λy=>b.dis i j _ t p (a9c z) hs K rfl m A (by rw[D,O,y]))];exact C
    ·exact b.dis j l t E q n (sub j t f (I t m)).2 (sub l E el m').2 m m'
    ·exact b.own j t q (sub j t f (by rw[m];exact λz=>nomatch z)).2 m
    ·exact b.par j t q (sub j t f (by rw[m];exact λz=>nomatch z)).2 m
    ·have hp:=b.own i _ p hs rfl A;rw[aL (λz=>by subst z;rw[hp]at e;cases e)];exact b.keep a ob e n
    ·by_cases z:a=p;subst z;rw[aQ]at e;cases e;rw[aL z]at e;exact b.dom a e
    ·rw[a3f];exact b.len
    ·by_cases z:a=p;subst z;rcases c.mu a pm with y | y;exact absurd y n;rw[e]at y;cases y;rw[aL z];exact c.fr a ob e n
    ·by_cases z:a=p;subst z;rw[aQ]at e;cases e;rw[aL z]at e;exact c.dom a e
    ·exact c.mu a ⟨j,t,(sub j t f (I t m)).2,m,P⟩
    ·exact c.nv a ⟨j,t,(sub j t f m).2,m,P⟩
    ·obtain⟨E,J⟩:=c.kp j t f;by_cases z:j=i;subst z;exact⟨_,by rw[a0b Z]⟩;exact⟨E,by rw[a2a (a9c z)];exact J⟩
    ·obtain⟨E,J,h⟩:=c.fix j t f m;refine⟨E,?_,h⟩;rw[a2a (λz=>?_)];exact J;subst z;rw[hs]at J;cases J;rcases m with m | m;have:=h.1;rw[m]at this;cases this;have:=h.1;rw[m]at this;cases this
   ·split at g;rename_i hm;cases g;obtain⟨m,d⟩:=s;cases hm;exact .inl (k v S b B c eJ);cases g
noncomputable def aX:DA:=λσ=>some ([],σ)
noncomputable def aD(r:DE)(rs:DA):DA:=λσ=>(r σ).bind λx=>(rs x.2).bind λy=>some (x.1::y.1,y.2)
noncomputable def rds(σ:Sg):List Res->Option (List D)
 | []=>some []
 | r::rs=>(rd σ r).bind λd=>(rds σ rs).bind λa=>some (d::a)
noncomputable def vals:List Res->Option (List D)
 | []=>some []
 | .val d::rs=>(vals rs).bind λa=>some (d::a)
 | _=>none
theorem wS{Γ:Gm}{H:Hp}{σ:Sg}{σV:St}(ok:StOk Γ H σ σV):∀ {rs:List Res} {vs:List V} {ds:List D},ResOks Γ H σ σV rs vs->rds σ rs=some ds->Vws H ds vs
 | _,_,_,.nil,e=>by cases e;exact .nil
 | _,_,_,.cons h t _,e=>by
   obtain⟨d,a,e⟩:=aB e;obtain⟨ds,b,e⟩:=aB e;cases e;exact .cons (h.vw ok a) (wS ok t b)
theorem jS{Γ:Gm}{H:Hp}{σ:Sg}{σV:St}:∀ {rs:List Res} {vs:List V} {ds:List D},ResOks Γ H σ σV rs vs->vals rs=some ds->Rps H ds vs
 | _,_,_,.nil,e=>by cases e;exact .nil
 | .val d::_,_,_,.cons h t _,e=>by
   obtain⟨ds,a,e⟩:=aB e;cases e;exact .cons h (jS t a)
 | .own d::_,_,_,.cons h t _,e=>by cases e
 | .slot d::_,_,_,.cons h t _,e=>by cases e
section
variable{X:Cx}{e:Expr}{es:List Expr}{r:DE}{rs:DA}{pos:Pos}
def aE:GA X [] aX:=.mk λΓ=>paW oE λσV H Q ⟨σ,ok,res,σ',e,k⟩=>by
 cases e;exact k [] H ok .nil .refl (λj d p e=>by simp at e)
def aA(ha:GE X e r)(n:GA X es rs)(hs:starEach (e::es) X.env=(false,eval e X.env)::starEach es X.env:=by kernel_rfl):GA X (e::es) (aD r rs):=.mk λΓ=>paW (eZ (ha.to Γ) (n.to Γ) hs) λσV H Q ⟨σ,ok,res,σ',e,k⟩=>by
 obtain⟨⟨x,a⟩,s,e⟩:=aB e;obtain⟨⟨ys,t⟩,u,e⟩:=aB e;cases e;refine⟨σ,ok,x,a,s,λv E b l c w=>⟨a,b,ys,_,u,λvs y i z f m=>?_⟩⟩;refine k (v::vs) y i (.cons (l.step b f) z λd p g h j d' A B=>?_) (c.trans f) λj d p g h=>?_;subst g h;obtain⟨q,C,ow,_⟩:=l;cases C;obtain⟨o,D,_⟩:=ow.obj;have:=m j d' p A B;rw[D]at this;cases this;cases j with
 | zero=>simp at g h;subst g h;exact w d p rfl rfl
 | succ j=>exact c.dom p (m j d p (by simpa using g) (by simpa using h))
noncomputable def dCB(f:FN)(a:DA):DE:=λσ=>(a σ).bind λx=>(rds x.2 x.1).bind λb=>(f b).bind λr=>some (r,x.2)
def cV{c:List V->Hp->VK->Prop}{f:FN}{d:DA}(j:bS3 c f)(h:∀ Γ,PE X e (tCB c (dTA Γ d))):GE X e (dCB f d):=.mk λΓ=>peW (h Γ) λσV H Q ⟨σ,ok,res,σ',e,k⟩=>by
 obtain⟨⟨x,l⟩,m,e⟩:=aB e;obtain⟨n,o,e⟩:=aB e;obtain⟨r,p,e⟩:=aB e;cases e;refine⟨σ,ok,x,_,m,λvs q a s b t=>?_⟩;refine j q n vs Q _ (wS a s o) p λv H' g i=>?_;exact k v H' (a.same g) (i.res a) (b.trans (.same g)) (i.frh.back b)
noncomputable def bS5(b:DA):DE:=λσ=>(b σ).bind λx=>(vals x.1).bind λa=>if a.length<=sizeLine then some (.val (.tup a),x.2)else none
noncomputable def aB4(b:DA):DE:=λσ=>(b σ).bind λx=>(vals x.1).bind λa=>if a.length<=sizeLine then some (.own (.lst a),x.2)else none
def aI4{g}(h:GA X es rs):GE X (.Tuple es g pos) (bS5 rs):=.mk λΓ=>peW (cC9 (h.to Γ)) λσV H Q ⟨σ,ok,res,σ',e,k⟩=>by
 obtain⟨⟨x,i⟩,j,e⟩:=aB e;obtain⟨q,l,e⟩:=aB e;dsimp only at e;split at e;rename_i m;cases e;refine⟨σ,ok,x,_,j,λvs d a n b r=>?_⟩;have f:=jS n l;refine⟨by rw[← f.length];exact m,λp o=>?_⟩;have c:xY d (upd d p (.tup vs)):=bU o;exact k _ _ (a.same c) (.tup aQ (f.mono (.same c))) (b.trans (.same c)) eJ;cases e
def fW(h:GA X es rs):GE X (.List es pos) (aB4 rs):=.mk λΓ=>peW (bK6 (h.to Γ)) λσV H Q ⟨σ,ok,res,σ',e,k⟩=>by
 obtain⟨⟨x,j⟩,l,e⟩:=aB e;obtain⟨m,n,e⟩:=aB e;dsimp only at e;split at e;rename_i o;cases e;refine⟨σ,ok,x,_,l,λvs c a q b r=>?_⟩;have f:=jS q n;refine⟨by rw[← f.length];exact o,λp g=>?_⟩;have d:xY c (upd c p (.lst vs)):=bU g;have i:aC9 c (upd c p (.lst vs)) (.own (.lst m)) (.ref p):=⟨p,rfl,g,vs,aQ,f.mono (.same d)⟩;exact k _ _ (a.same d) (i.res a) (b.trans (.same d)) (i.frh.back b);cases e
end
section
variable{Γ:Gm}{H:Hp}{σ:Sg}{σV:St}{i:Nat}{s:Sl}{p:Addr}{o':HO}{d':D}
def StOk.ownAt(ok:StOk Γ H σ σV)(hs:σ[i]? = some (some s))(hm:s.m≠.val):∃ p,σV[i]? = some (some (.ref p))/\cM H s.d p:=by
 obtain⟨v,e,r⟩:=ok.rel i s hs;obtain⟨p,rfl,a⟩:=(cN hm).mp r;exact⟨p,e,a⟩
def fX{m:Md}(h:m.mt=true):m≠.val:=λz=>by rw[z]at h;cases h
def cM.ext{d:D}(h:cM H d p):Ext H (upd H p o'):=by
 obtain⟨o,e,n1,n2⟩:=h.obj;exact⟨λb xs q=>by rw[aL (λz=>by subst z;rw[e]at q;cases q;exact n1 _ rfl)];exact q,λb ob x q=>by rw[aL (λz=>by subst z;rw[e]at q;cases q;exact n2 _ _ rfl)];exact q⟩
def StOk.write(ok:StOk Γ H σ σV)(hs:σ[i]? = some (some s))(hm:s.m.mt=true)(h:σV[i]? = some (some (.ref p)))(ow:cM (upd H p o') d' p) :
  StOk Γ (upd H p o') (σ.set i (some ⟨s.m,d'⟩)) σV/\Step σ σV H (σ.set i (some ⟨s.m,d'⟩)) σV (upd H p o'):=by
 obtain⟨J,v,o⟩:=ok.ownAt hs (fX hm);rw[h]at v;cases v;have x:Ext H (upd H p o'):=o.ext;have A:i < σ.length:=(a0a.mp hs).1;have back:∀ (j:Nat) t,(σ.set i (some ⟨s.m,d'⟩))[j]? = some (some t)->∃ t',σ[j]? = some (some t')/\t'.m=t.m:=λj t b=>by
  rcases aS b with⟨z,g,_⟩ | ⟨z,g⟩;cases g;subst z;exact⟨s,hs,rfl⟩;exact⟨t,g,rfl⟩
 refine⟨⟨λj t b=>?_,λj l t t' q n b C m m'=>?_,λj t q b m=>?_,λj t q b m=>?_,λa ob e n=>?_,λa e=>?_,by rw[a3f];exact ok.len⟩,
  ⟨λa ob e n=>?_,λa e=>?_,λa ⟨j,t,b,m,r⟩=>?_,λa ⟨j,t,b,m,r⟩=>?_,λj t b=>?_,λj t b m=>?_,λj t b m=>?_⟩⟩
 ·rcases aS b with⟨z,g,_⟩ | ⟨z,g⟩;cases g;subst z;exact⟨_,h,(cN (s:=⟨s.m,d'⟩) (fX hm)).mpr ⟨p,rfl,ow⟩⟩;obtain⟨w,B,u⟩:=ok.rel j t g;refine⟨w,B,u.mono x λq ob D m E=>?_⟩;rw[aL (λy=>ok.dis i j _ t p (a9c z) hs g hm m h (by rw[B,D,y]))];exact E
 ·obtain⟨c,d,f⟩:=back j t b;obtain⟨F,G,I⟩:=back l t' C;exact ok.dis j l c F q n d G (by rw[f];exact m) (by rw[I];exact m')
 ·obtain⟨c,d,f⟩:=back j t b;exact ok.own j c q d (f.trans m)
 ·obtain⟨c,d,f⟩:=back j t b;exact ok.par j c q d (f.trans m)
 ·have:a≠p:=λz=>by
   subst z;cases k:s.m with
   | own=>rw[ok.own i s a hs k h]at e;cases e
   | par=>exact n (ok.par i s a hs k h)
   | val=>rw[k]at hm;cases hm
   | lent=>rw[k]at hm;cases hm
  rw[aL this];exact ok.keep a ob e n
 ·by_cases z:a=p;subst z;rw[aQ]at e;cases e;rw[aL z]at e;exact ok.dom a e
 ·rw[aL (λz=>n ⟨i,s,hs,hm,by rw[z];exact h⟩)];exact e
 ·by_cases z:a=p;subst z;rw[aQ]at e;cases e;rw[aL z]at e;exact e
 ·obtain⟨c,d,f⟩:=back j t b;exact .inl ⟨j,c,d,by rw[f];exact m,r⟩
 ·obtain⟨c,d,f⟩:=back j t b;exact .inl ⟨j,c,d,by rw[f];exact m,r⟩
 ·by_cases z:j=i;subst z;exact⟨_,by rw[a0b A]⟩;exact⟨t,by rw[a2a (a9c z)];exact b⟩
 ·by_cases z:j=i;subst z;rw[hs]at b;cases b;exact⟨⟨s.m,d'⟩,by rw[a0b A],rfl,λq=>(by rw[q]at hm;cases hm),rfl⟩;exact⟨t,by rw[a2a (a9c z)];exact b,rfl,λ_=>rfl,rfl⟩
 ·obtain⟨c,d,f⟩:=back j t b;exact⟨c,d,f.trans m⟩
end
abbrev FM:=D->List D->Option (D×D)
def cP1(r:V->List V->Hp->VK->Prop)(f:FM):Prop:=∀ H d p a vs Q d' e,cM H d p->Rps H a vs->f d a=some (d',e)->(∀ o' v,cM (upd H p o') d' p->Rp (upd H p o') e v->Q v (upd H p o'))->r (.ref p) vs H Q
def cR9(r:V->List V->Hp->VK->Prop)(f:FM):Prop:=∀ H d p a vs Q d' e,cM H d p->Vws H a vs->f d a=some (d',e)->(∀ o' v,cM (upd H p o') d' p->Rp (upd H p o') e v->Q v (upd H p o'))->r (.ref p) vs H Q
noncomputable def bF7(f:FM)(i:Nat)(ds:List D)(σ:Sg):Option (Res×Sg):=match σ[i]? with
 | some (some s)=>if s.m.mt=true then(f s.d ds).bind λy=>some (.val y.2,σ.set i (some ⟨s.m,y.1⟩))else none
 | _=>none
noncomputable def tyD(T:String):D->Bool
 | .lst _=>T=="list"
 | .dic _ _=>T=="dict"
 | _=>false
noncomputable def aD0(T:String)(i:Nat)(σ:Sg):Bool:=match σ[i]? with
 | some (some s)=>decide (s.m≠.val)&&tyD T s.d
 | _=>false
noncomputable def yP(T:String)(i:Nat)(f:FM)(a:DA):DE:=λσ=>if aD0 T i σ=true then(a σ).bind λx=>(vals x.1).bind λb=>bF7 f i b x.2 else none
noncomputable def aV3(T:String)(i:Nat)(f:FM)(a:DA):DE:=λσ=>if aD0 T i σ=true then(a σ).bind λx=>(rds x.2 x.1).bind λb=>bF7 f i b x.2 else none
def cF5{K:W.Frag}{T:String}{H:Hp}{d:D}{p:Addr}(h:cM H d p)(e:tyD T d=true):tyV K T (.ref p) H:=by
 unfold cM at h;split at h;obtain⟨xs,a,_⟩:=h;exact .inl ⟨by simpa[tyD]using e,xs,SqL.of a⟩
 ·obtain⟨u,ws,a,b,_⟩:=h;refine .inr (.inr (.inl ⟨by simpa[tyD]using e,?_⟩));cases u with
  | dK kvs=>exact .inl ⟨kvs,a⟩
  | dT kvs=>exact .inr ⟨kvs,a⟩
  | _=>exact b.elim
 ·exact h.elim
def jT{f:FM}{i:Nat}{ds:List D}{σ σ':Sg}{res:Res}(h:bF7 f i ds σ=some (res,σ')):∃ s d' e,σ[i]? = some (some s)/\s.m.mt=true/\f s.d ds=some (d',e)/\res=.val e/\σ'=σ.set i (some ⟨s.m,d'⟩):=by
 unfold bF7 at h;split at h;rename_i s hs;split at h;rename_i hm;obtain⟨⟨d',e⟩,a,b⟩:=aB h;cases b;exact⟨s,d',e,hs,hm,a,rfl,rfl⟩;cases h;cases h
def wT{T:String}{i:Nat}{σ:Sg}(h:aD0 T i σ=true):∃ s,σ[i]? = some (some s)/\s.m≠.val/\tyD T s.d=true:=by
 unfold aD0 at h;split at h;rename_i s hs;rw[a9d,a2K]at h;exact⟨s,hs,h.1,h.2⟩;cases h
section
variable{X:Cx}{e:Expr}{ra:DA}{K:W.Frag}{T:String}{r:V->List V->Hp->VK->Prop}{f:FM}{i:Nat}
def wU(u:cP1 r f)(h:∀ Γ,PE X e (tBM K T r (bB9 i) (dTA Γ ra))):GE X e (yP T i f ra):=.mk λΓ=>peW (h Γ) λσV H Q ⟨σ,ok,res,σ',e,k⟩=>by
 unfold yP at e;split at e;rename_i hn;obtain⟨⟨x,c⟩,w,e⟩:=aB e;obtain⟨z,A,e⟩:=aB e;obtain⟨s,d',y,hs,hm,B,rfl,rfl⟩:=jT e;obtain⟨F,g,j,l⟩:=wT hn;obtain⟨p,ep,ow⟩:=ok.ownAt g j;refine⟨_,ep,cF5 ow l,σ,ok,x,c,w,λvs C a D m G=>?_⟩;obtain⟨I,b,n⟩:=a.ownAt hs (fX hm);rw[ep]at b;cases b;refine u C s.d p z vs Q d' y n (jS D A) B λo' v o E=>?_;obtain⟨q,t⟩:=a.write hs hm ep o;exact k v _ q E (m.trans t) eJ;cases e
def bS6(u:cR9 r f)(h:∀ Γ,PE X e (tBM K T r (bB9 i) (dTA Γ ra))):GE X e (aV3 T i f ra):=.mk λΓ=>peW (h Γ) λσV H Q ⟨σ,ok,res,σ',e,k⟩=>by
 unfold aV3 at e;split at e;rename_i hn;obtain⟨⟨x,c⟩,w,e⟩:=aB e;obtain⟨z,A,e⟩:=aB e;obtain⟨s,d',y,hs,hm,B,rfl,rfl⟩:=jT e;obtain⟨F,g,j,l⟩:=wT hn;obtain⟨p,ep,ow⟩:=ok.ownAt g j;refine⟨_,ep,cF5 ow l,σ,ok,x,c,w,λvs C a D m G=>?_⟩;obtain⟨I,b,n⟩:=a.ownAt hs (fX hm);rw[ep]at b;cases b;refine u C s.d p z vs Q d' y n (wS a D A) B λo' v o E=>?_;obtain⟨q,t⟩:=a.write hs hm ep o;exact k v _ q E (m.trans t) eJ;cases e
end
inductive Out where
 | nx (σ:Sg) | rt (r:Res) (σ:Sg) | bk (σ:Sg) | ct (σ:Sg) | ex (c:Str) (f:Option (Str×D)) (σ:Sg)
abbrev DS:=Sg->Option Out
structure Ex where
 ok:Hp->Str->Option (Str×D)->Value->Option Addr->Prop
 to:St->XK
noncomputable def Ex.no:Ex:=⟨λ_ _ _ _ _=>False,λ_ _ _ _=>False⟩
def aV4(Γ:Gm)(E:Ex)(σ:Sg)(σV:St)(H:Hp)(o:Out)(D:Ends):Prop:=match o with
 | .nx σ'=>∀ σV' H',StOk Γ H' σ' σV'->Step σ σV H σ' σV' H'->D.nx σV' H'
 | .rt r σ'=>∀ v σV' H',StOk Γ H' σ' σV'->jB Γ H' σ' σV' r v->Step σ σV H σ' σV' H'->D.rt v H'
 | .bk σ'=>∀ σV' H',StOk Γ H' σ' σV'->Step σ σV H σ' σV' H'->D.bk σV' H'
 | .ct σ'=>∀ σV' H',StOk Γ H' σ' σV'->Step σ σV H σ' σV' H'->D.ct σV' H'
 | .ex c f σ'=>∀ x d σV' H',StOk Γ H' σ' σV'->E.ok H' c f x d->Step σ σV H σ' σV' H'->E.to σV' x d H'
def dTS(Γ:Gm)(E:Ex)(r:DS):TS:=λD σV H=>∃ σ,StOk Γ H σ σV/\∃ o,r σ=some o/\aV4 Γ E σ σV H o D
structure GS(E:Ex)(X:Cx)(s:Stmt)(r:DS):Prop where
 to:∀ Γ,PS X s (dTS Γ E r)
structure GSs(E:Ex)(X:Cx)(s:List Stmt)(r:DS):Prop where
 to:∀ Γ,PSs X s (dTS Γ E r)
def aV4.after{Γ:Gm}{E:Ex}{σ b:Sg}{σV a:St}{H e:Hp}{o:Out}{D:Ends}(h:aV4 Γ E σ σV H o D)(st:Step σ σV H b a e):aV4 Γ E b a e o D:=by
 cases o with
 | nx σ'=>exact λσV' H' ok s=>h σV' H' ok (st.trans s)
 | rt r σ'=>exact λv σV' H' ok q s=>h v σV' H' ok q (st.trans s)
 | bk σ'=>exact λσV' H' ok s=>h σV' H' ok (st.trans s)
 | ct σ'=>exact λσV' H' ok s=>h σV' H' ok (st.trans s)
 | ex c f σ'=>exact λx d σV' H' ok q s=>h x d σV' H' ok q (st.trans s)
noncomputable def oQ:DS:=λσ=>some (.nx σ)
noncomputable def cW(a b:DS):DS:=λσ=>(a σ).bind λo=>match o with
 | .nx c=>b c
 | o=>some o
noncomputable def aD1(r:DE):DS:=λσ=>(r σ).bind λx=>some (.nx x.2)
noncomputable def kQ(r:DE):DS:=λσ=>(r σ).bind λx=>some (.rt x.1 x.2)
noncomputable def cP2:DS:=λσ=>some (.rt (.val .non) σ)
noncomputable def aN7(c:DT)(a b:DS):DS:=λσ=>(c σ).bind λx=>if x.1=true then a x.2 else b x.2
section
variable{X:Cx}{E:Ex}{st:Stmt}{eI:List Stmt}{a b:DS}{pos:Pos}{e:Expr}{r:DE}
def gH:GSs E X [] oQ:=.mk λΓ=>cL2 bP0 λD σV H ⟨σ,ok,o,e,k⟩=>by
 cases e;exact k σV H ok .refl
def aP(h:GS E X st a):GSs E X [st] a:=.mk λΓ=>aB9 (h.to Γ)
def bF8{Γ:Gm}{E:Ex}{D:Ends}{σV:St}{H:Hp}(h:dTS Γ E (cW a b) D σV H):cC0 (dTS Γ E a) (dTS Γ E b) D σV H:=by
 obtain⟨σ,ok,o,e,k⟩:=h;obtain⟨j,m,e⟩:=aB e;refine⟨σ,ok,j,m,?_⟩;cases j with
 | nx d=>exact λl n g i=>⟨d,g,o,e,k.after i⟩
 | rt r σ'=>cases e;exact k
 | bk σ'=>cases e;exact k
 | ct σ'=>cases e;exact k
 | ex c f σ'=>cases e;exact k
def aF(c:GS E X st a)(d:GSs E X eI b):GSs E X (st::eI) (cW a b):=.mk λΓ=>cL2 (wI (c.to Γ) (d.to Γ)) λ_ _ _=>bF8
def wV(d:GE X e r)(hs:swapsWith e none pos.line X.env=pure false:=by rfl):GS E X (.Expr e pos) (aD1 r):=.mk λΓ=>psW (aS4 (d.to Γ) hs) λD σV H ⟨σ,ok,o,e,k⟩=>by
 obtain⟨⟨x,a⟩,f,e⟩:=aB e;cases e;exact⟨σ,ok,x,a,f,λv g b h c _=>k σV g b c⟩
def bX(d:GE X e r):GS E X (.Return (some e) pos) (kQ r):=.mk λΓ=>psW (bK3 (d.to Γ)) λD σV H ⟨σ,ok,o,e,k⟩=>by
 obtain⟨⟨x,a⟩,f,e⟩:=aB e;cases e;exact⟨σ,ok,x,a,f,λv g b h c _=>k v σV g b h c⟩
def qC{c:Expr}{l m:List Stmt}{t:DT}(i:GT X c t)(ha:GSs E X l a)(hb:GSs E X m b):GS E X (.If c l m pos) (aN7 t a b):=.mk λΓ=>psW (cM9 (i.to Γ) (ha.to Γ) (hb.to Γ)) λD σV H ⟨σ,ok,o,e,k⟩=>by
 obtain⟨⟨x,d⟩,j,e⟩:=aB e;refine⟨σ,ok,x,d,j,λn f g=>?_⟩;dsimp only at e;split at e;rename_i h;rw[a2H h];exact⟨d,f,o,e,k.after g⟩;rename_i h;rw[a2I h];exact⟨d,f,o,e,k.after g⟩
end
noncomputable def fQ(σ:Sg)(i:Nat):Bool:=match σ[i]? with
 | some none=>true
 | some (some s)=>decide (s.m=.val)||decide (s.m=.own)
 | none=>false
def jU{σ:Sg}{i:Nat}(h:fQ σ i=true):i < σ.length:=by
 unfold fQ at h;split at h;rename_i e;exact(a0a.mp e).1;rename_i e;exact(a0a.mp e).1;cases h
def bF9{σ:Sg}{i:Nat}{s:Sl}(h:fQ σ i=true)(hs:σ[i]? = some (some s)):s.m=.val\/s.m=.own:=by
 unfold fQ at h;rw[hs]at h;simpa using h
section
variable{Γ:Gm}{H H0:Hp}{σ σ0:Sg}{σV σV0:St}{i:Nat}{d:D}{v:V}
def StOk.put(ok:StOk Γ H σ σV)(h:fQ σ i=true)(r:Rp H d v):StOk Γ H (σ.set i (some ⟨.val,d⟩)) (σV.set i (some v)) where
 rel:=λj t c=>by
  rcases aS c with⟨z,a,_⟩ | ⟨z,a⟩;cases a;subst z;exact⟨v,by rw[a0b (by rw[← ok.len];exact jU h)],r⟩;obtain⟨w,k,f⟩:=ok.rel j t a;exact⟨w,by rw[a2a (a9c z)];exact k,f⟩
 dis:=λj l t o q n c p m m' b e=>by
  rcases aS c with⟨z,a,_⟩ | ⟨z,a⟩;cases a;cases m;rcases aS p with⟨y,g,_⟩ | ⟨y,g⟩;cases g;exact m' rfl;rw[a2a (a9c z)]at b;rw[a2a (a9c y)]at e;exact ok.dis j l t o q n a g m m' b e
 own:=λj t q c m b=>by
  rcases aS c with⟨z,a,_⟩ | ⟨z,a⟩;cases a;cases m;rw[a2a (a9c z)]at b;exact ok.own j t q a m b
 par:=λj t q c m b=>by
  rcases aS c with⟨z,a,_⟩ | ⟨z,a⟩;cases a;cases m;rw[a2a (a9c z)]at b;exact ok.par j t q a m b
 keep:=ok.keep
 dom:=ok.dom
 len:=by rw[a3f,a3f];exact ok.len
def Step.put(st:Step σ0 σV0 H0 σ σV H)(u:fQ σ i=true)(m:Md)(hm:m=.val\/m=.own/\∀ p,v=.ref p->H0 p=none):Step σ0 σV0 H0 (σ.set i (some ⟨m,d⟩)) (σV.set i (some v)) H:=by
 have b:m≠.lent:=by rcases hm with rfl | ⟨rfl,_⟩<;>exact λz=>nomatch z
 have w:=jU u;have h:∀ t,σ[i]? = some (some t)->t.m≠.par/\t.m≠.lent:=λt e=>by
  rcases bF9 u e with z | z<;>(rw[z];exact⟨(λy=>by cases y),(λy=>by cases y)⟩)
 refine⟨st.fr,st.dom,λa ⟨j,t,f,mt,g⟩=>?_,λa ⟨j,t,f,nv,g⟩=>?_,λj t f=>?_,λj t f k=>?_,λj t f k=>?_⟩
 ·rcases aS f with⟨z,c,_⟩ | ⟨z,c⟩;cases c;subst z;rcases hm with rfl | ⟨_,q⟩;cases mt;have:=a0a.mp g;obtain⟨x,l⟩:=this;rw[List.getElem_set_self]at l;exact .inr (q a (a5a l));rw[a2a (a9c z)]at g;exact st.mu a ⟨j,t,c,mt,g⟩
 ·rcases aS f with⟨z,c,_⟩ | ⟨z,c⟩;cases c;subst z;rcases hm with rfl | ⟨_,q⟩;exact absurd rfl nv;have:=a0a.mp g;obtain⟨x,l⟩:=this;rw[List.getElem_set_self]at l;exact .inr (q a (a5a l));rw[a2a (a9c z)]at g;exact st.nv a ⟨j,t,c,nv,g⟩
 ·obtain⟨n,o⟩:=st.kp j t f;by_cases z:j=i;subst z;exact⟨_,by rw[a0b w]⟩;exact⟨n,by rw[a2a (a9c z)];exact o⟩
 ·obtain⟨n,o,r,A,B⟩:=st.fix j t f k;have z:j≠i:=λz=>by
   subst z;obtain⟨n1,n2⟩:=h n o;rcases k with s | s;exact n1 (r.trans s);exact n2 (r.trans s)
  exact⟨n,by rw[a2a (a9c z)];exact o,r,A,by rw[a2a (a9c z)];exact B⟩
 ·rcases aS f with⟨z,c,_⟩ | ⟨z,c⟩;cases c;exact absurd k b;exact st.lt j t c k
def StOk.putOwn{p:Addr}(ok:StOk Γ H σ σV)(g:fQ σ i=true)(ow:cM H d p)(hn:¬ aI1 σ σV p)(h0:Γ.H₀ p=none):StOk Γ H (σ.set i (some ⟨.own,d⟩)) (σV.set i (some (.ref p))) where
 rel:=λj t e=>by
  rcases aS e with⟨z,c,_⟩ | ⟨z,c⟩;cases c;subst z;exact⟨.ref p,by rw[a0b (by rw[← ok.len];exact jU g)],p,rfl,ow⟩;obtain⟨w,s,h⟩:=ok.rel j t c;exact⟨w,by rw[a2a (a9c z)];exact s,h⟩
 dis:=λj l t k q n e o m m' a b=>by
  have r:i < σV.length:=by rw[← ok.len];exact jU g
  rcases aS e with⟨z,c,_⟩ | ⟨z,c⟩;subst z;rw[a0b r]at a;have a:=a5a (a5a a);cases a;rcases aS o with⟨y,f,_⟩ | ⟨y,f⟩;exact n y.symm;rw[a2a (a9c y)]at b;exact hn ⟨l,k,f,m',b⟩;rw[a2a (a9c z)]at a;rcases aS o with⟨y,f,_⟩ | ⟨y,f⟩;subst y;rw[a0b r]at b;have b:=a5a (a5a b);cases b;exact hn ⟨j,t,c,fX m,a⟩;rw[a2a (a9c y)]at b;exact ok.dis j l t k q n c f m m' a b
 own:=λj t q e m a=>by
  rcases aS e with⟨z,c,_⟩ | ⟨z,c⟩;subst z;rw[a0b (by rw[← ok.len];exact jU g)]at a;have a:=a5a (a5a a);cases a;exact h0;rw[a2a (a9c z)]at a;exact ok.own j t q c m a
 par:=λj t q e m a=>by
  rcases aS e with⟨z,c,_⟩ | ⟨z,c⟩;cases c;cases m;rw[a2a (a9c z)]at a;exact ok.par j t q c m a
 keep:=ok.keep
 dom:=ok.dom
 len:=by rw[a3f,a3f];exact ok.len
end
noncomputable def cS0(i:Nat)(r:Res)(σ:Sg):Option Sg:=match r with
 | .val d=>if fQ σ i=true then some (σ.set i (some ⟨.val,d⟩))else none
 | .own d=>if fQ σ i=true then some (σ.set i (some ⟨.own,d⟩))else none
 | .slot _=>none
noncomputable def eU(i:Nat)(r:DE):DS:=λσ=>(r σ).bind λx=>(cS0 i x.1 x.2).bind λa=>some (.nx a)
def aI5{Γ:Gm}{E:Ex}{i:Nat}{r:DE}{D:Ends}{σV:St}{H:Hp}(h:dTS Γ E (eU i r) D σV H):dTE Γ r σV H (λx n=>D.nx (σV.set i (some x)) n):=by
 obtain⟨σ,ok,o,e,k⟩:=h;obtain⟨⟨x,b⟩,s,e⟩:=aB e;obtain⟨c,m,e⟩:=aB e;cases e;refine⟨σ,ok,x,b,s,λv n f q g t=>?_⟩;cases x with
 | val d=>
   have a:(if fQ b i=true then some (b.set i (some ⟨.val,d⟩))else none)=some c:=m;split at a;rename_i l;cases a;exact k _ _ (f.put l q) (g.put l .val (.inl rfl));cases a
 | own d=>
   have a:(if fQ b i=true then some (b.set i (some ⟨.own,d⟩))else none)=some c:=m;split at a;rename_i l;cases a;obtain⟨p,rfl,u,w,y⟩:=q;exact k _ _ (f.putOwn l u w y) (g.put l .own (.inr ⟨rfl,λp e=>t _ p rfl e⟩));cases a
 | slot j=>cases m
def cF6{X:Cx}{E:Ex}{i:Nat}{st:Stmt}{r:DE}(h:∀ Γ,PS X st (bP2 (dTE Γ r) (pY i))):GS E X st (eU i r):=.mk λΓ=>psW (h Γ) λ_ _ _ h=>aI5 h
noncomputable def iA(x:Str):List D:=x.cps.toList.map λc=>.str ⟨#[c]⟩
def yQ{H:Hp}(x:Str):Rps H (iA x) (dQ x):=by
 unfold iA dQ
 induction x.cps.toList with
 | nil=>exact .nil
 | cons a r b=>exact .cons (.str _) b
abbrev DG:=D->Sg->Option Sg
abbrev DGs:=List D->Sg->Option Sg
def bG0(own:List Nat)(g:TG)(e:DG):Prop:=∀ Γ H b a c σ σV d v σ' Q,StOk Γ H σ σV->Step b a c σ σV H->Rp H d v->e d σ=some σ' ->
 (∀ σV',StOk Γ H σ' σV'->Step b a c σ' σV' H->σV'.length=σV.length->(∀ i,i∉own->σV'[i]? = σV[i]? /\ σ'[i]? = σ[i]?)->Q σV' H)->g v σV H Q
def bG1(own:List Nat)(g:TGs)(e:DGs):Prop:=∀ Γ H b a c σ σV d vs σ' Q,StOk Γ H σ σV->Step b a c σ σV H->Rps H d vs->e d σ=some σ' ->
 (∀ σV',StOk Γ H σ' σV'->Step b a c σ' σV' H->σV'.length=σV.length->(∀ i,i∉own->σV'[i]? = σV[i]? /\ σ'[i]? = σ[i]?)->Q σV' H)->g vs σV H Q
noncomputable def dgN(i:Nat):DG:=λd σ=>if fQ σ i=true then some (σ.set i (some ⟨.val,d⟩))else none
noncomputable def bG2:DGs:=λa σ=>if a.isEmpty then some σ else none
noncomputable def yR(g:DG)(b:DGs):DGs:=λc σ=>match c with
 | d::r=>(g d σ).bind λa=>b r a
 | []=>none
noncomputable def bS7(n:Nat)(a:DGs):DG:=λd σ=>match d with
 | .tup l=>if l.length=n then a l σ else none
 | .str z=>if z.length=n then a (iA z) σ else none
 | _=>none
def bJ{own:List Nat}{i:Nat}(h:i∈own):bG0 own (pY i) (dgN i):=by
 intro Γ H c a f σ σV d v σ' Q ok st r e k;unfold dgN at e;split at e;rename_i b;cases e;refine k _ (ok.put b r) (st.put b .val (.inl rfl)) (by simp) λj hj=>?_;have:i≠j:=λz=>hj (by rw[← z];exact h);exact⟨a2a this,a2a this⟩;cases e
def bS8{own:List Nat}:bG1 own cR3 bG2:=by
 intro Γ H b a c σ σV d vs σ' Q ok st r e k;unfold bG2 at e;cases r with
 | nil=>cases e;exact⟨rfl,k _ ok st rfl λ_ _=>⟨rfl,rfl⟩⟩
 | cons _ _=>cases e
def wW{own:List Nat}{g:TG}{p:DG}{q:TGs}{c:DGs}(w:bG0 own g p)(x:bG1 own q c):bG1 own (cC1 g q) (yR p c):=by
 intro Γ H d b s σ σV B vs σ' Q ok st r e k;cases r with
 | nil=>cases e
 | cons a t=>
   obtain⟨f,y,e⟩:=aB e;refine⟨_,_,rfl,w Γ H d b s σ σV _ _ f _ ok st a y λh l m z u=>?_⟩;refine x Γ H d b s f h _ _ σ' _ l m t e λj n o A v=>?_;exact k j n o (A.trans z) λi hi=>⟨(v i hi).1.trans (u i hi).1,(v i hi).2.trans (u i hi).2⟩
def cF7{own:List Nat}{K:W.Frag}{n:Nat}{i:TGs}{a:DGs}(h:bG1 own i a):bG0 own (bE6 K n i) (bS7 n a):=by
 intro Γ H f b j σ σV d v σ' Q ok st r e k;cases d with
 | tup l=>
   have c:(if l.length=n then a l σ else none)=some σ':=e;split at c;rename_i g;obtain⟨p,xs,rfl,o,m⟩:=eN (.inl r);exact⟨xs,cK o,by rw[← m.length];exact g,h Γ H f b j σ σV l xs σ' Q ok st m c k⟩;cases c
 | str z=>
   have c:(if z.length=n then a (iA z) σ else none)=some σ':=e;split at c;rename_i g;cases r;exact⟨g,h Γ H f b j σ σV _ _ σ' Q ok st (yQ z) c k⟩;cases c
 | _=>cases e
noncomputable def cL4(g:DG)(r:DE):DS:=λσ=>(r σ).bind λx=>match x.1 with
 | .val d=>(g d x.2).bind λa=>some (.nx a)
 | _=>none
def cF8{X:Cx}{E:Ex}{own:List Nat}{st:Stmt}{r:DE}{g:TG}{m:DG}(p:bG0 own g m)(h:∀ Γ,PS X st (bP2 (dTE Γ r) g)):GS E X st (cL4 m r):=.mk λΓ=>psW (h Γ) λD σV H ⟨σ,ok,o,e,k⟩=>by
 obtain⟨⟨x,a⟩,q,e⟩:=aB e;refine⟨σ,ok,x,a,q,λv n c s f u=>?_⟩;cases x with
 | val d=>
   obtain⟨i,t,e⟩:=aB e;cases e;exact p Γ n σ σV H a σV d v i _ c f s t λb j l _ _=>k b n j l
 | own d=>cases e
 | slot d=>cases e
noncomputable def lend(i:Nat)(σ:Sg):Sg:=match σ[i]? with
 | some (some s)=>if s.m.mt=true then σ.set i (some ⟨.lent,s.d⟩)else σ
 | _=>σ
noncomputable def unl(i:Nat)(a σ:Sg):Sg:=match a[i]?,σ[i]? with
 | some (some s0),some (some s)=>if s0.m.mt=true then σ.set i (some ⟨s0.m,s.d⟩)else σ
 | _,_=>σ
noncomputable def lendO(l:Option Nat)(σ:Sg):Sg:=match l with
 | some i=>lend i σ
 | none=>σ
noncomputable def aR7(l:Option Nat)(a σ:Sg):Sg:=match l with
 | some i=>unl i a σ
 | none=>σ
section
variable{Γ:Gm}{H H1 H2:Hp}{σ σ1 σ2:Sg}{σV σV2:St}{i:Nat}{s:Sl}
def wX(hs:σ[i]? = some (some s))(hm:s.m.mt=true):lend i σ=σ.set i (some ⟨.lent,s.d⟩):=by
 unfold lend;rw[hs];simp only[hm,if_true]
def aD2(h:∀ s,σ[i]? = some (some s)->s.m.mt=false):lend i σ=σ:=by
 unfold lend;split;rename_i s hs;rw[a2I (by rw[h s hs];exact a8d)];rfl
theorem StOk.lend(ok:StOk Γ H σ σV):StOk Γ H (lend i σ) σV:=by
 by_cases f:∃ s,σ[i]? = some (some s)/\s.m.mt=true
 ·obtain⟨s,hs,hm⟩:=f;rw[wX hs hm];obtain⟨p,ep,ow⟩:=ok.ownAt hs (fX hm);have back:∀ (j:Nat) t,(σ.set i (some ⟨.lent,s.d⟩))[j]? = some (some t)->(j=i/\t=⟨.lent,s.d⟩)\/(j≠i/\σ[j]? = some (some t)):=λj t a=>by
   rcases aS a with⟨z,h,_⟩ | z;cases h;exact .inl ⟨z,rfl⟩;exact .inr z
  refine⟨λj t a=>?_,λj l t g q n a k m m' b c=>?_,λj t q a m b=>?_,λj t q a m b=>?_,ok.keep,ok.dom,by rw[a3f];exact ok.len⟩;rcases back j t a with⟨rfl,rfl⟩ | ⟨_,z⟩;exact⟨_,ep,p,rfl,ow⟩;exact ok.rel j t z;rcases back j t a with⟨rfl,rfl⟩ | ⟨_,z⟩;cases m;rcases back l g k with⟨rfl,rfl⟩ | ⟨_,y⟩;exact ok.dis j l t s q n z hs m (fX hm) b c;exact ok.dis j l t g q n z y m m' b c;rcases back j t a with⟨rfl,rfl⟩ | ⟨_,z⟩;cases m;exact ok.own j t q z m b;rcases back j t a with⟨rfl,rfl⟩ | ⟨_,z⟩;cases m;exact ok.par j t q z m b
 ·rw[aD2 λs hs=>by
   cases e:s.m.mt with
   | false=>rfl
   | true=>exact absurd ⟨s,hs,e⟩ f]
  exact ok
def cF9(ok:StOk Γ H1 σ1 σV)(c:StOk Γ H2 σ2 σV2)(st:Step (lend i σ1) σV H1 σ2 σV2 H2):StOk Γ H2 (unl i σ1 σ2) σV2/\Step σ1 σV H1 (unl i σ1 σ2) σV2 H2:=by
 by_cases O:∃ s,σ1[i]? = some (some s)/\s.m.mt=true
 ·obtain⟨s,hs,hm⟩:=O;have U:i < σ1.length:=(a0a.mp hs).1;rw[wX hs hm]at st;have I:(σ1.set i (some ⟨.lent,s.d⟩))[i]? = some (some ⟨.lent,s.d⟩):=by rw[a0b U]
  obtain⟨s2,H,V,d2,P⟩:=st.fix i _ I (.inr rfl);have A:s2.m=.lent:=V;have B:i < σ2.length:=(a0a.mp H).1;have J:unl i σ1 σ2=σ2.set i (some ⟨s.m,s2.d⟩):=by unfold unl;rw[hs,H];simp only[hm,if_true]
  rw[J];obtain⟨p,ep,ow⟩:=ok.ownAt hs (fX hm);have f:σV2[i]? = some (some (.ref p)):=P.trans ep;obtain⟨p',Q,K⟩:=c.ownAt H (by rw[A];exact λz=>nomatch z);rw[f]at Q;cases Q;have C:∀ (j:Nat) t,j≠i->σ2[j]? = some (some t)->t.m=.lent->σV2[j]? ≠ some (some (.ref p)):=λj t hj b L e=>by
   obtain⟨D,x,E⟩:=st.lt j t b L;rw[a2a (a9c hj)]at x;have W:(σ1.set i (some ⟨.lent,s.d⟩))[j]? = some (some D):=by rw[a2a (a9c hj)];exact x
   obtain⟨_,_,_,_,X⟩:=st.fix j D W (.inr E);rw[X]at e;exact ok.dis i j s D p (a9c hj) hs x hm (by rw[E];exact λz=>nomatch z) ep e
  have r:∀ (j:Nat) t,j≠i->σ2[j]? = some (some t)->t.m≠.val->σV2[j]? ≠ some (some (.ref p)):=λj t hj b L e=>by
   by_cases R:t.m=.lent;exact C j t hj b R e;have M:t.m.mt=true:=by
    cases q:t.m with
    | val=>exact absurd q L
    | own=>rfl
    | par=>rfl
    | lent=>exact absurd q R
   exact c.dis j i t s2 p hj b H M (by rw[A];exact λz=>nomatch z) e f
  have back:∀ (j:Nat) t,(σ2.set i (some ⟨s.m,s2.d⟩))[j]? = some (some t)->(j=i/\t=⟨s.m,s2.d⟩)\/(j≠i/\σ2[j]? = some (some t)):=λj t b=>by
   rcases aS b with⟨z,v,_⟩ | z;cases v;exact .inl ⟨z,rfl⟩;exact .inr z
  have sub:∀ a,hU (σ1.set i (some ⟨.lent,s.d⟩)) σV a->hU σ1 σV a:=λa ⟨j,t,b,m,k⟩=>by
   rcases aS b with⟨z,v,_⟩ | ⟨z,v⟩;cases v;cases m;exact⟨j,t,v,m,k⟩
  have F:∀ a,aI1 (σ1.set i (some ⟨.lent,s.d⟩)) σV a->aI1 σ1 σV a:=λa ⟨j,t,b,m,k⟩=>by
   rcases aS b with⟨z,v,_⟩ | ⟨z,v⟩;subst z;exact⟨j,s,hs,fX hm,k⟩;exact⟨j,t,v,m,k⟩
  constructor
  ·refine⟨λj t b=>?_,λj l t w q n b S m m' g u=>?_,λj t q b m g=>?_,λj t q b m g=>?_,c.keep,c.dom,by rw[a3f];exact c.len⟩;rcases back j t b with⟨rfl,rfl⟩ | ⟨_,z⟩;exact⟨_,f,(cN (s:=⟨s.m,s2.d⟩) (fX hm)).mpr ⟨p,rfl,K⟩⟩;exact c.rel j t z
   ·rcases back j t b with⟨rfl,rfl⟩ | ⟨zn,z⟩;rw[f]at g;have g:=a5a (a5a g);cases g;rcases back l w S with⟨rfl,rfl⟩ | ⟨T,y⟩;exact n rfl;exact r l w T y m' u;rcases back l w S with⟨rfl,rfl⟩ | ⟨T,y⟩;rw[f]at u;have u:=a5a (a5a u);cases u;exact r j t zn z (fX m) g;exact c.dis j l t w q n z y m m' g u
   ·rcases back j t b with⟨rfl,rfl⟩ | ⟨_,z⟩;rw[f]at g;have g:=a5a (a5a g);cases g;exact ok.own j s p hs m ep;exact c.own j t q z m g
   ·rcases back j t b with⟨rfl,rfl⟩ | ⟨_,z⟩;rw[f]at g;have g:=a5a (a5a g);cases g;exact ok.par j s p hs m ep;exact c.par j t q z m g
  ·refine⟨λa o e n=>st.fr a o e λz=>n (sub a z),st.dom,λa ⟨j,t,b,m,k⟩=>?_,λa ⟨j,t,b,m,k⟩=>?_,λj t b=>?_,λj t b m=>?_,λj t b m=>?_⟩;rcases back j t b with⟨rfl,rfl⟩ | ⟨_,z⟩;rw[f]at k;have k:=a5a (a5a k);cases k;exact .inl ⟨j,s,hs,hm,ep⟩;rcases st.mu a ⟨j,t,z,m,k⟩with y | y;exact .inl (sub a y);exact .inr y;rcases back j t b with⟨rfl,rfl⟩ | ⟨_,z⟩;rw[f]at k;have k:=a5a (a5a k);cases k;exact .inl ⟨j,s,hs,fX hm,ep⟩;rcases st.nv a ⟨j,t,z,m,k⟩with y | y;exact .inl (F a y);exact .inr y;by_cases z:j=i;subst z;exact⟨_,by rw[a0b B]⟩;obtain⟨w,N⟩:=st.kp j t (by rw[a2a (a9c z)];exact b);exact⟨w,by rw[a2a (a9c z)];exact N⟩;by_cases z:j=i;subst z;rw[hs]at b;cases b;refine⟨⟨s.m,s2.d⟩,by rw[a0b B],rfl,λq=>?_,P⟩;rw[q]at hm;cases hm;obtain⟨w,N,h⟩:=st.fix j t (by rw[a2a (a9c z)];exact b) m;exact⟨w,by rw[a2a (a9c z)];exact N,h⟩;rcases back j t b with⟨rfl,rfl⟩ | ⟨zn,z⟩;have m':s.m=.lent:=m;rw[m']at hm;cases hm;obtain⟨D,x,Y⟩:=st.lt j t z m;rw[a2a (a9c zn)]at x;exact⟨D,x,Y⟩
 ·have G:∀ s,σ1[i]? = some (some s)->s.m.mt=false:=λs hs=>by
   cases e:s.m.mt with
   | false=>rfl
   | true=>exact absurd ⟨s,hs,e⟩ O
  rw[aD2 G]at st;have J:unl i σ1 σ2=σ2:=by
   unfold unl;split;rename_i Z s' h0 h';rw[a2I (by rw[G Z h0];exact a8d)];rfl
  rw[J];exact⟨c,st⟩
theorem StOk.lendO{l:Option Nat}(ok:StOk Γ H σ σV):StOk Γ H (lendO l σ) σV:=by
 cases l with
 | none=>exact ok
 | some i=>exact ok.lend
def wY{l:Option Nat}(ok:StOk Γ H1 σ1 σV)(a:StOk Γ H2 σ2 σV2)(st:Step (lendO l σ1) σV H1 σ2 σV2 H2):StOk Γ H2 (aR7 l σ1 σ2) σV2/\Step σ1 σV H1 (aR7 l σ1 σ2) σV2 H2:=by
 cases l with
 | none=>exact⟨a,st⟩
 | some i=>exact cF9 ok a st
def bS9{l:Option Nat}{r:Res}{v:V}(st:Step (lendO l σ1) σV H1 σ2 σV2 H2)(h:jB Γ H2 σ2 σV2 r v):jB Γ H2 (aR7 l σ1 σ2) σV2 r v:=by
 cases l with
 | none=>exact h
 | some i=>
   show jB Γ H2 (unl i σ1 σ2) σV2 r v;have st':Step (lend i σ1) σV H1 σ2 σV2 H2:=st;unfold unl;split
   ·rename_i f s' h0 h';split
    ·rename_i hm;cases r with
     | val d=>exact h
     | own d=>
       obtain⟨p,a,b,g,k⟩:=h;refine⟨p,a,b,λ⟨j,t,n,m,c⟩=>g ?_,k⟩;rcases aS n with⟨z,e,_⟩ | ⟨z,e⟩;subst z;rw[wX h0 hm]at st';obtain⟨o,q,s,_⟩:=st'.fix j ⟨.lent,f.d⟩ (by rw[a0b (a0a.mp h0).1]) (.inr rfl);exact⟨j,o,q,by rw[s];exact λz=>(by cases z),c⟩
       ·exact⟨j,t,e,m,c⟩
     | slot j=>
       obtain⟨a,t,b⟩:=h;refine⟨a,?_⟩;by_cases z:j=i;subst z;exact⟨_,by rw[a0b (a0a.mp h').1]⟩
       ·exact⟨t,by rw[a2a (a9c z)];exact b⟩
    ·exact h
   ·exact h
end
structure ItD(J:It)(items:List D)(P:Hp->Prop):Prop where
 go:∀ H i d,P H->items[i]? = some d->J.go i H
 yld:∀ H i d y H',P H->items[i]? = some d->J.yld i H y H'->xY H H'/\Rp H' d y
 stop:∀ H,P H->J.stop items.length H
def aI6{J:It}{xs:List V}{P:Hp->Prop}{items:List D}(w:ItIs J xs P):ItD J items (λH=>P H/\Rps H items xs) where
 go:=λH i d ⟨h,r⟩ e=>by
  obtain⟨x,ex,_⟩:=r.get e;exact w.go H i x h ex
 yld:=λH i d y H' ⟨h,r⟩ e q=>by
  obtain⟨x,ex,a⟩:=r.get e;obtain⟨rfl,rfl⟩:=w.yld H i x y H' h ex q;exact⟨.refl _,a⟩
 stop:=λH ⟨h,r⟩=>by
  refine w.stop H _ h ?_;have:=r.length;rw[a7d];lia
abbrev DI:=Sg->Option (List D×Option Nat×Sg)
def dTI(Γ:Gm)(ri:DI):TI:=λσV H R=>∃ σ,StOk Γ H σ σV/\∃ items l a,ri σ=some (items,l,a)/\∀ J c P,StOk Γ c a σV->Step σ σV H a σV c->ItD J items P ->
 (∀ d b e,Step (lendO l a) σV c d b e->P e)->R J c
structure GI(X:Cx)(tg iter:Expr)(ri:DI):Prop where
 to:∀ Γ,PI X tg iter (dTI Γ ri)
def piW{X:Cx}{tg e:Expr}{t t':TI}(h:PI X tg e t)(w:∀ σ H Q,t' σ H Q->t σ H Q):PI X tg e t':=λpins s σ H Q I q=>h pins s σ H Q I (w σ H Q q)
noncomputable def qQ:D->Option (List D)
 | .lst l=>some l
 | .tup l=>some l
 | .str x=>some (iA x)
 | _=>none
noncomputable def dIt(r:DE):DI:=λσ=>(r σ).bind λx=>(rd x.2 x.1).bind λd=>(qQ d).bind λl=>some (l,(match x.1 with | .slot i=>some i | _=>none),x.2)
def eV{H a:Hp}{p:Addr}{o:HO}(h:H p=some o)(b:a p=some o):fP a p=fP H p:=by unfold fP;rw[h,b]
def aV5{Γ:Gm}{g:Hp}{a:Sg}{σV:St}{x:Res}{v:V}{d:D}{items:List D}(A:StOk Γ g a σV)(h:jB Γ g a σV x v)(N:rd a x=some d)(H:qQ d=some items)(vw:Vw g d v) :
  ∀ p b xs,v=.ref p->fP g p=some (b,xs)->Rps g items xs->∀ B k C,Step (lendO (match x with | .slot i=>some i | _=>none) a) σV g B k C->fP C p=some (b,xs)/\Rps C items xs:=by
 intro p b xs r u S B k C l;have ext:Ext g C:=l.ext (Γ:=Γ) A.lendO;refine⟨?_,S.mono ext⟩;cases x with
 | val d'=>
   cases N;subst r;cases d with
   | tup I=>obtain⟨_,_,e,f,_⟩:=eN vw;cases e;rw[eV f (ext.tup _ _ f)];exact u
   | lst I=>
     cases h with
     | lst f _=>rw[eV f (ext.frz _ _ _ f)];exact u
   | dic ks vs=>cases H
   | str z=>cases h
   | _=>cases H
 | own d'=>
   obtain⟨q,O,ow,T,_⟩:=h;rw[r]at O;cases O;obtain⟨o,E,_⟩:=ow.obj;rw[eV E (l.fr p o E (λz=>T z.nv))];exact u
 | slot i=>
   obtain⟨h,s,hs⟩:=h;have c:StOk Γ g a σV:=A;by_cases hm:s.m=.val
   ·obtain⟨w,P,J⟩:=c.rel i s hs;rw[h]at P;cases P;subst r;obtain⟨m,Q⟩:=s;cases hm;have K:some Q=some d:=by
     have:rd a (.slot i)=some Q:=by show(match a[i]? with | some (some s)=>some s.d | _=>none)=_;rw[hs]
     rw[← this];exact N
    cases K;have L:Rp g d (.ref p):=J;cases d with
    | tup I=>obtain⟨_,_,e,f,_⟩:=eN (.inl L);cases e;rw[eV f (ext.tup _ _ f)];exact u
    | lst I=>
      cases L with
      | lst f _=>rw[eV f (ext.frz _ _ _ f)];exact u
    | dic ks vs=>cases H
    | str z=>cases L
    | _=>cases H
   ·obtain⟨q,F,ow⟩:=c.ownAt hs hm;rw[h]at F;have F:=a5a (a5a F);rw[r]at F;cases F;obtain⟨o,E,_⟩:=ow.obj;have U:¬ hU (lend i a) σV p:=by
     rintro⟨j,t,y,m,R⟩;by_cases n:s.m.mt=true;rw[wX hs n]at y;rcases aS y with⟨_,M,_⟩ | ⟨z,M⟩;cases M;cases m;exact c.dis j i t s p z M hs m hm R (by rw[h,r]);rw[aD2 (λs' G=>by rw[hs]at G;cases G;exact Bool.eq_false_iff.mpr n)]at y;by_cases z:j=i;subst z;rw[hs]at y;cases y;exact n m;exact c.dis j i t s p z y hs m hm R (by rw[h,r])
    rw[eV E (l.fr p o E U)];exact u
def cX{X:Cx}{tg e:Expr}{r:DE}(K:W.Frag)(w:X.K=K)(h:GE X e r):GI X tg e (dIt r):=.mk λΓ=>piW (bR8 K w (h.to Γ)) λσV H R ⟨σ,ok,items,l,y,e,k⟩=>by
 obtain⟨⟨x,A⟩,B,e⟩:=aB e;obtain⟨d,t,e⟩:=aB e;obtain⟨its,i,e⟩:=aB e;cases e;refine⟨σ,ok,x,_,B,λv n b u g D=>?_⟩;have vw:=u.vw b t;have stay:=aV5 b u t i vw;cases d with
 | lst C=>
   cases i;obtain⟨p,xs,rfl,j,o⟩:=gQ vw;refine .inl ⟨xs,j,k _ n _ b g (aI6 (aU0 (xs:=xs))) λc a m f=>?_⟩;obtain⟨q,s⟩:=stay p true xs rfl j o c a m f;exact⟨jF q,s⟩
 | tup C=>
   cases i;obtain⟨p,xs,rfl,j,o⟩:=eN vw;refine .inr ⟨xs,cK j,k _ n _ b g (aI6 (bE1 (xs:=xs))) λc a m f=>?_⟩;obtain⟨q,s⟩:=stay p false xs rfl (cK j) o c a m f;exact⟨fA q,s⟩
 | str z=>
   cases i;obtain rfl:=hZ vw;exact k _ n (λH=>True/\Rps H (iA z) (dQ z)) b g (aI6 bE3) λc a m f=>⟨True.intro,yQ z⟩
 | _=>cases i
noncomputable def aR8(lo:Int)(n:Nat):List D:=(List.range n).map λ(i:Nat)=>D.int (lo+(i:Int))
def bT0{H:Hp}(lo:Int)(n:Nat):Rps H (aR8 lo n) (bR0 lo n):=by
 unfold aR8 bR0
 induction List.range n with
 | nil=>exact .nil
 | cons a r b=>exact .cons (.int _) b
noncomputable def bY3(a:DA):DI:=λσ=>(a σ).bind λx=>(rds x.2 x.1).bind λb=>match b with
 | [.int j]=>if -(2 ^ 62)<=j/\j < 2 ^ 62 then some (aR8 0 j.toNat,none,x.2)else none
 | [.int i,.int j]=>if(-(2 ^ 62)<=i/\i < 2 ^ 62) /\ -(2 ^ 62)<=j/\j < 2 ^ 62 then some (aR8 i (j-i).toNat,none,x.2)else none
 | _=>none
def aD3{X:Cx}{tg e:Expr}{d:DA}(h:∀ Γ,PI X tg e (cC3 (dTA Γ d)))(m:∀ σ rs σ',d σ=some (rs,σ')->rs.length=1):GI X tg e (bY3 d):=.mk λΓ=>piW (h Γ) λσV H R ⟨σ,ok,items,l,n,e,k⟩=>by
 obtain⟨⟨x,o⟩,g,e⟩:=aB e;obtain⟨w,p,e⟩:=aB e;refine⟨σ,ok,x,_,g,λvs r c i f y=>?_⟩;have vw:=wS c i p;have s:=m _ _ _ g;dsimp only at e;split at e
 ·split at e
  ·rename_i hj;cases e;cases vw with
   | cons a t=>
     cases t;obtain rfl:=cU a;exact⟨_,rfl,hj.1,hj.2,k _ r (λH=>True/\Rps H _ _) c f (aI6 bE2) λu j z v=>⟨True.intro,bT0 _ _⟩⟩
  ·cases e
 ·exfalso;cases vw with
  | cons a t=>cases t with
    | cons b t=>
      cases i with
      | cons _ q _=>cases q with
        | cons _ q _=>simp at s
 ·cases e
theorem bG3{r:DE}:∀ σ rs σ',aD r aX σ=some (rs,σ')->rs.length=1:=λσ rs σ' e=>by
 obtain⟨x,_,e⟩:=aB e;cases e;rfl
noncomputable def bG4(g:DG)(b:DS):List D->Sg->Option Out
 | [],σ=>some (.nx σ)
 | d::r,σ=>(g d σ).bind λe=>(b e).bind λo=>match o with
   | .nx a=>bG4 g b r a
   | .ct a=>bG4 g b r a
   | .bk a=>some (.nx a)
   | .rt x a=>some (.rt x a)
   | .ex c f a=>some (.ex c f a)
noncomputable def aI7(l:Option Nat)(a:Sg):Out->Out
 | .nx σ=>.nx (aR7 l a σ)
 | .rt r σ=>.rt r (aR7 l a σ)
 | .bk σ=>.bk (aR7 l a σ)
 | .ct σ=>.ct (aR7 l a σ)
 | .ex c f σ=>.ex c f (aR7 l a σ)
noncomputable def bC1(ri:DI)(g:DG)(b:DS):DS:=λσ=>(ri σ).bind λx=>(bG4 g b x.1 (lendO x.2.1 x.2.2)).bind λo=>some (aI7 x.2.1 x.2.2 o)
def bG5{Γ:Gm}{E:Ex}{own:List Nat}{ri:DI}{g:TG}{S:DG}{b:DS}(hg:bG0 own g S){D:Ends}{σV:St}{H:Hp}(h:dTS Γ E (bC1 ri S b) D σV H):cC4 (dTI Γ ri) g (dTS Γ E b) D σV H:=by
 obtain⟨σ,ok,o,e,k⟩:=h;obtain⟨⟨items,l,u⟩,e1,e⟩:=aB e;obtain⟨U,e2,e⟩:=aB e;cases e;refine⟨σ,ok,items,l,u,e1,λJ T P F M N stay=>?_⟩;dsimp only at e2
 -- V end that is wanted of V walk
 have K:∀ n a w,StOk Γ w n a->Step (lendO l u) σV T n a w->∀ W,W=U->(∀ σ',W=.nx σ'->∀ σV' H',StOk Γ H' σ' σV'->Step (lendO l u) σV T σ' σV' H'->D.nx σV' H'):=by
  intro n a w G B W ho σ' X σV' H' Y st';subst ho X;obtain⟨O,Q⟩:=wY F Y st';exact k σV' H' O (M.trans Q)
 refine⟨λi m a w=>m=items.length-i/\i<=items.length/\∃ n,bG4 S b (items.drop i) n=some U/\StOk Γ w n a/\Step (lendO l u) σV T n a w,⟨items.length,by simp,a1d _,lendO l u,by simpa using e2,F.lendO,.refl⟩,?_⟩;rintro i m a w ⟨rfl,hi,n,A,G,B⟩;have Z:=stay n a w B;by_cases I:i < items.length
 ·have ei:items[i]? = some items[i]:=a1a I;refine .inr ⟨N.go w i _ Z ei,λC R=>∃ m',m' < items.length-i/\m'=items.length-(i+1)/\i+1<=items.length/\∃ z,bG4 S b (items.drop (i+1)) z=some U/\StOk Γ R z C/\Step (lendO l u) σV T z C R,λσ' H' q=>q,λy R hy=>?_⟩;obtain⟨sm,ry⟩:=N.yld w i _ y R Z ei hy;rw[List.drop_eq_getElem_cons I]at A;obtain⟨z,eg,A⟩:=aB A;obtain⟨ob,eb,A⟩:=aB A;refine hg Γ R _ _ _ n a _ y z _ (G.same sm) (B.trans (.same sm)) ry eg λC ok3 t _ _=>?_;refine⟨z,ok3,ob,eb,?_⟩;cases ob with
  | nx s=>exact λj L r p=>⟨_,by lia,rfl,I,s,A,r,t.trans p⟩
  | ct s=>exact λj L r p=>⟨_,by lia,rfl,I,s,A,r,t.trans p⟩
  | bk s=>
    cases A;exact λj L r p=>K s j L r (t.trans p) _ rfl s rfl j L r (t.trans p)
  | rt x s=>
    cases A;intro v j L r r4 p;obtain⟨O,Q⟩:=wY F r (t.trans p);exact k v j L O (bS9 (t.trans p) r4) (M.trans Q)
  | ex c f s=>
    cases A;intro v d j L r r4 p;obtain⟨O,Q⟩:=wY F r (t.trans p);exact k v d j L O r4 (M.trans Q)
 ·have e0:i=items.length:=by lia
  subst e0;rw[List.drop_length]at A;cases A;exact .inl ⟨N.stop w Z,K n a w G B _ rfl n rfl a w G B⟩
def yS{X:Cx}{E:Ex}{own:List Nat}{st:Stmt}{ri:DI}{g:TG}{a:DG}{b:DS}(c:bG0 own g a)(h:∀ Γ,PS X st (cC4 (dTI Γ ri) g (dTS Γ E b))):GS E X st (bC1 ri a b):=.mk λΓ=>psW (h Γ) λ_ _ _=>bG5 c
def aV6:∃ n:Nat,1000000<=n:=⟨_,a8a _⟩
noncomputable def bY4:Nat:=Classical.choose aV6
def bT1:1000000<=bY4:=Classical.choose_spec aV6
noncomputable def mX(c:DT)(b:DS):Nat->Sg->Option Out
 | 0,_=>none
 | n+1,σ=>(c σ).bind λx=>if x.1=true then(b x.2).bind λo=>match o with
   | .nx a=>mX c b n a
   | .ct a=>mX c b n a
   | .bk a=>some (.nx a)
   | .rt r a=>some (.rt r a)
   | .ex c f a=>some (.ex c f a)else some (.nx x.2)
noncomputable def aI8(c:DT)(b:DS):DS:=λσ=>mX c b bY4 σ
def aN8{Γ:Gm}{E:Ex}{c:DT}{b:DS}{D:Ends}{σV:St}{H:Hp}(h:dTS Γ E (aI8 c b) D σV H):aS6 (dTT Γ c) (dTS Γ E b) D σV H:=by
 obtain⟨σ,ok,o,e,k⟩:=h;refine⟨λm l A=>∃ u,mX c b m u=some o/\StOk Γ A u l/\Step σ σV H u l A,⟨bY4,σ,e,ok,.refl⟩,?_⟩;rintro m l A ⟨u,p,B,r⟩;cases m with
 | zero=>cases p
 | succ n=>
   obtain⟨⟨t,y⟩,G,p⟩:=aB p;refine⟨u,B,t,y,G,λI z s=>?_⟩;dsimp only at p;split at p
   ·rename_i C;rw[a2H C];obtain⟨ob,J,p⟩:=aB p;refine⟨λa w=>∃ m',m' < n+1/\∃ g,mX c b m' g=some o/\StOk Γ w g a/\Step σ σV H g a w,λ_ _ q=>q,y,z,ob,J,?_⟩;cases ob with
    | nx g=>exact λa w i j=>⟨n,a1h n,g,p,i,(r.trans s).trans j⟩
    | ct g=>exact λa w i j=>⟨n,a1h n,g,p,i,(r.trans s).trans j⟩
    | bk g=>cases p;exact λa w i j=>k a w i ((r.trans s).trans j)
    | rt x g=>cases p;exact λv a w i F j=>k v a w i F ((r.trans s).trans j)
    | ex c f g=>cases p;exact λv d a w i F j=>k v d a w i F ((r.trans s).trans j)
   ·rename_i C;rw[a2I C];cases p;exact k l I z (r.trans s)
def bG6{X:Cx}{E:Ex}{st:Stmt}{c:DT}{b:DS}(h:∀ Γ,PS X st (aS6 (dTT Γ c) (dTS Γ E b))):GS E X st (aI8 c b):=.mk λΓ=>psW (h Γ) λ_ _ _=>aN8
noncomputable def bM(ow:List Nat)(σ:Sg):Sg:=ow.foldl (λσ i=>σ.set i none) σ
noncomputable def jV(ow:List Nat)(σ a:Sg):Sg:=ow.foldl (λa i=>a.set i (σ[i]?.getD none)) a
theorem fB{a:Type}:∀ (ow:List Nat) (σ:List (Option a)),(ow.foldl (λσ i=>σ.set i none) σ).length=σ.length
 | [],_=>rfl
 | i::r,σ=>(fB r (σ.set i none)).trans (by simp)
theorem dS{a:Type}:∀ (ow:List Nat) (σ:List (Option a)) (j:Nat),j∉ow->(ow.foldl (λσ i=>σ.set i none) σ)[j]? = σ[j]?
 | [],_,_,_=>rfl
 | i::r,σ,j,h=>by
   have b:i≠j:=λz=>h (by rw[z];exact a3a);have c:j∉r:=λz=>h (a4a _ z);show(r.foldl _ (σ.set i none))[j]? = _;rw[dS r _ j c,a2a b]
theorem bK{a:Type}:∀ (ow:List Nat) (σ:List (Option a)) (j:Nat) (x:a),(ow.foldl (λσ i=>σ.set i none) σ)[j]? = some (some x)->j∉ow/\σ[j]? = some (some x)
 | [],_,_,_,h=>⟨by simp,h⟩
 | i::r,σ,j,x,h=>by
   obtain⟨b,c⟩:=bK r (σ.set i none) j x h;rcases aS c with⟨_,z,_⟩ | ⟨z,d⟩;cases z;exact⟨by simp[z,b],d⟩
theorem mY:∀ (ow:List Nat) (σ a:Sg),(jV ow σ a).length=a.length
 | [],_,_=>rfl
 | i::r,σ,a=>(mY r σ (a.set i (σ[i]?.getD none))).trans (by simp)
theorem iB:∀ (ow:List Nat) (σ a:Sg) (j:Nat),j∉ow->(jV ow σ a)[j]? = a[j]?
 | [],_,_,_,_=>rfl
 | i::r,σ,a,j,h=>by
   have b:i≠j:=λz=>h (by rw[z];exact a3a);have c:j∉r:=λz=>h (a4a _ z);show(jV r σ (a.set i (σ[i]?.getD none)))[j]? = _;rw[iB r σ _ j c,a2a b]
theorem nP:∀ (ow:List Nat) (σ a:Sg) (j:Nat),j∈ow->σ.length=a.length->(jV ow σ a)[j]? = σ[j]?
 | [],_,_,_,h,_=>by simp at h
 | i::r,σ,a,j,h,hl=>by
   show(jV r σ (a.set i (σ[i]?.getD none)))[j]? = _;by_cases b:j∈r;exact nP r σ _ j b (by simp[hl])
   ·rw[iB r σ _ j b];have:j=i:=by rcases a7b.mp h with z | z;exact z;exact absurd z b
    subst this;by_cases hj:j < a.length;rw[a0b hj,a1a (by lia:j < σ.length)];rfl;rw[a7d.mpr (by simp;lia),a7d.mpr (by lia)]
section
variable{Γ:Gm}{H H1 H2:Hp}{σ σ1 τ:Sg}{σV σV2 σV3:St}{ow:List Nat}
def StOk.blank(ok:StOk Γ H τ σV2)(h:σV3.length=σV2.length)(e:∀ j,j∉ow->σV3[j]? = σV2[j]?):StOk Γ H (bM ow τ) σV3 where
 rel:=λj t b=>by
  obtain⟨c,d⟩:=bK ow τ j t b;rw[e j c];exact ok.rel j t d
 dis:=λj l t g q n b i m m' a f=>by
  obtain⟨c,d⟩:=bK ow τ j t b;obtain⟨k,o⟩:=bK ow τ l g i;rw[e j c]at a;rw[e l k]at f;exact ok.dis j l t g q n d o m m' a f
 own:=λj t q b m a=>by
  obtain⟨c,d⟩:=bK ow τ j t b;rw[e j c]at a;exact ok.own j t q d m a
 par:=λj t q b m a=>by
  obtain⟨c,d⟩:=bK ow τ j t b;rw[e j c]at a;exact ok.par j t q d m a
 keep:=ok.keep
 dom:=ok.dom
 len:=by rw[bM,fB,h];exact ok.len
def Step.blank{c:Sg}(hb:∀ (j:Nat) t,c[j]? = some (some t)->j∉ow)(st:Step c σV H1 τ σV2 H2)(g:∀ j,j∉ow->σV3[j]? = σV2[j]?):Step c σV H1 (bM ow τ) σV3 H2 where
 fr:=st.fr
 dom:=st.dom
 mu:=λa ⟨j,t,b,m,f⟩=>by
  obtain⟨e,d⟩:=bK ow τ j t b;rw[g j e]at f;exact st.mu a ⟨j,t,d,m,f⟩
 nv:=λa ⟨j,t,b,m,f⟩=>by
  obtain⟨e,d⟩:=bK ow τ j t b;rw[g j e]at f;exact st.nv a ⟨j,t,d,m,f⟩
 kp:=λj t b=>by
  obtain⟨h,i⟩:=st.kp j t b;exact⟨h,by rw[bM,dS ow τ j (hb j t b)];exact i⟩
 fix:=λj t b m=>by
  obtain⟨h,i,e,d,k⟩:=st.fix j t b m;exact⟨h,by rw[bM,dS ow τ j (hb j t b)];exact i,e,d,by rw[g j (hb j t b)];exact k⟩
 lt:=λj t b m=>by
  obtain⟨e,d⟩:=bK ow τ j t b;exact st.lt j t d m
def bT2(c:StOk Γ H1 σ1 σV)(ok:StOk Γ H τ σV2)(x:∀ j,j∉ow->σV2[j]? = σV[j]?)(N:σV2.length=σV.length)(st:Step (bM ow σ1) σV2 H1 τ σV2 H) :
  StOk Γ H (jV ow σ1 τ) σV/\Step σ1 σV H1 (jV ow σ1 τ) σV H:=by
 have A:σ1.length=τ.length:=by rw[c.len,ok.len,N]
 have O:StOk Γ H1 (bM ow σ1) σV2:=c.blank N x;have ext:Ext H1 H:=st.ext O;have get:∀ (j:Nat) t,(jV ow σ1 τ)[j]? = some (some t)->(j∈ow/\σ1[j]? = some (some t))\/(j∉ow/\τ[j]? = some (some t)):=λj t e=>by
  by_cases h:j∈ow;rw[nP ow σ1 τ j h A]at e;exact .inl ⟨h,e⟩;rw[iB ow σ1 τ j h]at e;exact .inr ⟨h,e⟩
 have B:∀ (j:Nat) t,(bM ow σ1)[j]? = some (some t)->j∉ow/\σ1[j]? = some (some t):=λj t e=>bK ow σ1 j t e;have G:∀ (j:Nat),j∉ow->(bM ow σ1)[j]? = σ1[j]?:=λj h=>dS ow σ1 j h;have s:∀ a,hU (bM ow σ1) σV2 a->∃ (j:Nat) (t:Sl),j∉ow/\σ1[j]? = some (some t)/\t.m.mt=true/\σV[j]? = some (some (.ref a)):=λa ⟨j,t,b,m,u⟩=>by
  obtain⟨k,f⟩:=B j t b;rw[x j k]at u;exact⟨j,t,k,f,m,u⟩
 have I:∀ a,aI1 (bM ow σ1) σV2 a->∃ (j:Nat) (t:Sl),j∉ow/\σ1[j]? = some (some t)/\t.m≠.val/\σV[j]? = some (some (.ref a)):=λa ⟨j,t,b,m,u⟩=>by
  obtain⟨k,f⟩:=B j t b;rw[x j k]at u;exact⟨j,t,k,f,m,u⟩
 have C:∀ (j l:Nat) t g q,j∈ow->σ1[j]? = some (some t)->l∉ow->τ[l]? = some (some g)->t.m≠.val->g.m≠.val->(t.m.mt=true\/g.m.mt=true)->σV[j]? = some (some (.ref q))->σV[l]? = some (some (.ref q))->False:=by
  intro j l t g q hj b P K m m' L i d;rw[← x l P]at d;obtain⟨p,ep,Q⟩:=c.ownAt b m;rw[i]at ep;have ep:=a5a (a5a ep);cases ep;obtain⟨o,S,_⟩:=Q.obj;rcases L with L | L;rcases st.nv q ⟨l,g,K,m',d⟩with z | z;obtain⟨D,E,k,f,v,F⟩:=I q z;exact c.dis j D t E q (λy=>k (by rw[← y];exact hj)) b f L v i F;rw[S]at z;cases z;rcases st.mu q ⟨l,g,K,L,d⟩with z | z;obtain⟨D,E,k,f,v,F⟩:=s q z;exact c.dis D j E t q (λy=>k (by rw[y];exact hj)) f b v m F i;rw[S]at z;cases z
 constructor
 ·refine⟨λj t b=>?_,λj l t g q n b K m m' i d=>?_,λj t q b m i=>?_,λj t q b m i=>?_,ok.keep,ok.dom,by rw[mY,ok.len,N]⟩;rcases get j t b with⟨h,e⟩ | ⟨h,e⟩;obtain⟨w,M,r⟩:=c.rel j t e;refine⟨w,M,r.mono ext λp o ep m U=>st.fr p o U λz=>?_⟩;obtain⟨D,E,k,f,v,F⟩:=s p z;exact c.dis D j E t p (λy=>k (by rw[y];exact h)) f e v m F (by rw[M,ep]);obtain⟨w,M,r⟩:=ok.rel j t e;exact⟨w,by rw[← x j h];exact M,r⟩
  ·rcases get j t b with⟨h,e⟩ | ⟨h,e⟩;rcases get l g K with⟨h',J⟩ | ⟨h',J⟩;exact c.dis j l t g q n e J m m' i d;exact C j l t g q h e h' J (fX m) m' (.inl m) i d;rcases get l g K with⟨h',J⟩ | ⟨h',J⟩;exact C l j g t q h' J h e m' (fX m) (.inr m) d i;rw[← x j h]at i;rw[← x l h']at d;exact ok.dis j l t g q n e J m m' i d
  ·rcases get j t b with⟨h,e⟩ | ⟨h,e⟩;exact c.own j t q e m i;rw[← x j h]at i;exact ok.own j t q e m i
  ·rcases get j t b with⟨h,e⟩ | ⟨h,e⟩;exact c.par j t q e m i;rw[← x j h]at i;exact ok.par j t q e m i
 ·refine⟨λa o e n=>st.fr a o e λz=>?_,st.dom,λa ⟨j,t,b,m,u⟩=>?_,λa ⟨j,t,b,m,u⟩=>?_,λj t b=>?_,λj t b m=>?_,λj t b m=>?_⟩;obtain⟨D,E,k,f,v,F⟩:=s a z;exact n ⟨D,E,f,v,F⟩;rcases get j t b with⟨h,e⟩ | ⟨h,e⟩;exact .inl ⟨j,t,e,m,u⟩;rw[← x j h]at u;rcases st.mu a ⟨j,t,e,m,u⟩with z | z;obtain⟨D,E,k,f,v,F⟩:=s a z;exact .inl ⟨D,E,f,v,F⟩;exact .inr z;rcases get j t b with⟨h,e⟩ | ⟨h,e⟩;exact .inl ⟨j,t,e,m,u⟩;rw[← x j h]at u;rcases st.nv a ⟨j,t,e,m,u⟩with z | z;obtain⟨D,E,k,f,v,F⟩:=I a z;exact .inl ⟨D,E,f,v,F⟩;exact .inr z;by_cases h:j∈ow;exact⟨t,by rw[nP ow σ1 τ j h A];exact b⟩;obtain⟨g,R⟩:=st.kp j t (by rw[G j h];exact b);exact⟨g,by rw[iB ow σ1 τ j h];exact R⟩;by_cases h:j∈ow;exact⟨t,by rw[nP ow σ1 τ j h A];exact b,rfl,λ_=>rfl,rfl⟩;obtain⟨g,R,k,f,v⟩:=st.fix j t (by rw[G j h];exact b) m;exact⟨g,by rw[iB ow σ1 τ j h];exact R,k,f,rfl⟩;rcases get j t b with⟨h,e⟩ | ⟨h,e⟩;exact⟨t,e,m⟩;obtain⟨T,V,W⟩:=st.lt j t e m;exact⟨T,(B j T V).2,W⟩
end
noncomputable def aD4(ow:List Nat)(g:DG)(t:DT)(e:DE):List D->Sg->Option (List D×Sg)
 | [],a=>some ([],a)
 | d :: r,a=>(g d a).bind λb=>(t b).bind λx=>if x.1=true then(e x.2).bind λy=>match y.1 with
     | .val d'=>(aD4 ow g t e r (bM ow y.2)).bind λz=>some (d'::z.1,z.2)
     | _=>none else aD4 ow g t e r (bM ow x.2)
noncomputable def oR:DT:=λσ=>some (true,σ)
noncomputable def fG(ow:List Nat)(ri:DI)(g:DG)(t:DT)(e:DE):DE:=λσ=>(ri σ).bind λx=>if x.1.length<=sizeLine then(aD4 ow g t e x.1 (bM ow (lendO x.2.1 x.2.2))).bind λy=>
 some (.own (.lst y.1),aR7 x.2.1 x.2.2 (jV ow (lendO x.2.1 x.2.2) y.2))else none
def yT{Γ:Gm}{ow:List Nat}{ri:DI}{g:TG}{Z:DG}{t:DT}{e:DE}(hg:bG0 ow g Z){σV:St}{H:Hp}{Q:VK}(h:dTE Γ (fG ow ri Z t e) σV H Q) :
  aT9 ow (dTI Γ ri) g (dTT Γ t) (dTE Γ e) σV H Q:=by
 obtain⟨σ,ok,res,σ',w,k⟩:=h;obtain⟨⟨items,l,c⟩,e1,w⟩:=aB w;dsimp only at w;split at w
 case isFalse=>cases w
 case isTrue hlen=>
 obtain⟨⟨all,τe⟩,e2,w⟩:=aB w;cases w;refine⟨σ,ok,items,l,c,e1,λJ G P I K A stay=>?_⟩;have bl:(blank ow σV).length=σV.length:=fB ow σV;have bo:∀ j,j∉ow->(blank ow σV)[j]? = σV[j]?:=λj hj=>dS ow σV j hj;have L:StOk Γ G (lendO l c) σV:=I.lendO;have okB:StOk Γ G (bM ow (lendO l c)) (blank ow σV):=L.blank bl bo;have hb:∀ (j:Nat) t,(bM ow (lendO l c))[j]? = some (some t)->j∉ow:=λj t ej=>(bK ow _ j t ej).1
 -- a step within,as a step of the q
 have q:∀ o d,StOk Γ d o (blank ow σV)->Step (bM ow (lendO l c)) (blank ow σV) G o (blank ow σV) d->StOk Γ d (jV ow (lendO l c) o) σV/\Step (lendO l c) σV G (jV ow (lendO l c) o) σV d:=
  λo d r s=>bT2 L r bo bl s
 refine⟨λi m ys d=>m=items.length-i/\i<=items.length/\∃ o don eI,aD4 ow Z t e (items.drop i) o=some (eI,τe)/\don++eI=all/\don.length<=i/\Rps d don ys/\StOk Γ d o (blank ow σV)/\Step (bM ow (lendO l c)) (blank ow σV) G o (blank ow σV) d,
  ⟨items.length,by simp,Nat.zero_le _,bM ow (lendO l c),[],all,by simpa using e2,rfl,a1d _,.nil,okB,.refl⟩,?_⟩
 rintro i m ys d ⟨rfl,hi,o,don,eI,f,n,hdl,W,r,s⟩;have hyl:=W.length;obtain⟨okw,M⟩:=q o d r s;have hP:=stay _ σV d M;refine⟨by lia,?_⟩;by_cases u:i < items.length
 ·have ei:items[i]? = some items[i]:=a1a u;refine .inr ⟨A.go d i _ hP ei,λy X hy=>?_⟩;obtain⟨B,ry⟩:=A.yld d i _ y X hP ei hy;rw[List.drop_eq_getElem_cons u]at f;obtain⟨N,eg,f⟩:=aB f;obtain⟨⟨b,C⟩,et,f⟩:=aB f;refine hg Γ X _ _ _ o (blank ow σV) _ y N _ (r.same B) (s.trans (.same B)) ry eg λσV3 O R l3 Y=>?_;have x:Ext d X:=.same B;refine⟨N,O,b,C,et,λH4 D E=>?_⟩;have z:Ext X H4:=E.ext O;dsimp only at f;split at f;rename_i hbt;dsimp only;rw[a2H hbt];obtain⟨⟨r5,S⟩,ee,f⟩:=aB f;refine⟨C,D,r5,S,ee,λv H5 ok5 r5' T f5=>?_⟩;dsimp only at f;split at f;rename_i d';obtain⟨⟨F,τe'⟩,ec',f⟩:=aB f;cases f;refine⟨_,by lia,rfl,u,bM ow S,don++[d'],F,ec',by rw[← n];simp,by simp;lia,?_,ok5.blank (by rw[l3]) (λj hj=>((Y j hj).1).symm),Step.blank hb ((R.trans E).trans T) λj hj=>((Y j hj).1).symm⟩;exact((W.mono x).mono z |>.mono (T.ext D)).append (.cons r5' .nil);cases f;rename_i hbf;dsimp only;rw[a2I hbf];refine⟨_,by lia,rfl,u,bM ow C,don,eI,f,n,by lia,(W.mono x).mono z,D.blank (by rw[l3]) (λj hj=>((Y j hj).1).symm),Step.blank hb (R.trans E) λj hj=>((Y j hj).1).symm⟩
 ·have e0:i=items.length:=by lia
  subst e0;rw[List.drop_length]at f;cases f;rw[a2f]at n;subst n;refine .inl ⟨A.stop d hP,λp hp=>?_⟩;obtain⟨U,V⟩:=wY I okw M;have B:xY d (upd d p (.lst ys)):=bU hp;have nw:aC9 d (upd d p (.lst ys)) (.own (.lst don)) (.ref p):=⟨p,rfl,hp,ys,aQ,W.mono (.same B)⟩;exact k _ _ (U.same B) (nw.res U) ((K.trans V).trans (.same B)) (nw.frh.back (K.trans V))
def dG{X:Cx}{ow:List Nat}{ex:Expr}{ri:DI}{g:TG}{a:DG}{t:DT}{e:DE}(b:bG0 ow g a)(h:∀ Γ,PE X ex (aT9 ow (dTI Γ ri) g (dTT Γ t) (dTE Γ e))):GE X ex (fG ow ri a t e):=.mk λΓ=>peW (h Γ) λ_ _ _=>yT b
def eR{X:Cx}{Γ:Gm}:bL0 X [] (dTT Γ oR):=λpins s σ H Q I ⟨a,ok,b,σ',e,k⟩=>bD5 pins s σ H Q I (by cases e;exact k H ok .refl)
def gJ{X:Cx}{Γ:Gm}{c:Expr}{t:DT}(h:GT X c t):bL0 X [c] (dTT Γ t):=bD6 (h.to Γ)
def kY{X:Cx}{E:Ex}{ow:List Nat}{i:Nat}{st:Stmt}{ri:DI}{g:TG}{a:DG}{t:DT}{e:DE}(b:bG0 ow g a)(h:∀ Γ,PS X st (λD σ H=>aT9 ow (dTI Γ ri) g (dTT Γ t) (dTE Γ e) σ H λv c=>D.nx (σ.set i (some v)) c)):GS E X st (eU i (fG ow ri a t e)):=.mk λΓ=>psW (h Γ) λD σV H h=>yT b (aI5 h)
abbrev Run:=List Sl->Option (Res×List Sl)
structure ArgOk(H:Hp)(as:List Sl)(vs:List V):Prop where
 len:as.length=vs.length
 rel:∀ (i:Nat) s,as[i]? = some s->∃ v,vs[i]? = some v/\bF2 H s v
 dis:∀ (i j:Nat) s t p,i≠j->as[i]? = some s->as[j]? = some t->s.m.mt=true->t.m≠.val->vs[i]? = some (.ref p)->vs[j]? = some (.ref p)->False
 own:∀ (i:Nat) s,as[i]? = some s->s.m≠.own
def bY5(as:List Sl)(vs:List V)(a:Addr):Prop:=∃ (i:Nat) (s:Sl),as[i]? = some s/\s.m.mt=true/\vs[i]? = some (.ref a)
structure PostOk(as:List Sl)(vs:List V)(H:Hp)(as':List Sl)(H':Hp):Prop where
 rel:∀ (i:Nat) s,as[i]? = some s->s.m.mt=true->∃ s' v,as'[i]? = some s'/\s'.m=s.m/\vs[i]? = some v/\bF2 H' s' v
 fr:∀ a o,H a=some o->¬ bY5 as vs a->H' a=some o
 dom:∀ a,H' a=none->H a=none
def dsp(n:Nat)(run:Run):Sp:=λvs H Q _=>∃ as res as',ArgOk H as vs/\as.length=n/\run as=some (res,as')/\∀ v H',PostOk as vs H as' H'->aC9 H H' res v->Q v H'
noncomputable def bY6(σ:Sg):Res->Option Res
 | .val d=>some (.val d)
 | .own d=>some (.own d)
 | .slot i=>match σ[i]? with
   | some (some s)=>if s.m=.own then some (.own s.d)else if s.m=.val then some (.val s.d)else none
   | _=>none
noncomputable def oS:List Sl->Sg->List Sl
 | [],_=>[]
 | a::as,some s::σ=>(if a.m=.val then a else s)::oS as σ
 | a::as,_::σ=>a::oS as σ
 | a::as,[]=>a::as
noncomputable def ini(len:Nat)(as:List Sl):Sg:=as.map some++List.replicate (len-as.length) none
noncomputable def oU(len:Nat)(a:DS):Run:=λas=>(a (ini len as)).bind λo=>match o with
 | .nx σ=>some (.val .non,oS as σ)
 | .rt r σ=>(bY6 σ r).bind λb=>some (b,oS as σ)
 | _=>none
def jK{len:Nat}{as:List Sl}{i:Nat}{s:Sl}:(ini len as)[i]? = some (some s)↔as[i]? = some s:=by
 unfold ini;by_cases h:i < as.length;rw[a6c (by simpa using h),a0c];cases as[i]? <;> simp;rw[a2b (by simpa using h),List.getElem?_replicate,a7d.mpr (by lia)];split<;>simp
def fY{N:List Str}{vs:List V}{i:Nat}{v:V}:(L2.hC N vs)[i]? = some (some v)↔vs[i]? = some v:=by
 unfold L2.hC;by_cases h:i < vs.length;rw[a6c (by simpa using h),a0c];cases vs[i]? <;> simp;rw[a2b (by simpa using h),List.getElem?_replicate,a7d.mpr (by lia)];split<;>simp
theorem aI9:∀ {as:List Sl} {σ:Sg} {i:Nat} {a s:Sl},as[i]? = some a->σ[i]? = some (some s)->(oS as σ)[i]? = some (if a.m=.val then a else s)
 | [],_,_,_,_,h,_=>by simp at h
 | _::_,[],_,_,_,_,h=>by simp at h
 | a::as,o::σ,0,b,s,h,h'=>by
   simp at h h';subst h h';unfold oS;simp
 | a::as,o::σ,i+1,b,s,h,h'=>by
   have:=aI9 (as:=as) (σ:=σ) (i:=i) (a:=b) (s:=s) (by simpa using h) (by simpa using h');cases o<;>(unfold oS;simpa using this)
section
variable{P:Program}{w:World}{K:W.Frag}{mg:Str->Option Value}{base:Heap}
abbrev MS:=Sg->(Out->Prop)->Prop
abbrev MC:=List Sl->(Res->List Sl->Prop)->Prop
def cV3(m:MS):Prop:=∀ σ (Q a:Out->Prop),(∀ o,Q o->a o)->m σ Q->m σ a
def mTS(Γ:Gm)(E:Ex)(m:MS):TS:=λD σV H=>∃ σ,StOk Γ H σ σV/\m σ λo=>aV4 Γ E σ σV H o D
def cV4(n:Nat)(C:MC):Sp:=λvs H Q _=>∃ as,ArgOk H as vs/\as.length=n/\C as λres as'=>∀ v H',PostOk as vs H as' H'->aC9 H H' res v->Q v H'
def cV5(as:List Sl)(K:Res->List Sl->Prop)(o:Out):Prop:=match o with
 | .nx σ=>K (.val .non) (oS as σ)
 | .rt r σ=>∃ a,bY6 σ r=some a/\K a (oS as σ)
 | _=>False
def cV6(len:Nat)(m:MS):MC:=λas K=>m (ini len as) (cV5 as K)
def bT3{x qual:Str}{st:Stmt}{f:Addr}{fd:FuncData}{N ps:List Str}{k:Nat}(F:Fun K x qual st f fd)(S:FnScope N ps (aM st))(R:ps.length<=N.length)(m:MS)(hm:cV3 m)
  (hb:∀ (cdv:Value) (A:Around) (outer:List Env) (s:Shared) (H:Hp) (E:XK),Room k (A.deeper (PyProof.Rows.envOfC qual (aM st) s.heap.objs.size f cdv))->∀ Γ,PSs (bK7 CX0 P w K mg base N qual (aM st) f cdv A outer s H E).nox (kR st) (mTS Γ Ex.no m)) :
  FnOk P w K mg base CX0 (k+1) f fd ps (cV4 ps.length (cV6 N.length m)):=by
 refine F.ok S (λvs H Q E Z1=>by obtain⟨as,ok,J,_⟩:=Z1;rw[← ok.len];exact J) λcdv A outer s H vs Q E T h=>?_;obtain⟨as,ok,J,h⟩:=h;refine⟨_,hb cdv A outer s H E T ⟨H,bY5 as vs⟩,ini N.length as,?_,hm _ _ _ (λo k=>?_) h⟩;refine⟨λi s e=>?_,λi j s t p n l G m m' e U=>?_,λi s p l m=>?_,λi s p l m e=>?_,λa o e _=>e,λa e=>e,?_⟩;obtain⟨v,y,r⟩:=ok.rel i s (jK.mp e);exact⟨v,fY.mpr y,r⟩;exact ok.dis i j s t p n (jK.mp l) (jK.mp G) m m' (fY.mp e) (fY.mp U);exact absurd m (ok.own i s (jK.mp l));exact⟨i,s,jK.mp l,by rw[m];rfl,fY.mp e⟩;unfold ini L2.hC;have:=ok.len;simp;lia;have u:∀ σ σV' H',StOk ⟨H,bY5 as vs⟩ H' σ σV'->Step (ini N.length as) (L2.hC N vs) H σ σV' H'->PostOk as vs H (oS as σ) H':=λσ σV' H' b st'=>by
  have V:∀ a,hU (ini N.length as) (L2.hC N vs) a->bY5 as vs a:=λa ⟨j,t,G,m,W⟩=>⟨j,t,jK.mp G,m,fY.mp W⟩;refine⟨λi a l m=>?_,λa o e n=>st'.fr a o e λz=>n (V a z),st'.dom⟩;have L:a.m=.par:=by
   have h0:=ok.own i a l;cases q:a.m with
   | par=>rfl
   | own=>exact absurd q h0
   | val=>rw[q]at m;cases m
   | lent=>rw[q]at m;cases m
  obtain⟨s',es,X,_,C⟩:=st'.fix i a (jK.mpr l) (.inl L);obtain⟨v,y,r⟩:=b.rel i s' es;obtain⟨Y,M,_⟩:=ok.rel i a l;have:some (some v)=some (some Y):=by rw[← y,C];exact fY.mpr M
  cases this;refine⟨s',v,?_,X,M,r⟩;rw[aI9 l es,a2I (by rw[L];exact λz=>nomatch z)]
 cases o with
 | nx σ=>
   exact λσV' H' b st'=>k .non H' (u σ σV' H' b st') .non
 | rt r σ=>
   obtain⟨res,y,k⟩:=k;intro v σV' H' b I st';refine k v H' (u σ σV' H' b st') ?_;cases r with
   | val d=>cases y;exact I
   | own d=>
     cases y;obtain⟨p,D,B,q3,Z⟩:=I;exact⟨p,D,Z,B⟩
   | slot i=>
     obtain⟨D,s',B⟩:=I;have g:(match σ[i]? with | some (some s)=>if s.m=.own then some (Res.own s.d)else if s.m=.val then some (.val s.d)else none | _=>none)=some res:=y;rw[B]at g;dsimp only at g;obtain⟨v',C,O⟩:=b.rel i s' B;rw[D]at C;cases C;split at g
     ·rename_i hm;cases g;obtain⟨p,rfl,ow⟩:=(cN (by rw[hm];exact λz=>nomatch z)).mp O;exact⟨p,rfl,b.own i s' p B hm D,ow⟩
     ·split at g;rename_i hm;cases g;obtain⟨m,d⟩:=s';cases hm;exact O;cases g
 | bk σ=>exact k.elim
 | ct σ=>exact k.elim
 | ex c f σ=>exact k.elim
def bP{x qual:Str}{st:Stmt}{f:Addr}{fd:FuncData}{N ps:List Str}{k:Nat}(F:Fun K x qual st f fd)(S:FnScope N ps (aM st))(d:ps.length<=N.length)(b:DS)
  (hb:∀ (cdv:Value) (A:Around) (outer:List Env) (s:Shared) (H:Hp) (E:XK),Room k (A.deeper (PyProof.Rows.envOfC qual (aM st) s.heap.objs.size f cdv))->GSs Ex.no (bK7 CX0 P w K mg base N qual (aM st) f cdv A outer s H E).nox (kR st) b) :
  FnOk P w K mg base CX0 (k+1) f fd ps (dsp ps.length (oU N.length b)):=
 (bT3 F S d (λσ Q=>∃ o,b σ=some o/\Q o) (λσ Q l w ⟨o,e,q⟩=>⟨o,e,w o q⟩) λcdv A outer s H E g Γ=>cL2 ((hb cdv A outer s H E g).to Γ) λD σV H ⟨σ,ok,o,e,q⟩=>⟨σ,ok,o,e,q⟩).imp
  λvs H Q E ⟨as,res,as',ok,h,a,k⟩=>by
   obtain⟨o,i,a⟩:=aB a;refine⟨as,ok,h,o,i,?_⟩;cases o with
   | nx σ=>cases a;exact k
   | rt r σ=>
     obtain⟨m,j,a⟩:=aB a;cases a;exact⟨_,j,k⟩
   | bk σ=>cases a
   | ct σ=>cases a
   | ex c f σ=>cases a
end
noncomputable def aD5(σ:Sg):Res->Option Sl
 | .val d=>some ⟨.val,d⟩
 | .own d=>some ⟨.par,d⟩
 | .slot i=>match σ[i]? with
   | some (some s)=>some ⟨if s.m.mt=true then .par else s.m,s.d⟩
   | _=>none
noncomputable def qR(σ:Sg):List Res->Option (List Sl)
 | []=>some []
 | r::rs=>(aD5 σ r).bind λa=>(qR σ rs).bind λas=>some (a::as)
noncomputable def aN9(i:Nat):List Res->Bool
 | []=>false
 | .slot j::rs=>decide (i=j)||aN9 i rs
 | _::rs=>aN9 i rs
noncomputable def cR:List Res->Bool
 | []=>true
 | .slot i::rs=>!aN9 i rs&&cR rs
 | _::rs=>cR rs
noncomputable def iC(j:Nat):List Res->List Sl->Option Sl
 | .slot i::rs,a::as=>if i=j then some a else iC j rs as
 | _::rs,_::as=>iC j rs as
 | _,_=>none
noncomputable def hV(rs:List Res)(as:List Sl):Nat->Sg->Sg
 | _,[]=>[]
 | k,some s::σ=>(match iC k rs as with
   | some a=>some (if s.m.mt=true then⟨s.m,a.d⟩else s)
   | none=>some s)::hV rs as (k+1) σ
 | k,none::σ=>none::hV rs as (k+1) σ
noncomputable def aW(n:Nat)(run:Run)(a:DA):DE:=λσ=>(a σ).bind λx=>(qR x.2 x.1).bind λas=>if as.length=n/\cR x.1=true then(run as).bind λy=>some (y.1,hV x.1 y.2 0 x.2)else none
theorem qS{σ:Sg}:∀ {rs:List Res} {as:List Sl},qR σ rs=some as->as.length=rs.length/\∀ (k:Nat) r,rs[k]? = some r->∃ a,as[k]? = some a/\aD5 σ r=some a
 | [],as,h=>by cases h;exact⟨rfl,λk r e=>by simp at e⟩
 | r::rs,as,h=>by
   obtain⟨a,b,h⟩:=aB h;obtain⟨as',c,h⟩:=aB h;cases h;obtain⟨l,g⟩:=qS c;refine⟨by simp[l],λk d e=>?_⟩;cases k with
   | zero=>simp at e;subst e;exact⟨a,rfl,b⟩
   | succ k=>
     obtain⟨f,i,j⟩:=g k d (by simpa using e);exact⟨f,by simpa using i,j⟩
theorem ResOks.get{Γ:Gm}{H:Hp}{σ:Sg}{σV:St}:∀ {rs:List Res} {vs:List V},ResOks Γ H σ σV rs vs->rs.length=vs.length/\∀ (k:Nat) r,rs[k]? = some r->∃ v,vs[k]? = some v/\jB Γ H σ σV r v
 | _,_,.nil=>⟨rfl,λk r e=>by simp at e⟩
 | _,_,.cons h t _=>by
   obtain⟨l,g⟩:=ResOks.get t;refine⟨by simp[l],λk a e=>?_⟩;cases k with
   | zero=>simp at e;subst e;exact⟨_,rfl,h⟩
   | succ k=>
     obtain⟨b,c,d⟩:=g k a (by simpa using e);exact⟨b,by simpa using c,d⟩
theorem ResOks.dis{Γ:Gm}{H:Hp}{σ:Sg}{σV:St}:∀ {rs:List Res} {vs:List V},ResOks Γ H σ σV rs vs->∀ (k l:Nat) d d' p,k < l->rs[k]? = some (.own d)->rs[l]? = some (.own d')->vs[k]? = some (.ref p)->vs[l]? ≠ some (.ref p)
 | _,_,.nil,k,l,d,d',p,_,e,_,_=>by simp at e
 | _,_,.cons h t q,k,l,d,d',p,b,e,a,ev=>by
   cases l with
   | zero=>lia
   | succ l=>
     cases k with
     | zero=>
       simp at e ev;subst e ev;intro z;exact q d p rfl rfl l d' (by simpa using a) (by simpa using z)
     | succ k=>
       intro z;exact ResOks.dis t k l d d' p (by lia) (by simpa using e) (by simpa using a) (by simpa using ev) (by simpa using z)
theorem nQ{i:Nat}:∀ {rs:List Res} {k:Nat},rs[k]? = some (.slot i)->aN9 i rs=true
 | [],_,h=>by simp at h
 | r::rs,0,h=>by simp at h;subst h;simp[aN9]
 | r::rs,k+1,h=>by
   have:=nQ (rs:=rs) (k:=k) (by simpa using h);cases r<;>simp[aN9,this]
theorem kZ:∀ {rs:List Res},cR rs=true->∀ (k l i:Nat),rs[k]? = some (.slot i)->rs[l]? = some (.slot i)->k=l
 | [],_,k,l,i,h,_=>by simp at h
 | r::rs,hn,k,l,i,h,h'=>by
   cases k with
   | zero=>
     cases l with
     | zero=>rfl
     | succ l=>
       simp at h;subst h;unfold cR at hn;rw[a9d]at hn;rw[nQ (k:=l) (by simpa using h')]at hn;simp at hn
   | succ k=>
     cases l with
     | zero=>
       simp at h';subst h';unfold cR at hn;rw[a9d]at hn;rw[nQ (k:=k) (by simpa using h)]at hn;simp at hn
     | succ l=>
       have a:cR rs=true:=by
        cases r with
        | slot j=>unfold cR at hn;rw[a9d]at hn;exact hn.2
        | val d=>exact hn
        | own d=>exact hn
       exact a2Y Nat.succ (kZ a k l i (by simpa using h) (by simpa using h'))
theorem eW{j:Nat}:∀ {rs:List Res} {as:List Sl} {a:Sl},iC j rs as=some a->∃ k:Nat,rs[k]? = some (.slot j)/\as[k]? = some a
 | [],_,_,h=>by simp[iC]at h
 | r::rs,[],_,h=>by cases r<;>simp[iC]at h
 | r::rs,a::as,b,h=>by
   cases r with
   | slot i=>
     have h':(if i=j then some a else iC j rs as)=some b:=h;split at h';rename_i e;cases h';subst e;exact⟨0,rfl,rfl⟩
     ·obtain⟨k,c,f⟩:=eW h';exact⟨k+1,by simpa using c,by simpa using f⟩
   | val d=>obtain⟨k,c,f⟩:=eW (rs:=rs) (as:=as) h;exact⟨k+1,by simpa using c,by simpa using f⟩
   | own d=>obtain⟨k,c,f⟩:=eW (rs:=rs) (as:=as) h;exact⟨k+1,by simpa using c,by simpa using f⟩
noncomputable def jW(rs:List Res)(as:List Sl)(k:Nat)(o:Option Sl):Option Sl:=match o with
 | some s=>(match iC k rs as with
   | some a=>some (if s.m.mt=true then⟨s.m,a.d⟩else s)
   | none=>some s)
 | none=>none
theorem iD{rs:List Res}{as:List Sl}:∀ (k:Nat) (σ:Sg) (j:Nat),(hV rs as k σ)[j]? = (σ[j]?).map (jW rs as (k+j))
 | _,[],_=>by simp[hV]
 | k,o::σ,0=>by cases o<;>simp[hV,jW]
 | k,o::σ,j+1=>by
   have:=iD (rs:=rs) (as:=as) (k+1) σ j;have e:k+1+j=k+(j+1):=by lia
   rw[e]at this;cases o<;>simpa[hV]using this
theorem mZ{rs:List Res}{as:List Sl}:∀ (k:Nat) (σ:Sg),(hV rs as k σ).length=σ.length
 | _,[]=>rfl
 | k,o::σ=>by cases o<;>simp[hV,mZ (k+1) σ]
def aV7{Γ:Gm}{σ c:Sg}{rs:List Res}{as:List Sl}{σV:St}{H Z:Hp}{vs:List V}(e2:qR c rs=some as)(hc:cR rs=true)(w:StOk Γ Z c σV)(r1:ResOks Γ Z c σV rs vs)(C:Step σ σV H c σV Z)
  (f1:∀ (j:Nat) d p,rs[j]? = some (.own d)->vs[j]? = some (.ref p)->H p=none) :
  ArgOk Z as vs/\∀ r as' v H2,PostOk as vs Z as' H2->aC9 Z H2 r v->StOk Γ H2 (hV rs as' 0 c) σV/\jB Γ H2 (hV rs as' 0 c) σV r v/\Step σ σV H (hV rs as' 0 c) σV H2/\Frh H r v:=by
 obtain⟨la,ga⟩:=qS e2;obtain⟨lv,gv⟩:=r1.get;have O:∀ (i:Nat) a,as[i]? = some a->∃ r v,rs[i]? = some r/\aD5 c r=some a/\vs[i]? = some v/\jB Γ Z c σV r v:=λi a x=>by
  have hi:i < rs.length:=by rw[← la];exact(a0a.mp x).1
  have P:rs[i]? = some rs[i]:=a1a hi;obtain⟨a',Q,h2⟩:=ga i _ P;rw[x]at Q;cases Q;obtain⟨v,h3,h4⟩:=gv i _ P;exact⟨_,v,P,h2,h3,h4⟩
 have f:∀ i a,aD5 c (.slot i)=some a->∃ s,c[i]? = some (some s)/\a=⟨if s.m.mt=true then .par else s.m,s.d⟩:=λi a x=>by
  have X:(match c[i]? with | some (some s)=>some (⟨if s.m.mt=true then .par else s.m,s.d⟩:Sl) | _=>none)=some a:=x;split at X
  ·rename_i s hs;cases X;exact⟨s,hs,rfl⟩
  ·cases X
 -- an argument that may change: new,or owned here
 have K:∀ a,bY5 as vs a->hU c σV a\/(H a=none/\¬ aI1 c σV a/\Γ.H₀ a=none):=λa ⟨i,s,R,m,F⟩=>by
  obtain⟨r,v,P,x,D,L⟩:=O i s R;rw[F]at D;cases D;cases r with
  | val d=>cases x;cases m
  | own d=>
    obtain⟨p,B,S,Y,q4⟩:=L;cases B;exact .inr ⟨f1 i d a P F,Y,q4⟩
  | slot j=>
    obtain⟨s',hs,rfl⟩:=f j s x;obtain⟨B,_⟩:=L;refine .inl ⟨j,s',hs,?_,B⟩;by_cases hm:s'.m.mt=true;exact hm;simp only[hm]at m;exact absurd m hm
 have I:ArgOk Z as vs:=by
  refine⟨by rw[la,lv],λi a R=>?_,λi j s t p nij R g m m' F D=>?_,λi a R=>?_⟩
  ·obtain⟨r,v,P,x,F,L⟩:=O i a R;refine⟨v,F,?_⟩;cases r with
   | val d=>cases x;exact L
   | own d=>cases x;obtain⟨p,B,S,_⟩:=L;exact⟨p,B,S⟩
   | slot j=>
     obtain⟨s',hs,rfl⟩:=f j a x;obtain⟨B,_⟩:=L;obtain⟨v',e4,r4⟩:=w.rel j s' hs;rw[B]at e4;cases e4;by_cases hm:s'.m.mt=true;simp only[hm,if_true];exact(cN (s:=⟨.par,s'.d⟩) (λz=>nomatch z)).mpr ((cN (fX hm)).mp r4);simp only[hm];exact r4
  ·obtain⟨r,v,P,x,T,L⟩:=O i s R;obtain⟨r2,v2,er2,ea2,ev2,rv2⟩:=O j t g;rw[F]at T;cases T;rw[D]at ev2;cases ev2;have E:∀ l a,aD5 c (.slot l)=some a->a.m≠.val->∃ s,c[l]? = some (some s)/\s.m≠.val/\(a.m.mt=true->s.m.mt=true):=λl a x hm=>by
    obtain⟨s',hs,rfl⟩:=f l a x;refine⟨s',hs,?_,?_⟩;intro z;simp only[z,Md.mt]at hm;exact hm rfl;intro z;by_cases U:s'.m.mt=true;exact U;simp only[U]at z;exact z
   cases r with
   | val d=>cases x;cases m
   | own d=>
     obtain⟨q,B,S,Y,q4⟩:=L;cases B;cases r2 with
     | val d=>cases ea2;exact m' rfl
     | own d2=>
       rcases Nat.lt_or_gt_of_ne nij with z | z;exact r1.dis i j d d2 p z P er2 F D
       ·exact r1.dis j i d2 d p z er2 P D F
     | slot l=>
       obtain⟨s',hs,U,_⟩:=E l t ea2 m';exact Y ⟨l,s',hs,U,rv2.1⟩
   | slot l=>
     obtain⟨s',hs,U,hmt⟩:=E l s x (fX m);cases r2 with
     | val d=>cases ea2;exact m' rfl
     | own d2=>
       obtain⟨q,B,S,Y,q4⟩:=rv2;cases B;exact Y ⟨l,s',hs,U,L.1⟩
     | slot l2=>
       obtain⟨s2,hs2,hm2,_⟩:=E l2 t ea2 m';refine w.dis l l2 s' s2 p (λz=>?_) hs hs2 (hmt m) hm2 L.1 rv2.1;subst z;exact nij (kZ hc i j l P er2)
  ·obtain⟨r,v,P,x,T,L⟩:=O i a R;cases r with
   | val d=>cases x;exact λz=>nomatch z
   | own d=>cases x;exact λz=>nomatch z
   | slot j=>
     obtain⟨s',hs,rfl⟩:=f j a x;intro z;by_cases hm:s'.m.mt=true;simp only[hm,if_true]at z;cases z;simp only[hm]at z;have z':s'.m=.own:=z;rw[z']at hm;exact hm rfl
 refine⟨I,λr as' v H2 po nw=>?_⟩;have extA:Ext Z H2:=by
  refine⟨λp xs h=>po.fr p _ h λz=>?_,λp o u h=>po.fr p _ h λz=>?_⟩;obtain⟨i,s,R,m,F⟩:=z;obtain⟨v,e4,r4⟩:=I.rel i s R;rw[F]at e4;cases e4;obtain⟨q,eq,ow⟩:=(cN (fX m)).mp r4;cases eq;obtain⟨o,ho,n1,_⟩:=ow.obj;rw[h]at ho;cases ho;exact n1 _ rfl;obtain⟨i,s,R,m,F⟩:=z;obtain⟨v,e4,r4⟩:=I.rel i s R;rw[F]at e4;cases e4;obtain⟨q,eq,ow⟩:=(cN (fX m)).mp r4;cases eq;obtain⟨o',ho,_,n1⟩:=ow.obj;rw[h]at ho;cases ho;exact n1 _ _ rfl
 have back:∀ (j:Nat) t,(hV rs as' 0 c)[j]? = some (some t)->∃ s,c[j]? = some (some s)/\t.m=s.m/\(t=s\/(s.m.mt=true/\∃ (k:Nat) (a:Sl),rs[k]? = some (.slot j)/\as'[k]? = some a/\t=⟨s.m,a.d⟩)):=λj t g=>by
  rw[iD,a9e]at g;cases q:c[j]? with
  | none=>rw[q]at g;cases g
  | some o=>
    rw[q]at g;cases o with
    | none=>cases g
    | some s=>
      have A:jW rs as' j (some s)=some t:=a5a g;unfold jW at A;refine⟨s,rfl,?_⟩;dsimp only at A;split at A;rename_i a ha;obtain⟨W,Q,h2⟩:=eW ha;have M:=a5a A;by_cases hm:s.m.mt=true;rw[a2H hm]at M;subst M;exact⟨rfl,.inr ⟨hm,W,a,Q,h2,rfl⟩⟩;rw[a2I hm]at M;subst M;exact⟨rfl,.inl rfl⟩;cases A;exact⟨rfl,.inl rfl⟩
 have fwd:∀ (j:Nat) s,c[j]? = some (some s)->∃ t,(hV rs as' 0 c)[j]? = some (some t)/\t.m=s.m/\(s.m.mt=false->t=s):=λj s g=>by
  rw[iD,a9e,g];show ∃ t,some (jW rs as' j (some s))=some (some t)/\_;unfold jW;dsimp only;split;refine⟨_,rfl,?_,λz=>?_⟩;split<;>rfl;rw[a2I (by rw[z];exact a8d)];exact⟨s,rfl,rfl,λ_=>rfl⟩
 -- a slot that is handed in by no argument that may change
 have quiet:∀ (j:Nat) s t p,c[j]? = some (some s)->(hV rs as' 0 c)[j]? = some (some t)->t=s->s.m≠.val->σV[j]? = some (some (.ref p))->(∀ k:Nat,s.m.mt=true->rs[k]? ≠ some (.slot j))->¬ bY5 as vs p:=by
  intro j s t p hs _ _ hm F hno ⟨i,a,R,m,evi⟩;obtain⟨r,v,P,x,T,L⟩:=O i a R;rw[evi]at T;cases T;cases r with
  | val d=>cases x;cases m
  | own d=>
    obtain⟨q,B,S,Y,q4⟩:=L;cases B;exact Y ⟨j,s,hs,hm,F⟩
  | slot l=>
    obtain⟨s',G,rfl⟩:=f l a x;have hmt:s'.m.mt=true:=by
     by_cases h':s'.m.mt=true;exact h';simp only[h']at m;exact absurd m h'
    by_cases z:l=j;subst z;rw[hs]at G;cases G;exact hno i hmt P;exact w.dis l j s' s p z G hs hmt hm L.1 F
 have okB:StOk Γ H2 (hV rs as' 0 c) σV:=by
  refine⟨λj t g=>?_,λj l t t' q n g el m m' eq eq'=>?_,λj t q g m eq=>?_,λj t q g m eq=>?_,λa o e n=>?_,λa e=>w.dom a (po.dom a e),by rw[mZ];exact w.len⟩
  ·obtain⟨s,hs,N,hc'⟩:=back j t g;obtain⟨w',ew,rw'⟩:=w.rel j s hs;refine⟨w',ew,?_⟩;by_cases J:s.m.mt=true/\∃ W:Nat,rs[W]? = some (.slot j)
   ·obtain⟨hm,W,hk'⟩:=J;obtain⟨a,ha,hao⟩:=ga W _ hk';obtain⟨v',hv',rv'⟩:=gv W _ hk';have D:σV[j]? = some (some v'):=rv'.1;rw[ew]at D;cases D;obtain⟨s',G,X⟩:=f j a hao;rw[hs]at G;cases G;have am:a.m=.par:=by rw[X,a2H hm]
    obtain⟨a2,w2,Q,h2,h3,h4⟩:=po.rel W a ha (by rw[am];rfl);rw[hv']at h3;cases h3;have ht:t=⟨s.m,a2.d⟩:=by
     rw[iD,a9e,hs]at g;have A:jW rs as' j (some s)=some t:=a5a g;unfold jW at A;dsimp only at A;split at A;rename_i b hb;obtain⟨k2,B,S⟩:=eW hb;obtain rfl:=kZ hc k2 W j B hk';rw[Q]at S;cases S;have:=a5a A;rw[a2H hm]at this;exact this.symm;rename_i hb
     -- no argument at all: the lists part in length
     exfalso;have:∀ {rs:List Res} {as:List Sl} {kk:Nat} {a:Sl},rs[kk]? = some (.slot j)->as[kk]? = some a->iC j rs as≠none:=by
      intro rs
      induction rs with
      | nil=>intro as kk a h;simp at h
      | cons r rs ih=>
        intro as kk a h h';cases as with
        | nil=>simp at h'
        | cons b as=>
          cases kk with
          | zero=>simp at h;subst h;simp[iC]
          | succ kk=>
            have:=ih (as:=as) (kk:=kk) (a:=a) (by simpa using h) (by simpa using h');cases r with
            | slot i=>simp only[iC];split;exact λz=>nomatch z;exact this
            | val d=>exact this
            | own d=>exact this
     exact this hk' Q hb
    subst ht;have h5:=(cN (s:=a2) (by rw[h2,am];exact λz=>nomatch z)).mp h4;exact(cN (s:=⟨s.m,a2.d⟩) (fX hm)).mpr h5
   ·have ht:t=s:=by
     rcases hc' with h | ⟨hm,W,a,Q,_⟩;exact h;exact absurd ⟨hm,W,Q⟩ J
    rw[ht];refine rw'.mono extA λp o ep m hp=>po.fr p o hp ?_;exact quiet j s t p hs g ht m (by rw[ew,ep]) λW hm hk=>J ⟨hm,W,hk⟩
  ·obtain⟨s,hs,N,_⟩:=back j t g;obtain⟨s',G,mm',_⟩:=back l t' el;exact w.dis j l s s' q n hs G (by rw[← N];exact m) (by rw[← mm'];exact m') eq eq'
  ·obtain⟨s,hs,N,_⟩:=back j t g;exact w.own j s q hs (N.symm.trans m) eq
  ·obtain⟨s,hs,N,_⟩:=back j t g;exact w.par j s q hs (N.symm.trans m) eq
  ·refine po.fr a o (w.keep a o e n) λz=>?_;rcases K a z with⟨j,s,hs,m,F⟩ | ⟨_,_,z0⟩
   ·cases hq:s.m with
    | own=>rw[w.own j s a hs hq F]at e;cases e
    | par=>exact n (w.par j s a hs hq F)
    | val=>rw[hq]at m;cases m
    | lent=>rw[hq]at m;cases m
   ·rw[z0]at e;cases e
 have stB:Step σ σV H (hV rs as' 0 c) σV H2:=by
  refine⟨λa o e n=>?_,λa e=>C.dom a (po.dom a e),λa ⟨j,t,g,m,x⟩=>?_,λa ⟨j,t,g,m,x⟩=>?_,λj t g=>?_,λj t g m=>?_,λj t g m=>?_⟩
  ·refine po.fr a o (C.fr a o e n) λz=>?_;rcases K a z with y | ⟨y,_⟩;rcases C.mu a y with y | y;exact n y;rw[e]at y;cases y;rw[e]at y;cases y
  ·obtain⟨s,hs,N,_⟩:=back j t g;exact C.mu a ⟨j,s,hs,by rw[← N];exact m,x⟩
  ·obtain⟨s,hs,N,_⟩:=back j t g;exact C.nv a ⟨j,s,hs,by rw[← N];exact m,x⟩
  ·obtain⟨s,hs⟩:=C.kp j t g;obtain⟨t',Q,_⟩:=fwd j s hs;exact⟨t',Q⟩
  ·obtain⟨s,hs,B,S,Y⟩:=C.fix j t g m;obtain⟨t',Q,h2,h3⟩:=fwd j s hs;refine⟨t',Q,h2.trans B,λz=>?_,Y⟩;rw[h3 (by rw[B,z];rfl)];exact S z
  ·obtain⟨s,hs,N,_⟩:=back j t g;exact C.lt j s hs (N.symm.trans m)
 refine⟨okB,?_,stB,nw.frh.back C⟩;cases r with
 | val d=>exact nw
 | own d=>
   obtain⟨p,B,S,Y⟩:=nw;refine⟨p,B,Y,λZ0=>?_,w.dom p S⟩;obtain⟨j,t,g,m,x⟩:=Z0;obtain⟨s,hs,N,_⟩:=back j t g;obtain⟨o,ho,_⟩:=w.mutObj ⟨j,s,hs,by rw[← N];exact m,x⟩;rw[S]at ho;cases ho
 | slot i=>exact nw.elim
def aV8{Γ:Gm}{n:Nat}{run:Run}{g:DA}{E:XK}{σV:St}{H:Hp}{Q:VK}(h:dTE Γ (aW n run g) σV H Q):bP7 (dsp n run) [] E (dTA Γ g) σV H Q:=by
 obtain⟨σ,ok,res,σ',e,k⟩:=h;obtain⟨⟨rs,a⟩,l,e⟩:=aB e;obtain⟨as,i,e⟩:=aB e;dsimp only at e;split at e
 case isFalse=>cases e
 case isTrue b=>
 obtain⟨⟨r,as'⟩,m,e⟩:=aB e;cases e;dsimp only at i b k;refine⟨σ,ok,rs,a,l,λvs o d p f q=>?_⟩;show dsp n run (vs++[]) o Q E;rw[a2f];obtain⟨s,c⟩:=aV7 i b.2 d p f q;refine⟨as,r,as',s,b.1,m,λv j po t=>?_⟩;obtain⟨u,w,x,y⟩:=c r as' v j po t;exact k v j u w x y
def aI{X:Cx}{e:Expr}{n:Nat}{run:Run}{a:DA}{E:XK}(h:∀ Γ,PE X e (bP7 (dsp n run) [] E (dTA Γ a))):GE X e (aW n run a):=.mk λΓ=>peW (h Γ) λ_ _ _=>aV8
section
variable{X:Cx}
def qD(i j:Int):Prop:=cC5 i j\/(Builtin.Int.intBits i<=2 ^ 20/\Builtin.Int.intBits j<=2 ^ 20)
theorem qD.ok{i j:Int}(h:qD i j):IntMulOk i j:=by
 rcases h with h | h;exact h.ok;exact IntMulOk.of_bits h.1 h.2
def bT4:OpR X (binaryOp .Mult) (rI qD λi j=>.int (i*j)):=opI λ_ _ _ _ _ _ _ a q=>PyProof.Rows.mul_int q a.ok
end
noncomputable section
open Classical
noncomputable def ii(f:Int->Int->D):F2:=λd e=>match d,e with
 | .int i,.int j=>some (.val (f i j))
 | _,_=>none
noncomputable def iiC(C:Int->Int->Prop)(f:Int->Int->D):F2:=λd e=>match d,e with
 | .int i,.int j=>if C i j then some (.val (f i j))else none
 | _,_=>none
noncomputable def iu(f:Int->D):F1:=λd=>match d with
 | .int i=>some (.val (f i))
 | _=>none
end
def bL6{g:Int->Int->V}{f:Int->Int->D}(h:∀ H i j,Rp H (f i j) (g i j)):xZ (rI0 g) (ii f):=by
 intro H c d x y Q res a b e k;unfold ii at e;split at e;cases e;obtain rfl:=cU a;obtain rfl:=cU b;exact⟨_,_,rfl,rfl,k _ H (.refl _) (h H _ _)⟩;cases e
def aD6{C:Int->Int->Prop}{g:Int->Int->V}{f:Int->Int->D}(h:∀ H i j,Rp H (f i j) (g i j)):xZ (rI C g) (iiC C f):=by
 intro H d l x y Q res a b e k;unfold iiC at e;split at e;split at e;rename_i c;cases e;obtain rfl:=cU a;obtain rfl:=cU b;exact⟨_,_,rfl,rfl,c,k _ H (.refl _) (h H _ _)⟩;cases e;cases e
noncomputable def cV7:F2:=ii λi j=>.int (i-j)
noncomputable def aR9:F2:=iiC (λ_ j=>0 < j) λi j=>.int (i % j)
noncomputable def cP3:F2:=iiC bY2 λi j=>.int (i ^ j.toNat)
noncomputable def ltI:F2:=ii λi j=>.bl (decide (i < j))
noncomputable def leI:F2:=ii λi j=>.bl (decide (i<=j))
noncomputable def gtI:F2:=ii λi j=>.bl (decide (j < i))
noncomputable def geI:F2:=ii λi j=>.bl (decide (j<=i))
noncomputable def cV8:F1:=iu λi=>.int (-i)
def fR:xZ (rI (λ_ j=>0 < j) λi j=>.int (i % j)) aR9:=aD6 λ_ _ _=>.int _
def bT5:xZ (rI bY2 λi j=>.int (i ^ j.toNat)) cP3:=aD6 λ_ _ _=>.int _
def aD7:xZ (rI0 λi j=>.bl (decide (j < i))) gtI:=bL6 λ_ _ _=>.bl _
def bT6:xZ (rI0 λi j=>.bl (decide (j<=i))) geI:=bL6 λ_ _ _=>.bl _
section
variable{X:Cx}{pins:List (Addr×Obj)}{σ:St}{H:Hp}{s:Shared}{l:Addr}{xs:List V}
def wZ(I:Inv X pins σ H s)(h:fP H l=some (true,xs)):xs.length<=sizeLine/\∃ (its:List Value) (n:Nat),bW xs its/\xs.length=its.length/\s.heap.get? l=some {cls:=.type "list",data:=.seq its.toArray n}:=by
 unfold fP at h;split at h;rename_i e;cases h;exact I.lstM e;cases h;rename_i o ys e;cases h;obtain⟨_,z,its,n,r,e⟩:=I.hok l _ e;exact⟨z,its,n,r,r.length,e⟩;cases h
end
def cG0:R2:=λx y H Q=>∃ l b xs zs,x=.ref l/\y=.ref b/\fP H l=some (true,xs)/\fP H b=some (true,zs)/\xs.length+zs.length<=sizeLine/\∀ p,H p=none->Q (.ref p) (upd H p (.lst (xs++zs)))
def bT7{X:Cx}:OpR X (binaryOp .Add) cG0:=by
 intro pins s σ H x y v u Q I c d h;obtain⟨l,b,xs,o,rfl,rfl,f,g,p,q⟩:=h;cases c;cases d;obtain⟨z,its,n,r,t,e⟩:=wZ I f;obtain⟨w,a,n2,i,j,k⟩:=wZ I g;refine PySem.P.add_list e k ?_ (by rw[a1b,a1b];lia);have m:its.toArray++a.toArray=(its++a).toArray:=by simp
 rw[m];exact⟨.ref _,_,I.lnew (t':=s.toks) (r.append i) (by rw[a9a];lia),rfl,q _ I.fresh⟩
def cG1:R2:=λx y H Q=>bR7 x y H Q\/cG0 x y H Q
def bC{X:Cx}:OpR X (binaryOp .Add) cG1:=cE7.or bT7
noncomputable def jG:F2:=λd e=>match d,e with
 | .int i,.int j=>some (.val (.int (i+j)))
 | .str a,.str b=>if a.length+b.length<=sizeLine then some (.val (.str (a++b)))else none
 | .lst l,.lst m=>if l.length+m.length<=sizeLine then some (.own (.lst (l++m)))else none
 | .tup l,.tup m=>if l.length+m.length<=sizeLine then some (.val (.tup (l++m)))else none
 | _,_=>none
def xA{H:Hp}{p:Addr}{xs:List V}{l:List D}(a:H p=none)(r:Rps H l xs):aC9 H (upd H p (.lst xs)) (.own (.lst l)) (.ref p):=⟨p,rfl,a,xs,aQ,r.mono (.same (bU a))⟩
def aD8{H:Hp}{p:Addr}{xs:List V}{l:List D}(a:H p=none)(r:Rps H l xs):aC9 H (upd H p (.tup xs)) (.val (.tup l)) (.ref p):=.tup aQ (r.mono (.same (bU a)))
def bD:xZ cG1 jG:=by
 intro H t u x y Q res d f e k;unfold jG at e;split at e;cases e;obtain rfl:=cU d;obtain rfl:=cU f;exact .inl (k _ H (.refl _) (.int _));split at e;rename_i i;cases e;obtain rfl:=hZ d;obtain rfl:=hZ f;exact .inl ⟨i,k _ H (.refl _) (.str _)⟩;cases e;split at e;rename_i l m i;cases e;obtain⟨p,xs,rfl,g,a⟩:=gQ d;obtain⟨q,ys,rfl,h,b⟩:=gQ f;have:=a.length;have:=b.length;exact .inr ⟨p,q,xs,ys,rfl,rfl,g,h,by lia,λr c=>k _ _ (bU c) (xA c (a.append b))⟩;cases e
 ·split at e;rename_i l m i;cases e;obtain⟨p,xs,rfl,g,a⟩:=eN d;obtain⟨q,ys,rfl,h,b⟩:=eN f;have o:=a.length;have s:=b.length;refine .inl (.inr ⟨xs,ys,cK g,cK h,by lia,λj=>?_,λj n=>?_,λj n r c=>k _ _ (bU c) (aD8 c (a.append b))⟩);subst j;have:l=[]:=a7c o;subst this;exact k _ H (.refl _) (.tup h b);subst n;have:m=[]:=a7c s;subst this;rw[a2f]at k;exact k _ H (.refl _) (.tup g a);cases e
 ·cases e
noncomputable section
open Classical
noncomputable def aD9:F2:=λd e=>match d,e with
 | .int i,.int j=>if qD i j then some (.val (.int (i*j)))else none
 | .str z,.int i=>if z.length<=1000/\0<=i/\i<=1000 then some (.val (.str (Txt.mul z i)))else none
 | _,_=>none
end
def cG2:R2:=λx y H Q=>rI qD (λi j=>.int (i*j)) x y H Q\/bR4 x y H Q
def fS{X:Cx}:OpR X (binaryOp .Mult) cG2:=bT4.or cE6
def fT:xZ cG2 aD9:=by
 intro H d f x y Q res b c e k;unfold aD9 at e;split at e;split at e;rename_i a;cases e;obtain rfl:=cU b;obtain rfl:=cU c;exact .inl ⟨_,_,rfl,rfl,a,k _ H (.refl _) (.int _)⟩;cases e;split at e;rename_i a;cases e;obtain rfl:=hZ b;obtain rfl:=cU c;exact .inr ⟨a.1,a.2.1,a.2.2,λy _ e=>by subst e;exact k _ H (.refl _) (.str _)⟩;cases e;cases e
noncomputable def ixD:F2:=λd e=>match d,e with
 | .lst l,.int i=>(atI l i).map .val
 | .tup l,.int i=>(atI l i).map .val
 | .str z,.int i=>if z.length<=sizeLine then(atI z.cps.toList i).map λc=>.val (.str ⟨#[c]⟩)else none
 | _,_=>none
theorem Rps.atI{H:Hp}{l:List D}{xs:List V}{i:Int}{d:D}(r:Rps H l xs)(h:L2.atI l i=some d):∃ x,L2.atI xs i=some x/\Rp H d x:=by
 unfold L2.atI at h ⊢;obtain⟨j,a,b⟩:=aB h;rw[← r.length,a];exact r.get b
def cG3:xZ cR5 ixD:=by
 intro H m n x y Q res f g e k;unfold ixD at e;split at e;obtain rfl:=cU g;obtain⟨p,xs,rfl,h,i⟩:=gQ f;obtain⟨d,a,b⟩:=a5c.mp e;cases b;obtain⟨x,j,r⟩:=i.atI a;exact⟨x,aU1 h j,k _ H (.refl _) r⟩;obtain rfl:=cU g;obtain⟨p,xs,rfl,h,i⟩:=eN f;obtain⟨d,a,b⟩:=a5c.mp e;cases b;obtain⟨x,j,r⟩:=i.atI a;exact⟨x,aU1 (cK h) j,k _ H (.refl _) r⟩;split at e;rename_i l;obtain rfl:=cU g;obtain rfl:=hZ f;obtain⟨c,a,b⟩:=a5c.mp e;cases b;exact⟨_,bR1 l a,k _ H (.refl _) (.str _)⟩;cases e;cases e
def bI{X:Cx}{a b:Expr}{c d:DE}{pos:Pos}(ha:GE X a c)(hb:GE X b d)(hs:aT6 b):GE X (.Subscript a b pos) (aR ixD c d):=.mk λΓ=>peW (cO1 cV1 (ha.to Γ) (hb.to Γ) hs) λ_ _ _=>nO cG3
noncomputable def aO0:FN:=λa=>match a with
 | [.lst l]=>some (.val (.int l.length))
 | [.tup l]=>some (.val (.int l.length))
 | [.str z]=>if z.length<=sizeLine then some (.val (.int z.length))else none
 | _=>none
def aV9{H:Hp}{d:D}{vs:List V}(h:Vws H [d] vs):∃ x,vs=[x]/\Vw H d x:=by
 cases h with
 | cons a t=>cases t;exact⟨_,rfl,a⟩
def iE:bS3 cE3 aO0:=by
 intro H d vs Q res vw e k;unfold aO0 at e;split at e;cases e;obtain⟨x,rfl,v⟩:=aV9 vw;obtain⟨p,xs,rfl,a,b⟩:=gQ v;refine⟨_,_,rfl,aH9 a,?_⟩;rw[← b.length];exact k _ H (.refl _) (.int _);cases e;obtain⟨x,rfl,v⟩:=aV9 vw;obtain⟨p,xs,rfl,a,b⟩:=eN v;refine⟨_,_,rfl,aH9 (cK a),?_⟩;rw[← b.length];exact k _ H (.refl _) (.int _);split at e;rename_i c;cases e;obtain⟨x,rfl,v⟩:=aV9 vw;obtain rfl:=hZ v;exact⟨_,_,rfl,bE4 c,k _ H (.refl _) (.int _)⟩;cases e;cases e
noncomputable def bL7(l:List D)(lo hi:Option Int):List D:=(l.drop (HT.sIx l.length 0 lo)).take (HT.sIx l.length l.length hi-HT.sIx l.length 0 lo)
def Rps.cut{H:Hp}{l:List D}{xs:List V}(r:Rps H l xs)(lo hi:Option Int):Rps H (bL7 l lo hi) (aC1 xs lo hi):=by
 unfold bL7 aC1;rw[r.length];exact(r.drop _).take _
def aW0{xs:List V}{lo hi:Option Int}(h:HT.sIx xs.length 0 lo=0/\HT.sIx xs.length xs.length hi=xs.length):aC1 xs lo hi=xs:=by
 unfold aC1;rw[h.1,h.2];simp
end Dv
namespace HT
open PySem PySem.Spec PyProof.Rows
section
variable{prog:Program}{w:World}{A:Around}{E:Value->Shared->Prop}{s:Shared}
def getItem_tuple_all{t sl:Addr}{items:Array Value}{f g:Value}{lo hi:Option Int}{Q:Value->Shared->Prop}(a:IsTup s.heap t items)(hs:s.heap.IsSliceOf sl f g .none)(pl:IsPart f lo)(j:IsPart g hi)
  (i:sIx items.size 0 lo=0/\sIx items.size items.size hi=items.size) (h:Q (.ref t) s):wpAny (model prog w) A (getItem (.ref t) (.ref sl)) Q E s:=by
 obtain⟨os,c,d,k⟩:=id hs;have e:s.TypeIs (.ref sl) "slice":=⟨os,c,d⟩;unfold getItem
 try with_reducible refine a2L ?_
 first | refine a2F (a2G ?_) | skip
 refine a2F (wpAny_sequenceKey a.typeIs (by decide) ?_);refine a2F (wpAny_callSpecial?_slot (name:=Str.ofString "__getitem__") a.typeIs a3e
  (a2V a3e a.typeIs entry_tuple_getitem ?_ (args_tuple_getitem _ _)))
 show wpAny _ _ (Builtin.Tuple.tupleItemsOf (.ref t) >>= _) _ _ s;refine a2F (tupleItemsOf_ a ?_);refine a2F (a3m e ?_);rw[a2H (by decide)];refine a2F (gP hs pl j ?_);have b:(((sIx items.size 0 lo:Nat):Int)==0&&(1:Int)==1&&(sIx items.size items.size hi-sIx items.size 0 lo)==items.size)=true:=by
  rw[i.1,i.2];simp
 show wpAny _ _ (if(((sIx items.size 0 lo:Nat):Int)==0&&(1:Int)==1&&(sIx items.size items.size hi-sIx items.size 0 lo)==items.size)=true then _ else _) _ _ s;rw[a2H b];refine a2F ?_;unfold Builtin.Tuple.tupleIsExact;refine a2F (a3m a.typeIs (a2G ?_));rw[a2H (by decide)];refine a2F (a2U ?_);exact a2G ⟨_,rfl,a2G h⟩
end
end HT
namespace Dv
open PySem L2
def cS1:V->Option Int->Option Int->Hp->VK->Prop:=λx lo hi H Q=>match x with
 | .str z=>z.length<=sizeLine/\Q (.str (Txt.slice z lo hi)) H
 | .ref p=>(∃ xs,fP H p=some (true,xs)/\∀ r,H r=none->Q (.ref r) (upd H r (.lst (aC1 xs lo hi)))) \/
   ∃ xs,fP H p=some (false,xs)/\(aC1 xs lo hi=xs->Q (.ref p) H)/\∀ r,H r=none->Q (.ref r) (upd H r (.tup (aC1 xs lo hi)))
 | _=>False
def cV9{X:Cx}:SlR X cS1:=by
 intro pins s σ H x v d e lo hi sl Q I b hs pl c h;unfold cS1 at h;split at h;rename_i z;exact cO4 pins s σ H _ v d e lo hi sl Q I b hs pl c h
 ·rename_i p;rcases h with h | ⟨xs,g,j,k⟩;exact cO4 pins s σ H _ v d e lo hi sl Q I b hs pl c (.inl h);by_cases f:HT.sIx xs.length 0 lo=0/\HT.sIx xs.length xs.length hi=xs.length
  ·cases b;obtain⟨its,r,i,l⟩:=I.tuple (fA g);have a:its.toArray.size=xs.length:=by rw[a1b];exact r.length.symm
   refine⟨"tuple",_,a3e.lookup,i.typeIs,?_⟩;exact HT.getItem_tuple_all i hs pl c (by rw[a];exact f) ⟨.ref p,H,I,rfl,j (aW0 f)⟩
  ·exact cO4 pins s σ H _ v d e lo hi sl Q I b hs pl c (.inr ⟨xs,g,f,k⟩)
 ·exact h.elim
abbrev DO:=Sg->Option (Option Int×Sg)
def dTO(Γ:Gm)(r:DO):TO:=λσV H Q=>∃ σ,StOk Γ H σ σV/\∃ o σ',r σ=some (o,σ')/\∀ H',StOk Γ H' σ' σV->Step σ σV H σ' σV H'->Q o H'
structure GO(X:Cx)(e:Option Expr)(r:DO):Prop where
 to:∀ Γ,PO X e (dTO Γ r)
def poW{X:Cx}{e:Option Expr}{t t':TO}(h:PO X e t)(w:∀ σ H Q,t' σ H Q->t σ H Q):PO X e t':=λpins s σ H Q I q=>h pins s σ H Q I (w σ H Q q)
noncomputable def bC2:DO:=λσ=>some (none,σ)
noncomputable def dP(r:DE):DO:=λσ=>(r σ).bind λx=>(rd x.2 x.1).bind λd=>match d with
 | .int i=>some (some i,x.2)
 | _=>none
def iF{X:Cx}:GO X none bC2:=.mk λΓ=>poW bP9 λσV H Q Z1=>by obtain⟨σ,ok,o,σ',e,k⟩:=Z1;cases e;exact k H ok .refl
def iG{X:Cx}{e:Expr}{r:DE}(h:GE X e r):GO X (some e) (dP r):=.mk λΓ=>poW (bQ0 (h.to Γ)) λσV H Q ⟨σ,ok,o,σ',e,k⟩=>by
 obtain⟨⟨x,c⟩,f,e⟩:=aB e;obtain⟨d,g,e⟩:=aB e;dsimp only at e;split at e;cases e;exact⟨σ,ok,x,_,f,λv i a j b _=>⟨_,cU (j.vw a g),k i a b⟩⟩;cases e
noncomputable def slD(d:D)(lo hi:Option Int):Option Res:=match d with
 | .str z=>if z.length<=sizeLine then some (.val (.str (Txt.slice z lo hi)))else none
 | .lst l=>some (.own (.lst (bL7 l lo hi)))
 | .tup l=>some (.val (.tup (bL7 l lo hi)))
 | _=>none
noncomputable def dSl(r:DE)(a b:DO):DE:=λσ=>(r σ).bind λx=>(a x.2).bind λy=>(b y.2).bind λz=>(rd z.2 x.1).bind λd=>(slD d y.1 z.1).bind λw=>some (w,z.2)
def fH{X:Cx}{e:Expr}{lo hi:Option Expr}{B pos:Pos}{r:DE}{a b:DO}(C:GE X e r)(ha:GO X lo a)(hb:GO X hi b):GE X (.Subscript e (.Slice lo hi none B) pos) (dSl r a b):=.mk λΓ=>peW (bD2 cV9 (C.to Γ) (ha.to Γ) (hb.to Γ)) λσV H Q ⟨σ,ok,res,σ',e,k⟩=>by
 obtain⟨⟨x,i⟩,D,e⟩:=aB e;obtain⟨⟨lo,j⟩,E,e⟩:=aB e;obtain⟨⟨hi,y⟩,F,e⟩:=aB e;obtain⟨d,G,e⟩:=aB e;obtain⟨w,c,e⟩:=aB e;cases e;refine⟨σ,ok,x,i,D,λv L l I m _=>⟨i,l,lo,j,E,λM n f=>⟨j,n,hi,y,F,λs g h=>?_⟩⟩⟩;have vw:=((I.step l f).step n h).vw g G;have fin:∀ v H',xY s H'->aC9 s H' res v->Q v H':=λv H' z A=>k v H' (g.same z) (A.res g) (((m.trans f).trans h).trans (.same z)) (A.frh.back ((m.trans f).trans h));dsimp only at c;unfold slD at c;split at c;split at c;rename_i J;cases c;obtain rfl:=hZ vw;exact⟨J,fin _ s (.refl _) (.str _)⟩;cases c;cases c;obtain⟨p,xs,rfl,t,u⟩:=gQ vw;exact .inl ⟨xs,t,λq o=>fin _ _ (bU o) (xA o (u.cut lo hi))⟩;cases c;obtain⟨p,xs,rfl,t,u⟩:=eN vw;refine .inr ⟨xs,cK t,λK=>fin _ s (.refl _) ?_,λq o=>fin _ _ (bU o) (aD8 o (u.cut lo hi))⟩;have:=u.cut lo hi;rw[K]at this;exact .tup t this;cases c
def cG4(K:W.Frag):List V->Hp->VK->Prop:=λxs H Q=>∃ (a:Addr) (bs:List Bool),xs=[.ref a]/\SqL K H a (bs.map V.bl)/\Q (.bl (bs.all id)) H
noncomputable def aO1:List D->Option (List Bool)
 | []=>some []
 | .bl b::r=>(aO1 r).bind λbs=>some (b::bs)
 | _=>none
theorem aJ0:∀ {l:List D} {bs:List Bool},aO1 l=some bs->l=bs.map D.bl
 | [],_,h=>by cases h;rfl
 | .bl b::r,_,h=>by
   obtain⟨bs,a,e⟩:=aB h;cases e;rw[aJ0 a];rfl
 | .non::_,_,h=>by cases h
 | .int _::_,_,h=>by cases h
 | .str _::_,_,h=>by cases h
 | .tup _::_,_,h=>by cases h
 | .lst _::_,_,h=>by cases h
 | .dic _ _::_,_,h=>by cases h
def aW1(bs:List Bool):aO1 (bs.map D.bl)=some bs:=by
 induction bs with
 | nil=>rfl
 | cons b r a=>show(aO1 (r.map D.bl)).bind _=_;rw[a];rfl
noncomputable def cL5:FN:=λa=>match a with
 | [.lst l]=>(aO1 l).map λbs=>.val (.bl (bs.all id))
 | _=>none
def bT8{K:W.Frag}:bS3 (cG4 K) cL5:=by
 intro H f vs Q res vw e k;unfold cL5 at e;split at e;obtain⟨bs,c,d⟩:=a5c.mp e;cases d;obtain⟨x,rfl,v⟩:=aV9 vw;obtain⟨p,xs,rfl,a,b⟩:=gQ v;rw[aJ0 c]at b;rw[b.bls_inv]at a;exact⟨p,bs,rfl,jF a,k _ H (.refl _) (.bl _)⟩;cases e
def aW2{X:Cx}(K:W.Frag)(a:X.K=K)(b:X.calm=true):jO X (.builtin "all") (cG4 K):=by rw[← a];exact bD7 b
noncomputable def cP4:FN:=λa=>match a with
 | [.int i,.int j]=>some (.val (.int (if j > i then j else i)))
 | _=>none
noncomputable def cP5:FN:=λa=>match a with
 | [.int i,.int j]=>some (.val (.int (if j < i then j else i)))
 | _=>none
noncomputable def bY7:FN:=λa=>match a with
 | [.int i]=>some (.val (.int i))
 | [.bl b]=>some (.val (.int (if b then 1 else 0)))
 | _=>none
def aW3:bS3 (λxs H Q=>(∃ i,xs=[.int i]/\Q (.int i) H)\/∃ k,xs=[.bl k]/\Q (.int (if k then 1 else 0)) H) bY7:=by
 intro H b vs Q res vw e k;unfold bY7 at e;split at e;cases e;obtain⟨x,rfl,a⟩:=aV9 vw;obtain rfl:=cU a;exact .inl ⟨_,rfl,k _ H (.refl _) (.int _)⟩;cases e;obtain⟨x,rfl,a⟩:=aV9 vw;obtain rfl:=aU8 a;exact .inr ⟨_,rfl,k _ H (.refl _) (.int _)⟩;cases e
noncomputable def aW4:FN:=λa=>match a with
 | [.lst l]=>some (.own (.lst l))
 | [.tup l]=>some (.own (.lst l))
 | _=>none
def bG7:bS3 bL4 aW4:=by
 intro H f vs Q res vw e k;unfold aW4 at e;split at e;cases e;obtain⟨x,rfl,a⟩:=aV9 vw;obtain⟨p,xs,rfl,c,d⟩:=gQ a;exact⟨p,true,xs,rfl,c,λq b=>k _ _ (bU b) (xA b d)⟩;cases e;obtain⟨x,rfl,a⟩:=aV9 vw;obtain⟨p,xs,rfl,c,d⟩:=eN a;exact⟨p,false,xs,rfl,cK c,λq b=>k _ _ (bU b) (xA b d)⟩;cases e
noncomputable def yU:FN:=λa=>match a with
 | [.lst l]=>some (.val (.tup l))
 | [.tup l]=>some (.val (.tup l))
 | _=>none
def dH:bS3 cE5 yU:=by
 intro H f vs Q res vw e k;unfold yU at e;split at e;cases e;obtain⟨x,rfl,a⟩:=aV9 vw;obtain⟨p,xs,rfl,b,c⟩:=gQ a;exact⟨p,true,xs,rfl,b,λq d=>k _ _ (bU d) (aD8 d c)⟩;cases e;obtain⟨x,rfl,a⟩:=aV9 vw;obtain⟨p,xs,rfl,b,c⟩:=eN a;exact⟨p,false,xs,rfl,cK b,k _ H (.refl _) (.tup b c)⟩;cases e
noncomputable def cP6:D->String
 | .non=>"NoneType"
 | .bl _=>"bool"
 | .int _=>"int"
 | .str _=>"str"
 | .lst _=>"list"
 | .tup _=>"tuple"
 | .dic _ _=>"dict"
noncomputable def aW5(c:String):F1:=λd=>match d with
 | .dic _ _=>none
 | d=>some (.val (.bl (oK (cP6 d) c)))
noncomputable def cW0:F1:=iu λi=>.int (Builtin.Int.intBits i)
noncomputable def bY8:FM:=λd a=>match d,a with
 | .lst l,[e]=>if l.length < sizeLine then some (.lst (l++[e]),.non)else none
 | _,_=>none
def lA{H:Hp}{l:List D}{p:Addr}(h:cM H (.lst l) p):∃ xs,H p=some (.lst xs)/\Rps H l xs:=h
def aE0:cP1 oG bY8:=by
 intro H d p h vs Q d' e ow r b k;unfold bY8 at b;split at b
 ·split at b
  ·rename_i l x f;cases b;obtain⟨xs,g,c⟩:=lA ow;cases r with
   | cons a t=>
     cases t;exact⟨p,xs,_,rfl,rfl,g,by rw[← c.length];exact f,k _ _ ⟨_,aQ,(c.append (.cons a .nil)).mono (cM.ext ow)⟩ .non⟩
  ·cases b
 ·cases b
noncomputable def cL6:FM:=λd a=>match d,a with
 | .lst l,[.lst m]=>if l.length+m.length<=sizeLine then some (.lst (l++m),.non)else none
 | _,_=>none
def cG5:V->List V->Hp->VK->Prop:=λx vs H Q=>∃ l b xs zs,x=.ref l/\vs=[.ref b]/\H l=some (.lst xs)/\fP H b=some (true,zs)/\xs.length+zs.length<=sizeLine/\Q .non (upd H l (.lst (xs++zs)))
def bT9{X:Cx}:MtM X "list.extend" cG5:=by
 intro pins s σ H x vs v us Q I g i h;obtain⟨l,b,xs,t,rfl,rfl,f,j,w,q⟩:=h;cases g;obtain⟨u,rfl,k⟩:=i.one;cases k;obtain⟨z,its,n,r,y,e⟩:=I.lstM f;obtain⟨A,a,n2,m,o,p⟩:=wZ I j;have d:its.toArray.size+a.toArray.size<=sizeLine:=by rw[a1b,a1b];lia
 have c:¬ (!its.toArray.isEmpty&&Builtin.List.listTooLong (its.toArray.size+a.toArray.size))=true:=by
  rw[aH6 d,Bool.and_false];exact a8d
 refine a3t F.slot_list_extend ⟨_,e,rfl⟩ F.entry_list_extend (F.args_list_extend_2 _ _)
  (AutoSeq1.list_extend_list_list_0 l its.toArray n b a.toArray n2 c (by rw[a1b];lia) (by lia)) ⟨e,p,?_⟩
 refine⟨.non,_,I.lset (its':=its++a) f e (by simp) (r.append m) ?_,rfl,q⟩;rw[a9a];lia
def bU0:cR9 cG5 cL6:=by
 intro H d p i vs Q d' e ow r b k;unfold cL6 at b;split at b;split at b;rename_i l m j;cases b;obtain⟨xs,g,c⟩:=lA ow;obtain⟨x,rfl,a⟩:=aV9 r;obtain⟨q,ys,rfl,h,f⟩:=gQ a;have:=c.length;have:=f.length;exact⟨p,q,xs,ys,rfl,rfl,g,h,by lia,k _ _ ⟨_,aQ,(c.append f).mono (cM.ext ow)⟩ .non⟩;cases b;cases b
noncomputable def yV:FM:=λd a=>match d,a with
 | .lst l,[.int i]=>if -(2 ^ 63)<=i/\i < 2 ^ 63 then(ixN l.length i).bind λj=>(l[j]?).map λy=>(.lst (l.eraseIdx j),y)else none
 | _,_=>none
def aW6:cP1 bK8 yV:=by
 intro H d p o vs Q d' e ow r b k;unfold yV at b;split at b
 ·split at b
  ·rename_i l i hi;obtain⟨j,f,b⟩:=aB b;obtain⟨y,g,h⟩:=a5c.mp b;cases h;obtain⟨xs,m,c⟩:=lA ow;obtain⟨x,ex,n⟩:=c.get g;cases r with
   | cons a t=>
     cases t;cases a;exact⟨p,xs,i,j,x,rfl,rfl,m,hi.1,hi.2,by rw[← c.length];exact(aC2 f).1,ex,k _ _ ⟨_,aQ,(c.eraseIdx j).mono (cM.ext ow)⟩ (n.mono (cM.ext ow))⟩
  ·cases b
 ·cases b
noncomputable def cL7(i:Int)(e:D):D->Option D
 | .lst l=>(ixN l.length i).map λj=>.lst (l.set j e)
 | _=>none
noncomputable def bY9(k:Nat)(ri c:DE):DS:=λσ=>(c σ).bind λx=>match x.1 with
 | .val d=>if aD0 "list" k x.2=true then(ri x.2).bind λy=>(rd y.2 y.1).bind λe=>match e with
   | .int i=>(bF7 (λa _=>(cL7 i d a).map λb=>(b,.non)) k [] y.2).bind λz=>some (.nx z.2)
   | _=>none else none
 | _=>none
def aW7{X:Cx}{E:Ex}{st:Stmt}{k:Nat}{ri G:DE}(h:∀ Γ,PS X st (bP2 (dTE Γ G) (cR4 (bB9 k) (dTE Γ ri) cD6))):GS E X st (bY9 k ri G):=.mk λΓ=>psW (h Γ) λD σV H ⟨σ,ok,o,e,L⟩=>by
 obtain⟨⟨x,f⟩,M,e⟩:=aB e;refine⟨σ,ok,x,f,M,λv H1 g N u f1=>?_⟩;cases x with
 | own d=>cases e
 | slot d=>cases e
 | val d=>
   have c:(if aD0 "list" k f=true then(ri f).bind λy=>(rd y.2 y.1).bind λI=>match I with
    | .int i=>(bF7 (λa _=>(cL7 i d a).map λb=>(b,.non)) k [] y.2).bind λz=>some (.nx z.2)
    | _=>none else none)=some o:=e
   split at c
   ·rename_i hn;obtain⟨⟨y,w⟩,O,c⟩:=aB c;obtain⟨I,P,c⟩:=aB c;obtain⟨s0,A,B,Q⟩:=wT hn;obtain⟨p,ep,ow⟩:=g.ownAt A B;dsimp only at c;split at c
    ·rename_i i;obtain⟨⟨z,R⟩,S,c⟩:=aB c;cases c;obtain⟨s,d',y',hs,hm,T,rfl,rfl⟩:=jT S;obtain⟨b,J,U⟩:=a5c.mp T;cases U;refine⟨_,ep,f,g,y,w,O,λvi V n W q f2=>?_⟩;obtain rfl:=cU (W.vw n P);obtain⟨p',r,t⟩:=n.ownAt hs (fX hm);rw[ep]at r;cases r;have Y:Rp V d v:=Rp.mono (q.ext g) N;obtain⟨m,Z⟩:=s;cases Z with
     | lst l=>
       obtain⟨j,e8,e9⟩:=a5c.mp J;cases e9;obtain⟨xs,h1,K⟩:=lA t;refine⟨p,xs,i,j,rfl,rfl,h1,by rw[← K.length];exact e8,?_⟩;obtain⟨C,F⟩:=n.write (d':=.lst (l.set j d)) (o':=.lst (xs.set j v)) hs hm ep ⟨_,aQ,(K.set j Y).mono (cM.ext t)⟩;exact L _ _ C ((u.trans q).trans F)
     | _=>cases J
    ·cases c
   ·cases c
def aO2(i j:Int):Prop:=0 < j/\j < 18446744073709551616
def aJ1{X:Cx}:OpR X (binaryOp .FloorDiv) (rI aO2 λi j=>.int (i / j)):=opI λi j _ _ _ _ _ a q=>by
 have c:(0:Int) < j:=a.1;have d:j < 18446744073709551616:=a.2;refine PyProof.Rows.floordiv_int (by lia) (by rw[Int.fdiv_eq_ediv_of_nonneg i (by lia)];exact q) (.inl (PyProof.noPylong_of_log2 ?_));have h0:j.natAbs≠0:=by lia
 have b:j.natAbs.log2 < 64:=(Nat.log2_lt h0).mpr (by lia);lia
noncomputable def cL8:F2:=iiC aO2 λi j=>.int (i / j)
def aW8:xZ (rI aO2 λi j=>.int (i / j)) cL8:=aD6 λ_ _ _=>.int _
mutual
def eX:D->PyData
 | .non=>.none
 | .bl b=>.bool b
 | .int i=>.int i
 | .str x=>.str x
 | .tup l=>.tuple (toPys l)
 | .lst l=>.list (toPys l)
 | .dic _ _=>.dict []
def toPys:List D->List PyData
 | []=>[]
 | d::r=>eX d::toPys r
end
section
variable{X:Cx}{pins:List (Addr×Obj)}{σ:St}{H:Hp}{s:Shared}
mutual
theorem aJ2(I:Inv X pins σ H s):∀ {d:D} {v:V} {u:Value},Rp H d v->eH v u->(eX d).canLay0=true->∃ as,Reads s.heap u (eX d) as
 | _,_,_,.non,r,_=>by cases r;exact⟨_,.none⟩
 | _,_,_,.bl b,r,_=>by cases r;exact⟨_,.bool b⟩
 | _,_,_,.int i,r,_=>by obtain⟨t,rfl⟩:=r;exact⟨_,.int i t⟩
 | _,_,_,.str x,r,_=>by obtain⟨t,rfl⟩:=r;exact⟨_,.str x t⟩
 | _,_,_,.tup h rs,r,a=>by
   cases r;obtain⟨_,its,c,⟨o,j,f,n,hd⟩,_⟩:=I.hok _ _ h;obtain⟨as,g⟩:=rps_reads I rs c a;exact⟨_,.tuple j f hd (by simpa using g)⟩
 | _,_,_,.lst h rs,r,a=>by
   cases r;obtain⟨_,_,its,n,c,e⟩:=I.hok _ _ h;obtain⟨as,g⟩:=rps_reads I rs c a;exact⟨_,.list e rfl rfl (by simpa using g)⟩
 | _,_,_,.dic h k rs,r,a=>nomatch a
theorem rps_reads(I:Inv X pins σ H s):∀ {l:List D} {vs:List V} {us:List Value},Rps H l vs->bW vs us->PyData.canLayAll0 (toPys l)=true->∃ as,ReadsAll s.heap us (toPys l) as
 | [],_,_,.nil,r,_=>by cases r;exact⟨_,.nil⟩
 | d::l,_,_,.cons a t,r,c=>by
   cases r with
   | cons e f=>
     have b:(eX d).canLay0=true/\PyData.canLayAll0 (toPys l)=true:=by simpa[toPys,PyData.canLayAll0]using c
     obtain⟨as,g⟩:=aJ2 I a e b.1;obtain⟨bs,h⟩:=rps_reads I t f b.2;exact⟨_,.cons g h⟩
end
def fJ(I:Inv X pins σ H s){d:D}{v:V}{u:Value}(h:Vw H d v)(r:eH v u)(a:(eX d).canLay0=true):∃ as,Reads s.heap u (eX d) as:=by
 rcases h with h | ⟨p,rfl,h⟩;exact aJ2 I h r a;cases r;cases d with
 | lst l=>
   obtain⟨xs,b,c⟩:=lA h;obtain⟨_,its,n,f,e⟩:=I.hok _ _ b;obtain⟨as,g⟩:=rps_reads I c f a;exact⟨_,.list e rfl rfl (by simpa using g)⟩
 | dic ks vs=>exact nomatch a
 | _=>exact h.elim
end
noncomputable def qE(d e:D):Bool:=PyData.eqv (eX d) (eX e)
noncomputable def cB(d:D):Bool:=(eX d).canLay0&&decide ((eX d).depth<=60)
def cP7(neg:Bool):R2:=λx y H Q=>∃ d e,Vw H d x/\Vw H e y/\cB d=true/\cB e=true/\Q (.bl (if neg then !qE d e else qE d e)) H
def bQ{d:D}(h:cB d=true):(eX d).canLay0=true/\(eX d).depth<=60:=by
 unfold cB at h;rw[a9d,a2K]at h;exact h
def jX{X:Cx}(n:X.A.units+64 < cLine):OpR X (compareOp .Eq) (cP7 false):=by
 intro pins s σ H x y v u Q I c f h;obtain⟨d,e,g,i,j,k,q⟩:=h;obtain⟨a,o⟩:=bQ j;obtain⟨b,p⟩:=bQ k;obtain⟨as,l⟩:=fJ I g c a;obtain⟨bs,m⟩:=fJ I i f b;exact SeqAt.rcAt_reads l m a b (by lia) _ _ _ _ ⟨.bl _,H,I,rfl,q⟩
def cG6{X:Cx}(n:X.A.units+64 < cLine):OpR X (compareOp .NotEq) (cP7 true):=by
 intro pins s σ H x y v u Q I c f h;obtain⟨d,e,g,i,j,k,q⟩:=h;obtain⟨a,o⟩:=bQ j;obtain⟨b,p⟩:=bQ k;obtain⟨as,l⟩:=fJ I g c a;obtain⟨bs,m⟩:=fJ I i f b;exact SeqAt.rcNeAt_reads l m a b (by lia) _ _ _ _ ⟨.bl _,H,I,rfl,q⟩
noncomputable def eqD(neg:Bool):F2:=λd e=>if cB d=true/\cB e=true then some (.val (.bl (if neg then !qE d e else qE d e)))else none
def jH{neg:Bool}:xZ (cP7 neg) (eqD neg):=by
 intro H b c x y Q res d f e k;unfold eqD at e;split at e;rename_i a;cases e;exact⟨b,c,d,f,a.1,a.2,k _ H (.refl _) (.bl _)⟩;cases e
def cP8(neg:Bool):R2:=λx y H Q=>(∃ i j,x=.str i/\y=.str j/\Q (.bl (if neg then(Builtin.Str.occurrences j i 0 j.length 1).isEmpty else !(Builtin.Str.occurrences j i 0 j.length 1).isEmpty)) H) \/
 ∃ d e b l,Vw H d x/\Vw H e y/\cF1 e=some (b,l)/\cB d=true/\cB e=true/\Q (.bl (if neg then !(l.any λy=>qE y d)else l.any λy=>qE y d)) H
theorem oV(d:D):∀ l:List D,(toPys l).any (λy=>PyData.eqv y (eX d))=l.any λy=>qE y d
 | []=>rfl
 | e::r=>by show(PyData.eqv (eX e) (eX d)||(toPys r).any _)=_;rw[oV d r];rfl
def yW{e:D}{b:Bool}{l:List D}(h:cF1 e=some (b,l)):PyData.depthAll (toPys l)<=(eX e).depth/\((eX e).canLay0=true->PyData.canLayAll0 (toPys l)=true):=by
 cases e with
 | lst a=>cases h;exact⟨by show _<=PyData.depth (.list (toPys l));simp only[PyData.depth];lia,λz=>z⟩
 | tup a=>cases h;exact⟨by show _<=PyData.depth (.tuple (toPys l));simp only[PyData.depth];lia,λz=>z⟩
 | _=>cases h
def aJ3{X:Cx}(r:X.A.units+64 < cLine):OpR X (compareOp .In) (cP8 false):=by
 intro pins s σ H x y v u Q I f g h;rcases h with⟨i,j,rfl,rfl,q⟩ | ⟨d,e,b,l,v1,v2,hs,n,o,q⟩;exact aT0 pins s σ H _ _ v u Q I f g ⟨_,_,rfl,rfl,by simpa using q⟩;obtain⟨a,t⟩:=bQ n;obtain⟨c,w⟩:=bQ o;obtain⟨as,k⟩:=fJ I v1 f a;obtain⟨bs,m⟩:=fJ I v2 g c;obtain⟨dp,cl⟩:=yW hs;have fin:EP X pins σ Q (.bool ((toPys l).any λy=>PyData.eqv y (eX d))) s:=⟨.bl _,H,I,by rw[oV];rfl,q⟩;cases e with
 | lst p=>cases hs;exact SeqAt.in_list_reads m k (cl c) a (by lia) fin
 | tup p=>cases hs;exact SeqAt.in_tuple_reads m k (cl c) a (by lia) fin
 | _=>cases hs
def oW{X:Cx}(r:X.A.units+64 < cLine):OpR X (compareOp .NotIn) (cP8 true):=by
 intro pins s σ H x y v u Q I f g h;rcases h with⟨i,j,rfl,rfl,q⟩ | ⟨d,e,b,l,v1,v2,hs,n,o,q⟩;exact yB pins s σ H _ _ v u Q I f g ⟨_,_,rfl,rfl,by simpa using q⟩;obtain⟨a,t⟩:=bQ n;obtain⟨c,w⟩:=bQ o;obtain⟨as,k⟩:=fJ I v1 f a;obtain⟨bs,m⟩:=fJ I v2 g c;obtain⟨dp,cl⟩:=yW hs;have fin:EP X pins σ Q (.bool (!(toPys l).any λy=>PyData.eqv y (eX d))) s:=⟨.bl _,H,I,by rw[oV];rfl,q⟩;cases e with
 | lst p=>cases hs;exact SeqAt.notIn_list_reads m k (cl c) a (by lia) fin
 | tup p=>cases hs;exact SeqAt.notIn_tuple_reads m k (cl c) a (by lia) fin
 | _=>cases hs
noncomputable def inD(neg:Bool):F2:=λd e=>match d,e with
 | .str i,.str j=>some (.val (.bl (if neg then(Builtin.Str.occurrences j i 0 j.length 1).isEmpty else !(Builtin.Str.occurrences j i 0 j.length 1).isEmpty)))
 | d,e=>match cF1 e with
   | some (_,l)=>if cB d=true/\cB e=true then some (.val (.bl (if neg then !(l.any λy=>qE y d)else l.any λy=>qE y d)))else none
   | none=>none
def oX{neg:Bool}:xZ (cP8 neg) (inD neg):=by
 intro H f g x y Q res a c e k;unfold inD at e;split at e;cases e;obtain rfl:=hZ a;obtain rfl:=hZ c;exact .inl ⟨_,_,rfl,rfl,k _ H (.refl _) (.bl _)⟩;split at e;rename_i b l hs;split at e;rename_i d;cases e;exact .inr ⟨f,g,b,l,a,c,hs,d.1,d.2,k _ H (.refl _) (.bl _)⟩;cases e;cases e
def bU1(K:W.Frag):List V->Hp->VK->Prop:=λxs H Q=>∃ x c t,xs=[x,.ty c]/\TyOf K H x (.type t)/\(t="NoneType"\/t="int"\/t="bool"\/t="str"\/t="list"\/t="tuple") /\
 (c="int"\/c="bool"\/c="str"\/c="list"\/c="tuple")/\Q (.bl (oK t c)) H
def iH{X:Cx}(K:W.Frag)(a:X.K=K):jO X (.builtin "isinstance") (bU1 K):=by
 subst a;intro pins s σ H xs us Q I r h;obtain⟨x,c,t,rfl,ty,b,d,q⟩:=h;exact aC6 pins s σ H _ us Q I r ⟨x,c,.type t,_,rfl,ty,bE8 b d,q⟩
def yX{X:Cx}{e:Expr}{r:DE}{c:String}(K:W.Frag)(f:c="int"\/c="bool"\/c="str"\/c="list"\/c="tuple")(h:∀ Γ,PE X e (tCB (bU1 K) (bP6 (dTE Γ r) (bP6 (tC (.ty c)) cL0)))):GE X e (aU7 (aW5 c) r):=.mk λΓ=>peW (h Γ) λσV H Q j=>by
 have m:cO9 (λx H Q=>bU1 K [x,.ty c] H Q) (aW5 c):=by
  intro H d x Q res a e k;cases d with
  | non=>cases e;obtain rfl:=cF0 a;exact⟨_,_,_,rfl,.non,.inl rfl,f,k _ H (.refl _) (.bl _)⟩
  | bl b=>cases e;obtain rfl:=aU8 a;exact⟨_,_,_,rfl,.bl b,.inr (.inr (.inl rfl)),f,k _ H (.refl _) (.bl _)⟩
  | int i=>cases e;obtain rfl:=cU a;exact⟨_,_,_,rfl,.int i,.inr (.inl rfl),f,k _ H (.refl _) (.bl _)⟩
  | str i=>cases e;obtain rfl:=hZ a;exact⟨_,_,_,rfl,.str i,.inr (.inr (.inr (.inl rfl))),f,k _ H (.refl _) (.bl _)⟩
  | tup l=>cases e;obtain⟨p,xs,rfl,g,_⟩:=eN a;exact⟨_,_,_,rfl,.tup g,.inr (.inr (.inr (.inr (.inr rfl)))),f,k _ H (.refl _) (.bl _)⟩
  | lst l=>
    cases e;rcases a with a | ⟨p,rfl,a⟩
    ·cases a with
     | lst g _=>exact⟨_,_,_,rfl,.frz g,.inr (.inr (.inr (.inr (.inl rfl)))),f,k _ H (.refl _) (.bl _)⟩
    ·obtain⟨xs,g,_⟩:=lA a;exact⟨_,_,_,rfl,.lst g,.inr (.inr (.inr (.inr (.inl rfl)))),f,k _ H (.refl _) (.bl _)⟩
  | dic ks vs=>cases e
 exact bF4 m j
def gE{X:Cx}{e:Expr}{r:DE}(h:GE X e r)(Γ:Gm):PE X e (dTE Γ r):=h.to Γ
def gA{X:Cx}{e:List Expr}{r:DA}(h:GA X e r)(Γ:Gm):PA X e (dTA Γ r):=h.to Γ
def gT{X:Cx}{e:Expr}{r:DT}(h:GT X e r)(Γ:Gm):PT X e (dTT Γ r):=h.to Γ
def gI{X:Cx}{tg e:Expr}{r:DI}(h:GI X tg e r)(Γ:Gm):PI X tg e (dTI Γ r):=h.to Γ
def gSs{X:Cx}{E:Ex}{e:List Stmt}{r:DS}(h:GSs E X e r)(Γ:Gm):PSs X e (dTS Γ E r):=h.to Γ
noncomputable def aW9(K:W.Frag):Bool:=K.all λp=>match p.2.cls with
 | .type n=>!(n=="list")
 | _=>true
def bU2{K:W.Frag}{H:Hp}{a:Addr}{ns:List Int}(c:aW9 K=true)(g:cE0 H)(b:SqL K H a (ns.map V.int)):ArgOk H [⟨.val,.lst (ns.map D.int)⟩] [.ref a]:=by
 have d:∃ o,H a=some (.frz o (.lst (ns.map V.int))):=by
  rcases b with b | ⟨o,its,n,k,q,_⟩
  ·rcases b with b | ⟨o,b⟩;rcases g a with z | ⟨o,xs,z⟩;rw[b]at z;cases z;rw[b]at z;cases z;exact⟨o,b⟩
  ·exfalso;unfold aW9 at c;rw[a3i]at c;have hm:(a,o)∈K:=by
    clear c g;have:∀ (l:List (Addr×Obj)),List.lookup a l=some o->(a,o)∈l:=by
     intro l
     induction l with
     | nil=>intro h;simp at h
     | cons p r u=>
       intro h;rw[a2i]at h;split at h
       ·rename_i e;have:a=p.1:=by simpa using e
        cases h;rw[this];exact a3a
       ·exact a4a _ (u h)
    exact this K k
   have:=c _ hm;rw[q]at this;simp at this
 obtain⟨o,d⟩:=d;refine⟨rfl,λi s e=>?_,λi j s t p n f v m=>?_,λi s e=>?_⟩
 ·cases i with
  | zero=>simp at e;subst e;exact⟨_,rfl,.lst d (wQ ns)⟩
  | succ i=>simp at e
 ·cases i with
  | zero=>simp at f;subst f;cases m
  | succ i=>simp at f
 ·cases i with
  | zero=>simp at e;subst e;exact λz=>nomatch z
  | succ i=>simp at e
def aX0{run:Run}{K:W.Frag}{H:Hp}{a:Addr}{ns:List Int}(b:aW9 K=true)(c:cE0 H)(d:SqL K H a (ns.map V.int))(h:∃ as',run [⟨.val,.lst (ns.map D.int)⟩]=some (.val (.bl true),as')) :
  dsp 1 run [.ref a] H (λv _=>v=.bl true) (λ_ _ _=>False):=by
 obtain⟨as',h⟩:=h;exact⟨_,_,as',bU2 b c d,rfl,h,λv H' po e=>by cases e;rfl⟩
def OK1{b:Type}(o:Option b)(K:b->Prop):Prop:=match o with
 | some a=>K a
 | none=>False
def RE(r:DE)(σ:Sg)(Q:Res->Sg->Prop):Prop:=OK1 (r σ) λx=>Q x.1 x.2
def RT(r:DT)(σ:Sg)(Q:Bool->Sg->Prop):Prop:=OK1 (r σ) λx=>Q x.1 x.2
def RA(r:DA)(σ:Sg)(Q:List Res->Sg->Prop):Prop:=OK1 (r σ) λx=>Q x.1 x.2
def RS(r:DS)(σ:Sg)(Q:Out->Prop):Prop:=OK1 (r σ) Q
def RI(r:DI)(σ:Sg)(Q:List D->Option Nat->Sg->Prop):Prop:=OK1 (r σ) λx=>Q x.1 x.2.1 x.2.2
def RO(r:DO)(σ:Sg)(Q:Option Int->Sg->Prop):Prop:=OK1 (r σ) λx=>Q x.1 x.2
theorem aJ{b c:Type}{o:Option b}{f:b->Option c}{K:c->Prop}:OK1 (o.bind f) K=OK1 o λa=>OK1 (f a) K:=by cases o<;>rfl
theorem bE{b:Type}{a:b}{K:b->Prop}:OK1 (some a) K=K a:=rfl
def yZ{b c:Type}{o:Option b}{f:b->c}{K:c->Prop}:OK1 (o.map f) K=OK1 o λa=>K (f a):=by cases o<;>rfl
theorem aZ{a:Type}{c:Prop}[Decidable c]{o:Option a}{K:a->Prop}:OK1 (if c then o else none) K=(c/\OK1 o K):=by
 by_cases h:c;rw[a2H h];exact propext ⟨λq=>⟨h,q⟩,λq=>q.2⟩;rw[a2I h];exact propext ⟨λq=>q.elim,λq=>h q.1⟩
def eO{b:Type}{o:Option b}{K:b->Prop}:OK1 o K↔∃ a,o=some a/\K a:=by
 cases o with
 | none=>exact⟨λq=>q.elim,λ⟨_,e,_⟩=>nomatch e⟩
 | some a=>exact⟨λq=>⟨a,rfl,q⟩,λZ1=>by obtain⟨_,e,q⟩:=Z1;cases e;exact q⟩
def dI{b:Type}{o:Option b}{K c:b->Prop}(h:OK1 o K)(w:∀ a,K a->c a):OK1 o c:=by
 cases o with
 | none=>exact h
 | some a=>exact w a h
def VK:Nat->Sg->Nat->Sg->(Res->Sg->Prop)->Prop
 | 0,some s::_,i,σ,Q=>Q (if s.m=.val then .val s.d else .slot i) σ
 | n+1,_::r,i,σ,Q=>VK n r i σ Q
 | _,_,_,_,_=>False
theorem cG7:∀ (n:Nat) (r:Sg) (i:Nat) (σ:Sg) (Q:Res->Sg->Prop),VK n r i σ Q=OK1 (match r[n]? with | some (some s)=>some (if s.m=.val then Res.val s.d else Res.slot i,σ) | _=>none) λx=>Q x.1 x.2
 | 0,[],_,_,_=>rfl
 | 0,none::_,_,_,_=>rfl
 | 0,some s::_,_,_,_=>rfl
 | n+1,[],_,_,_=>rfl
 | n+1,_::r,i,σ,Q=>by
   show VK n r i σ Q=_;rw[cG7 n r i σ Q,a2d]
def GK:Nat->Sg->(D->Prop)->Prop
 | 0,some s::_,K=>K s.d
 | n+1,_::r,K=>GK n r K
 | _,_,_=>False
theorem cG8:∀ (n:Nat) (r:Sg) (K:D->Prop),GK n r K=OK1 (match r[n]? with | some (some s)=>some s.d | _=>none) K
 | 0,[],_=>rfl
 | 0,none::_,_=>rfl
 | 0,some s::_,_=>rfl
 | n+1,[],_=>rfl
 | n+1,_::r,K=>by
   show GK n r K=_;rw[cG8 n r K,a2d]
def RD(σ:Sg)(r:Res)(K:D->Prop):Prop:=OK1 (rd σ r) K
def PK:Nat->Sg->Sl->(Sg->Prop)->Prop
 | 0,none::r,s,K=>K (some s::r)
 | 0,some ⟨.val,_⟩::r,s,K=>K (some s::r)
 | 0,some ⟨.own,_⟩::r,s,K=>K (some s::r)
 | n+1,o::r,s,K=>PK n r s λa=>K (o::a)
 | _,_,_,_=>False
def aO3{n:Nat}{o:Option Sl}{r:Sg}:fQ (o::r) (n+1)=fQ r n:=by unfold fQ;rw[a2d]
theorem bG8:∀ (n:Nat) (r:Sg) (s:Sl) (K:Sg->Prop),PK n r s K=OK1 (if fQ r n=true then some (r.set n (some s))else none) K
 | 0,[],s,K=>rfl
 | 0,none::r,s,K=>rfl
 | 0,some ⟨.val,_⟩::r,s,K=>rfl
 | 0,some ⟨.own,_⟩::r,s,K=>rfl
 | 0,some ⟨.par,_⟩::r,s,K=>rfl
 | 0,some ⟨.lent,_⟩::r,s,K=>rfl
 | n+1,[],s,K=>by
   show False=_;rw[aZ];unfold fQ;simp
 | n+1,o::r,s,K=>by
   show PK n r s (λa=>K (o::a))=_;rw[bG8 n r s _,aZ,aZ,aO3,List.set_cons_succ];rfl
def MK:Nat->Sg->FM->List D->(D->Sg->Prop)->Prop
 | 0,some ⟨.own,d⟩::r,f,ds,K=>OK1 (f d ds) λy=>K y.2 (some ⟨.own,y.1⟩::r)
 | 0,some ⟨.par,d⟩::r,f,ds,K=>OK1 (f d ds) λy=>K y.2 (some ⟨.par,y.1⟩::r)
 | n+1,o::r,f,ds,K=>MK n r f ds λe a=>K e (o::a)
 | _,_,_,_,_=>False
theorem cG9:∀ (n:Nat) (r:Sg) (f:FM) (ds:List D) (K:D->Sg->Prop),MK n r f ds K=OK1 (bF7 f n ds r) λx=>OK1 (match x.1 with | .val d=>some d | _=>none) λd=>K d x.2
 | 0,[],f,ds,K=>rfl
 | 0,none::r,f,ds,K=>rfl
 | 0,some ⟨.val,_⟩::r,f,ds,K=>rfl
 | 0,some ⟨.lent,_⟩::r,f,ds,K=>rfl
 | 0,some ⟨.own,d⟩::r,f,ds,K=>by
   show OK1 (f d ds) _=OK1 ((f d ds).bind λy=>some (Res.val y.2,some (⟨.own,y.1⟩:Sl)::r)) _;rw[aJ];rfl
 | 0,some ⟨.par,d⟩::r,f,ds,K=>by
   show OK1 (f d ds) _=OK1 ((f d ds).bind λy=>some (Res.val y.2,some (⟨.par,y.1⟩:Sl)::r)) _;rw[aJ];rfl
 | n+1,[],f,ds,K=>rfl
 | n+1,o::r,f,ds,K=>by
   show MK n r f ds (λe a=>K e (o::a))=_;rw[cG9 n r f ds _];unfold bF7;rw[a2d];cases q:r[n]? with
   | none=>rfl
   | some x=>cases x with
     | none=>rfl
     | some s=>
       dsimp only;by_cases hm:s.m.mt=true;rw[a2H hm,a2H hm,aJ,aJ];rfl;rw[a2I hm,a2I hm];rfl
def TK:String->Nat->Sg->Prop->Prop
 | T,0,some ⟨.own,d⟩::_,P=>tyD T d=true/\P
 | T,0,some ⟨.par,d⟩::_,P=>tyD T d=true/\P
 | T,0,some ⟨.lent,d⟩::_,P=>tyD T d=true/\P
 | T,n+1,_::r,P=>TK T n r P
 | _,_,_,_=>False
theorem bG9:∀ (T:String) (n:Nat) (r:Sg) (P:Prop),TK T n r P=(aD0 T n r=true/\P)
 | T,0,[],P=>by simp[TK,aD0]
 | T,0,none::r,P=>by simp[TK,aD0]
 | T,0,some ⟨.val,d⟩::r,P=>by simp[TK,aD0]
 | T,0,some ⟨.own,d⟩::r,P=>by simp[TK,aD0]
 | T,0,some ⟨.par,d⟩::r,P=>by simp[TK,aD0]
 | T,0,some ⟨.lent,d⟩::r,P=>by simp[TK,aD0]
 | T,n+1,[],P=>by simp[TK,aD0]
 | T,n+1,o::r,P=>by
   show TK T n r P=_;rw[bG9 T n r P];unfold aD0;rw[a2d]
section
variable{σ:Sg}{Q:Res->Sg->Prop}{QT:Bool->Sg->Prop}{QA:List Res->Sg->Prop}{QS:Out->Prop}{K:D->Prop}{KR:Res->Prop}{a b c:DE}{ra:DA}{t u:DT}{x y:DS}{d e:D}{f:F2}{f1:F1}{fn:FN}{i j n:Nat}{r:Sg}{o:Option Sl}
theorem bZ0:RE (dC d) σ Q=Q (.val d) σ:=rfl
theorem qT:RE (aG i) σ Q=VK i σ i σ Q:=(cG7 i σ i σ Q).symm
theorem qU:VK (n+1) (o::r) i σ Q=VK n r i σ Q:=rfl
theorem qV:VK 0 (some ⟨.val,d⟩::r) i σ Q=Q (.val d) σ:=rfl
theorem qW:VK 0 (some ⟨.own,d⟩::r) i σ Q=Q (.slot i) σ:=rfl
theorem qX:VK 0 (some ⟨.par,d⟩::r) i σ Q=Q (.slot i) σ:=rfl
theorem qY:VK 0 (some ⟨.lent,d⟩::r) i σ Q=Q (.slot i) σ:=rfl
theorem qZ:RE (aR f a b) σ Q=RE a σ λx g=>RE b g λy c=>RD c x λd=>RD c y λe=>OK1 (f d e) λr=>Q r c:=by
 unfold RE aR RD;simp only[aJ,bE]
theorem rA:RE (aU7 f1 a) σ Q=RE a σ λx b=>RD b x λd=>OK1 (f1 d) λr=>Q r b:=by
 unfold RE aU7 RD;simp only[aJ,bE]
theorem rB:RD σ (.val d) K=K d:=rfl
theorem rC:RD σ (.own d) K=K d:=rfl
theorem rD:RD σ (.slot i) K=GK i σ K:=(cG8 i σ K).symm
theorem rE{m:Md}:GK 0 (some ⟨m,d⟩::r) K=K d:=rfl
theorem rF:GK (n+1) (o::r) K=GK n r K:=rfl
theorem rG:RT (jC a) σ QT=RE a σ λx c=>RD c x λd=>OK1 (match d with | .bl b=>some b | _=>none) λb=>QT b c:=by
 unfold RT RE jC RD;simp only[aJ];congr 1;funext x;congr 1;funext d;cases d<;>rfl
theorem rH{b:Bool}{K:Bool->Prop}:OK1 (match D.bl b with | .bl b=>some b | _=>none) K=K b:=rfl
theorem rJ:RT (cL3 t u) σ QT=RT t σ λb a=>if b=true then RT u a QT else QT false a:=by
 unfold RT cL3;simp only[aJ];congr 1;funext x;by_cases h:x.1=true<;>simp[h,OK1]
theorem aO4:RT (dOr t u) σ QT=RT t σ λb a=>if b=true then QT true a else RT u a QT:=by
 unfold RT dOr;simp only[aJ];congr 1;funext x;by_cases h:x.1=true<;>simp[h,OK1]
theorem rK:RT (bC0 t) σ QT=RT t σ λb a=>QT (!b) a:=by
 unfold RT bC0;simp only[aJ,bE]
theorem lB:RT oR σ QT=QT true σ:=rfl
theorem lC:RE (yN a b) σ Q=RT (jC a) σ λt c=>if t=true then RE b c Q else Q (.val (.bl false)) c:=by
 unfold RT RE yN;simp only[aJ];congr 1;funext x;by_cases h:x.1=true<;>simp[h,OK1]
theorem lD:RE (bF6 a) σ Q=RT (jC a) σ λt b=>Q (.val (.bl (!t))) b:=by
 unfold RT RE bF6;simp only[aJ,bE]
theorem rL{b:Bool}{K:Bool->Prop}:OK1 (match Res.val (D.bl b)with | .val (.bl t)=>some t | _=>none) K=K b:=rfl
theorem rM:RA aX σ QA=QA [] σ:=rfl
theorem lE:RA (aD a ra) σ QA=RE a σ λx b=>RA ra b λxs c=>QA (x::xs) c:=by
 unfold RA RE aD;simp only[aJ,bE]
def RDs(σ:Sg)(rs:List Res)(K:List D->Prop):Prop:=OK1 (rds σ rs) K
def VLs(rs:List Res)(K:List D->Prop):Prop:=OK1 (vals rs) K
theorem lF{K:List D->Prop}:RDs σ [] K=K []:=rfl
theorem lG{x:Res}{xs:List Res}{K:List D->Prop}:RDs σ (x::xs) K=RD σ x λd=>RDs σ xs λds=>K (d::ds):=by
 show OK1 ((rd σ x).bind λd=>(rds σ xs).bind λds=>some (d::ds)) K=_;unfold RDs RD;simp only[aJ,bE]
theorem rN{K:List D->Prop}:VLs [] K=K []:=rfl
theorem rO{xs:List Res}{K:List D->Prop}:VLs (.val d::xs) K=VLs xs λds=>K (d::ds):=by
 show OK1 ((vals xs).bind λds=>some (d::ds)) K=_;unfold VLs;simp only[aJ,bE]
theorem aO5:RE (dCB fn ra) σ Q=RA ra σ λxs a=>RDs a xs λds=>OK1 (fn ds) λr=>Q r a:=by
 unfold RE RA RDs dCB;simp only[aJ,bE]
theorem rP:RE (bS5 ra) σ Q=RA ra σ λxs a=>VLs xs λds=>ds.length<=sizeLine/\Q (.val (.tup ds)) a:=by
 unfold RE RA VLs bS5;simp only[aJ,aZ,bE]
theorem rQ:RE (aB4 ra) σ Q=RA ra σ λxs a=>VLs xs λds=>ds.length<=sizeLine/\Q (.own (.lst ds)) a:=by
 unfold RE RA VLs aB4;simp only[aJ,aZ,bE]
def FK(r:Res)(σ:Sg)(K:D->Sg->Prop):Prop:=OK1 (cR8 σ r) λx=>K x.1 x.2
def ZK:Nat->Sg->(D->Sg->Prop)->Prop
 | 0,some ⟨.own,d⟩::r,K=>K d (some ⟨.val,d⟩::r)
 | 0,some ⟨.val,d⟩::r,K=>K d (some ⟨.val,d⟩::r)
 | n+1,o::r,K=>ZK n r λd a=>K d (o::a)
 | _,_,_=>False
theorem aO6:RE (dFz a) σ Q=RE a σ λx b=>FK x b λd c=>Q (.val d) c:=by
 unfold RE dFz FK;simp only[aJ,bE]
theorem rR{K:D->Sg->Prop}:FK (.val d) σ K=K d σ:=rfl
theorem rS{K:D->Sg->Prop}:FK (.own d) σ K=K d σ:=rfl
theorem rT{K:D->Sg->Prop}:ZK 0 (some ⟨.own,d⟩::r) K=K d (some ⟨.val,d⟩::r):=rfl
theorem rU{K:D->Sg->Prop}:ZK 0 (some ⟨.val,d⟩::r) K=K d (some ⟨.val,d⟩::r):=rfl
theorem rV{K:D->Sg->Prop}:ZK (n+1) (o::r) K=ZK n r λd a=>K d (o::a):=rfl
theorem lH:RS oQ σ QS=QS (.nx σ):=rfl
theorem lI:RS (λσ=>some (.ct σ)) σ QS=QS (.ct σ):=rfl
def SqK(y:DS)(QS:Out->Prop):Out->Prop
 | .nx σ=>RS y σ QS
 | o=>QS o
theorem rW:RS (cW x y) σ QS=RS x σ (SqK y QS):=by
 unfold RS cW;rw[aJ];congr 1;funext o;cases o<;>rfl
theorem rX:SqK y QS (.nx σ)=RS y σ QS:=rfl
theorem rY{v:Res}:SqK y QS (.rt v σ)=QS (.rt v σ):=rfl
theorem rZ:SqK y QS (.bk σ)=QS (.bk σ):=rfl
theorem sA:SqK y QS (.ct σ)=QS (.ct σ):=rfl
theorem lJ:RS (aD1 a) σ QS=RE a σ λ_ b=>QS (.nx b):=by unfold RS RE aD1;simp only[aJ,bE]
theorem sC:RS (kQ a) σ QS=RE a σ λx b=>QS (.rt x b):=by unfold RS RE kQ;simp only[aJ,bE]
theorem lK:RS cP2 σ QS=QS (.rt (.val .non) σ):=rfl
theorem sD:RS (aN7 t x y) σ QS=RT t σ λb a=>if b=true then RS x a QS else RS y a QS:=by
 unfold RS RT aN7;simp only[aJ];congr 1;funext z;by_cases h:z.1=true<;>simp[h]
def PtK(i:Nat)(r:Res)(σ:Sg)(K:Sg->Prop):Prop:=OK1 (cS0 i r σ) K
theorem sE:RS (eU i a) σ QS=RE a σ λx b=>PtK i x b λc=>QS (.nx c):=by unfold RS RE PtK eU;simp only[aJ,bE]
theorem sF{K:Sg->Prop}:PtK i (.val d) σ K=PK i σ ⟨.val,d⟩ K:=(bG8 i σ _ K).symm
theorem sG{K:Sg->Prop}:PtK i (.own d) σ K=PK i σ ⟨.own,d⟩ K:=(bG8 i σ _ K).symm
theorem sH{s:Sl}{K:Sg->Prop}:PK 0 (none::r) s K=K (some s::r):=rfl
theorem sI{s:Sl}{K:Sg->Prop}:PK 0 (some ⟨.val,d⟩::r) s K=K (some s::r):=rfl
theorem sJ{s:Sl}{K:Sg->Prop}:PK 0 (some ⟨.own,d⟩::r) s K=K (some s::r):=rfl
theorem sK{s:Sl}{K:Sg->Prop}:PK (n+1) (o::r) s K=PK n r s λa=>K (o::a):=rfl
theorem bU3{b:FM}{ds:List D}{σ:Sg}:OK1 (bF7 b i ds σ) (λx=>Q x.1 x.2)=MK i σ b ds λd a=>Q (.val d) a:=by
 rw[cG9];apply propext;rw[eO,eO];constructor;rintro⟨⟨x,s⟩,e,q⟩;obtain⟨_,_,_,_,_,_,rfl,_⟩:=jT e;exact⟨_,e,q⟩;rintro⟨⟨x,s⟩,e,q⟩;obtain⟨_,_,_,_,_,_,rfl,_⟩:=jT e;exact⟨_,e,q⟩
theorem lL{T:String}{c:FM}:RE (yP T i c ra) σ Q=TK T i σ (RA ra σ λxs a=>VLs xs λds=>MK i a c ds λd b=>Q (.val d) b):=by
 rw[bG9];unfold RE yP RA VLs;rw[aZ];simp only[aJ,bU3]
theorem lM{T:String}{c:FM}:RE (aV3 T i c ra) σ Q=TK T i σ (RA ra σ λxs a=>RDs a xs λds=>MK i a c ds λd b=>Q (.val d) b):=by
 rw[bG9];unfold RE aV3 RA RDs;rw[aZ];simp only[aJ,bU3]
theorem sM{T:String}{P:Prop}:TK T 0 (some ⟨.own,d⟩::r) P=(tyD T d=true/\P):=rfl
theorem sN{T:String}{P:Prop}:TK T 0 (some ⟨.par,d⟩::r) P=(tyD T d=true/\P):=rfl
theorem sO{T:String}{P:Prop}:TK T (n+1) (o::r) P=TK T n r P:=rfl
theorem sP{a:FM}{ds:List D}{K:D->Sg->Prop}:MK 0 (some ⟨.own,d⟩::r) a ds K=OK1 (a d ds) λy=>K y.2 (some ⟨.own,y.1⟩::r):=rfl
theorem sQ{a:FM}{ds:List D}{K:D->Sg->Prop}:MK 0 (some ⟨.par,d⟩::r) a ds K=OK1 (a d ds) λy=>K y.2 (some ⟨.par,y.1⟩::r):=rfl
theorem sR{a:FM}{ds:List D}{K:D->Sg->Prop}:MK (n+1) (o::r) a ds K=MK n r a ds λe b=>K e (o::b):=rfl
theorem sS:RS (bY9 i a b) σ QS=RE b σ λx c=>OK1 (match x with | .val d=>some d | _=>none) λd=>TK "list" i c (RE a c λy f=>RD f y λg=>OK1 (match g with | .int k=>some k | _=>none) λk=>
  MK i f (λa _=>(cL7 k d a).map λb=>(b,.non)) [] λ_ e=>QS (.nx e)):=by
 unfold RS RE RD bY9;rw[aJ];congr 1;funext x;obtain⟨x,c⟩:=x;cases x with
 | own d=>rfl
 | slot d=>rfl
 | val d=>
   show OK1 _ _=TK _ _ _ _;rw[bG9];dsimp only;rw[aZ];simp only[aJ];congr 1;congr 1;funext y;congr 1;funext g;cases g with
   | int k=>
     dsimp only;rw[aJ];show _=MK _ _ _ _ _;rw[← bU3 (Q:=λ_ e=>QS (.nx e))];rfl
   | _=>rfl
theorem sV{K:D->Prop}:OK1 (match Res.val d with | .val d=>some d | _=>none) K=K d:=rfl
theorem sW{k:Int}{K:Int->Prop}:OK1 (match D.int k with | .int k=>some k | _=>none) K=K k:=rfl
theorem sZ{g:DG}:RS (cL4 g a) σ QS=RE a σ λx b=>OK1 (match x with | .val d=>some d | _=>none) λd=>OK1 (g d b) λc=>QS (.nx c):=by
 unfold RS RE cL4;rw[aJ];congr 1;funext x;obtain⟨x,b⟩:=x;cases x with
 | own d=>rfl
 | slot d=>rfl
 | val d=>
   show OK1 ((g d b).bind _) _=OK1 (g d b) _;rw[aJ];rfl
theorem aO7{K:Sg->Prop}:OK1 (dgN i d σ) K=PK i σ ⟨.val,d⟩ K:=(bG8 i σ _ K).symm
theorem iT{g:DG}{b:DGs}{l:List D}{K:Sg->Prop}:OK1 (yR g b (d::l) σ) K=OK1 (g d σ) λa=>OK1 (b l a) K:=by
 show OK1 ((g d σ).bind λa=>b l a) K=_;rw[aJ]
theorem lO{K:Sg->Prop}:OK1 (bG2 [] σ) K=K σ:=rfl
theorem tE{K:D×D->Prop}:OK1 (match [d,e]with | [d,e]=>some (d,e) | _=>none) K=K (d,e):=rfl
end
def CK(run:Run)(as:List Sl)(K:Res->List Sl->Prop):Prop:=OK1 (run as) λy=>K y.1 y.2
def AK(σ:Sg)(rs:List Res)(K:List Sl->Prop):Prop:=OK1 (qR σ rs) K
def A1(σ:Sg)(r:Res)(K:Sl->Prop):Prop:=OK1 (aD5 σ r) K
def HK:Nat->Sg->(Sl->Prop)->Prop
 | 0,some ⟨m,d⟩::_,K=>K ⟨if m.mt=true then .par else m,d⟩
 | n+1,_::r,K=>HK n r K
 | _,_,_=>False
theorem cH0:∀ (n:Nat) (r:Sg) (K:Sl->Prop),HK n r K=A1 r (.slot n) K
 | 0,[],_=>rfl
 | 0,none::_,_=>rfl
 | 0,some s::_,_=>rfl
 | n+1,[],_=>rfl
 | n+1,_::r,K=>by
   show HK n r K=_;rw[cH0 n r K];show OK1 (match r[n]? with | some (some s)=>some (⟨if s.m.mt=true then .par else s.m,s.d⟩:Sl) | _=>none) K=OK1 (match (_::r)[n+1]? with | some (some s)=>some (⟨if s.m.mt=true then .par else s.m,s.d⟩:Sl) | _=>none) K;rw[a2d]
def UK:Nat->Sg->D->(Sg->Prop)->Prop
 | 0,some ⟨.own,_⟩::r,d,K=>K (some ⟨.own,d⟩::r)
 | 0,some ⟨.par,_⟩::r,d,K=>K (some ⟨.par,d⟩::r)
 | 0,o::r,_,K=>K (o::r)
 | n+1,o::r,d,K=>UK n r d λa=>K (o::a)
 | _,[],_,K=>K []
noncomputable def uS(σ:Sg)(i:Nat)(d:D):Sg:=match σ[i]? with
 | some (some s)=>if s.m.mt=true then σ.set i (some ⟨s.m,d⟩)else σ
 | _=>σ
theorem cH1:∀ (n:Nat) (r:Sg) (d:D) (K:Sg->Prop),UK n r d K=K (uS r n d)
 | 0,[],_,_=>rfl
 | n+1,[],_,_=>rfl
 | 0,none::r,d,K=>rfl
 | 0,some ⟨.val,_⟩::r,d,K=>rfl
 | 0,some ⟨.own,_⟩::r,d,K=>rfl
 | 0,some ⟨.par,_⟩::r,d,K=>rfl
 | 0,some ⟨.lent,_⟩::r,d,K=>rfl
 | n+1,o::r,d,K=>by
   show UK n r d (λa=>K (o::a))=_;rw[cH1 n r d _];unfold uS;rw[a2d];cases r[n]? with
   | none=>rfl
   | some x=>cases x with
     | none=>rfl
     | some s=>
       dsimp only;by_cases h:s.m.mt=true;rw[a2H h,a2H h];rfl;rw[a2I h,a2I h]
noncomputable def sB:List Res->List Sl->Sg->Sg
 | .slot i::rs,a::as,σ=>sB rs as (uS σ i a.d)
 | _::rs,_::as,σ=>sB rs as σ
 | _,_,σ=>σ
def cH2{σ:Sg}{i j:Nat}{d:D}:(uS σ i d)[j]? = (σ[j]?).map λo=>if j=i then(match o with | some s=>some (if s.m.mt=true then⟨s.m,d⟩else s) | none=>none)else o:=by
 unfold uS;by_cases hj:j=i
 ·subst hj;cases h:σ[j]? with
  | none=>dsimp only;rw[h];rfl
  | some o=>
    cases o with
    | none=>dsimp only;rw[h];simp
    | some s=>
      dsimp only;by_cases hm:s.m.mt=true;rw[a2H hm,a0b (a0a.mp h).1];simp[hm];rw[a2I hm,h];simp[hm]
 ·have:∀ x:Option Sl,(σ.set i x)[j]? = σ[j]?:=λx=>a2a (a9c hj);split;split;rw[this];cases σ[j]? <;> simp[hj];cases σ[j]? <;> simp[hj];cases σ[j]? <;> simp[hj]
theorem aJ4:∀ (rs:List Res) (as:List Sl) (σ:Sg) (j:Nat),cR rs=true->(sB rs as σ)[j]? = (σ[j]?).map (jW rs as j)
 | [],as,σ,j,_=>by cases as<;>(show σ[j]? = _;cases σ[j]? with | none=>rfl | some o=>cases o<;>simp[jW,iC])
 | r::rs,[],σ,j,_=>by cases r<;>(show σ[j]? = _;cases σ[j]? with | none=>rfl | some o=>cases o<;>simp[jW,iC])
 | .val d::rs,a::as,σ,j,h=>aJ4 rs as σ j h
 | .own d::rs,a::as,σ,j,h=>aJ4 rs as σ j h
 | .slot i::rs,a::as,σ,j,h=>by
   have h':cR rs=true/\aN9 i rs=false:=by
    unfold cR at h;rw[a9d]at h;exact⟨h.2,by simpa using h.1⟩
   show(sB rs as (uS σ i a.d))[j]? = _;rw[aJ4 rs as _ j h'.1,cH2];cases σ[j]? with
   | none=>rfl
   | some o=>
     cases o with
     | none=>by_cases hj:j=i<;>simp[jW,hj]
     | some s=>
       by_cases hj:j=i
       ·subst hj;have c:iC j rs as=none:=by
         cases q:iC j rs as with
         | none=>rfl
         | some b=>
           obtain⟨k,e,_⟩:=eW q;rw[nQ e]at h';cases h'.2
        simp[jW,c,iC]
       ·have:¬ i=j:=λz=>hj z.symm;simp[jW,hj,iC,this]
def cH3{rs:List Res}{as:List Sl}{σ:Sg}(h:cR rs=true):hV rs as 0 σ=sB rs as σ:=by
 apply a5h;intro j;rw[iD,aJ4 rs as σ j h,a9e]
def BK(rs:List Res)(as:List Sl)(σ:Sg)(K:Sg->Prop):Prop:=K (sB rs as σ)
def cH4(as:List Sl)(K:Res->List Sl->Prop):Out->Prop
 | .nx σ=>K (.val .non) (oS as σ)
 | .rt r σ=>OK1 (bY6 σ r) λa=>K a (oS as σ)
 | _=>False
section
variable{σ:Sg}{Q:Res->Sg->Prop}{ra:DA}{d:D}{i n:Nat}{r:Sg}{o:Option Sl}
theorem lP{run:Run}:RE (aW n run ra) σ Q=RA ra σ λrs a=>AK a rs λas=>(as.length=n/\cR rs=true)/\CK run as λy as'=>BK rs as' a λb=>Q y b:=by
 unfold RE RA AK CK aW;simp only[aJ,aZ,bE];congr 1;funext x;congr 1;funext as;apply propext;constructor;rintro⟨h,q⟩;refine⟨h,dI q λy q=>?_⟩;unfold BK;rw[← cH3 h.2];exact q;rintro⟨h,q⟩;refine⟨h,dI q λy q=>?_⟩;unfold BK at q;rw[← cH3 h.2]at q;exact q
theorem tF{as:List Sl}{K:Sg->Prop}:BK [] as σ K=K σ:=by cases as<;>rfl
theorem tG{rs:List Res}{a:Sl}{as:List Sl}{K:Sg->Prop}:BK (.val d::rs) (a::as) σ K=BK rs as σ K:=rfl
theorem tH{rs:List Res}{a:Sl}{as:List Sl}{K:Sg->Prop}:BK (.own d::rs) (a::as) σ K=BK rs as σ K:=rfl
theorem tJ{rs:List Res}{m:Md}{as:List Sl}{K:Sg->Prop}:BK (.slot i::rs) (⟨m,d⟩::as) σ K=UK i σ d λσ'=>BK rs as σ' K:=by
 rw[cH1];rfl
theorem tK{e:D}{K:Sg->Prop}:UK 0 (some ⟨.own,e⟩::r) d K=K (some ⟨.own,d⟩::r):=rfl
theorem tL{e:D}{K:Sg->Prop}:UK 0 (some ⟨.par,e⟩::r) d K=K (some ⟨.par,d⟩::r):=rfl
theorem tM{e:D}{K:Sg->Prop}:UK 0 (some ⟨.val,e⟩::r) d K=K (some ⟨.val,e⟩::r):=rfl
theorem tN{e:D}{K:Sg->Prop}:UK 0 (some ⟨.lent,e⟩::r) d K=K (some ⟨.lent,e⟩::r):=rfl
theorem tO{K:Sg->Prop}:UK (n+1) (o::r) d K=UK n r d λa=>K (o::a):=rfl
def cS{len:Nat}{b:DS}{as:List Sl}{K:Res->List Sl->Prop}:CK (oU len b) as K=RS b (ini len as) (cH4 as K):=by
 unfold CK RS oU;rw[aJ];congr 1;funext o;cases o with
 | rt x s=>show OK1 ((bY6 s x).bind _) _=OK1 (bY6 s x) _;rw[aJ];rfl
 | _=>rfl
def FSK:Nat->Sg->(Res->Prop)->Prop
 | 0,some ⟨.own,d⟩::_,K=>K (.own d)
 | 0,some ⟨.val,d⟩::_,K=>K (.val d)
 | n+1,_::r,K=>FSK n r K
 | _,_,_=>False
theorem bL8:∀ (n:Nat) (r:Sg) (K:Res->Prop),FSK n r K=OK1 (bY6 r (.slot n)) K
 | 0,[],_=>rfl
 | 0,none::_,_=>rfl
 | 0,some ⟨.val,_⟩::r,K=>rfl
 | 0,some ⟨.own,_⟩::r,K=>rfl
 | 0,some ⟨.par,_⟩::r,K=>rfl
 | 0,some ⟨.lent,_⟩::r,K=>rfl
 | n+1,[],_=>rfl
 | n+1,o::r,K=>by
   show FSK n r K=_;rw[bL8 n r K];show OK1 (match r[n]? with | some (some s)=>if s.m=.own then some (Res.own s.d)else if s.m=.val then some (.val s.d)else none | _=>none) K=OK1 (match (o::r)[n+1]? with | some (some s)=>if s.m=.own then some (Res.own s.d)else if s.m=.val then some (.val s.d)else none | _=>none) K;rw[a2d]
section
variable{as:List Sl}{K:Res->List Sl->Prop}{KR:Res->Prop}
theorem lQ:cH4 as K (.nx σ)=K (.val .non) (oS as σ):=rfl
theorem lS:cH4 as K (.rt (.val d) σ)=K (.val d) (oS as σ):=rfl
theorem lT:cH4 as K (.rt (.own d) σ)=K (.own d) (oS as σ):=rfl
theorem lU:cH4 as K (.rt (.slot i) σ)=FSK i σ λr=>K r (oS as σ):=(bL8 i σ _).symm
theorem tP:FSK 0 (some ⟨.own,d⟩::r) KR=KR (.own d):=rfl
theorem tQ:FSK 0 (some ⟨.val,d⟩::r) KR=KR (.val d):=rfl
theorem tR:FSK (n+1) (o::r) KR=FSK n r KR:=rfl
theorem lV:oS [] σ=[]:=rfl
theorem lW{s:Sl}:oS (⟨.val,d⟩::as) (some s::r)=⟨.val,d⟩::oS as r:=rfl
theorem lX{s:Sl}:oS (⟨.par,d⟩::as) (some s::r)=s::oS as r:=rfl
theorem lY{s:Sl}:oS (⟨.lent,d⟩::as) (some s::r)=s::oS as r:=rfl
end
theorem tS{K:List Sl->Prop}:AK σ [] K=K []:=rfl
theorem tT{x:Res}{xs:List Res}{K:List Sl->Prop}:AK σ (x::xs) K=A1 σ x λa=>AK σ xs λas=>K (a::as):=by
 show OK1 ((aD5 σ x).bind λa=>(qR σ xs).bind λas=>some (a::as)) K=_;unfold AK A1;simp only[aJ,bE]
theorem tU{K:Sl->Prop}:A1 σ (.val d) K=K ⟨.val,d⟩:=rfl
theorem tV{K:Sl->Prop}:A1 σ (.own d) K=K ⟨.par,d⟩:=rfl
theorem tW{K:Sl->Prop}:A1 σ (.slot i) K=HK i σ K:=(cH0 i σ K).symm
theorem tX{K:Sl->Prop}:HK 0 (some ⟨.own,d⟩::r) K=K ⟨.par,d⟩:=rfl
theorem tY{K:Sl->Prop}:HK 0 (some ⟨.par,d⟩::r) K=K ⟨.par,d⟩:=rfl
theorem tZ{K:Sl->Prop}:HK 0 (some ⟨.lent,d⟩::r) K=K ⟨.lent,d⟩:=rfl
theorem uA{K:Sl->Prop}:HK (n+1) (o::r) K=HK n r K:=rfl
end
section
variable{σ:Sg}{QS:Out->Prop}{Q:Res->Sg->Prop}{ri:DI}{g:DG}{b:DS}{a:DE}{ra:DA}
def cH5:RS (bC1 ri g b) σ QS=RI ri σ λitems l a=>OK1 (bG4 g b items (lendO l a)) λo=>QS (aI7 l a o):=by
 unfold RS RI bC1;simp only[aJ,bE]
theorem aO8{K:List D->Option Nat->Sg->Prop}:RI (dIt a) σ K=RE a σ λx b=>RD b x λd=>OK1 (qQ d) λl=>K l (match x with | .slot i=>some i | _=>none) b:=by
 unfold RI RE RD dIt;simp only[aJ,bE];try rfl
noncomputable def cS2:List D->Option (List D)
 | [.int j]=>if -(2 ^ 62)<=j/\j < 2 ^ 62 then some (aR8 0 j.toNat)else none
 | [.int i,.int j]=>if(-(2 ^ 62)<=i/\i < 2 ^ 62) /\ -(2 ^ 62)<=j/\j < 2 ^ 62 then some (aR8 i (j-i).toNat)else none
 | _=>none
theorem uB{K:List D->Option Nat->Sg->Prop}:RI (bY3 ra) σ K=RA ra σ λxs a=>RDs a xs λds=>OK1 (cS2 ds) λl=>K l none a:=by
 unfold RI RA RDs bY3;simp only[aJ];congr 1;funext x;congr 1;funext ds
 match ds with
 | []=>rfl
 | [.int j]=>show OK1 (if -(2 ^ 62)<=j/\j < 2 ^ 62 then _ else none) _=OK1 (if -(2 ^ 62)<=j/\j < 2 ^ 62 then _ else none) _;rw[aZ,aZ];rfl
 | [.int i,.int j]=>show OK1 (if(-(2 ^ 62)<=i/\i < 2 ^ 62) /\ -(2 ^ 62)<=j/\j < 2 ^ 62 then _ else none) _=OK1 (if(-(2 ^ 62)<=i/\i < 2 ^ 62) /\ -(2 ^ 62)<=j/\j < 2 ^ 62 then _ else none) _;rw[aZ,aZ];rfl
 | [.non]=>rfl
 | [.bl _]=>rfl
 | [.str _]=>rfl
 | [.tup _]=>rfl
 | [.lst _]=>rfl
 | [.dic _ _]=>rfl
 | .non::_::_=>rfl
 | .bl _::_::_=>rfl
 | .str _::_::_=>rfl
 | .tup _::_::_=>rfl
 | .lst _::_::_=>rfl
 | .dic _ _::_::_=>rfl
 | .int _::.non::_=>rfl
 | .int _::.bl _::_=>rfl
 | .int _::.str _::_=>rfl
 | .int _::.tup _::_=>rfl
 | .int _::.lst _::_=>rfl
 | .int _::.dic _ _::_=>rfl
 | .int _::.int _::_::_=>rfl
theorem lZ{j:Int}{K:List D->Prop}:OK1 (cS2 [.int j]) K=((-(2 ^ 62)<=j/\j < 2 ^ 62)/\K (aR8 0 j.toNat)):=by
 show OK1 (if -(2 ^ 62)<=j/\j < 2 ^ 62 then some (aR8 0 j.toNat)else none) K=_;rw[aZ];rfl
def bU4{items:List D}(P:Nat->Sg->Prop)(h0:P 0 σ)(hs:∀ i d σ,items[i]? = some d->P i σ->OK1 (g d σ) λc=>RS b c λo=>∃ a,(o=.nx a\/o=.ct a)/\P (i+1) a){K:Out->Prop}(k:∀ σ',P items.length σ'->K (.nx σ')):OK1 (bG4 g b items σ) K:=by
 induction items generalizing P σ with
 | nil=>exact k σ h0
 | cons d r f=>
   show OK1 ((g d σ).bind _) K;rw[aJ];refine dI (hs 0 d σ rfl h0) λc h=>?_;rw[aJ];refine dI h λo j=>?_;obtain⟨a,l,m⟩:=j;have go:OK1 (bG4 g b r a) K:=f (λi=>P (i+1)) m (λi d σ e p=>hs (i+1) d σ (by simpa using e) p) λσ' p=>k σ' (by simpa using p);rcases l with rfl | rfl;exact go;exact go
theorem uC{c:DT}{K:Out->Prop}(P:Nat->Sg->Prop)(hs:∀ m σ,P m σ->RT c σ λt d=>if t=true then RS b d λo=>(∃ a m',(o=.nx a\/o=.ct a)/\m' < m/\P m' a)\/(∃ x a,o=.rt x a/\K (.rt x a))\/(∃ a,o=.bk a/\K (.nx a))else K (.nx d)) :
  ∀ (n m:Nat) (σ:Sg),m < n->P m σ->OK1 (mX c b n σ) K
 | 0,m,σ,h,_=>by lia
 | n+1,m,σ,h,p=>by
   show OK1 ((c σ).bind _) K;rw[aJ];refine dI (hs m σ p) λx e=>?_;dsimp only at e;by_cases f:x.1=true
   ·rw[a2H f]at e ⊢;rw[aJ];refine dI e λo g=>?_;rcases g with⟨a,m',i,hm,j⟩ | ⟨x,a,rfl,q⟩ | ⟨a,rfl,q⟩;have go:=uC P hs n m' a (by lia) j;rcases i with rfl | rfl;exact go;exact go;exact q;exact q
   ·rw[a2I f]at e ⊢;exact e
def aX1{c:DT}(P:Nat->Sg->Prop)(m:Nat)(hm:m < 1000000)(h0:P m σ)(hs:∀ m σ,P m σ->RT c σ λt d=>if t=true then RS b d λo=>(∃ a m',(o=.nx a\/o=.ct a)/\m' < m/\P m' a)\/(∃ x a,o=.rt x a/\QS (.rt x a))\/(∃ a,o=.bk a/\QS (.nx a))else QS (.nx d)):OK1 (mX c b bY4 σ) QS:=
 uC P hs bY4 m σ (a1c hm bT1) h0
def bU5{ow:List Nat}{t:DT}{e:DE}:RE (fG ow ri g t e) σ Q=RI ri σ λitems l a=>items.length<=sizeLine/\OK1 (aD4 ow g t e items (bM ow (lendO l a))) λy=>Q (.own (.lst y.1)) (aR7 l a (jV ow (lendO l a) y.2)):=by
 unfold RE RI fG;simp only[aJ,aZ,bE]
theorem oY{ow:List Nat}{t:DT}{e:DE}{K:List D×Sg->Prop}:∀ (items:List D) (a:Sg) (P:Nat->List D->Sg->Prop),P 0 [] a ->
  (∀ i d acc a,items[i]? = some d->P i acc a->OK1 (g d a) λh=>RT t h λb j=>if b=true then RE e j λr m=>∃ v,r=.val v/\P (i+1) (acc++[v]) (bM ow m)else P (i+1) acc (bM ow j)) ->
  (∀ acc a,P items.length acc a->K (acc,a))->OK1 (aD4 ow g t e items a) K
 | [],a,P,h0,_,k=>k [] a h0
 | d::r,a,P,h0,hs,k=>by
   show OK1 ((g d a).bind _) K;rw[aJ];refine dI (hs 0 d [] a rfl h0) λh q=>?_;rw[aJ];refine dI q λx l=>?_;dsimp only at l;by_cases o:x.1=true;rw[a2H o]at l ⊢;rw[aJ];refine dI l λy s=>?_;obtain⟨v,u,p⟩:=s;rw[u];dsimp only;rw[aJ];exact oY r _ (λi acc a=>P (i+1) (v::acc) a) p (λi d' acc c n f=>by simpa using hs (i+1) d' (v::acc) c (by simpa using n) f) λacc c f=>k (v::acc) c (by simpa using f);rw[a2I o]at l ⊢;exact oY r _ (λi acc a=>P (i+1) acc a) l (λi d' acc c n f=>hs (i+1) d' acc c (by simpa using n) f) λacc c f=>k acc c (by simpa using f)
end
section
variable{i j:Int}{l m:List D}{K:Res->Prop}{d e:D}{σ:Sg}{Q:Res->Sg->Prop}
theorem uD:OK1 (jG (.int i) (.int j)) K=K (.val (.int (i+j))):=rfl
theorem mB:OK1 (jG (.lst l) (.lst m)) K=(l.length+m.length<=sizeLine/\K (.own (.lst (l++m)))):=by
 show OK1 (if l.length+m.length<=sizeLine then some (Res.own (.lst (l++m)))else none) K=_;rw[aZ];rfl
theorem mD:OK1 (jG (.tup l) (.tup m)) K=(l.length+m.length<=sizeLine/\K (.val (.tup (l++m)))):=by
 show OK1 (if l.length+m.length<=sizeLine then some (Res.val (.tup (l++m)))else none) K=_;rw[aZ];rfl
theorem mE{x y:Str}:OK1 (jG (.str x) (.str y)) K=(x.length+y.length<=sizeLine/\K (.val (.str (x++y)))):=by
 show OK1 (if x.length+y.length<=sizeLine then some (Res.val (.str (x++y)))else none) K=_;rw[aZ];rfl
theorem uE:OK1 (cV7 (.int i) (.int j)) K=K (.val (.int (i-j))):=rfl
theorem uF:OK1 (aD9 (.int i) (.int j)) K=(qD i j/\K (.val (.int (i*j)))):=@aZ _ (qD i j) (Classical.propDecidable _) _ _
theorem uG:OK1 (cL8 (.int i) (.int j)) K=(aO2 i j/\K (.val (.int (i / j)))):=@aZ _ (aO2 i j) (Classical.propDecidable _) _ _
theorem uH:OK1 (aR9 (.int i) (.int j)) K=(0 < j/\K (.val (.int (i % j)))):=@aZ _ (0 < j) (Classical.propDecidable _) _ _
theorem uI:OK1 (cP3 (.int i) (.int j)) K=(bY2 i j/\K (.val (.int (i ^ j.toNat)))):=@aZ _ (bY2 i j) (Classical.propDecidable _) _ _
theorem aO9:OK1 (ltI (.int i) (.int j)) K=K (.val (.bl (decide (i < j)))):=rfl
theorem aP0:OK1 (leI (.int i) (.int j)) K=K (.val (.bl (decide (i<=j)))):=rfl
theorem aP1:OK1 (gtI (.int i) (.int j)) K=K (.val (.bl (decide (j < i)))):=rfl
theorem aP2:OK1 (geI (.int i) (.int j)) K=K (.val (.bl (decide (j<=i)))):=rfl
theorem uJ:OK1 (cV8 (.int i)) K=K (.val (.int (-i))):=rfl
theorem uK:OK1 (cW0 (.int i)) K=K (.val (.int (Builtin.Int.intBits i))):=rfl
theorem uL:OK1 (ixD (.lst l) (.int i)) K=OK1 (atI l i) λd=>K (.val d):=by
 show OK1 ((atI l i).map Res.val) K=_;rw[yZ]
theorem uM:OK1 (ixD (.tup l) (.int i)) K=OK1 (atI l i) λd=>K (.val d):=by
 show OK1 ((atI l i).map Res.val) K=_;rw[yZ]
theorem mF:OK1 (aO0 [.lst l]) K=K (.val (.int l.length)):=rfl
theorem mG:OK1 (aO0 [.tup l]) K=K (.val (.int l.length)):=rfl
theorem uN:OK1 (bY7 [.int i]) K=K (.val (.int i)):=rfl
theorem mH{b:Bool}:OK1 (bY7 [.bl b]) K=K (.val (.int (if b then 1 else 0))):=rfl
theorem uO:OK1 (cP4 [.int i,.int j]) K=K (.val (.int (if j > i then j else i))):=rfl
theorem uP:OK1 (cP5 [.int i,.int j]) K=K (.val (.int (if j < i then j else i))):=rfl
theorem mI:OK1 (aW4 [.lst l]) K=K (.own (.lst l)):=rfl
theorem iU:OK1 (aW4 [.tup l]) K=K (.own (.lst l)):=rfl
theorem uQ:OK1 (yU [.lst l]) K=K (.val (.tup l)):=rfl
theorem mJ:OK1 (yU [.tup l]) K=K (.val (.tup l)):=rfl
theorem aP3:OK1 (eqD false (.int i) (.int j)) K=K (.val (.bl (decide (i=j)))):=by
 have h:qE (.int i) (.int j)=decide (i=j):=by
  show(i==j)=_;rw[a4f];simp
 show OK1 (if cB (.int i)=true/\cB (.int j)=true then some (Res.val (.bl (if false then !qE (.int i) (.int j)else qE (.int i) (.int j))))else none) K=_;rw[a2H ⟨rfl,rfl⟩,h];rfl
theorem uR{c:String}:OK1 (aW5 c (.int i)) K=K (.val (.bl (oK "int" c))):=rfl
theorem uT{c:String}{b:Bool}:OK1 (aW5 c (.bl b)) K=K (.val (.bl (oK "bool" c))):=rfl
theorem uU{k:Int}{K:D×D->Prop}:OK1 ((cL7 k e (.lst l)).map λb=>(b,D.non)) K=OK1 (ixN l.length k) λj=>K (.lst (l.set j e),.non):=by
 show OK1 (((ixN l.length k).map λj=>D.lst (l.set j e)).map λb=>(b,D.non)) K=_;rw[yZ,yZ]
theorem uV{K:D×D->Prop}:OK1 (bY8 (.lst l) [e]) K=(l.length < sizeLine/\K (.lst (l++[e]),.non)):=by
 show OK1 (if l.length < sizeLine then some (D.lst (l++[e]),D.non)else none) K=_;rw[aZ];rfl
theorem uW{bs:List Bool}:OK1 (cL5 [.lst (bs.map D.bl)]) K=K (.val (.bl (bs.all id))):=by
 show OK1 ((aO1 (bs.map D.bl)).map λbs=>Res.val (.bl (bs.all id))) K=_;rw[aW1];rfl
def SK(d:D)(lo hi:Option Int)(K:Res->Prop):Prop:=OK1 (slD d lo hi) K
theorem aP4{a:DE}{x y:DO}:RE (dSl a x y) σ Q=RE a σ λr c=>RO x c λlo e=>RO y e λhi b=>RD b r λd=>SK d lo hi λv=>Q v b:=by
 unfold RE RO RD SK dSl;simp only[aJ,bE]
theorem uX{K:Option Int->Sg->Prop}:RO bC2 σ K=K none σ:=rfl
theorem bZ1{a:DE}{K:Option Int->Sg->Prop}:RO (dP a) σ K=RE a σ λx b=>RD b x λd=>OK1 (match d with | .int k=>some k | _=>none) λk=>K (some k) b:=by
 unfold RO RE RD dP;simp only[aJ];congr 1;funext x;congr 1;funext d;cases d<;>rfl
theorem uY{lo hi:Option Int}:SK (.lst l) lo hi K=K (.own (.lst (bL7 l lo hi))):=rfl
theorem uZ{lo hi:Option Int}:SK (.tup l) lo hi K=K (.val (.tup (bL7 l lo hi))):=rfl
theorem vA{x:D}{K:D->Prop}:OK1 (atI (x::l) 0) K=K x:=by
 show OK1 ((ixN (x::l).length 0).bind λj=>(x::l)[j]?) K=_;unfold ixN;rw[a2H (Int.le_refl 0),a2H (by first | (simp;done) | (simp;lia))];rfl
theorem vB{x y:D}{K:D->Prop}:OK1 (atI (x::y::l) 1) K=K y:=by
 show OK1 ((ixN (x::y::l).length 1).bind λj=>(x::y::l)[j]?) K=_;unfold ixN;rw[a2H (by decide),a2H (by first | (simp;done) | (simp;lia))];rfl
theorem vC{x:D}{K:Nat->Prop}:OK1 (ixN (x::l).length 0) K=K 0:=by
 unfold ixN;rw[a2H (Int.le_refl 0),a2H (by first | (simp;done) | (simp;lia))];rfl
theorem vD{x y:D}{K:Nat->Prop}:OK1 (ixN (x::y::l).length 1) K=K 1:=by
 unfold ixN;rw[a2H (by decide),a2H (by first | (simp;done) | (simp;lia))];rfl
theorem vE{i j:Int}(a:-(2 ^ 64) < j)(b:j < 2 ^ 64):qD i j=True:=eq_true (.inl (.inr ⟨a,b⟩))
theorem vF{i j:Int}(a:-(2 ^ 64) < i)(b:i < 2 ^ 64):qD i j=True:=eq_true (.inl (.inl ⟨a,b⟩))
theorem vG{i:Int}{p:Prop}[Decidable p]:qD i (if p then 1 else 0)=True:=eq_true (.inl (.inr (by split<;>decide)))
theorem aE1{i j:Int}(a:0 < j)(b:j < 18446744073709551616):aO2 i j=True:=eq_true ⟨a,b⟩
theorem aP5{i j:Int}(a:0<=j)(b:j<=1000000)(c:-18446744073709551616 < i)(d:i < 18446744073709551616):bY2 i j=True:=eq_true ⟨a,b,by show i.natAbs < 18446744073709551616;lia⟩
theorem vH{σ:Sg}:lendO none σ=σ:=rfl
theorem aP6{σ:Sg}{o:Out}:aI7 none σ o=o:=by cases o<;>rfl
theorem vI{σ σ':Sg}:aR7 none σ σ'=σ':=rfl
theorem vJ:(tyD "list" (.lst l)=true)=True:=by simp[tyD]
end
noncomputable def zA:List D->Option (List Str)
 | []=>some []
 | .str s::r=>(zA r).bind λl=>some (s::l)
 | _::_=>none
theorem xB:∀ {l:List D} {a:List Str},zA l=some a->l=a.map D.str
 | [],_,h=>by cases h;rfl
 | .str s::r,_,h=>by
   obtain⟨l,b,c⟩:=aB h;cases c;rw[xB b];rfl
 | .non::_,_,h=>by cases h
 | .int _::_,_,h=>by cases h
 | .bl _::_,_,h=>by cases h
 | .tup _::_,_,h=>by cases h
 | .lst _::_,_,h=>by cases h
 | .dic _ _::_,_,h=>by cases h
def zB(zs:List Str):zA (zs.map D.str)=some zs:=by
 induction zs with
 | nil=>rfl
 | cons b r a=>show(zA (r.map D.str)).bind _=_;rw[a];rfl
noncomputable def aX2(sep:Str):F1:=λd=>match d with
 | .lst l=>(zA l).bind λys=>if(ys.map (·.length)).sum+ys.length*sep.length<=16777216 then some (.val (.str (Txt.join sep ys)))else none
 | _=>none
def bU6{X:Cx}{e:Expr}{sep:Str}{r:DE}(K:W.Frag)(h:∀ Γ,PE X e (tBM K "str" (bD8 K) (tC (.str sep)) (dTA Γ (aD r aX)))):GE X e (aU7 (aX2 sep) r):=.mk λΓ=>peW (h Γ) λσV H Q m=>by
 have n:cO9 (λx H Q=>bD8 K (.str sep) [x] H Q) (aX2 sep):=by
  intro H d x Q res o e k;unfold aX2 at e;split at e;obtain⟨ys,f,e⟩:=aB e;split at e;rename_i hs;cases e;obtain⟨p,xs,rfl,i,b⟩:=gQ o;rw[xB f]at b;rw[b.strs_inv]at i;exact⟨sep,p,ys,rfl,rfl,jF i,hs,k _ H (.refl _) (.str _)⟩;cases e;cases e
 obtain⟨σ,ok,res,σ',e,k⟩:=m;obtain⟨⟨x,g⟩,f,e⟩:=aB e;obtain⟨q,s,e⟩:=aB e;obtain⟨r,u,e⟩:=aB e;cases e;refine⟨rfl,σ,ok,[x],g,?_,λvs w a b c _=>?_⟩;show((_:Option _).bind _)=_;rw[f];rfl;cases b with
 | cons b t=>
   cases t;refine n w q _ Q _ (b.vw a s) u λv H' j l=>?_;exact k v H' (a.same j) (l.res a) (c.trans (.same j)) (l.frh.back c)
def bU7{sep:Str}{zs:List Str}{K:Res->Prop}:OK1 (aX2 sep (.lst (zs.map D.str))) K=((zs.map (·.length)).sum+zs.length*sep.length<=16777216/\K (.val (.str (Txt.join sep zs)))):=by
 show OK1 ((zA (zs.map D.str)).bind _) K=_;rw[zB];show OK1 (if _ then _ else none) K=_;rw[aZ];rfl
def bH0{X:Cx}(K:W.Frag)(a:X.K=K):MtR X "str.join" (bD8 K):=by rw[← a];exact bQ9
noncomputable def nv1(σ:Sg):Res->Option D
 | .own d=>some d
 | .slot i=>match σ[i]? with
   | some (some s)=>if s.m=.val then none else some s.d
   | _=>none
 | .val _=>none
noncomputable def nvs(σ:Sg):List Res->Option (List D)
 | []=>some []
 | r::rs=>(nv1 σ r).bind λd=>(nvs σ rs).bind λa=>some (d::a)
noncomputable def cW1:FN:=λa=>match a with
 | [.lst l]=>some (.own (.lst l.reverse))
 | _=>none
noncomputable def cS3(l m:List D):List D:=(l.zip m).map λp=>.tup [p.1,p.2]
noncomputable def cW2:FN:=λa=>match a with
 | [.lst l,.lst m]=>some (.val (.tup (cS3 l m)))
 | _=>none
section
variable{σ:Sg}{Q:Res->Sg->Prop}{ra:DA}
def NV(σ:Sg)(rs:List Res)(K:List D->Prop):Prop:=OK1 (nvs σ rs) K
def N1(σ:Sg)(r:Res)(K:D->Prop):Prop:=OK1 (nv1 σ r) K
theorem vK{K:List D->Prop}:NV σ [] K=K []:=rfl
theorem vL{d:D}{K:D->Prop}:N1 σ (.own d) K=K d:=rfl
def GN:Nat->Sg->(D->Prop)->Prop
 | 0,some ⟨m,d⟩::_,K=>if m=.val then False else K d
 | n+1,_::r,K=>GN n r K
 | _,_,_=>False
theorem vM{d:D}{r:Sg}{K:D->Prop}:GN 0 (some ⟨.own,d⟩::r) K=K d:=rfl
theorem vN{d:D}{r:Sg}{K:D->Prop}:GN 0 (some ⟨.par,d⟩::r) K=K d:=rfl
theorem vO{d:D}{r:Sg}{K:D->Prop}:GN 0 (some ⟨.lent,d⟩::r) K=K d:=rfl
theorem vP{n:Nat}{o:Option Sl}{r:Sg}{K:D->Prop}:GN (n+1) (o::r) K=GN n r K:=rfl
theorem vQ{l:List D}{K:Res->Prop}:OK1 (cW1 [.lst l]) K=K (.own (.lst l.reverse)):=rfl
theorem vR{l m:List D}{K:Res->Prop}:OK1 (cW2 [.lst l,.lst m]) K=K (.val (.tup (cS3 l m))):=rfl
end
end Dv
namespace PySem
section
variable{prog:Program}{w:World}{A:Around}{E:Value->Shared->Prop}{s:Shared}
end
end PySem
namespace L2
open PySem PyProof.Rows
section
variable{X:Cx}{pins:List (Addr×Obj)}{σ:St}{H:Hp}{s:Shared}{h':Heap}{ch:List Addr}
end
end L2
namespace PySem
open AutoSeq1 (wpAny_loadPart')
section
variable{prog:Program}{w:World}{A:Around}{E:Value->Shared->Prop}{s:Shared}
end
end PySem
namespace L2
open PySem PyProof.Rows
section
variable{X:Cx}
end
end L2
namespace Dv
open PySem L2 Mr
section
variable{P:Program}{w:World}{K:W.Frag}{mg:Str->Option Value}{base:Heap}
end
section
variable{K:W.Frag}{H:Hp}{C fI:Addr}{E:XK}
end
section
variable{K:W.Frag}{H:Hp}{C fI:Addr}{E:XK}
end
end Dv
namespace Dv
open PySem L2
noncomputable def cW3:D->Option (List D)
 | .lst l=>some l
 | .tup l=>some l
 | _=>none
end Dv
namespace Mr
open PySem L2
noncomputable def top(i:Nat):Stmt:=PySem.Challenge.pw_mostrows_k14_joined_and_thinned.main.body.getD i (.Pass ⟨0,0,0,0⟩)
noncomputable abbrev zC:Stmt:=top 9
noncomputable abbrev vS:Stmt:=top 10
noncomputable abbrev oZ:Stmt:=top 12
noncomputable abbrev pA:Stmt:=top 11
noncomputable abbrev vT:Stmt:=top 13
noncomputable abbrev pB:Stmt:=top 14
noncomputable abbrev aJ5:Stmt:=top 17
noncomputable abbrev nA:Stmt:=top 18
noncomputable abbrev pC:Stmt:=top 15
noncomputable abbrev jI:Stmt:=top 16
noncomputable abbrev gU:Stmt:=top 4
noncomputable abbrev aJ6:Stmt:=top 3
noncomputable abbrev pD:Stmt:=top 2
noncomputable abbrev zD:Stmt:=top 5
noncomputable abbrev vU:Stmt:=top 1
noncomputable abbrev aJ7:Stmt:=top 6
noncomputable abbrev vV:Stmt:=top 19
noncomputable abbrev nB:Stmt:=top 7
noncomputable abbrev pE:Stmt:=top 20
noncomputable abbrev cH6:Stmt:=top 21
structure Adr where
 a2j:Addr
 a1w:FuncData
 a1l:Addr
 a0w:FuncData
 a1H:Addr
 a0M:FuncData
 a1J:Addr
 a0K:FuncData
 a1T:Addr
 a1k:FuncData
 a1F:Addr
 a0P:FuncData
 a2l:Addr
 a1p:FuncData
 a1u:Addr
 a0H:FuncData
 a1K:Addr
 a0O:FuncData
 a0L:Addr
 a0A:FuncData
 a0l:Addr
 a0s:FuncData
 picked:Addr
 a0R:FuncData
 a0q:Addr
 a0x:FuncData
 grouped:Addr
 a0T:FuncData
 a0u:Addr
 a0X:FuncData
 joined:Addr
 a1r:FuncData
 a1V:Addr
 a0V:FuncData
 a0o:Addr
 a0z:FuncData
 a1I:Addr
 a0Q:FuncData
 law:Addr
 a2x:FuncData
structure Txt(K:W.Frag)(mg:Str->Option Value)(a:Adr):Prop where
 a1Z:mg "_law_box"=some (.ref a.a2j)
 a1q:Fun K "_law_box" "_law_box" zC a.a2j a.a1w
 a0n:mg "_law_take"=some (.ref a.a1l)
 a0m:Fun K "_law_take" "_law_take" vS a.a1l a.a0w
 a2o:mg "_law_names"=some (.ref a.a1H)
 a1B:Fun K "_law_names" "_law_names" oZ a.a1H a.a0M
 a2q:mg "_law_order"=some (.ref a.a1J)
 a1C:Fun K "_law_order" "_law_order" pA a.a1J a.a0K
 a2u:mg "_law_rows"=some (.ref a.a1T)
 a1M:Fun K "_law_rows" "_law_rows" vT a.a1T a.a1k
 a1Y:mg "_law_table"=some (.ref a.a1F)
 a0Z:Fun K "_law_table" "_law_table" pB a.a1F a.a0P
 a1L:mg "_law_at"=some (.ref a.a2l)
 a0W:Fun K "_law_at" "_law_at" aJ5 a.a2l a.a1p
 a2m:mg "_law_joined"=some (.ref a.a1u)
 a1s:Fun K "_law_joined" "_law_joined" nA a.a1u a.a0H
 a2p:mg "_law_whole"=some (.ref a.a1K)
 a1z:Fun K "_law_whole" "_law_whole" pC a.a1K a.a0O
 a1x:mg "_law_is_table"=some (.ref a.a0L)
 a0D:Fun K "_law_is_table" "_law_is_table" jI a.a0L a.a0A
 a1m:mg "common_columns"=some (.ref a.a0l)
 a0v:Fun K "common_columns" "common_columns" gU a.a0l a.a0s
 a1W:mg "picked"=some (.ref a.picked)
 a1t:Fun K "picked" "picked" aJ6 a.picked a.a0R
 a0Y:mg "places_of"=some (.ref a.a0q)
 a0B:Fun K "places_of" "places_of" pD a.a0q a.a0x
 a2k:mg "grouped"=some (.ref a.grouped)
 a1G:Fun K "grouped" "grouped" zD a.grouped a.a0T
 a2t:mg "table_of"=some (.ref a.a0u)
 a1Q:Fun K "table_of" "table_of" vU a.a0u a.a0X
 a2s:mg "joined"=some (.ref a.joined)
 a1U:Fun K "joined" "joined" aJ7 a.joined a.a1r
 a2v:mg "_law_thin"=some (.ref a.a1V)
 a1N:Fun K "_law_thin" "_law_thin" vV a.a1V a.a0V
 a1S:mg "thinned_by"=some (.ref a.a0o)
 a0N:Fun K "thinned_by" "thinned_by" nB a.a0o a.a0z
 a1E:mg "_law_right"=some (.ref a.a1I)
 a0I:Fun K "_law_right" "_law_right" pE a.a1I a.a0Q
 a2D:mg "law"=some (.ref a.law)
 a2B:Fun K "law" "law" cH6 a.law a.a2x
 a2E:mg "all"=none
 a2z:mg "bool"=none
 a2y:mg "int"=none
 a0F:mg "isinstance"=none
 a2n:mg "len"=none
 a2A:mg "list"=none
 a2r:mg "range"=none
 a2w:mg "set"=none
 a1X:mg "sorted"=none
 a0t:mg "tuple"=none
def bH1:bootBuiltins "all"=some (.builtin "all"):=by decide +kernel
def aX3:bootBuiltins "bool"=some (.type "bool"):=by decide +kernel
def xC:bootBuiltins "int"=some (.type "int"):=by decide +kernel
def cC:bootBuiltins "isinstance"=some (.builtin "isinstance"):=by decide +kernel
def fK:bootBuiltins "len"=some (.builtin "len"):=by decide +kernel
def aX4:bootBuiltins "list"=some (.type "list"):=by decide +kernel
def nR:bootBuiltins "set"=some (.type "set"):=by decide +kernel
def gK:bootBuiltins "sorted"=some (.builtin "sorted"):=by decide +kernel
def aU:bootBuiltins "tuple"=some (.type "tuple"):=by decide +kernel
def vW:FnScope ["_law_script","_law_k","_law_cell","_law_seed"] ["_law_script","_law_k"] (aM zC):=⟨rfl,rfl,rfl,by decide +kernel,rfl,by decide +kernel,by decide +kernel⟩
def pF:FnScope ["_law_box_here","_law_many","_law_digit","_law_one"] ["_law_box_here","_law_many"] (aM vS):=⟨rfl,rfl,rfl,by decide +kernel,rfl,by decide +kernel,by decide +kernel⟩
def nD:FnScope ["_law_box_here","_law_many","_law_letters","_law_stem","_law_at_here","_law_first","_law_form","_law_x","_law_y","_law_z","_law_some","_law_found","_law_k","_law_word","_law_own"] ["_law_box_here","_law_many"] (aM oZ):=⟨rfl,rfl,rfl,by decide +kernel,rfl,by decide +kernel,by decide +kernel⟩
def nE:FnScope ["_law_box_here","_law_things","_law_left","_law_found"] ["_law_box_here","_law_things"] (aM pA):=⟨rfl,rfl,rfl,by decide +kernel,rfl,by decide +kernel,by decide +kernel⟩
def pG:FnScope ["_law_box_here","_law_columns","_law_ceiling","_law_span","_law_many","_law_k","_law_column"] ["_law_box_here","_law_columns","_law_ceiling"] (aM vT):=⟨rfl,rfl,rfl,by decide +kernel,rfl,by decide +kernel,by decide +kernel⟩
def nF:FnScope ["_law_box_here","_law_names_here","_law_ceiling","_law_columns"] ["_law_box_here","_law_names_here","_law_ceiling"] (aM pB):=⟨rfl,rfl,rfl,by decide +kernel,rfl,by decide +kernel,by decide +kernel⟩
def zE:FnScope ["_law_columns","_law_row","_law_some","_law_column"] ["_law_columns","_law_row","_law_some"] (aM aJ5):=⟨rfl,rfl,rfl,by decide +kernel,rfl,by decide +kernel,by decide +kernel⟩
def jY:FnScope ["_law_one","_law_other","_law_both","_law_more","_law_rows_here","_law_row","_law_fellow","_law_column"] ["_law_one","_law_other"] (aM nA):=⟨rfl,rfl,rfl,by decide +kernel,rfl,by decide +kernel,by decide +kernel⟩
def nG:FnScope ["_law_found"] ["_law_found"] (aM pC):=⟨rfl,rfl,rfl,by decide +kernel,rfl,by decide +kernel,by decide +kernel⟩
def iI:FnScope ["_law_found","_law_columns","_law_rows_here","_law_row","_law_value"] ["_law_found","_law_columns","_law_rows_here"] (aM jI):=⟨rfl,rfl,rfl,by decide +kernel,rfl,by decide +kernel,by decide +kernel⟩
def fZ:FnScope ["one","other","column"] ["one","other"] (aM gU):=⟨rfl,rfl,rfl,by decide +kernel,rfl,by decide +kernel,by decide +kernel⟩
def zF:FnScope ["row","places","place"] ["row","places"] (aM aJ6):=⟨rfl,rfl,rfl,by decide +kernel,rfl,by decide +kernel,by decide +kernel⟩
def nH:FnScope ["columns","some","column"] ["columns","some"] (aM pD):=⟨rfl,rfl,rfl,by decide +kernel,rfl,by decide +kernel,by decide +kernel⟩
def vX:FnScope ["table","columns","others","places","other_places","groups","row"] ["table","columns","others"] (aM zD):=⟨rfl,rfl,rfl,by decide +kernel,rfl,by decide +kernel,by decide +kernel⟩
def pH:FnScope ["columns","rows"] ["columns","rows"] (aM vU):=⟨rfl,rfl,rfl,by decide +kernel,rfl,by decide +kernel,by decide +kernel⟩
def zG:FnScope ["one","other","common","added","ends","places","rows","row","column","end"] ["one","other"] (aM aJ7):=⟨rfl,rfl,rfl,by decide +kernel,rfl,by decide +kernel,by decide +kernel⟩
def pI:FnScope ["_law_one","_law_other","_law_both","_law_some","_law_column","_law_row"] ["_law_one","_law_other"] (aM vV):=⟨rfl,rfl,rfl,by decide +kernel,rfl,by decide +kernel,by decide +kernel⟩
def jZ:FnScope ["one","other","common","there","places","row"] ["one","other"] (aM nB):=⟨rfl,rfl,rfl,by decide +kernel,rfl,by decide +kernel,by decide +kernel⟩
def nJ:FnScope ["_law_one","_law_other","_law_due"] ["_law_one","_law_other"] (aM pE):=⟨rfl,rfl,rfl,by decide +kernel,rfl,by decide +kernel,by decide +kernel⟩
def bL9:FnScope ["_law_script","_law_box_here","_law_names_here","_law_one","_law_other"] ["_law_script"] (aM cH6):=⟨rfl,rfl,rfl,by decide +kernel,rfl,by decide +kernel,by decide +kernel⟩
section
variable{P:Program}{w:World}{K:W.Frag}{mg:Str->Option Value}{base:Heap}{a:Adr}
def pJ(T:Txt K mg a):eP K a.a1w ["_law_script","_law_k"] []:=T.a1q.binds (ps:=["_law_script","_law_k"]) λ_ _ _ _ _ _ us b=>match us,b with | [_,_],_=>rfl
def aY(T:Txt K mg a):eP K a.a0w ["_law_box_here","_law_many"] []:=T.a0m.binds (ps:=["_law_box_here","_law_many"]) λ_ _ _ _ _ _ us b=>match us,b with | [_,_],_=>rfl
def aE2(T:Txt K mg a):eP K a.a0M ["_law_box_here","_law_many"] []:=T.a1B.binds (ps:=["_law_box_here","_law_many"]) λ_ _ _ _ _ _ us b=>match us,b with | [_,_],_=>rfl
def aE3(T:Txt K mg a):eP K a.a0K ["_law_box_here","_law_things"] []:=T.a1C.binds (ps:=["_law_box_here","_law_things"]) λ_ _ _ _ _ _ us b=>match us,b with | [_,_],_=>rfl
def aP7(T:Txt K mg a):eP K a.a1k ["_law_box_here","_law_columns","_law_ceiling"] []:=T.a1M.binds (ps:=["_law_box_here","_law_columns","_law_ceiling"]) λ_ _ _ _ _ _ us b=>match us,b with | [_,_,_],_=>rfl
def pK(T:Txt K mg a):eP K a.a0P ["_law_box_here","_law_names_here","_law_ceiling"] []:=T.a0Z.binds (ps:=["_law_box_here","_law_names_here","_law_ceiling"]) λ_ _ _ _ _ _ us b=>match us,b with | [_,_,_],_=>rfl
def kA(T:Txt K mg a):eP K a.a1p ["_law_columns","_law_row","_law_some"] []:=T.a0W.binds (ps:=["_law_columns","_law_row","_law_some"]) λ_ _ _ _ _ _ us b=>match us,b with | [_,_,_],_=>rfl
def zH(T:Txt K mg a):eP K a.a0H ["_law_one","_law_other"] []:=T.a1s.binds (ps:=["_law_one","_law_other"]) λ_ _ _ _ _ _ us b=>match us,b with | [_,_],_=>rfl
def aE4(T:Txt K mg a):eP K a.a0O ["_law_found"] []:=T.a1z.binds (ps:=["_law_found"]) λ_ _ _ _ _ _ us b=>match us,b with | [_],_=>rfl
def jJ(T:Txt K mg a):eP K a.a0A ["_law_found","_law_columns","_law_rows_here"] []:=T.a0D.binds (ps:=["_law_found","_law_columns","_law_rows_here"]) λ_ _ _ _ _ _ us b=>match us,b with | [_,_,_],_=>rfl
def gW(T:Txt K mg a):eP K a.a0s ["one","other"] []:=T.a0v.binds (ps:=["one","other"]) λ_ _ _ _ _ _ us b=>match us,b with | [_,_],_=>rfl
def nT(T:Txt K mg a):eP K a.a0R ["row","places"] []:=T.a1t.binds (ps:=["row","places"]) λ_ _ _ _ _ _ us b=>match us,b with | [_,_],_=>rfl
def gM(T:Txt K mg a):eP K a.a0x ["columns","some"] []:=T.a0B.binds (ps:=["columns","some"]) λ_ _ _ _ _ _ us b=>match us,b with | [_,_],_=>rfl
def zI(T:Txt K mg a):eP K a.a0T ["table","columns","others"] []:=T.a1G.binds (ps:=["table","columns","others"]) λ_ _ _ _ _ _ us b=>match us,b with | [_,_,_],_=>rfl
def aP8(T:Txt K mg a):eP K a.a0X ["columns","rows"] []:=T.a1Q.binds (ps:=["columns","rows"]) λ_ _ _ _ _ _ us b=>match us,b with | [_,_],_=>rfl
def aJ8(T:Txt K mg a):eP K a.a1r ["one","other"] []:=T.a1U.binds (ps:=["one","other"]) λ_ _ _ _ _ _ us b=>match us,b with | [_,_],_=>rfl
def aP9(T:Txt K mg a):eP K a.a0V ["_law_one","_law_other"] []:=T.a1N.binds (ps:=["_law_one","_law_other"]) λ_ _ _ _ _ _ us b=>match us,b with | [_,_],_=>rfl
def nK(T:Txt K mg a):eP K a.a0z ["one","other"] []:=T.a0N.binds (ps:=["one","other"]) λ_ _ _ _ _ _ us b=>match us,b with | [_,_],_=>rfl
def jL(T:Txt K mg a):eP K a.a0Q ["_law_one","_law_other"] []:=T.a0I.binds (ps:=["_law_one","_law_other"]) λ_ _ _ _ _ _ us b=>match us,b with | [_,_],_=>rfl
end
end Mr
namespace So
open PySem PySem.W PyProof.Rows
structure Cm(M:Model)(A:Around)(s:Shared)(κ:SortKind)(G:Keyed->Prop)(c:Keyed->Keyed->Bool):Prop where
 lt:∀ {x y:Keyed} {E:Value->Shared->Prop} {Q:Bool->Shared->Prop},G x->G y->Q (c x y) s->wpAny M A (keyLt' κ x.1 y.1) Q E s
 ir:∀ x,c x x=false
 tr:∀ {x y z},c x y=true->c y z=true->c x z=true
section
variable{M:Model}{A:Around}{E:Value->Shared->Prop}{s:Shared}{κ:SortKind}{G:Keyed->Prop}{c:Keyed->Keyed->Bool}
def aX5(C:Cm M A s κ G c){x y:Keyed}{st:SortSt}{Q:Option Bool->SortSt->Prop}(a:kindOf st=κ)(b:G x)(d:G y)(q:Q (some (c x y)) st):wpS M A E s (lt' x y) Q st:=by
 rw[lt'_eq];refine wpS_bind (wpS_get (wpS_bind (wpS_lift (wpAny_attempt ?_))));rw[a];exact C.lt b d ⟨rfl,wpS_pure q⟩
def bL{a:Array Keyed}{i:Nat}{x:Keyed}{st:SortSt}{Q:Keyed->SortSt->Prop}(h:a[i]? = some x)(q:Q x st):wpS M A E s (elem' a i) Q st:=by
 rw[elem'_eq,h];exact wpS_pure q
def mK(C:Cm M A s κ G c){i j:Nat}{x y:Keyed}{st:SortSt}{Q:Option Bool->SortSt->Prop}(a:kindOf st=κ)(hi:(arrOf st)[i]? = some x)(hj:(arrOf st)[j]? = some y)(b:G x)(d:G y)(q:Q (some (c x y)) st):wpS M A E s (ltAt' i j) Q st:=by
 rw[ltAt'_eq];refine wpS_bind (wpS_get ?_);exact wpS_bind (bL hi (wpS_bind (bL hj (aX5 C a b d q))))
noncomputable def aE5:Bool->Keyed->Array Keyed->Nat->Nat->Nat->StateT SortSt Sem (Option Nat):=sortPriv% PySem.Builtin.gallop
def aX6(C:Cm M A s κ G c){left:Bool}{m:Keyed}{y:Array Keyed}{base n hint:Nat}{st:SortSt}{Q:Option Nat->SortSt->Prop}(D:kindOf st=κ)(be:Nat->Bool)
  (hb:∀ i,i < n->∃ x,y[base+i]? = some x/\G x/\be i=if left then c x m else !c m x) (F:G m) (hm:∀ i j,i<=j->j < n->be j=true->be i=true) (H:hint < n)
  (q:∀ k,k<=n->(∀ i,i < k->be i=true)->(∀ i,k<=i->i < n->be i=false)->Q (some k) st):wpS M A E s (aE5 left m y base n hint) Q st:=by
 have p:∀ i j,i<=j->j < n->be i=false->be j=false:=λi j d h b=>by
  cases e:be j with
  | false=>rfl
  | true=>rw[hm i j d h e]at b;cases b
 have t:∀ (i:Nat) (Q:Option Bool->SortSt->Prop),i < n->Q (some (be i)) st->wpS M A E s (do let x ← elem' y (base+i);if left then lt' x m else return (← lt' m x).map (!·)) Q st:=λi Q hi q=>by
  obtain⟨x,e,g,B⟩:=hb i hi;refine wpS_bind (bL e ?_);cases left with
  | true=>exact aX5 C D g F (by simp only[if_true]at B;rw[← B];exact q)
  | false=>exact wpS_bind (aX5 C D F g (wpS_pure (by simp at B;rw[B]at q;exact q)))
 refine wpS_bind (t hint _ H ?_);dsimp only;cases I:be hint with
 | true=>
   rw[a2H rfl];refine wpS_bind (wpS_mono (wpS_forRange (λi (r:Option (Option Nat)×Nat×Nat) st'=>st=st'/\r.1=none/\r.2.1 < r.2.2/\i<=r.2.1/\hint+r.2.1 < n/\be (hint+r.2.1)=true)
    (Q:=λr st'=>st=st'/\r.1=none/\(∀ i,i < hint+r.2.1+1->be i=true)/\(∀ i,hint+min r.2.2 (n-hint)<=i->i < n->be i=false)/\hint+r.2.1+1<=hint+min r.2.2 (n-hint)/\hint+min r.2.2 (n-hint)<=n) ?_ ?_ ⟨rfl,rfl,Nat.zero_lt_one,a8a _,H,I⟩) ?_)
   ·rintro i ⟨o,l,f⟩ st'-hi ⟨rfl,rfl,d,h,b,a⟩;dsimp only at d h b a ⊢;split;refine wpS_pure ⟨rfl,rfl,?_⟩;dsimp only;exact⟨λi hi=>hm i _ (by lia) b a,λi u w=>by lia,by lia,by lia⟩;refine wpS_bind (t (hint+f) _ (by lia) ?_);dsimp only;cases v:be (hint+f)<;>refine wpS_pure ⟨rfl,rfl,?_⟩<;>dsimp only;exact⟨λi hi=>hm i _ (by lia) b a,λi u w=>p (hint+f) i (by lia) w v,by lia,by lia⟩;exact⟨by lia,by lia,by lia,v⟩
   ·rintro⟨o,l,f⟩ st' ⟨rfl,rfl,d,h,b,a⟩;dsimp only at d h b a;lia
   rintro⟨o,l,f⟩ st' ⟨rfl,rfl,d,h,b,a⟩;dsimp only at d h b a ⊢;generalize hint+l+1=lo at d b ⊢;generalize hint+min f (n-hint)=hi at h b a ⊢;refine wpS_bind (wpS_mono (wpS_forRange (λi (r:Option (Option Nat)×Nat×Nat) st'=>st=st'/\r.1=none/\(∀ i,i < r.2.1->be i=true)/\(∀ i,r.2.2<=i->i < n->be i=false)/\r.2.1<=r.2.2/\r.2.2<=n/\r.2.2+i<=n+r.2.1)
    (Q:=λr st'=>st=st'/\r.1=none/\(∀ i,i < r.2.1->be i=true)/\(∀ i,r.2.2<=i->i < n->be i=false)/\r.2.1=r.2.2/\r.2.2<=n) ?_ ?_ ⟨rfl,rfl,d,h,b,a,by dsimp only;lia⟩) ?_)
   ·rintro i ⟨o,l,f⟩ st'-hi ⟨rfl,rfl,d,h,b,a,z⟩;dsimp only at d h b a z ⊢;split;exact wpS_pure ⟨rfl,rfl,d,h,by dsimp only;lia,a⟩;refine wpS_bind (t _ _ (by lia) ?_);dsimp only;cases v:be (l+(f-l) / 2)<;>refine wpS_pure ⟨rfl,rfl,?_⟩<;>dsimp only;exact⟨d,λi u w=>p _ i u w v,by lia,by lia,by lia⟩;exact⟨λi u=>hm i _ (by lia) (by lia) v,h,by lia,a,by lia⟩
   ·rintro⟨o,l,f⟩ st' ⟨rfl,rfl,d,h,b,a,z⟩;exact⟨rfl,rfl,d,h,by dsimp only at b a z ⊢;lia,a⟩
   rintro⟨o,l,f⟩ st' ⟨rfl,rfl,d,h,b,a⟩;dsimp only at d h b a ⊢;subst b;exact wpS_pure (q _ a d h)
 | false=>
   rw[a2I (by decide)];refine wpS_bind (wpS_mono (wpS_forRange (λi (r:Option (Option Nat)×Nat×Nat) st'=>st=st'/\r.1=none/\r.2.1 < r.2.2/\i<=r.2.1/\r.2.1<=hint/\be (hint-r.2.1)=false)
    (Q:=λr st'=>st=st'/\r.1=none/\(∀ i,i < hint+1-min r.2.2 (hint+1)->be i=true)/\(∀ i,hint-r.2.1<=i->i < n->be i=false)/\hint+1-min r.2.2 (hint+1)<=hint-r.2.1/\hint-r.2.1<=n) ?_ ?_ ⟨rfl,rfl,Nat.zero_lt_one,a8a _,a1d _,I⟩) ?_)
   ·rintro i ⟨o,l,f⟩ st'-hi ⟨rfl,rfl,d,h,b,a⟩;dsimp only at d h b a ⊢;split;refine wpS_pure ⟨rfl,rfl,?_⟩;dsimp only;exact⟨λi hi=>by lia,λi u w=>p _ i u w a,by lia,by lia⟩;refine wpS_bind (t (hint-f) _ (by lia) ?_);dsimp only;cases v:be (hint-f)<;>refine wpS_pure ⟨rfl,rfl,?_⟩<;>dsimp only;exact⟨by lia,by lia,by lia,v⟩;exact⟨λi hi=>hm i (hint-f) (by lia) (by lia) v,λi u w=>p _ i u w a,by lia,by lia⟩
   ·rintro⟨o,l,f⟩ st' ⟨rfl,rfl,d,h,b,a⟩;dsimp only at d h b a;lia
   rintro⟨o,l,f⟩ st' ⟨rfl,rfl,d,h,b,a⟩;dsimp only at d h b a ⊢;generalize hint+1-min f (hint+1)=lo at d b ⊢;generalize hint-l=hi at h b a ⊢;refine wpS_bind (wpS_mono (wpS_forRange (λi (r:Option (Option Nat)×Nat×Nat) st'=>st=st'/\r.1=none/\(∀ i,i < r.2.1->be i=true)/\(∀ i,r.2.2<=i->i < n->be i=false)/\r.2.1<=r.2.2/\r.2.2<=n/\r.2.2+i<=n+r.2.1)
    (Q:=λr st'=>st=st'/\r.1=none/\(∀ i,i < r.2.1->be i=true)/\(∀ i,r.2.2<=i->i < n->be i=false)/\r.2.1=r.2.2/\r.2.2<=n) ?_ ?_ ⟨rfl,rfl,d,h,b,a,by dsimp only;lia⟩) ?_)
   ·rintro i ⟨o,l,f⟩ st'-hi ⟨rfl,rfl,d,h,b,a,z⟩;dsimp only at d h b a z ⊢;split;exact wpS_pure ⟨rfl,rfl,d,h,by dsimp only;lia,a⟩;refine wpS_bind (t _ _ (by lia) ?_);dsimp only;cases v:be (l+(f-l) / 2)<;>refine wpS_pure ⟨rfl,rfl,?_⟩<;>dsimp only;exact⟨d,λi u w=>p _ i u w v,by lia,by lia,by lia⟩;exact⟨λi u=>hm i _ (by lia) (by lia) v,h,by lia,a,by lia⟩
   ·rintro⟨o,l,f⟩ st' ⟨rfl,rfl,d,h,b,a,z⟩;exact⟨rfl,rfl,d,h,by dsimp only at b a z ⊢;lia,a⟩
   rintro⟨o,l,f⟩ st' ⟨rfl,rfl,d,h,b,a⟩;dsimp only at d h b a ⊢;subst b;exact wpS_pure (q _ a d h)
end
abbrev Srt(c:Keyed->Keyed->Bool)(l:List Keyed):Prop:=l.Pairwise λx y=>c x y=true
structure Mg(c:Keyed->Keyed->Bool)(la lb out:List Keyed)(i j:Nat):Prop where
 pm:out.Perm (la.take i++lb.take j)
 so:Srt c out
 le:∀ o∈out,∀ x∈la.drop i++lb.drop j,c o x=true
 hi:i<=la.length
 hj:j<=lb.length
def Rs(c:Keyed->Keyed->Bool)(la lb l:List Keyed):Prop:=l.Perm (la++lb)/\Srt c l
section
variable{c:Keyed->Keyed->Bool}{la lb out:List Keyed}{i j:Nat}
def Mg.len(m:Mg c la lb out i j):out.length=i+j:=by
 have:=m.pm.length_eq;have:=m.hi;have:=m.hj;simp at *;lia
theorem Mg.symm(m:Mg c la lb out i j):Mg c lb la out j i:=
 ⟨m.pm.trans List.perm_append_comm,m.so,λo b x a=>m.le o b x (by simp at a ⊢;exact a.symm),m.hj,m.hi⟩
def Mg.left(m:Mg c la lb out i j)(sa:Srt c la){k:Nat}(d:i+k<=la.length)(h:∀ x∈(la.drop i).take k,∀ y∈lb.drop j,c x y=true):Mg c la lb (out++(la.drop i).take k) (i+k) j:=by
 have s1:Srt c ((la.drop i).take k++(la.drop i).drop k):=by rw[List.take_append_drop];exact sa.sublist (List.drop_sublist _ _)
 obtain⟨s2,f,e⟩:=List.pairwise_append.mp s1;refine⟨?_,List.pairwise_append.mpr ⟨m.so,s2,λo a x b=>m.le o a x (a3c.mpr (.inl (a8f b)))⟩,λo a x b=>?_,d,m.hj⟩;rw[List.take_add];refine(m.pm.append_right _).trans ?_;rw[List.append_assoc,List.append_assoc];exact List.Perm.append_left _ List.perm_append_comm;rw[a3c]at b a;rcases a with a | a;refine m.le o a x (a3c.mpr (b.imp (λz=>?_) id));rw[← List.drop_drop]at z;exact List.mem_of_mem_drop z;rcases b with b | b;exact e o a x (by rw[List.drop_drop];exact b);exact h o a x b
def Mg.right(m:Mg c la lb out i j)(sb:Srt c lb){k:Nat}(a:j+k<=lb.length)(h:∀ x∈(lb.drop j).take k,∀ y∈la.drop i,c x y=true):Mg c la lb (out++(lb.drop j).take k) i (j+k):=(m.symm.left sb a h).symm
def Mg.done(m:Mg c la lb out i j)(sa:Srt c la)(sb:Srt c lb)(h:i=la.length\/j=lb.length):Rs c la lb (out++la.drop i++lb.drop j):=by
 rcases h with rfl | rfl;have:=m.right sb (k:=lb.length-j) (by have:=m.hj;lia) (λx _ y a=>by simp at a);have e:(lb.drop j).take (lb.length-j)=lb.drop j:=a8c (by simp);rw[e]at this;refine⟨?_,?_⟩;have p:=this.pm;rw[a8c (l:=lb) (by lia),List.take_length]at p;simpa using p;simpa using this.so;have:=m.left sa (k:=la.length-i) (by have:=m.hi;lia) (λx _ y a=>by simp at a);have e:(la.drop i).take (la.length-i)=la.drop i:=a8c (by simp);rw[e]at this;refine⟨?_,?_⟩;have p:=this.pm;rw[a8c (l:=la) (by lia),List.take_length]at p;simpa using p;simpa using this.so
def Mg.last(m:Mg c la lb out i j)(sa:Srt c la)(sb:Srt c lb)(h:i+1=la.length)(d:∀ x∈la.drop i,∀ y∈lb,c y x=true):Rs c la lb (out++lb.drop j++la.drop i):=by
 have a:=m.right sb (k:=lb.length-j) (by have:=m.hj;lia) (λx f y g=>d y g x (List.mem_of_mem_drop (a8f f)));have e:(lb.drop j).take (lb.length-j)=lb.drop j:=a8c (by simp);rw[e]at a;have b:j+(lb.length-j)=lb.length:=by have:=m.hj;lia
 have:=a.done sa sb (.inr b);rw[b,List.drop_length,a2f]at this;exact this
def iJ{l:List Keyed}{i:Nat}{x:Keyed}(h:l[i]? = some x):l.drop i=x::l.drop (i+1):=by
 obtain⟨a,rfl⟩:=a0a.mp h;exact List.drop_eq_getElem_cons a
def kB{l:List Keyed}{i:Nat}{x:Keyed}(h:l[i]? = some x)(s:Srt c l):∀ y∈l.drop i,y=x\/c x y=true:=by
 have:=s.sublist (List.drop_sublist i l);rw[iJ h]at this ⊢;exact λy a=>(a7b.mp a).imp id λz=>(a0f.mp this).1 y z
end
section
variable{M:Model}{A:Around}{E:Value->Shared->Prop}{s:Shared}{κ:SortKind}{G:Keyed->Prop}{c:Keyed->Keyed->Bool}
noncomputable def bH2:Array Keyed->Array Keyed->StateT SortSt Sem (Array Keyed):=sortPriv% PySem.Builtin.mergeLo
noncomputable def bU8:Nat->StateT SortSt Sem Unit:=sortPriv% PySem.Builtin.setMinGallop
structure Like(st st':SortSt):Prop where
 k:kindOf st'=kindOf st
 a:arrOf st'=arrOf st
 p:pendingOf st'=pendingOf st
 f:failedOf st'=failedOf st
def Like.rfl'{st:SortSt}:Like st st:=⟨rfl,rfl,rfl,rfl⟩
theorem Like.trans{a b d:SortSt}(x:Like a b)(y:Like b d):Like a d:=⟨y.k.trans x.k,y.a.trans x.a,y.p.trans x.p,y.f.trans x.f⟩
def kD{g:Nat}{st:SortSt}{Q:Unit->SortSt->Prop}(q:∀ st',Like st st'->Q () st'):wpS M A E s (bU8 g) Q st:=wpS_modify (q _ ⟨rfl,rfl,rfl,rfl⟩)
theorem Cm.as(C:Cm M A s κ G c){x y:Keyed}(h:c x y=true):c y x=false:=by
 cases e:c y x with
 | false=>rfl
 | true=>have:=C.tr h e;rw[C.ir]at this;cases this
def qF{a:Array Keyed}{i:Nat}(h:i < a.size):∃ x,a[i]? = some x/\a.toList[i]? = some x/\x∈a.toList:=⟨a[i],by simp[h],by simp[h],by simp⟩
def kH{l:List Keyed}{i k:Nat}{x:Keyed}(h:x∈(l.drop i).take k):∃ j,j < k/\l[i+j]? = some x:=by
 obtain⟨j,hj⟩:=List.getElem?_of_mem h;rw[List.getElem?_take]at hj;split at hj;rename_i a;rw[List.getElem?_drop]at hj;exact⟨j,a,hj⟩;cases hj
def xD{l:List Keyed}{i:Nat}{x:Keyed}(h:x∈l.drop i):∃ j,i<=j/\j < l.length/\l[j]? = some x:=by
 obtain⟨j,hj⟩:=List.getElem?_of_mem h;rw[List.getElem?_drop]at hj;exact⟨i+j,by lia,(a0a.mp hj).1,hj⟩
def aE6(C:Cm M A s κ G c){left:Bool}{key:Keyed}{a:Array Keyed}{b n hint:Nat}{L:List Keyed}{st:SortSt}{Q:Option Nat->SortSt->Prop}(w:kindOf st=κ)(z:(a.toList.drop b).take n=L)(hn:L.length=n)(B:∀ x∈L,G x)(D:G key)(F:Srt c L)
  (hd:∀ x∈L,c x key=true\/c key x=true) (H:hint < n) (q:∀ k,k<=n->(∀ x∈L.take k,c x key=true)->(∀ x∈L.drop k,c key x=true)->Q (some k) st):wpS M A E s (aE5 left key a b n hint) Q st:=by
 have I:∀ x∈L,(if left=true then c x key else !c key x)=c x key:=λx d=>by
  cases left with
  | true=>rfl
  | false=>rcases hd x d with e | e<;>simp[e,C.as e]
 have f:∀ i,i < n->∃ x,a[b+i]? = some x/\L[i]? = some x/\x∈L:=λi hi=>by
  obtain⟨x,d⟩:∃ x,L[i]? = some x:=⟨L[i],by simp[hn,hi]⟩;refine⟨x,?_,d,a2c d⟩;rw[← z,List.getElem?_take,a2H hi,List.getElem?_drop]at d;simpa using d
 refine aX6 C w (λi=>match L[i]? with | some x=>c x key | none=>false) (λi hi=>?_) D (λi j m o g=>?_) H λk m o g=>q k m (λx d=>?_) λx d=>?_
 ·obtain⟨x,u,h,p⟩:=f i hi;exact⟨x,u,B x p,by simp only[h];exact(I x p).symm⟩
 ·obtain⟨x,u,h,p⟩:=f i (by lia);obtain⟨y,P,l,R⟩:=f j o;simp only[h,l]at g ⊢;rcases Nat.eq_or_lt_of_le m with e | e;subst e;rw[h]at l;cases l;exact g;obtain⟨J,K⟩:=a0a.mp h;obtain⟨N,O⟩:=a0a.mp l;have:=List.pairwise_iff_getElem.mp F i j J N e;rw[K,O]at this;exact C.tr this g
 ·obtain⟨j,r,t⟩:=kH (i:=0) (by rw[List.drop_zero];exact d);rw[a9e]at t;have:=o j r;simp only[t]at this;exact this
 ·obtain⟨j,r,t,v⟩:=xD d;have:=g j r (by lia);simp only[v]at this;rcases hd x (a2c v)with e | e;rw[e]at this;cases this;exact e
def aJ9(C:Cm M A s κ G c){left:Bool}{d:Keyed}{a:Array Keyed}{b n hint:Nat}{st:SortSt}{Q:Option Nat->SortSt->Prop}(j:kindOf st=κ)(l:∀ x∈a.toList,G x)(m:G d)(sa:Srt c a.toList)
  (hd:∀ x∈a.toList,c x d=true\/c d x=true) (hb:b+n<=a.size) (o:hint < n)
  (q:∀ k,k<=n->(∀ i x,i < k->a.toList[b+i]? = some x->c x d=true)->(∀ i x,k<=i->i < n->a.toList[b+i]? = some x->c d x=true)->Q (some k) st):wpS M A E s (aE5 left d a b n hint) Q st:=by
 have g:∀ x∈(a.toList.drop b).take n,x∈a.toList:=λx f=>List.mem_of_mem_drop (a8f f);have gt:∀ i x,i < n->a.toList[b+i]? = some x->((a.toList.drop b).take n)[i]? = some x:=λi x h e=>by rw[List.getElem?_take,a2H h,List.getElem?_drop];exact e
 refine aE6 C j rfl (by simp;lia) (λx f=>l x (g x f)) m (sa.sublist ((List.take_sublist _ _).trans (List.drop_sublist _ _))) (λx f=>hd x (g x f)) o λk p r t=>q k p (λi x hi f=>r x ?_) λi x hi u f=>t x ?_;have:=gt i x (by lia) f;exact a2c (i:=i) (by rw[List.getElem?_take,a2H hi];exact this);have:=gt i x u f;exact a2c (i:=i-k) (by rw[List.getElem?_drop,show k+(i-k)=i by lia];exact this)
def iV{l:List Keyed}{i:Nat}{x:Keyed}(h:l[i]? = some x):(l.drop i).take 1=[x]:=by rw[iJ h];rfl
theorem dL{a:Array Keyed}{i j:Nat}:(a.extract i j).toList=(a.toList.drop i).take (j-i):=by simp[Array.toList_extract,List.extract]
def xE{a:Array Keyed}{i:Nat}:(a.extract i a.size).toList=a.toList.drop i:=by
 rw[dL];exact a8c (by simp)
def pL{a:Type}{p:Prop}[Decidable p]{m m':StateT SortSt Sem a}{Q:a->SortSt->Prop}{st:SortSt}(h:wpS M A E s m Q st)(h':wpS M A E s m' Q st):wpS M A E s (if p then m else m') Q st:=by
 by_cases e:p;rw[a2H e];exact h;rw[a2I e];exact h'
def aQ0(C:Cm M A s κ G c){a b:Array Keyed}{st:SortSt}{Q:Array Keyed->SortSt->Prop}(hk:kindOf st=κ)(ga:∀ x∈a.toList,G x)(gb:∀ x∈b.toList,G x)(sa:Srt c a.toList)(sb:Srt c b.toList)
  (hd:∀ x∈a.toList,∀ y∈b.toList,c x y=true\/c y x=true) (h1:1<=a.size) (h2:1<=b.size) (hf:∀ y∈b.toList.take 1,∀ x∈a.toList,c y x=true) (hl:∀ x∈a.toList.drop (a.size-1),∀ y∈b.toList,c y x=true)
  (q:∀ r st',Like st st'->Rs c a.toList b.toList r.toList->Q r st'):wpS M A E s (bH2 a b) Q st:=by
 have la:a.toList.length=a.size:=rfl;have lb:b.toList.length=b.size:=rfl;refine wpS_bind (wpS_lift (a2U ⟨rfl,?_⟩));obtain⟨b0,hb0,hb1,hb2⟩:=qF (a:=b) (i:=0) h2;refine wpS_bind (bL hb0 ?_);dsimp only;have t1:b.toList.take 1=[b0]:=by have:=iV hb1;rwa[List.drop_zero]at this
 have m0:Mg c a.toList b.toList [b0] 0 1:=by
  have:=(Mg.mk (c:=c) (la:=a.toList) (lb:=b.toList) (out:=[]) (i:=0) (j:=0) (by simp) .nil (λ_ h=>by simp at h) (Nat.zero_le _) (Nat.zero_le _)).right sb (k:=1) (by lia) (by rw[List.drop_zero,List.drop_zero];exact hf);rwa[List.drop_zero,t1]at this
 have dn:∀ {o:Array Keyed} {i j:Nat},Mg c a.toList b.toList o.toList i j->(i=a.size\/j=b.size)->Rs c a.toList b.toList (o++a.extract i a.size++b.extract j b.size).toList:=λ{o i j} m h=>by
  rw[Array.toList_append,Array.toList_append,xE,xE];exact m.done sa sb h
 have ls:∀ {o:Array Keyed} {i j:Nat},Mg c a.toList b.toList o.toList i j->i+1=a.size->Rs c a.toList b.toList (o++b.extract j b.size++a.extract i a.size).toList:=λ{o i j} m h=>by
  rw[Array.toList_append,Array.toList_append,xE,xE];exact m.last sa sb h (by rw[show i=a.size-1 by lia];exact hl)
 have pa:∀ {o:Array Keyed} {i j:Nat} {x:Keyed},Mg c a.toList b.toList o.toList i j->a.toList[i]? = some x->(∀ y∈b.toList.drop j,c x y=true)->Mg c a.toList b.toList (o.push x).toList (i+1) j:=λ{o i j x} m J h=>by
  have:=m.left sa (k:=1) (a0a.mp J).1 (by rw[iV J];intro z D;cases a8b.mp D;exact h);rwa[iV J,← a6g]at this
 have pb:∀ {o:Array Keyed} {i j:Nat} {x:Keyed},Mg c a.toList b.toList o.toList i j->b.toList[j]? = some x->(∀ y∈a.toList.drop i,c x y=true)->Mg c a.toList b.toList (o.push x).toList i (j+1):=λ{o i j x} m J h=>by
  have:=m.right sb (k:=1) (a0a.mp J).1 (by rw[iV J];intro z D;cases a8b.mp D;exact h);rwa[iV J,← a6g]at this
 by_cases n1:1=b.size;rw[a2H (by rw[← n1];rfl)];exact wpS_pure (q _ _ .rfl' (dn m0 (.inr n1)))
 rw[a2I (by rw[a2J];exact n1)];by_cases n2:0+1=a.size;rw[a2H (by rw[← n2];rfl)];exact wpS_pure (q _ _ .rfl' (ls m0 n2))
 rw[a2I (by rw[a2J];exact n2)];refine wpS_bind (wpS_get ?_);refine wpS_bind (wpS_mono (wpS_forRange (λi (r:Option (Array Keyed)×Array Keyed×Nat×Nat×Nat) st'=>Like st st'/\r.1=none/\Mg c a.toList b.toList r.2.1.toList r.2.2.1 r.2.2.2.1/\r.2.2.1+1 < a.size/\r.2.2.2.1 < b.size/\i+1<=r.2.1.size)
  (Q:=λr st'=>Like st st'/\∃ o,r.1=some o/\Rs c a.toList b.toList o.toList) ?_ ?_ ⟨.rfl',rfl,m0,by dsimp only;lia,by dsimp only;lia,a8a _⟩) ?_)
 ·rintro n ⟨o,out,l,f,m⟩ st1-hn ⟨l1,rfl,mg,p,g,t⟩;dsimp only at mg p g t ⊢;refine wpS_bind (wpS_mono (wpS_forRange (λi (r:Option (Array Keyed)×Array Keyed×Nat×Nat×Nat×Nat) st'=>Like st st'/\r.1=none/\Mg c a.toList b.toList r.2.1.toList r.2.2.1 r.2.2.2.1/\r.2.2.1+1 < a.size/\r.2.2.2.1 < b.size/\n+1+i<=r.2.1.size)
   (Q:=λr st'=>Like st st'/\((r.1=none/\Mg c a.toList b.toList r.2.1.toList r.2.2.1 r.2.2.2.1/\r.2.2.1+1 < a.size/\r.2.2.2.1 < b.size/\n+2<=r.2.1.size)\/∃ o,r.1=some o/\Rs c a.toList b.toList o.toList)) ?_ ?_ ⟨l1,rfl,mg,p,g,by dsimp only;lia⟩) ?_)
  ·rintro i ⟨o,out,l,f,Z,bc⟩ K-hi ⟨B,rfl,mg,p,g,t⟩;dsimp only at mg p g t ⊢;obtain⟨y,L,N,O⟩:=qF (a:=b) g;obtain⟨x,P,R,S⟩:=qF (a:=a) (show l < a.size by lia);refine wpS_bind (bL L (wpS_bind (bL P (wpS_bind (aX5 C (B.k.trans hk) (gb y O) (ga x S) ?_)))));dsimp only;cases e:c y x with
   | true=>
     rw[a2H rfl];refine wpS_bind (bL L ?_);have d:=pb mg N (λz D=>(kB R sa z D).elim (λh=>h ▸ e) (C.tr e));by_cases T:f+1=b.size;rw[a2H (a2J.mpr T)];exact wpS_pure ⟨B,.inr ⟨_,rfl,dn d (.inr T)⟩⟩
     rw[a2I (by rw[a2J];exact T)];by_cases U:bc+1 ≥ m;rw[a2H U];exact wpS_pure ⟨B,.inl ⟨rfl,d,p,by dsimp only;lia,by dsimp only;rw[Array.size_push];lia⟩⟩;rw[a2I U];exact wpS_pure ⟨B,rfl,d,p,by dsimp only;lia,by dsimp only;rw[Array.size_push];lia⟩
   | false=>
     rw[a2I (by decide)];have e':c x y=true:=(hd x S y O).resolve_right (by rw[e];decide);refine wpS_bind (bL P ?_);have d:=pa mg R (λz D=>(kB N sb z D).elim (λh=>h ▸ e') (C.tr e'));by_cases T:l+1+1=a.size;rw[a2H (a2J.mpr T)];exact wpS_pure ⟨B,.inr ⟨_,rfl,ls d T⟩⟩
     rw[a2I (by rw[a2J];exact T)];by_cases U:Z+1 ≥ m;rw[a2H U];exact wpS_pure ⟨B,.inl ⟨rfl,d,by dsimp only;lia,g,by dsimp only;rw[Array.size_push];lia⟩⟩;rw[a2I U];exact wpS_pure ⟨B,rfl,d,by dsimp only;lia,g,by dsimp only;rw[Array.size_push];lia⟩
  ·rintro⟨o,out,l,f,Z,bc⟩ K ⟨B,rfl,mg,p,g,t⟩;have:=mg.len;dsimp only at mg p g t this;simp at this t;lia
  rintro⟨o,out,l,f,Z,bc⟩ K ⟨B,⟨rfl,mg,p,g,t⟩ | ⟨r,rfl,hr⟩⟩
  case inr=>exact wpS_pure ⟨B,r,rfl,hr⟩
  dsimp only at mg p g t ⊢;refine wpS_bind (wpS_lift (a2U ⟨rfl,?_⟩));refine wpS_bind (wpS_mono (wpS_forRange (λi (r:Option (Array Keyed)×Array Keyed×Nat×Nat×Nat×Nat×Nat) st'=>Like st st'/\r.1=none/\Mg c a.toList b.toList r.2.1.toList r.2.2.1 r.2.2.2.1/\r.2.2.1+1 < a.size/\r.2.2.2.1 < b.size/\n+2+i<=r.2.1.size)
   (Q:=λr st'=>Like st st'/\((r.1=none/\Mg c a.toList b.toList r.2.1.toList r.2.2.1 r.2.2.2.1/\r.2.2.1+1 < a.size/\r.2.2.2.1 < b.size/\n+2<=r.2.1.size)\/∃ o,r.1=some o/\Rs c a.toList b.toList o.toList)) ?_ ?_ ⟨B,rfl,mg,p,g,t⟩) ?_)
  ·rintro i ⟨o,out,l,f,m,Z,bc⟩ K-hi ⟨B,rfl,mg,p,g,t⟩;dsimp only at mg p g t ⊢;obtain⟨y,L,N,O⟩:=qF (a:=b) g;by_cases hm:m > 1
   case' pos=>rw[a2H hm]
   case' neg=>rw[a2I hm]
   all_goals
    refine wpS_bind (kD λst3 I=>wpS_bind (bL L (wpS_bind (aJ9 C ((B.trans I).k.trans hk) ga (gb y O) sa (λx J=>hd x J y O) (b:=l) (n:=a.size-l) (by lia) (by lia) λk k1 k2 k3=>?_))))
    replace I:=B.trans I
    dsimp only;have d:Mg c a.toList b.toList (out++a.extract l (l+k)).toList (l+k) f:=by
     rw[Array.toList_append,dL,Nat.add_sub_cancel_left];refine mg.left sa (by lia) λx J z D=>?_;obtain⟨j,j1,j2⟩:=kH J;have:=k2 j x j1 j2;exact(kB N sb z D).elim (λh=>h ▸ this) (C.tr this)
    have f2:∀ z∈a.toList.drop (l+k),c y z=true:=λz D=>by
     obtain⟨j,j1,j2,j3⟩:=xD D;exact k3 (j-l) z (by lia) (by lia) (by rw[show l+(j-l)=j by lia];exact j3)
    have x4:n+2+i<=(out++a.extract l (l+k)).size:=by rw[Array.size_append];lia
    by_cases hk0:k > 0
    case' pos=>
     rw[a2H hk0];generalize out++a.extract l (l+k)=w at d x4 ⊢;generalize l+k=H at d f2 ⊢;by_cases T:H+1=a.size;rw[a2H (a2J.mpr T)];exact wpS_pure ⟨I,.inr ⟨_,rfl,ls d T⟩⟩
     rw[a2I (by rw[a2J];exact T)];by_cases U:H=a.size;rw[a2H (a2J.mpr U)];exact wpS_pure ⟨I,.inr ⟨_,rfl,dn d (.inl U)⟩⟩
     rw[a2I (by rw[a2J];exact U)]
     replace p:H+1 < a.size:=by have:=d.hi;lia
    case' neg=>
     rw[a2I hk0];obtain rfl:k=0:=by lia
     rw[Nat.add_zero]at f2
     replace d:=mg
     replace x4:=t
     generalize out=w at d x4 ⊢;generalize l=H at d f2 p ⊢
    all_goals
     refine wpS_bind (bL L ?_);have W:=pb d N f2;by_cases e4:f+1=b.size;rw[a2H (a2J.mpr e4)];exact wpS_pure ⟨I,.inr ⟨_,rfl,dn W (.inr e4)⟩⟩
     rw[a2I (by rw[a2J];exact e4)];obtain⟨x,P,R,S⟩:=qF (a:=a) (show H < a.size by lia);refine wpS_bind (bL P (wpS_bind (aJ9 C (I.k.trans hk) gb (ga x S) sb (λz D=>(hd x S z D).symm) (b:=f+1) (n:=b.size-(f+1)) (by lia) (by lia) λj j1 j2 j3=>?_)));dsimp only;have F:Mg c a.toList b.toList (w.push y++b.extract (f+1) (f+1+j)).toList H (f+1+j):=by
      rw[Array.toList_append,dL,Nat.add_sub_cancel_left];refine W.right sb (by lia) λz D u hu=>?_;obtain⟨v,v1,v2⟩:=kH D;have:=j2 v z v1 v2;exact(kB R sa u hu).elim (λh=>h ▸ this) (C.tr this)
     have f4:∀ z∈b.toList.drop (f+1+j),c x z=true:=λz D=>by
      obtain⟨v,v1,v2,v3⟩:=xD D;exact j3 (v-(f+1)) z (by lia) (by lia) (by rw[show f+1+(v-(f+1))=v by lia];exact v3)
     have x5:n+2+i < (w.push y++b.extract (f+1) (f+1+j)).size:=by rw[Array.size_append,Array.size_push];lia
     by_cases hj0:j > 0
     case' pos=>
      rw[a2H hj0];generalize w.push y++b.extract (f+1) (f+1+j)=V at F x5 ⊢;generalize f+1+j=X at F f4 ⊢;by_cases e5:X=b.size;rw[a2H (a2J.mpr e5)];exact wpS_pure ⟨I,.inr ⟨_,rfl,dn F (.inr e5)⟩⟩
      rw[a2I (by rw[a2J];exact e5)]
      replace g:X < b.size:=by have:=F.hj;lia
     case' neg=>
      rw[a2I hj0];obtain rfl:j=0:=by lia
      rw[Nat.add_zero]at f4
      replace F:=W
      replace x5:n+2+i < (w.push y).size:=by rw[Array.size_push];lia
      replace g:f+1 < b.size:=by lia
      generalize w.push y=V at F x5 ⊢;generalize f+1=X at F f4 g ⊢
     all_goals
      refine wpS_bind (bL P ?_);have Y:=pa F R f4;by_cases e6:H+1+1=a.size;rw[a2H (a2J.mpr e6)];exact wpS_pure ⟨I,.inr ⟨_,rfl,ls Y e6⟩⟩
      rw[a2I (by rw[a2J];exact e6)];have x6:n+2+(i+1)<=(V.push x).size:=by rw[Array.size_push];lia
      refine pL ?_ ?_;exact wpS_pure ⟨I,.inl ⟨rfl,Y,by dsimp only;lia,g,by dsimp only;lia⟩⟩;exact wpS_pure ⟨I,rfl,Y,by dsimp only;lia,g,x6⟩
  ·rintro⟨o,out,l,f,m,Z,bc⟩ K ⟨B,rfl,mg,p,g,t⟩;have:=mg.len;dsimp only at mg p g t this;simp at this t;lia
  rintro⟨o,out,l,f,m,Z,bc⟩ K ⟨B,⟨rfl,mg,p,g,t⟩ | ⟨r,rfl,hr⟩⟩
  case inr=>exact wpS_pure ⟨B,r,rfl,hr⟩
  dsimp only at mg p g t ⊢;exact wpS_bind (kD λst3 I=>wpS_pure ⟨B.trans I,rfl,mg,p,g,t⟩)
 ·rintro⟨o,out,l,f,m⟩ st1 ⟨l1,rfl,mg,p,g,t⟩;have:=mg.len;dsimp only at mg p g t this;simp at this t;lia
 ·rintro⟨o,out,l,f,m⟩ st1 ⟨l1,r,rfl,hr⟩;exact wpS_pure (q _ _ l1 hr)
end
structure Wh(c:Keyed->Keyed->Bool)(a b out:Array Keyed)(na nb:Nat):Prop where
 m:Mg (λx y=>c y x) b.toList.reverse a.toList.reverse out.toList (b.size-nb) (a.size-na)
 ha:na<=a.size
 hb:nb<=b.size
section
variable{c:Keyed->Keyed->Bool}{a b out:Array Keyed}{na nb:Nat}
theorem Wh.symm(w:Wh c a b out na nb):Wh c b a out nb na:=⟨w.m.symm,w.hb,w.ha⟩
theorem Wh.len(w:Wh c a b out na nb):out.size+na+nb=a.size+b.size:=by
 have:=w.m.len;have:=w.ha;have:=w.hb;simp at *;lia
def pM{l:List Keyed}(h:Srt c l):Srt (λx y=>c y x) l.reverse:=List.pairwise_reverse.mpr h
def bM0{la lb l:List Keyed}(h:Rs (λx y=>c y x) lb.reverse la.reverse l):Rs c la lb l.reverse:=
 ⟨by have:=(List.reverse_perm l).trans h.1;rw[← List.reverse_append]at this;exact this.trans (List.reverse_perm _),List.pairwise_reverse.mpr h.2⟩
def gN{a:Array Keyed}{n:Nat}(h:n<=a.size):a.toList.reverse.drop (a.size-n)=(a.toList.take n).reverse:=by
 rw[List.drop_reverse];congr 2;simp;lia
theorem Wh.done(w:Wh c a b out na nb)(sa:Srt c a.toList)(sb:Srt c b.toList)(h:na=0\/nb=0):Rs c a.toList b.toList (a.extract 0 na++b.extract 0 nb++out.reverse).toList:=by
 have:=bM0 (w.m.done (pM sb) (pM sa) (by simp;have:=w.ha;have:=w.hb;lia));rw[gN w.ha,gN w.hb]at this;simpa[dL]using this
theorem Wh.last(w:Wh c a b out na nb)(sa:Srt c a.toList)(sb:Srt c b.toList)(h:nb=1)(d:∀ y∈b.toList.take 1,∀ x∈a.toList,c y x=true):Rs c a.toList b.toList (b.extract 0 nb++a.extract 0 na++out.reverse).toList:=by
 have:=bM0 (w.m.last (pM sb) (pM sa) (by simp;have:=w.hb;lia) (by rw[gN w.hb,h];intro x e y f;exact d x (List.mem_reverse.mp e) y (List.mem_reverse.mp f)));rw[gN w.ha,gN w.hb]at this;simpa[dL]using this
def zJ{a:Array Keyed}{n k:Nat}(h:n<=a.size)(b:k<=n):(a.extract (n-k) n).reverse.toList=(a.toList.reverse.drop (a.size-n)).take k:=by
 rw[gN h,Array.toList_reverse,dL,List.take_reverse,List.drop_take];congr 2;congr 1;simp;lia;simp;lia
def Wh.pa(w:Wh c a b out na nb)(sa:Srt c a.toList){k:Nat}(d:k<=na)(h:∀ i x,na-k<=i->i < na->a.toList[i]? = some x->∀ y∈b.toList.take nb,c y x=true):Wh c a b (out++(a.extract (na-k) na).reverse) (na-k) nb:=by
 have:=w.m.right (pM sa) (k:=k) (by simp;have:=w.ha;lia) (by
  rw[gN w.hb,← zJ w.ha d];intro x e y f;rw[Array.toList_reverse,List.mem_reverse,dL]at e;obtain⟨j,l,g⟩:=kH e;exact h _ x (by lia) (by lia) g y (List.mem_reverse.mp f))
 rw[← zJ w.ha d,← Array.toList_append,show a.size-na+k=a.size-(na-k) by have:=w.ha;lia]at this;exact⟨this,by have:=w.ha;lia,w.hb⟩
def Wh.to(w:Wh c a b out na nb)(sa:Srt c a.toList){t:Nat}(d:t<=na)(h:∀ i x,t<=i->i < na->a.toList[i]? = some x->∀ y∈b.toList.take nb,c y x=true):Wh c a b (out++(a.extract t na).reverse) t nb:=by
 have e:na-(na-t)=t:=by lia
 have:=w.pa sa (k:=na-t) (by lia) (by rw[e];exact h);rwa[e]at this
theorem Wh.push(w:Wh c a b out na nb)(sa:Srt c a.toList){x:Keyed}(g:1<=na)(d:a.toList[na-1]? = some x)(h:∀ y∈b.toList.take nb,c y x=true):Wh c a b (out.push x) (na-1) nb:=by
 have:=w.pa sa g (λi z j k f=>by rw[show i=na-1 by lia,d]at f;cases f;exact h);have e:out++(a.extract (na-1) na).reverse=out.push x:=by
  apply Array.toList_inj.mp;rw[Array.toList_append,Array.toList_reverse,dL,show na-(na-1)=1 by lia,iV d];simp
 rwa[e]at this
def iW{l:List Keyed}{i:Nat}{x:Keyed}(h:l[i]? = some x)(s:Srt c l):∀ y∈l.take (i+1),y=x\/c y x=true:=by
 have:=s.sublist (List.take_sublist (i+1) l);obtain⟨a,rfl⟩:=a0a.mp h;rw[List.take_succ_eq_append_getElem a]at this ⊢;intro y b;rcases a3c.mp b with z | z;exact .inr ((List.pairwise_append.mp this).2.2 y z _ (a8b.mpr rfl));exact .inl (a8b.mp z)
end
section
variable{M:Model}{A:Around}{E:Value->Shared->Prop}{s:Shared}{κ:SortKind}{G:Keyed->Prop}{c:Keyed->Keyed->Bool}
noncomputable def bH3:Array Keyed->Array Keyed->StateT SortSt Sem (Array Keyed):=sortPriv% PySem.Builtin.mergeHi
def aQ1(C:Cm M A s κ G c){a b:Array Keyed}{st:SortSt}{Q:Array Keyed->SortSt->Prop}(hk:kindOf st=κ)(ga:∀ x∈a.toList,G x)(gb:∀ x∈b.toList,G x)(sa:Srt c a.toList)(sb:Srt c b.toList)
  (hd:∀ x∈a.toList,∀ y∈b.toList,c x y=true\/c y x=true) (h1:1<=a.size) (h2:1<=b.size) (hf:∀ y∈b.toList.take 1,∀ x∈a.toList,c y x=true) (hl:∀ x∈a.toList.drop (a.size-1),∀ y∈b.toList,c y x=true)
  (q:∀ r st',Like st st'->Rs c a.toList b.toList r.toList->Q r st'):wpS M A E s (bH3 a b) Q st:=by
 have la:a.toList.length=a.size:=rfl;have lb:b.toList.length=b.size:=rfl;refine wpS_bind (wpS_lift (a2U ⟨rfl,?_⟩));obtain⟨a0,ha0,W,ha2⟩:=qF (a:=a) (i:=a.size-1) (by lia);refine wpS_bind (bL ha0 ?_);dsimp only;have w0:Wh c a b #[a0] (a.size-1) b.size:=by
  have:=(Wh.mk (c:=c) (a:=a) (b:=b) (out:=#[]) (na:=a.size) (nb:=b.size) ⟨by simp,.nil,λ_ h=>by simp at h,by simp,by simp⟩ (a8a _) (a8a _)).push sa h1 W
   (by rw[← lb,List.take_length];exact hl a0 (by rw[iJ W];exact a3a))
  exact this
 have X:∀ {o:Array Keyed} {i j:Nat},Wh c a b o i j->(i=0\/j=0)->Rs c a.toList b.toList (a.extract 0 i++b.extract 0 j++o.reverse).toList:=λw h=>w.done sa sb h;have ls:∀ {o:Array Keyed} {i j:Nat},Wh c a b o i j->j=1->Rs c a.toList b.toList (b.extract 0 j++a.extract 0 i++o.reverse).toList:=λw h=>w.last sa sb h hf;by_cases n1:a.size-1=0;rw[a2H (a2J.mpr n1)];exact wpS_pure (q _ _ .rfl' (X w0 (.inl n1)))
 rw[a2I (by rw[a2J];exact n1)];by_cases n2:b.size=1;rw[a2H (a2J.mpr n2)];exact wpS_pure (q _ _ .rfl' (ls w0 n2))
 rw[a2I (by rw[a2J];exact n2)];refine wpS_bind (wpS_get ?_);refine wpS_bind (wpS_mono (wpS_forRange (λi (r:Option (Array Keyed)×Nat×Nat×Array Keyed×Nat) st'=>Like st st'/\r.1=none/\Wh c a b r.2.2.2.1 r.2.1 r.2.2.1/\1<=r.2.1/\2<=r.2.2.1/\i+1<=r.2.2.2.1.size)
  (Q:=λr st'=>Like st st'/\∃ o,r.1=some o/\Rs c a.toList b.toList o.toList) ?_ ?_ ⟨.rfl',rfl,w0,by dsimp only;lia,by dsimp only;lia,a8a _⟩) ?_)
 ·rintro n ⟨o,na,nb,out,m⟩ Y-hn ⟨l1,rfl,mg,g,f,p⟩;dsimp only at mg g f p ⊢;refine wpS_bind (wpS_mono (wpS_forRange (λi (r:Option (Array Keyed)×Nat×Nat×Array Keyed×Nat×Nat) st'=>Like st st'/\r.1=none/\Wh c a b r.2.2.2.1 r.2.1 r.2.2.1/\1<=r.2.1/\2<=r.2.2.1/\n+1+i<=r.2.2.2.1.size)
   (Q:=λr st'=>Like st st'/\((r.1=none/\Wh c a b r.2.2.2.1 r.2.1 r.2.2.1/\1<=r.2.1/\2<=r.2.2.1/\n+2<=r.2.2.2.1.size)\/∃ o,r.1=some o/\Rs c a.toList b.toList o.toList)) ?_ ?_ ⟨l1,rfl,mg,g,f,by dsimp only;lia⟩) ?_)
  ·rintro i ⟨o,na,nb,out,Z,bc⟩ J-hi ⟨B,rfl,mg,g,f,p⟩;dsimp only at mg g f p ⊢;have za:=mg.ha;have zb:=mg.hb;obtain⟨y,K,L,N⟩:=qF (a:=b) (show nb-1 < b.size by lia);obtain⟨x,O,P,R⟩:=qF (a:=a) (show na-1 < a.size by lia);have sx:=iW P sa;have sy:=iW L sb;rw[show na-1+1=na by lia]at sx;rw[show nb-1+1=nb by lia]at sy;refine wpS_bind (bL K (wpS_bind (bL O (wpS_bind (aX5 C (B.k.trans hk) (gb y N) (ga x R) ?_)))));dsimp only;cases e:c y x with
   | true=>
     rw[a2H rfl];refine wpS_bind (bL O ?_);have d:=mg.push sa g P (λz F=>(sy z F).elim (λh=>h ▸ e) λh=>C.tr h e);by_cases I:na-1=0;rw[a2H (a2J.mpr I)];exact wpS_pure ⟨B,.inr ⟨_,rfl,X d (.inl I)⟩⟩
     rw[a2I (by rw[a2J];exact I)];refine pL ?_ ?_;exact wpS_pure ⟨B,.inl ⟨rfl,d,by dsimp only;lia,f,by dsimp only;rw[Array.size_push];lia⟩⟩;exact wpS_pure ⟨B,rfl,d,by dsimp only;lia,f,by dsimp only;rw[Array.size_push];lia⟩
   | false=>
     rw[a2I (by decide)];have e':c x y=true:=(hd x R y N).resolve_right (by rw[e];decide);refine wpS_bind (bL K ?_);have d:=(mg.symm.push sb (by lia) L (λz F=>(sx z F).elim (λh=>h ▸ e') λh=>C.tr h e')).symm;by_cases I:nb-1=1;rw[a2H (a2J.mpr I)];exact wpS_pure ⟨B,.inr ⟨_,rfl,ls d I⟩⟩
     rw[a2I (by rw[a2J];exact I)];refine pL ?_ ?_;exact wpS_pure ⟨B,.inl ⟨rfl,d,g,by dsimp only;lia,by dsimp only;rw[Array.size_push];lia⟩⟩;exact wpS_pure ⟨B,rfl,d,g,by dsimp only;lia,by dsimp only;rw[Array.size_push];lia⟩
  ·rintro⟨o,na,nb,out,Z,bc⟩ J ⟨B,rfl,mg,g,f,p⟩;have:=mg.len;dsimp only at mg g f p this;lia
  rintro⟨o,na,nb,out,Z,bc⟩ J ⟨B,⟨rfl,mg,g,f,p⟩ | ⟨r,rfl,hr⟩⟩
  case inr=>exact wpS_pure ⟨B,r,rfl,hr⟩
  dsimp only at mg g f p ⊢;refine wpS_bind (wpS_lift (a2U ⟨rfl,?_⟩));refine wpS_bind (wpS_mono (wpS_forRange (λi (r:Option (Array Keyed)×Nat×Nat×Array Keyed×Nat×Nat×Nat) st'=>Like st st'/\r.1=none/\Wh c a b r.2.2.2.1 r.2.1 r.2.2.1/\1<=r.2.1/\2<=r.2.2.1/\n+2+i<=r.2.2.2.1.size)
   (Q:=λr st'=>Like st st'/\((r.1=none/\Wh c a b r.2.2.2.1 r.2.1 r.2.2.1/\1<=r.2.1/\2<=r.2.2.1/\n+2<=r.2.2.2.1.size)\/∃ o,r.1=some o/\Rs c a.toList b.toList o.toList)) ?_ ?_ ⟨B,rfl,mg,g,f,p⟩) ?_)
  ·rintro i ⟨o,na,nb,out,m,Z,bc⟩ J-hi ⟨B,rfl,mg,g,f,p⟩;dsimp only at mg g f p ⊢;have za:=mg.ha;have zb:=mg.hb;obtain⟨y,K,L,N⟩:=qF (a:=b) (show nb-1 < b.size by lia);have sy:=iW L sb;rw[show nb-1+1=nb by lia]at sy;by_cases hm:m > 1
   case' pos=>rw[a2H hm]
   case' neg=>rw[a2I hm]
   all_goals
    refine wpS_bind (kD λst3 H=>wpS_bind (bL K (wpS_bind (aJ9 C ((B.trans H).k.trans hk) ga (gb y N) sa (λx hx=>hd x hx y N) (b:=0) (n:=na) (by lia) (by lia) λt k1 k2 k3=>?_))))
    replace H:=B.trans H
    dsimp only;have d:Wh c a b (out++(a.extract t na).reverse) t nb:=mg.to sa k1 λi x i1 i2 i3 z F=>by
     have:=k3 i x i1 i2 (by rw[a9e];exact i3);exact(sy z F).elim (λh=>h ▸ this) λh=>C.tr h this
    have f2:∀ z∈a.toList.take t,c z y=true:=λz F=>by
     obtain⟨j,hj⟩:=List.getElem?_of_mem F;rw[List.getElem?_take]at hj;split at hj;rename_i h;exact k2 j z h (by rw[a9e];exact hj);cases hj
    have x4:n+2+i<=(out++(a.extract t na).reverse).size:=by rw[Array.size_append];lia
    by_cases hk0:na-t > 0
    case' pos=>
     rw[a2H hk0];generalize out++(a.extract t na).reverse=l at d x4 ⊢;by_cases I:t=0;rw[a2H (a2J.mpr I)];exact wpS_pure ⟨H,.inr ⟨_,rfl,X d (.inl I)⟩⟩
     rw[a2I (by rw[a2J];exact I)]
    case' neg=>
     rw[a2I hk0];obtain rfl:t=na:=by lia
     replace d:=mg
     replace x4:=p
     have I:¬ t=0:=by lia
     generalize out=l at d x4 ⊢
    all_goals
     refine wpS_bind (bL K ?_);have T:=(d.symm.push sb (by lia) L f2).symm;by_cases e4:nb-1=1;rw[a2H (a2J.mpr e4)];exact wpS_pure ⟨H,.inr ⟨_,rfl,ls T e4⟩⟩
     rw[a2I (by rw[a2J];exact e4)];obtain⟨x,O,P,R⟩:=qF (a:=a) (show t-1 < a.size by lia);have sx:=iW P sa;rw[show t-1+1=t by lia]at sx;refine wpS_bind (bL O (wpS_bind (aJ9 C (H.k.trans hk) gb (ga x R) sb (λz F=>(hd x R z F).symm) (b:=0) (n:=nb-1) (by lia) (by lia) λj j1 j2 j3=>?_)));dsimp only;have D:Wh c a b (l.push y++(b.extract j (nb-1)).reverse) t j:=(T.symm.to sb j1 λi u i1 i2 i3 z F=>by
      have:=j3 i u i1 i2 (by rw[a9e];exact i3);exact(sx z F).elim (λh=>h ▸ this) λh=>C.tr h this).symm
     have f4:∀ z∈b.toList.take j,c z x=true:=λz F=>by
      obtain⟨v,hv⟩:=List.getElem?_of_mem F;rw[List.getElem?_take]at hv;split at hv;rename_i h;exact j2 v z h (by rw[a9e];exact hv);cases hv
     have x5:n+2+i < (l.push y++(b.extract j (nb-1)).reverse).size:=by rw[Array.size_append,Array.size_push];lia
     by_cases hj0:nb-1-j > 0
     case' pos=>
      rw[a2H hj0];generalize l.push y++(b.extract j (nb-1)).reverse=S at D x5 ⊢;by_cases e5:j=1;rw[a2H (a2J.mpr e5)];exact wpS_pure ⟨H,.inr ⟨_,rfl,ls D e5⟩⟩
      rw[a2I (by rw[a2J];exact e5)];by_cases U:j=0;rw[a2H (a2J.mpr U)];exact wpS_pure ⟨H,.inr ⟨_,rfl,X D (.inr U)⟩⟩
      rw[a2I (by rw[a2J];exact U)]
      replace f:2<=j:=by lia
     case' neg=>
      rw[a2I hj0];obtain rfl:j=nb-1:=by lia
      replace D:=T
      replace x5:n+2+i < (l.push y).size:=by rw[Array.size_push];lia
      replace f:2<=nb-1:=by lia
      generalize l.push y=S at D x5 ⊢;generalize nb-1=j at D f4 f ⊢
     all_goals
      refine wpS_bind (bL O ?_);have V:=D.push sa (by lia) P f4;by_cases U:t-1=0;rw[a2H (a2J.mpr U)];exact wpS_pure ⟨H,.inr ⟨_,rfl,X V (.inl U)⟩⟩
      rw[a2I (by rw[a2J];exact U)];have x6:n+2+(i+1)<=(S.push x).size:=by rw[Array.size_push];lia
      refine pL ?_ ?_;exact wpS_pure ⟨H,.inl ⟨rfl,V,by dsimp only;lia,f,by dsimp only;lia⟩⟩;exact wpS_pure ⟨H,rfl,V,by dsimp only;lia,f,x6⟩
  ·rintro⟨o,na,nb,out,m,Z,bc⟩ J ⟨B,rfl,mg,g,f,p⟩;have:=mg.len;dsimp only at mg g f p this;lia
  rintro⟨o,na,nb,out,m,Z,bc⟩ J ⟨B,⟨rfl,mg,g,f,p⟩ | ⟨r,rfl,hr⟩⟩
  case inr=>exact wpS_pure ⟨B,r,rfl,hr⟩
  dsimp only at mg g f p ⊢;exact wpS_bind (kD λst3 H=>wpS_pure ⟨B.trans H,rfl,mg,g,f,p⟩)
 ·rintro⟨o,na,nb,out,m⟩ Y ⟨l1,rfl,mg,g,f,p⟩;have:=mg.len;dsimp only at mg g f p this;lia
 ·rintro⟨o,na,nb,out,m⟩ Y ⟨l1,r,rfl,hr⟩;exact wpS_pure (q _ _ l1 hr)
end
section
variable{M:Model}{A:Around}{E:Value->Shared->Prop}{s:Shared}{κ:SortKind}{G:Keyed->Prop}{c:Keyed->Keyed->Bool}
def bU9{σ:Type}{Q:PUnit->σ->Prop}{st st':σ}(h:Q ⟨⟩ st'):wpS M A E s (set st':StateT σ Sem PUnit) Q st:=by
 unfold wpS;rw[StateT.run_set];exact a2G ⟨rfl,h⟩
theorem vY(o:Nat):∀ (m:List Keyed) (k:Nat) (a:Array Keyed),o+k+m.length<=a.size->((m.zipIdx k).foldl (λa (p:Keyed×Nat)=>a.setIfInBounds (o+p.2) p.1) a).toList=a.toList.take (o+k)++m++a.toList.drop (o+k+m.length)
 | [],k,a,h=>by simp
 | x::m,k,a,h=>by
   rw[List.zipIdx_cons,List.foldl_cons,vY o m (k+1) _ (by simp at h ⊢;lia)];simp only[Array.toList_setIfInBounds,List.length_cons];have b:o+k < a.toList.length:=by simp at h ⊢;lia
   rw[show o+(k+1)=o+k+1 by lia,List.take_succ_eq_append_getElem (by simpa using b),List.getElem_set_self,List.take_set_of_le (by lia),List.drop_set_of_lt (by lia)];simp[Nat.add_assoc,Nat.add_comm 1]
def _root_.List.drop_take_comm'{l:List Keyed}{j n:Nat}(h:j<=n):(l.take n).drop j=(l.drop j).take (n-j):=List.drop_take ..
def aQ2(C:Cm M A s κ G c){i sa na pa nb pb sb:Nat}{st:SortSt}{Q:Bool->SortSt->Prop}(D:PyProof.Rows.kindOf st=κ)(U:∀ x∈(arrOf st).toList,G x)(N:failedOf st=none){p q:List Keyed}{X Y:List Keyed}
  (ha:(arrOf st).toList=p++(X++(Y++q))) (l:p.length=sa) (m:X.length=na) (e3:Y.length=nb) (e4:sb=sa+na) (hp:(pendingOf st)[i]? = some (sa,na,pa)) (O:(pendingOf st)[i+1]? = some (sb,nb,pb)) (h1:1<=na) (h2:1<=nb)
  (H:Srt c X) (I:Srt c Y) (hd:∀ x∈X,∀ y∈Y,c x y=true\/c y x=true)
  (k:∀ (st':SortSt) Z,PyProof.Rows.kindOf st'=κ->failedOf st'=none->pendingOf st'=((pendingOf st).setIfInBounds i (sa,na+nb,pa)).eraseIdxIfInBounds (i+1)->(arrOf st').toList=p++(Z++q)->Z.Perm (X++Y)->Srt c Z->Q true st') :
  wpS M A E s (mergeAt' i) Q st:=by
 have P:∀ x∈X,G x:=λx o=>U x (by rw[ha];simp[o]);have R:∀ x∈Y,G x:=λx o=>U x (by rw[ha];simp[o]);subst l m e3 e4;have V:((arrOf st).toList.drop p.length).take X.length=X:=by rw[ha];simp
 have W:((arrOf st).toList.drop (p.length+X.length)).take Y.length=Y:=by rw[ha,← List.append_assoc];simp[List.drop_append,List.take_append]
 refine wpS_bind (wpS_get ?_);rw[hp,O];dsimp only;refine wpS_bind (bU9 ?_);obtain⟨y,b,rfl⟩:∃ y b,Y=y::b:=by cases Y with | nil=>simp at h2 | cons y b=>exact⟨y,b,rfl⟩
 have yY:∀ z∈y::b,z=y\/c y z=true:=λz d=>(a7b.mp d).imp id λh=>(a0f.mp I).1 z h;refine wpS_bind (bL (x:=y) ?_ ?_)
 ·have:(arrOf st).toList[p.length+X.length]? = some y:=by rw[ha,← List.append_assoc,← a9a];simp
  simpa using this
 refine wpS_bind (aE6 C D V rfl P (R y a3a) H (λx o=>hd x o y a3a) h1 λj j1 S j3=>?_);dsimp only;have J:=List.pairwise_append.mp (show Srt c (X.take j++X.drop j) by rw[List.take_append_drop];exact H);have w:∀ x,c x y=true->∀ z∈y::b,c x z=true:=λx h z d=>(yY z d).elim (λe=>e ▸ h) (C.tr h);have fin:∀ Z:List Keyed,Z=X++(y::b)->Srt c Z->Q true (SortSt.mk' (PyProof.Rows.kindOf st) (arrOf st) (((pendingOf st).setIfInBounds i (p.length,X.length+(y::b).length,pa)).eraseIdxIfInBounds (i+1)) (gallopOf st) (failedOf st)):=λZ e h=>k _ Z D N rfl (by rw[e,List.append_assoc];exact ha) (by rw[e]) h;by_cases b1:X.length-j=0;rw[a2H (a2J.mpr b1)];refine wpS_pure (fin _ rfl (List.pairwise_append.mpr ⟨H,I,λx o z d=>w x (S x ?_) z d⟩));rw[a8c (by lia)];exact o
 rw[a2I (by rw[a2J];exact b1)];obtain⟨x,o⟩:∃ x,X[X.length-1]? = some x:=⟨X[X.length-1],a1a (by lia)⟩;have xX:∀ z∈X,z=x\/c z x=true:=λz d=>iW o H z (by rw[show X.length-1+1=X.length by lia,List.take_length];exact d);have mx:=a2c o;refine wpS_bind (bL (x:=x) ?_ ?_)
 ·have:(arrOf st).toList[p.length+(X.length-1)]? = some x:=by rw[ha,a2b (by lia),Nat.add_sub_cancel_left,a6c (by lia)];exact o
  rw[show p.length+j+(X.length-j)-1=p.length+(X.length-1) by lia];simpa using this
 refine wpS_bind (aE6 C D W rfl R (P x mx) I (λz d=>(hd x mx z d).symm) (by simp) λn n1 n2 n3=>?_);dsimp only;by_cases T:n=0;rw[a2H (a2J.mpr T)];subst T;exact wpS_pure (fin _ rfl (List.pairwise_append.mpr ⟨H,I,λz d u g=>(xX z d).elim (λe=>e ▸ n3 u g) λh=>C.tr h (n3 u g)⟩))
 rw[a2I (by rw[a2J];exact T)];have K:=List.pairwise_append.mp (show Srt c ((y::b).take n++(y::b).drop n) by rw[List.take_append_drop];exact I);have l:((arrOf st).extract (p.length+j) (p.length+X.length)).toList=X.drop j:=by
  rw[dL,show p.length+X.length-(p.length+j)=X.length-j by lia,← List.drop_drop,← List.drop_take_comm' j1,V]
 have m:((arrOf st).extract (p.length+X.length) (p.length+X.length+n)).toList=(y::b).take n:=by
  rw[dL,Nat.add_sub_cancel_left,← W,List.take_take,Nat.min_eq_left n1]
 have L:((arrOf st).extract (p.length+j) (p.length+X.length)).size=X.length-j:=by rw[← a0d,l,a9f]
 have z2:((arrOf st).extract (p.length+X.length) (p.length+X.length+n)).size=n:=by rw[← a0d,m,a8e];lia
 have q1:∀ z∈X.drop j,G z:=λz d=>P z (List.mem_of_mem_drop d);have q2:∀ z∈(y::b).take n,G z:=λz d=>R z (a8f d);have q3:∀ z∈X.drop j,∀ u∈(y::b).take n,c z u=true\/c u z=true:=λz d u g=>hd z (List.mem_of_mem_drop d) u (a8f g);have q4:∀ u∈((y::b).take n).take 1,∀ z∈X.drop j,c u z=true:=λu g z d=>by
  rw[List.take_take,show min 1 n=1 by lia]at g;cases a8b.mp g;exact j3 z d
 have q5:∀ z∈(X.drop j).drop (X.length-j-1),∀ u∈(y::b).take n,c u z=true:=λz d u g=>by
  rw[List.drop_drop,show j+(X.length-j-1)=X.length-1 by lia,iJ o,show X.length-1+1=X.length by lia,List.drop_length]at d;cases a8b.mp d;exact n2 u g
 by_cases b3:X.length-j<=n
 case' pos=>
  rw[a2H b3];refine wpS_bind (aQ0 C D (by rw[l];exact q1) (by rw[m];exact q2) (by rw[l];exact J.2.1) (by rw[m];exact K.1) (by rw[l,m];exact q3) (a6b (by lia) (Nat.le_of_eq L.symm)) (a6b (by lia) (Nat.le_of_eq z2.symm)) (by rw[l,m];exact q4) (by rw[L,l,m];exact q5) λr t B rs=>?_)
 case' neg=>
  rw[a2I b3];refine wpS_bind (aQ1 C D (by rw[l];exact q1) (by rw[m];exact q2) (by rw[l];exact J.2.1) (by rw[m];exact K.1) (by rw[l,m];exact q3) (a6b (by lia) (Nat.le_of_eq L.symm)) (a6b (by lia) (Nat.le_of_eq z2.symm)) (by rw[l,m];exact q4) (by rw[L,l,m];exact q5) λr t B rs=>?_)
 all_goals
  rw[l,m]at rs;have rl:r.toList.length=X.length-j+n:=by rw[rs.1.length_eq,a9a,a9f,a8e];lia
  have mr:∀ u∈r.toList,u∈X.drop j\/u∈(y::b).take n:=λu g=>a3c.mp (rs.1.mem_iff.mp g);refine wpS_bind (wpS_modify (wpS_bind (wpS_get (wpS_pure ?_))));show Q (failedOf t).isNone _;rw[show(failedOf t).isNone=true by rw[B.f];show(failedOf st).isNone=true;rw[N];rfl];refine k _ (X.take j++r.toList++(y::b).drop n) (B.k.trans D) (B.f.trans N) B.p ?_ ?_ (List.pairwise_append.mpr ⟨List.pairwise_append.mpr ⟨J.1,rs.2,λu g v F=>?_⟩,K.2.1,λu g v F=>?_⟩)
  ·have:=vY (p.length+j) r.toList 0 (arrOf t) (by rw[B.a];show _<=(arrOf st).size;rw[← a0d,ha,rl];simp at n1 ⊢;lia);refine this.trans ?_;rw[B.a];show(arrOf st).toList.take _++_++(arrOf st).toList.drop _=_;rw[rl,Nat.add_zero,show p.length+j+(X.length-j+n)=p.length+X.length+n by lia,ha];have t1:(p++(X++(y::b++q))).take (p.length+j)=p++X.take j:=by
    rw[List.take_append,a8c (by lia),Nat.add_sub_cancel_left,List.take_append,show j-X.length=0 by lia];simp
   have t2:(p++(X++(y::b++q))).drop (p.length+X.length+n)=(y::b).drop n++q:=by
    rw[← List.append_assoc,← a9a,← List.drop_drop,List.drop_left,List.drop_append_of_le_length n1]
   rw[t1,t2];simp
  ·have:(X.take j++(X.drop j++(y::b).take n)++(y::b).drop n)=X++(y::b):=by
    rw[← List.append_assoc,List.take_append_drop,List.append_assoc,List.take_append_drop]
   exact((rs.1.append_left _).append_right _).trans (by rw[this])
  ·rcases mr v F with h | h;exact J.2.2 u g v h;exact w u (S u g) v (a8f h)
  ·rcases a3c.mp g with h | h;exact w u (S u h) v (List.mem_of_mem_drop F);rcases mr u h with h | h;exact(xX u (List.mem_of_mem_drop h)).elim (λe=>e ▸ n3 v F) λe=>C.tr e (n3 v F);exact K.2.2 u h v F
end
section
variable{M:Model}{A:Around}{E:Value->Shared->Prop}{s:Shared}{κ:SortKind}{G:Keyed->Prop}{c:Keyed->Keyed->Bool}
def Dst(c:Keyed->Keyed->Bool)(l:List Keyed):Prop:=l.Pairwise λx y=>c x y=true\/c y x=true
def Dst.perm{l a:List Keyed}(h:Dst c l)(p:l.Perm a):Dst c a:=p.pairwise h λh=>h.symm
def Dst.two{l:List Keyed}(h:Dst c l){i j:Nat}{x y:Keyed}(a:i < j)(b:l[i]? = some x)(d:l[j]? = some y):c x y=true\/c y x=true:=by
 obtain⟨e,rfl⟩:=a0a.mp b;obtain⟨f,rfl⟩:=a0a.mp d;exact List.pairwise_iff_getElem.mp h i j e f a
def kI{a:Array Keyed}{p R:List Keyed}(ha:a.toList=p++R)(i:Nat):a[p.length+i]? = R[i]?:=by
 rw[← a5b,ha,a2b (by lia),Nat.add_sub_cancel_left]
def nM{l:List Keyed}{i:Nat}(h:i < l.length):∃ x,l[i]? = some x/\x∈l:=⟨l[i],a1a h,List.getElem_mem h⟩
def pN{l:List Keyed}{n:Nat}{x:Keyed}(h:l[n]? = some x):l.take (n+1)=l.take n++[x]:=by
 obtain⟨a,rfl⟩:=a0a.mp h;exact List.take_succ_eq_append_getElem a
def aE7{r:Keyed->Keyed->Prop}(tr:∀ {x y z},r x y->r y z->r x z){l:List Keyed}{n:Nat}{x z:Keyed}(d:1<=n)(hs:(l.take n).Pairwise r)(b:l[n]? = some x)(hz:l[n-1]? = some z)(h:r z x):(l.take (n+1)).Pairwise r:=by
 rw[pN b];obtain⟨m,rfl⟩:∃ m,n=m+1:=⟨n-1,by lia⟩;rw[Nat.add_sub_cancel]at hz;refine List.pairwise_append.mpr ⟨hs,List.pairwise_singleton _ _,λy a u c=>?_⟩;cases a8b.mp c;rw[pN hz]at hs a;rcases a3c.mp a with e | e;exact tr ((List.pairwise_append.mp hs).2.2 y e z (a8b.mpr rfl)) h;cases a8b.mp e;exact h
def aE8{a:Array Keyed}{p R:List Keyed}{n:Nat}(ha:a.toList=p++R)(hn:n<=R.length):(mirror a p.length (p.length+n) ((p.length+n-p.length) / 2)).toList=p++((R.take n).reverse++R.drop n):=by
 have sz:a.size=p.length+R.length:=by rw[← a0d,ha,a9a]
 apply a5h;intro k;rw[a5b,getElem?_mirror_all (by lia)];rw[← a5b,← a5b,ha];have b:(R.take n).reverse.length=n:=by simp;lia
 by_cases c:k < p.length;rw[a2I (by lia),a6c c,a6c c];by_cases d:k < p.length+n;rw[a2H (by lia)];refine(a2b (by lia)).trans (Eq.trans ?_ (a2b (by lia)).symm);rw[a6c (by lia),List.getElem?_reverse (by simp at b ⊢;lia),List.getElem?_take,a2H (by simp;lia)];congr 1;simp;lia;rw[a2I (by lia)];refine(a2b (by lia)).trans (Eq.trans ?_ (a2b (by lia)).symm);rw[a2b (by lia),List.getElem?_drop,b];congr 1;lia
def aE9{a:Array Keyed}{p R:List Keyed}{k l:Nat}{x:Keyed}(ha:a.toList=p++R)(b:R[k]? = some x)(h:l<=k):(bubble a (p.length+k) (p.length+k-(p.length+l))).toList=p++(R.take l++(x::((R.drop l).take (k-l)++R.drop (k+1)))):=by
 have m:=(a0a.mp b).1;have sz:a.size=p.length+R.length:=by rw[← a0d,ha,a9a]
 apply a5h;intro i;rw[a5b,getElem?_bubble (by lia) _ (by lia),kI ha,b];rw[← a5b,← a5b,ha];have lt:(R.take l).length=l:=by simp;lia
 have d:((R.drop l).take (k-l)).length=k-l:=by simp;lia
 by_cases c:i < p.length;rw[a2I (by lia),a2I (by lia),a6c c,a6c c];obtain⟨j,rfl⟩:∃ j,i=p.length+j:=⟨i-p.length,by lia⟩;refine Eq.trans ?_ (a2b (by lia)).symm;rw[Nat.add_sub_cancel_left];by_cases e:j < l;rw[a2I (by lia),a2I (by lia)];refine(a2b (by lia)).trans (Eq.trans ?_ (a6c (by lia)).symm);rw[Nat.add_sub_cancel_left,List.getElem?_take,a2H e];refine Eq.trans ?_ (a2b (by lia)).symm;rw[lt];by_cases f:j=l;subst f;rw[a2H (by lia),Nat.sub_self];rfl;rw[a2I (by lia)];obtain⟨u,g⟩:∃ u,j-l=u+1:=⟨j-l-1,by lia⟩;rw[g,a2d];by_cases n:j<=k;rw[a2H (by lia)];refine(a2b (by lia)).trans (Eq.trans ?_ (a6c (by lia)).symm);rw[List.getElem?_take,a2H (by lia),List.getElem?_drop];congr 1;lia;rw[a2I (by lia)];refine(a2b (by lia)).trans (Eq.trans ?_ (a2b (by lia)).symm);rw[List.getElem?_drop,d];congr 1;lia
def bM1(C:Cm M A s κ G c){p R:List Keyed}{st:SortSt}{a:Nat}{Q:Option (Option Nat)×Nat->SortSt->Prop}{f:Nat->Option (Option Nat)×Nat->StateT SortSt Sem (ForInStep (Option (Option Nat)×Nat))}(ha:(arrOf st).toList=p++R)(h:∀ x∈R,G x)(j:Dst c R)(u:1<=a)(v:a<=R.length)(hs:Srt c (R.take a))
  (k:∀ i n x z (Q:ForInStep (Option (Option Nat)×Nat)->SortSt->Prop),(arrOf st)[p.length+n]? = some x->(arrOf st)[p.length+n-1]? = some z->G x->G z->(c x z=true->Q (.done (none,n)) st)->(c x z=false->Q (.yield (none,n+1)) st)->wpS M A E s (f i (none,n)) Q st)
  (q:∀ n,a<=n->n<=R.length->Srt c (R.take n)->(n=R.length\/∃ x z,R[n]? = some x/\R[n-1]? = some z/\c x z=true)->Q (none,n) st):wpS M A E s (forIn [a:R.length] (none,a) f) Q st:=by
 refine wpS_forRange (λi (r:Option (Option Nat)×Nat) st'=>st=st'/\r=(none,i)/\Srt c (R.take i)) ?_ ?_ ⟨rfl,rfl,hs⟩;rintro i r st' l m ⟨rfl,rfl,b⟩;obtain⟨x,d,o⟩:=nM m;obtain⟨z,g,t⟩:=nM (show i-1 < R.length by lia);refine k i i x z _ (by rw[kI ha];exact d) (by rw[show p.length+i-1=p.length+(i-1) by lia,kI ha];exact g) (h x o) (h z t) (λe=>q i l (by lia) b (.inr ⟨x,z,d,g,e⟩)) λe=>⟨rfl,rfl,aE7 (r:=λx y=>c x y=true) C.tr (by lia) b d g ?_⟩;exact(j.two (show i-1 < i by lia) g d).resolve_right (by rw[e];decide);rintro r st' ⟨rfl,rfl,b⟩;exact q _ (by lia) (by lia) b (.inl (by lia))
def aF0(C:Cm M A s κ G c){p R:List Keyed}{st:SortSt}{Q:Option Nat->SortSt->Prop}(d:PyProof.Rows.kindOf st=κ)(ha:(arrOf st).toList=p++R)(f:∀ x∈R,G x)(u:Dst c R)(J:1<=R.length)
  (q:∀ n (st':SortSt) g,1<=n->n<=R.length->PyProof.Rows.kindOf st'=κ->pendingOf st'=pendingOf st->failedOf st'=failedOf st->(arrOf st').toList=p++g->g.Perm R->Srt c (g.take n)->Q (some n) st'):wpS M A E s (countRun' p.length R.length) Q st:=by
 refine wpS_bind (bM1 C ha f u (a8a 1) J (by obtain⟨x,g,rfl⟩:∃ x g,R=x::g:=(by cases R with | nil=>simp at J | cons x g=>exact⟨x,g,rfl⟩);exact List.pairwise_singleton _ _) (λi n x z Q a b v w B D=>?_) λn K F j P=>?_)
 ·refine wpS_bind (mK C d a b v w ?_);dsimp only;cases e:c x z with
  | true=>exact wpS_pure (B e)
  | false=>exact wpS_pure (D e)
 dsimp only;by_cases H:n=R.length;rw[a2H (a2J.mpr H)];exact wpS_pure (q n st R K F d rfl rfl ha (.refl _) j)
 rw[a2I (by rw[a2J];exact H)];by_cases L:n > 1
 ·rw[a2H L];obtain⟨x,a,o⟩:=nM (show 0 < R.length by lia);obtain⟨z,b,t⟩:=nM (show n-1 < R.length by lia);refine wpS_bind (mK C d (x:=x) (y:=z) (by have:=kI ha 0;rw[Nat.add_zero]at this;rw[this];exact a) (by rw[show p.length+n-1=p.length+(n-1) by lia,kI ha];exact b) (f x o) (f z t) ?_);have:c x z=true:=by
   obtain⟨Z,S⟩:=a0a.mp a;obtain⟨g3,T⟩:=a0a.mp b;have:=List.pairwise_iff_getElem.mp j 0 (n-1) (by simp;lia) (by simp;lia) (by lia);simpa[S,T]using this
  rw[this];exact wpS_pure (q n st R K F d rfl rfl ha (.refl _) j)
 rw[a2I L];obtain rfl:n=1:=by lia
 refine wpS_bind (wpS_lift (a2U ⟨rfl,?_⟩));refine wpS_bind (wpS_mono (wpS_forRange (λi (r:Option (Option Nat)×Nat×Nat) st'=>st=st'/\r=(none,i,0)/\(R.take i).Pairwise (λx y=>c y x=true))
  (Q:=λr st'=>st=st'/\∃ n,r=(none,n,0)/\2<=n/\n<=R.length/\(R.take n).Pairwise (λx y=>c y x=true)) ?_ ?_ ⟨rfl,rfl,?_⟩) ?_)
 ·rintro i r st' F j ⟨rfl,rfl,k⟩;obtain⟨x,a,o⟩:=nM j;obtain⟨z,b,t⟩:=nM (show i-1 < R.length by lia);have N:(arrOf st)[p.length+i]? = some x:=by rw[kI ha];exact a
  have O:(arrOf st)[p.length+i-1]? = some z:=by rw[show p.length+i-1=p.length+(i-1) by lia,kI ha];exact b
  refine wpS_bind (mK C d N O (f x o) (f z t) ?_);dsimp only;cases e:c x z with
  | true=>
    exact wpS_pure ⟨rfl,rfl,aE7 (r:=λx y=>c y x=true) (λh h'=>C.tr h' h) (by lia) k a b e⟩
  | false=>
    rw[a2I (by decide)];have U:c z x=true:=(u.two (show i-1 < i by lia) b a).resolve_right (by rw[e];decide);refine wpS_bind (mK C d O N (f z t) (f x o) ?_);rw[U];exact wpS_pure ⟨rfl,i,rfl,by lia,by lia,k⟩
 ·rintro r st' ⟨rfl,rfl,k⟩;exact⟨rfl,_,rfl,by lia,by lia,k⟩
 ·obtain⟨x,z,a,b,e⟩:=P.resolve_left H;exact aE7 (r:=λx y=>c y x=true) (λh h'=>C.tr h' h) (a8a 1) (by rw[pN b];exact List.pairwise_singleton _ _) a b e
 rintro r st' ⟨rfl,n,rfl,k,I,V⟩;dsimp only;refine wpS_bind (wpS_modify ?_);have l:=aE8 ha I;have pm:((R.take n).reverse++R.drop n).Perm R:=by
  have:=(List.reverse_perm (R.take n)).append_right (R.drop n);rwa[List.take_append_drop]at this
 have lr:(R.take n).reverse.length=n:=by simp;lia
 have W:Srt c (((R.take n).reverse++R.drop n).take n):=by
  rw[List.take_append_of_le_length (by lia),a8c (by lia)];exact List.pairwise_reverse.mpr V
 rw[← pm.length_eq]at I ⊢;refine wpS_bind (bM1 C l (λx a=>f x (pm.mem_iff.mp a)) (u.perm pm.symm) (by lia) I W (λi n x z Q a b v w B D=>?_) λm m1 X Y _=>?_)
 ·refine wpS_bind (mK C d a b v w ?_);dsimp only;cases e:c x z with
  | true=>exact wpS_pure (B e)
  | false=>exact wpS_pure (D e)
 ·exact wpS_pure (q m _ _ (by lia) (by rw[← pm.length_eq];exact X) d rfl rfl l pm Y)
def xF(C:Cm M A s κ G c){p R:List Keyed}{n ok:Nat}{st:SortSt}{Q:Bool->SortSt->Prop}(N:PyProof.Rows.kindOf st=κ)(ha:(arrOf st).toList=p++R)(O:∀ x∈R,G x)(P:Dst c R)(S:1<=ok)(h2:ok<=n)(hn:n<=R.length)(hs:Srt c (R.take ok))
  (q:∀ (st':SortSt) R',PyProof.Rows.kindOf st'=κ->pendingOf st'=pendingOf st->failedOf st'=failedOf st->(arrOf st').toList=p++R'->R'.Perm R->Srt c (R'.take n)->Q true st'):wpS M A E s (binarySort' p.length n ok) Q st:=by
 refine wpS_bind (wpS_mono (wpS_forRange (λk (r:Option Bool×Unit) st'=>r=(none,())/\PyProof.Rows.kindOf st'=κ/\pendingOf st'=pendingOf st/\failedOf st'=failedOf st/\∃ R',(arrOf st').toList=p++R'/\R'.Perm R/\Srt c (R'.take k))
  (Q:=λr st'=>r=(none,())/\PyProof.Rows.kindOf st'=κ/\pendingOf st'=pendingOf st/\failedOf st'=failedOf st/\∃ R',(arrOf st').toList=p++R'/\R'.Perm R/\Srt c (R'.take n)) ?_ ?_ ⟨rfl,N,rfl,rfl,R,ha,.refl _,by rw[Nat.max_eq_left S];exact hs⟩) ?_)
 ·rintro k r b h3 h4 ⟨rfl,m,F,H,a,f,pm,s1⟩;have lR:=pm.length_eq;obtain⟨x,t,T⟩:=nM (show k < a.length by lia);have J:∀ x∈a,G x:=λx t=>O x (pm.mem_iff.mp t);refine wpS_bind (wpS_mono (wpS_forRange (λi (r:Option Bool×Nat×Nat) st'=>b=st'/\r.1=none/\r.2.1<=r.2.2/\r.2.2<=k/\r.2.2+i<=k+r.2.1/\(∀ z∈a.take r.2.1,c z x=true)/\(∀ z∈(a.take k).drop r.2.2,c x z=true))
   (Q:=λr st'=>b=st'/\r.1=none/\r.2.1<=k/\(∀ z∈a.take r.2.1,c z x=true)/\(∀ z∈(a.take k).drop r.2.1,c x z=true)) ?_ ?_ ⟨rfl,rfl,a1d _,a8a _,by dsimp only;lia,λz g=>by simp at g,λz g=>by simp at g⟩) ?_)
  ·rintro i ⟨o,l,r⟩ I h5 h6 ⟨rfl,rfl,w,d,j,y,B⟩;dsimp only at w d j y B ⊢;by_cases K:l ≥ r
   ·rw[a2H K];obtain rfl:l=r:=by lia
    exact wpS_pure ⟨rfl,rfl,d,y,B⟩
   rw[a2I K];obtain⟨z,g,U⟩:=nM (show(l+r) / 2 < a.length by lia);refine wpS_bind (mK C m (by rw[kI f];exact t) (by rw[kI f];exact g) (J x T) (J z U) ?_);dsimp only;have tk:(a.take k)[(l+r) / 2]? = some z:=by rw[List.getElem?_take,a2H (by lia)];exact g
   cases e:c x z with
   | true=>exact wpS_pure ⟨rfl,rfl,by dsimp only;lia,by dsimp only;lia,by dsimp only;lia,y,λu D=>(kB tk s1 u D).elim (λh=>h ▸ e) (C.tr e)⟩
   | false=>
     have L:c z x=true:=((P.perm pm.symm).two (show(l+r) / 2 < k by lia) g t).resolve_right (by rw[e];decide);refine wpS_pure ⟨rfl,rfl,by dsimp only;lia,by dsimp only;lia,by dsimp only;lia,λu D=>?_,B⟩;have:=iW tk s1 u (by rw[List.take_take,Nat.min_eq_left (by lia)];exact D);exact this.elim (λh=>h ▸ L) λh=>C.tr h L
  ·rintro⟨o,l,r⟩ I ⟨rfl,rfl,w,d,j,y,B⟩;dsimp only at w d j y B;obtain rfl:l=r:=by lia
   exact⟨rfl,rfl,d,y,B⟩
  rintro⟨o,l,r⟩ I ⟨rfl,rfl,w,d,j⟩;dsimp only at w d j ⊢;refine wpS_bind (wpS_modify (wpS_pure ⟨rfl,m,F,H,_,aE9 f t w,?_,?_⟩))
  ·have e:a=a.take l++((a.drop l).take (k-l)++(x::a.drop (k+1))):=by
    rw[← iJ t]
    conv=>lhs;rw[← List.take_append_drop l a]
    congr 1
    conv=>lhs;rw[← List.take_append_drop (k-l) (a.drop l)]
    rw[List.drop_drop,show l+(k-l)=k by lia]
   refine List.Perm.trans ?_ pm
   conv=>rhs;rw[e]
   exact List.Perm.append_left _ List.perm_middle.symm
  ·have V:(a.take l).length=l:=by simp;lia
   have t2:((a.drop l).take (k-l)).length=k-l:=by simp;lia
   have W:(a.take l++(x::((a.drop l).take (k-l)++a.drop (k+1)))).take (k+1)=a.take l++(x::(a.drop l).take (k-l)):=by
    rw[List.take_append,a8c (l:=a.take l) (by lia),V,show k+1-l=(k-l)+1 by lia,List.take_succ_cons,List.take_append_of_le_length (by lia),a8c (l:=(a.drop l).take (k-l)) (by lia)]
   rw[W];have s2:Srt c (a.take l++(a.drop l).take (k-l)):=by
    have:a.take k=a.take l++(a.drop l).take (k-l):=by
     conv=>lhs;rw[show k=l+(k-l) by lia,List.take_add]
    rw[← this];exact s1
   rw[List.drop_take]at j;obtain⟨X,Y,Z⟩:=List.pairwise_append.mp s2;refine List.pairwise_append.mpr ⟨X,a0f.mpr ⟨j,Y⟩,λu D v hv=>?_⟩;rcases a7b.mp hv with rfl | h;exact d u D;exact Z u D v h
 ·rintro r b ⟨rfl,m,F,H,a,f,pm,s1⟩;rw[show max (max ok 1) n=n by lia]at s1;exact⟨rfl,m,F,H,a,f,pm,s1⟩
 rintro r b ⟨rfl,m,F,H,a,f,pm,s1⟩;exact wpS_pure (q b a m F H f pm s1)
end
def Tl(c:Keyed->Keyed->Bool):Nat->List (Nat×Nat×Nat)->List Keyed->Prop
 | _,[],l=>l=[]
 | s,t::r,l=>t.1=s/\1<=t.2.1/\∃ X Y,l=X++Y/\X.length=t.2.1/\Srt c X/\Tl c (s+t.2.1) r Y
section
variable{c:Keyed->Keyed->Bool}
theorem Tl.app:∀ {L b:List (Nat×Nat×Nat)} {s:Nat} {l:List Keyed},Tl c s (L++b) l↔∃ X Y,l=X++Y/\Tl c s L X/\Tl c (s+X.length) b Y
 | [],b,s,l=>⟨λh=>⟨[],l,rfl,rfl,by simpa using h⟩,λ⟨X,Y,e,f,h⟩=>by
   have f:X=[]:=f;subst f;subst e;simpa using h⟩
 | t::L,b,s,l=>by
   constructor;rintro⟨g,i,X,Y,rfl,a,j,k⟩;obtain⟨U,V,rfl,d,m⟩:=Tl.app.mp k;exact⟨X++U,V,by simp,⟨g,i,X,U,rfl,a,j,d⟩,by rw[List.length_append,← Nat.add_assoc,a];exact m⟩;rintro⟨X,Y,rfl,⟨g,i,U,V,rfl,a,j,k⟩,d⟩;refine⟨g,i,U,V++Y,by simp,a,j,Tl.app.mpr ⟨V,Y,rfl,k,?_⟩⟩;rw[a9a,← Nat.add_assoc,a]at d;exact d
theorem Tl.like:∀ {L a:List (Nat×Nat×Nat)} {s:Nat} {l:List Keyed},L.map (λt=>(t.1,t.2.1))=a.map (λt=>(t.1,t.2.1))->Tl c s L l->Tl c s a l
 | [],[],_,_,_,h=>h
 | [],_::_,_,_,e,_=>by simp at e
 | _::_,[],_,_,e,_=>by simp at e
 | t::L,u::a,s,l,e,⟨d,f,X,Y,g,i,j,k⟩=>by
   simp only[List.map_cons,List.cons.injEq,Prod.mk.injEq]at e;obtain⟨⟨m,b⟩,n⟩:=e;exact⟨m ▸ d,b ▸ f,X,Y,g,b ▸ i,j,b ▸ Tl.like n k⟩
theorem Tl.le:∀ {L:List (Nat×Nat×Nat)} {s:Nat} {l:List Keyed},Tl c s L l->L.length<=l.length
 | [],_,_,_=>a1d _
 | t::L,s,l,⟨d,e,X,Y,a,f,g,b⟩=>by
   have:=Tl.le b;subst a;simp;lia
end
section
variable{M:Model}{A:Around}{E:Value->Shared->Prop}{s:Shared}{κ:SortKind}{G:Keyed->Prop}{c:Keyed->Keyed->Bool}
structure Std(κ:SortKind)(c:Keyed->Keyed->Bool)(a₀:List Keyed)(st:SortSt)(D R:List Keyed):Prop where
 k:PyProof.Rows.kindOf st=κ
 f:failedOf st=none
 a:(arrOf st).toList=D++R
 p:(D++R).Perm a₀
 t:Tl c 0 (pendingOf st).toList D
def bM2(C:Cm M A s κ G c){a₀:List Keyed}(J:∀ x∈a₀,G x)(K:Dst c a₀){st:SortSt}{D R:List Keyed}{i:Nat}{Q:Bool->SortSt->Prop}(h:Std κ c a₀ st D R)(hi:i+1 < (pendingOf st).size)
  (q:∀ st' l,Std κ c a₀ st' l R->(pendingOf st').size+1=(pendingOf st).size->l.length=D.length->Q true st'):wpS M A E s (mergeAt' i) Q st:=by
 obtain⟨L,b⟩:∃ L,(pendingOf st).toList=L:=⟨_,rfl⟩;have O:(pendingOf st).size=L.length:=by rw[← b];rfl
 obtain⟨t,m,-⟩:∃ t,L[i]? = some t/\True:=⟨L[i]'(by lia),a1a (by lia),trivial⟩;obtain⟨u,n,-⟩:∃ t,L[i+1]? = some t/\True:=⟨L[i+1]'(by lia),a1a (by lia),trivial⟩;have e:L=L.take i++(t::u::L.drop (i+1+1)):=by
  conv=>lhs;rw[← List.take_append_drop i L]
  congr 1;obtain⟨S,T⟩:=a0a.mp m;obtain⟨U,g4⟩:=a0a.mp n;rw[List.drop_eq_getElem_cons S,List.drop_eq_getElem_cons U,T,g4]
 have o:(L.take i).length=i:=by simp;lia
 generalize L.take i=r at e o;generalize L.drop (i+1+1)=L2 at e;have v:=h.t;rw[b,e]at v;obtain⟨P,V,eD,t1,t2⟩:=Tl.app.mp v;obtain⟨d,w,X,W,rfl,z,a4,B,F,Y,Z,rfl,H,b4,g⟩:=t2;subst eD;have pw:Dst c (P++(X++(Y++(Z++R)))):=K.perm (by have:=h.p.symm;simpa using this);obtain⟨sa,na,pa⟩:=t;obtain⟨sb,nb,pb⟩:=u;dsimp only at d w z B F H g;rw[a9e]at d g B;refine aQ2 (sa:=sa) (na:=na) (nb:=nb) (sb:=sb) (pa:=pa) (pb:=pb) (p:=P) (q:=Z++R) (X:=X) (Y:=Y) C h.k (λx j=>J x (h.p.mem_iff.mp (h.a ▸ j))) h.f (by rw[h.a];simp) d.symm z H (by lia) (by rw[← Array.getElem?_toList,b];exact m) (by rw[← a5b,b];exact n) w F a4 b4 (λx j y hy=>?_) λst' N k1 k2 k3 k4 I k6=>?_;have:=(List.pairwise_append.mp (List.pairwise_append.mp pw).2.1).2.2 x j y (by simp[hy]);exact this;have lN:N.length=na+nb:=by rw[I.length_eq,a9a];lia
 have pl:(pendingOf st').toList=r++((sa,na+nb,pa)::L2):=by
  rw[k3];have:((pendingOf st).setIfInBounds i (sa,na+nb,pa)).eraseIdxIfInBounds (i+1)=((pendingOf st).setIfInBounds i (sa,na+nb,pa)).eraseIdx (i+1) (by simpa using hi):=by
   rw[Array.eraseIdxIfInBounds,dif_pos]
  rw[this,Array.toList_eraseIdx,Array.toList_setIfInBounds,b,e,← o];simp[List.set_append_right,List.eraseIdx_append_of_length_le]
 refine q st' (P++(N++Z)) ⟨k1,k2,by rw[k4];simp,?_,?_⟩ ?_ ?_;refine List.Perm.trans ?_ h.p;simp only[List.append_assoc];exact List.Perm.append_left _ (by have:=I.append_right (Z++R);simpa using this);rw[pl];exact Tl.app.mpr ⟨P,N++Z,rfl,t1,by lia,by dsimp only;lia,N,Z,rfl,lN,k6,by dsimp only;rw[a9e,← Nat.add_assoc];exact g⟩
 ·have:(pendingOf st').size=(r++((sa,na+nb,pa)::L2)).length:=by rw[← pl];rfl
  rw[this,O,e];simp;lia
 ·simp;lia
end
section
variable{M:Model}{A:Around}{E:Value->Shared->Prop}{s:Shared}{κ:SortKind}{G:Keyed->Prop}{c:Keyed->Keyed->Bool}
theorem _root_.List.map_modify_same{b c:Type}(g:b->c)(f:b->b)(h:∀ a,g (f a)=g a):∀ (l:List b) (i:Nat),(l.modify i f).map g=l.map g
 | [],_=>by simp
 | a::l,0=>by simp[h]
 | a::l,i+1=>by simp[List.map_modify_same g f h l i]
def aK0{P:Prop}[Decidable P]{n:Nat}(h:¬ n<=1):(if P then n-2-1 else n-2)+1 < n:=by split<;>lia
def aF1(C:Cm M A s κ G c){st:SortSt}{Q:Unit->SortSt->Prop}(hk:PyProof.Rows.kindOf st=κ)(hp:pendingOf st=#[])(hf:failedOf st=none)(hg:∀ x∈(arrOf st).toList,G x)(hD:Dst c (arrOf st).toList)
  (q:∀ st',failedOf st'=none->(arrOf st').toList.Perm (arrOf st).toList->Srt c (arrOf st').toList->Q () st'):wpS M A E s sortRuns' Q st:=by
 obtain⟨N,hN⟩:∃ N,(arrOf st).size=N:=⟨_,rfl⟩;have lz:(arrOf st).toList.length=N:=hN;have sz:∀ {st' D R},Std κ c (arrOf st).toList st' D R->D.length+R.length=N:=λh=>by have:=h.p.length_eq;rw[a9a]at this;lia
 refine wpS_bind (wpS_get ?_);dsimp only;rw[hN];generalize (sortPriv% PySem.Builtin.minRun) N N 0=S;refine wpS_bind (wpS_mono (wpS_forRange (λi (r:Option Unit×Nat) st'=>r.1=none/\i<=r.2/\∃ D R,Std κ c (arrOf st).toList st' D R/\D.length=r.2)
  (Q:=λr st'=>r.1=none/\∃ D,Std κ c (arrOf st).toList st' D []) ?_ ?_ ⟨rfl,a8a _,[],(arrOf st).toList,⟨hk,hf,rfl,.refl _,by rw[hp];exact rfl⟩,rfl⟩) ?_)
 ·rintro i ⟨o,lo⟩ y-hi ⟨rfl,h1,D,R,v,T⟩;dsimp only at h1 T ⊢;have e1:=sz v;by_cases B:lo ≥ N;rw[a2H B];have:R=[]:=a7c (by lia);subst this;exact wpS_pure ⟨rfl,D,v⟩
  rw[a2I B];subst T;have gR:∀ {F:List Keyed},F.Perm R->∀ x∈F,G x:=λh x hx=>hg x (v.p.mem_iff.mp (a3c.mpr (.inr (h.mem_iff.mp hx))));have dR:∀ {F:List Keyed},F.Perm R->Dst c F:=λh=>(List.pairwise_append.mp (hD.perm v.p.symm)).2.1.perm h.symm λh=>h.symm;rw[show N-D.length=R.length by lia];refine wpS_bind (aF0 C v.k v.a (gR (.refl _)) (dR (.refl _)) (by lia) λn g R2 n1 n2 U V W Z z k6=>?_);dsimp only;have nx:∀ (n:Nat) (d:SortSt) (j:List Keyed),1<=n->n<=R.length->PyProof.Rows.kindOf d=κ->pendingOf d=pendingOf y->failedOf d=failedOf y->(arrOf d).toList=D++j->j.Perm R->Srt c (j.take n)->Std κ c (arrOf st).toList d D j:=λn d j n1 n2 U V W Z z k6=>
   ⟨U,W.trans v.f,Z,(z.append_left D).trans v.p,by rw[V];exact v.t⟩
  by_cases b2:n < S
  case' pos=>
   rw[a2H b2];refine wpS_bind (wpS_lift (a2U ⟨rfl,?_⟩));refine wpS_bind (xF C U Z (gR z) (dR z) n1 (by lia) (by rw[z.length_eq];lia) k6 λd j j1 j2 j3 j4 H I=>?_);rw[a2I (by decide)];have m1:1<=min R.length S:=by lia
   have m2:min R.length S<=R.length:=by lia
   generalize min R.length S=n at m1 m2 I ⊢;have J:=nx n d j m1 m2 j1 (j2.trans V) (j3.trans W) j4 (H.trans z) I
   replace H:=H.trans z
  case' neg=>
   rw[a2I b2];have J:=nx n g R2 n1 n2 U V W Z z k6;have m1:=n1;have m2:=n2;have I:=k6;have H:=z;generalize g=d at J ⊢;generalize R2=j at J H I
  all_goals
   refine wpS_bind (wpS_get ?_);have pu:∀ (b l:SortSt) (D4:List Keyed),Std κ c (arrOf st).toList b D4 j->D4.length=D.length->PyProof.Rows.kindOf l=PyProof.Rows.kindOf b->failedOf l=failedOf b->arrOf l=arrOf b->(pendingOf l).toList.map (λt=>(t.1,t.2.1))=(pendingOf b).toList.map (λt=>(t.1,t.2.1))++[(D.length,n)] ->
     (none:Option Unit)=none/\i+1<=D.length+n/\∃ D' F,Std κ c (arrOf st).toList l D' F/\D'.length=D.length+n:=λb l D4 w m K y2 y3 y4=>by
    have lt:(j.take n).length=n:=by rw[a8e,H.length_eq];lia
    have ee:D4++j.take n++j.drop n=D4++j:=by rw[List.append_assoc,List.take_append_drop]
    refine⟨rfl,by lia,D4++j.take n,j.drop n,⟨K.trans w.k,y2.trans w.f,by rw[y3,ee];exact w.a,by rw[ee];exact w.p,Tl.like (L:=(pendingOf b).toList++[(D.length,n,0)]) (by rw[y4,a3d];rfl) (Tl.app.mpr ⟨D4,j.take n,rfl,w.t,by dsimp only;lia,m1,j.take n,[],by simp,lt,I,rfl⟩)⟩,by rw[List.length_append];lia⟩
   cases e:(pendingOf d).back? with
   | none=>
     exact wpS_bind (wpS_modify (wpS_pure (pu d _ D J rfl rfl rfl rfl (by show((pendingOf d).push _).toList.map _=_;rw[a6g,a3d];rfl))))
   | some t=>
     obtain⟨s1,n1,w1⟩:=t;dsimp only;refine wpS_bind (wpS_mono (wpS_forRange (λi (r:Option Unit×Unit) st'=>r=(none,())/\∃ D4,Std κ c (arrOf st).toList st' D4 j/\D4.length=D.length)
      (Q:=λr st'=>r=(none,())/\∃ D4,Std κ c (arrOf st).toList st' D4 j/\D4.length=D.length) ?_ ?_ ⟨rfl,D,J,rfl⟩) ?_)
     ·rintro i r b-hi ⟨rfl,D4,w,m⟩;refine wpS_bind (wpS_get ?_);by_cases b3:(pendingOf b).size > 1;rw[a2H b3,a9b (show(pendingOf b).size-2 < (pendingOf b).size by lia)];dsimp only;refine pL ?_ ?_;exact wpS_pure ⟨rfl,D4,w,m⟩;exact wpS_bind (bM2 C hg hD w (show(pendingOf b).size-2+1 < (pendingOf b).size by lia) λl D5 K _ y3=>by rw[a2I (by decide)];exact wpS_pure ⟨rfl,D5,K,y3.trans m⟩);rw[a2I b3];exact wpS_pure ⟨rfl,D4,w,m⟩
     ·exact λr b h=>h
     ·rintro r b ⟨rfl,D4,w,m⟩;refine wpS_bind (wpS_modify (wpS_bind (wpS_modify (wpS_pure (pu b _ D4 w m rfl rfl rfl ?_)))));show(((pendingOf b).modify _ _).push _).toList.map _=_;rw[a6g,a3d,Array.toList_modify,List.map_modify_same (λt:Nat×Nat×Nat=>(t.1,t.2.1))];rfl;exact λt=>rfl
 ·rintro⟨o,lo⟩ y ⟨rfl,h1,D,R,v,T⟩;have e1:=sz v;dsimp only at h1 T;have:R=[]:=a7c (by lia);subst this;exact⟨rfl,D,v⟩
 ·rintro⟨o,lo⟩ y ⟨rfl,D,v⟩;dsimp only;refine wpS_bind (wpS_mono (wpS_forRange (λi (r:Option Unit×Unit) st'=>r=(none,())/\(pendingOf st').size+i<=N/\∃ D,Std κ c (arrOf st).toList st' D [])
   (Q:=λr st'=>r=(none,())/\(pendingOf st').size<=1/\∃ D,Std κ c (arrOf st).toList st' D []) ?_ ?_ ⟨rfl,by have h5:(pendingOf y).size<=D.length:=v.t.le;have h6:=sz v;rw[List.length_nil]at h6;lia,D,v⟩) ?_)
  ·rintro i r g-hi ⟨rfl,w,O,m⟩;refine wpS_bind (wpS_get ?_);by_cases B:(pendingOf g).size<=1;rw[a2H B];exact wpS_pure ⟨rfl,B,O,m⟩
   rw[a2I B];refine wpS_bind (bM2 C hg hD m (aK0 B) λl D5 K y2 y3=>by rw[a2I (by decide)];exact wpS_pure ⟨rfl,by lia,D5,K⟩)
  ·rintro r g ⟨rfl,w,O,m⟩;exact⟨rfl,by lia,O,m⟩
  ·rintro r g ⟨rfl,w,O,m⟩;refine wpS_pure (q g m.f (by rw[m.a];exact m.p) ?_);rw[m.a,a2f];have t:=m.t;have P:(pendingOf g).toList.length<=1:=w;cases e:(pendingOf g).toList with
   | nil=>rw[e]at t;have t:O=[]:=t;rw[t];exact .nil
   | cons u r=>
     rw[e]at t P;have:r=[]:=a7c (by simpa using P);subst this;obtain⟨_,_,X,Y,rfl,_,sX,hY⟩:=t;have hY:Y=[]:=hY;rw[hY,a2f];exact sX
end
end So
namespace Sx
open PySem PySem.SetTable
noncomputable def gS:Nat->Nat
 | 0=>0
 | n+1=>5*gS n+1
def zK(n:Nat):4*gS n+1=5 ^ n:=by
 induction n with
 | zero=>rfl
 | succ n a=>rw[a4g,← a];show 4*(5*gS n+1)+1=_;lia
def bM3(a b:Nat):gS (a+b)=gS a*5 ^ b+gS b:=by
 have d:=zK (a+b);have c:=zK a;have e:=zK b;have f:(5:Nat) ^ (a+b)=5 ^ a*5 ^ b:=Nat.pow_add ..;have g:4*(gS a*5 ^ b)+5 ^ b=5 ^ a*5 ^ b:=by rw[← c,Nat.add_mul,Nat.one_mul,a1j]
 lia
def aK1(n:Nat):5 ^ n % 4=1:=by
 have:=zK n;lia
def cH7(n:Nat)(h:n % 2=1):gS n % 2=1:=by
 have a:∀ m,gS m % 2=m % 2:=λm=>by
  induction m with
  | zero=>rfl
  | succ m b=>show(5*gS m+1) % 2=_;lia
 rw[a n,h]
def vZ{a b k:Nat}(hb:b % 2=1)(h:2 ^ k ∣ a*b):2 ^ k ∣ a:=by
 have c:Nat.Coprime (2 ^ k) b:=by
  refine Nat.Coprime.pow_left k ?_;have:Nat.gcd 2 b=1:=by
   rw[Nat.gcd_rec,hb];rfl
  exact this
 exact Nat.Coprime.dvd_of_dvd_mul_right c h
theorem bM4:∀ (k n:Nat),2 ^ k ∣ gS n->2 ^ k ∣ n
 | 0,n,_=>by rw[Nat.pow_zero];exact Nat.one_dvd n
 | k+1,n,h=>by
   rcases Nat.mod_two_eq_zero_or_one n with e | e
   ·obtain⟨m,rfl⟩:∃ m,n=m+m:=⟨n / 2,by lia⟩;rw[bM3]at h;have f:=aK1 m;obtain⟨q,a⟩:∃ q,5 ^ m+1=2*q:=⟨(5 ^ m+1) / 2,by lia⟩;have b:q % 2=1:=by lia
    have c:gS m*5 ^ m+gS m=2*(gS m*q):=by
     have:gS m*5 ^ m+gS m=gS m*(5 ^ m+1):=by rw[Nat.mul_add,Nat.mul_one]
     rw[this,a,Nat.mul_left_comm]
    rw[c,a4g,a9h (2 ^ k) 2]at h;have d:2 ^ k ∣ gS m*q:=Nat.dvd_of_mul_dvd_mul_left (by decide) h;have g:=bM4 k m (vZ b d);have i:m+m=2*m:=by lia
    rw[i,a4g,a9h (2 ^ k) 2];exact Nat.mul_dvd_mul_left 2 g
   ·exfalso;have o:=cH7 n e;have:2 ∣ gS n:=Nat.dvd_trans ⟨2 ^ k,by rw[a4g,a9h]⟩ h;lia
noncomputable def stp(k:Nat):Nat->Nat->Nat
 | 0,x=>x % 2 ^ k
 | n+1,x=>(5*stp k n x+1) % 2 ^ k
def aX7(k n x:Nat):stp k n x=(5 ^ n*x+gS n) % 2 ^ k:=by
 induction n with
 | zero=>simp[stp,gS]
 | succ n a=>
   show(5*stp k n x+1) % 2 ^ k=_;rw[a];have e:5 ^ (n+1)*x+gS (n+1)=5*(5 ^ n*x+gS n)+1:=by
    show _+(5*gS n+1)=_;rw[a4g,a9h (5 ^ n) 5,a1j,Nat.mul_add];lia
   rw[e,Nat.add_mod,Nat.mul_mod];simp[Nat.mul_mod,Nat.add_mod]
def aX8{k x a b:Nat}(ha:a < b)(hb:b < 2 ^ k)(h:stp k a x=stp k b x):False:=by
 rw[aX7,aX7]at h;obtain⟨d,rfl⟩:∃ d,b=a+d:=⟨b-a,by lia⟩;have hd:2 ^ k ∣ (5 ^ (a+d)*x+gS (a+d))-(5 ^ a*x+gS a):=by
  exact Nat.dvd_of_mod_eq_zero (Nat.sub_mod_eq_zero_of_mod_eq h.symm)
 have e:(5 ^ (a+d)*x+gS (a+d))-(5 ^ a*x+gS a)=gS d*((4*x+1)*5 ^ a):=by
  have c:=zK d;have g:5 ^ (a+d)*x=gS d*(4*x*5 ^ a)+5 ^ a*x:=by
   rw[Nat.pow_add,← c,a1j,Nat.add_mul,Nat.one_mul,Nat.mul_add];congr 1;rw[a9h (4*x),a9h 4 (gS d),a1j,Nat.mul_left_comm]
  have i:gS (a+d)=gS d*5 ^ a+gS a:=by rw[Nat.add_comm a d,bM3]
  rw[g,i,Nat.add_mul,Nat.one_mul,Nat.mul_add];lia
 rw[e]at hd;have j:((4*x+1)*5 ^ a) % 2=1:=by
  have f:=aK1 a;rw[Nat.mul_mod];have:5 ^ a % 2=1:=by lia
  have:(4*x+1) % 2=1:=by lia
  simp[*]
 have:=Nat.le_of_dvd (by lia) (bM4 k d (vZ j hd));lia
theorem xG:∀ (N:Nat) (f:Nat->Nat),(∀ i,i < N->f i < N)->(∀ i j,i < j->j < N->f i≠f j)->∀ c,c < N->∃ i,i < N/\f i=c
 | 0,_,_,_,c,h=>absurd h (a5i c)
 | N+1,f,hb,hi,c,p=>by
   by_cases k:∃ i,i < N+1/\f i=c;exact k
   ·exfalso
    -- with c left out,and N in its place
    have a:∀ i,i < N+1->f i≠c:=λi h e=>k ⟨i,h,e⟩
    let g:Nat->Nat:=λi=>if f i=N then c else f i
    have l:∀ i,i < N+1->g i < N:=λi h=>by
     show(if f i=N then c else f i) < N;have n:=hb i h;have o:=a i h;split;lia;lia
    have m:∀ i j,i < j->j < N+1->g i≠g j:=λi j b hj=>by
     show(if f i=N then c else f i)≠if f j=N then c else f j
     have n:=hi i j b hj;have o:=a i (by lia);have q:=a j hj;split<;>split<;>lia
    obtain⟨i,d,e⟩:=xG N g (λi h=>l i (by lia)) (λi j b hj=>m i j b (by lia)) (g N) (l N (by lia));exact m i N d (by lia) e
def bV0{k x c:Nat}(b:c < 2 ^ k):∃ n,n < 2 ^ k/\stp k n x=c:=
 xG (2 ^ k) (λn=>stp k n x) (λi _=>by show stp k i x < _;rw[aX7];exact Nat.mod_lt _ (Nat.two_pow_pos k)) (λi j a hj e=>aX8 a hj e) c b
noncomputable def adv(mask:Nat)(p:Probe):Probe:=
 if p.more > 0 then{p with j:=p.j+1,more:=p.more-1}else
 {p with j:=(leap mask p.i p.perturb).1,more:=runEnd mask (leap mask p.i p.perturb).1-(leap mask p.i p.perturb).1,i:=(leap mask p.i p.perturb).1,perturb:=(leap mask p.i p.perturb).2}
noncomputable def wk0(mask:Nat)(h:Int):Probe:=⟨bits h % (mask+1),runEnd mask (bits h % (mask+1))-bits h % (mask+1),bits h % (mask+1),bits h,none⟩
noncomputable def wk(mask:Nat)(h:Int):Nat->Probe
 | 0=>wk0 mask h
 | n+1=>adv mask (wk mask h n)
noncomputable def lp(mask:Nat)(h:Int):Nat->Nat×Nat
 | 0=>(bits h % (mask+1),bits h)
 | l+1=>leap mask (lp mask h l).1 (lp mask h l).2
noncomputable def pX(mask i:Nat):Nat:=runEnd mask i-i
def bV1(mask i:Nat):pX mask i<=9:=by unfold pX runEnd;split<;>lia
noncomputable def tm(mask:Nat)(h:Int):Nat->Nat
 | 0=>0
 | l+1=>tm mask h l+pX mask (lp mask h l).1+1
def cP9(mask:Nat)(h:Int)(l:Nat):tm mask h l<=10*l:=by
 induction l with
 | zero=>exact a8a _
 | succ l a=>
   have:=bV1 mask (lp mask h l).1;show tm mask h l+pX mask (lp mask h l).1+1<=_;lia
theorem aX9{mask:Nat}{h:Int}{l:Nat}(e:wk mask h (tm mask h l)=⟨(lp mask h l).1,pX mask (lp mask h l).1,(lp mask h l).1,(lp mask h l).2,none⟩) :
  ∀ r,r<=pX mask (lp mask h l).1->wk mask h (tm mask h l+r)=⟨(lp mask h l).1+r,pX mask (lp mask h l).1-r,(lp mask h l).1,(lp mask h l).2,none⟩
 | 0,_=>e
 | r+1,b=>by
   have a:=aX9 e r (by lia);show adv mask (wk mask h (tm mask h l+r))=_;rw[a];unfold adv;rw[a2H (by show pX mask (lp mask h l).1-r > 0;lia)];congr 1
theorem aF2(mask:Nat)(h:Int):∀ l,wk mask h (tm mask h l)=⟨(lp mask h l).1,pX mask (lp mask h l).1,(lp mask h l).1,(lp mask h l).2,none⟩
 | 0=>rfl
 | l+1=>by
   have a:=aX9 (aF2 mask h l) (pX mask (lp mask h l).1) (a8a _);show adv mask (wk mask h (tm mask h l+pX mask (lp mask h l).1))=_;rw[a];unfold adv;rw[a2I (by show ¬ pX mask (lp mask h l).1-pX mask (lp mask h l).1 > 0;lia)];rfl
theorem aY0(mask:Nat)(h:Int):∀ l,(lp mask h l).2=bits h / 32 ^ l
 | 0=>by show bits h=_;simp
 | l+1=>by
   show(lp mask h l).2 / 32=_;rw[aY0 mask h l,Nat.div_div_eq_div_mul,a4g]
def bV2(h:Int):bits h < 2 ^ 64:=by
 unfold bits;have a:=a9i h (b:=2 ^ 64) (by decide);have c:=a4i h (b:=2 ^ 64) (by decide);lia
def bV3(mask:Nat)(h:Int){l:Nat}(a:13<=l):(lp mask h l).2=0:=by
 rw[aY0];refine Nat.div_eq_of_lt (a1c (bV2 h) ?_);refine a6b (by decide:2 ^ 64<=32 ^ 13) (Nat.pow_le_pow_right (by decide) a)
def cH8(mask:Nat)(h:Int):∀ l,(lp mask h l).1 < mask+1
 | 0=>Nat.mod_lt _ (Nat.succ_pos _)
 | l+1=>Nat.mod_lt _ (Nat.succ_pos _)
theorem aY1{mask k:Nat}(a:mask+1=2 ^ k)(h:Int):∀ n,(lp mask h (13+n)).1=stp k n (lp mask h 13).1
 | 0=>by
   show _=_ % 2 ^ k;rw[Nat.mod_eq_of_lt (by rw[← a];exact cH8 mask h 13)]
 | n+1=>by
   have e:(lp mask h (13+(n+1))).1=((lp mask h (13+n)).1*5+1+(lp mask h (13+n)).2 / 32) % (mask+1):=rfl;rw[e,bV3 mask h (by lia),aY1 a h n,a];show _=(5*stp k n _+1) % 2 ^ k;rw[a9h 5]
def aY2{mask i:Nat}(hi:i<=mask)(r:Nat)(a:r<=pX mask i):i+r<=mask:=by
 unfold pX runEnd at a;split at a<;>lia
theorem bV4{mask:Nat}(h:Int):∀ n,(wk mask h n).dummy=none/\(wk mask h n).j+(wk mask h n).more<=mask
 | 0=>⟨rfl,by
   have a:bits h % (mask+1)<=mask:=Nat.le_of_lt_succ (Nat.mod_lt _ (Nat.succ_pos _));exact aY2 a _ (a8a _)⟩
 | n+1=>by
   obtain⟨a,b⟩:=bV4 (mask:=mask) h n;show(adv mask (wk mask h n)).dummy=none/\(adv mask (wk mask h n)).j+(adv mask (wk mask h n)).more<=mask;unfold adv;split;refine⟨a,?_⟩;show(wk mask h n).j+1+((wk mask h n).more-1)<=mask;lia;refine⟨a,?_⟩;exact aY2 (Nat.le_of_lt_succ (Nat.mod_lt _ (Nat.succ_pos _))) _ (a8a _)
def cH9{mask:Nat}(h:Int)(n:Nat):(wk mask h n).j<=mask:=by
 have:=(bV4 (mask:=mask) h n).2;lia
def Ris(xs:Array Nat):Prop:=∀ (i j:Nat) (a b:Nat),i < j->xs[i]? = some a->xs[j]? = some b->a < b
structure Cut(xs:Array Nat)(j r:Nat):Prop where
 le:r<=xs.size
 lo:∀ (i a:Nat),i < r->xs[i]? = some a->a < j
 hi:∀ (i a:Nat),r<=i->xs[i]? = some a->j<=a
theorem xH{xs:Array Nat}{j:Nat}(hs:Ris xs):∀ (b lo hi:Nat),hi-lo<=b->lo<=hi->hi<=xs.size->(∀ (i a:Nat),i < lo->xs[i]? = some a->a < j)->(∀ (i a:Nat),hi<=i->xs[i]? = some a->j<=a)->Cut xs j (below.go xs j b lo hi)
 | 0,lo,hi,hf,hl,c,d,f=>by
   have:lo=hi:=by lia
   subst this;exact⟨c,d,f⟩
 | b+1,lo,hi,hf,hl,c,d,f=>by
   unfold below.go;split
   ·rename_i k;have hm:(lo+hi) / 2 < xs.size:=by lia
    have em:xs[(lo+hi) / 2]? = some xs[(lo+hi) / 2]:=a9b hm;have l:xs.getD ((lo+hi) / 2) j=xs[(lo+hi) / 2]:=by rw[a9g,em];rfl
    dsimp only;rw[l];split;rename_i g;refine xH hs b _ hi (by lia) (by lia) c (λi a h e=>?_) f;by_cases z:i=(lo+hi) / 2;subst z;rw[em]at e;cases e;exact g;exact a3g (hs i _ a _ (by lia) e em) g;rename_i g;refine xH hs b lo _ (by lia) (by lia) (by lia) d (λi a h e=>?_);by_cases z:i=(lo+hi) / 2;subst z;rw[em]at e;cases e;lia;have:=hs _ i _ a (by lia) em e;lia
   ·have:lo=hi:=by lia
    subst this;exact⟨c,d,f⟩
def iK{xs:Array Nat}(hs:Ris xs)(j:Nat):Cut xs j (below xs j):=
 xH hs _ _ _ (by lia) (by lia) (a8a _) (λi a h _=>absurd h (a5i _)) λi a h e=>by
  have:=(a4e.mp e).1;lia
def fL{xs:Array Nat}(hs:Ris xs){i j:Nat}(h:xs[i]? = some j):below xs j=i:=by
 have c:=iK hs j;have b:below xs j<=i:=by
  refine a7i λz=>?_;have:=c.lo i j z h;lia
 have d:i<=below xs j:=by
  refine a7i λz=>?_;have hb:below xs j < xs.size:=a3g z (a4e.mp h).1;have a:xs[below xs j]? = some xs[below xs j]:=a9b hb;have:=hs _ i _ j z a h;have:=c.hi _ _ (a8a _) a;lia
 lia
def pO{t:SetTable}(hs:Ris t.place){i j:Nat}(h:t.place[i]? = some j):t.slot j=.live i:=by
 unfold slot;dsimp only;rw[fL hs h,h];simp
def aQ3{t:SetTable}(hd:t.dummies=#[]){j:Nat}(h:∀ i:Nat,t.place[i]? ≠ some j):t.slot j=.empty:=by
 unfold slot;dsimp only;rw[a2I (by simpa using h _),if_neg (by rw[hd];simp[has])]
def Occ(t:SetTable)(j:Nat):Prop:=∃ i:Nat,t.place[i]? = some j
structure TOk(t:SetTable)(hs:List Int):Prop where
 pw:∃ k,t.mask+1=2 ^ k
 m7:7<=t.mask
 dm:t.dummies=#[]
 ri:Ris t.place
 lt:∀ (i j:Nat),t.place[i]? = some j->j<=t.mask
 len:t.place.size=hs.length
 fit:t.place.size<=t.mask
 rea:∀ (i:Nat) h,hs[i]? = some h->∃ m j,t.place[i]? = some j/\(wk t.mask h m).j=j/\∀ m',m' < m->Occ t (wk t.mask h m').j
section
variable{t:SetTable}{hs:List Int}
end
theorem aY3{t:SetTable}{hs:List Int}(T:TOk t hs){h:Int}{hashAt:Nat->Int}{M:Nat}(q:¬ Occ t (wk t.mask h M).j)(hb:∀ m,m < M->Occ t (wk t.mask h m).j) :
  ∀ (a n:Nat),n<=M->M-n < a ->
    (∃ m i,n<=m/\m < M/\t.place[i]? = some (wk t.mask h m).j/\hashAt i=h/\(∀ m' b,n<=m'->m' < m->t.place[b]? = some (wk t.mask h m').j->hashAt b≠h)/\probe.go t hashAt h a (wk t.mask h n)=some (.candidate (wk t.mask h m).j i (wk t.mask h (m+1)))) \/
    ((∀ m' b,n<=m'->m' < M->t.place[b]? = some (wk t.mask h m').j->hashAt b≠h)/\probe.go t hashAt h a (wk t.mask h n)=some (.empty (wk t.mask h M).j none))
 | 0,n,_,hf=>by lia
 | a+1,n,hn,hf=>by
   have g:=(bV4 (mask:=t.mask) h n).1;unfold probe.go;by_cases k:n=M;subst k;refine .inr ⟨λm' b l c=>by lia,?_⟩;have:t.slot (wk t.mask h n).j=.empty:=aQ3 T.dm λi e=>q ⟨i,e⟩;rw[this];dsimp only;rw[g]
   ·obtain⟨i,o⟩:=hb n (by lia);have p:=pO T.ri o;rw[p];dsimp only;by_cases d:hashAt i=h;refine .inl ⟨n,i,a8a _,by lia,o,d,λm' b l c=>by lia,?_⟩;rw[a2H (by simpa using d)];rfl
    ·rw[a2I (by simpa using d)];have f:∀ b,t.place[b]? = some (wk t.mask h n).j->b=i:=λb e=>by
      rw[← fL T.ri e,← fL T.ri o]
     rcases aY3 T q hb a (n+1) (by lia) (by lia)with⟨m,i2,a1,a2,r,s,u,v⟩ | ⟨a1,a2⟩;refine .inl ⟨m,i2,by lia,a2,r,s,λm' b l c e=>?_,v⟩;by_cases z:m'=n;subst z;rw[f b e];exact d;exact u m' b (by lia) c e;refine .inr ⟨λm' b l c e=>?_,a2⟩;by_cases z:m'=n;subst z;rw[f b e];exact d;exact a1 m' b (by lia) c e
def fO{b:Type}(xs:Array b){p:Nat}(h:p<=xs.size)(x:b)(i:Nat):(insertAt xs p x)[i]? = if i < p then xs[i]? else if i=p then some x else xs[i-1]?:=by
 rw[← a5b,toList_insertAt];have e:(xs.toList.take p).length=p:=by rw[a8e,a0d];lia
 by_cases a:i < p;rw[a2H a,a6c (by lia),List.getElem?_take_of_lt a,a5b];rw[a2I a,a2b (by lia),e];by_cases c:i=p;subst c;rw[a2H rfl,Nat.sub_self];rfl;rw[a2I c];obtain⟨d,rfl⟩:∃ d,i=p+1+d:=⟨i-p-1,by lia⟩;have f:p+1+d-p=d+1:=by lia
 have g:p+1+d-1=p+d:=by lia
 rw[f,g,a2d,List.getElem?_drop,a5b]
def nU{a:Type}(xs:Array a){p:Nat}(b:p<=xs.size)(x:a):(insertAt xs p x).size=xs.size+1:=by
 rw[← a0d,toList_insertAt,a9a,a2h,a8e,a9f,a0d];lia
noncomputable def aF3{α:Type}(l:List α)(p:Nat)(x:α):List α:=l.take p++x::l.drop p
def aK2{a:Type}(l:List a){p:Nat}(b:p<=l.length)(x:a)(i:Nat):(aF3 l p x)[i]? = if i < p then l[i]? else if i=p then some x else l[i-1]?:=by
 have:=fO l.toArray (p:=p) (by simpa using b) x i;rw[← a5b,toList_insertAt]at this;simpa[aF3]using this
def pP{a:Type}(l:List a){p:Nat}(b:p<=l.length)(x:a):(aF3 l p x).length=l.length+1:=by
 unfold aF3;rw[a9a,a2h,a8e,a9f];lia
section
variable{t:SetTable}{hs:List Int}{h:Int}{M:Nat}
def zL(t:SetTable)(j:Nat)(hd:t.dummies=#[]):t.put j=({t with place:=insertAt t.place (below t.place j) j},below t.place j):=by
 unfold put;dsimp only;rw[hd];rfl
def bV5{t t':SetTable}{j c:Nat}(a:below t.place j<=t.place.size)(e:t'.place=insertAt t.place (below t.place j) j):Occ t' c↔Occ t c\/c=j:=by
 constructor;rintro⟨i,hi⟩;rw[e,fO _ a]at hi;split at hi;exact .inl ⟨i,hi⟩;split at hi;exact .inr (a5a hi).symm;exact .inl ⟨i-1,hi⟩;rintro(⟨i,hi⟩ | rfl);by_cases hb:i < below t.place j;exact⟨i,by rw[e,fO _ a,a2H hb];exact hi⟩;exact⟨i+1,by rw[e,fO _ a,a2I (by lia),a2I (by lia)];exact hi⟩;exact⟨below t.place c,by rw[e,fO _ a,a2I (by lia),a2H rfl]⟩
theorem TOk.put(T:TOk t hs)(r:¬ Occ t (wk t.mask h M).j)(hb:∀ m,m < M->Occ t (wk t.mask h m).j)(s:t.place.size+1<=t.mask) :
  TOk (t.put (wk t.mask h M).j).1 (aF3 hs (below t.place (wk t.mask h M).j) h):=by
 have c:=iK T.ri (wk t.mask h M).j;rw[zL t _ T.dm];have l:=c.le;have n:below t.place (wk t.mask h M).j<=hs.length:=by rw[← T.len];exact l
 have g:∀ x,Occ {t with place:=insertAt t.place (below t.place (wk t.mask h M).j) (wk t.mask h M).j} x↔Occ t x\/x=(wk t.mask h M).j:=λx=>bV5 l rfl;refine⟨T.pw,T.m7,T.dm,?_,?_,?_,?_,?_⟩
 ·intro D u a b hi f d;have q:∀ i a,t.place[i]? = some a->a≠(wk t.mask h M).j:=λi a e z=>r ⟨i,by rw[e,z]⟩;dsimp only at f d;rw[fO _ l]at f d;generalize (wk t.mask h M).j=j at *;split at f;split at d;exact T.ri _ _ _ _ hi f d;split at d;cases d;exact c.lo _ _ (by assumption) f;exact T.ri _ _ _ _ (by lia) f d;split at f;cases f;rw[a2I (by lia),a2I (by lia)]at d;have E:=c.hi _ _ (by lia:below t.place a<=u-1) d;have F:=q _ _ d;lia;rw[a2I (by lia),a2I (by lia)]at d;exact T.ri _ _ _ _ (by lia) f d
 ·intro i j e;rcases(g j).mp ⟨i,e⟩with⟨v,w⟩ | rfl;exact T.lt v j w;exact cH9 h M
 ·show(insertAt _ _ _).size=_;rw[nU _ l,pP _ n,T.len]
 ·show(insertAt _ _ _).size<=_;rw[nU _ l];exact s
 ·intro i h' e;rw[aK2 _ n]at e;show ∃ m j,(insertAt t.place (below t.place (wk t.mask h M).j) (wk t.mask h M).j)[i]? = some j/\_;rw[fO _ l];have o:∀ p,hs[p]? = some h'->∃ m j,t.place[p]? = some j/\(wk t.mask h' m).j=j/\∀ m',m' < m->Occ {t with place:=insertAt t.place (below t.place (wk t.mask h M).j) (wk t.mask h M).j} (wk t.mask h' m').j:=λp y=>by
   obtain⟨m,j,A,B,C⟩:=T.rea p h' y;exact⟨m,j,A,B,λm' k=>(g _).mpr (.inl (C m' k))⟩
  split at e;rw[a2H (by assumption)];exact o i e;split at e;cases e;rw[a2I (by assumption),a2H (by assumption)];exact⟨M,_,rfl,rfl,λm' k=>(g _).mpr (.inl (hb m' k))⟩;rw[a2I (by assumption),a2I (by assumption)];exact o (i-1) e
end
def aQ4(ow:Array (Option Nat))(j:Nat):Prop:=∃ k,ow[j]? = some (some k)
structure LOk(mask:Nat)(ow:Array (Option Nat))(hs:List Int):Prop where
 sz:ow.size=mask+1
 bd:∀ (j k:Nat),ow[j]? = some (some k)->k < hs.length
 one:∀ (j j' k:Nat),ow[j]? = some (some k)->ow[j']? = some (some k)->j=j'
 rea:∀ (k:Nat) h,hs[k]? = some h->∃ m,ow[(wk mask h m).j]? = some (some k)/\∀ m',m' < m->aQ4 ow (wk mask h m').j
def cQ0{ow:Array (Option Nat)}{j:Nat}(hj:j < ow.size):(ow.getD j (some 0)).isNone=true↔¬ aQ4 ow j:=by
 have e:ow[j]? = some ow[j]:=a9b hj;rw[a9g,e];show ow[j].isNone=true↔_;constructor;rintro h ⟨k,a⟩;rw[e]at a;rw[a5a a]at h;cases h;intro h;cases b:ow[j]with
 | none=>rfl
 | some k=>exact absurd ⟨k,by rw[e,b]⟩ h
theorem zM{mask:Nat}{ow:Array (Option Nat)}(hs:ow.size=mask+1)(h:Int){L:Nat}(n:¬ aQ4 ow (lp mask h L).1) :
  ∀ (fuel l:Nat),l<=L->L < l+fuel->(∀ m,m < tm mask h l->aQ4 ow (wk mask h m).j) ->
    ∃ M,layClean.free mask ow fuel (lp mask h l).1 (lp mask h l).2=some (wk mask h M).j/\¬ aQ4 ow (wk mask h M).j/\∀ m,m < M->aQ4 ow (wk mask h m).j
 | 0,l,o,p,_=>by lia
 | fuel+1,l,o,p,hb=>by
   have b:∀ r,r<=pX mask (lp mask h l).1->(lp mask h l).1+r < ow.size:=λr e=>by
    have:=aY2 (Nat.le_of_lt_succ (cH8 mask h l)) r e;lia
   have f:runEnd mask (lp mask h l).1+1-(lp mask h l).1=pX mask (lp mask h l).1+1:=by
    unfold pX runEnd;split<;>lia
   have g:∀ r,r<=pX mask (lp mask h l).1->(wk mask h (tm mask h l+r)).j=(lp mask h l).1+r:=λr e=>by rw[aX9 (aF2 mask h l) r e]
   unfold layClean.free;split
   ·rename_i k i;obtain⟨q,s,t⟩:=List.find?_range_eq_some.mp i;rw[a1g,f]at s;have c:k<=pX mask (lp mask h l).1:=by lia
    refine⟨tm mask h l+k,by rw[g k c],?_,λm hm=>?_⟩;rw[g k c];exact(cQ0 (b k c)).mp q;by_cases d:m < tm mask h l;exact hb m d;obtain⟨r,rfl⟩:∃ r,m=tm mask h l+r:=⟨m-tm mask h l,by lia⟩;rw[g r (by lia)];have:=t r (by lia);refine a5e λz=>?_;rw[(cQ0 (b r (by lia))).mpr z]at this;cases this
   ·rename_i i;have a:∀ r,r<=pX mask (lp mask h l).1->aQ4 ow ((lp mask h l).1+r):=λr e=>by
     have:=List.find?_eq_none.mp i r (by rw[a1g,f];lia);exact a5e λz=>this ((cQ0 (b r e)).mpr z)
    have u:l≠L:=λz=>by
     subst z;exact n (by simpa using a 0 (a1d _))
    refine zM hs h n fuel (l+1) (by lia) (by lia) λm hm=>?_;have v:m < tm mask h l+pX mask (lp mask h l).1+1:=hm;by_cases d:m < tm mask h l;exact hb m d;obtain⟨r,rfl⟩:∃ r,m=tm mask h l+r:=⟨m-tm mask h l,by lia⟩;rw[g r (by lia)];exact a r (by lia)
section
variable{mask:Nat}{ow:Array (Option Nat)}{hs:List Int}
def LOk.free(T:LOk mask ow hs)(hn:hs.length<=mask):∃ c,c<=mask/\¬ aQ4 ow c:=by
 refine a5e λl=>?_;have d:∀ c,c<=mask->aQ4 ow c:=λc m=>a5e λz=>l ⟨c,m,z⟩
 let f:Nat->Nat:=λc=>(ow.getD c none).getD 0
 have j:∀ c,c<=mask->ow[c]? = some (some (f c)):=λc m=>by
  obtain⟨k,e⟩:=d c m;have:f c=k:=by
   show(ow.getD c none).getD 0=k;rw[a9g,e];rfl
  rw[this];exact e
 have n:∀ a b,a < b->b<=mask->f a≠f b:=λa b g hb e=>by
  have o:=j a (by lia);rw[e]at o;have:=T.one a b _ o (j b hb);lia
 obtain⟨i,hi,e⟩:=xG hs.length f (λi h=>T.bd _ _ (j i (by lia))) (λa b g hb=>n a b g (by lia)) (f hs.length) (T.bd _ _ (j hs.length hn));exact n i hs.length hi hn e
def LOk.lay{k:Nat}(s:mask+1=2 ^ k)(T:LOk mask ow hs)(hn:hs.length<=mask)(h:Int):∃ j,layClean.free mask ow (turns mask) (bits h % (mask+1)) (bits h)=some j/\LOk mask (ow.setIfInBounds j (some hs.length)) (hs++[h]):=by
 obtain⟨c,B,t⟩:=T.free hn;obtain⟨n,u,e⟩:=bV0 (k:=k) (x:=(lp mask h 13).1) (c:=c) (by lia);have v:¬ aQ4 ow (lp mask h (13+n)).1:=by rw[aY1 s h n,e];exact t
 obtain⟨M,w,q,y⟩:=zM T.sz h v (turns mask) 0 (a1d _) (by show 13+n < 0+(mask+15);lia) (λm hm=>absurd hm (a5i _));refine⟨_,w,?_⟩;have hj:(wk mask h M).j < ow.size:=by rw[T.sz];exact Nat.lt_succ_of_le (cH9 h M)
 have g:∀ c,(ow.setIfInBounds (wk mask h M).j (some hs.length))[c]? = if(wk mask h M).j=c then some (some hs.length)else ow[c]?:=λc=>by
  rw[Array.getElem?_setIfInBounds];split
  ·first | rfl | rw[a2H hj]
  ·rfl
 have i:∀ {c},aQ4 ow c->aQ4 (ow.setIfInBounds (wk mask h M).j (some hs.length)) c:=λ{c} ⟨b,a⟩=>by
  refine⟨b,?_⟩;rw[g,a2I (λz=>q ⟨b,by rw[z];exact a⟩)];exact a
 refine⟨by rw[Array.size_setIfInBounds];exact T.sz,λj b a=>?_,λj j' b l f=>?_,λb h' a=>?_⟩;rw[g]at a;rw[a9a];split at a;cases a;simp;have:=T.bd _ _ a;simp;lia
 ·rw[g]at l f;split at l;cases l;split at f;lia;have:=T.bd _ _ f;lia;split at f;cases f;have:=T.bd _ _ l;lia;exact T.one _ _ _ l f
 ·by_cases o:b < hs.length;rw[a6c o]at a;obtain⟨m,r,A⟩:=T.rea b h' a;refine⟨m,?_,λm' d=>i (A m' d)⟩;rw[g,a2I (λz=>q ⟨b,by rw[z];exact r⟩)];exact r;rw[a2b (by lia)]at a;have p:b=hs.length:=by
   have:=(a0a.mp a).1;simp at this;lia
  subst p;have:h'=h:=by simpa using a.symm
  subst this;exact⟨M,by rw[g,a2H rfl],λm' d=>i (y m' d)⟩
end
theorem kJ{mask k:Nat}(b:mask+1=2 ^ k):∀ (eI:List Int) (hs:List Int) (ow:Array (Option Nat)),LOk mask ow hs->hs.length+eI.length<=mask+1 ->
  ∃ a,eI.foldl (λacc h=>do
    let (owner,k) ← acc
    let j ← layClean.free mask owner (turns mask) (bits h % (mask+1)) (bits h)
    pure (owner.setIfInBounds j (some k),k+1)) (some (ow,hs.length))=some (a,hs.length+eI.length)/\LOk mask a (hs++eI)
 | [],hs,ow,T,_=>⟨ow,by simp,by simpa using T⟩
 | h::eI,hs,ow,T,hl=>by
   rw[a2h]at hl;obtain⟨j,e,d⟩:=T.lay b (by lia) h;obtain⟨a,c,f⟩:=kJ b eI (hs++[h]) _ d (by rw[a9a,List.length_singleton];lia);refine⟨a,?_,by simpa using f⟩;rw[List.foldl_cons];rw[a9a,List.length_singleton]at c;have g:hs.length+(h::eI).length=hs.length+1+eI.length:=by rw[a2h];lia
   rw[g,← c];congr 1;show((layClean.free mask ow (turns mask) (bits h % (mask+1)) (bits h)).bind λj=>some (ow.setIfInBounds j (some hs.length),hs.length+1))=_;rw[e];rfl
def bV6(mask:Nat):LOk mask (Array.replicate (mask+1) none) []:=by
 refine⟨by simp,λj k e=>?_,λj j' k e=>?_,λk h e=>by simp at e⟩
 all_goals
  rw[Array.getElem?_replicate]at e;split at e<;>cases e
def aY4{mask k finger moves:Nat}{led plain:Bool}{hashes:Array Int}(H:mask+1=2 ^ k)(K:7<=mask)(hn:hashes.size<=mask) :
  ∃ t order,laid mask finger moves led plain hashes=some (t,order)/\TOk t (order.toList.filterMap (hashes[·]?))/\order.toList.Perm (List.range hashes.size)/\t.mask=mask/\t.place.size=hashes.size/\t.led=led/\t.plain=plain:=by
 obtain⟨ow,e,T⟩:=kJ H hashes.toList [] _ (bV6 mask) (by rw[a0d];simp;lia);rw[List.nil_append]at T;have L:layClean mask hashes=some ow:=by
  unfold layClean;rw[← Array.foldl_toList];have n:=e;rw[List.length_nil,a9e]at n;rw[n];rfl
 let g:Nat->Option (Nat×Nat):=λj=>(ow.getD j none).map (j,·)
 have A:∀ j p,g j=some p↔p.1=j/\ow[j]? = some (some p.2):=λj p=>by
  show(ow.getD j none).map (j,·)=some p↔_;rw[a9g];cases I:ow[j]? with
  | none=>simp
  | some o=>
    cases o with
    | none=>simp
    | some B=>
      obtain⟨a,b⟩:=p;simp;intro _;exact⟨λz=>z.symm,λz=>z.symm⟩
 let d:=(List.range (mask+1)).filterMap g
 have mem:∀ p,p∈d↔ow[p.1]? = some (some p.2):=λp=>by
  rw[List.mem_filterMap];constructor;rintro⟨j,_,h⟩;obtain⟨rfl,h'⟩:=(A j p).mp h;exact h';intro h;have:p.1 < mask+1:=by rw[← T.sz];exact(a4e.mp h).1
  exact⟨p.1,a1g.mpr this,(A _ _).mpr ⟨rfl,h⟩⟩
 have pw:d.Pairwise (λa b=>a.1 < b.1):=List.Pairwise.filterMap g (λa W h b hb X C=>by
  rw[((A _ _).mp hb).1,((A _ _).mp C).1];exact h) List.pairwise_lt_range
 have ri:∀ (i j:Nat) p q,i < j->d[i]? = some p->d[j]? = some q->p.1 < q.1:=λi j p q s M N=>by
  obtain⟨hi,rfl⟩:=a0a.mp M;obtain⟨hj,rfl⟩:=a0a.mp N;exact List.pairwise_iff_getElem.mp pw i j hi hj s
 have nd:(d.map (·.2)).Nodup:=by
  rw[List.nodup_iff_pairwise_ne,List.pairwise_map];refine List.Pairwise.imp_of_mem (λ{a b} ha hb O e=>?_) pw;have u:=(mem a).mp ha;have w:=(mem b).mp hb;rw[← e]at w;have:=T.one _ _ _ u w;lia
 have x:hashes.toList.length=hashes.size:=a0d;have perm:(d.map (·.2)).Perm (List.range hashes.size):=(List.perm_ext_iff_of_nodup nd List.nodup_range).mpr λa=>by
  rw[a7e,a1g];constructor;rintro⟨p,v,rfl⟩;rw[← x];exact T.bd _ _ ((mem p).mp v);intro ha;obtain⟨m,u,_⟩:=T.rea a hashes.toList[a] (a1a (by lia));exact⟨((wk mask hashes.toList[a] m).j,a),(mem _).mpr u,rfl⟩
 have J:d.length=hashes.size:=by have:=perm.length_eq;simpa using this
 have y:(d.map (·.2)).filterMap (hashes[·]?)=d.map λp=>hashes.toList.getD p.2 0:=by
  have D:∀ l:List (Nat×Nat),(∀ p∈l,p.2 < hashes.toList.length)->(l.map (·.2)).filterMap (hashes[·]?)=l.map λp=>hashes.toList.getD p.2 0:=by
   intro l
   induction l with
   | nil=>intro _;rfl
   | cons p r P=>
     intro hb;have u:=hb p a3a;have f:hashes[p.2]? = some (hashes.toList.getD p.2 0):=by
      rw[← a5b,List.getD_eq_getElem?_getD,a1a u];rfl
     rw[a1e,a8g,f,a1e,P λq I=>hb q (a4a _ I)]
  exact D d λp v=>T.bd _ _ ((mem p).mp v)
 refine⟨⟨mask,(d.map (·.1)).toArray,#[],finger,led,moves,plain⟩,(d.map (·.2)).toArray,?_,?_,perm,rfl,by simpa using J,rfl,rfl⟩;unfold laid;rw[L];rfl;have pl:∀ (i j:Nat),(d.map (·.1)).toArray[i]? = some j↔∃ p,d[i]? = some p/\p.1=j:=λi j=>by
  rw[a5d,a0c];exact a5c
 have E:∀ c,Occ (⟨mask,(d.map (·.1)).toArray,#[],finger,led,moves,plain⟩:SetTable) c↔aQ4 ow c:=λc=>by
  constructor;rintro⟨i,h⟩;obtain⟨p,f,rfl⟩:=(pl i c).mp h;exact⟨p.2,(mem p).mp (a2c f)⟩;rintro⟨B,h⟩;obtain⟨i,hi,f⟩:=a5f ((mem (c,B)).mpr h);exact⟨i,(pl i c).mpr ⟨(c,B),by rw[a1a hi,f],rfl⟩⟩
 refine⟨⟨k,H⟩,K,rfl,?_,?_,?_,?_,?_⟩;intro i j a b s Q R;obtain⟨p,f,rfl⟩:=(pl i a).mp Q;obtain⟨q,F,rfl⟩:=(pl j b).mp R;exact ri i j p q s f F;intro i j n;obtain⟨p,f,rfl⟩:=(pl i j).mp n;have u:=(mem p).mp (a2c f);have w:=(a4e.mp u).1;rw[T.sz]at w;exact Nat.le_of_lt_succ w;show(d.map (·.1)).toArray.size=((d.map (·.2)).toArray.toList.filterMap (hashes[·]?)).length;rw[show(d.map (·.2)).toArray.toList=d.map (·.2)from rfl,y];simp;show(d.map (·.1)).toArray.size<=mask;simp[J];lia;intro i h' n;rw[show(d.map (·.2)).toArray.toList=d.map (·.2)from rfl,y,a0c]at n;obtain⟨p,f,F⟩:=a5c.mp n;have v:=(mem p).mp (a2c f);have hb:=T.bd _ _ v;have S:hashes.toList[p.2]? = some h':=by
  rw[← F,List.getD_eq_getElem?_getD,a1a hb];rfl
 obtain⟨m,U,V⟩:=T.rea p.2 h' S;have:=T.one _ _ _ U v;exact⟨m,p.1,(pl i p.1).mpr ⟨p,f,rfl⟩,this,λm' G=>(E _).mpr (V m' G)⟩
end Sx
namespace Dv
open PySem L2 Mr
section
variable{Γ:Gm}{H H1:Hp}{σ σ1:Sg}{σV:St}{p:Addr}{o o':HO}
end
def aN{X:Cx}{E:Ex}{i:Nat}{x:Str}{e:Expr}{r:DE}{pos a:Pos}(b:X.N.Nodup)(hi:X.N[i]? = some x)(c:Loc X.env.scope x)(d:GE X e r)(hs:swapsWith e (some (.Name x a)) pos.line X.env=pure false:=by rfl)(f:X.fn x=true\/X.env.scope.names.lookup x=some .local:=by first | exact .inl rfl | exact .inr rfl | assumption) :
  GS E X (.Assign [.Name x a] e pos) (eU i r):=cF6 λΓ=>bK4 b hi c (d.to Γ) hs f
theorem wA{z:Str}{i:Int}{K:Res->Prop}:OK1 (ixD (.str z) (.int i)) K=(z.length<=sizeLine/\OK1 (atI z.cps.toList i) λc=>K (.val (.str ⟨#[c]⟩))):=by
 show OK1 (if _ then _ else none) K=_;rw[aZ,yZ]
theorem jM{z:Str}{K:Res->Prop}(h:z.length<=sizeLine):OK1 (aO0 [.str z]) K=K (.val (.int z.length)):=by
 show OK1 (if _ then _ else none) K=_;rw[aZ];exact propext ⟨λh=>h.2,λk=>⟨h,k⟩⟩
@[irreducible] noncomputable def aQ5(ow:List Nat)(g:DG)(t:DT)(e:DE)(items:List D)(a:Sg):=aD4 ow g t e items a
@[irreducible] noncomputable def cL9(g:DG)(b:DS)(items:List D)(σ:Sg):=bG4 g b items σ
@[irreducible] noncomputable def aK3(c:DT)(b:DS)(σ:Sg):=mX c b bY4 σ
section
variable{σ:Sg}{QS:Out->Prop}{Q:Res->Sg->Prop}{ri:DI}{g:DG}{b:DS}{a:DE}{ra:DA}
theorem mL:RS (bC1 ri g b) σ QS=RI ri σ λitems l a=>OK1 (cL9 g b items (lendO l a)) λo=>QS (aI7 l a o):=by
 unfold cL9;exact cH5
theorem gB{c:DT}:RS (aI8 c b) σ QS=OK1 (aK3 c b σ) QS:=by unfold aK3;rfl
theorem iX{ow:List Nat}{t:DT}{e:DE}:RE (fG ow ri g t e) σ Q=RI ri σ λitems l a=>items.length<=sizeLine/\OK1 (aQ5 ow g t e items (bM ow (lendO l a))) λy=>Q (.own (.lst y.1)) (aR7 l a (jV ow (lendO l a) y.2)):=by
 unfold aQ5;exact bU5
def pQ{items:List D}(P:Nat->Sg->Prop)(h0:P 0 σ)(hs:∀ i d σ,items[i]? = some d->P i σ->OK1 (g d σ) λc=>RS b c λo=>∃ a,(o=.nx a\/o=.ct a)/\P (i+1) a){K:Out->Prop}(k:∀ σ',P items.length σ'->K (.nx σ')):OK1 (cL9 g b items σ) K:=by
 unfold cL9;exact bU4 P h0 hs k
def aQ6{c:DT}(P:Nat->Sg->Prop)(m:Nat)(hm:m < 1000000)(h0:P m σ)(hs:∀ m σ,P m σ->RT c σ λt d=>if t=true then RS b d λo=>(∃ a m',(o=.nx a\/o=.ct a)/\m' < m/\P m' a)\/(∃ x a,o=.rt x a/\QS (.rt x a))\/(∃ a,o=.bk a/\QS (.nx a))else QS (.nx d)):OK1 (aK3 c b σ) QS:=by
 unfold aK3;exact aX1 P m hm h0 hs
def iL{ow:List Nat}{t:DT}{e:DE}{K:List D×Sg->Prop}(items:List D)(a:Sg)(P:Nat->List D->Sg->Prop)(h0:P 0 [] a)
  (hs:∀ i d acc a,items[i]? = some d->P i acc a->OK1 (g d a) λf=>RT t f λb c=>if b=true then RE e c λr h=>∃ v,r=.val v/\P (i+1) (acc++[v]) (bM ow h)else P (i+1) acc (bM ow c))
  (k:∀ acc a,P items.length acc a->K (acc,a)):OK1 (aQ5 ow g t e items a) K:=by
 unfold aQ5;exact oY items a P h0 hs k
end
end Dv
namespace PySem
structure Fill(prog:Program)(w:World)(A:Around)(S I:Addr)(n:Nat)(P:Nat->Value->Prop)(J:Nat->Heap->Prop):Prop where
 put:∀ i v (s:Shared) (Q:Bool->Shared->Prop) (E:Value->Shared->Prop),i < n->P i v->J i s.heap ->
  (∀ b h' tk,J (i+1) h'->(∀ c o,c≠S->s.heap.get? c=some o->h'.get? c=some o)->Q b {s with heap:=h',toks:=tk})->wpAny (model prog w) A (setAdd S v) Q E s
 stay:∀ i h h',J i h->(∀ c o,c≠I->h.get? c=some o->h'.get? c=some o)->J i h'
section
variable{prog:Program}{w:World}{A:Around}{E:Value->Shared->Prop}{R:Result->Shared->Prop}{S I:Addr}{fp:List Addr}{n:Nat}{P:Nat->Value->Prop}{St J:Nat->Heap->Prop}
theorem zN(W:Walks prog w A.in1 I fp [I] n P St)(F:Fill prog w A.in1 S I n P J)(l:S∉fp) :
  ∀ (k i:Nat) (s:Shared),i+k=n->St i s.heap->J i s.heap ->
    (∀ h' tk,J n h'->(∀ c o,c≠S->c≠I->s.heap.get? c=some o->h'.get? c=some o)->R (.ok (.ret .none)) {s with heap:=h',toks:=tk}) ->
    codeAny (model prog w) A (.builtin "set.update.loop" ⟨[.ref S,.ref I],[]⟩) R s
 | 0,i,s,m,st,j,q=>by
   have hi:i=n:=m;subst hi;refine a2S PyProof.Rows.F.entry_set_update_loop ?_;rw[a0g a5g _]
   (show wpAny _ A.in1 (pyNext (.ref I) >>= _) _ _ s;refine a2F (W.done s _ _ st λh' tk d=>?_))
   have p:∀ c o,c≠I->s.heap.get? c=some o->h'.get? c=some o:=λc o a e=>d c o (by simpa using a) e;exact a2G (q h' tk (F.stay _ _ _ j p) λc o _ a e=>p c o a e)
 | k+1,i,s,m,st,j,q=>by
   have hi:i < n:=by lia
   refine a2S PyProof.Rows.F.entry_set_update_loop ?_;rw[a0g a5g _]
   (show wpAny _ A.in1 (pyNext (.ref I) >>= _) _ _ s;refine a2F (W.item i s _ _ hi st λv y B C f g=>?_))
   have r:∀ c o,c≠I->s.heap.get? c=some o->y.get? c=some o:=λc o a e=>g c o (by simpa using a) e
   (show wpAny _ A.in1 (holding [v] (setAdd S v) >>= _) _ _ _;refine a2F (a2L ?_))
   refine F.put i v _ _ _ hi C (F.stay _ _ _ j r) λb D E G t=>?_;refine a2G ⟨a3o a5g _,?_⟩;have h:St (i+1) D:=W.frame _ _ _ f λc a o e=>t c o (λz=>l (z ▸ a)) e;exact zN W F l k (i+1) _ (by lia) h G λh' tk jn H=>q h' tk jn λc o u x e=>H c o u x (t c o u (r c o x e))
def bV7{T b a:String}{args:List Value}{Q Q₁:Value->Shared->Prop}{s:Shared}(k:TypeCalled T b a)(l:checkTypeCall T ⟨args,[]⟩=pure ())
  (g:codeAny (model prog w) A.in1 (.call (.builtin b) ⟨.type T::args,[]⟩) (wants Q₁ E) s)
  (h:∀ obj d,Q₁ obj d->d.TypeIs obj T/\codeAny (model prog w) A.in1 (.call (.builtin a) ⟨obj::args,[]⟩) (wants (λr i=>r=.none/\Q obj i) E) d) :
  wpAny (model prog w) A (call (.type T) args) Q E s:=by
 obtain⟨n1,n2,⟨c,n,n3⟩,o,p,q,j⟩:=k;have t:=j.lookup;refine wpAny_call (codeAny_of_tree (a2G ⟨Code.quiet_builtin _ (by decide +kernel),a2S F.entry_type_call ?_⟩));rw[Around.under_plain (weight_type_call_type T args []) rfl]
 repeat (any_goals (first | assumption | wp_step))
 refine a3p g λr s1 f=>?_
 match r,f with
 | .error e,f=>exact f
 | .ok (.ret obj),f=>
   obtain⟨u,hi⟩:=h obj s1 f;have hb:=j.bind obj
   repeat (any_goals (first | assumption | wp_step))
   refine a3p hi λr s2 f=>?_
   match r,f with
   | .error e,f=>exact f
   | .ok (.ret x),⟨m,v⟩=>
     subst m
     repeat (any_goals (first | assumption | wp_step))
end
noncomputable abbrev aQ7(es:Array (Int×Value))(ep:Nat)(t:SetTable):Obj:={cls:=.type "set",dict:=none,data:=.set es ep t}
noncomputable def eS(w:World):Bool:=!w.params.followText "set-order"
section
variable{prog:Program}{w:World}{A:Around}{E:Value->Shared->Prop}{s:Shared}
def bV8(a:Value){Q:Value->Shared->Prop}(h:Q (.ref s.heap.objs.size) {s with heap:=s.heap.push (aQ7 #[] 0 (.fresh 0 0 (eS w)))}) :
  codeAny (model prog w) A (.call (.builtin "set.__new__") ⟨[.type "set",a],[]⟩) (wants Q E) s:=by
 refine codeAny_call_builtin F.plain_set_new F.entry_set_new (wpAny_of_eq (F.newCall_set_1 a) ?_);have b:=sub_set_self;unfold Builtin.«set.__new__» Builtin.Frozenset.newClass;obtain⟨c,g,d,tk,os⟩:=s
 wp_walk
 refine a3k (a2G ?_);simp only[newObj];exact a2F (wpAny_alloc (a2G (a2G h)))
end
section
variable{prog:Program}{w:World}{A:Around}{E:Value->Shared->Prop}{n:Nat}{P:Nat->Value->Prop}{St J:Nat->Heap->Prop}
structure Src(prog:Program)(w:World)(A:Around)(h₀:Heap)(l:Addr)(n:Nat)(P:Nat->Value->Prop) where
 T:String
 St:Addr->Nat->Heap->Prop
 ob:Obj
 ty:∃ o,h₀.get? l=some o/\o.cls=.type T
 n1:isSubtype (.type T) (.type "set")=pure false
 n2:isSubtype (.type T) (.type "frozenset")=pure false
 n3:(Value.type T==Value.type "dict")=false
 iter:∀ (A:Around) (s:Shared) (Q:Value->Shared->Prop) (E:Value->Shared->Prop),(∀ b o,h₀.get? b=some o->s.heap.get? b=some o)->Q (.ref s.heap.objs.size) {s with heap:=s.heap.push ob}->wpAny (model prog w) A (pyIter (.ref l)) Q E s
 free:ob.isFreed=false
 walk:∀ (A':Around),A'.handled=A.handled->∀ I,l≠I->Walks prog w A' I [I,l] [I] n P (St I)
 hC:∀ h:Heap,(∀ b o,h₀.get? b=some o->h.get? b=some o)->St h.objs.size 0 (h.push ob)
def bH4{s:Shared}{l:Addr}{Q:Value->Shared->Prop}(c:Src prog w A s.heap l n P)
  (L:∀ A':Around,A'.handled=A.handled->A'.units<=A.units+8->Fill prog w A' s.heap.objs.size (s.heap.objs.size+1) n P J)
  (y:∀ (h':Heap),h'.get? s.heap.objs.size=some (aQ7 #[] 0 (.fresh 0 0 (eS w)))->(∀ b o,s.heap.get? b=some o->h'.get? b=some o)->J 0 h')
  (q:∀ h' tk,J n h'->(∀ b o,s.heap.get? b=some o->h'.get? b=some o)->Q (.ref s.heap.objs.size) {s with heap:=h',toks:=tk}) :
  wpAny (model prog w) A (call (.type "set") [.ref l]) Q E s:=by
 obtain⟨T,St,ob,⟨⟨t,k,m,j⟩,f,g⟩,n1,n2,n3,iter,free,walk,hC⟩:=c;simp only at g;subst g;have h:l < s.heap.objs.size:=a4b f;refine bV7 (Q₁:=λobj s₁=>obj=.ref s.heap.objs.size/\s₁={s with heap:=s.heap.push (aQ7 #[] 0 (.fresh 0 0 (eS w)))}) F.called_set (F.typeCall_set_1 _) (bV8 _ ⟨rfl,rfl⟩) λobj s₁ Z0=>?_;obtain⟨B,C⟩:=Z0;subst B C;have u:(s.heap.push (aQ7 #[] 0 (.fresh 0 0 (eS w)))).get? s.heap.objs.size=some (aQ7 #[] 0 (.fresh 0 0 (eS w))):=a3b _ rfl;have a:∀ b o,s.heap.get? b=some o->(s.heap.push (aQ7 #[] 0 (.fresh 0 0 (eS w)))).get? b=some o:=λb o e=>a6a _ e;have v:Shared.TypeIs {s with heap:=s.heap.push (aQ7 #[] 0 (.fresh 0 0 (eS w)))} (.ref s.heap.objs.size) "set":=⟨_,u,rfl⟩;have D:Shared.TypeIs {s with heap:=s.heap.push (aQ7 #[] 0 (.fresh 0 0 (eS w)))} (.ref l) T:=⟨_,a l _ f,rfl⟩;refine⟨v,codeAny_call_builtin F.called_set.init.plain F.entry_set_init (check_set_init_1 v ?_)⟩;have G:=a l _ f;unfold Builtin.«set.__init__» noKeywords Builtin.Frozenset.updateFrom;generalize p:pyIter=PI
 wp_walk
 subst p;refine iter _ _ _ _ a ?_;refine a2F (wpAny_runValue ?_);have x:(s.heap.push (aQ7 #[] 0 (.fresh 0 0 (eS w)))).objs.size=s.heap.objs.size+1:=Heap.size_push ..;have ne:l≠s.heap.objs.size+1:=λz=>absurd h (by rw[z];exact a0j.mpr (Nat.le_succ _));have i:=hC _ a;rw[x]at i;have r:((s.heap.push (aQ7 #[] 0 (.fresh 0 0 (eS w)))).push ob).get? s.heap.objs.size=some (aQ7 #[] 0 (.fresh 0 0 (eS w))):=a6a _ u;have d:∀ b o,s.heap.get? b=some o->((s.heap.push (aQ7 #[] 0 (.fresh 0 0 (eS w)))).push ob).get? b=some o:=λb o e=>a6a _ (a b o e);show codeAny (model prog w) A.in1.in1 (.builtin "set.update.loop" ⟨[.ref s.heap.objs.size,.ref (s.heap.push (aQ7 #[] 0 (.fresh 0 0 (eS w)))).objs.size],[]⟩) _ _;rw[x];refine zN (walk A.in1.in1.in1 rfl (s.heap.objs.size+1) ne) (L A.in1.in1.in1 rfl (by show A.units+1+1+1<=A.units+8;lia)) ?_ n 0 _ (a9e n) i (y _ r d) λh' tk jn H=>?_;simp only[List.mem_cons,List.not_mem_nil,or_false,not_or];exact⟨a4d (a1h _),Nat.ne_of_gt h⟩;refine a2G (a2G ⟨rfl,q h' tk jn λb o e=>?_⟩);have hb:=a4b e;exact H b o (a4d hb) (a4d (Nat.lt_succ_of_lt hb)) (d b o e)
noncomputable def Src.list{s:Shared}(d:A.handled=none){l:Addr}{items:Array Value}(a:s.heap.IsList l items):Src prog w A s.heap l items.size (λi v=>items[i]? = some v) where
 T:="list"
 St:=λI i h=>h.IsListIter I l i/\h.IsList l items
 ob:={cls:=.type "list_iterator",data:=.fields #[.ref l,.int 0 0]}
 ty:=by obtain⟨o,f,g,_⟩:=a;exact⟨o,f,g⟩
 n1:=F.sub_list_set
 n2:=F.sub_list_frozenset
 n3:=by decide
 iter:=λA' s' Q E b j=>wpAny_pyIter_list (a.at λo e=>b l o e) j
 free:=rfl
 walk:=λA' ha I c=>Walks.list (ha.trans d) I l c items
 hC:=λh b=>⟨⟨_,a3b _ rfl,rfl,rfl⟩,(a.at λo e=>b l o e).push _⟩
def aF4:isSubtype (.type "tuple") (.type "set")=pure false:=by rw[isSubtype_type];kernel_rfl
def qG:isSubtype (.type "tuple") (.type "frozenset")=pure false:=by rw[isSubtype_type];kernel_rfl
noncomputable def Src.tup{s:Shared}(d:A.handled=none){l:Addr}{items:Array Value}(a:s.heap.IsTuple l items):Src prog w A s.heap l items.size (λi v=>items[i]? = some v) where
 T:="tuple"
 St:=λI i h=>h.IsTupleIter I l i/\h.IsTuple l items
 ob:={cls:=.type "tuple_iterator",data:=.fields #[.ref l,.int 0 0]}
 ty:=by obtain⟨o,f,g,_⟩:=a;exact⟨o,f,g⟩
 n1:=aF4
 n2:=qG
 n3:=by decide
 iter:=λA' s' Q E b j=>wpAny_pyIter_tuple (a.at λo e=>b l o e) j
 free:=rfl
 walk:=λA' ha I c=>Walks.tuple (ha.trans d) I l c items
 hC:=λh b=>⟨⟨_,a3b _ rfl,rfl,rfl⟩,(a.at λo e=>a6a _ (b l o e))⟩
end
end PySem
namespace Sx
open PySem PySem.SetTable
section
variable{t:SetTable}{hs:List Int}
def TOk.stop2(T:TOk t hs)(h:Int):∃ M,M<=10*(13+t.place.size)/\¬ Occ t (wk t.mask h M).j/\∀ m,m < M->Occ t (wk t.mask h m).j:=by
 obtain⟨k,u⟩:=T.pw;have y:=T.fit;have ex:∃ n,n<=t.place.size/\¬ Occ t (wk t.mask h (tm t.mask h (13+n))).j:=by
  refine a5e λhn=>?_;have l:∀ n,n<=t.place.size->Occ t (stp k n (lp t.mask h 13).1):=λn d=>a5e λz=>hn ⟨n,d,by
   rw[aF2,aY1 u h n];exact z⟩
  let f:Nat->Nat:=λn=>below t.place (stp k n (lp t.mask h 13).1)
  have o:∀ n,n<=t.place.size->f n < t.place.size/\t.place[f n]? = some (stp k n (lp t.mask h 13).1):=λn d=>by
   obtain⟨i,e⟩:=l n d;have:f n=i:=fL T.ri e;rw[this];exact⟨(a4e.mp e).1,e⟩
  have s:∀ a b,a < b->b<=t.place.size->f a≠f b:=λa b g hb e=>by
   have p:=(o a (by lia)).2;rw[e,(o b hb).2]at p;exact aX8 g (by lia:b < 2 ^ k) (a5a p).symm
  obtain⟨i,hi,e⟩:=xG t.place.size f (λi h=>(o i (by lia)).1) (λa b g hb=>s a b g (by lia)) (f t.place.size) (o t.place.size (a8a _)).1;exact s i t.place.size hi (a8a _) e
 obtain⟨n,hn,q⟩:=ex;have r:∀ N,(∃ m,m < N/\¬ Occ t (wk t.mask h m).j)->∃ M,M < N/\¬ Occ t (wk t.mask h M).j/\∀ m,m < M->Occ t (wk t.mask h m).j:=by
  intro N
  induction N with
  | zero=>rintro⟨m,h,_⟩;exact absurd h (a5i _)
  | succ N v=>
    rintro⟨m,p,w⟩;by_cases hb:∃ m,m < N/\¬ Occ t (wk t.mask h m).j;obtain⟨M,a,b,c⟩:=v hb;exact⟨M,by lia,b,c⟩;exact⟨m,p,w,λm' x=>a5e λz=>hb ⟨m',by lia,z⟩⟩
 obtain⟨M,a,b,c⟩:=r (tm t.mask h (13+n)+1) ⟨_,a1h _,q⟩;have:=cP9 t.mask h (13+n);exact⟨M,by lia,b,c⟩
end
end Sx
namespace PySem
open Sx
section
variable{prog:Program}{w:World}{A:Around}{E:Value->Shared->Prop}{s:Shared}
abbrev jD(prog:Program)(w:World)(h:Heap)(k:List Int)(a:Addr):Prop:=IsTupleKey (intKind prog w) h k a
def jD.at{h h':Heap}{k:List Int}{a:Addr}(x:jD prog w h k a)(e:∀ o,h.get? a=some o->h'.get? a=some o):jD prog w h' k a:=by
 obtain⟨o,items,n,b,r⟩:=x;exact⟨o,items,n,e o b,r⟩
theorem iY:∀ {k:List Int} {vs:List Value},ItemsAre (intKind prog w) k vs->∀ v∈vs,∃ i t,v=.int i t
 | _,_,.nil,v,a=>by simp at a
 | _,_,.cons b r,v,a=>by
   rcases a7b.mp a with rfl | a;obtain⟨t,e⟩:=Value.isInt_shape b;exact⟨_,t,e⟩;exact iY r v a
def bV9{k:List Int}{a:Addr}{Q:Bool->Shared->Prop}(d:jD prog w s.heap k a)(h:Q true s):wpAny (model prog w) A (hashByValue 8 (.ref a)) Q E s:=by
 have f:=d.typeIs;obtain⟨o,items,n,g,_,hd,hi⟩:=d;unfold hashByValue;refine a2F (a3u f F.slot_tuple_hash.lookup ?_);dsimp only;refine a2F (wpAny_seqItems g hd ?_);dsimp only[Option.getD_some];refine a2F ?_;rw[← Array.forIn_toList];refine wpAny_forIn_list _ (λeI r s'=>r.1=none/\s'=s/\∀ v∈eI,∃ i t,v=.int i t) _ ?_ ?_ _ _ ⟨rfl,rfl,iY hi⟩
 ·rintro v eI r s' ⟨c,rfl,b⟩;obtain⟨i,t,rfl⟩:=b v a3a;have e:hashByValue 7 (.int i t)=pure true:=by unfold hashByValue;rfl
  rw[e];refine a2F (a2G ?_);simp only[Bool.not_true,Bool.false_eq_true,if_false];exact a2G ⟨rfl,rfl,λu j=>b u (a4a _ j)⟩
 ·rintro⟨l,m⟩ s' ⟨c,rfl,_⟩;simp only at c;subst c;exact a2G h
def aY5{k:List Int}{a:Addr}{Q:Bool->Shared->Prop}(d:jD prog w s.heap k a)(h:Q false s):wpAny (model prog w) A (ofAClassStatement 8 (.ref a)) Q E s:=by
 have f:=d.typeIs;obtain⟨o,items,n,g,_,hd,hi⟩:=d;unfold ofAClassStatement;refine a2F (a3m f ?_);dsimp only;rw[a2H (by decide)];refine a2F (a2G ?_);simp only[Bool.not_true,Bool.false_eq_true,if_false];refine a2F (wpAny_seqItems g hd ?_);dsimp only;refine a2F ?_;rw[← Array.forIn_toList];refine wpAny_forIn_list _ (λeI r s'=>r.1=none/\s'=s/\∀ v∈eI,∃ i t,v=.int i t) _ ?_ ?_ _ _ ⟨rfl,rfl,iY hi⟩
 ·rintro v eI r s' ⟨c,rfl,b⟩;obtain⟨i,t,rfl⟩:=b v a3a;have e:ofAClassStatement 7 (.int i t)=pure false:=by unfold ofAClassStatement;rfl
  rw[e];refine a2F (a2G ?_);simp only[Bool.false_eq_true,if_false];exact a2G ⟨rfl,rfl,λu j=>b u (a4a _ j)⟩
 ·rintro⟨l,m⟩ s' ⟨c,rfl,_⟩;simp only at c;subst c;exact a2G h
def bH5{k:List Int}{a:Addr}{Q:Bool->Shared->Prop}(f:jD prog w s.heap k a)(l:List Value)(g:∀ v∈l,∃ d b,v=.ref b/\jD prog w s.heap d b)(h:Q false s):wpAny (model prog w) A (searchCouldBeSeen (.ref a) l) Q E s:=by
 unfold searchCouldBeSeen;refine a2F ?_;refine wpAny_forIn_list _ (λeI r s'=>r.1=none/\s'=s/\∀ v∈eI,∃ d b,v=.ref b/\jD prog w s.heap d b) _ ?_ ?_ _ _ ⟨rfl,rfl,g⟩;rintro v eI r s' ⟨e,rfl,c⟩;obtain⟨d,b,rfl,hb⟩:=c v a3a;have go:∀ u∈eI,∃ d b,u=Value.ref b/\jD prog w s'.heap d b:=λu i=>c u (a4a _ i);dsimp only;split;exact a2G ⟨rfl,rfl,go⟩;refine a2F (wpAny_eqIsQuiet_tuple f ?_);simp only[Bool.not_true,Bool.false_eq_true,if_false];refine a2F (wpAny_eqIsQuiet_tuple hb ?_);simp only[Bool.not_true,Bool.false_eq_true,if_false];refine a2F (aY5 f ?_);simp only[Bool.false_eq_true,if_false];refine a2F (aY5 hb ?_);simp only[Bool.false_eq_true,if_false];exact a2G ⟨rfl,rfl,go⟩;rintro⟨j,m⟩ s' ⟨e,rfl,_⟩;simp only at e;subst e;exact a2G h
end
structure mT(prog:Program)(w:World)(h:Heap)(S:Addr)(led:Bool)(N:Addr->Prop)(ks:List (List Int))(o:Obj)(es:Array (Int×Value))(ep:Nat)(t:SetTable):Prop where
 ob:h.get? S=some o
 ex:o.ExactSet
 dt:o.data=.set es ep t
 tk:TOk t (es.toList.map (·.1))
 ful:t.place.size*5 < t.mask*3
 ld:t.led=led
 pl:t.plain=true
 len:ks.length=es.size
 it:∀ (i:Nat) e,es[i]? = some e->∃ k a,ks[i]? = some k/\e=(tupleKeyHash (intKind prog w) k,.ref a)/\jD prog w h k a/\N a
 nd:ks.Nodup
section
variable{prog:Program}{w:World}{A:Around}{E:Value->Shared->Prop}{s:Shared}{S:Addr}{led:Bool}{N:Addr->Prop}{ks:List (List Int)}{o:Obj}{es:Array (Int×Value)}{ep:Nat}{t:SetTable}
theorem _root_.Sx.TOk.fits{hs:List Int}(T:TOk t hs){n:Nat}(hn:hs.length=n):t.fits n=true:=by
 have b:=T.len;have a:=T.fit;simp only[SetTable.fits,SetTable.fill,Bool.and_eq_true,beq_iff_eq,decide_eq_true_eq,T.dm];exact⟨by lia,by simpa using a⟩
theorem mT.fits(X:mT prog w s.heap S led N ks o es ep t):t.fits es.size=true:=X.tk.fits (by simp)
def mT.state(X:mT prog w s.heap S led N ks o es ep t){Q:(Array (Int×Value)×Nat×SetTable)->Shared->Prop}(h:Q (es,ep,t) s):wpAny (model prog w) A (setState S) Q E s:=
 wpAny_setState_of X.ob X.dt X.fits h
def mT.even(X:mT prog w s.heap S led N ks o es ep t):t.gaveWay=false:=by
 obtain⟨k,a⟩:=X.tk.pw;have b:=X.tk.m7;unfold SetTable.gaveWay;have:t.mask % 2=1:=by
  cases k with
  | zero=>lia
  | succ k=>rw[a4g]at a;lia
 rw[this];rfl
theorem mM(X:mT prog w s.heap S led N ks o es ep t){k:List Int}{a:Addr}(W:A.units < cLine)(I:jD prog w s.heap k a){M:Nat}(hM:¬ Occ t (wk t.mask (tupleKeyHash (intKind prog w) k) M).j)(hb:∀ m,m < M->Occ t (wk t.mask (tupleKeyHash (intKind prog w) k) m).j)
  (J:M < 10*SetTable.turns t.mask) :
  ∀ (f n:Nat) (c:Option SetTable.Probe) (Q:SetFound->Shared->Prop),c.getD (t.probeStart (tupleKeyHash (intKind prog w) k))=wk t.mask (tupleKeyHash (intKind prog w) k) n->n<=M->M-n < f ->
    (∀ i:Nat,ks[i]? = some k->∃ m j,n<=m/\t.place[i]? = some j/\(wk t.mask (tupleKeyHash (intKind prog w) k) m).j=j/\m < M) ->
    (k∈ks->Q (.there none) s)->(k∉ks->Q (.free (wk t.mask (tupleKeyHash (intKind prog w) k) M).j false) s)->wpAny (model prog w) A (setSearchFrom S (.ref a) (tupleKeyHash (intKind prog w) k) true f c) Q E s
 | 0,n,c,Q,_,_,hf,_,_,_=>by lia
 | f+1,n,c,Q,hst,hn,hf,B,Y,q2=>by
   unfold setSearchFrom;refine a2F (X.state ?_);dsimp only;rw[X.even,a2I a8d,hst];have hg:=aY3 X.tk (h:=tupleKeyHash (intKind prog w) k) (hashAt:=λi=>(es[i]?.map (·.1)).getD 0) hM hb (10*SetTable.turns t.mask) n hn (by lia);have C:∀ (i:Nat) e,es[i]? = some e->((es[i]?.map (·.1)).getD 0)=e.1:=λi e Z=>by rw[Z];rfl
   split
   ·rename_i met r;rcases hg with⟨m,i,a1,a2,K,a4,a5,a6⟩ | ⟨a1,a2⟩
    ·have e:met=.candidate (wk t.mask (tupleKeyHash (intKind prog w) k) m).j i (wk t.mask (tupleKeyHash (intKind prog w) k) (m+1)):=a5a (r.symm.trans a6);subst e;dsimp only;have hi:i < es.size:=by
      have h1:=(a4e.mp K).1;have h2:=X.tk.len;simp at h2;lia
     have L:es[i]? = some es[i]:=a9b hi;obtain⟨k',b,D,ee,O,_⟩:=X.it i _ L;have seen:∀ v∈((es.filter (λx=>x.1==tupleKeyHash (intKind prog w) k)).toList.map (·.2)),∃ k' b,v=Value.ref b/\jD prog w s.heap k' b:=λv hv=>by
      obtain⟨e,Z,rfl⟩:=a7e.mp hv;have he':e∈es:=by
       rw[Array.mem_toList_iff]at Z;exact(Array.mem_filter.mp Z).1
      obtain⟨j,hj,ej⟩:=Array.getElem_of_mem he';obtain⟨k2,p,_,l,h2,_⟩:=X.it j e (by rw[a9b hj,ej]);exact⟨k2,p,by rw[l],h2⟩
     by_cases hl:t.led=true
     ·rw[hl];simp only[Bool.not_true,Bool.false_eq_true,if_false];rw[L,ee];dsimp only;refine a2F (a2L (wpAny_eqBool_tuple W O I ?_));refine a2F (X.state ?_);dsimp only;by_cases g:k'=k;subst g;rw[a3j rfl];simp only[Bool.and_self,if_true];exact a2G (Y (a2c D));rw[a2M g];simp only[Bool.and_false,Bool.false_eq_true,if_false];have F:t.sameMemory t.moves t.mask=some true:=by unfold SetTable.sameMemory;simp
      rw[F];dsimp only;rw[a2H rfl,pO X.tk.ri K];dsimp only;rw[L,ee];dsimp only;refine a2F (wpAny_isSame_ref_self ?_);simp only[if_true];refine a2F (a2G ?_);dsimp only;refine mM X W I hM hb J f (m+1) (some _) Q rfl (by lia) (by lia) (λd l=>?_) Y q2;obtain⟨G,j2,P,p,q,R⟩:=B d l;refine⟨G,j2,?_,p,q,R⟩
      -- it lies behind the one T was met
      refine a8i λhle=>?_;have H:d < es.size:=by rw[← X.len];exact(a0a.mp l).1
      have u:es[d]? = some es[d]:=a9b H;obtain⟨k3,b5,y,U,_⟩:=X.it d _ u;rw[l]at y;cases y;by_cases z:G=m
      ·subst z;have:d=i:=by rw[← fL X.tk.ri p,← fL X.tk.ri K,q]
       subst this;rw[D]at l;exact g (a5a l)
      ·refine a5 G d P (by lia) (by rw[p,q]) ?_;show(es[d]?.map (·.1)).getD 0=_;rw[C d _ u,U]
     ·have hl':t.led=false:=by simpa using hl
      rw[hl'];simp only[Bool.not_false,if_true];refine a2F (bH5 I _ seen ?_);simp only[Bool.false_eq_true,if_false];rw[L,ee];dsimp only;refine a2F (a2L (wpAny_eqBool_tuple W O I ?_));refine a2F (X.state ?_);dsimp only;by_cases g:k'=k;subst g;rw[a3j rfl];simp only[Bool.and_self,if_true];exact a2G (Y (a2c D));rw[a2M g];simp only[Bool.and_false,Bool.false_eq_true,if_false];have F:t.sameMemory t.moves t.mask=some true:=by unfold SetTable.sameMemory;simp
      rw[F];dsimp only;rw[a2H rfl,pO X.tk.ri K];dsimp only;rw[L,ee];dsimp only;refine a2F (wpAny_isSame_ref_self ?_);simp only[if_true];refine a2F (a2G ?_);dsimp only;refine mM X W I hM hb J f (m+1) (some _) Q rfl (by lia) (by lia) (λd l=>?_) Y q2;obtain⟨G,j2,P,p,q,R⟩:=B d l;refine⟨G,j2,?_,p,q,R⟩
      -- it lies behind the one T was met
      refine a8i λhle=>?_;have H:d < es.size:=by rw[← X.len];exact(a0a.mp l).1
      have u:es[d]? = some es[d]:=a9b H;obtain⟨k3,b5,y,U,_⟩:=X.it d _ u;rw[l]at y;cases y;by_cases z:G=m
      ·subst z;have:d=i:=by rw[← fL X.tk.ri p,← fL X.tk.ri K,q]
       subst this;rw[D]at l;exact g (a5a l)
      ·refine a5 G d P (by lia) (by rw[p,q]) ?_;show(es[d]?.map (·.1)).getD 0=_;rw[C d _ u,U]
    ·have e:met=.empty (wk t.mask (tupleKeyHash (intKind prog w) k) M).j none:=a5a (r.symm.trans a2);subst e;dsimp only;refine a2G (q2 λhm=>?_);obtain⟨i,hi,e⟩:=a5f hm;have D:ks[i]? = some k:=by rw[a1a hi,e]
     obtain⟨m,j,P,p,q,R⟩:=B i D;have hi':i < es.size:=by rw[← X.len];exact hi
     have u:es[i]? = some es[i]:=a9b hi';obtain⟨k3,b5,y,U,_⟩:=X.it i _ u;rw[D]at y;cases y;refine a1 m i P R (by rw[p,q]) ?_;show(es[i]?.map (·.1)).getD 0=_;rw[C i _ u,U]
   ·rename_i V;exfalso;rcases hg with⟨m,i,_,_,_,_,_,a6⟩ | ⟨_,a2⟩;exact V _ a6;exact V _ a2
end
end PySem
namespace Sx
open PySem PySem.SetTable
theorem nN(n:Nat):∀ (f k:Nat),n < 2 ^ k*2 ^ f->3<=k->∃ g,sizeAbove.go n f (2 ^ k)=2 ^ g/\k<=g/\n < 2 ^ g/\(2 ^ g=2 ^ k\/2 ^ g<=2*n)
 | 0,k,h,i=>⟨k,rfl,a8a _,by simpa using h,.inl rfl⟩
 | f+1,k,h,i=>by
   unfold sizeAbove.go;split;rename_i j;have e:2 ^ k*2=2 ^ (k+1):=(a4g ..).symm;rw[e];obtain⟨g,a,b,c,d⟩:=nN n f (k+1) (by rw[a4g,a1j,a9h 2 (2 ^ f),← a4g];exact h) (by lia);refine⟨g,a,by lia,c,.inr ?_⟩;rcases d with d | d;rw[d,a4g];lia;exact d;rename_i l;exact⟨k,rfl,a8a _,by lia,.inl rfl⟩
def qH(n:Nat)(h:n < 2 ^ 60):∃ k,sizeAbove n=2 ^ k/\3<=k/\n < 2 ^ k/\2 ^ k<=8+2*n:=by
 obtain⟨k,a,b,c,d⟩:=nN n 64 3 (a1c h (by decide)) (a8a _);exact⟨k,a,b,c,by lia⟩
noncomputable def rel{α:Type}(l:List α)(od:List Nat):List α:=od.filterMap (l[·]?)
theorem aF5{a:Type}{l:List a}:∀ {od:List Nat},(∀ j∈od,j < l.length)->∀ i:Nat,(rel l od)[i]? = (od[i]?).bind (l[·]?)
 | [],_,i=>by simp[rel]
 | j::od,h,i=>by
   have hj:=h j a3a;have e:rel l (j::od)=l[j]::rel l od:=by
    unfold rel;rw[a8g,a1a hj]
   rw[e];cases i with
   | zero=>simp[List.getElem?_eq_getElem hj]
   | succ i=>rw[a2d,a2d];exact aF5 (λx b=>h x (a4a _ b)) i
def wB{a:Type}{l:List a}{od:List Nat}(h:∀ j∈od,j < l.length):(rel l od).length=od.length:=by
 induction od with
 | nil=>rfl
 | cons j od b=>
   have hj:=h j a3a;have e:rel l (j::od)=l[j]::rel l od:=by
    unfold rel;rw[a8g,a1a hj]
   rw[e,a2h,a2h,b λx c=>h x (a4a _ c)]
def aK4{b:Type}{l:List b}{od:List Nat}(h:od.Perm (List.range l.length)):(rel l od).Perm l:=by
 have a:(rel l od).Perm (rel l (List.range l.length)):=h.filterMap _;have c:rel l (List.range l.length)=l:=by unfold rel;exact PySem.List.filterMap_getElem?_range_length l
 rw[c]at a;exact a
def pR{b:Type}(l:List b)(p:Nat)(x:b):(aF3 l p x).Perm (x::l):=by
 unfold aF3;have:=List.perm_middle (a:=x) (l₁:=l.take p) (l₂:=l.drop p);rwa[List.take_append_drop]at this
end Sx
namespace PySem
open Sx
section
variable{prog:Program}{w:World}{A:Around}{E:Value->Shared->Prop}{s:Shared}{S:Addr}{led:Bool}{N:Addr->Prop}{ks:List (List Int)}{o:Obj}{es:Array (Int×Value)}{ep:Nat}{t:SetTable}
def zO(prog:Program)(w:World)(h:Heap)(S:Addr)(led:Bool)(N:Addr->Prop)(ks:List (List Int)):Prop:=∃ o es ep t,mT prog w h S led N ks o es ep t
def mT.store(X:mT prog w s.heap S led N ks o es ep t){b:Array (Int×Value)}{t':SetTable}{c:List (List Int)}(T:TOk t' (b.toList.map (·.1)))(m:t'.led=t.led)(p:t'.plain=true)(hn:c.length=b.size)(g:c.Nodup)
  (hi:∀ (i:Nat) e,b[i]? = some e->∃ k a,c[i]? = some k/\e=(tupleKeyHash (intKind prog w) k,.ref a)/\jD prog w s.heap k a/\N a) (q:t'.place.size*5 < t'.mask*3) :
  mT prog w (s.heap.update S (Obj.putSet b t')) S led N c {o with data:=.set b (ep+1) t'} b (ep+1) t':=by
 have r:(s.heap.update S (Obj.putSet b t')).get? S=some {o with data:=.set b (ep+1) t'}:=by
  have:=a2e (Obj.putSet b t') X.ob (by rw[a3r b t' X.dt];rfl);rw[a3r b t' X.dt]at this;exact this
 refine⟨r,X.ex,rfl,T,q,m.trans X.ld,p,hn,λi e u=>?_,g⟩;obtain⟨k,a,v,x,l,y⟩:=hi i e u;refine⟨k,a,v,x,l.at (λob h=>?_),y⟩;have j:a≠S:=λz=>by
  subst z;obtain⟨A,items,n,d,_,f,_⟩:=l;rw[X.ob]at d;cases d;rw[X.dt]at f;cases f
 rw[(a0h s.heap S (Obj.putSet b t')).2 a j];exact h
def bW0(X:mT prog w s.heap S led N ks o es ep t){k:List Int}{a:Addr}{Q:Bool->Shared->Prop}(hu:A.units < cLine)(hk:jD prog w s.heap k a)(haN:N a)(hn:ks.length < 4000)
  (q1:k∈ks->∀ tk,Q false {s with toks:=tk}) (q2:k∉ks->∀ h' tk J,zO prog w h' S led N J->J.Perm (k::ks)->(∀ c ob,c≠S->s.heap.get? c=some ob->h'.get? c=some ob)->Q true {s with heap:=h',toks:=tk}) :
  wpAny (model prog w) A (setAdd S (.ref a)) Q E s:=by
 obtain⟨M,hMs,hM,hb⟩:=X.tk.stop2 (tupleKeyHash (intKind prog w) k);have hsz:t.place.size=es.size:=by have:=X.tk.len;simpa using this
 have hfit:=X.tk.fit;have hes:es.size < 4000:=by rw[← X.len];exact hn
 unfold setAdd;refine a2L (a2F (wpAny_pyHash_tuple hu hk ?_));unfold setAddHashed;refine a2L ?_;generalize hs':s.toks+(k.length+1)=d;have X':mT prog w ({s with toks:=d}:Shared).heap S led N ks o es ep t:=X;have K:jD prog w ({s with toks:=d}:Shared).heap k a:=hk;unfold setAddHashedIn;refine a2F (X'.state ?_);dsimp only;have hbs:byScan (.ref a) es=false:=rfl;rw[hbs,a2I a8d];unfold setSearch;refine a2F (mM X' hu K hM hb (by show M < 10*(t.mask+15);lia) 100000 0 none _ rfl (a1d _) (by lia) (λi ei=>?_) (λhm=>a2G (q1 hm d)) λhm=>?_)
 ·have hi':i < es.size:=by rw[← X.len];exact(a0a.mp ei).1
  have L:es[i]? = some es[i]:=a9b hi';obtain⟨k3,b5,e4,e5,_⟩:=X.it i _ L;rw[ei]at e4;cases e4;obtain⟨m,j,c1,c2,c3⟩:=X.tk.rea i (tupleKeyHash (intKind prog w) k) (by rw[a0c,a5b,L,e5];rfl);refine⟨m,j,a1d _,c1,c2,a8i λz=>?_⟩;by_cases zz:M=m;subst zz;exact hM ⟨i,by rw[c1,c2]⟩;exact hM (c3 M (by lia))
 ·dsimp only;refine a2F (X'.state ?_);dsimp only;have r:=zL t (wk t.mask (tupleKeyHash (intKind prog w) k) M).j X.tk.dm;have hf7:=X.tk.m7;have hful:=X.ful;have B:=X.tk.put hM hb (by lia);have l:=(iK X.tk.ri (wk t.mask (tupleKeyHash (intKind prog w) k) M).j).le;generalize hj:(wk t.mask (tupleKeyHash (intKind prog w) k) M).j=j at r B l ⊢;rw[r]at B ⊢;dsimp only at B ⊢;generalize hp:SetTable.below t.place j=p at B l ⊢;rw[a2H X.pl];refine a2F (bV9 K ?_);rw[a2H rfl];have C:p<=es.size:=by lia
  have O:p<=ks.length:=by rw[X.len];exact C
  have ehs:(SetTable.insertAt es p (tupleKeyHash (intKind prog w) k,Value.ref a)).toList.map (·.1)=aF3 (es.toList.map (·.1)) p (tupleKeyHash (intKind prog w) k):=by
   rw[SetTable.toList_insertAt];unfold aF3;rw[a3d,a1e,List.map_take,List.map_drop]
  rw[← ehs]at B;have q:(SetTable.insertAt es p (tupleKeyHash (intKind prog w) k,Value.ref a)).size=es.size+1:=nU es C _;have hpl:(SetTable.insertAt t.place p j).size=es.size+1:=by rw[nU t.place l,hsz]
  have P:∀ (i:Nat) e,(SetTable.insertAt es p (tupleKeyHash (intKind prog w) k,Value.ref a))[i]? = some e->∃ R u,(aF3 ks p k)[i]? = some R/\e=(tupleKeyHash (intKind prog w) R,.ref u)/\jD prog w s.heap R u/\N u:=λi e h=>by
   rw[fO _ C]at h;rw[aK2 _ O];split at h;rw[a2H (by assumption)];exact X.it i e h;split at h;cases h;rw[a2I (by assumption),a2H (by assumption)];exact⟨k,a,rfl,rfl,hk,haN⟩;rw[a2I (by assumption),a2I (by assumption)];exact X.it (i-1) e h
  have T:(aF3 ks p k).Nodup:=(pR ks p k).nodup_iff.mpr (a4h.mpr ⟨hm,X.nd⟩);have f:(aF3 ks p k).length=(SetTable.insertAt es p (tupleKeyHash (intKind prog w) k,Value.ref a)).size:=by rw[pP _ O,q,X.len]
  have hz:es.size+1<=sizeLine:=by rw[a3n];lia
  refine a2F (wpAny_storeSet_of (s:={s with toks:=d}) X.ob X.dt ?_ (by rw[q];exact hz));have kept:∀ (e2:Array (Int×Value)) (t2:SetTable) c ob,c≠S->s.heap.get? c=some ob->(s.heap.update S (Obj.putSet e2 t2)).get? c=some ob:=λe2 t2 c ob hc e=>by
   rw[(a0h s.heap S (Obj.putSet e2 t2)).2 c hc];exact e
  by_cases U:({t with place:=SetTable.insertAt t.place p j}:SetTable).tooFull=true
  ·rw[U];simp only[Bool.not_false,Bool.and_self,if_true];refine a2F ?_;unfold setRelay
   -- the table is full for a moment: what is known of it still
   have hg:(s.heap.update S (Obj.putSet (SetTable.insertAt es p (tupleKeyHash (intKind prog w) k,Value.ref a)) {t with place:=SetTable.insertAt t.place p j})).get? S=some {o with data:=.set (SetTable.insertAt es p (tupleKeyHash (intKind prog w) k,Value.ref a)) (ep+1) {t with place:=SetTable.insertAt t.place p j}}:=by
    have:=a2e (Obj.putSet (SetTable.insertAt es p (tupleKeyHash (intKind prog w) k,Value.ref a)) {t with place:=SetTable.insertAt t.place p j}) X.ob (by rw[a3r _ _ X.dt];rfl);rw[a3r _ _ X.dt]at this;exact this
   refine a2F (wpAny_setState_of (s:={s with heap:=s.heap.update S (Obj.putSet (SetTable.insertAt es p (tupleKeyHash (intKind prog w) k,Value.ref a)) {t with place:=SetTable.insertAt t.place p j}),toks:=d}) hg rfl (B.fits (by simp)) ?_);dsimp only;have hgr:SetTable.grown (es.size+1)=(es.size+1)*4:=by unfold SetTable.grown;rw[a2I (by lia)]
   obtain⟨H,V,sa2,sa3,sa4⟩:=qH ((es.size+1)*4) (by lia);rw[hgr,V];rw[a2I (by rw[a3n];lia)];have hpos:1<=2 ^ H:=Nat.one_le_two_pow;have h8:8<=2 ^ H:=by
    have:2 ^ 3<=2 ^ H:=Nat.pow_le_pow_right (by decide) sa2;simpa using this
   generalize hE:SetTable.insertAt es p (tupleKeyHash (intKind prog w) k,Value.ref a)=b at *;obtain⟨D,od,l1,l2,W,l4,l5,l6,l7⟩:=aY4 (mask:=2 ^ H-1) (k:=H) (finger:=t.finger) (moves:=({t with place:=SetTable.insertAt t.place p j}:SetTable).movedTo (2 ^ H-1)) (led:=t.led) (plain:=t.plain) (hashes:=b.map (·.1)) (by lia) (by lia) (by rw[Array.size_map,q];lia);have hrl:({t with place:=SetTable.insertAt t.place p j}:SetTable).relaid (b.map (·.1)) ((es.size+1)*4)=some (D,od):=by
    unfold SetTable.relaid;rw[V];exact l1
   rw[Array.size_map]at W l5;have F:∀ x∈od.toList,x < b.toList.length:=λx I=>by
    have:=W.mem_iff.mp I;rw[a1g]at this;rw[a0d];exact this
   have L:(od.filterMap (b[·]?)).toList=rel b.toList od.toList:=by
    rw[Array.toList_filterMap];unfold rel;congr 1;funext x;rw[a5b]
   have v:od.toList.length=b.size:=by have:=W.length_eq;simpa using this
   have G:(od.filterMap (b[·]?)).size=b.size:=by
    rw[← a0d,L,wB F,v]
   rw[hrl];refine a2F ?_;show wpAny (model prog w) A (ite (((od.filterMap (b[·]?)).size != b.size)=true) _ _) _ _ _;dsimp only;rw[G];simp only[bne_self_eq_false,Bool.false_eq_true,if_false];refine a2G ?_;dsimp only;refine wpAny_storeSet_of (s:={s with heap:=s.heap.update S (Obj.putSet b {t with place:=SetTable.insertAt t.place p j}),toks:=d}) hg rfl ?_ (by rw[G,q];exact hz);refine a2G ?_
   -- as if it were stored at once
   have T3:TOk D ((od.filterMap (b[·]?)).toList.map (·.1)):=by
    have e4:(od.filterMap (b[·]?)).toList.map (·.1)=od.toList.filterMap ((b.map (·.1))[·]?):=by
     rw[Array.toList_filterMap,List.map_filterMap];congr 1;funext x;rw[Array.getElem?_map]
    rw[e4];exact l2
   have Y:∀ x∈od.toList,x < (aF3 ks p k).length:=λx I=>by rw[f,← a0d];exact F x I
   refine q2 hm _ d (rel (aF3 ks p k) od.toList) ⟨{o with data:=.set (od.filterMap (b[·]?)) (ep+1+1) D},od.filterMap (b[·]?),ep+1+1,D,?_,X.ex,rfl,T3,?_,l6.trans X.ld,l7.trans X.pl,?_,?_,?_⟩ ?_ ?_;have:=a2e (Obj.putSet (od.filterMap (b[·]?)) D) hg (by rw[a3r _ _ rfl];rfl);rw[a3r _ _ rfl]at this;exact this;rw[l4,l5,q];lia;rw[wB Y,v,G]
   ·intro i e h;rw[← a5b,L,aF5 F]at h;rw[aF5 Y];cases I:od.toList[i]? with
    | none=>rw[I]at h;cases h
    | some x=>
      rw[I]at h;have he':b[x]? = some e:=by rw[← a5b];exact h
      obtain⟨R,u,h1,h2,h3,h4⟩:=P x e he';refine⟨R,u,h1,h2,h3.at (λob hob=>?_),h4⟩;have y:u≠S:=λz=>by
       subst z;obtain⟨o2,items,n,Z,_,hd2,_⟩:=h3;rw[X.ob]at Z;cases Z;rw[X.dt]at hd2;cases hd2
      rw[(a0h _ S (Obj.putSet (od.filterMap (b[·]?)) D)).2 u y];exact kept _ _ u ob y hob
   ·exact(aK4 (by rw[f];exact W)).nodup_iff.mpr T
   ·exact(aK4 (by rw[f];exact W)).trans (pR ks p k)
   ·intro c ob hc e;rw[(a0h _ S (Obj.putSet (od.filterMap (b[·]?)) D)).2 c hc];exact kept _ _ c ob hc e
  ·have g:({t with place:=SetTable.insertAt t.place p j}:SetTable).tooFull=false:=by simpa using U
   rw[g];simp only[Bool.and_false,Bool.false_eq_true,if_false];refine a2G (q2 hm _ d (aF3 ks p k) ⟨_,_,_,_,X.store B rfl X.pl f T P ?_⟩ (pR ks p k) (kept _ _));unfold SetTable.tooFull SetTable.fill at g;simp only[X.tk.dm,decide_eq_false_iff_not,Nat.not_le]at g;simpa using g
end
section
variable{prog:Program}{w:World}{A:Around}{S I:Addr}{led:Bool}{N:Addr->Prop}
def zO.stay{h h':Heap}{ks:List (List Int)}(X:zO prog w h S led N ks)(f:h'.get? S=h.get? S)(g:∀ c ob,N c->h.get? c=some ob->h'.get? c=some ob):zO prog w h' S led N ks:=by
 obtain⟨o,es,ep,t,Y⟩:=X;refine⟨o,es,ep,t,f.trans Y.ob,Y.ex,Y.dt,Y.tk,Y.ful,Y.ld,Y.pl,Y.len,λi e j=>?_,Y.nd⟩;obtain⟨k,a,l,m,n,d⟩:=Y.it i e j;exact⟨k,a,l,m,n.at (λob b=>g a ob d b),d⟩
def fM(prog:Program)(w:World)(h:Heap)(N:Addr->Prop)(ks:List (List Int))(items:Array Value):Prop:=ks.length=items.size/\∀ (i:Nat) v,items[i]? = some v->∃ k a,ks[i]? = some k/\v=.ref a/\jD prog w h k a/\N a
def fM.stay{h h':Heap}{ks:List (List Int)}{items:Array Value}(X:fM prog w h N ks items)(f:∀ c ob,N c->h.get? c=some ob->h'.get? c=some ob):fM prog w h' N ks items:=by
 refine⟨X.1,λi v e=>?_⟩;obtain⟨k,a,g,j,l,d⟩:=X.2 i v e;exact⟨k,a,g,j,l.at (λob b=>f a ob d b),d⟩
def aY6{items:Array Value}{ks:List (List Int)}(B:A.units < cLine)(f:¬ N S)(g:¬ N I)(j:S≠I)(hb:ks.length < 4000) :
  Fill prog w A S I items.size (λi v=>items[i]? = some v) (λi h=>fM prog w h N ks items/\∃ us,zO prog w h S led N us/\us.length<=i/\∀ x,x∈us↔x∈ks.take i) where
 put:=λi v s Q E hi C ⟨TA,us,X,n,hm⟩ q=>by
  obtain⟨k,a,D,rfl,tk,ha⟩:=TA.2 i v C;have F:i < ks.length:=by rw[TA.1];exact hi
  have p:ks.take (i+1)=ks.take i++[k]:=by rw[a7g,D];rfl
  have G:=X;obtain⟨o,es,ep,t,Y⟩:=X;refine bW0 Y B tk ha (by lia) (λd b=>?_) λd h' b l H r u=>?_;refine q _ s.heap b ⟨TA,us,G,by lia,λx=>?_⟩ λc ob _ e=>e;rw[p,a3c,a8b,hm x];refine⟨.inl,λh=>?_⟩;rcases h with h | rfl;exact h;exact(hm _).mp d;refine q _ h' b ⟨TA.stay λc ob m e=>u c ob (λz=>f (z ▸ m)) e,l,H,by have:=r.length_eq;simp at this;lia,λx=>?_⟩ u;rw[r.mem_iff,a7b,p,a3c,a8b,hm x];exact or_comm
 stay:=λi h h' ⟨TA,us,X,n,hm⟩ k=>by
  have y:∀ c ob,N c->h.get? c=some ob->h'.get? c=some ob:=λc ob m e=>k c ob (λz=>g (z ▸ m)) e;refine⟨TA.stay y,us,X.stay ?_ y,n,hm⟩;obtain⟨o,es,ep,t,Y⟩:=X;rw[k S o j Y.ob,Y.ob]
end
def aY7:Manifest.owners.lookup (String.ofList (['r','o','t','a','r','e','t','i','_','t','e','s']:List Char).reverse)=some Manifest.sig_set_iterator:=by kernel_rfl
def kK:Slot "set_iterator" "__next__" "set_iterator.__next__":=.of (owner:="set_iterator") (n:="__next__") (by rw[typeLookup_type,builtinLookup_eq_fast];kernel_rfl) (by decide +kernel) (by decide +kernel) (by decide +kernel) (.inl (by decide +kernel)) (by rw[isSubtype_type];kernel_rfl)
def zP:entryFor table "set_iterator.__next__"=some Builtin.«set_iterator.__next__»:=entryFor_of_tree (by kernel_rfl)
def aK5(a:Value):argsOk "set_iterator.__next__" ⟨[a],[]⟩:=by
 unfold argsOk;rw[signature?_of (id:="set_iterator.__next__") (n:=['_','_','t','x','e','n','_','_']) (o:=['r','o','t','a','r','e','t','i','_','t','e','s']) (by kernel_rfl) aY7]
 kernel_rfl
def qI:entryFor table "set.__iter__"=some Builtin.«frozenset.__iter__»:=entryFor_alias (id':="frozenset.__iter__") (by kernel_rfl) rfl (by decide +kernel) (by kernel_rfl)
theorem aF6{b:Type}:∀ (l:List b) (i:Nat) (h:i < l.length),(l[i]::l.eraseIdx i).Perm l
 | [],i,h=>absurd h (a5i i)
 | a::l,0,_=>.refl _
 | a::l,i+1,h=>(List.Perm.swap a _ _).trans (.cons a (aF6 l i (Nat.lt_of_succ_lt_succ h)))
theorem zQ{b:Type}(next:Nat->Nat):∀ (fuel k:Nat) (left:List b) (out:Array b),left.length=fuel->(pickOrder.go next fuel k left out).toList.Perm (out.toList++left)
 | 0,k,left,out,h=>by
   have:left=[]:=a7c h;subst this;rw[a2f];exact .refl _
 | fuel+1,k,left,out,h=>by
   have a:next k % left.length < left.length:=Nat.mod_lt _ (by lia)
   unfold pickOrder.go;rw[a1a a];dsimp only;have c:=zQ next fuel (k+1) (left.eraseIdx (next k % left.length)) (out.push left[next k % left.length]) (by rw[List.length_eraseIdx_of_lt a];lia)
   refine c.trans ?_;rw[a6g,List.append_assoc];exact List.Perm.append_left _ (aF6 left _ a)
def qJ{a:Type}(next:Nat->Nat)(xs:Array a):(pickOrder next xs).toList.Perm xs.toList:=by
 have:=zQ next xs.size 0 xs.toList #[] (by simp)
 simpa[pickOrder]using this
noncomputable abbrev aQ8(slot i n ep:Nat)(S:Addr):Obj:={cls:=.type "set_iterator",data:=.fields #[.int slot 0,.int i 0,.ref S,.int n 0,.int ep 0]}
section
variable{prog:Program}{w:World}{A:Around}{E:Value->Shared->Prop}{s:Shared}{S I:Addr}{N:Addr->Prop}{ks:List (List Int)}{o:Obj}{es:Array (Int×Value)}{ep:Nat}{t:SetTable}
noncomputable def bS(w:World)(S:Addr)(ep:Nat)(es:Array (Int×Value)):Array (Int×Value):=if w.params.followText "set-order"=true then pickOrder (w.params.setOrder S ep) es else es
def pS(es:Array (Int×Value)):(bS w S ep es).toList.Perm es.toList:=by
 unfold bS;split;exact qJ _ es;exact .refl _
def aY8(X:mT prog w s.heap S (eS w) N ks o es ep t){Q:Value->Shared->Prop}(q:Q (.ref s.heap.objs.size) {s with heap:=s.heap.push (aQ8 0 0 es.size ep S)}):wpAny (model prog w) A (pyIter (.ref S)) Q E s:=by
 have a:s.TypeIs (.ref S) "set":=⟨o,X.ob,X.ex.1⟩;refine wpAny_pyIter_slot a F.slot_set_iter (a2V F.slot_set_iter a qI ?_ (F.args_set_iter_1 _));show wpAny _ _ (Builtin.Frozenset.sizeOf S >>= _) _ _ s;unfold Builtin.Frozenset.sizeOf;refine a2F (a2F (a3q X.ob X.dt X.fits (a2G ?_)));unfold setDrawn;refine a2F (a2F (X.state ?_));unfold setsByText;refine a2F (a2F (a3k (a2G ?_)));refine a2G ?_;have hd:(!t.plain&&decide (es.size > 1))=false:=by rw[X.pl];rfl
 dsimp only;rw[a2I (λh=>?_)];refine a2F (a2G ?_);refine a2F (wpAny_setEpoch_of X.ob X.dt X.fits ?_);unfold newFields;refine a2F (a2O ?_);exact a2G ⟨_,rfl,"set_iterator",_,⟨_,a3b _ rfl,rfl⟩,kK.lookup,q⟩;rw[a9d]at h;exact Bool.noConfusion (hd.symm.trans h.2)
def aY9(w:World)(h:Heap)(I S:Addr)(es:Array (Int×Value))(ep:Nat)(t:SetTable)(i:Nat):Prop:=
 ∃ slot,h.get? I=some (aQ8 slot i es.size ep S)/\(w.params.followText "set-order"=false->SetTable.below t.place slot=i)
def aZ0(X:mT prog w s.heap S (eS w) N ks o es ep t){i slot:Nat}(j:w.params.followText "set-order"=false->SetTable.below t.place slot=i){Q:Option (Value×Nat)->Shared->Prop}
  (k:∀ e next,(bS w S ep es)[i]? = some e->(w.params.followText "set-order"=false->SetTable.below t.place next=i+1)->Q (some (e.2,next)) s) (l:(bS w S ep es)[i]? = none->Q none s):wpAny (model prog w) A (setNext S slot i ep) Q E s:=by
 unfold setNext;refine a2F (X.state ?_);unfold setsByText;refine a2F (a2F (a3k (a2G ?_)));dsimp only;by_cases hb:w.params.followText "set-order"=true
 ·rw[a2H (show(model prog w).w.params.followText "set-order"=true from hb)];simp only[bne_self_eq_false,Bool.false_eq_true,if_false];unfold setWalk;refine a2F (a2F (X.state ?_));unfold setsByText;refine a2F (a2F (a3k (a2G ?_)));dsimp only;rw[a2H (show(model prog w).w.params.followText "set-order"=true from hb)];refine a2F (a3k (a2G ?_));have m:bS w S ep es=pickOrder (w.params.setOrder S ep) es:=by unfold bS;rw[a2H hb]
  show wpAny _ _ (pure ((pickOrder (w.params.setOrder S ep) es)[i]?.map λe=>(e.2,slot))) _ _ _;refine a2G ?_;rw[← m];cases d:(bS w S ep es)[i]? with
  | none=>exact l d
  | some e=>exact k e slot d λz=>by rw[hb]at z;cases z
 ·have f:w.params.followText "set-order"=false:=by simpa using hb
  have a:=j f;have m:bS w S ep es=es:=by unfold bS;rw[a2I hb]
  have n:(!t.plain&&decide (es.size > 1))=false:=by rw[X.pl];rfl
  have g:t.led=true:=by rw[X.ld];unfold eS;rw[f];rfl
  rw[a2I (show ¬ ((model prog w).w.params.followText "set-order"=true)from hb)];refine a3w (λh=>absurd (n.symm.trans h) a8d) λ_=>?_;refine a2F ?_;have p:wpAny (model prog w) A (if(!t.led && !es.isEmpty)=true then unsupported "set:maker-not-led" else pure ()) (λ_ s'=>s'=s) E s:=by
   rw[g];simp only[Bool.not_true,Bool.false_and,Bool.false_eq_true,if_false];exact a2G rfl
  refine a2Q p (λ_ s' x=>?_) λ_ _ z=>z;subst x;rw[a];rw[m]at k l;have q:t.place.size=es.size:=by have:=X.tk.len;simpa using this
  cases d:es[i]? with
  | none=>exact a2G (l d)
  | some e=>
    have r:i < t.place.size:=by rw[q];exact(a4e.mp d).1
    have b:t.place[i]? = some t.place[i]:=a9b r;rw[b];refine a2G (k e _ d λ_=>?_);have c:=iK X.tk.ri (t.place[i]+1);have y:i < SetTable.below t.place (t.place[i]+1):=by
     refine a8i λz=>?_;have:=c.hi i _ z b;lia
    have B:SetTable.below t.place (t.place[i]+1)<=i+1:=by
     refine a7i λz=>?_;have u:i+1 < t.place.size:=a1c z c.le;have v:t.place[i+1]? = some t.place[i+1]:=a9b u;have:=c.lo (i+1) _ z v;have:=X.tk.ri i (i+1) _ _ (a1h _) b v;lia
    lia
def aZ1(X:mT prog w s.heap S (eS w) N ks o es ep t){i:Nat}(hi:aY9 w s.heap I S es ep t i){Q:Option Value->Shared->Prop}{e:Int×Value}(g:(bS w S ep es)[i]? = some e)
  (q:∀ h',aY9 w h' I S es ep t (i+1)->(∀ b ob,b≠I->s.heap.get? b=some ob->h'.get? b=some ob)->Q (some e.2) {s with heap:=h'}):wpAny (model prog w) A (pyNext (.ref I)) Q E s:=by
 obtain⟨slot,c,d⟩:=hi;have h:s.TypeIs (.ref I) "set_iterator":=⟨_,c,rfl⟩;unfold pyNext;refine a2F (wpAny_attempt (wpAny_callSpecial?_slot (name:=Str.ofString "__next__") h kK (a2V kK h zP ?_ (aK5 _))));show wpAny _ _ (fieldsOf (.ref I) >>= _) _ _ s;unfold fieldsOf;refine a2F (a2F (wpAny_load c (a2G ?_)));dsimp only;refine a2F (a3q X.ob X.dt X.fits ?_);simp only[bne_self_eq_false,Bool.false_eq_true,if_false,Int.toNat_natCast];refine a2F (aZ0 X d (λm next a f=>?_) λhn=>?_)
 ·rw[g]at a;cases a;dsimp only;refine a2F (wpAny_setField c rfl (by simp) ?_);have j:(s.heap.update I (λob=>ob.mapFields (·.setIfInBounds 0 (rawInt next)))).get? I=some (aQ8 next i es.size ep S):=by
   rw[a2e _ c rfl];simp[Obj.mapFields,rawInt]
  refine a2F (wpAny_setField (s:={s with heap:=s.heap.update I (λob=>ob.mapFields (·.setIfInBounds 0 (rawInt next)))}) j rfl (by simp) ?_);have k:((s.heap.update I (λob=>ob.mapFields (·.setIfInBounds 0 (rawInt next)))).update I (λob=>ob.mapFields (·.setIfInBounds 1 (rawInt ((i:Int)+1))))).get? I=some (aQ8 next (i+1) es.size ep S):=by
   rw[a2e _ j rfl];simp[Obj.mapFields,rawInt]
  refine a2G ⟨_,rfl,a2G (q _ ⟨next,k,f⟩ λb ob hb l=>?_)⟩;exact(a0e _ _ (a9c hb)).trans ((a0e _ _ (a9c hb)).trans l)
 ·rw[g]at hn;cases hn
def aZ2(g:A.handled=none)(X:mT prog w s.heap S (eS w) N ks o es ep t){i:Nat}(hi:aY9 w s.heap I S es ep t i){Q:Option Value->Shared->Prop}(h:(bS w S ep es)[i]? = none)
  (q:∀ h',(∀ b ob,b≠I->s.heap.get? b=some ob->h'.get? b=some ob)->Q none {s with heap:=h'}):wpAny (model prog w) A (pyNext (.ref I)) Q E s:=by
 obtain⟨slot,d,e⟩:=hi;have f:s.TypeIs (.ref I) "set_iterator":=⟨_,d,rfl⟩;unfold pyNext;refine a2F (wpAny_attempt (wpAny_callSpecial?_slot (name:=Str.ofString "__next__") f kK (a2V kK f zP ?_ (aK5 _))));show wpAny _ _ (fieldsOf (.ref I) >>= _) _ _ s;unfold fieldsOf;refine a2F (a2F (wpAny_load d (a2G ?_)));dsimp only;refine a2F (a3q X.ob X.dt X.fits ?_);simp only[bne_self_eq_false,Bool.false_eq_true,if_false,Int.toNat_natCast];refine a2F (aZ0 X e (λl next c j=>?_) λhn=>?_)
 ·rw[h]at c;cases c
 ·dsimp only;refine a2F (wpAny_setField d rfl (by simp) ?_);show wpAny _ _ (newExc (.type "StopIteration") [] >>= _) _ _ _;refine a2F ?_;simp only[newExc,newTuple];refine a2F (a2O ?_ (by size_fits));refine a2F (m:=firstArgMember _ _) (wpAny_of_eq (a:=Value.none) rfl ?_);refine a2O ?_ (by size_fits);simp only[raiseNew];refine a2F (wpAny_handled ?_);rw[show A.in1.handled=none from g];refine a2F (a2G (wpAny_throw ?_));refine a2F (wpAny_isInstance (T:="StopIteration") (b:=true) ⟨_,a3b _ rfl,rfl⟩ isSubtype_stop ?_);refine a2G (q _ λb ob hb k=>a6a _ (a6a _ ((a0e _ _ (a9c hb)).trans k)))
end
open L2
def aQ9:typeLookup (.type "set") "__len__"=pure (some (.builtin "set.__len__")):=by rw[typeLookup_type,builtinLookup_eq_fast];kernel_rfl
section
variable{prog:Program}{w:World}{A:Around}{E:Value->Shared->Prop}{s:Shared}{S I:Addr}{N:Addr->Prop}{ks:List (List Int)}{o:Obj}{es:Array (Int×Value)}{ep:Nat}{t:SetTable}
def bH6{Q:Bool->Shared->Prop}(c:s.TypeIs (.ref S) "set")(h:∀ b,Q b s):wpAny (model prog w) A (Builtin.List.listLengthHint (.ref S)) Q E s:=by
 unfold Builtin.List.listLengthHint;refine a2F (a3u c aQ9 ?_)
 (generalize hid:("set.__len__":String)=a;(fail_if_success (clear hid a));wp_delta;rw[show splitId a=some ("set","__len__")from by subst hid;decide +kernel];subst hid)
 refine a2F (wpAny_isInstance (b:=true) c sub_set_self ?_);dsimp only;rw[a2I (by decide)];refine a3w (λ_=>?_) (λh'=>(h' (by decide +kernel)).elim);refine a2F (a3m c ?_);exact a2G (h _)
def bH7(y:A.handled=none){L:Addr}{h0:Heap}(X:mT prog w h0 S (eS w) N ks o es ep t)(B:h0.objs.size<=I)(C:h0.objs.size<=L)(f:L≠I) :
  LoopJ prog w A I L es.size (λi acc h=>(∀ b ob,h0.get? b=some ob->h.get? b=some ob)/\aY9 w h I S es ep t i/\acc.toList=((bS w S ep es).toList.take i).map (·.2)) (λacc h=>(∀ b ob,h0.get? b=some ob->h.get? b=some ob)/\acc.toList=(bS w S ep es).toList.map (·.2)):=by
 have D:(bS w S ep es).toList.length=es.size:=by have:=(pS (w:=w) (S:=S) (ep:=ep) es).length_eq;simpa using this
 have v:∀ b ob,h0.get? b=some ob->b≠I:=λb ob e z=>absurd (a4b e) (a0j.mpr (z ▸ B));have F:∀ b ob,h0.get? b=some ob->b≠L:=λb ob e z=>absurd (a4b e) (a0j.mpr (z ▸ C));have x:∀ (h:Heap),(∀ b ob,h0.get? b=some ob->h.get? b=some ob)->mT prog w h S (eS w) N ks o es ep t:=λh d=>
  ⟨d _ _ X.ob,X.ex,X.dt,X.tk,X.ful,X.ld,X.pl,X.len,λi e l=>by
   obtain⟨k,a,m,n,G,H⟩:=X.it i e l;exact⟨k,a,m,n,G.at (λob p=>d a ob p),H⟩,X.nd⟩
 refine⟨λi acc s c Q E hi ⟨d,hs,ha⟩ r q=>?_,λacc s c Q E ⟨d,hs,ha⟩ r q=>?_,λi acc h h' ⟨d,hs,ha⟩ _ k=>?_⟩
 ·have g:i < (bS w S ep es).toList.length:=by lia
  have l:(bS w S ep es)[i]? = some (bS w S ep es).toList[i]:=by rw[← a5b];exact a1a g
  refine aZ1 (x s.heap d) hs l λh' u j=>?_;have:=q (bS w S ep es).toList[i].2 h' s.toks ⟨λb ob e=>j b ob (v b ob e) (d b ob e),u,?_⟩ (j _ _ f r);exact this;rw[a6g,ha,a7g,a1a g,a3d];rfl
 ·refine aZ2 y (x s.heap d) hs (by rw[← a5b];exact a6i (by lia)) λh' j=>?_;have:=q h' s.toks ⟨λb ob e=>j b ob (v b ob e) (d b ob e),by rw[ha,a8c (by lia)]⟩ (j _ _ f r);exact this
 ·obtain⟨slot,m,n⟩:=hs;exact⟨λb ob e=>k b ob (F b ob e) (d b ob e),⟨slot,k I _ (a9c f) m,n⟩,ha⟩
def zR(J:A.handled=none)(X:mT prog w s.heap S (eS w) N ks o es ep t)(hz:es.size<=sizeLine){Q:List Value->Shared->Prop}
  (q:∀ h' tk,(∀ b ob,s.heap.get? b=some ob->h'.get? b=some ob)->s.heap.objs.size < h'.objs.size->Q ((bS w S ep es).toList.map (·.2)) {s with heap:=h',toks:=tk}):wpAny (model prog w) A (collect (.ref S)) Q E s:=by
 have h:S < s.heap.objs.size:=a4b X.ob;have n:∀ R:Result->Shared->Prop,(∀ h' tk acc c,(∀ b ob,s.heap.get? b=some ob->h'.get? b=some ob)->acc.toList=(bS w S ep es).toList.map (·.2)->h'.get? s.heap.objs.size=some (kW acc c)->R (.ok (.ret (.ref s.heap.objs.size))) {s with heap:=h',toks:=tk}) ->
   codeAny (model prog w) A (.builtin "proto.collect" ⟨[.ref S],[]⟩) R s:=by
  intro R C
  (refine a2S F.entry_proto_collect ?_;rw[a0g F.plain_proto_collect _])
  (show wpAny _ A.in1 (newList [] >>= λl=>again (.builtin "list.__iadd__" ⟨[l,.ref S],[]⟩)) _ _ s;refine a2F (a2O ?_))
  (refine a2G ⟨a3o F.plain_list_iadd _,a2S F.entry_list_iadd ?_⟩;rw[a0g F.plain_list_iadd _])
  have up:∀ b ob,s.heap.get? b=some ob->(s.heap.push (kW #[] 0)).get? b=some ob:=λb ob e=>a6a _ e;have D:(s.heap.push (kW #[] 0)).objs.size=s.heap.objs.size+1:=Heap.size_push ..;have G:mT prog w ({s with heap:=s.heap.push (kW #[] 0)}:Shared).heap S (eS w) N ks o es ep t:=
   ⟨up _ _ X.ob,X.ex,X.dt,X.tk,X.ful,X.ld,X.pl,X.len,λi e K=>by
    obtain⟨k,a,p,M,O,P⟩:=X.it i e K;exact⟨k,a,p,M,O.at (λob r=>up a ob r),P⟩,X.nd⟩
  have T:Shared.TypeIs {s with heap:=s.heap.push (kW #[] 0)} (.ref S) "set":=⟨o,G.ob,X.ex.1⟩
  (show wpAny _ A.in1 (Builtin.List.listExtendWith (.ref s.heap.objs.size) (.ref S) (.ref s.heap.objs.size)) _ _ {s with heap:=s.heap.push (kW #[] 0)})
  unfold Builtin.List.listExtendWith;refine a2F (a3m T ?_);have p:Builtin.List.listSameRef (.ref s.heap.objs.size) (.ref S)=false:=by
   simp only[Builtin.List.listSameRef,beq_eq_false_iff_ne];exact Nat.ne_of_gt h
  rw[a2I (by rw[p];decide)];refine a2F (aY8 G ?_);have f:((s.heap.push (kW #[] 0)).push (aQ8 0 0 es.size ep S)).get? s.heap.objs.size=some (kW #[] 0):=a6a _ (a3b _ rfl);have u:((s.heap.push (kW #[] 0)).push (aQ8 0 0 es.size ep S)).get? (s.heap.push (kW #[] 0)).objs.size=some (aQ8 0 0 es.size ep S):=a3b _ rfl;have j:∀ b ob,s.heap.get? b=some ob->((s.heap.push (kW #[] 0)).push (aQ8 0 0 es.size ep S)).get? b=some ob:=λb ob e=>a6a _ (up b ob e);have v:Shared.TypeIs {s with heap:=(s.heap.push (kW #[] 0)).push (aQ8 0 0 es.size ep S)} (.ref S) "set":=⟨o,j _ _ X.ob,X.ex.1⟩;have U:SetTable.below t.place 0=0:=by
   have c:=iK X.tk.ri 0;refine Nat.le_zero.mp (a7i λz=>?_);have x:0 < t.place.size:=a1c z c.le;have V:t.place[0]? = some t.place[0]:=a9b x;exact absurd (c.lo 0 _ z V) (a5i _)
  have ne:s.heap.objs.size≠(s.heap.push (kW #[] 0)).objs.size:=by rw[D];exact a4d (a1h _)
  have L:=bH7 (A:=A.in1) J (I:=(s.heap.push (kW #[] 0)).objs.size) (L:=s.heap.objs.size) X (by rw[D];exact Nat.le_succ _) (a8a _) ne;have H:(∀ b ob,s.heap.get? b=some ob->((s.heap.push (kW #[] 0)).push (aQ8 0 0 es.size ep S)).get? b=some ob)/\aY9 w ((s.heap.push (kW #[] 0)).push (aQ8 0 0 es.size ep S)) (s.heap.push (kW #[] 0)).objs.size S es ep t 0/\(#[]:Array Value).toList=((bS w S ep es).toList.take 0).map (·.2):=⟨j,⟨0,u,λ_=>U⟩,rfl⟩;refine a2F (a2L (bH6 v λb=>?_));refine a3w (λ_=>?_) (λ_=>a2G ⟨a3o a1i _,cE8 L hz _ es.size 0 _ #[] 0 (by lia) (a1d _) H rfl f λh' tk acc c g y d=>C h' tk acc c g.1 g.2 d⟩)
  (refine a2F (a2U ?_);refine a2F ?_)
  (show wpAny _ _ (updateSeq s.heap.objs.size (·.push .none) >>= λ_=>updateSeq s.heap.objs.size (·.pop)) _ _ _;refine a2F (a3v f rfl ?_))
  have m:(((s.heap.push (kW #[] 0)).push (aQ8 0 0 es.size ep S)).update s.heap.objs.size (Obj.mapSeq (·.push Value.none))).get? s.heap.objs.size=some (kW #[.none] 1):=by
   rw[a2e _ f rfl];simp[Obj.mapSeq]
  refine a3v (hz:=by seq_fits) m rfl ?_;have B:((((s.heap.push (kW #[] 0)).push (aQ8 0 0 es.size ep S)).update s.heap.objs.size (Obj.mapSeq (·.push Value.none))).update s.heap.objs.size (Obj.mapSeq (·.pop))).get? s.heap.objs.size=some (kW #[] 2):=by
   rw[a2e _ m rfl];simp[Obj.mapSeq]
  refine a2G ⟨a3o a1i _,cE8 L hz _ es.size 0 _ #[] 2 (by lia) (a1d _) (L.frame _ _ _ _ H ?_ λb ob hb e=>?_) rfl B λh' tk acc c g y d=>C h' tk acc c g.1 g.2 d⟩;exact(Heap.size_update ..).trans (Heap.size_update ..);exact(a0e _ _ (a9c hb)).trans ((a0e _ _ (a9c hb)).trans e)
 (unfold collect;refine a2F (wpAny_runValue (n _ λh' tk acc c g ha d=>?_)))
 (show wpAny _ A (load s.heap.objs.size >>= _) _ _ _;refine a2F (wpAny_load d ?_))
 rw[← ha]at q;exact a2G (q h' tk g (a4b d))
end
end PySem
namespace Sx
open PySem PySem.W PyProof.Rows
structure Ord(c:Nat->Nat->Bool):Prop where
 ir:∀ a,c a a=false
 tr:∀ {a b d},c a b=true->c b d=true->c a d=true
 nt:∀ {a b d},c b a=false->c d b=false->c d a=false
section
variable{N:Nat}{c:Nat->Nat->Bool}{cmp:Nat->Nat->(Bool->Shared->Prop)->Shared->Prop}{s:Shared}(O:Ord c)(hc:∀ i j C,i < N->j < N->C (c i j) s->cmp i j C s)
include O hc
end
noncomputable def tlt:List Int->List Int->Bool
 | _,[]=>false
 | [],_::_=>true
 | a::x,b::y=>if a=b then tlt x y else decide (a < b)
theorem wC:∀ x,tlt x x=false
 | []=>rfl
 | a::x=>by show(if a=a then tlt x x else _)=false;rw[a2H rfl];exact wC x
theorem aK6:∀ {x y z},tlt x y=true->tlt y z=true->tlt x z=true
 | _,[],_,h,_=>by simp[tlt]at h
 | _,_::_,[],_,h=>by simp[tlt]at h
 | [],_::_,_::_,_,_=>rfl
 | a::x,b::y,d::z,i,j=>by
   have e:(if a=b then tlt x y else decide (a < b))=true:=i;have c:(if b=d then tlt y z else decide (b < d))=true:=j;show(if a=d then tlt x z else decide (a < d))=true;by_cases g:a=b;rw[a2H g]at e;by_cases f:b=d;rw[a2H f]at c;rw[a2H (g.trans f)];exact aK6 e c;rw[a2I f]at c;rw[a2I (by lia)];simp at c ⊢;lia;rw[a2I g]at e;by_cases f:b=d;rw[a2H f]at c;rw[a2I (by lia)];simp at e ⊢;lia;rw[a2I f]at c;simp at e c;rw[a2I (by lia)];simp;lia
theorem aF7:∀ {x y},tlt x y=false->tlt y x=false->x=y
 | [],[],_,_=>rfl
 | [],_::_,h,_=>by simp[tlt]at h
 | _::_,[],_,h=>by simp[tlt]at h
 | a::x,b::y,f,g=>by
   have c:(if a=b then tlt x y else decide (a < b))=false:=f;have d:(if b=a then tlt y x else decide (b < a))=false:=g;by_cases e:a=b;rw[a2H e]at c;rw[a2H e.symm]at d;rw[e,aF7 c d];rw[a2I e]at c;rw[a2I λz=>e z.symm]at d;simp at c d;lia
section
variable{prog:Program}{w:World}{A:Around}{E:Value->Shared->Prop}{s:Shared}
theorem bM5{b:Bool}{Q:Bool->Shared->Prop}:∀ {x y:List Int} {xs ys:List Value} (i:Nat) (fin:Bool),ItemsAre (intKind prog w) x xs->ItemsAre (intKind prog w) y ys->fin=decide (xs.length+i < ys.length+i)->Q (tlt x y) s->KatLex prog w A b (decide (xs.length < ys.length)) Q (xs.zip ys) i s
 | _,_,_,_,i,fin,.nil,.nil,_,q=>q
 | _,_,_,_,i,fin,.nil,.cons _ _,_,q=>by
   show Q (decide (0 < _)) s;rw[a3j (by simp)];exact q
 | _,_,_,_,i,fin,.cons _ _,.nil,_,q=>by
   show Q (decide (_ < 0)) s;rw[a2M (by simp)];exact q
 | _,_,_,_,i,fin,.cons (k:=a) (ks:=x) f g,.cons (k:=d) (ks:=y) h j,_,q=>by
   obtain⟨t,rfl⟩:=Value.isInt_shape f;obtain⟨u,rfl⟩:=Value.isInt_shape h;rw[List.zip_cons_cons];refine kat_cons (wpAny_eqBool_int ?_);have c:Q (if a=d then tlt x y else decide (a < d)) s:=q;by_cases e:a=d;rw[a2H e]at c;rw[show(a==d)=true from a2J.mpr e];refine kat_yes ?_;have:=bM5 (b:=b) (i+1) (decide (_+(i+1) < _+(i+1))) g j rfl c;simpa using this
   ·rw[a2I e]at c;rw[show(a==d)=false by simpa using e];refine kat_no ?_;cases (b&&i==0)with
    | true=>exact oneLt_int c
    | false=>exact kat_one _ _ (lt_int c)
def bH8{ks:List (List Int)}{vs:List Value}{N:Addr->Prop}{Q:SortKind->Shared->Prop}(T:fM prog w s.heap N ks vs.toArray)(z:0 < vs.length)(B:∀ k∈ks,k≠[])(q:Q (tuples' true) s):wpAny (model prog w) A (keyKind' vs.toArray) Q E s:=by
 have h:∀ (vs:List Value) (ks:List (List Int)),(∀ (i:Nat) v,vs[i]? = some v->∃ k a,ks[i]? = some k/\v=.ref a/\jD prog w s.heap k a)->(∀ k∈ks,k≠[])->∃ fs:List Value,KatTups s.heap vs fs/\fs.length=vs.length/\∀ v∈fs,∃ i t,v=.int i t:=by
  intro vs
  induction vs with
  | nil=>intro ks _ _;exact⟨[],KatTups.nil,rfl,by simp⟩
  | cons v r C=>
    intro ks c d;obtain⟨k,a,j,rfl,o,items,n,g,D,hd,hi⟩:=c 0 v rfl;cases ks with
    | nil=>simp at j
    | cons K ks=>
      simp at j;subst j;obtain⟨fs,l,y,m⟩:=C ks (λi u F=>c (i+1) u (by simpa using F)) λx b=>d x (a4a _ b);have p:=d _ a3a;cases hit:items.toList with
      | nil=>
        rw[hit]at hi;cases hi;exact absurd rfl p
      | cons f eI=>
        have G:items[0]? = some f:=by rw[← a5b,hit];rfl
        obtain⟨i,t,H⟩:=iY hi f (by rw[hit];exact a3a);refine⟨f::fs,KatTups.cons g D hd G l,by simp[y],λx b=>?_⟩;rcases a7b.mp b with rfl | b;exact⟨i,t,H⟩;exact m x b
 obtain⟨fs,l,y,m⟩:=h vs ks (λi v e=>by
  obtain⟨k,a,c,d,I,_⟩:=T.2 i v (by rw[a5d];exact e);exact⟨k,a,c,d,I⟩) B
 refine kat_kind (T:=.type "int") l (by lia) (λv J=>?_) (by decide) q;obtain⟨i,t,rfl⟩:=m v J;exact .now
end
noncomputable def aS0(k:List Int):List (List Int)->List (List Int)
 | []=>[k]
 | x::r=>if tlt k x=true then k::x::r else if k=x then x::r else x::aS0 k r
noncomputable def srt:List (List Int)->List (List Int)
 | []=>[]
 | k::r=>aS0 k (srt r)
abbrev aZ3(l:List (List Int)):Prop:=l.Pairwise λa b=>tlt a b=true
theorem xI(k:List Int):∀ (l:List (List Int)) (x:List Int),x∈aS0 k l↔x=k\/x∈l
 | [],x=>by simp[aS0]
 | y::r,x=>by
   unfold aS0;split;simp
   ·split;rename_i h;subst h;simp
    ·rw[a7b,xI k r x,a7b];constructor;rintro(h | h | h);exact .inr (.inl h);exact .inl h;exact .inr (.inr h);rintro(h | h | h);exact .inr (.inl h);exact .inl h;exact .inr (.inr h)
theorem aK7(k:List Int):∀ (l:List (List Int)),aZ3 l->aZ3 (aS0 k l)
 | [],_=>List.pairwise_singleton _ _
 | y::r,h=>by
   obtain⟨b,d⟩:=a0f.mp h;unfold aS0;split;rename_i c;refine a0f.mpr ⟨λx a=>?_,h⟩;rcases a7b.mp a with rfl | a;exact c;exact aK6 c (b x a)
   ·split;exact h
    ·rename_i hn e;refine a0f.mpr ⟨λx a=>?_,aK7 k r d⟩;rcases(xI k r x).mp a with rfl | a
     ·cases f:tlt y x with
      | true=>rfl
      | false=>exact absurd (aF7 (by simpa using hn) f) e
     ·exact b x a
theorem eK:∀ (l:List (List Int)) (x:List Int),x∈srt l↔x∈l
 | [],x=>by simp[srt]
 | k::r,x=>by
   show x∈aS0 k (srt r)↔_;rw[xI,eK r x,a7b]
theorem fU:∀ (l:List (List Int)),aZ3 (srt l)
 | []=>.nil
 | k::r=>aK7 k _ (fU r)
def aZ4{l:List (List Int)}(h:aZ3 l):l.Nodup:=List.nodup_iff_pairwise_ne.mpr (h.imp λ{a b} h e=>by subst e;rw[wC]at h;cases h)
theorem zS:∀ {a b:List (List Int)},aZ3 a->aZ3 b->(∀ x,x∈a↔x∈b)->a=b
 | [],[],_,_,_=>rfl
 | [],y::b,_,_,h=>by have:=(h y).mpr a3a;simp at this
 | x::a,[],_,_,h=>by have:=(h x).mp a3a;simp at this
 | x::a,y::b,ha,hb,h=>by
   obtain⟨g,j⟩:=a0f.mp ha;obtain⟨i,k⟩:=a0f.mp hb;have d:x=y:=by
    rcases a7b.mp ((h x).mp a3a)with e | e;exact e;rcases a7b.mp ((h y).mpr a3a)with f | f;exact f.symm;have:=aK6 (i x e) (g y f);rw[wC]at this;cases this
   subst d;have nx:x∉a:=λz=>by have:=g x z;rw[wC]at this;cases this
   have l:x∉b:=λz=>by have:=i x z;rw[wC]at this;cases this
   rw[zS j k λz=>?_];constructor;intro c;rcases a7b.mp ((h z).mp (a4a _ c))with e | e;subst e;exact absurd c nx;exact e;intro c;rcases a7b.mp ((h z).mpr (a4a _ c))with e | e;subst e;exact absurd c l;exact e
end Sx
namespace PySem
open Sx PySem.W PyProof.Rows
section
variable{prog:Program}{w:World}{A:Around}{E:Value->Shared->Prop}{s:Shared}{S:Addr}{N:Addr->Prop}{ks:List (List Int)}{o:Obj}{es:Array (Int×Value)}{ep:Nat}{t:SetTable}
end
end PySem
namespace Sx
open PySem PySem.W PyProof.Rows So
section
variable{prog:Program}{w:World}{A:Around}{E:Value->Shared->Prop}{s:Shared}
def cI0{a c:List Int}{d e:Addr}{b:Bool}{Q:Bool->Shared->Prop}(f:jD prog w s.heap a d)(g:jD prog w s.heap c e)(q:Q (tlt a c) s):wpAny (model prog w) A (keyLt' (tuples' b) (.ref d) (.ref e)) Q E s:=by
 obtain⟨p,h,n1,i,_,j,k⟩:=f;obtain⟨r,l,n2,m,_,n,o⟩:=g;refine kat_lt i j m n ?_;have:=bM5 (b:=b) (A:=A) 0 (decide (h.toList.length+0 < l.toList.length+0)) k o rfl q;simpa using this
noncomputable def aB5(prog:Program)(w:World)(h:Heap)(x:Keyed):List Int:=Classical.epsilon λk=>∃ a,x.1=.ref a/\jD prog w h k a
def mO{h:Heap}{x:Keyed}{a:Addr}{k:List Int}(e:x.1=.ref a)(t:jD prog w h k a):aB5 prog w h x=k:=by
 obtain⟨d,b,c⟩:=Classical.epsilon_spec (p:=λk=>∃ a,x.1=.ref a/\jD prog w h k a) ⟨k,a,e,t⟩;rw[e]at b;cases b;exact c.inj t
def cI1:Cm (model prog w) A s (tuples' true) (λx=>∃ k a,x.1=.ref a/\jD prog w s.heap k a) (λx y=>tlt (aB5 prog w s.heap x) (aB5 prog w s.heap y)) where
 lt:=λ{x y E Q} ⟨k,a,e,t⟩ ⟨d,f,b,c⟩ q=>by
  rw[mO e t,mO b c]at q;rw[e,b];exact cI0 t c q
 ir:=λx=>wC _
 tr:=aK6
def bH9{h:Heap}{N:Addr->Prop}{ks:List (List Int)}{vs:List Value}{L:List Keyed}(T:fM prog w h N ks vs.toArray)(hn:ks.Nodup)(pm:L.Perm (vs.zip vs))(so:L.Pairwise λx y=>tlt (aB5 prog w h x) (aB5 prog w h y)=true):fM prog w h N (srt ks) (L.map (·.2)).toArray:=by
 have r:ks.length=vs.length:=by simpa using T.1
 have f:∀ x∈L,∃ a,x.2=.ref a/\jD prog w h (aB5 prog w h x) a/\N a:=λx c=>by
  obtain⟨g,j⟩:=mem_zip_self (pm.mem_iff.mp c);obtain⟨i,hi,e⟩:=a5f j;obtain⟨k,a,_,b,d,m⟩:=T.2 i x.1 (by rw[a5d,a1a hi,e]);exact⟨a,g ▸ b,by rw[mO b d];exact d,m⟩
 have o:(vs.zip vs).map (aB5 prog w h)=ks:=by
  refine a5h λi=>?_;rw[a0c];by_cases hi:i < vs.length
  ·have p:(vs.zip vs)[i]? = some (vs[i],vs[i]):=by rw[a1a (by simpa using hi)];simp
   obtain⟨k,a,q,b,d,m⟩:=T.2 i vs[i] (by rw[a5d];exact a1a hi);rw[p,q];exact a2Y some (mO b d)
  ·rw[a6i (l:=ks) (by lia),a6i (by simpa using hi)];rfl
 have e:L.map (aB5 prog w h)=srt ks:=zS (List.pairwise_map.mpr so) (fU ks) λx=>by
  rw[eK,← o,(pm.map (aB5 prog w h)).mem_iff]
 refine⟨by rw[← e];simp,λi v n=>?_⟩;rw[a5d,a0c]at n;obtain⟨x,c,rfl⟩:=a5c.mp n;obtain⟨a,g,j,b⟩:=f x (a2c c);exact⟨aB5 prog w h x,a,by rw[← e,a0c,c];rfl,g,j,b⟩
def aR0{ks:List (List Int)}{vs:List Value}{N:Addr->Prop}{D n:Nat}{P:PySem.Fin->Shared->Prop}(o:s.heap.get? D=some (seqObj "list" vs.toArray n))(M:¬ N D)(T:fM prog w s.heap N ks vs.toArray)(hz:vs.length<=sizeLine)(hn:ks.Nodup)(O:2<=vs.length->∀ k∈ks,k≠[])
  (q:∀ h' ws c,fM prog w h' N (srt ks) (List.toArray ws)->h'.get? D=some (seqObj "list" (List.toArray ws) c)->(∀ b ob,b≠D->s.heap.get? b=some ob->h'.get? b=some ob)->P (.done (.ret .none)) {s with heap:=h'}) :
  wpAny (model prog w) A (Builtin.«list.sort» ⟨[.ref D],[]⟩) P E s:=by
 have R:D < s.heap.objs.size:=a4b o;rw[list_sort_plain];refine a2F (listItems_at o rfl (a2F (listUpdate_at o rfl ?_ (by simpa using hz) (a1d _))));obtain⟨g,l⟩:∃ g,(s.heap.update D (Obj.mapSeq λ_=>(#[]:Array Value))).get? D=some (seqObj "list" #[] g):=⟨_,get?_update_seq o λ_=>#[]⟩;refine a2F (seqEpoch_at l rfl (a2F (wpAny_newTuple ?_ (by simpa using hz))));refine a2F (wpAny_newList ?_ (a1d _));refine a2L ?_;have kept:∀ b ob,b≠D->s.heap.get? b=some ob->(((s.heap.update D (Obj.mapSeq λ_=>(#[]:Array Value))).push (seqObj "tuple" vs.toArray 0)).push (seqObj "list" #[] 0)).get? b=some ob:=λb ob hb e=>a6a _ (a6a _ ((a0e _ _ (a9c hb)).trans e));have f:(((s.heap.update D (Obj.mapSeq λ_=>(#[]:Array Value))).push (seqObj "tuple" vs.toArray 0)).push (seqObj "list" #[] 0)).get? D=some (seqObj "list" #[] g):=a6a _ (a6a _ l);show wpAny (model prog w) A _ P E {s with heap:=((s.heap.update D (Obj.mapSeq λ_=>(#[]:Array Value))).push (seqObj "tuple" vs.toArray 0)).push (seqObj "list" #[] 0)};generalize ((s.heap.update D (Obj.mapSeq λ_=>(#[]:Array Value))).push (seqObj "tuple" vs.toArray 0)).push (seqObj "list" #[] 0)=d at kept f ⊢;have m:fM prog w d N ks vs.toArray:=T.stay λb ob hb e=>kept b ob (λz=>M (z ▸ hb)) e;dsimp only;have hl:ks.length=vs.length:=by simpa using T.1
 have p:(vs.toArray.zip vs.toArray).toList=vs.zip vs:=by simp
 have fin:∀ (L:List Keyed),L.Perm (vs.zip vs)->(L.Pairwise λx y=>tlt (aB5 prog w d x) (aB5 prog w d y)=true)->P (.done (.ret .none)) {s with heap:=d.update D (Obj.mapSeq λ_=>(L.map (·.2)).toArray)}:=λL pm so=>by
  obtain⟨r,t⟩:∃ r,(d.update D (Obj.mapSeq λ_=>(L.map (·.2)).toArray)).get? D=some (seqObj "list" (L.map (·.2)).toArray r):=⟨_,get?_update_seq f λ_=>(L.map (·.2)).toArray⟩;have kp:∀ b ob,b≠D->d.get? b=some ob->(d.update D (Obj.mapSeq λ_=>(L.map (·.2)).toArray)).get? b=some ob:=λb ob hb e=>(a0e _ _ (a9c hb)).trans e;exact q _ _ r ((bH9 m hn pm so).stay λb ob hb e=>kp b ob (λz=>M (z ▸ hb)) e) t λb ob hb e=>kp b ob hb (kept b ob hb e)
 have S:∀ {L:List Keyed},L.Perm (vs.zip vs)->(L.map (·.2)).length=vs.length:=λpm=>by rw[a7a,pm.length_eq];simp
 by_cases h:vs.toArray.size < 2
 ·rw[a2H h,a2H h];refine a2F (a2G ?_);rw[StateT.run_pure];refine a2F (a2G ?_);dsimp only;refine a2F (seqEpoch_at f rfl ?_);have es:(arrOf (SortSt.mk' general' (vs.toArray.zip vs.toArray) #[] 7 none)).map (·.2)=((vs.zip vs).map (·.2)).toArray:=by
   show(vs.toArray.zip vs.toArray).map (·.2)=_;apply Array.toList_inj.mp;simp
  refine a2F (listUpdate_at f rfl ?_ (a1d _) (by rw[es];simp;lia));simp only[bne_self_eq_false,Bool.false_eq_true,if_false];rw[es];refine a2G (fin _ (.refl _) ?_);have:(vs.zip vs).length < 2:=by simpa using h
  match U:vs.zip vs with
  | []=>exact .nil
  | [x]=>exact List.pairwise_singleton _ _
  | _::_::_=>rw[U]at this;simp only[List.length_cons]at this;lia
 ·rw[a2I h,a2I h];have u:2<=vs.length:=by simp at h;lia
  refine a2F (bH8 (s:={s with heap:=d}) m (by lia) (O u) ?_);have C:Cm (model prog w) A {s with heap:=d} (tuples' true) _ _:=cI1 (s:={s with heap:=d});have V:∀ x∈vs.zip vs,∃ k a,x.1=.ref a/\jD prog w d k a:=λx W=>by
   obtain⟨g,v⟩:=mem_zip_self W;obtain⟨i,hi,e⟩:=a5f v;obtain⟨k,a,_,B,X,e5⟩:=m.2 i x.1 (by rw[a5d,a1a hi,e]);exact⟨k,a,B,X⟩
  have Y:Dst (λx y=>tlt (aB5 prog w d x) (aB5 prog w d y)) (vs.zip vs):=by
   refine List.pairwise_iff_getElem.mpr λi j hi hj F=>?_;have G:i < vs.length:=by simpa using hi
   have H:j < vs.length:=by simpa using hj
   obtain⟨I,a1,g,v,B,_⟩:=m.2 i vs[i] (by rw[a5d];exact a1a G);obtain⟨J,a2,Z,f2,f3,_⟩:=m.2 j vs[j] (by rw[a5d];exact a1a H);dsimp only;rw[mO (x:=(vs.zip vs)[i]) (by simp[v]) B,mO (x:=(vs.zip vs)[j]) (by simp[f2]) f3];have ne:I≠J:=λz=>by
    subst z;obtain⟨g1,g2⟩:=a0a.mp g;obtain⟨g3,g4⟩:=a0a.mp Z;exact List.pairwise_iff_getElem.mp (List.nodup_iff_pairwise_ne.mp hn) i j g1 g3 F (g2.trans g4.symm)
   cases q1:tlt I J with
   | true=>exact .inl rfl
   | false=>cases q2:tlt J I with
     | true=>exact .inr rfl
     | false=>exact absurd (aF7 q1 q2) ne
  have run:=aF1 (E:=E) C (st:=SortSt.mk' (tuples' true) (vs.toArray.zip vs.toArray) #[] 7 none) (Q:=λ_ st'=>failedOf st'=none/\(arrOf st').toList.Perm (vs.zip vs)/\Srt (λx y=>tlt (aB5 prog w d x) (aB5 prog w d y)) (arrOf st').toList) rfl rfl rfl (by show ∀ x∈(vs.toArray.zip vs.toArray).toList,_;rw[p];exact V) (by show Dst _ (vs.toArray.zip vs.toArray).toList;rw[p];exact Y) λst' z1 K z3=>⟨z1,by have K:(arrOf st').toList.Perm (vs.toArray.zip vs.toArray).toList:=K;rwa[p]at K,z3⟩;refine a2F (a2Q run ?_ λ_ _ e=>e);rintro⟨⟨⟩,st'⟩ s' ⟨rfl,hf,pm,so⟩;dsimp only at pm so ⊢;refine a2F (seqEpoch_at f rfl ?_);have es:(arrOf st').map (·.2)=((arrOf st').toList.map (·.2)).toArray:=by apply Array.toList_inj.mp;simp
  rw[es];refine a2F (listUpdate_at f rfl ?_ (a1d _) (by show(List.toArray _).size<=_;rw[a1b,S pm];lia));rw[hf];simp only[bne_self_eq_false,Bool.false_eq_true,if_false];exact a2G (fin _ pm so)
end
end Sx
namespace PySem
open Sx PySem.W PyProof.Rows
section
variable{prog:Program}{w:World}{A:Around}{E:Value->Shared->Prop}{s:Shared}{S:Addr}{N:Addr->Prop}{ks:List (List Int)}{o:Obj}{es:Array (Int×Value)}{ep:Nat}{t:SetTable}
def zT(hh:A.handled=none)(X:mT prog w s.heap S (eS w) N ks o es ep t)(hN:∀ a,N a->a < s.heap.objs.size)(hz:es.size<=sizeLine)(hk:2<=es.size->∀ k∈ks,k≠[]){l:List (List Int)}(hm:∀ x,x∈ks↔x∈l){Q:Value->Shared->Prop}
  (q:∀ h' tk D vs c,s.heap.objs.size<=D->h'.get? D=some (seqObj "list" (List.toArray vs) c)->fM prog w h' N (srt l) (List.toArray vs)->(∀ b ob,s.heap.get? b=some ob->h'.get? b=some ob)->Q (.ref D) {s with heap:=h',toks:=tk}) :
  wpAny (model prog w) A (call (.builtin "sorted") [.ref S]) Q E s:=by
 -- F keys in F order of F walk
 have pm:=pS (w:=w) (S:=S) (ep:=ep) es;have G:(bS w S ep es).toList.length=es.size:=by have:=pm.length_eq;simpa using this
 have B:∀ e∈(bS w S ep es).toList,∃ k a,k∈ks/\e=(tupleKeyHash (intKind prog w) k,Value.ref a)/\jD prog w s.heap k a/\N a:=λe L=>by
  have:=pm.mem_iff.mp L;obtain⟨i,hi,ei⟩:=Array.getElem_of_mem (by simpa using this:e∈es);obtain⟨k,a,j,n,u,H⟩:=X.it i e (by rw[a9b hi,ei]);exact⟨k,a,a2c j,n,u,H⟩
 -- one key for each
 have M:∃ us:List (List Int),us.Perm ks/\us.length=es.size/\∀ (i:Nat) e,(bS w S ep es).toList[i]? = some e->∃ k a,us[i]? = some k/\e.2=Value.ref a/\jD prog w s.heap k a/\N a:=by
  -- a key for each entry,by its own value
  have f:∀ e:Int×Value,∃ k:List Int,∀ y a,e.2=Value.ref a->jD prog w s.heap y a->y=k:=λe=>by
   by_cases h:∃ y a,e.2=Value.ref a/\jD prog w s.heap y a;obtain⟨y,a,j,n⟩:=h;refine⟨y,λk'' a' r O=>?_⟩;rw[j]at r;cases r;exact O.inj n;exact⟨[],λy a j n=>absurd ⟨y,a,j,n⟩ h⟩
  let g:Int×Value->List Int:=λe=>Classical.choose (f e)
  have Z:∀ e k a,e.2=Value.ref a->jD prog w s.heap k a->k=g e:=λe k a=>Classical.choose_spec (f e) k a;have ge:es.toList.map g=ks:=by
   refine a5h λi=>?_;rw[a0c,a5b];by_cases hi:i < es.size;rw[a9b hi];obtain⟨k,a,j,n,u,_⟩:=X.it i es[i] (a9b hi);rw[j];show some (g es[i])=some k;rw[← Z es[i] k a (by rw[n]) u];rw[Array.getElem?_eq_none (by lia),a6i (by rw[X.len];lia)];rfl
  refine⟨(bS w S ep es).toList.map g,?_,by rw[a7a];exact G,λi e L=>?_⟩;have:=pm.map g;rw[ge]at this;exact this;obtain⟨k,a,j,n,u,H⟩:=B e (a2c L);refine⟨k,a,?_,by rw[n],u,H⟩;rw[a0c,L];show some (g e)=some k;rw[← Z e k a (by rw[n]) u]
 obtain⟨us,up,ul,ui⟩:=M;refine Calls.call_function_entry kind_sorted plain_sorted entry_sorted (args_sorted1 _) ?_;unfold Builtin.«sorted»;refine a2F (m:=checkCount "sorted" 1 1 _) (a2G ?_);refine a2F (zR (A:=A.in1) hh X hz λj I p d=>?_);generalize J:(bS w S ep es).toList.map (·.2)=vs;have P:vs.length=es.size:=by rw[← J,a7a];exact G
 have T1:fM prog w j N us vs.toArray:=by
  refine⟨by rw[ul,a1b];exact P.symm,λi v e=>?_⟩;rw[a5d,← J,a0c]at e;obtain⟨e',ee,rfl⟩:=a5c.mp e;obtain⟨k,a,r,n,u,H⟩:=ui i e' ee;exact⟨k,a,r,n,u.at λob R=>p a ob R,H⟩
 refine a2F (wpAny_newList ?_ (by rw[P];exact hz));have K:(j.push (seqObj "list" vs.toArray 0)).get? j.objs.size=some (seqObj "list" vs.toArray 0):=a3b _ rfl;have up1:∀ b ob,j.get? b=some ob->(j.push (seqObj "list" vs.toArray 0)).get? b=some ob:=λb ob e=>a6a _ e;have T:¬ N j.objs.size:=λz=>absurd (hN _ z) (a0j.mpr (a2g d));have T2:fM prog w (j.push (seqObj "list" vs.toArray 0)) N us vs.toArray:=T1.stay λb ob _ e=>up1 b ob e;have U:2<=vs.length->∀ k∈us,k≠[]:=λh k V=>hk (by lia) k (up.mem_iff.mp V);have nu:us.Nodup:=up.nodup_iff.mpr X.nd;refine a2F (a2L (a2V slot_list_sort ⟨_,K,rfl⟩ entry_list_sort (aR0 (s:={s with heap:=j.push (seqObj "list" vs.toArray 0),toks:=I}) K T T2 (by rw[P];exact hz) nu U λn ws c T3 W C=>⟨_,rfl,?_⟩) (args_list_sort _)));refine a2G ⟨_,rfl,?_⟩;have Y:srt us=srt l:=zS (fU us) (fU l) λx=>by rw[eK,eK,up.mem_iff];exact hm x
 rw[Y]at T3;exact q n I j.objs.size ws c (a2g d) W T3 λb ob e=>C b ob (λz=>absurd (a4b (z ▸ e)) (a0j.mpr (a2g d))) (up1 b ob (p b ob e))
end
end PySem
namespace Dv
open PySem L2 Mr
section
variable{Γ:Gm}{H H0:Hp}{σ σ0:Sg}{σV σV0:St}{i:Nat}{v:V}
end
section
variable{K:W.Frag}{H:Hp}{C fI:Addr}{f:Str}{E:XK}{Q:Addr->Hp->Prop}
end
end Dv
namespace L2
open PySem PySem.Spec PyProof.Rows
end L2
namespace PySem
section
variable{κ:Type}[DecidableEq κ]
end
section
variable{prog:Program}{w:World}{A:Around}{κ:Type}[DecidableEq κ]{knd:KeyKind prog w κ}
end
end PySem
namespace L2
open PySem PySem.Spec PyProof.Rows
def nV{X:Cx}{id U:String}{x y:Str}{p c pos a:Pos}{e:Expr}{es:List Expr}{t:TA}{r:List V->Hp->VK->Prop}
  (l:∀ pins s σ H vs us Q,Inv X pins σ H s->bW vs us->r vs H Q->wpAny (model X.prog X.w) X.A (call (.type U) us) (λu s1=>wpAny (model X.prog X.w) X.A (call (.builtin id) [u]) (EP X pins σ Q) X.xe s1) X.xe s)
  (m:Gl X x) (hm:X.mg x=none) (n:bootBuiltins x=some (.builtin id)) (d:Gl X y) (f:X.mg y=none) (g:bootBuiltins y=some (.type U)) (ha:PA X (e::es) t)
  (hn:x≠"__name__":=by decide) (i:(x==("__debug__":Str))=false:=by decide) (j:y≠"__name__":=by decide) (b:(y==("__debug__":Str))=false:=by decide)
  (o:starEach (e::es) X.env=(false,eval e X.env)::starEach es X.env:=by rfl) (k:(backTo a (starEach es X.env)).any (·.1)=false:=by rfl)
  (hs:starEach [.Call (.Name y c) (e::es) [] a] X.env=(false,eval (.Call (.Name y c) (e::es) [] a) X.env)::starEach [] X.env:=by rfl) :
  PE X (.Call (.Name x p) [.Call (.Name y c) (e::es) [] a] [] pos) (tCB r t):=by
 intro pins s σ H Q I h;refine a2X (qK I m hm n (PyProof.Rows.callWith_builtin1 ?_ hs (by rfl)) hn i);rw[hs]
 (show wpAny _ _ (spliced ((false,eval (.Call (.Name y c) (e::es) [] a) X.env)::backTo pos (starEach [] X.env))) _ _ s;refine Calls.spliced_cons (a2X (qK I d f g (PyProof.Rows.callWith_type1 ?_ o k) j b)))
 exact thn (ha a pins s σ H _ I h) λus s1 ⟨vs,q,v,z,B⟩=>thn (l pins s1 σ q vs us Q v z B) λu s2 C=>Calls.spliced_nil C
def bI0{X:Cx}{pins:List (Addr×Obj)}{σ:St}{H:Hp}{s:Shared}{p:Addr}{b:Bool}{xs:List V}(I:Inv X pins σ H s)(a:X.calm=true)(h:fP H p=some (b,xs)) :
  ∃ items:List Value,bW xs items/\Nonempty (Src X.prog X.w X.A s.heap p items.toArray.size λi v=>items.toArray[i]? = some v):=by
 cases b with
 | true=>
   obtain⟨its,r,⟨o,n,c,d,f,e⟩,_⟩:=I.list (jF h);exact⟨its,r,⟨Src.list (I.ok.hd a) ⟨o,c,d,n,e⟩⟩⟩
 | false=>
   obtain⟨its,r,q,_⟩:=I.tuple (fA h);exact⟨its,r,⟨Src.tup (I.ok.hd a) q⟩⟩
end L2
namespace Dv
open PySem L2 Mr
end Dv
namespace L2
open PySem PySem.Spec PyProof.Rows Sx
theorem kL{prog:Program}{w:World}:∀ {k:List Int} {us:List Value},bW (k.map V.int) us->ItemsAre (intKind prog w) k us
 | [],_,.nil=>.nil
 | i::r,_,.cons h t=>by
   obtain⟨tk,rfl⟩:=h;exact .cons (by simp[intKind,Value.isInt]) (kL t)
def aF8{X:Cx}{pins:List (Addr×Obj)}{σ:St}{H:Hp}{s:Shared}{a:Addr}{k:List Int}(I:Inv X pins σ H s)(h:H a=some (.tup (k.map V.int))):jD X.prog X.w s.heap k a:=by
 obtain⟨its,r,⟨o,b,c,n,hd⟩,_⟩:=I.tuple (fA (cK h));exact⟨o,its.toArray,n,b,c,hd,by simpa using kL r⟩
def cS4(r:V->List V->Hp->VK->Prop)(to:TE)(t:TA):TE:=λσ H Q=>to σ H λx H1=>(∃ p xs,x=.ref p/\H1 p=some (.tup xs))/\t σ H1 λxs a=>r x xs a Q
section
variable{X:Cx}{o e:Expr}{es:List Expr}{to:TE}{t:TA}{name:Str}{apos cpos:Pos}{id:String}{r:V->List V->Hp->VK->Prop}
def bM6(slot:Slot "tuple" name id)(g:typeOf (.builtin id)=pure (.type "method_descriptor"))(hm:MtR X id r)(n:PE X o to)(ha:PA X (e::es) t)
  (c:attributeBase o name X.env (eval o X.env)=eval o X.env:=by rfl)
  (f:((backTo cpos (starEach (e::es) X.env)).all (λx=>!x.1)&&(backToKw cpos (keywordEach [] X.env)).all (λx=>x.1.isSome)&&decide ((e::es).length+([]:List Keyword).length+(if([]:List Keyword).isEmpty then 0 else 1) < 30))=true:=by rfl)
  (d:(apos.endLine==cpos.line)=true:=by rfl) (hs:starEach (e::es) X.env=(false,eval e X.env)::starEach es X.env:=by rfl) (b:(backTo cpos (starEach es X.env)).any (·.1)=false:=by rfl) :
  PE X (.Call (.Attribute o name apos) (e::es) [] cpos) (cS4 r to t):=by
 intro pins s σ H Q I h;refine wpAny_Call_method_late c f d rfl (thn (n pins s σ H _ I h) λv s1 Z0=>?_);obtain⟨x,j,k,l,⟨p,xs,ex,q⟩,u⟩:=Z0;subst ex;have y:v=.ref p:=l;subst y;obtain⟨_,its,_,⟨ob,z,A,_⟩,⟨i,B,C⟩⟩:=(show cL X.prog X.w j s1.heap p (.tup xs)from k.hok p _ q);refine⟨"tuple",id,F.plainAttrs_tuple,slot,g,⟨ob,z,A⟩,λa D=>?_,?_⟩;cases D;exact⟨i,B,C⟩;have m:=ha cpos pins s1 σ j _ k u;rw[hs]at m ⊢;refine Calls.callWith_builtin (by show(false||(backTo cpos (starEach es X.env)).any (·.1))=false;rw[b]<;>rfl) (Calls.evalArgs_plain ?_);exact thn m λus s2 ⟨vs,E,G,J,K⟩=>hm pins s2 σ E (.ref p) vs _ us Q G l J K
end
theorem zU:∀ (x y:List Int),HT.lexLt x y=tlt x y
 | [],[]=>rfl
 | [],_::_=>rfl
 | _::_,[]=>rfl
 | a::x,b::y=>by
   rw[HT.lexLt_cons,zU x y];rfl
def cS5:R2:=λx y H Q=>(∃ i j,x=.int i/\y=.int j/\Q (.bl (decide (i < j))) H)\/∃ a b ns c,x=.ref a/\y=.ref b/\H a=some (.tup (ns.map V.int))/\H b=some (.tup (c.map V.int))/\Q (.bl (tlt ns c)) H
def cI2{X:Cx}(e:X.A.units < cLine):OpR X (compareOp .Lt) cS5:=by
 intro pins s σ H x y v u Q I c d h;rcases h with⟨i,j,rfl,rfl,q⟩ | ⟨a,b,ns,ms,rfl,rfl,ha,hb,q⟩;exact cN3 pins s σ H _ _ v u Q I c d ⟨i,j,rfl,rfl,q⟩;exact cD3 e pins s σ H _ _ v u Q I c d ⟨a,b,ns,ms,rfl,rfl,SqT.of ha,SqT.of hb,by rw[zU];exact q⟩
end L2
namespace Dv
open PySem L2 Mr Sx
noncomputable def zV:List D->Option (List Int)
 | []=>some []
 | .int i::r=>(zV r).bind λl=>some (i::l)
 | _::_=>none
theorem nW:∀ {l:List D} {a:List Int},zV l=some a->l=a.map D.int
 | [],_,h=>by cases h;rfl
 | .int s::r,_,h=>by
   obtain⟨l,b,c⟩:=aB h;cases c;rw[nW b];rfl
 | .non::_,_,h=>by cases h
 | .str _::_,_,h=>by cases h
 | .bl _::_,_,h=>by cases h
 | .tup _::_,_,h=>by cases h
 | .lst _::_,_,h=>by cases h
 | .dic _ _::_,_,h=>by cases h
def aZ5(zs:List Int):zV (zs.map D.int)=some zs:=by
 induction zs with
 | nil=>rfl
 | cons b r a=>show(zV (r.map D.int)).bind _=_;rw[a];rfl
noncomputable abbrev tI(k:List Int):D:=.tup (k.map D.int)
noncomputable def aF9:List D->Option (List (List Int))
 | []=>some []
 | .tup k::r=>(zV k).bind λa=>(aF9 r).bind λl=>some (a::l)
 | _::_=>none
theorem aK8:∀ {l:List D} {a:List (List Int)},aF9 l=some a->l=a.map tI
 | [],_,h=>by cases h;rfl
 | .tup k::r,_,h=>by
   obtain⟨e,b,h⟩:=aB h;obtain⟨l,c,d⟩:=aB h;cases d;rw[aK8 c,nW b];rfl
 | .non::_,_,h=>by cases h
 | .str _::_,_,h=>by cases h
 | .bl _::_,_,h=>by cases h
 | .int _::_,_,h=>by cases h
 | .lst _::_,_,h=>by cases h
 | .dic _ _::_,_,h=>by cases h
def zW(zs:List (List Int)):aF9 (zs.map tI)=some zs:=by
 induction zs with
 | nil=>rfl
 | cons b r a=>show(zV (b.map D.int)).bind (λc=>(aF9 (r.map tI)).bind _)=_;rw[a,aZ5];rfl
def cQ1{H:Hp}{k:List Int}{v:V}(h:Rp H (tI k) v):∃ a,v=.ref a/\H a=some (.tup (k.map V.int)):=by
 cases h with
 | tup h r=>rw[r.ints_inv]at h;exact⟨_,rfl,h⟩
theorem bM7{H:Hp}:∀ {ks:List (List Int)} {xs:List V},Rps H (ks.map tI) xs->∃ ps:List Addr,xs=ps.map V.ref/\ps.length=ks.length/\∀ (i:Nat) a k,ps[i]? = some a->ks[i]? = some k->H a=some (.tup (k.map V.int))
 | [],_,h=>by cases h;exact⟨[],rfl,rfl,λi a k e=>by simp at e⟩
 | k::ks,_,h=>by
   rw[a1e]at h;cases h with
   | cons a t=>
     obtain⟨p,rfl,d⟩:=cQ1 a;obtain⟨ps,rfl,f,g⟩:=bM7 t;refine⟨p::ps,rfl,by simp[f],λi a j b c=>?_⟩;cases i with
     | zero=>simp at b c;subst b c;exact d
     | succ i=>exact g i a j (by simpa using b) (by simpa using c)
theorem aZ6{H:Hp}:∀ {ks:List (List Int)} {ps:List Addr},ps.length=ks.length->(∀ (i:Nat) a k,ps[i]? = some a->ks[i]? = some k->H a=some (.tup (k.map V.int)))->Rps H (ks.map tI) (ps.map V.ref)
 | [],[],_,_=>.nil
 | [],_::_,h,_=>by simp at h
 | _::_,[],h,_=>by simp at h
 | k::ks,p::ps,h,b=>.cons (.tup (b 0 p k rfl rfl) (wQ k)) (aZ6 (by simpa using h) λi a c d e=>b (i+1) a c (by simpa using d) (by simpa using e))
theorem iZ{n:Nat}{σ:Sg}{a:DGs}{z:Str}{K:Sg->Prop}:OK1 (bS7 n a (.str z) σ) K=(z.length=n/\OK1 (a (iA z) σ) K):=by
 show OK1 (if z.length=n then a (iA z) σ else none) K=_;rw[aZ]
noncomputable def ltA:F2:=λd e=>match d,e with
 | .int i,.int j=>some (.val (.bl (decide (i < j))))
 | .tup x,.tup y=>(zV x).bind λns=>(zV y).bind λa=>some (.val (.bl (tlt ns a)))
 | _,_=>none
def bW1:xZ cS5 ltA:=by
 intro H l m x y Q res a b e k;unfold ltA at e;split at e;cases e;rw[cU a,cU b];exact .inl ⟨_,_,rfl,rfl,k _ _ (.refl _) (.bl _)⟩;obtain⟨ns,h,e⟩:=aB e;obtain⟨i,j,e⟩:=aB e;cases e;obtain⟨p,xs,rfl,c,d⟩:=eN a;obtain⟨q,ys,rfl,f,g⟩:=eN b;rw[nW h]at d;rw[nW j]at g;rw[d.ints_inv]at c;rw[g.ints_inv]at f;exact .inr ⟨p,q,ns,i,rfl,rfl,c,f,k _ _ (.refl _) (.bl _)⟩;cases e
theorem wD{i j:Int}{K:Res->Prop}:OK1 (ltA (.int i) (.int j)) K=K (.val (.bl (decide (i < j)))):=rfl
abbrev FT:=List D->D->Option D
def cS6(r:V->List V->Hp->L2.VK->Prop)(f:FT):Prop:=∀ H l xs e p y Q d,H p=some (.tup xs)->Rps H l xs->Vw H e y->f l e=some d->(∀ v,Rp H d v->Q v H)->r (.ref p) [y] H Q
noncomputable def dMT(f:FT)(a b:DE):DE:=λσ=>(a σ).bind λx=>match x.1 with
 | .val (.tup l)=>(b x.2).bind λy=>(rd y.2 y.1).bind λe=>(f l e).bind λd=>some (.val d,y.2)
 | _=>none
def cI3{X:Cx}{e:Expr}{r:V->List V->Hp->L2.VK->Prop}{f:FT}{n o:DE}(B:cS6 r f)(h:∀ Γ,PE X e (cS4 r (dTE Γ n) (dTA Γ (aD o aX)))):GE X e (dMT f n o):=.mk λΓ=>peW (h Γ) λσV H Q ⟨σ,ok,res,σ',e,k⟩=>by
 have q:=e;clear e;obtain⟨⟨x,a⟩,C,f1⟩:=aB q;clear q;dsimp only at f1;have D:∃ l,x=.val (.tup l):=by
  cases x with
  | val E=>
    cases E with
    | tup l=>exact⟨l,rfl⟩
    | _=>cases f1
  | _=>cases f1
 obtain⟨l,rfl⟩:=D;refine⟨σ,ok,_,a,C,λv1 F b G i _=>?_⟩;obtain⟨⟨y,j⟩,s,f2⟩:=aB f1;obtain⟨I,u,J⟩:=aB f2;obtain⟨d,K,L⟩:=aB J;cases L;dsimp only at s u;have m:Rp F (.tup l) v1:=G;obtain⟨p,xs,rfl,w,M⟩:=eN (.inl m);refine⟨⟨p,xs,rfl,w⟩,a,b,[y],j,?_,λvs z c N g _=>?_⟩;show((_:Option _).bind _)=_;rw[s];rfl;cases N with
 | cons O t _=>
   cases t;have A:=g.ext b;refine B z l xs I p _ Q d (A.tup _ _ w) (M.mono A) (O.vw c u) K λv P=>?_;exact k v z c P (i.trans g) eJ
theorem aR1{σ:Sg}{f:FT}{c g:DE}{Q:Res->Sg->Prop}:RE (dMT f c g) σ Q=RE c σ λx a=>OK1 (match x with | .val (.tup l)=>some l | _=>none) λl=>RE g a λy b=>RD b y λe=>OK1 (f l e) λd=>Q (.val d) b:=by
 unfold RE RD dMT;simp only[aJ];congr 1;funext x;obtain⟨x,a⟩:=x;cases x with
 | val d=>
   cases d with
   | tup l=>simp only[aJ];rfl
   | _=>rfl
 | _=>rfl
end Dv
namespace L2
def aK9{A:PySem.Around}{k:Nat}(a:Room k A):A.units+8 < PySem.cLine:=by have:=a.un;lia
open PySem PySem.Spec PyProof.Rows Sx
theorem aL0(k:List Int):∀ l:List (List Int),(aS0 k l).length<=l.length+1
 | []=>by simp[aS0]
 | x::l=>by
   have:=aL0 k l;unfold aS0
   repeat' split
   all_goals (simp;try lia)
theorem xJ:∀ l:List (List Int),(srt l).length<=l.length
 | []=>by simp[srt]
 | x::l=>by
   have:=xJ l;have:=aL0 x (srt l);show(aS0 x (srt l)).length<=_;simp;lia
def zX:List V->Hp->VK->Prop:=λvs H Q=>∃ (p:Addr) (b:Bool) (ps:List Addr) (ks:List (List Int)),vs=[.ref p]/\fP H p=some (b,ps.map V.ref)/\ps.length=ks.length/\(∀ (i:Nat) a k,ps[i]? = some a->ks[i]? = some k->H a=some (.tup (k.map V.int))) /\
 ks.length < 4000/\(2<=(srt ks).length->∀ k∈ks,k≠[]) /\
 ∀ r (c:List Addr),H r=none->c.length=(srt ks).length->(∀ (i:Nat) a k,c[i]? = some a->(srt ks)[i]? = some k->H a=some (.tup (k.map V.int)))->Q (.ref r) (upd H r (.lst (c.map V.ref)))
def eT{X:Cx}(hc:X.calm=true)(hu:X.A.units+8 < cLine):∀ pins s σ H vs us Q,Inv X pins σ H s->bW vs us->zX vs H Q ->
  wpAny (model X.prog X.w) X.A (call (.type "set") us) (λu s1=>wpAny (model X.prog X.w) X.A (call (.builtin "sorted") [u]) (EP X pins σ Q) X.xe s1) X.xe s:=by
 intro pins s σ H vs us Q I rv h;obtain⟨p,b,ps,ks,rfl,hH,hl,K,hn,L,q⟩:=h;obtain⟨u,rfl,ru⟩:=rv.one;cases ru;obtain⟨its,r,⟨M⟩⟩:=bI0 I hc hH;have B:ps.length=its.length:=by simpa using r.length
 have alive:∀ a∈ps,a < s.heap.objs.size:=λa ha=>by
  obtain⟨i,hi,e⟩:=a5f ha;have n:i < ks.length:=by lia
  obtain⟨o,_,_,ho,_⟩:=aF8 I (K i a ks[i] (by rw[a1a hi,e]) (a1a n));exact a4b ho
 have T0:fM X.prog X.w s.heap (· ∈ ps) ks its.toArray:=by
  refine⟨by rw[a1b];lia,λi v e=>?_⟩;rw[a5d]at e;have hi:i < ps.length:=by rw[B];exact(a0a.mp e).1
  have n:i < ks.length:=by lia
  obtain⟨v',e',O⟩:=r.get (i:=i) (x:=.ref ps[i]) (by rw[a0c,a1a hi];rfl);rw[e]at e';cases e';cases O;exact⟨ks[i],ps[i],a1a n,rfl,aF8 I (K i _ _ (a1a hi) (a1a n)),List.getElem_mem hi⟩
 have nS:¬ s.heap.objs.size∈ps:=λz=>absurd (alive _ z) (a6f _);have nI:¬ s.heap.objs.size+1∈ps:=λz=>absurd (alive _ z) (a0j.mpr (Nat.le_succ _));refine bH4 M (λA' ha hu'=>aY6 (prog:=X.prog) (w:=X.w) (led:=eS X.w) (N:=(· ∈ ps)) (ks:=ks) (by lia) nS nI (a4d (a1h _)) hn) (λh' hS C=>?_) λh' tk ⟨T1,us,X1,_,hm⟩ d=>?_;refine⟨T0.stay λc ob _ e=>C c ob e,[],⟨_,#[],0,_,hS,⟨rfl,rfl,rfl⟩,rfl,?_,?_,rfl,rfl,rfl,λi e he=>by simp at he,.nil⟩,a8a _,λx=>by simp⟩;refine⟨⟨3,rfl⟩,a8a _,rfl,λi j a b _ e=>by simp[SetTable.fresh]at e,λi j e=>by simp[SetTable.fresh]at e,rfl,by simp[SetTable.fresh],λi h e=>by simp at e⟩;simp[SetTable.fresh];obtain⟨o,es,ep,t,Y⟩:=X1;have y:∀ x,x∈us↔x∈ks:=λx=>by
  rw[hm x,a8c (by rw[a1b];lia)]
 have pl:us.length=(srt ks).length:=((List.perm_ext_iff_of_nodup Y.nd (aZ4 (fU ks))).mpr λx=>by rw[y x,eK]).length_eq;have P:es.size=(srt ks).length:=by rw[← Y.len];exact pl
 have E:s.heap.objs.size < h'.objs.size:=a4b Y.ob;have sl:(srt ks).length<=ks.length:=xJ ks;have R:es.size<=sizeLine:=by rw[P,a3n];lia
 refine zT (s:={s with heap:=h',toks:=tk}) (I.ok.hd hc) Y (λa ha=>a3g (alive a ha) E) R (λh2 k S=>L (by lia) k ((y k).mp S)) y λh2 T D vs c hD U W m=>?_
 -- the addresses of what is told
 have hq:∃ qs:List Addr,vs=qs.map Value.ref/\qs.length=(srt ks).length/\∀ (i:Nat) a k,qs[i]? = some a->(srt ks)[i]? = some k->H a=some (.tup (k.map V.int)):=by
  have f:∀ v∈vs,∃ a,v=Value.ref a:=λv J=>by
   obtain⟨i,hi,e⟩:=a5f J;obtain⟨_,a,_,Z,_⟩:=W.2 i v (by rw[a5d,a1a hi,e]);exact⟨a,Z⟩
  have g:∀ vs:List Value,(∀ v∈vs,∃ a,v=Value.ref a)->∃ qs:List Addr,vs=qs.map Value.ref:=by
   intro vs
   induction vs with
   | nil=>intro _;exact⟨[],rfl⟩
   | cons v r ih=>
     intro J;obtain⟨a,rfl⟩:=J v a3a;obtain⟨qs,rfl⟩:=ih λx hx=>J x (a4a _ hx);exact⟨a::qs,rfl⟩
  obtain⟨qs,rfl⟩:=g vs f;have l1:qs.length=(srt ks).length:=by have:=W.1;simpa using this.symm
  refine⟨qs,rfl,l1,λi a k ea ek=>?_⟩;obtain⟨k',a',e1,Z,e3,e4⟩:=W.2 i (.ref a) (by rw[a5d,a0c,ea];rfl);rw[ek]at e1;cases e1;cases Z;obtain⟨j,hj,ej⟩:=a5f e4;have hj':j < ks.length:=by lia
  have F:=K j a ks[j] (by rw[a1a hj,ej]) (a1a hj');have t1:jD X.prog X.w h2 ks[j] a:=(aF8 I F).at λob hob=>m a ob (d a ob hob);rw[e3.inj t1];exact F
 obtain⟨qs,rfl,ql,qh⟩:=hq;have G:s.heap.objs.size<=D:=a6b (a2g E) hD;refine⟨.ref D,upd H D (.lst (qs.map V.ref)),?_,rfl,q D qs (I.hok.fresh G) ql qh⟩;refine I.laid (t':=T) (λb ob e=>m b ob (d b ob e)) G ⟨by rw[a7a,ql,a3n];lia,qs.map Value.ref,c,?_,U⟩;have vr:∀ l:List Addr,bW (l.map V.ref) (l.map Value.ref):=by
  intro l
  induction l with
  | nil=>exact .nil
  | cons a r ih=>exact .cons rfl ih
 exact vr qs
end L2
namespace Dv
open PySem L2 Mr Sx
open Classical in
noncomputable def dM:FN:=λa=>match a with
 | [d]=>(cF1 d).bind λx=>(aF9 x.2).bind λks=>if ks.length < 4000/\(2<=(srt ks).length->∀ k∈ks,k≠[])then some (.own (.lst ((srt ks).map tI)))else none
 | _=>none
def fN:bS3 zX dM:=by
 intro H y vs Q res vw e k;unfold dM at e;split at e
 ·obtain⟨⟨b,l⟩,j,e⟩:=aB e;obtain⟨ks,c,e⟩:=aB e;dsimp only at c;split at e
  ·rename_i d;cases e;cases vw with
   | cons a t=>
     cases t;obtain⟨p,xs,rfl,m,f⟩:=cF2 a j;rw[aK8 c]at f;obtain⟨ps,rfl,n,o⟩:=bM7 f;refine⟨p,b,ps,ks,rfl,m,n,o,d.1,d.2,λr q g s u=>?_⟩;have h:xY H (upd H r (.lst (q.map V.ref))):=bU g;exact k _ _ h ⟨r,rfl,g,_,aQ,aZ6 s λi a v w x=>h _ _ (u i a v w x)⟩
  ·cases e
 ·cases e
def cI4{ks:List (List Int)}{K:Res->Prop}:OK1 (dM [.lst (ks.map tI)]) K=((ks.length < 4000/\(2<=(srt ks).length->∀ k∈ks,k≠[]))/\K (.own (.lst ((srt ks).map tI)))):=by
 show OK1 ((aF9 (ks.map tI)).bind _) K=_;rw[zW];show OK1 (if _ then _ else none) K=_;rw[aZ];rfl
def cI5{ks:List (List Int)}{K:Res->Prop}:OK1 (dM [.tup (ks.map tI)]) K=((ks.length < 4000/\(2<=(srt ks).length->∀ k∈ks,k≠[]))/\K (.own (.lst ((srt ks).map tI)))):=by
 show OK1 ((aF9 (ks.map tI)).bind _) K=_;rw[zW];show OK1 (if _ then _ else none) K=_;rw[aZ];rfl
end Dv
namespace PySem
open Sem (wp)
section
variable{prog:Program}{w:World}{K:Type}[DecidableEq K]{knd:HeapKind prog w K}{A:Around}{E:Value->Shared->Prop}{s:Shared}
def bI1{d a:Addr}{xs:List (K×Addr×Value)}{k:K}{v:Value}{Q:Value->Shared->Prop}(m:knd.room A)(c:knd.is s.heap k a)(hm:s.heap.DictOfH knd d xs)(hsz:xs.length<=sizeLine)
  (n:∀ p,atKey xs k=some p->Q p.2 {s with toks:=s.toks+knd.draws k})
  (r:atKey xs k=none->∀ h',h'.DictOfH knd d (xs++[(k,a,v)])->Heap.SameBut d s.heap h'->Q v {s with heap:=h',toks:=s.toks+knd.draws k}) :
  wpAny (model prog w) A (dictSetDefault d (.ref a) v) Q E s:=by
 obtain⟨o,es,ep,g,u,hd,i,h,hn⟩:=hm;have kp:∀ {x:K} {b:Addr} (f:Array DictEntry->Array DictEntry),knd.is s.heap x b->knd.is (s.heap.update d (Obj.mapDictKeys f)) x b:=λf t=>knd.keeps t g hd (a0h ..);unfold dictSetDefault
 try with_reducible refine a2L ?_
 refine a2F (knd.pyHash m c (a2F (wpAny_dictFind_heap (s:={s with toks:=s.toks+knd.draws k}) m c g hd i h hn (λno=>?_) λj p hj=>?_)))
 ·have out:k∉xs.map (·.1):=not_mem_keys_of_get no;have q:=r (atKey_none_of_get no);refine a2F (a2U (a2F (wpAny_updateDictKeys (s:={s with toks:=s.toks+knd.draws k}) (hz:=by have:=size_of_entries i;lia) g hd (a2G (q _ ?_ (a0h ..))))));refine⟨_,_,ep+1,a2e _ g (Obj.isFreed_of_dict (Obj.data_mapDictKeys hd _)),u.mapDictKeys _,Obj.data_mapDictKeys hd _,by simp[i,entryOfKey],λx l=>?_,?_⟩;rcases a3c.mp l with z | z;exact kp _ (h x z);cases a8b.mp z;exact kp _ c;simp only[List.map_append,List.map_cons,List.map_nil];exact List.nodup_append.mpr ⟨hn,by simp,λx l y B e=>out (by cases a8b.mp B;exact e ▸ l)⟩
 ·refine a2F (wpAny_dictEntries (s:={s with toks:=s.toks+knd.draws k}) g hd ?_);rw[entry_at i j,hj];exact a2F (a2U (a2G (n p (atKey_of_get hn hj))))
def aR2(knd:HeapKind prog w K)(d a:Addr)(hd:(d==sysModules)=false)(dflt:Value) :
  MeetsIn prog w (Builtin.«dict.setdefault» ⟨[.ref d,.ref a,dflt],[]⟩) (λA R s=>knd.room A.in1/\∃ k xs,knd.is s.heap k a/\s.heap.DictOfH knd d xs/\xs.length<=sizeLine /\
   (∀ p,atKey xs k=some p->R (.ok (.ret p.2)) {s with toks:=s.toks+knd.draws k}) /\
   (atKey xs k=none->∀ h',h'.DictOfH knd d (xs++[(k,a,dflt)])->Heap.SameBut d s.heap h'->R (.ok (.ret dflt)) {s with heap:=h',toks:=s.toks+knd.draws k})):=
 .of_wp λA R s ⟨c,k,xs,b,hm,f,g,h⟩=>by
  have i:s.TypeIs (.ref d) "dict":=hm.typeIs;unfold Builtin.«dict.setdefault» Builtin.Dict.keyAndDefault;refine a2F (a2F (wpAny_notOrdered_dict i (a2G ?_)));show wpAny _ _ (if(d==sysModules)=true then _ else dictSetDefault d (.ref a) dflt >>= _) _ _ s;rw[hd,a2I a8d];exact a2F (bI1 c b hm f (λp e=>a2G ⟨_,rfl,g p e⟩) λe h' m j=>a2G ⟨_,rfl,h e h' m j⟩)
end
end PySem
namespace L2
open PySem PySem.Spec PyProof.Rows
def DTa(H:Hp)(a:Addr)(kvs:List (List Key×V)):Prop:=H a=some (.dT kvs)\/H a=some (.dK [])/\kvs=[]
def cI6{P:Program}{w:World}{H:Hp}{h:Heap}{a:Addr}{kvs:List (List Key×V)}(ok:HOk P w H h)(e:DTa H a kvs):(a==sysModules)=false/\∃ xs,KT H kvs xs/\h.DictOfH (tupleKind (cH P w)) a xs:=by
 rcases e with e | ⟨e,rfl⟩;obtain⟨_,hd,xs,rel,c⟩:=cO7 ok e;exact⟨hd,xs,rel,c⟩;obtain⟨_,hd,vs,rel,c⟩:=cO6 ok e;cases rel;obtain⟨o,es,ep,d,f,b,k,g,hn⟩:=c;have i:es.toList=[]:=a7c g.length;exact⟨hd,[],.nil,o,es,ep,d,f,b,by rw[i];rfl,λx j=>by simp at j,.nil⟩
theorem cS7{b c:Type}{R:b->c->Prop}{x:b}{y:c}:∀ {l:List b} {m:List c},Paired R l m->R x y->Paired R (l++[x]) (m++[y])
 | _,_,.nil,h=>.cons h .nil
 | _,_,.cons a t,h=>.cons a (cS7 t h)
section
variable{X:Cx}{pins:List (Addr×Obj)}{σ:St}{H:Hp}{s:Shared}{a b:Addr}{z:V}{r:Value}{kvs:List (List Key×V)}{k:List Key}{A:Around}{E:Value->Shared->Prop}
def cQ2{Q:Value->Shared->Prop}(t:A.units+1 < cLine)(I:Inv X pins σ H s)(e:DTa H a kvs)(h:H b=some (.tup (k.map kV)))(l:kvs.length < sizeLine)(u:eH z r)
  (x:∀ v i s',kX kvs k=some v->Inv X pins σ H s'->eH v i->Q i s') (y:kX kvs k=none->∀ s',Inv X pins σ (upd H a (.dT (kvs++[(k,z)]))) s'->Q r s') :
  wpAny (model X.prog X.w) A (call (.builtin "dict.setdefault") [.ref a,.ref b,r]) Q E s:=by
 obtain⟨hd,xs,rel,j⟩:=cI6 I.hok e;have K:xs.length=kvs.length:=(Paired.length rel).symm;refine call_meetsIn F.slot_dict_setdefault j.typeIs F.entry_dict_setdefault (F.args_dict_setdefault_3 _ _ _) (aR2 (tupleKind (cH X.prog X.w)) a b hd r) ⟨tupleKind_room_in1 t,k,xs,aI0 I.hok h,j,by lia,λp B=>?_,λhn h' g hs=>?_⟩
 ·have q:=rel.val k;rw[B]at q;cases d:kX kvs k with
  | none=>rw[d]at q;exact nomatch q
  | some v=>rw[d]at q;exact x v _ _ d (I.tok _) q
 ·have q:=rel.val k;rw[hn]at q;have d:kX kvs k=none:=by
   cases d:kX kvs k with
   | none=>rfl
   | some v=>rw[d]at q;exact nomatch q
  refine y d _ ?_;obtain⟨o,es,ep,m,C,D,G,_,J⟩:=g;have f:KT H (kvs++[(k,z)]) (xs++[(k,b,r)]):=cS7 rel ⟨rfl,h,u⟩;refine bS1 I (by rcases e with e | ⟨e,_⟩<;>(rw[e];exact True.intro)) hs ⟨o,m⟩ ⟨by simp;lia,hd,_,f.keeps λc ys n=>?_,o,es,ep,m,C,D,G,J⟩;rw[aL (by rcases e with e | ⟨e,_⟩<;>exact cM2 n e λz=>nomatch z)];exact n
end
def cQ3(d ty e:TE):TE:=λσ H Q=>d σ H λx c=>∃ a,x=.ref a/\IsD c a/\ty σ c λy f=>e σ f λz H3=>∃ kvs k b,DTa H3 a kvs/\y=.ref b/\H3 b=some (.tup (k.map kV))/\kvs.length < sizeLine /\
 (∀ v,kX kvs k=some v->Q v H3)/\(kX kvs k=none->Q z (upd H3 a (.dT (kvs++[(k,z)]))))
def cI7{X:Cx}{o e f:Expr}{apos cpos:Pos}{g ty i:TE}(n:X.A.units+1 < cLine)(p:PE X o g)(q:PE X e ty)(r:PE X f i)(m:M2 X o "setdefault" apos e f cpos):PE X (.Call (.Attribute o "setdefault" apos) [e,f] [] cpos) (cQ3 g ty i):=by
 intro pins s σ H Q I h;refine wpAny_Call_method m.base m.few m.line F.plainAttrs_dict F.slot_dict_setdefault F.type_dict_setdefault (thn (p pins s σ H _ I h) λu s1 Z0=>?_);obtain⟨x,t,j,w,a,ex,d,B⟩:=Z0;subst ex;obtain rfl:u=Value.ref a:=w;obtain⟨C,D,_⟩:=bL5 j d;refine⟨C,D,?_⟩;rw[m.trees];refine Calls.callWith_builtin rfl (Calls.evalArgs_plain (Calls.spliced_cons (thn (q pins s1 σ t _ j B) λE s2 ⟨y,G,J,K,L⟩=>Calls.spliced_cons (thn (r pins s2 σ G _ J L) λY Z ⟨z,M,N,l,kvs,k,b,O,P,R,S,T,U⟩=>Calls.spliced_nil ?_))));subst P;obtain rfl:E=Value.ref b:=K;exact cQ2 n N O R S l (λv w' V e c W=>⟨v,M,c,W,T v e⟩) λe V c=>⟨z,_,c,l,U e⟩
end L2
namespace Dv
open PySem L2 Mr
section
variable{X:Cx}{E:Ex}{st:Stmt}{ss eI:List Stmt}{r:DS}{a b m:MS}{pos:Pos}
end
end Dv
namespace L2
open PySem Dv
inductive FQ(Q:Hp->Prop):Hp->Prop
 | done {H:Hp}:Q H->FQ Q H
 | step {H:Hp} {p:Addr} {u:HO}:H p=some u->Fz u->(∀ o,FQ Q (upd H p (.frz o u)))->FQ Q H
end L2
namespace Dv
open PySem L2
structure Hid(Γ:Gm)(σ:Sg)(σV:St)(q:Addr):Prop where
 nv:¬ aI1 σ σV q
 h0:Γ.H₀ q=none
section
variable{Γ:Gm}{H H':Hp}{σ σ':Sg}{σV σV':St}{q g:Addr}{o o':HO}
def Hid.step(h:Hid Γ σ σV q)(st:Step σ σV H σ' σV' H')(e:H q=some o):Hid Γ σ' σV' q/\H' q=some o:=
 ⟨⟨λz=>(st.nv q z).elim h.nv λz=>(by rw[e]at z;cases z),h.h0⟩,st.fr q o e λz=>h.nv z.nv⟩
def bM8(H:Hp)(q:Addr):Prop:=H q=none\/∃ o,H q=some o/\Fz o
def xK{L:Addr->Prop}(h:∀ a,L a->bM8 H a)(k:∀ a,¬ L a->H' a=H a):Ext H H':=by
 refine⟨λb xs e=>?_,λb ob x e=>?_⟩<;>rw[k b λz=>?_]<;>first | exact e | (rcases h b z with s | ⟨o,s,f⟩<;>rw[s]at e<;>cases e;exact f)
def StOk.hids{L:Addr->Prop}(ok:StOk Γ H σ σV)(h:∀ a,L a->Hid Γ σ σV a/\bM8 H a)(k:∀ a,¬ L a->H' a=H a):StOk Γ H' σ σV:=
 ⟨λi t e=>by
  obtain⟨v,b,r⟩:=ok.rel i t e;refine⟨v,b,r.mono (xK (λa z=>(h a z).2) k) λp x c m ex=>?_⟩;rw[k p λz=>(h p z).1.nv ⟨i,t,e,m,by rw[b,c]⟩];exact ex,ok.dis,ok.own,ok.par,
  λa x e n=>by rw[k a λz=>(by have:=(h a z).1.h0;rw[this]at e;cases e)];exact ok.keep a x e n,
  λa e=>by
   by_cases z:L a;exact(h a z).1.h0;rw[k a z]at e;exact ok.dom a e,ok.len⟩
def Step.hids{L:Addr->Prop}{c:Sg}{b:St}{d:Hp}(st:Step c b d σ σV H)(h:∀ a,L a->(d a=none\/hU c b a)/\H' a≠none)(k:∀ a,¬ L a->H' a=H a):Step c b d σ σV H':=
 ⟨λa x e n=>by rw[k a λz=>(by rcases(h a z).1 with q | q;(rw[e]at q;cases q);exact n q)];exact st.fr a x e n,
  λa e=>by
   by_cases z:L a;exact absurd e (h a z).2;rw[k a z]at e;exact st.dom a e,st.mu,st.nv,st.kp,st.fix,st.lt⟩
def bW2{a:Addr}(z:¬ a=q):upd H q o' a=H a:=aL z
def StOk.hid(ok:StOk Γ H σ σV)(h:Hid Γ σ σV q)(s:bM8 H q):StOk Γ (upd H q o') σ σV:=ok.hids (L:=(· = q)) (λa e=>by subst e;exact⟨h,s⟩) λa z=>bW2 z
def Step.hid{c:Sg}{b:St}{d:Hp}(st:Step c b d σ σV H)(h:d q=none\/hU c b q):Step c b d σ σV (upd H q o'):=st.hids (L:=(· = q)) (λa e=>by subst e;exact⟨h,by rw[aQ];exact λz=>nomatch z⟩) λa z=>bW2 z
def bM8.ext(s:bM8 H q):Ext H (upd H q o'):=xK (L:=(· = q)) (λa e=>by subst e;exact s) λa z=>bW2 z
end
section
variable{Γ:Gm}{H H':Hp}{σ σ':Sg}{σV σV':St}{g p:Nat}
noncomputable abbrev SG:Sl:=⟨.own,.dic [] []⟩
def pT{s t:Sl}{i:Nat}(h:(σ.set g (some s))[i]? = some (some t)):(i=g/\t=s)\/(i≠g/\σ[i]? = some (some t)):=by
 rcases aS h with⟨z,a,_⟩ | ⟨z,a⟩;cases a;exact .inl ⟨z,rfl⟩;exact .inr ⟨z,a⟩
def Step.wide(st:Step σ σV H σ' σV' H')(f:g < σ.length)(t:σ'.length=σ.length)(q:σV[g]? = some (some (.ref p)))(k:σV'[g]? = some (some (.ref p))):Step (σ.set g (some SG)) σV H (σ'.set g (some SG)) σV' H':=by
 have up:∀ {a},hU σ σV a->hU (σ.set g (some SG)) σV a:=λ{a} ⟨i,s,c,d,b⟩=>by
  by_cases z:i=g;subst z;exact⟨i,SG,by rw[a0b f],rfl,b⟩;exact⟨i,s,by rw[a2a (a9c z)];exact c,d,b⟩
 have j:∀ {a},aI1 σ σV a->aI1 (σ.set g (some SG)) σV a:=λ{a} ⟨i,s,c,d,b⟩=>by
  by_cases z:i=g;subst z;exact⟨i,SG,by rw[a0b f],(λz=>nomatch z),b⟩;exact⟨i,s,by rw[a2a (a9c z)];exact c,d,b⟩
 have l:hU (σ.set g (some SG)) σV p:=⟨g,SG,by rw[a0b f],rfl,q⟩;refine⟨λa o e n=>st.fr a o e λz=>n (up z),st.dom,λa ⟨i,s,c,d,b⟩=>?_,λa ⟨i,s,c,d,b⟩=>?_,λi s h=>?_,λi s h m=>?_,λi s h m=>?_⟩;rcases pT c with⟨rfl,rfl⟩ | ⟨z,c⟩;rw[k]at b;cases b;exact .inl l;exact(st.mu a ⟨i,s,c,d,b⟩).imp up id;rcases pT c with⟨rfl,rfl⟩ | ⟨z,c⟩;rw[k]at b;cases b;exact .inl l.nv;exact(st.nv a ⟨i,s,c,d,b⟩).imp j id;rcases pT h with⟨rfl,rfl⟩ | ⟨z,h⟩;exact⟨SG,by rw[a0b (by lia)]⟩;obtain⟨s',h'⟩:=st.kp i s h;exact⟨s',by rw[a2a (a9c z)];exact h'⟩;rcases pT h with⟨rfl,rfl⟩ | ⟨z,h⟩;rcases m with m | m<;>cases m;obtain⟨s',h',r⟩:=st.fix i s h m;exact⟨s',by rw[a2a (a9c z)];exact h',r⟩;rcases pT h with⟨rfl,rfl⟩ | ⟨z,h⟩;cases m;obtain⟨s',h',r⟩:=st.lt i s h m;exact⟨s',by rw[a2a (a9c z)];exact h',r⟩
def Step.drop(st:Step σ σV H (σ'.set g (some SG)) σV' H')(h0:σ[g]? = some none)(b:∀ s,σ'[g]? ≠ some (some s)):Step σ σV H σ' σV' H':=by
 have up:∀ {i:Nat} {s:Sl},σ'[i]? = some (some s)->(σ'.set g (some SG))[i]? = some (some s):=λ{i s} h=>by
  rw[a2a (λz=>b s (by rw[z];exact h))];exact h
 refine⟨st.fr,st.dom,λa ⟨i,s,e,r⟩=>st.mu a ⟨i,s,up e,r⟩,λa ⟨i,s,e,r⟩=>st.nv a ⟨i,s,up e,r⟩,λi s h=>?_,λi s h m=>?_,λi s h m=>st.lt i s (up h) m⟩;obtain⟨s',h'⟩:=st.kp i s h;rcases pT h' with⟨rfl,rfl⟩ | ⟨z,h'⟩;rw[h0]at h;cases h;exact⟨s',h'⟩;obtain⟨s',h',r⟩:=st.fix i s h m;rcases pT h' with⟨rfl,rfl⟩ | ⟨z,h'⟩;rw[h0]at h;cases h;exact⟨s',h',r⟩
def StOk.forget(ok:StOk Γ H σ σV):StOk Γ H (σ.set g none) σV:=by
 have up:∀ {i:Nat} {s:Sl},(σ.set g none)[i]? = some (some s)->σ[i]? = some (some s):=λ{i s} h=>by
  rcases aS h with⟨z,a,_⟩ | ⟨z,a⟩;cases a;exact a
 exact⟨λi s e=>ok.rel i s (up e),λi j s t q n b c=>ok.dis i j s t q n (up b) (up c),λi s q e=>ok.own i s q (up e),λi s q e=>ok.par i s q (up e),ok.keep,ok.dom,by rw[a3f];exact ok.len⟩
end
noncomputable def cQ4:D->Option Key
 | .int i=>some (.inl i)
 | .str x=>some (.inr x)
 | _=>none
noncomputable def mP:List D->Option (List Key)
 | []=>some []
 | d::r=>(cQ4 d).bind λk=>(mP r).bind λks=>some (k::ks)
theorem nX:∀ {l:List D} {ks:List Key},mP l=some ks->l=ks.map qB
 | [],_,h=>by cases h;rfl
 | d::r,_,h=>by
   obtain⟨k,a,h⟩:=aB h;obtain⟨ks,b,h⟩:=aB h;cases h;rw[a1e,← nX b];cases d<;>cases a<;>rfl
theorem xL{H:Hp}:∀ {ks:List Key} {xs:List V},Rps H (ks.map qB) xs->xs=ks.map kV
 | [],_,h=>by cases h;rfl
 | k::r,_,h=>by
   rw[a1e]at h;cases h with
   | cons a t=>rw[xL t,a1e];cases k<;>cases a<;>rfl
abbrev GA0:=List (List Key×List D)
noncomputable def aB6(k:List Key)(v:D):GA0->GA0
 | []=>[(k,[v])]
 | p::r=>if p.1=k then(p.1,p.2++[v])::r else p::aB6 k v r
inductive Grp(H:Hp)(n:Nat):GA0->List (List Key×V)->List Addr->Prop
 | nil:Grp H n [] [] []
 | cons {k:List Key} {vs:List D} {l:Addr} {xs:List V} {acc:GA0} {kvs:List (List Key×V)} {ls:List Addr}:H l=some (.lst xs)->Rps H vs xs->xs.length<=n->l∉ls->Grp H n acc kvs ls->Grp H n ((k,vs)::acc) ((k,.ref l)::kvs) (l::ls)
section
variable{H H':Hp}{n:Nat}
theorem Grp.keep:∀ {acc:GA0} {kvs:List (List Key×V)} {ls:List Addr},Grp H n acc kvs ls->Ext H H'->(∀ l∈ls,∀ o,H l=some o->H' l=some o)->Grp H' n acc kvs ls
 | _,_,_,.nil,_,_=>.nil
 | _,_,_,.cons a b c d t,x,k=>.cons (k _ a3a _ a) (b.mono x) c d (t.keep x λl e=>k l (a4a _ e))
theorem Grp.up:∀ {acc:GA0} {kvs:List (List Key×V)} {ls:List Addr},Grp H n acc kvs ls->Grp H (n+1) acc kvs ls
 | _,_,_,.nil=>.nil
 | _,_,_,.cons a b c d t=>.cons a b (Nat.le_succ_of_le c) d t.up
theorem Grp.soft:∀ {acc:GA0} {kvs:List (List Key×V)} {ls:List Addr},Grp H n acc kvs ls->∀ l∈ls,∃ xs,H l=some (.lst xs)
 | _,_,_,.nil,_,h=>by simp at h
 | _,_,_,.cons a b c d t,l,h=>by
   rcases a7b.mp h with rfl | h;exact⟨_,a⟩;exact t.soft l h
theorem Grp.keys:∀ {acc:GA0} {kvs:List (List Key×V)} {ls:List Addr},Grp H n acc kvs ls->kvs.map (·.1)=acc.map (·.1)
 | _,_,_,.nil=>rfl
 | _,_,_,.cons a b c d t=>by rw[a1e,a1e,t.keys]
def Grp.len{acc:GA0}{kvs:List (List Key×V)}{ls:List Addr}(h:Grp H n acc kvs ls):kvs.length=acc.length:=by have:=a2Y List.length h.keys;simpa using this
theorem Grp.app{k:List Key}{d:D}{y:V}:∀ {acc:GA0} {kvs:List (List Key×V)} {ls:List Addr} {v:V},Grp H n acc kvs ls->kX kvs k=some v ->
  ∃ l xs,v=.ref l/\l∈ls/\H l=some (.lst xs)/\xs.length<=n/\(Rp (upd H l (.lst (xs++[y]))) d y->Ext H (upd H l (.lst (xs++[y])))->Grp (upd H l (.lst (xs++[y]))) (n+1) (aB6 k d acc) kvs ls)
 | _,_,_,_,.nil,h=>by cases h
 | _,_,_,_,.cons (k:=j) (l:=l) (xs:=xs) g i c a t,h=>by
   by_cases e:j=k;rw[iR e]at h;cases h;refine⟨l,xs,rfl,a3a,g,c,λr x=>?_⟩;show Grp _ _ (if j=k then _ else _) _ _;rw[a2H e];refine .cons aQ ((i.mono x).append (.cons r .nil)) (by rw[a9a];exact Nat.succ_le_succ c) a (t.up.keep x λb hb o q=>?_);rw[aL (show b≠l from λz=>a (by rw[← z];exact hb))];exact q;rw[iS e]at h;obtain⟨m,f,s,p,u,w,A⟩:=t.app (d:=d) (y:=y) h;refine⟨m,f,s,a4a _ p,u,w,λr x=>?_⟩;show Grp _ _ (if j=k then _ else _) _ _;rw[a2I e];exact .cons (by rw[aL (show l≠m from λz=>a (by rw[z];exact p))];exact g) (i.mono x) (Nat.le_succ_of_le c) a (A r x)
theorem Grp.more{k:List Key}{l:Addr}(a:H l=some (.lst [])):∀ {acc:GA0} {kvs:List (List Key×V)} {ls:List Addr},Grp H n acc kvs ls->l∉ls->Grp H n (acc++[(k,[])]) (kvs++[(k,.ref l)]) (ls++[l])
 | _,_,_,.nil,_=>.cons a .nil (a1d _) (by simp) .nil
 | _,_,_,.cons b c d e t,h=>.cons b c d (by
   intro z;rcases a3c.mp z with z | z;exact e z
   ·cases a8b.mp z;exact h a3a) (t.more a λz=>h (a4a _ z))
theorem zY{k:List Key}{d:D}:∀ {acc:GA0},k∉acc.map (·.1)->aB6 k d (acc++[(k,[])])=aB6 k d acc
 | [],_=>by simp[aB6]
 | p::r,h=>by
   have e:¬ p.1=k:=λz=>h (by simp[z]);show(if p.1=k then _ else _)=(if p.1=k then _ else _);rw[a2I e,a2I e];exact a2Y (p :: ·) (zY λz=>h (by simp at z ⊢;exact .inr z))
theorem aL1{k:List Key}:∀ {kvs:List (List Key×V)},kX kvs k=none->k∉kvs.map (·.1)
 | [],_=>by simp
 | p::r,h=>by
   by_cases e:p.1=k;rw[iR e]at h;cases h;rw[iS e]at h;intro z;rcases a7b.mp z with z | z;exact e z.symm;exact aL1 h z
theorem aL2{k:List Key}{v:V}:∀ {kvs:List (List Key×V)},kX kvs k=none->kX (kvs++[(k,v)]) k=some v
 | [],_=>iR rfl
 | p::r,h=>by
   by_cases e:p.1=k;rw[iR e]at h;cases h;rw[iS e]at h;rw[List.cons_append,iS e];exact aL2 h
end
noncomputable def cI8:Res->Option (List Key)
 | .val (.tup l)=>mP l
 | _=>none
noncomputable def cS8:List D->Option D
 | [v]=>some v
 | _=>none
noncomputable def bW3(row:Nat)(b:DE)(c:DA):List D->GA0->Sg->Option (GA0×Sg)
 | [],acc,σ=>some (acc,σ)
 | d::r,acc,σ=>(dgN row d σ).bind λa=>(b a).bind λx=>(cI8 x.1).bind λk=>(c x.2).bind λy=>(vals y.1).bind λe=>(cS8 e).bind λv=>bW3 row b c r (aB6 k v acc) y.2
noncomputable def bI2(acc:GA0):D:=.dic (acc.map λp=>.tup (p.1.map qB)) (acc.map λp=>.lst p.2)
open Classical in
noncomputable def bZ2(g row:Nat)(ri:DI)(a:DE)(b:DA):DS:=λσ=>if σ[g]? = some none then(ri (σ.set g (some SG))).bind λx=>
 if x.2.1=none/\x.2.2[g]? = some (some SG)/\x.1.length < 4000 then(bW3 row a b x.1 [] (x.2.2.set g none)).bind λy=>some (.rt (.own (bI2 y.1)) (y.2.set g none))else none else none
def tFQ(t:TE):TE:=λσ H Q=>t σ H λv a=>FQ (Q v) a
def cQ5{X:Cx}{e:Expr}{t:TE}(h:PE X e t):PE X e (tFQ t):=λpins s σ H Q I q=>
 thn (h pins s σ H _ I q) λu s1 ⟨v,a,b,d,f⟩=>by
  suffices ∀ a,FQ (Q v) a->Inv X pins σ a s1->∃ v c,Inv X pins σ c s1/\eH v u/\Q v c from this a f b
  intro a q b
  induction q with
  | done q=>exact⟨v,_,b,d,q⟩
  | step g i _ j=>
    obtain⟨o,k⟩:=aV0 b g i;exact j o k
theorem bM9{Q:Hp->Prop}:∀ {ls:List Addr} {H:Hp},(∀ l∈ls,∃ xs,H l=some (.lst xs))->ls.Nodup->(∀ H',(∀ a,a∉ls->H' a=H a)->(∀ l∈ls,∀ xs,H l=some (.lst xs)->∃ o,H' l=some (.frz o (.lst xs)))->Q H')->FQ Q H
 | [],H,_,_,q=>.done (q H (λ_ _=>rfl) λl h=>by simp at h)
 | l::ls,H,h,nd,q=>by
   obtain⟨xs,e⟩:=h l a3a;obtain⟨n1,n2⟩:=a4h.mp nd;have ne:∀ b∈ls,b≠l:=λb hb z=>n1 (z ▸ hb);refine .step e True.intro λo=>bM9 (ls:=ls) (λb hb=>?_) n2 λH' d f=>q H' (λa ha=>?_) λb hb ys c=>?_;obtain⟨ys,c⟩:=h b (a4a _ hb);exact⟨ys,by rw[aL (ne b hb)];exact c⟩;rw[d a λz=>ha (a4a _ z),aL (show a≠l from λz=>ha (by rw[z];exact a3a))];rcases a7b.mp hb with rfl | hb;rw[e]at c;cases c;exact⟨o,by rw[d b n1,aQ]⟩;exact f b hb ys (by rw[aL (ne b hb)];exact c)
theorem Grp.nodup{H:Hp}{n:Nat}:∀ {acc:GA0} {kvs:List (List Key×V)} {ls:List Addr},Grp H n acc kvs ls->ls.Nodup
 | _,_,_,.nil=>.nil
 | _,_,_,.cons _ _ _ h t=>a4h.mpr ⟨h,t.nodup⟩
theorem Grp.rps{H H':Hp}{n:Nat}(x:Ext H H'):∀ {acc:GA0} {kvs:List (List Key×V)} {ls:List Addr},Grp H n acc kvs ls->(∀ l∈ls,∀ xs,H l=some (.lst xs)->∃ o,H' l=some (.frz o (.lst xs)))->Rps H' (acc.map λp=>.lst p.2) (kvs.map (·.2))
 | _,_,_,.nil,_=>.nil
 | _,_,_,.cons a b _ _ t,k=>by
   obtain⟨o,e⟩:=k _ a3a _ a;exact .cons (.lst e (b.mono x)) (t.rps x λl c=>k l (a4a _ c))
theorem bI3{σ:Sg}{g:Nat}{x:Option Sl}(h:σ[g]? = some x):σ.set g x=σ:=by
 apply a5h;intro i;by_cases z:i=g;subst z;rw[h,a0b (a0a.mp h).1];rw[a2a (a9c z)]
def cI9{Γ:Gm}{H:Hp}{σ:Sg}{σV:St}{p:Addr}(ok:StOk Γ H σ σV)(h:H p=none):¬ aI1 σ σV p:=λz=>by
 obtain⟨o,e,_⟩:=ok.mutObj z;rw[h]at e;cases e
def _root_.L2.DTa.keep{H H':Hp}{p:Addr}{kvs:List (List Key×V)}(h:DTa H p kvs)(k:∀ o,H p=some o->H' p=some o):DTa H' p kvs:=h.imp (k _) λh=>⟨k _ h.1,h.2⟩
theorem _root_.L2.DTa.some{H:Hp}{p:Addr}{kvs:List (List Key×V)}(h:DTa H p kvs):∃ o,H p=some o/\Fz o:=h.elim (λh=>⟨_,h,True.intro⟩) λh=>⟨_,h.1,True.intro⟩
def _root_.L2.DTa.isD{H:Hp}{p:Addr}{kvs:List (List Key×V)}(h:DTa H p kvs):IsD H p:=h.elim (λh=>.inr ⟨_,.inl h⟩) λh=>.inl ⟨_,.inl h.1⟩
def bI4{Γ:Gm}{E:Ex}{K:W.Frag}{g row:Nat}{ri:DI}{rk:DE}{ra:DA}{D:Ends}{σV:St}{H:Hp}(hne:row≠g)(h:dTS Γ E (bZ2 g row ri rk ra) D σV H) :
  cC0 (bP2 aU4 (pY g)) (cC0 (cC4 (dTI Γ ri) (pY row) (bC5 (tBM K "list" oG (cQ3 (bB9 g) (dTE Γ rk) (cN7 cL0)) (dTA Γ ra)))) (cM8 (tFQ (bB9 g)))) D σV H:=by
 obtain⟨σ,ok,o,e,k⟩:=h;unfold bZ2 at e;split at e
 case isFalse=>cases e
 rename_i hg;obtain⟨⟨items,l,n⟩,e1,e⟩:=aB e;dsimp only at e;split at e
 case isFalse=>cases e
 rename_i hz;obtain⟨rfl,O,hz⟩:=hz;obtain⟨⟨acc,A⟩,e2,e⟩:=aB e;cases e;intro p hp;have gl:g < σV.length:=by rw[← ok.len];exact(a0a.mp hg).1
 have h0:=ok.dom p hp;have okP:fQ σ g=true:=by unfold fQ;rw[hg]
 have sm:xY H (upd H p (.dT [])):=bU hp;have ok1:StOk Γ (upd H p (.dT [])) (σ.set g (some SG)) (σV.set g (some (.ref p))):=(ok.same sm).putOwn okP ⟨_,[],aQ,⟨rfl,rfl⟩,.nil⟩ (cI9 ok hp) h0;have st1:Step σ σV H (σ.set g (some SG)) (σV.set g (some (.ref p))) (upd H p (.dT [])):=(Step.same sm).put okP .own (.inr ⟨rfl,λq e=>by cases e;exact hp⟩);have vg:(σV.set g (some (.ref p)))[g]? = some (some (.ref p)):=by rw[a0b gl]
 unfold pY cC0;dsimp only;generalize σV.set g (some (.ref p))=f at ok1 st1 vg ⊢;refine⟨_,ok1,items,none,n,e1,λJ G P oka sta itd stay=>?_⟩;have mp:hU n f p:=⟨g,SG,O,rfl,vg⟩;have dta:DTa G p []:=by
  obtain⟨v,ev,rv⟩:=oka.rel g SG O;rw[vg]at ev;cases ev;obtain⟨_,q,u,ws,hu,du,_⟩:=rv;cases q;cases u with
  | dK kvs=>exact .inr ⟨by rw[hu,List.map_eq_nil_iff.mp du.1.symm],rfl⟩
  | dT kvs=>exact .inl (by rw[hu,List.map_eq_nil_iff.mp du.1.symm])
  | _=>exact du.elim
 have hid0:Hid Γ (n.set g none) f p:=⟨λ⟨i,s,h1,h2,h3⟩=>by
  rcases aS h1 with⟨z,I,_⟩ | ⟨z,I⟩;cases I;exact oka.dis g i SG s p (a9c z) O I rfl h2 vg h3,h0⟩
 have gl1:g < n.length:=(a0a.mp O).1;refine⟨λi m σV2 Q=>m=items.length-i/\i<=items.length/\∃ c a2 kvs ls,bW3 row rk ra (items.drop i) a2 c=some (acc,A)/\StOk Γ Q c σV2/\Step n f G (c.set g (some SG)) σV2 Q/\σV2[g]? = some (some (.ref p))/\DTa Q p kvs/\Grp Q i a2 kvs ls/\p∉ls/\(∀ q,q=p\/q∈ls->Hid Γ c σV2 q)/\(∀ q∈ls,G q=none)/\a2.length<=i,
  ⟨_,rfl,a1d _,n.set g none,[],[],[],by simpa using e2,oka.forget,by rw[List.set_set,bI3 O];exact .refl,vg,dta,.nil,by simp,λq hq=>by rcases hq with rfl | hq;exact hid0;simp at hq,by simp,a8a _⟩,?_⟩
 rintro i m σV2 Q ⟨rfl,hi,c,a2,kvs,ls,ef,ok2,st2,vg2,dt2,gr,pn,hq,hla,al⟩;have hP:P Q:=stay _ σV2 Q st2;by_cases R:i < items.length
 ·have ei:items[i]? = some items[i]:=a1a R;refine .inr ⟨itd.go Q i _ hP ei,λσV3 X=>∃ m',m' < items.length-i/\m'=items.length-(i+1)/\i+1<=items.length/\∃ c a2 kvs ls,bW3 row rk ra (items.drop (i+1)) a2 c=some (acc,A)/\StOk Γ X c σV3/\Step n f G (c.set g (some SG)) σV3 X/\σV3[g]? = some (some (.ref p))/\DTa X p kvs/\Grp X (i+1) a2 kvs ls/\p∉ls/\(∀ q,q=p\/q∈ls->Hid Γ c σV3 q)/\(∀ q∈ls,G q=none)/\a2.length<=i+1,λσ' H' q=>q,λy X hy=>?_⟩;obtain⟨S,ry⟩:=itd.yld Q i _ y X hP ei hy;rw[List.drop_eq_getElem_cons R]at ef;obtain⟨σ3,eg,ef1⟩:=aB ef;obtain⟨⟨xk,x⟩,ek,ef2⟩:=aB ef1;obtain⟨F,T,ef3⟩:=aB ef2;obtain⟨⟨ys,σ5⟩,ea,ef4⟩:=aB ef3;obtain⟨ds,evs,ef5⟩:=aB ef4;obtain⟨vd,Y,ef6⟩:=aB ef5;clear ef ef1 ef2 ef3 ef4 ef5;dsimp only at T ea evs ef6;unfold dgN at eg;split at eg
  case isFalse=>cases eg
  rename_i okr;cases eg;have okr':fQ (c.set g (some SG)) row=true:=by unfold fQ;rw[a2a (a9c hne)];exact okr
  have M:=(ok2.same S).put okr ry;have Z:=(st2.trans (.same S)).put (v:=y) (d:=items[i]) okr' .val (.inl rfl);rw[List.set_comm _ _ (a9c hne)]at Z;have B:(σV2.set row (some y))[g]? = some (some (.ref p)):=by rw[a2a hne];exact vg2
  have hq3:∀ q,q=p\/q∈ls->Hid Γ (c.set row (some ⟨.val,items[i]⟩)) (σV2.set row (some y)) q:=λq h=>⟨λ⟨j,s,h1,h2,h3⟩=>by
   rcases aS h1 with⟨z,I,_⟩ | ⟨z,I⟩;cases I;exact h2 rfl;exact(hq q h).nv ⟨j,s,I,h2,by rw[a2a (a9c z)]at h3;exact h3⟩,(hq q h).h0⟩
  have gl2:g < (c.set row (some ⟨.val,items[i]⟩)).length:=by rw[M.len];exact(a0a.mp B).1
  unfold bC5;dsimp only;generalize σV2.set row (some y)=σV3 at M Z B hq3 ⊢;generalize c.set row (some ⟨.val,items[i]⟩)=σ3 at M Z hq3 ek gl2;have gr3:Grp X i a2 kvs ls:=gr.keep (.same S) λl _ o e=>S l o e;have dt3:DTa X p kvs:=dt2.keep λo e=>S p o e;refine⟨.ref p,B,p,rfl,dt3.isD,σ3,M,xk,x,ek,λvk H4 U rk4 st4 f4=>⟨a1d _,λl N=>?_⟩⟩;have kp4:∀ q,q=p\/q∈ls->∀ o,X q=some o->H4 q=some o:=λq h o e=>((hq3 q h).step st4 e).2;have hq4:∀ q,q=p\/q∈ls->Hid Γ x σV3 q:=λq h=>by
   have:∃ o,X q=some o:=by
    rcases h with rfl | h;obtain⟨o,e,_⟩:=dt3.some;exact⟨o,e⟩;obtain⟨xs,e⟩:=gr3.soft q h;exact⟨_,e⟩
   obtain⟨o,e⟩:=this;exact((hq3 q h).step st4 e).1
  have st4':Step n f G (x.set g (some SG)) σV3 H4:=Z.trans (st4.wide gl2 (by rw[U.len,M.len]) B B);have ext4:=st4.ext M;have gr4:Grp H4 i a2 kvs ls:=gr3.keep ext4 λl N=>kp4 l (.inr N);have dt4:DTa H4 p kvs:=dt3.keep (kp4 p (.inl rfl));obtain⟨b,rfl,hb⟩:∃ b,vk=.ref b/\H4 b=some (.tup (F.map kV)):=by
   unfold cI8 at T;split at T
   ·have rk4:Rp H4 (.tup _) vk:=rk4;cases rk4 with
    | tup h r=>rw[nX T]at r;rw[xL r]at h;exact⟨_,rfl,h⟩
   ·cases T
  have lp:l≠p:=λz=>by obtain⟨o,e,_⟩:=dt4.some;rw[z,e]at N;cases N
  have lls:l∉ls:=λz=>by obtain⟨xs,e⟩:=gr4.soft l z;rw[e]at N;cases N
  have s5:xY H4 (upd H4 l (.lst [])):=bU N;have hidl:Hid Γ x σV3 l:=⟨cI9 U N,U.dom l N⟩;have hal:G l=none:=st4'.dom l N;have gr5:Grp (upd H4 l (.lst [])) i a2 kvs ls:=gr4.keep (.same s5) λq _ o e=>s5 q o e;have dt5:DTa (upd H4 l (.lst [])) p kvs:=dt4.keep λo e=>s5 p o e;have st5:Step n f G (x.set g (some SG)) σV3 (upd H4 l (.lst [])):=st4'.hid (.inl hal)
  -- behind setdefault
  have fin:∀ (H6:Hp) (a6:GA0) (w:List (List Key×V)) (C:List Addr) (v:V),StOk Γ H6 x σV3->Step n f G (x.set g (some SG)) σV3 H6->DTa H6 p w->Grp H6 i a6 w C->p∉C->(∀ q,q=p\/q∈C->Hid Γ x σV3 q)->(∀ q∈C,G q=none)->kX w F=some v->aB6 F vd a6=aB6 F vd a2->a6.length<=i+1 ->
    tyV K "list" v H6/\dTA Γ ra σV3 H6 λxs H7=>oG v xs H7 λ_ H8=>∃ m',m' < items.length-i/\m'=items.length-(i+1)/\i+1<=items.length/\∃ c a2 kvs ls,bW3 row rk ra (items.drop (i+1)) a2 c=some (acc,A)/\StOk Γ H8 c σV3/\Step n f G (c.set g (some SG)) σV3 H8/\σV3[g]? = some (some (.ref p))/\DTa H8 p kvs/\Grp H8 (i+1) a2 kvs ls/\p∉ls/\(∀ q,q=p\/q∈ls->Hid Γ c σV3 q)/\(∀ q∈ls,G q=none)/\a2.length<=i+1:=by
   intro H6 a6 w C v ok6 st6 dt6 gr6 pn6 hq6 hla6 hv eg6 al6;obtain⟨l6,xs6,rfl,m6,hl6,hx6,_⟩:=gr6.app (d:=vd) (y:=.non) hv;refine⟨.inl ⟨rfl,xs6,SqL.of hl6⟩,x,ok6,ys,σ5,ea,λus H7 ok7 r7 st7 f7=>?_⟩;have ry7:=jS r7 evs;obtain⟨y7,rfl,r1⟩:∃ y7,us=[y7]/\Rp H7 vd y7:=by
    unfold cS8 at Y;split at Y
    ·cases Y;cases ry7 with
     | cons a t=>cases t;exact⟨_,rfl,a⟩
    ·cases Y
   have kp7:∀ q,q=p\/q∈C->∀ o,H6 q=some o->H7 q=some o:=λq h o e=>((hq6 q h).step st7 e).2;have hq7:∀ q,q=p\/q∈C->Hid Γ σ5 σV3 q:=λq h=>by
    have:∃ o,H6 q=some o:=by
     rcases h with rfl | h;obtain⟨o,e,_⟩:=dt6.some;exact⟨o,e⟩;obtain⟨xs,e⟩:=gr6.soft q h;exact⟨_,e⟩
    obtain⟨o,e⟩:=this;exact((hq6 q h).step st7 e).1
   have gr7:Grp H7 i a6 w C:=gr6.keep (st7.ext ok6) λl N=>kp7 l (.inr N);have dt7:DTa H7 p w:=dt6.keep (kp7 p (.inl rfl));obtain⟨l7,xs7,q7,m7,hl7,hx7,app⟩:=gr7.app (d:=vd) (y:=y7) hv;cases q7;have sf:bM8 H7 l6:=.inr ⟨_,hl7,True.intro⟩;have lp7:l6≠p:=λz=>pn6 (z ▸ m7);have gl4:g < x.length:=by rw[ok6.len];exact(a0a.mp B).1
   refine⟨l6,xs7,y7,rfl,rfl,hl7,Nat.lt_of_le_of_lt hx7 (a1c (a3g R hz) (by decide)),_,by lia,rfl,R,σ5,aB6 F vd a6,w,C,?_,ok7.hid (hq7 l6 (.inr m7)) sf,(st6.trans (st7.wide gl4 (by rw[ok7.len,ok6.len]) B B)).hid (.inl (hla6 l6 m7)),B,dt7.keep λo e=>by rw[aL (a9c lp7)];exact e,app (r1.mono sf.ext) sf.ext,pn6,hq7,hla6,?_⟩;rw[eg6];exact ef6;have:=(app (r1.mono sf.ext) sf.ext).len;have:=gr7.len;lia
  refine⟨kvs,F,b,dt5,rfl,s5 b _ hb,?_,λv hv=>?_,λhv=>?_⟩;have:=gr4.len;exact Nat.lt_of_le_of_lt (by lia) (a1c (a3g R hz) (by decide));exact fin _ a2 kvs ls v (U.same s5) st5 dt5 gr5 pn hq4 hla hv rfl (by lia);have sp:bM8 (upd H4 l (.lst [])) p:=.inr dt5.some;have kl:∀ q∈ls++[l],q≠p:=λq h z=>by
   rcases a3c.mp h with h | h;exact pn (z ▸ h);exact lp (by rw[← a8b.mp h];exact z)
  refine fin _ (a2++[(F,[])]) (kvs++[(F,.ref l)]) (ls++[l]) (.ref l) ((U.same s5).hid (hq4 p (.inl rfl)) sp) (st5.hid (.inr mp)) (.inl aQ) ((gr5.more aQ lls).keep sp.ext λq h o e=>by rw[aL (kl q h)];exact e) (λz=>kl p z rfl) (λq h=>?_) (λq h=>?_) (aL2 hv) (zY (by rw[← gr4.keys];exact aL1 hv)) (by rw[a9a];exact Nat.succ_le_succ al);rcases h with h | h;exact hq4 q (.inl h);rcases a3c.mp h with h | h;exact hq4 q (.inr h);cases a8b.mp h;exact hidl;rcases a3c.mp h with h | h;exact hla q h;cases a8b.mp h;exact hal
 ·have e0:i=items.length:=by lia
  subst e0;rw[List.drop_length]at ef;cases ef;refine .inl ⟨itd.stop Q hP,_,vg2,bM9 gr.soft gr.nodup λH' k1 k2=>?_⟩;have gL:∀ a,a∈ls->Hid Γ A σV2 a/\bM8 Q a:=λa h=>by obtain⟨xs,e⟩:=gr.soft a h;exact⟨hq a (.inr h),.inr ⟨_,e,True.intro⟩⟩
  have ex:=xK (L:=(· ∈ ls)) (λa h=>(gL a h).2) k1;have ok':StOk Γ H' (A.set g none) σV2:=(ok2.hids (L:=(· ∈ ls)) gL k1).forget;have st':Step n f G (A.set g (some SG)) σV2 H':=st2.hids (L:=(· ∈ ls)) (λa h=>⟨.inl (hla a h),by obtain⟨xs,e⟩:=gr.soft a h;obtain⟨o,e'⟩:=k2 a h xs e;rw[e'];exact λz=>nomatch z⟩) k1;have st'':Step σ σV H (A.set g none) σV2 H':=by
   have:=(st1.trans sta).trans st';rw[show A.set g (some SG)=(A.set g none).set g (some SG) by rw[List.set_set]]at this;refine this.drop hg λs z=>?_;rcases aS z with⟨_,I,_⟩ | ⟨z1,_⟩;cases I;exact z1 rfl
  refine k (.ref p) σV2 H' ok' ⟨p,rfl,?_,λ⟨j,s,h1,h2,h3⟩=>?_,h0⟩ st''
  ·have rp:=gr.rps ex k2;have dt':DTa H' p kvs:=dt2.keep λo e=>by rw[k1 p pn];exact e
   have kk:acc.map (λp=>Dv.D.tup (p.1.map qB))=kvs.map λkv=>Dv.D.tup (kv.1.map qB):=by
    have:=a2Y (List.map λl:List Key=>Dv.D.tup (l.map qB)) gr.keys;simpa[List.map_map,Function.comp_def]using this.symm
   rcases dt' with e | ⟨e,rfl⟩;exact⟨_,_,e,⟨kk,rfl⟩,rp⟩;refine⟨_,[],e,⟨kk,rfl⟩,rp⟩
  ·rcases aS h1 with⟨_,I,_⟩ | ⟨_,I⟩;cases I;exact(hq p (.inl rfl)).nv ⟨j,s,I,h2,h3⟩
def bW4{X:Cx}{E:Ex}{K:W.Frag}{g row:Nat}{a b c:Stmt}{ri:DI}{e:DE}{f:DA}(d:row≠g)(i:PS X a (bP2 aU4 (pY g)))
  (j:∀ Γ,PS X b (cC4 (dTI Γ ri) (pY row) (bC5 (tBM K "list" oG (cQ3 (bB9 g) (dTE Γ e) (cN7 cL0)) (dTA Γ f))))) (k:PS X c (cM8 (tFQ (bB9 g)))):GSs E X [a,b,c] (bZ2 g row ri e f):=
 .mk λΓ=>cL2 (wI i (wI (j Γ) (aB9 k))) λD σV H h=>bI4 d h
end Dv
namespace PySem
open Sem (wp)
section
variable{prog:Program}{w:World}{A:Around}{E:Value->Shared->Prop}
end
section
variable{prog:Program}{w:World}{A:Around}{E:Value->Shared->Prop}{R:Result->Shared->Prop}{d I:Addr}{fp:List Addr}{n:Nat}{P:Nat->Value->Prop}{St:Nat->Heap->Prop}{κ:Type}[DecidableEq κ]{knd:KeyKind prog w κ}
end
section
variable{prog:Program}{w:World}{A:Around}{E:Value->Shared->Prop}{κ:Type}[DecidableEq κ]{knd:KeyKind prog w κ}
end
end PySem
namespace L2
open PySem PySem.Spec PyProof.Rows
end L2
namespace Dv
open PySem L2 Mr
end Dv
namespace L2
open PySem PySem.Spec PyProof.Rows
def RdT(H:Hp)(a:Addr)(kvs:List (List Key×V)):Prop:=Rd H a (.dT kvs)\/Rd H a (.dK [])/\kvs=[]
def bN0{P:Program}{w:World}{H:Hp}{h:Heap}{a:Addr}{kvs:List (List Key×V)}(ok:HOk P w H h)(e:RdT H a kvs):(a==sysModules)=false/\∃ xs,KT H kvs xs/\h.DictOfH (tupleKind (cH P w)) a xs:=by
 rcases e with e | ⟨e,rfl⟩;obtain⟨_,hd,xs,rel,c⟩:=bS0 ok e;exact⟨hd,xs,rel,c⟩;obtain⟨_,hd,vs,rel,c⟩:=bR9 ok e;cases rel;obtain⟨o,es,ep,d,f,b,k,g,hn⟩:=c;have i:es.toList=[]:=a7c g.length;exact⟨hd,[],.nil,o,es,ep,d,f,b,by rw[i];rfl,λx j=>by simp at j,.nil⟩
section
variable{X:Cx}{pins:List (Addr×Obj)}{σ:St}{H:Hp}{s:Shared}{a b:Addr}{z v:V}{r:Value}{kvs:List (List Key×V)}{k:List Key}{A:Around}{E:Value->Shared->Prop}
def cJ0{Q:Value->Shared->Prop}(f:A.units+1 < cLine)(I:Inv X pins σ H s)(e:RdT H a kvs)(g:H b=some (.tup (k.map kV)))(i:eH z r)(h:∀ c s',Inv X pins σ H s'->eH ((kX kvs k).getD z) c->Q c s') :
  wpAny (model X.prog X.w) A (call (.builtin "dict.get") [.ref a,.ref b,r]) Q E s:=by
 obtain⟨hd,xs,rel,d⟩:=bN0 I.hok e;exact call_meetsIn F.slot_dict_get d.typeIs F.entry_dict_get (F.args_dict_get_3 _ _ _) (meetsH_dict_get_default (tupleKind (cH X.prog X.w)) a b hd r) ⟨tupleKind_room_in1 f,k,xs,aI0 I.hok g,d,h _ _ (I.tok _) ((rel.val k).getD i)⟩
def cQ6{Q:Value->Shared->Prop}(c:A.units+1 < cLine)(I:Inv X pins σ H s)(e:RdT H a kvs)(d:H b=some (.tup (k.map kV)))(h:∀ s',Inv X pins σ H s'->Q (.bool (kX kvs k).isSome) s') :
  wpAny (model X.prog X.w) A (compareOp .In (.ref b) (.ref a)) Q E s:=by
 obtain⟨hd,xs,rel,f⟩:=bN0 I.hok e;refine wpAny_in_heap (tupleKind_room_in1 c) (aI0 I.hok d) hd f ?_;have q:=(rel.val k).isSome_eq;rw[Option.isSome_map]at q;rw[← q];exact h _ (I.tok _)
end
def cS9:R2:=λx y H Q=>∃ b k a kvs,x=.ref b/\H b=some (.tup (k.map kV))/\y=.ref a/\RdT H a kvs/\Q (.bl (kX kvs k).isSome) H
def cJ1{X:Cx}(c:X.A.units+1 < cLine):OpR X (compareOp .In) cS9:=λpins s σ H x y u v Q I d e ⟨b,k,a,kvs,ex,f,g,h,q⟩=>by
 subst ex g;obtain rfl:u=Value.ref b:=d;obtain rfl:v=Value.ref a:=e;exact cQ6 c I h f λj i=>⟨.bl (kX kvs k).isSome,H,i,rfl,q⟩
def cQ7(d ty e:TE):TE:=λσ H Q=>d σ H λx c=>∃ a,x=.ref a/\IsD c a/\ty σ c λy f=>e σ f λz H3=>∃ kvs k b,RdT H3 a kvs/\y=.ref b/\H3 b=some (.tup (k.map kV))/\Q ((kX kvs k).getD z) H3
def bW5{X:Cx}{o e f:Expr}{apos cpos:Pos}{c ty g:TE}(j:X.A.units+1 < cLine)(l:PE X o c)(n:PE X e ty)(p:PE X f g)(m:M2 X o "get" apos e f cpos):PE X (.Call (.Attribute o "get" apos) [e,f] [] cpos) (cQ7 c ty g):=by
 intro pins s σ H Q I h;refine wpAny_Call_method m.base m.few m.line F.plainAttrs_dict F.slot_dict_get F.type_dict_get (thn (l pins s σ H _ I h) λu s1 Z0=>?_);obtain⟨x,q,i,r,a,ex,d,t⟩:=Z0;subst ex;obtain rfl:u=Value.ref a:=r;obtain⟨v,w,_⟩:=bL5 i d;refine⟨v,w,?_⟩;rw[m.trees];refine Calls.callWith_builtin rfl (Calls.evalArgs_plain (Calls.spliced_cons (thn (n pins s1 σ q _ i t) λB s2 ⟨y,C,D,E,G⟩=>Calls.spliced_cons (thn (p pins s2 σ C _ D G) λT U ⟨z,J,K,L,kvs,k,b,M,N,O,P⟩=>Calls.spliced_nil ?_))));subst N;obtain rfl:B=Value.ref b:=E;exact cJ0 j K M O L λV W R S=>⟨_,J,R,S,P⟩
end L2
namespace Dv
open PySem L2
noncomputable def aG0:List D->List D->List Key->Option (Option D)
 | [],[],_=>some none
 | .tup l::ks,v::vs,k=>(mP l).bind λj=>if j=k then some (some v)else aG0 ks vs k
 | _,_,_=>none
theorem aL3{H:Hp}{k:List Key}{r:Option D}:∀ {kvs:List (List Key×V)} {vs:List D},Rps H vs (kvs.map (·.2))->aG0 (kvs.map λc=>D.tup (c.1.map qB)) vs k=some r ->
  (r=none/\kX kvs k=none)\/∃ d x,r=some d/\kX kvs k=some x/\Rp H d x
 | [],_,.nil,e=>by cases e;exact .inl ⟨rfl,rfl⟩
 | p::kvs,_,.cons a t,e=>by
   obtain⟨j,g,e⟩:=aB e;have i:p.1=j:=by
    have:=nX g;have inj:∀ {x y:List Key},x.map qB=y.map qB->x=y:=λ{x y} h=>by
     refine(List.map_inj_right (f:=qB) λa b h=>?_).mp h;cases a<;>cases b<;>cases h<;>rfl
    exact inj this
   subst i;split at e;rename_i h;cases e;exact .inr ⟨_,_,rfl,iR h,a⟩;rename_i h;rw[iS h];exact aL3 t e
noncomputable def inT:F2:=λd e=>match d,e with
 | .tup l,.dic ks vs=>(mP l).bind λk=>(aG0 ks vs k).bind λr=>some (.val (.bl r.isSome))
 | _,_=>none
def bN1{H:Hp}{ks vs:List D}{v:V}(h:Vw H (.dic ks vs) v):∃ a u ws,v=.ref a/\Rd H a u/\bS2 u ks ws/\Rps H vs ws:=by
 rcases h with h | ⟨p,rfl,u,ws,b,c,d⟩
 ·cases h with
  | dic b c d=>exact⟨_,_,_,rfl,.inr ⟨_,b⟩,c,d⟩
 ·exact⟨p,u,ws,rfl,.inl b,c,d⟩
def cJ2{H:Hp}{ks vs:List D}{v:V}(h:Vw H (.dic ks vs) v):∃ a,v=.ref a/\IsD H a:=by
 obtain⟨a,u,ws,rfl,b,c,_⟩:=bN1 h;refine⟨a,rfl,?_⟩;cases u with
 | dK kvs=>exact .inl ⟨kvs,b⟩
 | dT kvs=>exact .inr ⟨kvs,b⟩
 | _=>exact c.elim
def aZ7{H:Hp}{ks vs:List D}{v:V}{k:List Key}{r:Option D}(h:Vw H (.dic ks vs) v)(e:aG0 ks vs k=some r):∃ a kvs,v=.ref a/\RdT H a kvs/\((r=none/\kX kvs k=none)\/∃ d x,r=some d/\kX kvs k=some x/\Rp H d x):=by
 obtain⟨a,u,ws,rfl,f,b,c⟩:=bN1 h;cases u with
 | dT kvs=>
   obtain⟨rfl,rfl⟩:=b;exact⟨a,kvs,rfl,.inl f,aL3 c e⟩
 | dK kvs=>
   obtain⟨rfl,rfl⟩:=b;cases kvs with
   | nil=>cases c;cases e;exact⟨a,[],rfl,.inr ⟨f,rfl⟩,.inl ⟨rfl,rfl⟩⟩
   | cons p r=>
     obtain⟨j,_⟩:=p;cases c with
     | cons _ _=>cases j<;>cases e
 | _=>exact b.elim
def bN2{H:Hp}{l:List D}{v:V}{k:List Key}(h:Vw H (.tup l) v)(e:mP l=some k):∃ b,v=.ref b/\H b=some (.tup (k.map kV)):=by
 rcases h with h | ⟨p,rfl,h⟩
 ·cases h with
  | tup h r=>rw[nX e]at r;rw[xL r]at h;exact⟨_,rfl,h⟩
 ·exact h.elim
def bW6:xZ cS9 inT:=by
 intro H d e v w Q res a b c k;unfold inT at c;split at c;obtain⟨j,f,c⟩:=aB c;obtain⟨r,g,c⟩:=aB c;cases c;obtain⟨p,rfl,i⟩:=bN2 a f;obtain⟨q,kvs,rfl,l,h⟩:=aZ7 b g;refine⟨p,j,q,kvs,rfl,i,rfl,l,?_⟩;rcases h with⟨rfl,h⟩ | ⟨d,x,rfl,h,_⟩;rw[h];exact k _ _ (λ_ _ h=>h) (.bl _);rw[h];exact k _ _ (λ_ _ h=>h) (.bl _);cases c
noncomputable def bW7:D->Bool
 | .dic _ _=>true
 | _=>false
noncomputable def cM0:D->D->Option (Option D)
 | .dic ks vs,.tup l=>(mP l).bind λk=>aG0 ks vs k
 | _,_=>none
noncomputable def aZ8(a b c:DE):DE:=λσ=>(a σ).bind λx=>(rd x.2 x.1).bind λf=>if bW7 f=true then(b x.2).bind λy=>(c y.2).bind λz=>(rd z.2 x.1).bind λd=>(rd z.2 y.1).bind λe=>(cM0 d e).bind λr=>some ((match r with | some v=>.val v | none=>z.1),z.2)else none
def bW8{X:Cx}{o e f:Expr}{E F G:DE}{apos cpos:Pos}(O:X.A.units+1 < cLine)(P:GE X o E)(R:GE X e F)(S:GE X f G)(m:M2 X o "get" apos e f cpos):GE X (.Call (.Attribute o "get" apos) [e,f] [] cpos) (aZ8 E F G):=.mk λΓ=>peW (bW5 O (P.to Γ) (R.to Γ) (S.to Γ) m) λσV H Q ⟨σ,ok,res,σ',c,k⟩=>by
 obtain⟨⟨x,t⟩,T,c⟩:=aB c;obtain⟨U,I,c⟩:=aB c;dsimp only at I c;split at c
 case isFalse=>cases c
 rename_i hd;obtain⟨⟨y,B⟩,V,c⟩:=aB c;obtain⟨⟨z,D⟩,J,c⟩:=aB c;obtain⟨d,K,c⟩:=aB c;obtain⟨e',L,c⟩:=aB c;obtain⟨r,s,c⟩:=aB c;cases c;dsimp only at J K L k;refine⟨σ,ok,x,t,T,λv W i M C f1=>?_⟩;have Y:=M.vw i I;obtain⟨a,rfl,ha⟩:∃ a,v=.ref a/\IsD W a:=by
  cases U with
  | dic ks vs=>exact cJ2 Y
  | _=>cases hd
 refine⟨a,rfl,ha,t,i,y,B,V,λw H2 l Z n f2=>⟨B,l,z,D,J,λu N g r3 p f3=>?_⟩⟩;have vx:=((M.step i n).step l p).vw g K;have vy:=(Z.step l p).vw g L;unfold cM0 at s;split at s;obtain⟨j,g1,s⟩:=aB s;obtain⟨b,rfl,hb⟩:=bN2 vy g1;obtain⟨a',kvs,q,hq,h⟩:=aZ7 vx s;cases q;refine⟨kvs,j,b,hq,rfl,hb,?_⟩;have st:=(C.trans n).trans p;rcases h with⟨rfl,h⟩ | ⟨d,x,rfl,h,rp⟩;rw[h];exact k u N g r3 st (f3.back (C.trans n));rw[h];exact k x N g rp st eJ;cases s
end Dv
namespace PySem.SeqAt
open PySem MeetsSeq MeetsSeq2 MeetsSeq3 SeqRoads2
def mQ{M:Model}{A:Around}{E:Value->Shared->Prop}{s:Shared}{a:Type}(lo hi:Nat)(f:Nat->a->Sem (ForInStep a))(I:Nat->a->Shared->Prop)(Q:a->Shared->Prop)
  (turn:∀ i b s,lo<=i->i < hi->I i b s->wpAny M A (f i b) (λr s'=>match r with | .yield d=>I (i+1) d s' | .done d=>Q d s') E s)
  (fin:∀ b s,I (max lo hi) b s->Q b s) (b:a) (h:I lo b s):wpAny M A (forIn [lo:hi] b f) Q E s:=by
 rw[Std.Legacy.Range.forIn_eq_forIn_range'];refine wpAny_forIn_list f (λl b s=>∃ i,lo<=i/\i<=max lo hi/\l=List.range' i (max lo hi-i)/\I i b s) Q ?_ ?_ _ b ⟨lo,a8a _,by lia,?_,h⟩
 ·rintro x eI b s ⟨i,j,o,e,g⟩;cases k:max lo hi-i with
  | zero=>rw[k]at e;simp at e
  | succ m=>
    rw[k,List.range'_succ]at e;obtain⟨rfl,rfl⟩:=List.cons.inj e;refine L2.thn (turn x b s j (by lia) g) λr s' n=>?_;cases r with
    | yield d=>exact⟨x+1,by lia,by lia,by rw[show max lo hi-(x+1)=m by lia],n⟩
    | done d=>exact n
 ·rintro b s ⟨i,j,o,e,g⟩;have:i=max lo hi:=by
   have:=a2Y List.length e;simp at this;lia
  subst this;exact fin b s g
 ·show List.range' lo ((hi-lo+1-1) / 1) 1=_;rw[Nat.div_one,show hi-lo+1-1=max lo hi-lo by lia]
def tuple_indexAt(l:Addr)(items:Array Value)(n:Nat)(k:Option Addr)(sl:Array (Option Value))(x:Value)(e:Value->Bool)(j:Nat)(hj:j < items.size)(hb:∀ m (hm:m < items.size),m < j->e items[m]=false)(ha:e items[j]=true) :
  Meets (Builtin.«tuple.index» ⟨[.ref l,x],[]⟩)
   (λA R s=>s.heap.get? l=some {cls:=.type "tuple",dict:=k,data:=.seq items n,slots:=sl}/\(∀ y,y∈items->EqAt A.in1 s y x (e y))/\R (.ok (.ret (.int j s.toks))) {s with toks:=s.toks+1}):=
 .of_wp λprog w A R s h=>by
  obtain⟨o,g,d,tk,os⟩:=s;obtain⟨f,p,h⟩:=h
  wp_walk using a3l f,mQ _ _ _ (λi (b:Option (PySem.Fin)×PUnit) s'=>s'=⟨o,g,d,tk,os⟩/\b=(none,⟨⟩)/\i<=j) _
  case turn=>
   rintro i b s' _ hi ⟨rfl,rfl,c⟩;have a:i < items.size:=by lia
   rw[a9b a];refine a2F (p _ (Array.getElem_mem a) prog w _ _ ?_);rcases Nat.lt_or_eq_of_le c with l | rfl
   ·rw[hb i a l]
    wp_walk
    exact⟨rfl,rfl,l⟩
   ·rw[ha]
    wp_walk
    exact⟨_,rfl,h⟩
  case fin=>
   rintro b s' ⟨_,_,f⟩;lia
  case h=>exact⟨rfl,rfl,a1d _⟩
end PySem.SeqAt
namespace L2
open PySem PySem.Spec PyProof.Rows Sx
def kM(a b:Value):argsOk "tuple.index" ⟨[a,b],[]⟩:=by
 unfold argsOk;rw[signature?_of (id:="tuple.index") (n:=['x','e','d','n','i']) (o:=['e','l','p','u','t']) (by kernel_rfl) F.owner_tuple];kernel_rfl
def bI5{b:List V}{us:List Value}(h:bW b us){i:Nat}{x:V}(e:b[i]? = some x):∃ u,us[i]? = some u/\eH x u:=by
 induction h generalizing i with
 | nil=>simp at e
 | cons a t c=>
   cases i with
   | zero=>simp at e;subst e;exact⟨_,rfl,a⟩
   | succ i=>exact c (by simpa using e)
def aZ9:V->List V->Hp->VK->Prop:=λx vs H Q=>∃ (l:Addr) (a:List Str) (z:Str),x=.ref l/\vs=[.str z]/\H l=some (.tup (a.map V.str))/\z∈a/\Q (.int (a.idxOf z:Nat)) H
def zZ{X:Cx}:MtR X "tuple.index" aZ9:=by
 intro pins s σ H x vs v us Q I C D h;obtain⟨l,a,z,rfl,rfl,G,J,q⟩:=h;cases C;obtain⟨u,rfl,K⟩:=D.one;obtain⟨t,rfl⟩:=K;obtain⟨_,its,r,⟨⟨oc,od,L,sl⟩,e,c,n,d⟩,_⟩:=(show cL X.prog X.w H s.heap l (.tup (a.map V.str))from I.hok l _ G);dsimp only at c d;subst c d;have hj:a.idxOf z < a.length:=List.idxOf_lt_length_iff.mpr J;have A:its.length=a.length:=by
  have:=r.length;simpa using this.symm
 have g:∀ m (hm:m < its.toArray.size),∃ (b:m < a.length) (f:Tok),its.toArray[m]=.str a[m] f:=λm hm=>by
  have j:m < its.length:=by simpa using hm
  have b:m < a.length:=by lia
  obtain⟨u,B,M⟩:=bI5 (i:=m) r (by rw[a0c,a1a b];rfl);obtain⟨f,rfl⟩:=M;rw[a1a j]at B;exact⟨b,f,by simpa using a5a B⟩
 refine a3t F.slot_tuple_index ⟨_,e,rfl⟩ F.entry_tuple_index (kM _ _) (SeqAt.tuple_indexAt l its.toArray n od sl (.str z t) (isZ z) (a.idxOf z) (by simp;lia) (λm hm k=>?_) ?_) ⟨e,λy N=>?_,?_⟩;obtain⟨b,f,o⟩:=g m hm;rw[o];show(a[m]==z)=false;have h:=List.not_of_lt_findIdx (p:=(· == z)) (xs:=a) k;simpa using h;obtain⟨b,f,o⟩:=g (a.idxOf z) (by simp;lia);rw[o];show(a[a.idxOf z]==z)=true;simp;obtain⟨O,f,rfl⟩:=aU3 r y (by simpa using N);exact λprog w E Q h=>eqBool_str h;exact⟨.int _,H,I.tok _,⟨_,rfl⟩,q⟩
end L2
namespace Dv
open PySem L2 Mr Sx
noncomputable def cJ3:FT:=λl e=>match e with
 | .str z=>(zA l).bind λa=>if z∈a then some (.int (a.idxOf z:Nat))else none
 | _=>none
def aL4:cS6 aZ9 cJ3:=by
 intro H l xs e p y Q d b r c a k;unfold cJ3 at a;split at a;obtain⟨f,g,a⟩:=aB a;split at a;rename_i h;cases a;rw[hZ c];rw[xB g]at r;rw[r.strs_inv]at b;exact⟨p,f,_,rfl,rfl,b,h,k _ (.int _)⟩;cases a;cases a
theorem aG1{a:List Str}{z:Str}{K:D->Prop}:OK1 (cJ3 (a.map D.str) (.str z)) K=(z∈a/\K (.int (a.idxOf z:Nat))):=by
 show OK1 ((zA (a.map D.str)).bind _) K=_;rw[zB];show OK1 (if _ then _ else none) K=_;rw[aZ];rfl
end Dv
namespace Mr
open PySem L2 Dv
noncomputable def gC:DS:=(cW (eU 2 (aR jG (aR aD9 (dC (.int 7919)) (aG 1)) (dC (.int 11))))
 (cW (aN7 (jC (aR ltA (aG 1) (dCB aO0 (aD (aG 0) aX)))) (eU 2 (aR ixD (aG 0) (aG 1))) (aN7 (jC (aR gtI (dCB aO0 (aD (aG 0) aX)) (dC (.int 0)))) (eU 2 (aR jG (aG 2) (aR aD9 (aR aR9 (aR ixD (aG 0) (aR aR9 (aG 1) (dCB aO0 (aD (aG 0) aX)))) (dC (.int 2147483629))) (dC (.int 69623))))) oQ))
 (cW (eU 3 (aR jG (aR aR9 (aR jG (aR aD9 (aR aR9 (aG 2) (dC (.int 2147483629))) (dC (.int 48271))) (aR aD9 (dC (.int 40692)) (aG 1))) (dC (.int 2147483629))) (dC (.int 1))))
 (kQ (aB4 (aD (dFz (aR aD9 (aG 2) (dCB bY7 (aD (aR geI (aG 2) (aR cP3 (dC (.int 10)) (dC (.int 18)))) aX)))) (aD (dFz (aG 3)) aX)))))))
noncomputable def cO:Dv.Run:=oU 4 gC
noncomputable def fC:DS:=(cW (aN7 (jC (aR gtI (aR ixD (aG 0) (dC (.int 0))) (dC (.int 0)))) (cW (eU 2 (aR aR9 (aR ixD (aG 0) (dC (.int 0))) (aG 1)))
 (cW (bY9 0 (dC (.int 0)) (aR cL8 (aR ixD (aG 0) (dC (.int 0))) (aG 1)))
 (kQ (aG 2)))) oQ)
 (cW (eU 3 (aR aR9 (aR aD9 (aR ixD (aG 0) (dC (.int 1))) (dC (.int 69623))) (dC (.int 2147483647))))
 (cW (bY9 0 (dC (.int 1)) (aR jG (aR aR9 (aR jG (aR aD9 (aG 3) (dC (.int 48271))) (dC (.int 30103))) (dC (.int 2147483629))) (dC (.int 1))))
 (kQ (aR aR9 (aR cL8 (aR jG (aR aD9 (aG 3) (dC (.int 2147483647))) (aR ixD (aG 0) (dC (.int 1)))) (dC (.int 8191))) (aG 1))))))
noncomputable def aK:Dv.Run:=oU 4 fC
noncomputable def dU:DS:=(cW (eU 2 (dC (.str "abcdefghijklmnopqrstuvwxyz")))
 (cW (eU 3 (aU7 (aX2 "") (fG [12] (bY3 (aD (aW 2 aK (aD (aG 0) (aD (dC (.int 5)) aX))) aX)) (dgN 12) oR (aR ixD (aG 2) (aW 2 aK (aD (aG 0) (aD (dC (.int 26)) aX)))))))
 (cW (eU 4 (aW 2 aK (aD (aG 0) (aD (aR jG (dCB aO0 (aD (aG 3) aX)) (dC (.int 1))) aX))))
 (cW (eU 5 (aW 2 aK (aD (aG 0) (aD (dC (.int 26)) aX))))
 (cW (eU 6 (aW 2 aK (aD (aG 0) (aD (dC (.int 4)) aX))))
 (cW (aN7 (jC (aR (eqD false) (aG 6) (dC (.int 2)))) (cW (cL4 (bS7 3 (yR (dgN 7) (yR (dgN 8) (yR (dgN 9) bG2)))) (dFz (dSl (dSl (aG 2) (dP (aW 2 aK (aD (aG 0) (aD (dC (.int 24)) aX)))) bC2) bC2 (dP (dC (.int 3))))))
 (cW (eU 10 (aB4 (aD (dFz (aG 7)) (aD (dFz (aR jG (aG 7) (aG 8))) (aD (dFz (aG 8)) (aD (dFz (aR jG (aG 8) (aG 9))) aX))))))
 (kQ (dSl (aR jG (aG 10) (aB4 (aD (dFz (aG 9)) (aD (dFz (aR jG (aG 7) (aG 9))) (aD (dFz (aR jG (aR jG (aG 7) (aG 8)) (aG 9))) (aD (dFz (aR jG (aG 9) (aG 8))) aX)))))) bC2 (dP (aG 1)))))) oQ)
 (cW (eU 11 (aB4 aX))
 (cW (bC1 (bY3 (aD (aG 1) aX)) (dgN 12)
 (cW (eU 13 (aR jG (aR jG (dSl (aG 3) bC2 (dP (aG 4))) (aR ixD (aG 2) (aR aR9 (aR jG (aG 5) (aR aD9 (dC (.int 5)) (aG 12))) (dC (.int 26))))) (dSl (aG 3) (dP (aG 4)) bC2)))
 (aD1 (yP "list" 11 bY8 (aD (dFz (aR jG (aG 13) (aR aD9 (dC (.str "z")) (dCB bY7 (aD (yN (aR (eqD false) (aG 6) (dC (.int 1))) (aR (eqD false) (aR aR9 (aG 12) (dC (.int 2))) (dC (.int 1)))) aX))))) aX)))))
 (cW (eU 14 (aB4 (aD (dC (.str "table")) (aD (dC (.str "tree")) (aD (dC (.str "none")) (aD (dC (.str "answer")) (aD (dC (.str "levels")) (aD (dC (.str "looks")) aX))))))))
 (cW (eU 14 (aR jG (aG 14) (aB4 (aD (dC (.str "at")) (aD (dC (.str "count")) (aD (dC (.str "ears")) (aD (dC (.str "cover")) (aD (dC (.str "place")) aX))))))))
 (cW (eU 13 (aR ixD (aG 14) (aW 2 aK (aD (aG 0) (aD (dC (.int 11)) aX)))))
 (cW (aN7 (cL3 (jC (aR (eqD false) (aW 2 aK (aD (aG 0) (aD (dC (.int 4)) aX))) (dC (.int 0)))) (jC (aR (inD true) (aG 13) (aG 11)))) (bY9 11 (aW 2 aK (aD (aG 0) (aD (aG 1) aX))) (dFz (aG 13))) oQ)
 (kQ (aG 11))))))))))))))
noncomputable def cY:Dv.Run:=oU 15 dU
noncomputable def dW:DS:=(cW (eU 2 (dCB aW4 (aD (aG 1) aX)))
 (cW (eU 3 (aB4 aX))
 (cW (aI8 (jC (aR gtI (dCB aO0 (aD (aG 2) aX)) (dC (.int 0))))
 (aD1 (yP "list" 3 bY8 (aD (dFz (yP "list" 2 yV (aD (dFz (aW 2 aK (aD (aG 0) (aD (dCB aO0 (aD (aG 2) aX)) aX)))) aX))) aX))))
 (kQ (aG 3)))))
noncomputable def cZ:Dv.Run:=oU 4 dW
noncomputable def fD:DS:=(cW (eU 3 (aR ixD (aB4 (aD (dC (.int 2)) (aD (dC (.int 3)) (aD (dC (.int 10)) (aD (dC (.int 1000)) aX))))) (aW 2 aK (aD (aG 0) (aD (dC (.int 4)) aX)))))
 (cW (eU 4 (aW 2 aK (aD (aG 0) (aD (aR ixD (aB4 (aD (dFz (aR jG (aG 2) (dC (.int 1)))) (aD (dC (.int 6)) aX))) (aW 2 aK (aD (aG 0) (aD (dC (.int 2)) aX)))) aX))))
 (kQ (dCB yU (aD (dCB dM (aD (fG [5] (bY3 (aD (aG 4) aX)) (dgN 5) oR (dCB yU (aD (fG [6] (dIt (aG 1)) (dgN 6) oR (dFz (aW 2 aK (aD (aG 0) (aD (aG 3) aX))))) aX))) aX)) aX)))))
noncomputable def dZ:Dv.Run:=oU 7 fD
noncomputable def eA:DS:=(cW (eU 3 (dCB yU (aD (dSl (aW 2 cZ (aD (aG 0) (aD (aG 1) aX))) bC2 (dP (aW 2 aK (aD (aG 0) (aD (aR jG (dCB aO0 (aD (aG 1) aX)) (dC (.int 1))) aX))))) aX)))
 (kQ (bS5 (aD (dFz (aG 3)) (aD (dFz (aW 3 dZ (aD (aG 0) (aD (aG 3) (aD (aG 2) aX))))) aX)))))
noncomputable def cG:Dv.Run:=oU 4 eA
noncomputable def iM:DS:=(kQ (dCB yU (aD (fG [3] (dIt (aG 2)) (dgN 3) oR (aR ixD (aG 1) (dMT cJ3 (aG 0) (aG 3)))) aX)))
noncomputable def bY:Dv.Run:=oU 4 iM
noncomputable def dA:DS:=(cW (eU 2 (fG [7] (dIt (aR ixD (aG 0) (dC (.int 0)))) (dgN 7) (jC (aR (inD false) (aG 7) (aR ixD (aG 1) (dC (.int 0))))) (dFz (aG 7))))
 (cW (eU 3 (fG [7] (dIt (aR ixD (aG 1) (dC (.int 0)))) (dgN 7) (jC (aR (inD true) (aG 7) (aR ixD (aG 0) (dC (.int 0))))) (dFz (aG 7))))
 (cW (eU 4 (aB4 aX))
 (cW (bC1 (dIt (aR ixD (aG 0) (dC (.int 1)))) (dgN 5)
 (bC1 (dIt (aR ixD (aG 1) (dC (.int 1)))) (dgN 6)
 (aN7 (jC (aR (eqD false) (aW 3 bY (aD (aR ixD (aG 0) (dC (.int 0))) (aD (aG 5) (aD (aG 2) aX)))) (aW 3 bY (aD (aR ixD (aG 1) (dC (.int 0))) (aD (aG 6) (aD (aG 2) aX)))))) (aD1 (yP "list" 4 bY8 (aD (dFz (aR jG (aG 5) (aW 3 bY (aD (aR ixD (aG 1) (dC (.int 0))) (aD (aG 6) (aD (aG 3) aX)))))) aX))) oQ)))
 (kQ (bS5 (aD (aR jG (aR ixD (aG 0) (dC (.int 0))) (dCB yU (aD (aG 3) aX))) (aD (dCB yU (aD (dCB dM (aD (aG 4) aX)) aX)) aX))))))))
noncomputable def cJ:Dv.Run:=oU 8 dA
noncomputable def eB:DS:=(kQ (yN (aU7 (aW5 "int") (aG 0)) (bF6 (aU7 (aW5 "bool") (aG 0)))))
noncomputable def dB:Dv.Run:=oU 1 eB
noncomputable def cD:DS:=(cW (aN7 (dOr (bC0 (jC (aU7 (aW5 "tuple") (aG 0)))) (dOr (jC (aR (eqD true) (dCB aO0 (aD (aG 0) aX)) (dC (.int 2)))) (bC0 (jC (aU7 (aW5 "tuple") (aR ixD (aG 0) (dC (.int 1)))))))) (kQ (dC (.bl false))) oQ)
 (cW (bC1 (dIt (aR ixD (aG 0) (dC (.int 1)))) (dgN 3)
 (aN7 (dOr (bC0 (jC (aU7 (aW5 "tuple") (aG 3)))) (bC0 (jC (dCB cL5 (aD (fG [4] (dIt (aG 3)) (dgN 4) oR (dFz (aW 1 dB (aD (aG 4) aX)))) aX))))) (kQ (dC (.bl false))) oQ))
 (kQ (yN (aR (eqD false) (aR ixD (aG 0) (dC (.int 0))) (dCB yU (aD (aG 1) aX))) (aR (eqD false) (aR ixD (aG 0) (dC (.int 1))) (dCB yU (aD (dCB dM (aD (aG 2) aX)) aX)))))))
noncomputable def aV:Dv.Run:=oU 5 cD
noncomputable def bR:DS:=(kQ (fG [2] (dIt (aR ixD (aG 0) (dC (.int 0)))) (dgN 2) (jC (aR (inD false) (aG 2) (aR ixD (aG 1) (dC (.int 0))))) (dFz (aG 2))))
noncomputable def aT:Dv.Run:=oU 3 bR
noncomputable def iN:DS:=(kQ (dCB yU (aD (fG [2] (dIt (aG 1)) (dgN 2) oR (aR ixD (aG 0) (aG 2))) aX)))
noncomputable def bZ:Dv.Run:=oU 3 iN
noncomputable def eC:DS:=(kQ (fG [2] (dIt (aG 1)) (dgN 2) oR (dFz (dMT cJ3 (aG 0) (aG 2)))))
noncomputable def bA:Dv.Run:=oU 3 eC
noncomputable def gD:DS:=(cW (eU 3 (aW 2 bA (aD (aR ixD (aG 0) (dC (.int 0))) (aD (aG 1) aX))))
 (cW (eU 4 (aW 2 bA (aD (aR ixD (aG 0) (dC (.int 0))) (aD (aG 2) aX))))
 (bZ2 5 6 (dIt (aR ixD (aG 0) (dC (.int 1)))) (aW 2 bZ (aD (aG 6) (aD (aG 3) aX))) (aD (dFz (aW 2 bZ (aD (aG 6) (aD (aG 4) aX)))) aX))))
noncomputable def cP:Dv.Run:=oU 7 gD
noncomputable def fE:DS:=(kQ (bS5 (aD (dCB yU (aD (aG 0) aX)) (aD (dCB yU (aD (dCB dM (aD (aG 1) aX)) aX)) aX))))
noncomputable def eE:Dv.Run:=oU 2 fE
noncomputable def iO:DS:=(cW (eU 2 (aW 2 aT (aD (aG 0) (aD (aG 1) aX))))
 (cW (eU 3 (fG [8] (dIt (aR ixD (aG 1) (dC (.int 0)))) (dgN 8) (jC (aR (inD true) (aG 8) (aR ixD (aG 0) (dC (.int 0))))) (dFz (aG 8))))
 (cW (eU 4 (aW 3 cP (aD (aG 1) (aD (aG 2) (aD (aG 3) aX)))))
 (cW (eU 5 (aW 2 bA (aD (aR ixD (aG 0) (dC (.int 0))) (aD (aG 2) aX))))
 (cW (eU 6 (aB4 aX))
 (cW (bC1 (dIt (aR ixD (aG 0) (dC (.int 1)))) (dgN 7)
 (aD1 (aV3 "list" 6 cL6 (aD (fG [9] (dIt (aZ8 (aG 4) (aW 2 bZ (aD (aG 7) (aD (aG 5) aX))) (aB4 aX))) (dgN 9) oR (dFz (aR jG (aG 7) (aG 9)))) aX))))
 (kQ (aW 2 eE (aD (aR jG (aR ixD (aG 0) (dC (.int 0))) (dCB yU (aD (aG 3) aX))) (aD (aG 6) aX))))))))))
noncomputable def dJ:Dv.Run:=oU 10 iO
noncomputable def fF:DS:=(cW (eU 2 (fG [4] (dIt (aR ixD (aG 0) (dC (.int 0)))) (dgN 4) (jC (aR (inD false) (aG 4) (aR ixD (aG 1) (dC (.int 0))))) (dFz (aG 4))))
 (cW (eU 3 (fG [5] (dIt (aR ixD (aG 1) (dC (.int 1)))) (dgN 5) oR (dFz (aW 3 bY (aD (aR ixD (aG 1) (dC (.int 0))) (aD (aG 5) (aD (aG 2) aX)))))))
 (kQ (fG [5] (dIt (aR ixD (aG 0) (dC (.int 1)))) (dgN 5) (jC (aR (inD false) (aW 3 bY (aD (aR ixD (aG 0) (dC (.int 0))) (aD (aG 5) (aD (aG 2) aX)))) (aG 3))) (dFz (aG 5))))))
noncomputable def eF:Dv.Run:=oU 6 fF
noncomputable def dD:DS:=(cW (eU 2 (aW 2 aT (aD (aG 0) (aD (aG 1) aX))))
 (cW (eU 3 (aW 3 cP (aD (aG 1) (aD (aG 2) (aD (aB4 aX) aX)))))
 (cW (eU 4 (aW 2 bA (aD (aR ixD (aG 0) (dC (.int 0))) (aD (aG 2) aX))))
 (kQ (bS5 (aD (aR ixD (aG 0) (dC (.int 0))) (aD (dCB yU (aD (fG [5] (dIt (aR ixD (aG 0) (dC (.int 1)))) (dgN 5) (jC (aR inT (aW 2 bZ (aD (aG 5) (aD (aG 4) aX))) (aG 3))) (dFz (aG 5))) aX)) aX)))))))
noncomputable def bN:Dv.Run:=oU 6 dD
noncomputable def eG:DS:=(cW (eU 2 (aW 2 cJ (aD (aG 0) (aD (aG 1) aX))))
 (cW (aN7 (bC0 (jC (aW 3 aV (aD (aW 2 dJ (aD (aG 0) (aD (aG 1) aX))) (aD (aR ixD (aG 2) (dC (.int 0))) (aD (aR ixD (aG 2) (dC (.int 1))) aX)))))) (kQ (dC (.bl false))) oQ)
 (kQ (aW 3 aV (aD (aW 2 bN (aD (aG 0) (aD (aG 1) aX))) (aD (aR ixD (aG 0) (dC (.int 0))) (aD (aW 2 eF (aD (aG 0) (aD (aG 1) aX))) aX)))))))
noncomputable def bV:Dv.Run:=oU 3 eG
noncomputable def aA0:DS:=(cW (eU 1 (aW 2 cO (aD (aG 0) (aD (dC (.int 0)) aX))))
 (cW (eU 2 (aW 2 cY (aD (aG 1) (aD (dC (.int 7)) aX))))
 (cW (eU 3 (aW 3 cG (aD (aW 2 cO (aD (aG 0) (aD (dC (.int 1)) aX))) (aD (dSl (aG 2) bC2 (dP (dC (.int 6)))) (aD (dC (.int 60)) aX)))))
 (cW (eU 4 (aW 3 cG (aD (aW 2 cO (aD (aG 0) (aD (dC (.int 2)) aX))) (aD (dSl (aG 2) (dP (dC (.int 1))) bC2) (aD (dC (.int 60)) aX)))))
 (cW (aN7 (dOr (bC0 (jC (aW 2 bV (aD (aG 3) (aD (aG 4) aX))))) (bC0 (jC (aW 2 bV (aD (aG 4) (aD (aG 3) aX)))))) (kQ (dC (.bl false))) oQ)
 (kQ (yN (aR (eqD false) (aW 2 dJ (aD (aG 3) (aD (aG 3) aX))) (aG 3)) (yN (aR (eqD false) (aW 2 bN (aD (aG 3) (aD (aG 3) aX))) (aG 3)) (aW 2 bV (aD (aG 3) (aD (aG 4) aX)))))))))))
noncomputable def mR:Dv.Run:=oU 5 aA0
section
variable{P:Program}{w:World}{K:W.Frag}{mg:Str->Option Value}{base:Heap}{a:Adr}
def aR3(T:Txt K mg a):FnOk P w K mg base CX0 1 a.a2j a.a1w ["_law_script","_law_k"] (dsp 2 cO):=by
 refine bP T.a1q vW (by decide) gC (λcdv A outer s H E b=>?_);have nd:=vW.nd;unfold gC;exact(aF (aN (i:=2) nd rfl (Or.inl rfl) (aO bC bD (aO fS fT ge_int (aC (pv 1))) ge_int))
  (aF (qC (eM (cI2 b.units0) bW1 (aC (pv 1)) (cV iE (λΓ=>cA dO (by rfl) T.a2n fK (gA (aA (aC (pv 0)) aE) Γ))) (eY _)) (aP (aN (i:=2) nd rfl (Or.inl rfl) (bI (aC (pv 0)) (aC (pv 1)) (λ_ _=>rfl)))) (aP (qC (eM bP3 aD7 (cV iE (λΓ=>cA dO (by rfl) T.a2n fK (gA (aA (aC (pv 0)) aE) Γ))) ge_int (eY _)) (aP (aN (i:=2) nd rfl (Or.inl rfl) (aO bC bD (aC (pv 2)) (aO fS fT (aO jE fR (bI (aC (pv 0)) (aO jE fR (aC (pv 1)) (cV iE (λΓ=>cA dO (by rfl) T.a2n fK (gA (aA (aC (pv 0)) aE) Γ)))) (λ_ _=>rfl)) ge_int) ge_int)))) gH)))
  (aF (aN (i:=3) nd rfl (Or.inl rfl) (aO bC bD (aO jE fR (aO bC bD (aO fS fT (aO jE fR (aC (pv 2)) ge_int) ge_int) (aO fS fT ge_int (aC (pv 1)))) ge_int) ge_int))
  (aP (bX (fW (aA (cI (aO fS fT (aC (pv 2)) (cV aW3 (λΓ=>bG yC (by rfl) T.a2y xC (gA (aA (oN cN4 bT6 (aC (pv 2)) (aO cC8 bT5 ge_int ge_int) (eY _)) aE) Γ))))) (aA (cI (aC (pv 3))) aE))))))))
def aG2(T:Txt K mg a):FnOk P w K mg base CX0 1 a.a1l a.a0w ["_law_box_here","_law_many"] (dsp 2 aK):=by
 refine bP T.a0m pF (by decide) fC (λcdv A outer s H E b=>?_);have nd:=pF.nd;unfold fC;exact(aF (qC (eM bP3 aD7 (bI (aC (pv 0)) ge_int (λ_ _=>rfl)) ge_int (eY _)) (aF (aN (i:=2) nd rfl (Or.inl rfl) (aO jE fR (bI (aC (pv 0)) ge_int (λ_ _=>rfl)) (aC (pv 1))))
  (aF (aW7 (k:=0) (λΓ=>aH4 (gE (aO aJ1 aW8 (bI (aC (pv 0)) ge_int (λ_ _=>rfl)) (aC (pv 1))) Γ) (aS5 (pv 0) (gE ge_int Γ) wM)))
  (aP (bX (aC (pv 2)))))) gH)
  (aF (aN (i:=3) nd rfl (Or.inl rfl) (aO jE fR (aO fS fT (bI (aC (pv 0)) ge_int (λ_ _=>rfl)) ge_int) ge_int))
  (aF (aW7 (k:=0) (λΓ=>aH4 (gE (aO bC bD (aO jE fR (aO bC bD (aO fS fT (aC (pv 3)) ge_int) ge_int) ge_int) ge_int) Γ) (aS5 (pv 0) (gE ge_int Γ) wM)))
  (aP (bX (aO jE fR (aO aJ1 aW8 (aO bC bD (aO fS fT (aC (pv 3)) ge_int) (bI (aC (pv 0)) ge_int (λ_ _=>rfl))) ge_int) (aC (pv 1))))))))
def aA1(T:Txt K mg a)(b:FnOk P w K mg base CX0 1 a.a1l a.a0w ["_law_box_here","_law_many"] (dsp 2 aK)):FnOk P w K mg base CX0 2 a.a1H a.a0M ["_law_box_here","_law_many"] (dsp 2 cY):=by
 refine bP T.a1B nD (by decide) dU (λcdv A outer s H E c=>?_);have nd:=nD.nd;unfold dU;exact(aF (aN (i:=2) nd rfl (Or.inr rfl) fV)
  (aF (aN (i:=3) nd rfl (Or.inl rfl) (bU6 (sep:="") K (λΓ=>oM K (by rfl) F.plainAttrs_str F.slot_str_join F.type_str_join (bH0 K (by rfl)) bK2 (gA (aA (dG (ow:=[12]) (bJ (by decide)) (λΓ=>dF (csc [12] (by kernel_rfl)) (gI (aD3 (λΓ=>oB (by rfl) T.a2r (gA (aA (aI (λΓ=>aH b (c.mono (by decide)) (by rfl) T.a0n T.a0m.kp (aY T) .nil bB (gA (aA (aC (pv 0)) (aA ge_int aE)) Γ))) aE) Γ)) bG3) Γ) (λ_ _ _ _=>(bF (i:=12) nd rfl (Or.inl rfl) (.inr rfl))) (bH (by decide)) (λ_ _ _ _=>eR) (λ_ _ _ _=>gE (bI (aC (pv 2)) (aI (λΓ=>aH b (c.mono (by decide)) (by rfl) T.a0n T.a0m.kp (aY T) .nil bB (gA (aA (aC (pv 0)) (aA ge_int aE)) Γ))) (λ_ _=>rfl)) Γ))) aE) Γ))))
  (aF (aN (i:=4) nd rfl (Or.inl rfl) (aI (λΓ=>aH b (c.mono (by decide)) (by rfl) T.a0n T.a0m.kp (aY T) .nil bB (gA (aA (aC (pv 0)) (aA (aO bC bD (cV iE (λΓ=>cA dO (by rfl) T.a2n fK (gA (aA (aC (pv 3)) aE) Γ))) ge_int) aE)) Γ))))
  (aF (aN (i:=5) nd rfl (Or.inl rfl) (aI (λΓ=>aH b (c.mono (by decide)) (by rfl) T.a0n T.a0m.kp (aY T) .nil bB (gA (aA (aC (pv 0)) (aA ge_int aE)) Γ))))
  (aF (aN (i:=6) nd rfl (Or.inl rfl) (aI (λΓ=>aH b (c.mono (by decide)) (by rfl) T.a0n T.a0m.kp (aY T) .nil bB (gA (aA (aC (pv 0)) (aA ge_int aE)) Γ))))
  (aF (qC (eM (jX c.units) (jH (neg:=false)) (aC (pv 6)) ge_int (eY _)) (aF (cF8 (own:=[7,8,9]) (cF7 (wW (bJ (by decide)) (wW (bJ (by decide)) (wW (bJ (by decide)) bS8)))) (λΓ=>aH4 (gE (cI (fH (fH (aC (pv 2)) (iG (aI (λΓ=>aH b (c.mono (by decide)) (by rfl) T.a0n T.a0m.kp (aY T) .nil bB (gA (aA (aC (pv 0)) (aA ge_int aE)) Γ)))) iF) iF (iG ge_int))) Γ) (bE9 (n:=3) K rfl rfl (wJ (bF (i:=7) nd rfl (Or.inl rfl)) (wJ (bF (i:=8) nd rfl (Or.inl rfl)) (wJ (bF (i:=9) nd rfl (Or.inl rfl)) bP1))))))
  (aF (aN (i:=10) nd rfl (Or.inl rfl) (fW (aA (cI (aC (pv 7))) (aA (cI (aO bC bD (aC (pv 7)) (aC (pv 8)))) (aA (cI (aC (pv 8))) (aA (cI (aO bC bD (aC (pv 8)) (aC (pv 9)))) aE))))))
  (aP (bX (fH (aO bC bD (aC (pv 10)) (fW (aA (cI (aC (pv 9))) (aA (cI (aO bC bD (aC (pv 7)) (aC (pv 9)))) (aA (cI (aO bC bD (aO bC bD (aC (pv 7)) (aC (pv 8))) (aC (pv 9)))) (aA (cI (aO bC bD (aC (pv 9)) (aC (pv 8)))) aE)))))) iF (iG (aC (pv 1)))))))) gH)
  (aF (aN (i:=11) nd rfl (Or.inl rfl) (fW aE))
  (aF (yS (own:=[12]) (bJ (by decide)) (λΓ=>qL a6h rfl (gI (aD3 (λΓ=>oB (by rfl) T.a2r (gA (aA (aC (pv 1)) aE) Γ)) bG3) Γ) (bF (i:=12) nd rfl (Or.inl rfl))
  (gSs (aF (aN (i:=13) nd rfl (Or.inl rfl) (aO bC bD (aO bC bD (fH (aC (pv 3)) iF (iG (aC (pv 4)))) (bI (aC (pv 2)) (aO jE fR (aO bC bD (aC (pv 5)) (aO fS fT ge_int (aC (pv 12)))) ge_int) (λ_ _=>rfl))) (fH (aC (pv 3)) (iG (aC (pv 4))) iF)))
  (aP (wV (wU aE0 (λΓ=>oM K (by rfl) a7f a7h a8h jQ (pv 11) (gA (aA (cI (aO bC bD (aC (pv 13)) (aO fS fT fV (cV aW3 (λΓ=>bG yC (by rfl) T.a2y xC (gA (aA (yO (oN (jX c.units) (jH (neg:=false)) (aC (pv 6)) ge_int (eY _)) (aI3 (oN (jX c.units) (jH (neg:=false)) (aO jE fR (aC (pv 12)) ge_int) ge_int (eY _)))) aE) Γ)))))) aE) Γ)))))) Γ)))
  (aF (aN (i:=14) nd rfl (Or.inl rfl) (fW (aA fV (aA fV (aA fV (aA fV (aA fV (aA fV aE))))))))
  (aF (aN (i:=14) nd rfl (Or.inl rfl) (aO bC bD (aC (pv 14)) (fW (aA fV (aA fV (aA fV (aA fV (aA fV aE))))))))
  (aF (aN (i:=13) nd rfl (Or.inl rfl) (bI (aC (pv 14)) (aI (λΓ=>aH b (c.mono (by decide)) (by rfl) T.a0n T.a0m.kp (aY T) .nil bB (gA (aA (aC (pv 0)) (aA ge_int aE)) Γ))) (λ_ _=>rfl)))
  (aF (qC (GW.gt (cF3 (eM (jX c.units) (jH (neg:=false)) (aI (λΓ=>aH b (c.mono (by decide)) (by rfl) T.a0n T.a0m.kp (aY T) .nil bB (gA (aA (aC (pv 0)) (aA ge_int aE)) Γ))) ge_int (eY _)) (bS4 (eM (oW c.units) (oX (neg:=true)) (aC (pv 13)) (aC (pv 11)) (by with_unfolding_all rfl))))) (aP (aW7 (k:=11) (λΓ=>aH4 (gE (cI (aC (pv 13))) Γ) (aS5 (pv 11) (gE (aI (λΓ=>aH b (c.mono (by decide)) (by rfl) T.a0n T.a0m.kp (aY T) .nil bB (gA (aA (aC (pv 0)) (aA (aC (pv 1)) aE)) Γ))) Γ) wM)))) gH)
  (aP (bX (aC (pv 11))))))))))))))))
def aA2(T:Txt K mg a)(b:FnOk P w K mg base CX0 1 a.a1l a.a0w ["_law_box_here","_law_many"] (dsp 2 aK)):FnOk P w K mg base CX0 2 a.a1J a.a0K ["_law_box_here","_law_things"] (dsp 2 cZ):=by
 refine bP T.a1C nE (by decide) dW (λcdv A outer s H E c=>?_);have nd:=nE.nd;unfold dW;exact(aF (aN (i:=2) nd rfl (Or.inl rfl) (cV bG7 (λΓ=>bG aN5 (by rfl) T.a2A aX4 (gA (aA (aC (pv 1)) aE) Γ))))
  (aF (aN (i:=3) nd rfl (Or.inl rfl) (fW aE))
  (aF (bG6 (λΓ=>bC6 a6h (gT (eM bP3 aD7 (cV iE (λΓ=>cA dO (by rfl) T.a2n fK (gA (aA (aC (pv 2)) aE) Γ))) ge_int (eY _)) Γ)
  (gSs (aP (wV (wU aE0 (λΓ=>oM K (by rfl) a7f a7h a8h jQ (pv 3) (gA (aA (cI (wU aW6 (λΓ=>oM K (by rfl) a7f F.slot_list_pop F.type_list_pop bD3 (pv 2) (gA (aA (cI (aI (λΓ=>aH b (c.mono (by decide)) (by rfl) T.a0n T.a0m.kp (aY T) .nil bB (gA (aA (aC (pv 0)) (aA (cV iE (λΓ=>cA dO (by rfl) T.a2n fK (gA (aA (aC (pv 2)) aE) Γ))) aE)) Γ)))) aE) Γ)))) aE) Γ))))) Γ)))
  (aP (bX (aC (pv 3)))))))
def aG3(T:Txt K mg a)(b:FnOk P w K mg base CX0 1 a.a1l a.a0w ["_law_box_here","_law_many"] (dsp 2 aK)):FnOk P w K mg base CX0 2 a.a1T a.a1k ["_law_box_here","_law_columns","_law_ceiling"] (dsp 3 dZ):=by
 refine bP T.a1M pG (by decide) fD (λcdv A outer s H E c=>?_);have nd:=pG.nd;unfold fD;exact(aF (aN (i:=3) nd rfl (Or.inr rfl) (bI (fW (aA ge_int (aA ge_int (aA ge_int (aA ge_int aE))))) (aI (λΓ=>aH b (c.mono (by decide)) (by rfl) T.a0n T.a0m.kp (aY T) .nil bB (gA (aA (aC (pv 0)) (aA ge_int aE)) Γ))) (λ_ _=>rfl)))
  (aF (aN (i:=4) nd rfl (Or.inl rfl) (aI (λΓ=>aH b (c.mono (by decide)) (by rfl) T.a0n T.a0m.kp (aY T) .nil bB (gA (aA (aC (pv 0)) (aA (bI (fW (aA (cI (aO bC bD (aC (pv 2)) ge_int)) (aA ge_int aE))) (aI (λΓ=>aH b (c.mono (by decide)) (by rfl) T.a0n T.a0m.kp (aY T) .nil bB (gA (aA (aC (pv 0)) (aA ge_int aE)) Γ))) (λ_ _=>rfl)) aE)) Γ))))
  (aP (bX (cV dH (λΓ=>bG bO (by rfl) T.a0t aU (gA (aA (cV fN (λΓ=>nV (id:="sorted") (U:="set") (eT rfl (aK9 c)) (by rfl) T.a1X gK (by rfl) T.a2w nR (gA (aA (dG (ow:=[5]) (bJ (by decide)) (λΓ=>dF (csc [5] (by kernel_rfl)) (gI (aD3 (λΓ=>oB (by rfl) T.a2r (gA (aA (aC (pv 4)) aE) Γ)) bG3) Γ) (λ_ _ _ _=>(bF (i:=5) nd rfl (Or.inl rfl) (.inr rfl))) (bH (by decide)) (λ_ _ _ _=>eR) (λ_ _ _ _=>gE (cV dH (λΓ=>bG bO (by rfl) T.a0t aU (gA (aA (dG (ow:=[6]) (bJ (by decide)) (λΓ=>dF (csc [6] (by kernel_rfl)) (gI (cX K (by rfl) (aC (pv 1))) Γ) (λ_ _ _ _=>(bF (i:=6) nd rfl (Or.inl rfl) (.inr rfl))) (bH (by decide)) (λ_ _ _ _=>eR) (λ_ _ _ _=>gE (cI (aI (λΓ=>aH b (c.mono (by decide)) (by rfl) T.a0n T.a0m.kp (aY T) .nil bB (gA (aA (aC (pv 0)) (aA (aC (pv 3)) aE)) Γ)))) Γ))) aE) Γ))) Γ))) aE) Γ))) aE) Γ)))))))
def aA3(T:Txt K mg a)(b:FnOk P w K mg base CX0 2 a.a1J a.a0K ["_law_box_here","_law_things"] (dsp 2 cZ))(c:FnOk P w K mg base CX0 1 a.a1l a.a0w ["_law_box_here","_law_many"] (dsp 2 aK))(d:FnOk P w K mg base CX0 2 a.a1T a.a1k ["_law_box_here","_law_columns","_law_ceiling"] (dsp 3 dZ)):FnOk P w K mg base CX0 3 a.a1F a.a0P ["_law_box_here","_law_names_here","_law_ceiling"] (dsp 3 cG):=by
 refine bP T.a0Z nF (by decide) eA (λcdv A outer s H E e=>?_);have nd:=nF.nd;unfold eA;exact(aF (aN (i:=3) nd rfl (Or.inl rfl) (cV dH (λΓ=>bG bO (by rfl) T.a0t aU (gA (aA (fH (aI (λΓ=>aH b (e.mono (by decide)) (by rfl) T.a2q T.a1C.kp (aE3 T) .nil bB (gA (aA (aC (pv 0)) (aA (aC (pv 1)) aE)) Γ))) iF (iG (aI (λΓ=>aH c (e.mono (by decide)) (by rfl) T.a0n T.a0m.kp (aY T) .nil bB (gA (aA (aC (pv 0)) (aA (aO bC bD (cV iE (λΓ=>cA dO (by rfl) T.a2n fK (gA (aA (aC (pv 1)) aE) Γ))) ge_int) aE)) Γ))))) aE) Γ))))
  (aP (bX (aI4 (aA (cI (aC (pv 3))) (aA (cI (aI (λΓ=>aH d (e.mono (by decide)) (by rfl) T.a2u T.a1M.kp (aP7 T) .nil bB (gA (aA (aC (pv 0)) (aA (aC (pv 3)) (aA (aC (pv 2)) aE))) Γ)))) aE))))))
def bA0(T:Txt K mg a):FnOk P w K mg base CX0 1 a.a2l a.a1p ["_law_columns","_law_row","_law_some"] (dsp 3 bY):=by
 refine bP T.a0W zE (by decide) iM (λcdv A outer s H E b=>?_);have nd:=zE.nd;unfold iM;exact(aP (bX (cV dH (λΓ=>bG bO (by rfl) T.a0t aU (gA (aA (dG (ow:=[3]) (bJ (by decide)) (λΓ=>dF (csc [3] (by kernel_rfl)) (gI (cX K (by rfl) (aC (pv 2))) Γ) (λ_ _ _ _=>(bF (i:=3) nd rfl (Or.inl rfl) (.inr rfl))) (bH (by decide)) (λ_ _ _ _=>eR) (λ_ _ _ _=>gE (bI (aC (pv 1)) (cI3 aL4 (λΓ=>bM6 F.slot_tuple_index F.type_tuple_index zZ (gE (aC (pv 0)) Γ) (gA (aA (aC (pv 3)) aE) Γ))) (λ_ _=>rfl)) Γ))) aE) Γ)))))
def xM(T:Txt K mg a)(b:FnOk P w K mg base CX0 1 a.a2l a.a1p ["_law_columns","_law_row","_law_some"] (dsp 3 bY)):FnOk P w K mg base CX0 2 a.a1u a.a0H ["_law_one","_law_other"] (dsp 2 cJ):=by
 refine bP T.a1s jY (by decide) dA (λcdv A outer s H E c=>?_);have nd:=jY.nd;unfold dA;exact(aF (kY (ow:=[7]) (i:=2) (bJ (by decide)) (λΓ=>kU (i:=2) nd rfl rfl (csc [7] (by kernel_rfl)) (gI (cX K (by rfl) (bI (aC (pv 0)) ge_int (λ_ _=>rfl))) Γ) (λ_ _ _ _=>(bF (i:=7) nd rfl (Or.inl rfl) (.inr rfl))) (bH (by decide)) (λ_ _ _ _=>(gJ (eM (aJ3 c.units) (oX (neg:=false)) (aC (pv 7)) (bI (aC (pv 1)) ge_int (λ_ _=>rfl)) (by with_unfolding_all rfl)))) (λ_ _ _ _=>gE (cI (aC (pv 7))) Γ) rfl))
  (aF (kY (ow:=[7]) (i:=3) (bJ (by decide)) (λΓ=>kU (i:=3) nd rfl rfl (csc [7] (by kernel_rfl)) (gI (cX K (by rfl) (bI (aC (pv 1)) ge_int (λ_ _=>rfl))) Γ) (λ_ _ _ _=>(bF (i:=7) nd rfl (Or.inl rfl) (.inr rfl))) (bH (by decide)) (λ_ _ _ _=>(gJ (eM (oW c.units) (oX (neg:=true)) (aC (pv 7)) (bI (aC (pv 0)) ge_int (λ_ _=>rfl)) (by with_unfolding_all rfl)))) (λ_ _ _ _=>gE (cI (aC (pv 7))) Γ) rfl))
  (aF (aN (i:=4) nd rfl (Or.inl rfl) (fW aE))
  (aF (yS (own:=[5]) (bJ (by decide)) (λΓ=>qL a6h rfl (gI (cX K (by rfl) (bI (aC (pv 0)) ge_int (λ_ _=>rfl))) Γ) (bF (i:=5) nd rfl (Or.inl rfl))
  (gSs (aP (yS (own:=[6]) (bJ (by decide)) (λΓ=>qL a6h rfl (gI (cX K (by rfl) (bI (aC (pv 1)) ge_int (λ_ _=>rfl))) Γ) (bF (i:=6) nd rfl (Or.inl rfl))
  (gSs (aP (qC (eM (jX c.units) (jH (neg:=false)) (aI (λΓ=>aH b (c.mono (by decide)) (by rfl) T.a1L T.a0W.kp (kA T) .nil bB (gA (aA (bI (aC (pv 0)) ge_int (λ_ _=>rfl)) (aA (aC (pv 5)) (aA (aC (pv 2)) aE))) Γ))) (aI (λΓ=>aH b (c.mono (by decide)) (by rfl) T.a1L T.a0W.kp (kA T) .nil bB (gA (aA (bI (aC (pv 1)) ge_int (λ_ _=>rfl)) (aA (aC (pv 6)) (aA (aC (pv 2)) aE))) Γ))) (eY _)) (aP (wV (wU aE0 (λΓ=>oM K (by rfl) a7f a7h a8h jQ (pv 4) (gA (aA (cI (aO bC bD (aC (pv 5)) (aI (λΓ=>aH b (c.mono (by decide)) (by rfl) T.a1L T.a0W.kp (kA T) .nil bB (gA (aA (bI (aC (pv 1)) ge_int (λ_ _=>rfl)) (aA (aC (pv 6)) (aA (aC (pv 3)) aE))) Γ))))) aE) Γ))))) gH)) Γ)))) Γ)))
  (aP (bX (aI4 (aA (aO bC bD (bI (aC (pv 0)) ge_int (λ_ _=>rfl)) (cV dH (λΓ=>bG bO (by rfl) T.a0t aU (gA (aA (aC (pv 3)) aE) Γ)))) (aA (cV dH (λΓ=>bG bO (by rfl) T.a0t aU (gA (aA (cV fN (λΓ=>nV (id:="sorted") (U:="set") (eT rfl (aK9 c)) (by rfl) T.a1X gK (by rfl) T.a2w nR (gA (aA (aC (pv 4)) aE) Γ))) aE) Γ))) aE)))))))))
def aA4(T:Txt K mg a):FnOk P w K mg base CX0 1 a.a1K a.a0O ["_law_found"] (dsp 1 dB):=by
 refine bP T.a1z nG (by decide) eB (λcdv A outer s H E b=>?_);have nd:=nG.nd;unfold eB;exact(aP (bX (yO (yX (c:="int") K (by decide) (λΓ=>cA (iH K (by rfl)) (by rfl) T.a0F cC (eZ (gE (aC (pv 0)) Γ) (eZ (oA (v:=.ty "int") (by rfl) T.a2y xC rfl) oE)))) (aI3 (cF4 (yX (c:="bool") K (by decide) (λΓ=>cA (iH K (by rfl)) (by rfl) T.a0F cC (eZ (gE (aC (pv 0)) Γ) (eZ (oA (v:=.ty "bool") (by rfl) T.a2z aX3 rfl) oE)))))))))
def pU(T:Txt K mg a)(d:FnOk P w K mg base CX0 1 a.a1K a.a0O ["_law_found"] (dsp 1 dB)):FnOk P w K mg base CX0 2 a.a0L a.a0A ["_law_found","_law_columns","_law_rows_here"] (dsp 3 aV):=by
 refine bP T.a0D iI (by decide) cD (λcdv A outer s H E b=>?_);have nd:=iI.nd;unfold cD;exact(aF (qC (GW.gt (bF5 (oP (oO (yX (c:="tuple") K (by decide) (λΓ=>cA (iH K (by rfl)) (by rfl) T.a0F cC (eZ (gE (aC (pv 0)) Γ) (eZ (oA (v:=.ty "tuple") (by rfl) T.a0t aU rfl) oE)))))) (bF5 (eM (cG6 b.units) (jH (neg:=true)) (cV iE (λΓ=>cA dO (by rfl) T.a2n fK (gA (aA (aC (pv 0)) aE) Γ))) ge_int (eY _)) (aU9 (oP (oO (yX (c:="tuple") K (by decide) (λΓ=>cA (iH K (by rfl)) (by rfl) T.a0F cC (eZ (gE (bI (aC (pv 0)) ge_int (λ_ _=>rfl)) Γ) (eZ (oA (v:=.ty "tuple") (by rfl) T.a0t aU rfl) oE)))))))))) (aP (bX bF3)) gH)
  (aF (yS (own:=[3]) (bJ (by decide)) (λΓ=>qL a6h rfl (gI (cX K (by rfl) (bI (aC (pv 0)) ge_int (λ_ _=>rfl))) Γ) (bF (i:=3) nd rfl (Or.inl rfl))
  (gSs (aP (qC (GW.gt (bF5 (oP (oO (yX (c:="tuple") K (by decide) (λΓ=>cA (iH K (by rfl)) (by rfl) T.a0F cC (eZ (gE (aC (pv 3)) Γ) (eZ (oA (v:=.ty "tuple") (by rfl) T.a0t aU rfl) oE)))))) (aU9 (oP (oO (cV bT8 (λΓ=>cA (aW2 K (by rfl) (by rfl)) (by rfl) T.a2E bH1 (gA (aA (dG (ow:=[4]) (bJ (by decide)) (λΓ=>dF (csc [4] (by kernel_rfl)) (gI (cX K (by rfl) (aC (pv 3))) Γ) (λ_ _ _ _=>(bF (i:=4) nd rfl (Or.inl rfl) (.inr rfl))) (bH (by decide)) (λ_ _ _ _=>eR) (λ_ _ _ _=>gE (cI (aI (λΓ=>aH d (b.mono (by decide)) (by rfl) T.a2p T.a1z.kp (aE4 T) .nil bB (gA (aA (aC (pv 4)) aE) Γ)))) Γ))) aE) Γ)))))))) (aP (bX bF3)) gH)) Γ)))
  (aP (bX (yO (oN (jX b.units) (jH (neg:=false)) (bI (aC (pv 0)) ge_int (λ_ _=>rfl)) (cV dH (λΓ=>bG bO (by rfl) T.a0t aU (gA (aA (aC (pv 1)) aE) Γ))) (eY _)) (aI3 (oN (jX b.units) (jH (neg:=false)) (bI (aC (pv 0)) ge_int (λ_ _=>rfl)) (cV dH (λΓ=>bG bO (by rfl) T.a0t aU (gA (aA (cV fN (λΓ=>nV (id:="sorted") (U:="set") (eT rfl (aK9 b)) (by rfl) T.a1X gK (by rfl) T.a2w nR (gA (aA (aC (pv 2)) aE) Γ))) aE) Γ))) (eY _))))))))
def mS(T:Txt K mg a):FnOk P w K mg base CX0 1 a.a0l a.a0s ["one","other"] (dsp 2 aT):=by
 refine bP T.a0v fZ (by decide) bR (λcdv A outer s H E b=>?_);have nd:=fZ.nd;unfold bR;exact(aP (bX (dG (ow:=[2]) (bJ (by decide)) (λΓ=>dF (csc [2] (by kernel_rfl)) (gI (cX K (by rfl) (bI (aC (pv 0)) ge_int (λ_ _=>rfl))) Γ) (λ_ _ _ _=>(bF (i:=2) nd rfl (Or.inl rfl) (.inr rfl))) (bH (by decide)) (λ_ _ _ _=>(gJ (eM (aJ3 b.units) (oX (neg:=false)) (aC (pv 2)) (bI (aC (pv 1)) ge_int (λ_ _=>rfl)) (by with_unfolding_all rfl)))) (λ_ _ _ _=>gE (cI (aC (pv 2))) Γ)))))
def bA1(T:Txt K mg a):FnOk P w K mg base CX0 1 a.picked a.a0R ["row","places"] (dsp 2 bZ):=by
 refine bP T.a1t zF (by decide) iN (λcdv A outer s H E b=>?_);have nd:=zF.nd;unfold iN;exact(aP (bX (cV dH (λΓ=>bG bO (by rfl) T.a0t aU (gA (aA (dG (ow:=[2]) (bJ (by decide)) (λΓ=>dF (csc [2] (by kernel_rfl)) (gI (cX K (by rfl) (aC (pv 1))) Γ) (λ_ _ _ _=>(bF (i:=2) nd rfl (Or.inl rfl) (.inr rfl))) (bH (by decide)) (λ_ _ _ _=>eR) (λ_ _ _ _=>gE (bI (aC (pv 0)) (aC (pv 2)) (λ_ _=>rfl)) Γ))) aE) Γ)))))
def aA5(T:Txt K mg a):FnOk P w K mg base CX0 1 a.a0q a.a0x ["columns","some"] (dsp 2 bA):=by
 refine bP T.a0B nH (by decide) eC (λcdv A outer s H E b=>?_);have nd:=nH.nd;unfold eC;exact(aP (bX (dG (ow:=[2]) (bJ (by decide)) (λΓ=>dF (csc [2] (by kernel_rfl)) (gI (cX K (by rfl) (aC (pv 1))) Γ) (λ_ _ _ _=>(bF (i:=2) nd rfl (Or.inl rfl) (.inr rfl))) (bH (by decide)) (λ_ _ _ _=>eR) (λ_ _ _ _=>gE (cI (cI3 aL4 (λΓ=>bM6 F.slot_tuple_index F.type_tuple_index zZ (gE (aC (pv 0)) Γ) (gA (aA (aC (pv 2)) aE) Γ)))) Γ)))))
def aR4(T:Txt K mg a)(b:FnOk P w K mg base CX0 1 a.picked a.a0R ["row","places"] (dsp 2 bZ))(c:FnOk P w K mg base CX0 1 a.a0q a.a0x ["columns","some"] (dsp 2 bA)):FnOk P w K mg base CX0 2 a.grouped a.a0T ["table","columns","others"] (dsp 3 cP):=by
 refine bP T.a1G vX (by decide) gD (λcdv A outer s H E d=>?_);have nd:=vX.nd;unfold gD;exact(aF (aN (i:=3) nd rfl (Or.inl rfl) (aI (λΓ=>aH c (d.mono (by decide)) (by rfl) T.a0Y T.a0B.kp (gM T) .nil bB (gA (aA (bI (aC (pv 0)) ge_int (λ_ _=>rfl)) (aA (aC (pv 1)) aE)) Γ))))
  (aF (aN (i:=4) nd rfl (Or.inl rfl) (aI (λΓ=>aH c (d.mono (by decide)) (by rfl) T.a0Y T.a0B.kp (gM T) .nil bB (gA (aA (bI (aC (pv 0)) ge_int (λ_ _=>rfl)) (aA (aC (pv 2)) aE)) Γ))))
  (bW4 (K:=K) (g:=5) (row:=6) (by decide) (bK4 (i:=5) nd rfl (Or.inl rfl) bF1) (λΓ=>qL a6h rfl (gI (cX K (by rfl) (bI (aC (pv 0)) ge_int (λ_ _=>rfl))) Γ) (bF (i:=6) nd rfl (Or.inl rfl)) (aB9 (aS4 (oM K (by rfl) a7f a7h a8h jQ (cI7 (bQ7 d) (pv 5) (gE (aI (λΓ=>aH b (d.mono (by decide)) (by rfl) T.a1W T.a1t.kp (nT T) .nil bB (gA (aA (aC (pv 6)) (aA (aC (pv 3)) aE)) Γ))) Γ) (bK6 oE) ⟨rfl,rfl,rfl,rfl⟩) (gA (aA (cI (aI (λΓ=>aH b (d.mono (by decide)) (by rfl) T.a1W T.a1t.kp (nT T) .nil bB (gA (aA (aC (pv 6)) (aA (aC (pv 4)) aE)) Γ)))) aE) Γ))))) (bK3 (cQ5 (pv 5))))))
def aG4(T:Txt K mg a):FnOk P w K mg base CX0 1 a.a0u a.a0X ["columns","rows"] (dsp 2 eE):=by
 refine bP T.a1Q pH (by decide) fE (λcdv A outer s H E b=>?_);have nd:=pH.nd;unfold fE;exact(aP (bX (aI4 (aA (cV dH (λΓ=>bG bO (by rfl) T.a0t aU (gA (aA (aC (pv 0)) aE) Γ))) (aA (cV dH (λΓ=>bG bO (by rfl) T.a0t aU (gA (aA (cV fN (λΓ=>nV (id:="sorted") (U:="set") (eT rfl (aK9 b)) (by rfl) T.a1X gK (by rfl) T.a2w nR (gA (aA (aC (pv 1)) aE) Γ))) aE) Γ))) aE)))))
def bA2(T:Txt K mg a)(c:FnOk P w K mg base CX0 1 a.a0l a.a0s ["one","other"] (dsp 2 aT))(d:FnOk P w K mg base CX0 2 a.grouped a.a0T ["table","columns","others"] (dsp 3 cP))(e:FnOk P w K mg base CX0 1 a.a0q a.a0x ["columns","some"] (dsp 2 bA))(f:FnOk P w K mg base CX0 1 a.picked a.a0R ["row","places"] (dsp 2 bZ))(g:FnOk P w K mg base CX0 1 a.a0u a.a0X ["columns","rows"] (dsp 2 eE)):FnOk P w K mg base CX0 3 a.joined a.a1r ["one","other"] (dsp 2 dJ):=by
 refine bP T.a1U zG (by decide) iO (λcdv A outer s H E b=>?_);have nd:=zG.nd;unfold iO;exact(aF (aN (i:=2) nd rfl (Or.inl rfl) (aI (λΓ=>aH c (b.mono (by decide)) (by rfl) T.a1m T.a0v.kp (gW T) .nil bB (gA (aA (aC (pv 0)) (aA (aC (pv 1)) aE)) Γ))))
  (aF (kY (ow:=[8]) (i:=3) (bJ (by decide)) (λΓ=>kU (i:=3) nd rfl rfl (csc [8] (by kernel_rfl)) (gI (cX K (by rfl) (bI (aC (pv 1)) ge_int (λ_ _=>rfl))) Γ) (λ_ _ _ _=>(bF (i:=8) nd rfl (Or.inl rfl) (.inr rfl))) (bH (by decide)) (λ_ _ _ _=>(gJ (eM (oW b.units) (oX (neg:=true)) (aC (pv 8)) (bI (aC (pv 0)) ge_int (λ_ _=>rfl)) (by with_unfolding_all rfl)))) (λ_ _ _ _=>gE (cI (aC (pv 8))) Γ) rfl))
  (aF (aN (i:=4) nd rfl (Or.inl rfl) (aI (λΓ=>aH d (b.mono (by decide)) (by rfl) T.a2k T.a1G.kp (zI T) .nil bB (gA (aA (aC (pv 1)) (aA (aC (pv 2)) (aA (aC (pv 3)) aE))) Γ))))
  (aF (aN (i:=5) nd rfl (Or.inl rfl) (aI (λΓ=>aH e (b.mono (by decide)) (by rfl) T.a0Y T.a0B.kp (gM T) .nil bB (gA (aA (bI (aC (pv 0)) ge_int (λ_ _=>rfl)) (aA (aC (pv 2)) aE)) Γ))))
  (aF (aN (i:=6) nd rfl (Or.inl rfl) (fW aE))
  (aF (yS (own:=[7]) (bJ (by decide)) (λΓ=>qL a6h rfl (gI (cX K (by rfl) (bI (aC (pv 0)) ge_int (λ_ _=>rfl))) Γ) (bF (i:=7) nd rfl (Or.inr rfl))
  (gSs (aP (wV (bS6 bU0 (λΓ=>oM K (by rfl) a7f F.slot_list_extend F.type_list_extend bT9 (pv 6) (gA (aA (dG (ow:=[9]) (bJ (by decide)) (λΓ=>dF (csc [9] (by kernel_rfl)) (gI (cX K (by rfl) (bW8 (bQ7 b) (aC (pv 4)) (aI (λΓ=>aH f (b.mono (by decide)) (by rfl) T.a1W T.a1t.kp (nT T) .nil bB (gA (aA (aC (pv 7)) (aA (aC (pv 5)) aE)) Γ))) (fW aE) ⟨rfl,rfl,rfl,rfl⟩)) Γ) (λ_ _ _ _=>(bF (i:=9) nd rfl (Or.inl rfl) (.inr rfl))) (bH (by decide)) (λ_ _ _ _=>eR) (λ_ _ _ _=>gE (cI (aO bC bD (aC (pv 7)) (aC (pv 9)))) Γ))) aE) Γ))))) Γ)))
  (aP (bX (aI (λΓ=>aH g (b.mono (by decide)) (by rfl) T.a2t T.a1Q.kp (aP8 T) .nil bB (gA (aA (aO bC bD (bI (aC (pv 0)) ge_int (λ_ _=>rfl)) (cV dH (λΓ=>bG bO (by rfl) T.a0t aU (gA (aA (aC (pv 3)) aE) Γ)))) (aA (aC (pv 6)) aE)) Γ)))))))))))
def aG5(T:Txt K mg a)(b:FnOk P w K mg base CX0 1 a.a2l a.a1p ["_law_columns","_law_row","_law_some"] (dsp 3 bY)):FnOk P w K mg base CX0 2 a.a1V a.a0V ["_law_one","_law_other"] (dsp 2 eF):=by
 refine bP T.a1N pI (by decide) fF (λcdv A outer s H E c=>?_);have nd:=pI.nd;unfold fF;exact(aF (aN (i:=2) nd rfl (Or.inr rfl) (dG (ow:=[4]) (bJ (by decide)) (λΓ=>dF (csc [4] (by kernel_rfl)) (gI (cX K (by rfl) (bI (aC (pv 0)) ge_int (λ_ _=>rfl))) Γ) (λ_ _ _ _=>(bF (i:=4) nd rfl (Or.inl rfl) (.inr rfl))) (bH (by decide)) (λ_ _ _ _=>(gJ (eM (aJ3 c.units) (oX (neg:=false)) (aC (pv 4)) (bI (aC (pv 1)) ge_int (λ_ _=>rfl)) (by with_unfolding_all rfl)))) (λ_ _ _ _=>gE (cI (aC (pv 4))) Γ))))
  (aF (aN (i:=3) nd rfl (Or.inr rfl) (dG (ow:=[5]) (bJ (by decide)) (λΓ=>dF (csc [5] (by kernel_rfl)) (gI (cX K (by rfl) (bI (aC (pv 1)) ge_int (λ_ _=>rfl))) Γ) (λ_ _ _ _=>(bF (i:=5) nd rfl (Or.inl rfl) (.inr rfl))) (bH (by decide)) (λ_ _ _ _=>eR) (λ_ _ _ _=>gE (cI (aI (λΓ=>aH b (c.mono (by decide)) (by rfl) T.a1L T.a0W.kp (kA T) .nil bB (gA (aA (bI (aC (pv 1)) ge_int (λ_ _=>rfl)) (aA (aC (pv 5)) (aA (aC (pv 2)) aE))) Γ)))) Γ))))
  (aP (bX (dG (ow:=[5]) (bJ (by decide)) (λΓ=>dF (csc [5] (by kernel_rfl)) (gI (cX K (by rfl) (bI (aC (pv 0)) ge_int (λ_ _=>rfl))) Γ) (λ_ _ _ _=>(bF (i:=5) nd rfl (Or.inl rfl) (.inr rfl))) (bH (by decide)) (λ_ _ _ _=>(gJ (eM (aJ3 c.units) (oX (neg:=false)) (aI (λΓ=>aH b (c.mono (by decide)) (by rfl) T.a1L T.a0W.kp (kA T) .nil bB (gA (aA (bI (aC (pv 0)) ge_int (λ_ _=>rfl)) (aA (aC (pv 5)) (aA (aC (pv 2)) aE))) Γ))) (aC (pv 3)) (by with_unfolding_all rfl)))) (λ_ _ _ _=>gE (cI (aC (pv 5))) Γ)))))))
def xN(T:Txt K mg a)(c:FnOk P w K mg base CX0 1 a.a0l a.a0s ["one","other"] (dsp 2 aT))(d:FnOk P w K mg base CX0 2 a.grouped a.a0T ["table","columns","others"] (dsp 3 cP))(e:FnOk P w K mg base CX0 1 a.a0q a.a0x ["columns","some"] (dsp 2 bA))(f:FnOk P w K mg base CX0 1 a.picked a.a0R ["row","places"] (dsp 2 bZ)):FnOk P w K mg base CX0 3 a.a0o a.a0z ["one","other"] (dsp 2 bN):=by
 refine bP T.a0N jZ (by decide) dD (λcdv A outer s H E b=>?_);have nd:=jZ.nd;unfold dD;exact(aF (aN (i:=2) nd rfl (Or.inl rfl) (aI (λΓ=>aH c (b.mono (by decide)) (by rfl) T.a1m T.a0v.kp (gW T) .nil bB (gA (aA (aC (pv 0)) (aA (aC (pv 1)) aE)) Γ))))
  (aF (aN (i:=3) nd rfl (Or.inr rfl) (aI (λΓ=>aH d (b.mono (by decide)) (by rfl) T.a2k T.a1G.kp (zI T) .nil bB (gA (aA (aC (pv 1)) (aA (aC (pv 2)) (aA (fW aE) aE))) Γ))))
  (aF (aN (i:=4) nd rfl (Or.inr rfl) (aI (λΓ=>aH e (b.mono (by decide)) (by rfl) T.a0Y T.a0B.kp (gM T) .nil bB (gA (aA (bI (aC (pv 0)) ge_int (λ_ _=>rfl)) (aA (aC (pv 2)) aE)) Γ))))
  (aP (bX (aI4 (aA (bI (aC (pv 0)) ge_int (λ_ _=>rfl)) (aA (cV dH (λΓ=>bG bO (by rfl) T.a0t aU (gA (aA (dG (ow:=[5]) (bJ (by decide)) (λΓ=>dF (csc [5] (by kernel_rfl)) (gI (cX K (by rfl) (bI (aC (pv 0)) ge_int (λ_ _=>rfl))) Γ) (λ_ _ _ _=>(bF (i:=5) nd rfl (Or.inl rfl) (.inr rfl))) (bH (by decide)) (λ_ _ _ _=>(gJ (eM (cJ1 (bQ7 b)) bW6 (aI (λΓ=>aH f (b.mono (by decide)) (by rfl) T.a1W T.a1t.kp (nT T) .nil bB (gA (aA (aC (pv 5)) (aA (aC (pv 4)) aE)) Γ))) (aC (pv 3)) (by with_unfolding_all rfl)))) (λ_ _ _ _=>gE (cI (aC (pv 5))) Γ))) aE) Γ))) aE))))))))
def aA6(T:Txt K mg a)(d:FnOk P w K mg base CX0 2 a.a1u a.a0H ["_law_one","_law_other"] (dsp 2 cJ))(c:FnOk P w K mg base CX0 2 a.a0L a.a0A ["_law_found","_law_columns","_law_rows_here"] (dsp 3 aV))(e:FnOk P w K mg base CX0 3 a.joined a.a1r ["one","other"] (dsp 2 dJ))(f:FnOk P w K mg base CX0 2 a.a1V a.a0V ["_law_one","_law_other"] (dsp 2 eF))(g:FnOk P w K mg base CX0 3 a.a0o a.a0z ["one","other"] (dsp 2 bN)):FnOk P w K mg base CX0 4 a.a1I a.a0Q ["_law_one","_law_other"] (dsp 2 bV):=by
 refine bP T.a0I nJ (by decide) eG (λcdv A outer s H E b=>?_);have nd:=nJ.nd;unfold eG;exact(aF (aN (i:=2) nd rfl (Or.inl rfl) (aI (λΓ=>aH d (b.mono (by decide)) (by rfl) T.a2m T.a1s.kp (zH T) .nil bB (gA (aA (aC (pv 0)) (aA (aC (pv 1)) aE)) Γ))))
  (aF (qC (oP (oO (aI (λΓ=>aH c (b.mono (by decide)) (by rfl) T.a1x T.a0D.kp (jJ T) .nil bB (gA (aA (aI (λΓ=>aH e (b.mono (by decide)) (by rfl) T.a2s T.a1U.kp (aJ8 T) .nil bB (gA (aA (aC (pv 0)) (aA (aC (pv 1)) aE)) Γ))) (aA (bI (aC (pv 2)) ge_int (λ_ _=>rfl)) (aA (bI (aC (pv 2)) ge_int (λ_ _=>rfl)) aE))) Γ))))) (aP (bX bF3)) gH)
  (aP (bX (aI (λΓ=>aH c (b.mono (by decide)) (by rfl) T.a1x T.a0D.kp (jJ T) .nil bB (gA (aA (aI (λΓ=>aH g (b.mono (by decide)) (by rfl) T.a1S T.a0N.kp (nK T) .nil bB (gA (aA (aC (pv 0)) (aA (aC (pv 1)) aE)) Γ))) (aA (bI (aC (pv 0)) ge_int (λ_ _=>rfl)) (aA (aI (λΓ=>aH f (b.mono (by decide)) (by rfl) T.a2v T.a1N.kp (aP9 T) .nil bB (gA (aA (aC (pv 0)) (aA (aC (pv 1)) aE)) Γ))) aE))) Γ)))))))
def cJ4(T:Txt K mg a)(c:FnOk P w K mg base CX0 1 a.a2j a.a1w ["_law_script","_law_k"] (dsp 2 cO))(f:FnOk P w K mg base CX0 2 a.a1H a.a0M ["_law_box_here","_law_many"] (dsp 2 cY))(e:FnOk P w K mg base CX0 3 a.a1F a.a0P ["_law_box_here","_law_names_here","_law_ceiling"] (dsp 3 cG))(d:FnOk P w K mg base CX0 4 a.a1I a.a0Q ["_law_one","_law_other"] (dsp 2 bV))(g:FnOk P w K mg base CX0 3 a.joined a.a1r ["one","other"] (dsp 2 dJ))(h:FnOk P w K mg base CX0 3 a.a0o a.a0z ["one","other"] (dsp 2 bN)):FnOk P w K mg base CX0 5 a.law a.a2x ["_law_script"] (dsp 1 mR):=by
 refine bP T.a2B bL9 (by decide) aA0 (λcdv A outer s H E b=>?_);have nd:=bL9.nd;unfold aA0;exact(aF (aN (i:=1) nd rfl (Or.inl rfl) (aI (λΓ=>aH c (b.mono (by decide)) (by rfl) T.a1Z T.a1q.kp (pJ T) .nil bB (gA (aA (aC (pv 0)) (aA ge_int aE)) Γ))))
  (aF (aN (i:=2) nd rfl (Or.inl rfl) (aI (λΓ=>aH f (b.mono (by decide)) (by rfl) T.a2o T.a1B.kp (aE2 T) .nil bB (gA (aA (aC (pv 1)) (aA ge_int aE)) Γ))))
  (aF (aN (i:=3) nd rfl (Or.inl rfl) (aI (λΓ=>aH e (b.mono (by decide)) (by rfl) T.a1Y T.a0Z.kp (pK T) .nil bB (gA (aA (aI (λΓ=>aH c (b.mono (by decide)) (by rfl) T.a1Z T.a1q.kp (pJ T) .nil bB (gA (aA (aC (pv 0)) (aA ge_int aE)) Γ))) (aA (fH (aC (pv 2)) iF (iG ge_int)) (aA ge_int aE))) Γ))))
  (aF (aN (i:=4) nd rfl (Or.inl rfl) (aI (λΓ=>aH e (b.mono (by decide)) (by rfl) T.a1Y T.a0Z.kp (pK T) .nil bB (gA (aA (aI (λΓ=>aH c (b.mono (by decide)) (by rfl) T.a1Z T.a1q.kp (pJ T) .nil bB (gA (aA (aC (pv 0)) (aA ge_int aE)) Γ))) (aA (fH (aC (pv 2)) (iG ge_int) iF) (aA ge_int aE))) Γ))))
  (aF (qC (GW.gt (bF5 (oP (oO (aI (λΓ=>aH d (b.mono (by decide)) (by rfl) T.a1E T.a0I.kp (jL T) .nil bB (gA (aA (aC (pv 3)) (aA (aC (pv 4)) aE)) Γ))))) (aU9 (oP (oO (aI (λΓ=>aH d (b.mono (by decide)) (by rfl) T.a1E T.a0I.kp (jL T) .nil bB (gA (aA (aC (pv 4)) (aA (aC (pv 3)) aE)) Γ)))))))) (aP (bX bF3)) gH)
  (aP (bX (yO (oN (jX b.units) (jH (neg:=false)) (aI (λΓ=>aH g (b.mono (by decide)) (by rfl) T.a2s T.a1U.kp (aJ8 T) .nil bB (gA (aA (aC (pv 3)) (aA (aC (pv 3)) aE)) Γ))) (aC (pv 3)) (eY _)) (yO (oN (jX b.units) (jH (neg:=false)) (aI (λΓ=>aH h (b.mono (by decide)) (by rfl) T.a1S T.a0N.kp (nK T) .nil bB (gA (aA (aC (pv 3)) (aA (aC (pv 3)) aE)) Γ))) (aC (pv 3)) (eY _)) (aI3 (aI (λΓ=>aH d (b.mono (by decide)) (by rfl) T.a1E T.a0I.kp (jL T) .nil bB (gA (aA (aC (pv 3)) (aA (aC (pv 4)) aE)) Γ)))))))))))))
end
local macro_rules | `(tactic| walk_at "dx")=>do
 let l:=("bZ0 qT qU qV qW qX qY qZ rA rB rC rD rE rF rG rH rJ aO4 rK lB lC lD rL rM lE lF lG rN rO aO5 rP rQ aO6 rR rS rT rU rV lH lI rW rX rY rZ sA lJ sC lK sD sE sF sG sH sI sJ sK lL lM sM sN sO sP sQ sR sS sV sW sZ aO7 iT lO tE lP tS tT tU tV tW tX tY tZ uA mL aO8 uB lZ iX gB wA jM aR1 wD iZ vK vL vM vN vO vP vQ vR uD mB mD mE uE uF uG uH uI aO9 aP0 aP1 aP2 uJ uL uM mF mG uN mH uO uP mI iU uQ mJ aP3 uK uR uT uU uV aP4 uX bZ1 uY uZ uW bE vA vB vC vD tF tG tH tJ tK tL tM tN tO lQ lS lT lU tP tQ tR reduceIte".splitOn " ").toArray.map fun s=>Lean.mkIdent s.toName
 let m:=("vE vF vG aE1 aP5 Int.reducePow Int.reduceNeg Int.reduceLT Int.reduceLE Nat.reducePow Nat.reduceLT Int.reduceToNat Nat.reduceLeDiff vJ vH aP6 vI lV lW lX lY List.set_cons_zero List.set_cons_succ cR aN9 List.length_cons List.length_nil Nat.reduceAdd Nat.zero_add true_and and_true and_self Bool.not_false Bool.not_true Bool.false_eq_true Bool.true_and Bool.and_true Bool.or_false decide_eq_true_eq".splitOn " ").toArray.map fun s=>Lean.mkIdent s.toName
 `(tactic| simp only[$[↓$l:ident],*,$[$m:ident],*])
def sl2:(2<=sizeLine):=by decide
def cQ{a b m:Int}(h:0 < m)(c:m < 18446744073709551616){K:Res->List Sl->Prop}(k:∀ d e f,0<=d->d < m->K (.val (.int d)) [⟨.par,.lst [.int e,.int f]⟩,⟨.val,.int m⟩]):CK aK [⟨.par,.lst [.int a,.int b]⟩,⟨.val,.int m⟩] K:=by
 unfold aK;rw[cS];show RS fC [_,_,none,none] _;unfold fC;walk_at "dx";rw[aE1 h c];split;exact⟨h,True.intro,k _ _ _ (a9i _ (by lia)) (a4i _ h)⟩;exact⟨h,k _ _ _ (a9i _ (by lia)) (a4i _ h)⟩
def bA3{ns:List Int}{i:Int}(h0:0<=i)(a:i < (ns.length:Int)):∃ c,atI (ns.map D.int) i=some (.int c):=by
 obtain⟨c,b⟩:=bL3 (ys:=ns) h0 a;exact⟨c,by rw[aU2,b];rfl⟩
def bA4{ns:List Int}{n:Int}(h0:0<=n)(e:n < 1000){K:Res->List Sl->Prop}(k:∀ a b,K (.own (.lst [.int a,.int b])) [⟨.val,.lst (ns.map D.int)⟩,⟨.val,.int n⟩]):CK cO [⟨.val,.lst (ns.map D.int)⟩,⟨.val,.int n⟩] K:=by
 unfold cO;rw[cS];show RS gC [_,_,none,none] _;unfold gC;walk_at "dx";split;rename_i d;obtain⟨c,d⟩:=bA3 (ns:=ns) h0 (by simpa using d);rw[d];walk_at "dx";exact⟨sl2,k _ _⟩;split;rename_i d;refine⟨d,?_⟩;obtain⟨c,d⟩:=bA3 (ns:=ns) (i:=n % ((ns.map D.int).length:Int)) (a9i _ (by lia)) (by have:=a4i n d;simpa using this);rw[d];walk_at "dx";exact⟨sl2,k _ _⟩;exact⟨sl2,k _ _⟩
def xO{lo:Int}{n i:Nat}{d:D}(h:(aR8 lo n)[i]? = some d):i < n/\d=.int (lo+i):=by
 unfold aR8 at h;rw[a0c]at h;cases e:(List.range n)[i]? with
 | none=>rw[e]at h;cases h
 | some k=>
   rw[e]at h;obtain⟨hi,a⟩:=a0a.mp e;rw[List.length_range]at hi;rw[List.getElem_range]at a;subst a;exact⟨hi,(a5a h).symm⟩
def gO(lo:Int)(n:Nat):(aR8 lo n).length=n:=by simp[aR8]
def bW9{a:Type}{l:List a}{i:Int}{c:a}(h:atI l i=some c):c∈l:=by
 unfold atI at h;obtain⟨j,_,b⟩:=aB h;exact a2c b
def cJ5{l:List D}{d:Int}(h0:0<=d)(a:d < (l.length:Int))(b:d < 9223372036854775808){K:D×D->Prop}(k:∀ y r,(y::r).Perm l->r.length+1=l.length->K (.lst r,y)):OK1 (yV (.lst l) [.int d]) K:=by
 obtain⟨n,rfl⟩:∃ n:Nat,d=n:=⟨d.toNat,by lia⟩;have hn:n < l.length:=by lia
 unfold yV;dsimp only;rw[a2H ⟨by lia,by lia⟩];have e:ixN l.length (n:Int)=some n:=by
  unfold ixN;rw[a2H (by lia),a2H (by lia)];simp
 rw[e];show OK1 ((l[n]?).map _) K;rw[a1a hn];exact k _ _ (aF6 l n hn) (by rw[List.length_eraseIdx_of_lt hn];lia)
def bI6{a b:Int}{xs:List D}{m:Md}{t:D}(hm:m=.par/\t=.lst xs\/m=.val/\t=.tup xs)(q:xs.length<=1000){K:Res->List Sl->Prop}(k:∀ ys e f,ys.Perm xs->K (.own (.lst ys)) [⟨.par,.lst [.int e,.int f]⟩,⟨m,t⟩]) :
  CK cZ [⟨.par,.lst [.int a,.int b]⟩,⟨m,t⟩] K:=by
 unfold cZ;rw[cS];show RS dW [_,_,none,none] _;unfold dW;rcases hm with⟨rfl,rfl⟩ | ⟨rfl,rfl⟩
 all_goals
  walk_at "dx";refine⟨a1d _,?_⟩;refine aQ6 (λm τ=>∃ e f left found,m=left.length/\left.length<=xs.length/\found.length+left.length=xs.length/\(found++left).Perm xs/\τ=[some ⟨.par,.lst [.int e,.int f]⟩,some _,some ⟨.own,.lst left⟩,some ⟨.own,.lst found⟩]) xs.length (by lia) ⟨a,b,xs,[],rfl,a8a _,by simp,.refl _,rfl⟩ ?_;rintro m τ ⟨e,f,left,found,rfl,i,j,h,rfl⟩;walk_at "dx";split;rename_i c;refine cQ (by simpa using c) (by lia) λd l n o p=>?_;walk_at "dx";refine cJ5 o (by simpa using p) (by lia) λy r g s=>?_;refine⟨a1c (by lia:found.length < 1001) (by decide),.inl ⟨_,r.length,.inl rfl,by lia,l,n,r,found++[y],rfl,by lia,by rw[a9a];simp only[List.length_cons,List.length_nil];lia,?_,rfl⟩⟩;rw[List.append_assoc];exact(List.Perm.append_left found g).trans h;rename_i c;have:left=[]:=a7c (by lia);subst this;exact k found e f (by simpa using h)
def Tx(z:Str):Prop:=z.length<=100/\∀ c∈z.cps.toList,c < 128
noncomputable def cW4(i j:Str):Bool:=!(Builtin.Str.occurrences j i 0 j.length 1).isEmpty
theorem aA7{i j:Str}{K:Res->Prop}:OK1 (inD false (.str i) (.str j)) K=K (.val (.bl (cW4 i j))):=rfl
theorem aA8{z:Str}{lo hi:Option Int}{K:Res->Prop}:SK (.str z) lo hi K=(z.length<=sizeLine/\K (.val (.str (Txt.slice z lo hi)))):=by
 show OK1 (if _ then _ else none) K=_;rw[aZ];rfl
theorem pV{z:Str}{i:Int}{K:Res->Prop}:OK1 (aD9 (.str z) (.int i)) K=((z.length<=1000/\0<=i/\i<=1000)/\K (.val (.str (Txt.mul z i)))):=by
 unfold aD9;dsimp only;rw[aZ];rfl
theorem bA5{i:Nat}{σ a:Sg}:jV [i] σ a=a.set i (σ[i]?.getD none):=rfl
def aL5:(Str.ofString "abcdefghijklmnopqrstuvwxyz").cps.toList.length=26:=by decide
def hX(z:Str):z.length=z.cps.toList.length:=by show z.cps.size=_;simp
def bA6(x y:Str):(x++y).cps.toList=x.cps.toList++y.cps.toList:=by show(x.cps++y.cps).toList=_;simp
theorem jN(x y:Str):(x++y).length=x.length+y.length:=by rw[hX,hX,hX,bA6,a9a]
def As(z:Str):Prop:=∀ c∈z.cps.toList,c < 128
def bA7{x y:Str}(b:As x)(d:As y):As (x++y):=by
 intro c a;rw[bA6]at a;rcases a3c.mp a with h | h;exact b c h;exact d c h
def nY{z:Str}(h:As z)(lo hi:Option Int):As (Txt.slice z lo hi):=by
 intro c a;unfold Txt.slice at a;split at a;exact h c a;simp only[List.mem_filterMap]at a;obtain⟨i,_,hi⟩:=a;exact h c (Array.mem_toList_iff.mpr (Array.mem_of_getElem? hi))
theorem slice_le(z:Str)(lo hi:Option Int):(Txt.slice z lo hi).length<=z.length:=Txt.slice_le z lo hi
def xP{z:Str}(h:As z):cB (.str z)=true:=by
 unfold cB;rw[a9d];refine⟨?_,rfl⟩;show PyData.strOk z=true;unfold PyData.strOk;rw[← Array.all_toList,a3i];intro c a;have:=h c a;simp;lia
def aL6(d:D)(l:List D):cB d=true->cB (.lst l)=true->(eX d).depth<=59->cB (.lst (d::l))=true:=by
 intro a b h;obtain⟨c,i⟩:=bQ a;obtain⟨e,f⟩:=bQ b;unfold cB;rw[a9d,a2K];have g:(eX (.lst (d::l))).canLay0=((eX d).canLay0&&(eX (.lst l)).canLay0):=by
  simp only[eX,toPys,PyData.canLay0,PyData.canLayAll0]
 refine⟨by rw[g,c,e];rfl,?_⟩;simp only[eX,toPys,PyData.depth,PyData.depthAll]at f ⊢;lia
theorem xQ:∀ {a:List Str},(∀ z∈a,As z)->cB (.lst (a.map D.str))=true
 | [],_=>rfl
 | z::r,h=>aL6 _ _ (xP (h z a3a)) (xQ λy b=>h y (a4a _ b)) (by show PyData.depth (.str z)<=59;simp[PyData.depth])
def cJ6{z:Str}{a:List Str}(hz:As z)(h:∀ z∈a,As z){K:Res->Prop}(k:∀ b,K (.val (.bl b))):OK1 (inD true (.str z) (.lst (a.map D.str))) K:=by
 show OK1 (if _ then _ else none) K;rw[aZ];exact⟨⟨xP hz,xQ h⟩,k _⟩
local macro_rules | `(tactic| walk_at "dx")=>do
 let l:=("bZ0 qT qU qV qW qX qY qZ rA rB rC rD rE rF rG rH rJ aO4 rK lB lC lD rL rM lE lF lG rN rO aO5 rP rQ aO6 rR rS rT rU rV lH lI rW rX rY rZ sA lJ sC lK sD sE sF sG sH sI sJ sK lL lM sM sN sO sP sQ sR sS sV sW sZ aO7 iT lO tE lP tS tT tU tV tW tX tY tZ uA mL aO8 uB lZ iX gB wA jM aR1 wD iZ vK vL vM vN vO vP vQ vR uD mB mD mE uE uF uG uH uI aO9 aP0 aP1 aP2 uJ uL uM mF mG uN mH uO uP mI iU uQ mJ aP3 uK uR uT uU uV aP4 uX bZ1 uY aA8 pV aA7 uZ uW bE vA vB vC vD tF tG tH tJ tK tL tM tN tO lQ lS lT lU tP tQ tR reduceIte".splitOn " ").toArray.map fun s=>Lean.mkIdent s.toName
 let m:=("bA5 List.getElem?_cons_succ List.getElem?_cons_zero Option.getD_some vE vF vG aE1 aP5 Int.reducePow Int.reduceNeg Int.reduceLT Int.reduceLE Nat.reducePow Nat.reduceLT Int.reduceToNat Nat.reduceLeDiff vJ vH aP6 vI lV lW lX lY List.set_cons_zero List.set_cons_succ cR aN9 List.length_cons List.length_nil Nat.reduceAdd Nat.zero_add true_and and_true and_self Bool.not_false Bool.not_true Bool.false_eq_true Bool.true_and Bool.and_true Bool.or_false decide_eq_true_eq".splitOn " ").toArray.map fun s=>Lean.mkIdent s.toName
 `(tactic| simp only[$[↓$l:ident],*,$[$m:ident],*])
theorem bA8:∀ (a:List Str),(∀ z∈a,z.length<=1)->(a.map (·.length)).sum<=a.length
 | [],_=>by simp
 | z::r,h=>by
   have c:=h z a3a;have d:=bA8 r λy b=>h y (a4a _ b);simp only[List.map_cons,List.sum_cons,List.length_cons];lia
def bA9{e:Int}(b:0<=e)(d:e < 26):∃ c,atI (Str.ofString "abcdefghijklmnopqrstuvwxyz").cps.toList e=some c/\c < 128:=by
 obtain⟨c,a⟩:=bL3 (ys:=(Str.ofString "abcdefghijklmnopqrstuvwxyz").cps.toList) b (by rw[aL5];exact d);exact⟨c,a,aU5 c (bW9 a)⟩
def aL7{c:Nat}(h:c < 128):As ⟨#[c]⟩:=by
 intro x a;have:x=c:=by simpa using a
 subst this;exact h
def cQ8{k:Int}(h0:0<=k)(l:k < 24):∃ (z:Str) (p q r:Nat),Txt.slice (Txt.slice (Str.ofString "abcdefghijklmnopqrstuvwxyz") (some k) none) none (some 3)=z/\z.length=3/\iA z=[.str ⟨#[p]⟩,.str ⟨#[q]⟩,.str ⟨#[r]⟩]/\p < 128/\q < 128/\r < 128:=by
 have c:(Str.ofString "abcdefghijklmnopqrstuvwxyz").length=26:=by decide
 have h:=aN6 (x:=Str.ofString "abcdefghijklmnopqrstuvwxyz") h0 (by rw[c];lia);have a:=nY (nY (z:=Str.ofString "abcdefghijklmnopqrstuvwxyz") aU5 (some k) none) none (some 3);have d:(Txt.slice (Str.ofString "abcdefghijklmnopqrstuvwxyz") (some k) none).length=26-k.toNat:=by
  rw[hX,h,a9f,aL5]
 have i:=bE7 (x:=Txt.slice (Str.ofString "abcdefghijklmnopqrstuvwxyz") (some k) none) (j:=3) (by decide) (by rw[d];lia);have b:=hX (Txt.slice (Txt.slice (Str.ofString "abcdefghijklmnopqrstuvwxyz") (some k) none) none (some 3));rw[i,a8e,← hX,d]at b;revert a b;generalize Txt.slice (Txt.slice (Str.ofString "abcdefghijklmnopqrstuvwxyz") (some k) none) none (some 3)=z;intro a b;have e:z.length=3:=by rw[b];show min 3 _=3;lia
 have f:=hX z;rw[e]at f;unfold As at a
 match g:z.cps.toList,f with
 | [p,q,r],_=>
   rw[g]at a;exact⟨z,p,q,r,rfl,e,by unfold iA;rw[g];rfl,a p (by simp),a q (by simp),a r (by simp)⟩
def tx1{c:Nat}(h:c < 128):Tx ⟨#[c]⟩:=⟨by show 1<=100;decide,aL7 h⟩
def wE{x y:Str}{m n:Nat}(a:x.length<=m/\As x)(b:y.length<=n/\As y):(x++y).length<=m+n/\As (x++y):=⟨by rw[jN];lia,bA7 a.2 b.2⟩
theorem bG3(c:Nat):Str.length ⟨#[c]⟩=1:=rfl
def bI7{e:Int}(h0:0<=e)(a:e < 11):∃ z:Str,atI ([D.str "table",D.str "tree",D.str "none",D.str "answer",D.str "levels",D.str "looks"]++[D.str "at",D.str "count",D.str "ears",D.str "cover",D.str "place"]) e=some (.str z)/\Tx z:=by
 have:e=0\/e=1\/e=2\/e=3\/e=4\/e=5\/e=6\/e=7\/e=8\/e=9\/e=10:=by lia
 rcases this with rfl | rfl | rfl | rfl | rfl | rfl | rfl | rfl | rfl | rfl | rfl<;>exact⟨_,rfl,by unfold Tx;decide⟩
def aG6(ys:List Str)(j:Nat)(z:Str):(ys.map D.str).set j (.str z)=(ys.set j z).map D.str:=by rw[List.map_set]
def cJ7{n:Nat}{k:Int}(h0:0<=k)(a:k < n){K:Nat->Prop}(q:∀ j,j < n->K j):OK1 (ixN n k) K:=by
 obtain⟨m,rfl⟩:∃ m:Nat,k=m:=⟨k.toNat,by lia⟩;have e:ixN n (m:Int)=some m:=by
  unfold ixN;rw[a2H (by lia),a2H (by lia)];simp
 rw[e];exact q m (by lia)
def cJ8{m:Int}(h:m=0\/m=1):(Txt.mul "z" m).length<=1/\As (Txt.mul "z" m):=by
 rcases h with rfl | rfl;exact⟨by decide,by unfold As;decide⟩;exact⟨by decide,by unfold As;decide⟩
def zm2(p:Prop)[Decidable p]:(if p then(1:Int)else 0)=0\/(if p then(1:Int)else 0)=1:=by
 split;exact .inr rfl;exact .inl rfl
def bI8{a b:Int}{K:Res->List Sl->Prop}(k:∀ (zs:List Str) B C,zs.length=7->(∀ z∈zs,Tx z)->K (.own (.lst (zs.map D.str))) [⟨.par,.lst [.int B,.int C]⟩,⟨.val,.int 7⟩]) :
  CK cY [⟨.par,.lst [.int a,.int b]⟩,⟨.val,.int 7⟩] K:=by
 unfold cY;rw[cS];show RS dU [_,_,none,none,none,none,none,none,none,none,none,none,none,none,none] _;unfold dU;walk_at "dx";refine cQ (by decide) (by decide) λn a1 b1 n0 n5=>?_;walk_at "dx";refine⟨by lia,by rw[gO];exact a6b (by lia:n.toNat<=5) (by decide),?_⟩;refine iL _ _ (λi acc τ=>i<=5/\∃ (zs:List Str) (B C:Int),acc=zs.map D.str/\zs.length=i/\(∀ z∈zs,z.length<=1/\As z)/\τ=[some ⟨.par,.lst [.int B,.int C]⟩,some ⟨.val,.int 7⟩,some ⟨.val,.str "abcdefghijklmnopqrstuvwxyz"⟩,none,none,none,none,none,none,none,none,none,none,none,none]) ⟨by lia,[],a1,b1,rfl,rfl,by simp,rfl⟩ ?_ ?_;rintro i d acc τ hd ⟨_,zs,B,C,rfl,X,l,rfl⟩;obtain⟨hi,rfl⟩:=xO hd;walk_at "dx";refine cQ (by decide) (by decide) λe Y Z e0 e1=>?_;walk_at "dx";refine⟨by decide,?_⟩;obtain⟨c,N,O⟩:=bA9 e0 e1;rw[N];walk_at "dx";refine⟨_,rfl,by lia,zs++[⟨#[c]⟩],Y,Z,by rw[a3d];rfl,by rw[a9a,X];rfl,?_,rfl⟩;intro z P;rcases a3c.mp P with h | h;exact l z h;rw[a8b]at h;subst h;exact⟨a8a 1,aL7 O⟩;rintro acc τ ⟨h5,zs,B,C,rfl,X,l,rfl⟩;have hs:=bA8 zs λz h=>(l z h).1;rw[bU7];refine⟨by simp only[show(Str.ofString "").length=0 by decide];lia,?_⟩;have H:=aC8 (m:=128) (sep:=Str.ofString "") (by decide) zs λz h=>(l z h).2;have u:(Txt.join (Str.ofString "") zs).length<=5:=by
  refine a6b (bR2 _ _) ?_;simp only[show(Str.ofString "").length=0 by decide];lia
 revert H u;generalize Txt.join (Str.ofString "") zs=x;intro H u;have Q:x.length<=sizeLine:=a6b u (by decide);walk_at "dx";rw[jM Q];walk_at "dx";refine cQ (by lia) (by lia) λo Y Z k10 k11=>?_;walk_at "dx";refine cQ (by lia) (by lia) λk2 a3 b3 k20 k21=>?_;walk_at "dx";refine cQ (by lia) (by lia) λk3 a4 b4 k30 k31=>?_;walk_at "dx";split;refine cQ (by lia) (by lia) λk4 a5 b5 v A=>?_;walk_at "dx";obtain⟨z,p,q,r,e,R,es,I,J,L⟩:=cQ8 v A;rw[e,es];refine⟨by decide,a6b (slice_le _ _ _) (by decide),R,?_⟩;walk_at "dx";simp only[jN,bG3];refine⟨by decide,by decide,by decide,by decide,by decide,by decide,by decide,by decide,by decide,?_⟩;have tp:=tx1 I;have tq:=tx1 J;have tr:=tx1 L;have g:∀ {c:Nat},c < 128->Str.length ⟨#[c]⟩<=1/\As ⟨#[c]⟩:=λh=>⟨a8a 1,aL7 h⟩;have M:∀ {x:Str} {n:Nat},n<=100->x.length<=n/\As x->Tx x:=λhn h=>⟨a6b h.1 hn,h.2⟩;refine k [⟨#[p]⟩,⟨#[p]⟩++⟨#[q]⟩,⟨#[q]⟩,⟨#[q]⟩++⟨#[r]⟩,⟨#[r]⟩,⟨#[p]⟩++⟨#[r]⟩,⟨#[p]⟩++⟨#[q]⟩++⟨#[r]⟩] _ _ rfl ?_;intro z l;simp only[List.mem_cons,List.not_mem_nil,or_false]at l;rcases l with rfl | rfl | rfl | rfl | rfl | rfl | rfl;exact tp;exact M (by decide) (wE (g I) (g J));exact tq;exact M (by decide) (wE (g J) (g L));exact tr;exact M (by decide) (wE (g I) (g L));exact M (by decide) (wE (wE (g I) (g J)) (g L));refine⟨a1d _,?_⟩;refine pQ (λi τ=>i<=7/\∃ (ys:List Str) (E o2:Option Sl),((E=none/\o2=none)\/∃ d e,E=some ⟨.val,d⟩/\o2=some ⟨.val,e⟩)/\ys.length=i/\(∀ y∈ys,Tx y)/\τ=[some ⟨.par,.lst [.int a4,.int b4]⟩,some ⟨.val,.int 7⟩,some ⟨.val,.str "abcdefghijklmnopqrstuvwxyz"⟩,some ⟨.val,.str x⟩,some ⟨.val,.int o⟩,some ⟨.val,.int k2⟩,some ⟨.val,.int k3⟩,none,none,none,none,some ⟨.own,.lst (ys.map D.str)⟩,E,o2,none]) ⟨by lia,[],none,none,.inl ⟨rfl,rfl⟩,rfl,by simp,rfl⟩ ?_ ?_
 ·rintro i d τ hd ⟨_,ys,E,o2,S,s,f,rfl⟩;obtain⟨hi,rfl⟩:=xO hd;obtain⟨c,N,O⟩:=bA9 (e:=(k2+5*(0+(i:Int))) % 26) (a9i _ (by decide)) (a4i _ (by decide));have g:=slice_le x none (some o);have l2:=slice_le x (some o) none;have g1:=nY (z:=x) H none (some o);have g2:=nY (z:=x) H (some o) none;have sl:100<=sizeLine:=by decide
  have done:∀ (w:Str) (t:Str) ,(w.length<=20/\As w)->(t.length<=1/\As t)->Tx (w++t):=λw t T ht=>by
   have:=wE T ht;exact⟨by lia,this.2⟩
  rcases S with⟨rfl,rfl⟩ | ⟨d,e,rfl,rfl⟩
  all_goals
   walk_at "dx";rw[N];walk_at "dx";have U:=cJ8 (zm2 ((0+(i:Int)) % 2=1));have z0:=cJ8 (m:=0) (.inl rfl);have zi:=zm2 ((0+(i:Int)) % 2=1);have F:(Txt.slice x none (some o)++⟨#[c]⟩++Txt.slice x (some o) none).length<=20/\As (Txt.slice x none (some o)++⟨#[c]⟩++Txt.slice x (some o) none):=by
    refine⟨?_,bA7 (bA7 g1 (aL7 O)) g2⟩;rw[jN,jN,bG3];lia
   simp only[jN,bG3]at F ⊢;revert zi U;generalize (if(0+(i:Int)) % 2=1 then(1:Int)else 0)=zz;intro U zi;refine⟨by lia,by decide,by lia,by lia,by lia,?_⟩;have G:(List.map D.str ys).length < sizeLine:=by rw[a7a];lia
   split;refine⟨⟨by decide,by lia,by lia⟩,by lia,G,_,.inl rfl,by lia,ys++[_],_,_,.inr ⟨_,_,rfl,rfl⟩,by rw[a9a,s];rfl,?_,by rw[a3d];rfl⟩;intro y h;rcases a3c.mp h with h | h;exact f y h;rw[a8b]at h;subst h;exact done _ _ ⟨by simp only[jN,bG3];exact F.1,F.2⟩ U;refine⟨by decide,by lia,G,_,.inl rfl,by lia,ys++[_],_,_,.inr ⟨_,_,rfl,rfl⟩,by rw[a9a,s];rfl,?_,by rw[a3d];rfl⟩;intro y h;rcases a3c.mp h with h | h;exact f y h;rw[a8b]at h;subst h;exact done _ _ ⟨by simp only[jN,bG3];exact F.1,F.2⟩ z0
 ·rintro τ ⟨_,ys,E,o2,S,s,f,rfl⟩;rw[gO]at s;have V:∀ z∈ys,As z:=λz h=>(f z h).2;rcases S with⟨rfl,rfl⟩ | ⟨d,e,rfl,rfl⟩
  all_goals
   walk_at "dx";refine⟨by decide,by decide,by decide,cQ (by lia) (by lia) λk4 a5 b5 v A=>?_⟩;obtain⟨w,T,tw⟩:=bI7 v A;walk_at "dx";rw[T];walk_at "dx";refine cQ (by lia) (by lia) λk5 a6 b6 k50 k51=>?_;walk_at "dx";split
   ·refine cJ6 tw.2 V λb=>?_;walk_at "dx";split;refine cQ (by lia) (by lia) λk6 a7 b7 W k61=>?_;walk_at "dx";refine cJ7 W (by rw[a7a,s];lia) λj hj=>?_;rw[aG6];refine k _ _ _ (by rw[a3f,s]) λz l=>?_;rcases List.mem_or_eq_of_mem_set l with h | h;exact f z h;exact h ▸ tw;exact k _ _ _ s f
   ·exact k _ _ _ s f
open Sx
def xR{ks:List (List Int)}{n:Nat}(h:∀ k∈ks,k.length=n)(g:2<=(srt ks).length):∀ k∈ks,k≠[]:=by
 rintro k i rfl;have d:n=0:=(h [] i).symm;have f:=fU ks
 match e:srt ks,g with
 | a::b::r,_=>
   rw[e]at f;have c:=(a0f.mp f).1 b a3a;have ha:=h a ((eK ks a).mp (by rw[e];simp));have hb:=h b ((eK ks b).mp (by rw[e];simp));rw[a7c (ha.trans d),a7c (hb.trans d)]at c;cases c
def bX0{e:Int}(h0:0<=e)(a:e < 4):∃ m:Int,atI [D.int 2,D.int 3,D.int 10,D.int 1000] e=some (.int m)/\0 < m/\m<=1000:=by
 have:e=0\/e=1\/e=2\/e=3:=by lia
 rcases this with rfl | rfl | rfl | rfl<;>exact⟨_,rfl,by decide,by decide⟩
def cJ9{a b e:Int}(h0:0<=e)(c:e < 2)(ha:0 < a/\a<=61)(hb:0 < b/\b<=61):∃ m:Int,atI [D.int a,D.int b] e=some (.int m)/\0 < m/\m<=61:=by
 have:e=0\/e=1:=by lia
 rcases this with rfl | rfl;exact⟨_,rfl,ha⟩;exact⟨_,rfl,hb⟩
theorem aA9{l:List D}{K:List D->Prop}:OK1 (qQ (.tup l)) K=K l:=rfl
theorem aL8{l:List D}{K:List D->Prop}:OK1 (qQ (.lst l)) K=K l:=rfl
def cK0{ks:List (List Int)}{K:Res->Prop}(h:ks.length < 4000/\(2<=(srt ks).length->∀ k∈ks,k≠[]))(k:K (.own (.lst ((srt ks).map tI)))):OK1 (dM [.lst (ks.map tI)]) K:=by rw[cI4];exact⟨h,k⟩
def cT0{ks:List (List Int)}{K:Res->Prop}(h:ks.length < 4000/\(2<=(srt ks).length->∀ k∈ks,k≠[]))(k:K (.own (.lst ((srt ks).map tI)))):OK1 (dM [.tup (ks.map tI)]) K:=by rw[cI5];exact⟨h,k⟩
def bX1{a b:Int}{l:List Str}(hz:l.length<=100){K:Res->List Sl->Prop}(k:∀ (ks:List (List Int)) f g,ks.length<=60->(∀ k∈ks,k.length=l.length)->aZ3 ks->K (.val (.tup (ks.map tI))) [⟨.par,.lst [.int f,.int g]⟩,⟨.val,.tup (l.map D.str)⟩,⟨.val,.int 60⟩]) :
  CK dZ [⟨.par,.lst [.int a,.int b]⟩,⟨.val,.tup (l.map D.str)⟩,⟨.val,.int 60⟩] K:=by
 unfold dZ;rw[cS];show RS fD [_,_,_,none,none,none,none] _;unfold fD;walk_at "dx";refine⟨by decide,cQ (by decide) (by decide) λn I J t u=>?_⟩;obtain⟨m,hm,v,L⟩:=bX0 t u;walk_at "dx";rw[hm];walk_at "dx";refine⟨by decide,cQ (by decide) (by decide) λn2 M N q r=>?_⟩;obtain⟨c,w,x,O⟩:=cJ9 (a:=61) (b:=6) q r (by decide) (by decide);walk_at "dx";rw[show(60:Int)+1=61 from rfl,w];walk_at "dx";refine cQ x (by lia) λn3 z A B C=>?_;walk_at "dx";refine⟨by lia,by rw[gO];exact a6b (by lia:n3.toNat<=100) (by decide),?_⟩;refine iL _ _ (λi acc τ=>i<=61/\∃ (ks:List (List Int)) (f g:Int),acc=ks.map tI/\ks.length=i/\(∀ k∈ks,k.length=l.length)/\τ=[some ⟨.par,.lst [.int f,.int g]⟩,some ⟨.val,.tup (l.map D.str)⟩,some ⟨.val,.int 60⟩,some ⟨.val,.int m⟩,some ⟨.val,.int n3⟩,none,none]) ⟨by lia,[],z,A,rfl,rfl,by simp,rfl⟩ ?_ ?_;rintro i d acc τ hd ⟨_,ks,f,g,rfl,o,p,rfl⟩;obtain⟨hi,rfl⟩:=xO hd;walk_at "dx";rw[aA9];refine⟨by rw[a7a];exact a6b hz (by decide),?_⟩;refine iL _ _ (λj acc τ=>∃ (vs:List Int) (f g:Int),acc=vs.map D.int/\vs.length=j/\τ=[some ⟨.par,.lst [.int f,.int g]⟩,some ⟨.val,.tup (l.map D.str)⟩,some ⟨.val,.int 60⟩,some ⟨.val,.int m⟩,some ⟨.val,.int n3⟩,some ⟨.val,.int (0+(i:Int))⟩,none]) ⟨[],f,g,rfl,rfl,rfl⟩ ?_ ?_;rintro j d acc τ hd ⟨vs,f,g,rfl,o,rfl⟩;walk_at "dx";refine cQ v (by lia) λe E F P Q=>?_;walk_at "dx";exact⟨_,rfl,vs++[e],E,F,by rw[a3d];rfl,by rw[a9a,o];rfl,rfl⟩;rintro acc τ ⟨vs,f,g,rfl,G,rfl⟩;refine⟨_,rfl,by lia,ks++[vs],f,g,by rw[a3d];rfl,by rw[a9a,o];rfl,?_,rfl⟩;intro k s;rcases a3c.mp s with h | h;exact p k h;rw[a8b]at h;subst h;rw[G,a7a];rintro acc τ ⟨_,ks,f,g,rfl,o,p,rfl⟩;walk_at "dx";rw[gO]at o;have R:=xJ ks;refine cK0 ⟨by lia,xR p⟩ ?_;walk_at "dx";exact k _ _ _ (by lia) (λy H=>p y ((eK ks y).mp H)) (fU ks)
theorem aL9{z:Str}{K:List D->Prop}:OK1 (qQ (.str z)) K=K (iA z):=rfl
theorem aM0{l:List D}{K:List D->Prop}:OK1 (cW3 (.tup l)) K=K l:=rfl
local macro_rules | `(tactic| walk_at "dx")=>do
 let l:=("bZ0 qT qU qV qW qX qY qZ rA rB rC rD rE rF rG rH rJ aO4 rK lB lC lD rL rM lE lF lG rN rO aO5 rP rQ aO6 rR rS rT rU rV lH lI rW rX rY rZ sA lJ sC lK sD sE sF sG sH sI sJ sK lL lM sM sN sO sP sQ sR sS sV sW sZ aO7 iT lO tE lP tS tT tU tV tW tX tY tZ uA mL aO8 uB lZ iX gB wA jM aR1 wD iZ vK vL vM vN vO vP vQ vR uD mB mD mE uE uF uG uH uI aO9 aP0 aP1 aP2 uJ uL uM mF mG uN mH uO uP mI iU uQ mJ aP3 uK uR uT uU uV aP4 uX bZ1 uY aA8 pV aA7 aA9 aL8 aL9 aM0 uZ uW bE vA vB vC vD tF tG tH tJ tK tL tM tN tO lQ lS lT lU tP tQ tR reduceIte".splitOn " ").toArray.map fun s=>Lean.mkIdent s.toName
 let m:=("bA5 List.getElem?_cons_succ List.getElem?_cons_zero Option.getD_some vE vF vG aE1 aP5 Int.reducePow Int.reduceNeg Int.reduceLT Int.reduceLE Nat.reducePow Nat.reduceLT Int.reduceToNat Nat.reduceLeDiff vJ vH aP6 vI lV lW lX lY List.set_cons_zero List.set_cons_succ cR aN9 List.length_cons List.length_nil Nat.reduceAdd Nat.zero_add true_and and_true and_self Bool.not_false Bool.not_true Bool.false_eq_true Bool.true_and Bool.and_true Bool.or_false decide_eq_true_eq".splitOn " ").toArray.map fun s=>Lean.mkIdent s.toName
 `(tactic| simp only[$[↓$l:ident],*,$[$m:ident],*])
def aG7{a:Type}(f:a->D)(l:List a)(lo hi:Option Int):∃ l':List a,bL7 (l.map f) lo hi=l'.map f/\l'.length<=l.length/\∀ z∈l',z∈l:=by
 refine⟨(l.drop (HT.sIx (l.map f).length 0 lo)).take (HT.sIx (l.map f).length (l.map f).length hi-HT.sIx (l.map f).length 0 lo),?_,?_,λz b=>List.mem_of_mem_drop (a8f b)⟩;unfold bL7;rw[List.map_take,List.map_drop];rw[a8e,a9f];lia
theorem bB0{P:Str->Prop}:∀ {ys:List D},(∀ y∈ys,∃ z,P z/\y=.str z)->∃ l:List Str,ys=l.map D.str/\∀ z∈l,P z
 | [],_=>⟨[],rfl,by simp⟩
 | y::r,h=>by
   obtain⟨z,b,rfl⟩:=h y a3a;obtain⟨l,rfl,c⟩:=bB0 λy d=>h y (a4a _ d);exact⟨z::l,rfl,λx a=>by
    rcases a7b.mp a with rfl | a;exact b
    ·exact c x a⟩
def bB1{ys:List D}{a:List Str}(h:ys.Perm (a.map D.str)){P:Str->Prop}(b:∀ z∈a,P z):∃ l:List Str,ys=l.map D.str/\l.length=a.length/\∀ z∈l,P z:=by
 obtain⟨l,rfl,c⟩:=bB0 (ys:=ys) (P:=P) λy d=>by
  obtain⟨z,e,rfl⟩:=a7e.mp (h.mem_iff.mp d);exact⟨z,b z e,rfl⟩
 have:=h.length_eq;rw[a7a,a7a]at this;exact⟨l,rfl,this,c⟩
def aM1{a b:Int}{c:List Str}(hz:c.length<=7)(g:∀ z∈c,Tx z){K:Res->List Sl->Prop}(k:∀ (cs:List Str) (ks:List (List Int)) i j,cs.length<=7->(∀ z∈cs,Tx z)->ks.length<=60->(∀ k∈ks,k.length=cs.length)->aZ3 ks->K (.val (.tup [.tup (cs.map D.str),.tup (ks.map tI)])) [⟨.par,.lst [.int i,.int j]⟩,⟨.par,.lst (c.map D.str)⟩,⟨.val,.int 60⟩]) :
  CK cG [⟨.par,.lst [.int a,.int b]⟩,⟨.par,.lst (c.map D.str)⟩,⟨.val,.int 60⟩] K:=by
 unfold cG;rw[cS];show RS eA [_,_,_,none] _;unfold eA;walk_at "dx";refine⟨rfl,bI6 (xs:=c.map D.str) (.inl ⟨rfl,rfl⟩) (by rw[a7a];lia) λys s t m=>?_⟩;obtain⟨l,rfl,u,d⟩:=bB1 m g;walk_at "dx";refine cQ (by rw[a7a];lia) (by rw[a7a];lia) λn v w x n1=>?_;obtain⟨cs,e,o,f⟩:=aG7 D.str l none (some n);walk_at "dx";rw[e];refine bX1 (by lia) λks y A p q r=>?_;walk_at "dx";exact⟨sl2,k _ _ _ _ (by lia) (λz h=>d z (f z h)) p q r⟩
def bB2{r:DT}{σ:Sg}{Q a:Bool->Sg->Prop}(h:RT r σ Q)(w:∀ b c,Q b c->a b c):RT r σ a:=dI h λx=>w x.1 x.2
def bB3{r:DE}{σ:Sg}{Q a:Res->Sg->Prop}(h:RE r σ Q)(w:∀ b c,Q b c->a b c):RE r σ a:=dI h λx=>w x.1 x.2
def gF{m:Type}{g:D->Sg->Option Sg}{ow:List Nat}{t:DT}{e:DE}{K:List D×Sg->Prop}(f:m->D)(u:m->D)(xs:List m){a:Sg}(l:Sg)(q:a=l)
  (hs:∀ x∈xs,OK1 (g (u x) l) λc=>RT t c λb h=>b=true/\RE e h λr j=>r=.val (f x)/\bM ow j=l) (k:K (xs.map f,l)):OK1 (aQ5 ow g t e (xs.map u) a) K:=by
 subst q;refine iL _ _ (λi acc τ'=>acc=(xs.take i).map f/\τ'=a) ⟨rfl,rfl⟩ ?_ ?_;rintro i d acc τ' hd ⟨rfl,rfl⟩;rw[a0c]at hd;obtain⟨x,o,rfl⟩:=a5c.mp hd;refine dI (hs x (a2c o)) λc s=>bB2 s λb h n=>?_;obtain⟨rfl,n⟩:=n;rw[a2H rfl];refine bB3 n λr j p=>?_;exact⟨_,p.1,by rw[a7g,o,a3d];rfl,p.2⟩;rintro acc τ' ⟨rfl,rfl⟩;rw[a7a,List.take_length];exact k
def cE{n:Type}{g:D->Sg->Option Sg}{ow:List Nat}{t:DT}{e:DE}{K:List D×Sg->Prop}(p:n->Bool)(f:n->D)(u:n->D)(xs:List n){a:Sg}(j:Sg)(o:a=j)
  (hs:∀ x∈xs,OK1 (g (u x) j) λl=>RT t l λb c=>b=p x/\bM ow c=j/\RE e c λr m=>r=.val (f x)/\bM ow m=j) (k:K ((xs.filter p).map f,j)):OK1 (aQ5 ow g t e (xs.map u) a) K:=by
 subst o;refine iL _ _ (λi acc τ'=>acc=((xs.take i).filter p).map f/\τ'=a) ⟨rfl,rfl⟩ ?_ ?_
 ·rintro i d acc τ' hd ⟨rfl,rfl⟩;rw[a0c]at hd;obtain⟨x,v,rfl⟩:=a5c.mp hd;refine dI (hs x (a2c v)) λl y=>bB2 y λb c s=>?_;obtain⟨rfl,s,z⟩:=s;have o:(xs.take (i+1)).filter p=(xs.take i).filter p++(if p x=true then[x]else[]):=by
   rw[a7g,v,List.filter_append];cases h:p x<;>simp[h]
  by_cases q:p x=true;rw[a2H q];refine bB3 z λr m w=>?_;exact⟨_,w.1,by rw[o,a2H q,a3d];rfl,w.2⟩;rw[a2I q];exact⟨by rw[o,a2I q,a2f],s⟩
 ·rintro acc τ' ⟨rfl,rfl⟩;rw[a7a,List.take_length];exact k
local macro_rules | `(tactic| walk_at "dx")=>do
 let l:=("aG1 bZ0 qT qU qV qW qX qY qZ rA rB rC rD rE rF rG rH rJ aO4 rK lB lC lD rL rM lE lF lG rN rO aO5 rP rQ aO6 rR rS rT rU rV lH lI rW rX rY rZ sA lJ sC lK sD sE sF sG sH sI sJ sK lL lM sM sN sO sP sQ sR sS sV sW sZ aO7 iT lO tE lP tS tT tU tV tW tX tY tZ uA mL aO8 uB lZ iX gB wA jM aR1 wD iZ vK vL vM vN vO vP vQ vR uD mB mD mE uE uF uG uH uI aO9 aP0 aP1 aP2 uJ uL uM mF mG uN mH uO uP mI iU uQ mJ aP3 uK uR uT uU uV aP4 uX bZ1 uY aA8 pV aA7 aA9 aL8 aL9 aM0 uZ uW bE vA vB vC vD tF tG tH tJ tK tL tM tN tO lQ lS lT lU tP tQ tR reduceIte".splitOn " ").toArray.map fun s=>Lean.mkIdent s.toName
 let m:=("bA5 List.getElem?_cons_succ List.getElem?_cons_zero Option.getD_some vE vF vG aE1 aP5 Int.reducePow Int.reduceNeg Int.reduceLT Int.reduceLE Nat.reducePow Nat.reduceLT Int.reduceToNat Nat.reduceLeDiff vJ vH aP6 vI lV lW lX lY List.set_cons_zero List.set_cons_succ cR aN9 List.length_cons List.length_nil Nat.reduceAdd Nat.zero_add true_and and_true and_self Bool.not_false Bool.not_true Bool.false_eq_true Bool.true_and Bool.and_true Bool.or_false decide_eq_true_eq".splitOn " ").toArray.map fun s=>Lean.mkIdent s.toName
 `(tactic| simp only[$[↓$l:ident],*,$[$m:ident],*])
def bI9{i:Int}{K:Res->List Sl->Prop}(k:K (.val (.bl true)) [⟨.val,.int i⟩]):CK dB [⟨.val,.int i⟩] K:=by
 unfold dB;rw[cS];show RS eB [_] _;unfold eB;walk_at "dx";exact k
noncomputable def pk(cs so:List Str)(row:List Int):List Int:=so.map λz=>row.getD (cs.idxOf z) 0
def bN3{row:List Int}{n:Nat}(h:n < row.length):atI (row.map D.int) (n:Int)=some (.int (row.getD n 0)):=by
 rw[aU2];unfold atI ixN;rw[a2H (by lia),a2H (by lia)];simp[h]
def gZ{a:Type}{l:List a}(h:l.length<=100):l.length<=sizeLine:=a6b h (by decide)
def aK0{cs:List Str}{z:Str}(h:z∈cs):cs.idxOf z < cs.length:=List.idxOf_lt_length_of_mem h
def cK1(cs so:List Str)(row:List Int):tI (pk cs so row)=.tup (so.map λz=>.int (row.getD (cs.idxOf z) 0)):=by
 unfold tI pk;rw[List.map_map];rfl
def cK2{cs:List Str}{ks:List (List Int)}{r:D}{m:Md}(hm:(m=.par\/m=.val)/\r=.lst (ks.map tI)\/m=.val/\r=.tup (ks.map tI))(h:ks.length < 4000/\(2<=(srt ks).length->∀ k∈ks,k≠[]))
  {K:Res->List Sl->Prop} (k:K (.val (.tup [.tup (cs.map D.str),.tup ((srt ks).map tI)])) [⟨.val,.tup (cs.map D.str)⟩,⟨m,r⟩]):CK eE [⟨.val,.tup (cs.map D.str)⟩,⟨m,r⟩] K:=by
 unfold eE;rw[cS];show RS fE [_,_] _;unfold fE;rcases hm with⟨rfl | rfl,rfl⟩ | ⟨rfl,rfl⟩;walk_at "dx";refine cK0 h ?_;walk_at "dx";exact⟨sl2,k⟩;walk_at "dx";refine cK0 h ?_;walk_at "dx";exact⟨sl2,k⟩;walk_at "dx";refine cT0 h ?_;walk_at "dx";exact⟨sl2,k⟩
def kO{cs so:List Str}{row:List Int}(a:row.length=cs.length)(hs:∀ z∈so,z∈cs)(c:so.length<=100){K:Res->List Sl->Prop}(k:K (.val (tI (pk cs so row))) [⟨.val,tI row⟩,⟨.par,.lst (so.map λz=>.int (cs.idxOf z:Nat))⟩]) :
  CK bZ [⟨.val,tI row⟩,⟨.par,.lst (so.map λz=>.int (cs.idxOf z:Nat))⟩] K:=by
 unfold bZ;rw[cS];show RS iN [_,_,none] _;unfold iN;walk_at "dx";refine⟨gZ (by rwa[a7a]),gF (λz=>.int (row.getD (cs.idxOf z) 0)) (λz=>.int (cs.idxOf z:Nat)) so [_,_,none] rfl (λz b=>?_) ?_⟩;walk_at "dx";rw[bN3 (by rw[a];exact aK0 (hs z b))];exact⟨rfl,rfl⟩;walk_at "dx";rw[cK1]at k;exact k
noncomputable def ov(b:Bool)(d:D):Option Sl:=if b=true then some ⟨.val,d⟩else none
theorem bN4{b:Bool}{d:D}{r:Sg}{s:Sl}{K:Sg->Prop}:Dv.PK 0 (ov b d::r) s K=K (some s::r):=by cases b<;>rfl
def xS{neg:Bool}{d:D}(h:cB d=true){K:Res->Prop}(k:K (.val (.bl (!neg)))):OK1 (eqD neg d d) K:=by
 have e:qE d d=true:=SeqAt.eqv_refl _ (bQ h).1;show OK1 (if _ then _ else none) K;rw[aZ,e];refine⟨⟨h,h⟩,?_⟩;cases neg<;>exact k
theorem xT{m:Nat}(hm:m<=59):∀ (l:List D),(∀ d∈l,cB d=true/\(eX d).depth<=m)->(cB (.tup l)=true/\cB (.lst l)=true)/\(eX (.tup l)).depth<=m+1
 | [],_=>⟨⟨rfl,rfl⟩,by simp[eX,toPys,PyData.depth,PyData.depthAll]⟩
 | d::r,h=>by
   obtain⟨⟨a,b⟩,c⟩:=xT hm r λx e=>h x (a4a _ e);obtain⟨p,q⟩:=h d a3a;obtain⟨f,k⟩:=bQ p;obtain⟨g,n⟩:=bQ a;have i:(eX (.tup (d::r))).canLay0=((eX d).canLay0&&(eX (.tup r)).canLay0):=by
    simp only[eX,toPys,PyData.canLay0,PyData.canLayAll0]
   have j:(eX (.tup (d::r))).depth<=m+1:=by
    simp only[eX,toPys,PyData.depth,PyData.depthAll]at c ⊢;lia
   refine⟨⟨?_,aL6 d r p b (a6b q hm)⟩,j⟩;unfold cB;rw[a9d,a2K,i,f,g];exact⟨rfl,by lia⟩
def cK3(k:List Int):cB (tI k)=true/\(eX (tI k)).depth<=1:=by
 obtain⟨⟨a,_⟩,b⟩:=xT (m:=0) (by decide) (k.map D.int) λd hd=>by
  obtain⟨i,_,rfl⟩:=a7e.mp hd;exact⟨rfl,a8a 0⟩
 exact⟨a,b⟩
def bX2(ks:List (List Int)):cB (.tup (ks.map tI))=true/\cB (.lst (ks.map tI))=true:=
 (xT (m:=1) (by decide) (ks.map tI) λd hd=>by
  obtain⟨i,_,rfl⟩:=a7e.mp hd;exact cK3 i).1
def bJ0{a:List Str}(h:∀ z∈a,Tx z):cB (.tup (a.map D.str))=true:=
 (xT (m:=0) (by decide) (a.map D.str) λd hd=>by
  obtain⟨i,hi,rfl⟩:=a7e.mp hd;exact⟨xP (h i hi).2,a8a 0⟩).1.1
theorem bN5{l:List D}{K:Res->Prop}:OK1 (aW5 "tuple" (.tup l)) K=K (.val (.bl true)):=rfl
theorem bN6{l:List D}{K:Res->Prop}:OK1 (aW5 "list" (.lst l)) K=K (.val (.bl true)):=rfl
theorem bN7{i j:Int}{K:Res->Prop}:OK1 (eqD true (.int i) (.int j)) K=K (.val (.bl (!decide (i=j)))):=by
 have h:qE (.int i) (.int j)=decide (i=j):=by
  show(i==j)=_;rw[a4f];simp
 show OK1 (if cB (.int i)=true/\cB (.int j)=true then some (Res.val (.bl (if true then !qE (.int i) (.int j)else qE (.int i) (.int j))))else none) K=_;rw[a2H ⟨rfl,rfl⟩,h];rfl
local macro_rules | `(tactic| walk_at "dx")=>do
 let l:=("bN5 bN6 bN7 bN4 aG1 bZ0 qT qU qV qW qX qY qZ rA rB rC rD rE rF rG rH rJ aO4 rK lB lC lD rL rM lE lF lG rN rO aO5 rP rQ aO6 rR rS rT rU rV lH lI rW rX rY rZ sA lJ sC lK sD sE sF sG sH sI sJ sK lL lM sM sN sO sP sQ sR sS sV sW sZ aO7 iT lO tE lP tS tT tU tV tW tX tY tZ uA mL aO8 uB lZ iX gB wA jM aR1 wD iZ vK vL vM vN vO vP vQ vR uD mB mD mE uE uF uG uH uI aO9 aP0 aP1 aP2 uJ uL uM mF mG uN mH uO uP mI iU uQ mJ aP3 uK uR uT uU uV aP4 uX bZ1 uY aA8 pV aA7 aA9 aL8 aL9 aM0 uZ uW bE vA vB vC vD tF tG tH tJ tK tL tM tN tO lQ lS lT lU tP tQ tR reduceIte".splitOn " ").toArray.map fun s=>Lean.mkIdent s.toName
 let m:=("bA5 List.getElem?_cons_succ List.getElem?_cons_zero Option.getD_some vE vF vG aE1 aP5 Int.reducePow Int.reduceNeg Int.reduceLT Int.reduceLE Nat.reducePow Nat.reduceLT Int.reduceToNat Nat.reduceLeDiff vJ vH aP6 vI lV lW lX lY List.set_cons_zero List.set_cons_succ cR aN9 List.length_cons List.length_nil Nat.reduceAdd Nat.zero_add true_and and_true and_self Bool.not_false Bool.not_true Bool.false_eq_true Bool.true_and Bool.and_true Bool.or_false decide_eq_true_eq".splitOn " ").toArray.map fun s=>Lean.mkIdent s.toName
 `(tactic| simp only[$[↓$l:ident],*,$[$m:ident],*])
def cQ9{a:Type}(y:List a):(y.map λ_=>D.bl true)=(y.map λ_=>true).map D.bl:=by rw[List.map_map];rfl
def bJ1{a:Type}(y:List a):(y.map λ_=>true).all id=true:=by simp
def pW{cs:List Str}{ks:List (List Int)}{r:D}{m:Md}(hm:m=.par/\r=.lst (ks.map tI)\/m=.val/\r=.tup (ks.map tI))(e:∀ z∈cs,Tx z)(h:ks.length < 4000/\(2<=(srt ks).length->∀ k∈ks,k≠[]))
  (f:∀ k∈ks,k.length<=100) {K:Res->List Sl->Prop} (k:K (.val (.bl true)) [⟨.val,.tup [.tup (cs.map D.str),.tup ((srt ks).map tI)]⟩,⟨.val,.tup (cs.map D.str)⟩,⟨m,r⟩]) :
  CK aV [⟨.val,.tup [.tup (cs.map D.str),.tup ((srt ks).map tI)]⟩,⟨.val,.tup (cs.map D.str)⟩,⟨m,r⟩] K:=by
 have sl:∀ y∈srt ks,(y.map D.int).length<=sizeLine:=λy a=>by
  rw[a7a];exact gZ (f y ((eK ks y).mp a))
 unfold aV;rw[cS];show RS cD [_,_,_,none,none] _;unfold cD;rcases hm with⟨rfl,rfl⟩ | ⟨rfl,rfl⟩
 all_goals
  walk_at "dx";rw[a2I (by decide)];refine pQ (λi c=>∃ b d,c=[_,_,_,ov b d,none]) ⟨false,.non,rfl⟩ ?_ ?_;rintro i d c hd ⟨b,d',rfl⟩;rw[a0c]at hd;obtain⟨y,a,rfl⟩:=a5c.mp hd;walk_at "dx";refine⟨sl y (a2c a),gF (λ_=>.bl true) D.int y [_,_,_,_,none] rfl (λx g=>?_) ?_⟩;walk_at "dx";refine bI9 ?_;walk_at "dx";exact rfl;rw[cQ9 y];walk_at "dx";rw[bJ1];exact⟨_,.inl rfl,true,tI y,rfl⟩;rintro σ' ⟨b,d,rfl⟩;walk_at "dx";refine xS (bJ0 e) ?_;walk_at "dx"
  first
  | refine cK0 h ?_
  | refine cT0 h ?_
  walk_at "dx";refine xS (bX2 _).1 ?_;walk_at "dx";exact k
def bB4{a:Type}{o:Option a}{x:a}{K:a->Prop}(e:o=some x)(k:K x):OK1 o K:=eO.mpr ⟨x,e,k⟩
def bX3{g row:Nat}{ri:DI}{a:DE}{b:DA}{σ:Sg}{Q:Out->Prop}(h0:σ[g]? = some none)(h:RI ri (σ.set g (some SG)) λitems l σ1=>l=none/\σ1[g]? = some (some SG)/\items.length < 4000/\OK1 (bW3 row a b items [] (σ1.set g none)) λy=>Q (.rt (.own (bI2 y.1)) (y.2.set g none))):RS (bZ2 g row ri a b) σ Q:=by
 obtain⟨x,e,c,d,f,i⟩:=eO.mp h;obtain⟨y,j,q⟩:=eO.mp i;refine bB4 (x:=.rt (.own (bI2 y.1)) (y.2.set g none)) ?_ q;unfold bZ2;rw[a2H h0,e];exact(a2H ⟨c,d,f⟩).trans (by rw[j];rfl)
theorem aM2{h:Type}{row:Nat}{i:DE}{j:DA}{K:GA0×Sg->Prop}(u:h->D)(f:h->List Key)(v:h->D)(P:Sg->Prop):∀ (xs:List h) (acc:GA0) (b:Sg),P b ->
  (∀ x∈xs,∀ b,P b->OK1 (dgN row (u x) b) λc=>RE i c λr d=>cI8 r=some (f x)/\RA j d λrs g=>vals rs=some [v x]/\P g)->(∀ b,P b->K (xs.foldl (λa x=>aB6 (f x) (v x) a) acc,b))->OK1 (bW3 row i j (xs.map u) acc b) K
 | [],acc,b,l,_,k=>bB4 rfl (k b l)
 | x::xs,acc,b,l,hs,k=>by
   obtain⟨c,m,n⟩:=eO.mp (hs x a3a b l);obtain⟨⟨r,d⟩,o,p,s⟩:=eO.mp n;obtain⟨⟨rs,g⟩,t,w,A⟩:=eO.mp s;obtain⟨z,e,q⟩:=eO.mp (aM2 (K:=K) u f v P xs (aB6 (f x) (v x) acc) g A (λy B=>hs y (a4a _ B)) k);refine bB4 (x:=z) ?_ q;show(dgN row (u x) b).bind _=some z;rw[m];show(i c).bind _=some z;rw[o];show(cI8 r).bind _=some z;rw[p];show(j d).bind _=some z;rw[t];show(vals rs).bind _=some z;rw[w];exact e
noncomputable def lk:GA0->List Key->Option (List D)
 | [],_=>none
 | p::r,k=>if p.1=k then some p.2 else lk r k
theorem iP:∀ k:List Key,mP (k.map qB)=some k
 | []=>rfl
 | x::r=>by
   show(cQ4 (qB x)).bind _=_;have e:cQ4 (qB x)=some x:=by cases x<;>rfl
   rw[e];show(mP (r.map qB)).bind _=_;rw[iP r];rfl
theorem xU(k:List Key):∀ acc:GA0,aG0 (acc.map λp=>.tup (p.1.map qB)) (acc.map λp=>.lst p.2) k=some ((lk acc k).map .lst)
 | []=>rfl
 | p::r=>by
   show(mP (p.1.map qB)).bind _=some ((if p.1=k then some p.2 else lk r k).map D.lst);rw[iP];show(if p.1=k then _ else _)=_;by_cases e:p.1=k;rw[a2H e,a2H e];rfl;rw[a2I e,a2I e];exact xU k r
theorem bN8(k j:List Key)(v:D):∀ acc:GA0,lk (aB6 k v acc) j=if k=j then some ((lk acc k).getD []++[v])else lk acc j
 | []=>by show(if k=j then _ else _)=_;rfl
 | p::r=>by
   show lk (if p.1=k then _ else _) j=_;by_cases e:p.1=k;rw[a2H e];show(if p.1=j then _ else _)=_;by_cases z:k=j;rw[a2H (e.trans z),a2H z];show _=some ((if p.1=k then some p.2 else _).getD []++[v]);rw[a2H e];rfl;rw[a2I (λq=>z (e.symm.trans q)),a2I z];show _=(if p.1=j then _ else _);rw[a2I (λq=>z (e.symm.trans q))]
   ·rw[a2I e];show(if p.1=j then _ else _)=_;rw[bN8 k j v r];show _=if k=j then some ((if p.1=k then some p.2 else lk r k).getD []++[v])else(if p.1=j then _ else _)
    rw[a2I e];by_cases z:k=j;rw[a2H z,a2I (λq=>e (q.trans z.symm)),a2H z];rw[a2I z,a2I z]
theorem bB5{b:Type}(f:b->List Key)(v:b->D)(k:List Key):∀ (xs:List b) (acc:GA0),((lk (xs.foldl (λa x=>aB6 (f x) (v x) a) acc) k).getD []=(lk acc k).getD []++(xs.filter λx=>decide (f x=k)).map v) /\
  ((lk (xs.foldl (λa x=>aB6 (f x) (v x) a) acc) k).isSome=((lk acc k).isSome||xs.any λx=>decide (f x=k)))
 | [],acc=>by simp
 | x::xs,acc=>by
   obtain⟨c,d⟩:=bB5 f v k xs (aB6 (f x) (v x) acc);rw[List.foldl_cons,c,d,bN8];by_cases e:f x=k;simp[e];simp[e]
noncomputable abbrev tD(cs:List Str)(ks:List (List Int)):D:=.tup [.tup (cs.map D.str),.tup (ks.map tI)]
def aB0{neg:Bool}{z:Str}{a:List Str}(hz:As z)(h:∀ z∈a,As z){K:Res->Prop}(k:K (.val (.bl (if neg=true then !a.contains z else a.contains z)))):OK1 (inD neg (.str z) (.tup (a.map D.str))) K:=by
 show OK1 (if _ then _ else none) K;rw[aZ];refine⟨⟨xP hz,xQ h⟩,?_⟩;have e:((a.map D.str).any λy=>qE y (.str z))=a.contains z:=by
  rw[List.any_map,List.contains_eq_any_beq];congr 1;funext y;show(y==z)=(z==y);rw[a4f,a2J,a2J,eq_comm]
 rw[e];exact k
def jA{cs so:List Str}(hs:∀ z∈so,z∈cs)(b:so.length<=100){K:Res->List Sl->Prop}(k:K (.own (.lst (so.map λz=>.int (cs.idxOf z:Nat)))) [⟨.val,.tup (cs.map D.str)⟩,⟨.par,.lst (so.map D.str)⟩]) :
  CK bA [⟨.val,.tup (cs.map D.str)⟩,⟨.par,.lst (so.map D.str)⟩] K:=by
 unfold bA;rw[cS];show RS eC [_,_,none] _;unfold eC;walk_at "dx";refine⟨gZ (by rwa[a7a]),gF (λz=>.int (cs.idxOf z:Nat)) D.str so [_,_,none] rfl (λz a=>?_) ?_⟩;walk_at "dx";exact⟨hs z a,rfl⟩;walk_at "dx";exact k
noncomputable def cmn(cs ds:List Str):List Str:=cs.filter λz=>ds.contains z
noncomputable def mor(cs ds:List Str):List Str:=ds.filter λz=>!cs.contains z
def aR5{cs ds:List Str}:∀ z∈cmn cs ds,z∈cs:=λz h=>(List.mem_filter.mp h).1
def bJ2{cs ds:List Str}:∀ z∈cmn cs ds,z∈ds:=λz h=>by simpa using(List.mem_filter.mp h).2
def bX4{cs ds:List Str}:∀ z∈mor cs ds,z∈ds:=λz h=>(List.mem_filter.mp h).1
def aB1{cs ds:List Str}{ks js:List (List Int)}(d:cs.length<=7)(a:∀ z∈cs,Tx z)(b:∀ z∈ds,Tx z){K:Res->List Sl->Prop}(k:K (.own (.lst ((cmn cs ds).map D.str))) [⟨.val,tD cs ks⟩,⟨.val,tD ds js⟩]) :
  CK aT [⟨.val,tD cs ks⟩,⟨.val,tD ds js⟩] K:=by
 unfold aT;rw[cS];show RS bR [_,_,none] _;unfold bR;walk_at "dx";refine⟨gZ (by rw[a7a];lia),cE (λz=>ds.contains z) D.str D.str cs [_,_,none] rfl (λz c=>?_) k⟩;walk_at "dx";refine aB0 (a z c).2 (λz h=>(b z h).2) ?_;walk_at "dx";rfl
def bX5(l:List Int):cI8 (.val (tI l))=some (l.map Sum.inl):=by
 show mP (l.map D.int)=_;have:l.map D.int=(l.map (Sum.inl:Int->Key)).map qB:=by rw[List.map_map];rfl
 rw[this,iP]
noncomputable def grs(cs so mo:List Str)(ks:List (List Int)):GA0:=ks.foldl (λa x=>aB6 ((pk cs so x).map Sum.inl) (tI (pk cs mo x)) a) []
def wF{cs so mo:List Str}{ks:List (List Int)}(c:∀ y∈ks,y.length=cs.length)(g:ks.length<=60)(hs:∀ z∈so,z∈cs)(hm:∀ z∈mo,z∈cs)(sl:so.length<=100)(e:mo.length<=100){K:Res->List Sl->Prop}
  (k:K (.own (bI2 (grs cs so mo ks))) [⟨.val,tD cs ks⟩,⟨.par,.lst (so.map D.str)⟩,⟨.par,.lst (mo.map D.str)⟩]) :
  CK cP [⟨.val,tD cs ks⟩,⟨.par,.lst (so.map D.str)⟩,⟨.par,.lst (mo.map D.str)⟩] K:=by
 unfold cP;rw[cS];show RS gD [_,_,_,none,none,none,none] _;unfold gD;walk_at "dx";refine jA hs sl ?_;walk_at "dx";refine jA hm e ?_;walk_at "dx";refine bX3 rfl ?_;walk_at "dx";refine⟨by rw[a7a];lia,aM2 tI (λx=>(pk cs so x).map Sum.inl) (λx=>tI (pk cs mo x)) (λa=>∃ b d,a=[_,_,_,_,_,none,ov b d]) ks [] _ ⟨false,.non,rfl⟩ ?_ ?_⟩;rintro x f a ⟨b,d,rfl⟩;walk_at "dx";refine kO (c x f) hs sl ?_;walk_at "dx";refine⟨bX5 _,kO (c x f) hm e ?_⟩;walk_at "dx";exact⟨rfl,true,_,rfl⟩;rintro a ⟨b,d,rfl⟩;walk_at "dx";exact k
end Mr
namespace Dv
open PySem L2 Mr
mutual
def smp:D->Bool
 | .non=>true
 | .int _=>true
 | .str z=>PyData.strOk z
 | .tup l=>smps l
 | .lst l=>smps l
 | _=>false
def smps:List D->Bool
 | []=>true
 | d::r=>smp d&&smps r
end
mutual
theorem bB6:∀ {d:D},smp d=true->(eX d).canLay0=true
 | .non,_=>rfl
 | .int _,_=>rfl
 | .str z,h=>h
 | .tup l,h=>smps_lay (l:=l) h
 | .lst l,h=>smps_lay (l:=l) h
 | .bl _,h=>nomatch h
 | .dic _ _,h=>nomatch h
theorem smps_lay:∀ {l:List D},smps l=true->PyData.canLayAll0 (toPys l)=true
 | [],_=>rfl
 | d::r,h=>by
   have h':smp d=true/\smps r=true:=by simpa[smps]using h
   show((eX d).canLay0&&PyData.canLayAll0 (toPys r))=true;rw[bB6 h'.1,smps_lay h'.2];rfl
end
mutual
theorem bB7:∀ {d e:D},smp d=true->smp e=true->(PyData.eqv (eX d) (eX e)=true↔d=e)
 | .non,e,_,he=>by cases e<;>simp_all [eX,PyData.eqv,smp]
 | .str x,e,_,he=>by cases e<;>simp_all [eX,PyData.eqv,smp]
 | .int i,e,_,he=>by cases e<;>simp_all [eX,PyData.eqv,smp]
 | .tup l,e,hd,he=>by
   cases e with
   | tup m=>
     show PyData.eqvAll (toPys l) (toPys m)=true↔_;rw[eqvs_smp (l:=l) (m:=m) hd he,D.tup.injEq]
   | _=>simp_all [eX,PyData.eqv,smp]
 | .lst l,e,hd,he=>by
   cases e with
   | lst m=>
     show PyData.eqvAll (toPys l) (toPys m)=true↔_;rw[eqvs_smp (l:=l) (m:=m) hd he,D.lst.injEq]
   | _=>simp_all [eX,PyData.eqv,smp]
 | .bl _,_,h,_=>nomatch h
 | .dic _ _,_,h,_=>nomatch h
theorem eqvs_smp:∀ {l m:List D},smps l=true->smps m=true->(PyData.eqvAll (toPys l) (toPys m)=true↔l=m)
 | [],[],_,_=>by simp[toPys,PyData.eqvAll]
 | [],e::m,_,_=>by simp[toPys,PyData.eqvAll]
 | d::l,[],_,_=>by simp[toPys,PyData.eqvAll]
 | d::l,e::m,hd,he=>by
   have a:smp d=true/\smps l=true:=by simpa[smps]using hd
   have b:smp e=true/\smps m=true:=by simpa[smps]using he
   show((eX d).eqv (eX e)&&PyData.eqvAll (toPys l) (toPys m))=true↔_;rw[a9d,bB7 a.1 b.1,eqvs_smp a.2 b.2,List.cons.injEq]
end
structure Ok(n:Nat)(d:D):Prop where
 smp:Dv.smp d=true
 dep:(eX d).depth<=n
theorem aG8:∀ {l:List D},(∀ d∈l,smp d=true)->smps l=true
 | [],_=>rfl
 | d::r,h=>by
   show(smp d&&smps r)=true;rw[h d a3a,aG8 λx a=>h x (a4a _ a)];rfl
theorem aG9{n:Nat}:∀ {l:List D},(∀ d∈l,(eX d).depth<=n)->PyData.depthAll (toPys l)<=n
 | [],_=>a1d _
 | d::r,h=>Nat.max_le.mpr ⟨h d a3a,aG9 λx a=>h x (a4a _ a)⟩
theorem Ok.lst{n:Nat}{l:List D}(h:∀ d∈l,Ok n d):Ok (n+1) (.lst l):=⟨aG8 λd hd=>(h d hd).smp,Nat.succ_le_succ (aG9 λd hd=>(h d hd).dep)⟩
theorem Ok.tup{n:Nat}{l:List D}(h:∀ d∈l,Ok n d):Ok (n+1) (.tup l):=⟨aG8 λd hd=>(h d hd).smp,Nat.succ_le_succ (aG9 λd hd=>(h d hd).dep)⟩
theorem Ok.int{n:Nat}{i:Int}:Ok n (.int i):=⟨rfl,a1d _⟩
theorem Ok.str{n:Nat}{z:Str}(h:∀ c∈z.cps.toList,c < 128):Ok n (.str z):=by
 refine⟨?_,a1d _⟩;show PyData.strOk z=true;unfold PyData.strOk;rw[← Array.all_toList,a3i];intro c a;have:=h c a;simp;lia
def Ok.cmp{n:Nat}{d:D}(h:Ok n d)(hn:n<=60):cB d=true:=by
 unfold cB;rw[bB6 h.smp,a3j (a6b h.dep hn)];rfl
def bB8{n m:Nat}{d e:D}(a:Ok n d)(b:Ok m e):qE d e=decide (d=e):=by
 rw[a4f,a2K];exact bB7 a.smp b.smp
def cK4{neg:Bool}{n m:Nat}{d e:D}(a:Ok n d)(b:Ok m e)(hn:n<=60)(hm:m<=60){K:Res->Prop}(k:K (.val (.bl (if neg=true then !decide (d=e)else decide (d=e))))):OK1 (eqD neg d e) K:=by
 unfold eqD;rw[a2H ⟨a.cmp hn,b.cmp hm⟩,bB8 a b];exact k
theorem bN9{n m:Nat}{d:D}(h:Ok n d):∀ {l:List D},(∀ x∈l,Ok m x)->(l.any λy=>qE y d)=decide (d∈l)
 | [],_=>by simp
 | x::r,hl=>by
   rw[List.any_cons,bN9 h λy a=>hl y (a4a _ a),bB8 (hl x a3a) h,a4f,Bool.or_eq_true,a2K,a2K,a2K,a7b,eq_comm]
def cK5{neg:Bool}{n m:Nat}{d:D}{l:List D}{b:Bool}(c:Ok n d)(a:∀ x∈l,Ok m x)(hn:n<=60)(hm:m < 60){K:Res->Prop}(k:K (.val (.bl (if neg=true then !decide (d∈l)else decide (d∈l))))):OK1 (inD neg d (if b=true then .lst l else .tup l)) K:=by
 have e:inD neg d (if b=true then .lst l else .tup l)=if cB d=true/\cB (if b=true then .lst l else .tup l)=true then some (.val (.bl (if neg then !(l.any λy=>qE y d)else l.any λy=>qE y d)))else none:=by
  cases b<;>cases d<;>rfl
 have f:cB (if b=true then .lst l else .tup l)=true:=by
  cases b;exact(Ok.tup a).cmp (by lia);exact(Ok.lst a).cmp (by lia)
 rw[e,a2H ⟨c.cmp hn,f⟩,bN9 c a];exact k
def bX6{neg:Bool}{n m:Nat}{d:D}{l:List D}(a:Ok n d)(c:∀ x∈l,Ok m x)(hn:n<=60)(hm:m < 60){K:Res->Prop}(k:K (.val (.bl (if neg=true then !decide (d∈l)else decide (d∈l))))):OK1 (inD neg d (.lst l)) K:=cK5 (b:=true) a c hn hm k
end Dv
namespace Mr
open PySem L2 Dv Sx
theorem bX7{l m:List D}{K:D×D->Prop}:OK1 (cL6 (.lst l) [.lst m]) K=(l.length+m.length<=sizeLine/\K (.lst (l++m),.non)):=by
 show OK1 (if _ then _ else none) K=_;rw[aZ];rfl
theorem cK6{σ:Sg}{d:D}{K:D->Prop}:RD σ (.val d) K=K d:=rfl
local macro_rules | `(tactic| walk_at "dx")=>do
 let l:=("bX7 cK6 bN5 bN6 bN7 bN4 aG1 bZ0 qT qU qV qW qX qY qZ rA rB rC rD rE rF rG rH rJ aO4 rK lB lC lD rL rM lE lF lG rN rO aO5 rP rQ aO6 rR rS rT rU rV lH lI rW rX rY rZ sA lJ sC lK sD sE sF sG sH sI sJ sK lL lM sM sN sO sP sQ sR sS sV sW sZ aO7 iT lO tE lP tS tT tU tV tW tX tY tZ uA mL aO8 uB lZ iX gB wA jM aR1 wD iZ vK vL vM vN vO vP vQ vR uD mB mD mE uE uF uG uH uI aO9 aP0 aP1 aP2 uJ uL uM mF mG uN mH uO uP mI iU uQ mJ aP3 uK uR uT uU uV aP4 uX bZ1 uY aA8 pV aA7 aA9 aL8 aL9 aM0 uZ uW bE vA vB vC vD tF tG tH tJ tK tL tM tN tO lQ lS lT lU tP tQ tR reduceIte".splitOn " ").toArray.map fun s=>Lean.mkIdent s.toName
 let m:=("bA5 List.getElem?_cons_succ List.getElem?_cons_zero Option.getD_some vE vF vG aE1 aP5 Int.reducePow Int.reduceNeg Int.reduceLT Int.reduceLE Nat.reducePow Nat.reduceLT Int.reduceToNat Nat.reduceLeDiff vJ vH aP6 vI lV lW lX lY List.set_cons_zero List.set_cons_succ cR aN9 List.length_cons List.length_nil Nat.reduceAdd Nat.zero_add true_and and_true and_self Bool.not_false Bool.not_true Bool.false_eq_true Bool.true_and Bool.and_true Bool.or_false decide_eq_true_eq".splitOn " ").toArray.map fun s=>Lean.mkIdent s.toName
 `(tactic| simp only[$[↓$l:ident],*,$[$m:ident],*])
def okI(l:List Int):Ok 1 (tI l):=Ok.tup λd h=>by obtain⟨i,_,rfl⟩:=a7e.mp h;exact Ok.int
def bO0{a b:List Int}:tI a=tI b↔a=b:=by
 constructor
 ·intro h;have:a.map D.int=b.map D.int:=by injection h
  exact(List.map_inj_right (f:=D.int) λx y h=>by injection h).mp this
 ·rintro rfl;rfl
def cR0{a b:List Int}{K:Res->Prop}(k:K (.val (.bl (decide (a=b))))):OK1 (eqD false (tI a) (tI b)) K:=cK4 (okI a) (okI b) (by decide) (by decide) (by
 have:decide (tI a=tI b)=decide (a=b):=by rw[a4f,a2K,a2K,bO0]
 rw[this];exact k)
def cR1{a:List Int}{ls:List (List Int)}{K:Res->Prop}(k:K (.val (.bl (decide (a∈ls))))):OK1 (inD false (tI a) (.lst (ls.map tI))) K:=bX6 (okI a) (λx h=>by obtain⟨y,_,rfl⟩:=a7e.mp h;exact okI y) (by decide) (by decide) (by
 have:decide (tI a∈ls.map tI)=decide (a∈ls):=by
  rw[a4f,a2K,a2K,a7e];exact⟨λ⟨y,h,e⟩=>bO0.mp e ▸ h,λh=>⟨a,h,rfl⟩⟩
 rw[this];exact k)
def aB2{cs so:List Str}{row:List Int}(b:row.length=cs.length)(hs:∀ z∈so,z∈cs)(c:so.length<=100){K:Res->List Sl->Prop}(k:K (.val (tI (pk cs so row))) [⟨.val,.tup (cs.map D.str)⟩,⟨.val,tI row⟩,⟨.par,.lst (so.map D.str)⟩]) :
  CK bY [⟨.val,.tup (cs.map D.str)⟩,⟨.val,tI row⟩,⟨.par,.lst (so.map D.str)⟩] K:=by
 unfold bY;rw[cS];show RS iM [_,_,_,none] _;unfold iM;walk_at "dx";refine⟨gZ (by rwa[a7a]),gF (λz=>.int (row.getD (cs.idxOf z) 0)) D.str so [_,_,_,none] rfl (λz a=>?_) ?_⟩;walk_at "dx";exact⟨hs z a,by rw[bN3 (by rw[b];exact aK0 (hs z a))];exact⟨rfl,rfl⟩⟩;walk_at "dx";rw[cK1]at k;exact k
noncomputable def eL(cs ds:List Str)(js:List (List Int))(row:List Int):List (List Int):=(js.filter λf=>decide (pk ds (cmn cs ds) f=pk cs (cmn cs ds) row)).map λf=>row++pk ds (mor cs ds) f
noncomputable def jn(cs ds:List Str)(ks js:List (List Int)):List (List Int):=ks.flatMap (eL cs ds js)
def kP{cs ds:List Str}{js:List (List Int)}{row:List Int}:(eL cs ds js row).length<=js.length:=by
 unfold eL;rw[a7a];exact List.length_filter_le _ _
theorem nZ{a b:Type}{f:a->List b}{n:Nat}(h:∀ x,(f x).length<=n):∀ l:List a,(l.flatMap f).length<=l.length*n
 | []=>by simp
 | x::l=>by
   have:=nZ h l;have:=h x;rw[List.flatMap_cons,a9a,a2h,Nat.succ_mul];lia
def bO1{cs ds:List Str}{ks js:List (List Int)}(b:ks.length<=60)(a:js.length<=60):(jn cs ds ks js).length<=3600:=by
 have:=nZ (f:=eL cs ds js) (λx=>a6b kP a) ks;unfold jn;lia
def bO2{cs ds:List Str}{ks js:List (List Int)}(b:∀ y∈ks,y.length=cs.length):∀ y∈jn cs ds ks js,y.length=cs.length+(mor cs ds).length:=λy c=>by
 obtain⟨a,d,e⟩:=List.mem_flatMap.mp c;obtain⟨f,_,rfl⟩:=a7e.mp e;rw[a9a,b a d];simp[pk]
def bO3{cs ds:List Str}{ks js:List (List Int)}(a:ks.length<=60)(b:js.length<=60)(c:∀ y∈ks,y.length=cs.length):(jn cs ds ks js).length < 4000/\(2<=(srt (jn cs ds ks js)).length->∀ k∈jn cs ds ks js,k≠[]):=
 ⟨by have:=bO1 (cs:=cs) (ds:=ds) a b;lia,xR (bO2 c)⟩
def cK7{g i f:DE}{σ:Sg}{Q:Res->Sg->Prop}(acc:GA0)(h:RE g σ λx b=>RD b x λj=>bW7 j=true/\RE i b λy c=>RE f c λz a=>z=.own (.lst [])/\RD a x λd=>RD a y λe=>∃ l,d=bI2 acc/\e=tI l/\∀ v,(v=.val (.lst ((lk acc (l.map Sum.inl)).getD []))\/v=.own (.lst ((lk acc (l.map Sum.inl)).getD [])))->Q v a):RE (aZ8 g i f) σ Q:=by
 obtain⟨⟨x,b⟩,s,h⟩:=eO.mp h;obtain⟨j,m,h0,h⟩:=eO.mp h;obtain⟨⟨y,c⟩,n,h⟩:=eO.mp h;obtain⟨⟨z,a⟩,o,p,h⟩:=eO.mp h;obtain⟨d,q,h⟩:=eO.mp h;obtain⟨e,r,l,rfl,rfl,k⟩:=eO.mp h;dsimp only at m n o q r p k;have t:cM0 (bI2 acc) (tI l)=some ((lk acc (l.map Sum.inl)).map D.lst):=by
  show(mP (l.map D.int)).bind _=_;have:l.map D.int=(l.map (Sum.inl:Int->Key)).map qB:=by rw[List.map_map];rfl
  rw[this,iP];exact xU _ acc
 have u:aZ8 g i f σ=some ((match (lk acc (l.map Sum.inl)).map D.lst with | some v=>.val v | none=>z),a):=by
  unfold aZ8;rw[s];show(rd b x).bind _=_;rw[m];show(if bW7 j=true then _ else none)=_;rw[a2H h0,n];show(f c).bind _=_;rw[o];show(rd a x).bind _=_;rw[q];show(rd a y).bind _=_;rw[r];show(cM0 (bI2 acc) (tI l)).bind _=_;rw[t];rfl
 refine bB4 u (k _ ?_);subst p;cases w:lk acc (l.map Sum.inl)with
 | none=>exact .inr rfl
 | some v=>exact .inl rfl
def bO4{a b:List Int}:a.map (Sum.inl:Int->Key)=b.map Sum.inl↔a=b:=List.map_inj_right λx y h=>by injection h
def bX8{cs ds:List Str}{js:List (List Int)}{row:List Int}:((lk (grs ds (cmn cs ds) (mor cs ds) js) ((pk cs (cmn cs ds) row).map Sum.inl)).getD [])=(js.filter λf=>decide (pk ds (cmn cs ds) f=pk cs (cmn cs ds) row)).map λf=>tI (pk ds (mor cs ds) f):=by
 have:=(bB5 (λx=>(pk ds (cmn cs ds) x).map Sum.inl) (λx=>tI (pk ds (mor cs ds) x)) ((pk cs (cmn cs ds) row).map Sum.inl) js []).1;rw[show lk [] ((pk cs (cmn cs ds) row).map Sum.inl)=none from rfl]at this;refine this.trans ?_;simp only[Option.getD_none,List.nil_append];congr 1;exact List.filter_congr λf _=>by rw[a4f,a2K,a2K,bO4]
def cK8{cs ds so mo:List Str}{js:List (List Int)}{k:List Int}:(lk (grs ds so mo js) (k.map Sum.inl)).isSome=js.any λf=>decide (pk ds so f=k):=by
 have:=(bB5 (λx=>(pk ds so x).map Sum.inl) (λx=>tI (pk ds mo x)) (k.map Sum.inl) js []).2;refine this.trans ?_;show(false||_)=_;rw[Bool.false_or];congr 1;funext f;rw[a4f,a2K,a2K,bO4]
def aB3{cs ds:List Str}{ks js:List (List Int)}(c:cs.length<=7)(hd:ds.length<=7)(e:∀ z∈cs,Tx z)(g:∀ z∈ds,Tx z)(j:ks.length<=60)(hj:js.length<=60)(a:∀ y∈ks,y.length=cs.length)(hs:∀ y∈js,y.length=ds.length){K:Res->List Sl->Prop}
  (k:K (.val (tD (cs++mor cs ds) (srt (jn cs ds ks js)))) [⟨.val,tD cs ks⟩,⟨.val,tD ds js⟩]) :
  CK dJ [⟨.val,tD cs ks⟩,⟨.val,tD ds js⟩] K:=by
 have cl:(cmn cs ds).length<=7:=a6b (List.length_filter_le _ _) c;have q:(mor cs ds).length<=7:=a6b (List.length_filter_le _ _) hd;have sl:10000<=sizeLine:=by decide
 unfold dJ;rw[cS];show RS iO [_,_,none,none,none,none,none,none,none,none] _;unfold iO;walk_at "dx";refine aB1 c e g ?_;walk_at "dx";refine⟨gZ (by rw[a7a];lia),cE (λz=>!cs.contains z) D.str D.str ds [_,_,_,none,none,none,none,none,none,none] rfl (λz p=>?_) ?_⟩;walk_at "dx";refine aB0 (g z p).2 (λz h=>(e z h).2) ?_;walk_at "dx";rfl
 walk_at "dx";refine⟨by decide,wF (so:=cmn cs ds) (mo:=mor cs ds) hs hj bJ2 bX4 (by lia) (by lia) ?_⟩;walk_at "dx";refine jA (so:=cmn cs ds) aR5 (by lia) ?_;walk_at "dx";refine⟨a1d _,pQ (λi l=>∃ b d,l=[_,_,some ⟨.own,.lst ((cmn cs ds).map D.str)⟩,some ⟨.own,.lst ((mor cs ds).map D.str)⟩,some ⟨.own,bI2 (grs ds (cmn cs ds) (mor cs ds) js)⟩,some ⟨.own,.lst ((cmn cs ds).map λz=>.int (cs.idxOf z:Nat))⟩,some ⟨.own,.lst (((ks.take i).flatMap (eL cs ds js)).map tI)⟩,ov b d,none,none]) ⟨false,.non,rfl⟩ ?_ ?_⟩
 ·rintro i d l hd ⟨b,d',rfl⟩;rw[a0c]at hd;obtain⟨row,m,rfl⟩:=a5c.mp hd;have n:=a2c m;have r:((ks.take i).flatMap (eL cs ds js)).length<=3600:=by
   have:=nZ (f:=eL cs ds js) (λx=>a6b kP hj) (ks.take i);have:(ks.take i).length<=60:=a6b (List.length_take_le' _ _) j;lia
  have tk:(ks.take (i+1)).flatMap (eL cs ds js)=(ks.take i).flatMap (eL cs ds js)++eL cs ds js row:=by rw[a7g,m,List.flatMap_append];simp
  walk_at "dx";refine cK7 (grs ds (cmn cs ds) (mor cs ds) js) ?_;walk_at "dx";refine⟨rfl,kO (a row n) aR5 (by lia) ?_⟩;walk_at "dx";refine⟨a1d _,_,rfl,λv o=>?_⟩;rw[bX8]at o;have s:=List.length_filter_le (λf=>decide (pk ds (cmn cs ds) f=pk cs (cmn cs ds) row)) js;rcases o with rfl | rfl
  all_goals
   walk_at "dx";refine⟨by rw[a7a];lia,gF (λf=>tI (row++pk ds (mor cs ds) f)) (λf=>tI (pk ds (mor cs ds) f)) _ [_,_,_,_,_,_,_,_,none,none] rfl (λf t=>?_) ?_⟩;walk_at "dx";refine⟨?_,by rw[← a3d],rfl⟩;rw[a7a,a7a,a row n];simp[pk];lia;walk_at "dx";refine⟨by rw[a7a,a7a];lia,_,.inl rfl,true,tI row,?_⟩;rw[tk,a3d];unfold eL;rw[List.map_map];rfl
 ·rintro σ' ⟨b,d,rfl⟩;rw[a7a,List.take_length];walk_at "dx";refine⟨by rw[a7a,a7a];lia,?_⟩;rw[← a3d];refine cK2 (.inl ⟨.inl rfl,rfl⟩) (bO3 j hj a) ?_;walk_at "dx";exact k
def aR6{cs ds:List Str}{js:List (List Int)}{row f:List Int}{j:Nat}(a:js[j]? = some f):eL cs ds (js.take (j+1)) row=eL cs ds (js.take j) row++(if pk cs (cmn cs ds) row=pk ds (cmn cs ds) f then[row++pk ds (mor cs ds) f]else[]):=by
 unfold eL;rw[a7g,a,List.filter_append,a3d];congr 1;by_cases e:pk cs (cmn cs ds) row=pk ds (cmn cs ds) f;rw[a2H e];simp[e];rw[a2I e];simp[Ne.symm e]
def xV{cs ds:List Str}{ks js:List (List Int)}(v:cs.length<=7)(hd:ds.length<=7)(n:∀ z∈cs,Tx z)(o:∀ z∈ds,Tx z)(p:ks.length<=60)(hj:js.length<=60)(l:∀ y∈ks,y.length=cs.length)(hs:∀ y∈js,y.length=ds.length){K:Res->List Sl->Prop}
  (k:K (.val (tD (cs++mor cs ds) (srt (jn cs ds ks js)))) [⟨.val,tD cs ks⟩,⟨.val,tD ds js⟩]) :
  CK cJ [⟨.val,tD cs ks⟩,⟨.val,tD ds js⟩] K:=by
 have cl:(cmn cs ds).length<=7:=a6b (List.length_filter_le _ _) v;have w:(mor cs ds).length<=7:=a6b (List.length_filter_le _ _) hd;have sl:10000<=sizeLine:=by decide
 unfold cJ;rw[cS];show RS dA [_,_,none,none,none,none,none,none] _;unfold dA;walk_at "dx";refine⟨gZ (by rw[a7a];lia),cE (λz=>ds.contains z) D.str D.str cs [_,_,none,none,none,none,none,none] rfl (λz m=>?_) ?_⟩;walk_at "dx";refine aB0 (n z m).2 (λz h=>(o z h).2) ?_;walk_at "dx";rfl
 walk_at "dx";refine⟨gZ (by rw[a7a];lia),cE (λz=>!cs.contains z) D.str D.str ds [_,_,_,none,none,none,none,none] rfl (λz m=>?_) ?_⟩;walk_at "dx";refine aB0 (o z m).2 (λz h=>(n z h).2) ?_;walk_at "dx";rfl
 walk_at "dx";refine⟨a1d _,pQ (λi c=>∃ b d a d',c=[some ⟨.val,tD cs ks⟩,some ⟨.val,tD ds js⟩,some ⟨.own,.lst ((cmn cs ds).map D.str)⟩,some ⟨.own,.lst ((mor cs ds).map D.str)⟩,some ⟨.own,.lst (((ks.take i).flatMap (eL cs ds js)).map tI)⟩,ov b d,ov a d',none]) ⟨false,.non,false,.non,rfl⟩ ?_ ?_⟩
 ·rintro i d c hd ⟨b,A,a,g,rfl⟩;rw[a0c]at hd;obtain⟨row,q,rfl⟩:=a5c.mp hd;have r:=a2c q;have B:((ks.take i).flatMap (eL cs ds js)).length<=3600:=by
   have:=nZ (f:=eL cs ds js) (λx=>a6b kP hj) (ks.take i);have:(ks.take i).length<=60:=a6b (List.length_take_le' _ _) p;lia
  have tk:(ks.take (i+1)).flatMap (eL cs ds js)=(ks.take i).flatMap (eL cs ds js)++eL cs ds js row:=by rw[a7g,q,List.flatMap_append];simp
  walk_at "dx";refine pQ (λj c=>∃ a d',c=[some ⟨.val,tD cs ks⟩,some ⟨.val,tD ds js⟩,some ⟨.own,.lst ((cmn cs ds).map D.str)⟩,some ⟨.own,.lst ((mor cs ds).map D.str)⟩,some ⟨.own,.lst (((ks.take i).flatMap (eL cs ds js)++eL cs ds (js.take j) row).map tI)⟩,some ⟨.val,tI row⟩,ov a d',none]) ⟨a,g,by simp[eL]⟩ ?_ ?_
  ·rintro j d c hd ⟨a,g,rfl⟩;rw[a0c]at hd;obtain⟨f,s,rfl⟩:=a5c.mp hd;have t:=a2c s;walk_at "dx";refine aB2 (so:=cmn cs ds) (l row r) aR5 (by lia) ?_;walk_at "dx";refine aB2 (so:=cmn cs ds) (hs f t) bJ2 (by lia) ?_;walk_at "dx";refine cR0 ?_;walk_at "dx";have u:=aR6 (cs:=cs) (ds:=ds) (row:=row) s;have C:(eL cs ds (js.take j) row).length<=60:=a6b kP (a6b (List.length_take_le' _ _) hj);split;rename_i e;refine aB2 (so:=mor cs ds) (hs f t) bX4 (by lia) ?_;walk_at "dx";refine⟨?_,?_,_,.inl rfl,true,tI f,?_⟩;rw[a7a,a7a,l row r];simp[pk];lia;rw[a7a,a9a];lia;rw[u,a2H e,← List.append_assoc,a3d (l₂:=[row++pk ds (mor cs ds) f])];rw[← a3d];rfl;rename_i e;exact⟨_,.inl rfl,true,tI f,by rw[u,a2I e,a2f];rfl⟩
  ·rintro σ' ⟨a,g,rfl⟩;refine⟨_,.inl rfl,true,tI row,a,g,?_⟩;rw[a7a,List.take_length,tk];rfl
 ·rintro σ' ⟨b,d,a,d',rfl⟩;rw[a7a,List.take_length];walk_at "dx";refine⟨by rw[a7a,a7a];lia,cK0 (bO3 p hj l) ?_⟩;walk_at "dx";refine⟨by decide,?_⟩;rw[← a3d];exact k
noncomputable def thn(cs ds:List Str)(ks js:List (List Int)):List (List Int):=ks.filter λa=>js.any λf=>decide (pk ds (cmn cs ds) f=pk cs (cmn cs ds) a)
def bX9{cs ds:List Str}{js:List (List Int)}{l:List Int}{so mo:List Str}{K:Res->Prop}(k:K (.val (.bl (js.any λf=>decide (pk ds so f=l))))):OK1 (inT (tI l) (bI2 (grs ds so mo js))) K:=by
 refine bB4 (x:=.val (.bl (lk (grs ds so mo js) (l.map Sum.inl)).isSome)) ?_ (by rw[cK8 (cs:=cs)];exact k);show(mP (l.map D.int)).bind _=_;have:l.map D.int=(l.map (Sum.inl:Int->Key)).map qB:=by rw[List.map_map];rfl
 rw[this,iP];show(aG0 _ _ _).bind _=_;rw[xU];show some _=_;rw[Option.isSome_map]
def wG{cs ds:List Str}{ks js:List (List Int)}(b:cs.length<=7)(c:∀ z∈cs,Tx z)(d:∀ z∈ds,Tx z)(h:ks.length<=60)(hj:js.length<=60)(e:∀ y∈ks,y.length=cs.length)(hs:∀ y∈js,y.length=ds.length){K:Res->List Sl->Prop}
  (k:K (.val (tD cs (thn cs ds ks js))) [⟨.val,tD cs ks⟩,⟨.val,tD ds js⟩]) :
  CK bN [⟨.val,tD cs ks⟩,⟨.val,tD ds js⟩] K:=by
 have cl:(cmn cs ds).length<=7:=a6b (List.length_filter_le _ _) b;unfold bN;rw[cS];show RS dD [_,_,none,none,none,none] _;unfold dD;walk_at "dx";refine aB1 b c d ?_;walk_at "dx";refine⟨a1d _,wF (so:=cmn cs ds) (mo:=[]) hs hj bJ2 (by simp) (by lia) (by simp) ?_⟩;walk_at "dx";refine jA (so:=cmn cs ds) aR5 (by lia) ?_;walk_at "dx";refine⟨gZ (by rw[a7a];lia),cE (λa=>js.any λf=>decide (pk ds (cmn cs ds) f=pk cs (cmn cs ds) a)) tI tI ks [_,_,_,_,_,none] rfl (λa g=>?_) ?_⟩;walk_at "dx";refine kO (e a g) aR5 (by lia) ?_;walk_at "dx";refine bX9 (cs:=cs) ?_;walk_at "dx";rfl;walk_at "dx";exact⟨by decide,k⟩
def aH0{cs ds:List Str}{ks js:List (List Int)}(b:cs.length<=7)(c:∀ z∈cs,Tx z)(d:∀ z∈ds,Tx z)(l:ks.length<=60)(hj:js.length<=60)(e:∀ y∈ks,y.length=cs.length)(hs:∀ y∈js,y.length=ds.length){K:Res->List Sl->Prop}
  (k:K (.own (.lst ((thn cs ds ks js).map tI))) [⟨.val,tD cs ks⟩,⟨.val,tD ds js⟩]) :
  CK eF [⟨.val,tD cs ks⟩,⟨.val,tD ds js⟩] K:=by
 have cl:(cmn cs ds).length<=7:=a6b (List.length_filter_le _ _) b;unfold eF;rw[cS];show RS fF [_,_,none,none,none,none] _;unfold fF;walk_at "dx";refine⟨gZ (by rw[a7a];lia),cE (λz=>ds.contains z) D.str D.str cs [_,_,none,none,none,none] rfl (λz g=>?_) ?_⟩;walk_at "dx";refine aB0 (c z g).2 (λz h=>(d z h).2) ?_;walk_at "dx";rfl
 walk_at "dx";refine⟨gZ (by rw[a7a];lia),gF (λf=>tI (pk ds (cmn cs ds) f)) tI js [_,_,some ⟨.own,.lst ((cmn cs ds).map D.str)⟩,none,none,none] rfl (λf i=>?_) ?_⟩;walk_at "dx";refine aB2 (so:=cmn cs ds) (hs f i) bJ2 (by lia) ?_;walk_at "dx";rfl
 walk_at "dx";refine⟨gZ (by rw[a7a];lia),cE (λa=>js.any λf=>decide (pk ds (cmn cs ds) f=pk cs (cmn cs ds) a)) tI tI ks [_,_,some ⟨.own,.lst ((cmn cs ds).map D.str)⟩,some ⟨.own,.lst (js.map λf=>tI (pk ds (cmn cs ds) f))⟩,none,none] rfl (λa j=>?_) ?_⟩;walk_at "dx";refine aB2 (so:=cmn cs ds) (e a j) aR5 (by lia) ?_;walk_at "dx";rw[show(js.map λf=>tI (pk ds (cmn cs ds) f))=(js.map (pk ds (cmn cs ds))).map tI by rw[List.map_map];rfl];refine cR1 ?_;walk_at "dx";exact⟨by rw[a4f,a2K,a7e,List.any_eq_true];simp,rfl⟩;walk_at "dx";exact k
def aM3{l:List (List Int)}(h:aZ3 l):srt l=l:=zS (fU l) h (eK l)
def bY0{cs ds:List Str}(a:∀ z∈cs,Tx z)(b:∀ z∈ds,Tx z):∀ z∈cs++mor cs ds,Tx z:=λz h=>(a3c.mp h).elim (a z) λh=>b z (bX4 z h)
def xW{cs ds:List Str}{ks js:List (List Int)}(g:cs.length<=7)(hd:ds.length<=7)(b:∀ z∈cs,Tx z)(d:∀ z∈ds,Tx z)(e:ks.length<=60)(hj:js.length<=60)(c:∀ y∈ks,y.length=cs.length)(hs:∀ y∈js,y.length=ds.length)(hi:aZ3 ks){K:Res->List Sl->Prop}
  (k:K (.val (.bl true)) [⟨.val,tD cs ks⟩,⟨.val,tD ds js⟩]) :
  CK bV [⟨.val,tD cs ks⟩,⟨.val,tD ds js⟩] K:=by
 have n:(mor cs ds).length<=7:=a6b (List.length_filter_le _ _) hd;have o:=bO1 (cs:=cs) (ds:=ds) e hj;have j:=bO2 (cs:=cs) (ds:=ds) (js:=js) c;have f:=aM3 (fU (jn cs ds ks js));have h:∀ y∈srt (jn cs ds ks js),y.length=cs.length+(mor cs ds).length:=λy a=>j y ((eK _ y).mp a);have sl:=xJ (jn cs ds ks js);have l:∀ {K:Res->List Sl->Prop},K (.val (.bl true)) [⟨.val,tD (cs++mor cs ds) (srt (jn cs ds ks js))⟩,⟨.val,.tup ((cs++mor cs ds).map D.str)⟩,⟨.val,.tup ((srt (jn cs ds ks js)).map tI)⟩]->CK aV [⟨.val,tD (cs++mor cs ds) (srt (jn cs ds ks js))⟩,⟨.val,.tup ((cs++mor cs ds).map D.str)⟩,⟨.val,.tup ((srt (jn cs ds ks js)).map tI)⟩] K:=λ{K} q=>by
  have:=pW (cs:=cs++mor cs ds) (ks:=srt (jn cs ds ks js)) (.inr ⟨rfl,rfl⟩) (bY0 b d) ⟨by lia,xR h⟩ (λy a=>by rw[h y a];lia) (K:=K) (by rw[f];exact q);rw[f]at this;exact this
 have p:(thn cs ds ks js).length<=ks.length:=List.length_filter_le _ _;have i:srt (thn cs ds ks js)=thn cs ds ks js:=aM3 (hi.sublist List.filter_sublist);have tm:∀ y∈thn cs ds ks js,y.length=cs.length:=λy a=>c y (List.mem_filter.mp a).1;have m:∀ {K:Res->List Sl->Prop},K (.val (.bl true)) [⟨.val,tD cs (thn cs ds ks js)⟩,⟨.val,.tup (cs.map D.str)⟩,⟨.par,.lst ((thn cs ds ks js).map tI)⟩]->CK aV [⟨.val,tD cs (thn cs ds ks js)⟩,⟨.val,.tup (cs.map D.str)⟩,⟨.par,.lst ((thn cs ds ks js).map tI)⟩] K:=λ{K} q=>by
  have:=pW (cs:=cs) (ks:=thn cs ds ks js) (.inl ⟨rfl,rfl⟩) b ⟨by lia,xR tm⟩ (λy a=>by rw[tm y a];lia) (K:=K) (by rw[i];exact q);rw[i]at this;exact this
 unfold bV;rw[cS];show RS eG [_,_,none] _;unfold eG;walk_at "dx";refine xV g hd b d e hj c hs ?_;walk_at "dx";refine aB3 g hd b d e hj c hs ?_;walk_at "dx";refine l ?_;walk_at "dx";refine wG g b d e hj c hs ?_;walk_at "dx";refine aH0 g b d e hj c hs ?_;walk_at "dx";refine m ?_;walk_at "dx";exact k
def aM4(cs:List Str):mor cs cs=[]:=by
 unfold mor;rw[List.filter_eq_nil_iff];intro z a;simp[a]
def bY1{cs:List Str}{ks:List (List Int)}(hi:aZ3 ks):srt (jn cs cs ks ks)=ks:=by
 refine zS (fU _) hi λx=>?_;rw[eK];unfold jn eL;rw[List.mem_flatMap,aM4];constructor;rintro⟨row,a,b⟩;obtain⟨f,_,rfl⟩:=a7e.mp b;simpa[pk]using a;exact λh=>⟨x,h,a7e.mpr ⟨x,List.mem_filter.mpr ⟨h,by simp⟩,by simp[pk]⟩⟩
def bJ3{cs:List Str}{ks:List (List Int)}:thn cs cs ks ks=ks:=by
 unfold thn;rw[List.filter_eq_self];intro x a;rw[List.any_eq_true];exact⟨x,a,by simp⟩
def bO5{cs:List Str}{ks:List (List Int)}(b:∀ z∈cs,Tx z):cB (tD cs ks)=true:=by
 refine(Ok.tup (n:=3) λd h=>?_).cmp (by decide);rcases a7b.mp h with rfl | h;exact⟨(Ok.tup (n:=2) λd h=>by obtain⟨z,a,rfl⟩:=a7e.mp h;exact Ok.str (b z a).2).smp,(Ok.tup (n:=2) λd h=>by obtain⟨z,a,rfl⟩:=a7e.mp h;exact Ok.str (b z a).2).dep⟩;rw[a8b]at h;subst h;have:Ok 2 (.tup (ks.map tI)):=Ok.tup λd h=>by obtain⟨z,a,rfl⟩:=a7e.mp h;exact okI z
 exact⟨this.smp,a6b this.dep (by decide)⟩
def bJ4(ns:List Int)(hn:ns.length<=63):∃ as',mR [⟨.val,.lst (ns.map D.int)⟩]=some (.val (.bl true),as'):=by
 suffices CK mR [⟨.val,.lst (ns.map D.int)⟩] λr as'=>r=.val (.bl true) by
  obtain⟨⟨r,as'⟩,e,rfl⟩:=eO.mp this;exact⟨as',e⟩
 unfold mR;rw[cS];show RS aA0 [_,none,none,none,none] _;unfold aA0;walk_at "dx";refine bA4 (by decide) (by decide) λa b=>?_;walk_at "dx";refine bI8 λn v w x o=>?_;walk_at "dx";refine bA4 (by decide) (by decide) λy A=>?_;walk_at "dx";obtain⟨B,p,n1,q⟩:=aG7 D.str n none (some 6);obtain⟨C,s,n2,t⟩:=aG7 D.str n (some 1) none;rw[p];refine aM1 (by lia) (λz h=>o z (q z h)) λE ks F G g c d f i=>?_;walk_at "dx";refine bA4 (by decide) (by decide) λH I=>?_;walk_at "dx";rw[s];refine aM1 (by lia) (λz h=>o z (t z h)) λJ K L M j k l m u=>?_;walk_at "dx";refine xW g j c k d l f m i ?_;walk_at "dx";refine xW j g k c l d m f u ?_;walk_at "dx";refine aB3 g g c c d d f f ?_;rw[aM4,a2f,bY1 i];walk_at "dx";refine xS (bO5 c) ?_;walk_at "dx";refine wG g c c d d f f ?_;rw[bJ3];walk_at "dx";refine xS (bO5 c) ?_;walk_at "dx";refine xW g j c k d l f m i ?_;walk_at "dx"
end Mr
namespace Mr
open PySem L2 Dv
noncomputable def adr:Adr:=⟨60,Hd.cA0,67,Hd.cA1,79,Hd.cA3,74,Hd.cA2,84,Hd.cA4,91,Hd.cA5,108,Hd.bJ7,113,Hd.bJ8,98,Hd.cA6,103,Hd.bJ6,36,Hd.bZ6,31,Hd.bZ5,26,Hd.bZ4,43,Hd.bZ7,21,Hd.bZ3,48,Hd.bZ8,118,Hd.bJ9,53,Hd.bZ9,125,Hd.bK0,132,Hd.aH1⟩
def wH{K:W.Frag}{x q:Str}{s:Stmt}{f:Addr}{fd:FuncData}(m:Value)(c:Addr)(e:fd=W.fnOf x q (aC4 s) (kR s) (aM s) .none .none .none m none (.ref c) .none)(l:K.lookup f=some ⟨.type "function",none,.func fd,#[]⟩)(d:W.codeIn K (.ref c) q=true)(k:W.keepIn K (.ref f)=true):Fun K x q s f fd:=⟨⟨_,_,_,_,_,_,_,_,_,e,l,d⟩,k⟩
def txt{P:Params}{h:Heap}{mg:Str->Option Value}(X:(Hd.KF P).In h)(G:h.Ns mainGlobals mg):Txt (Hd.KF P) mg adr:=⟨a6d X G (by kernel_rfl),
wH (.str "law_mostrows_k14_joined_and_thinned" 240) 59 (by kernel_rfl) (by kernel_rfl) (by kernel_rfl) (by kernel_rfl),
a6d X G (by kernel_rfl),
wH (.str "law_mostrows_k14_joined_and_thinned" 240) 66 (by kernel_rfl) (by kernel_rfl) (by kernel_rfl) (by kernel_rfl),
a6d X G (by kernel_rfl),
wH (.str "law_mostrows_k14_joined_and_thinned" 240) 78 (by kernel_rfl) (by kernel_rfl) (by kernel_rfl) (by kernel_rfl),
a6d X G (by kernel_rfl),
wH (.str "law_mostrows_k14_joined_and_thinned" 240) 73 (by kernel_rfl) (by kernel_rfl) (by kernel_rfl) (by kernel_rfl),
a6d X G (by kernel_rfl),
wH (.str "law_mostrows_k14_joined_and_thinned" 240) 83 (by kernel_rfl) (by kernel_rfl) (by kernel_rfl) (by kernel_rfl),
a6d X G (by kernel_rfl),
wH (.str "law_mostrows_k14_joined_and_thinned" 240) 90 (by kernel_rfl) (by kernel_rfl) (by kernel_rfl) (by kernel_rfl),
a6d X G (by kernel_rfl),
wH (.str "law_mostrows_k14_joined_and_thinned" 240) 107 (by kernel_rfl) (by kernel_rfl) (by kernel_rfl) (by kernel_rfl),
a6d X G (by kernel_rfl),
wH (.str "law_mostrows_k14_joined_and_thinned" 240) 112 (by kernel_rfl) (by kernel_rfl) (by kernel_rfl) (by kernel_rfl),
a6d X G (by kernel_rfl),
wH (.str "law_mostrows_k14_joined_and_thinned" 240) 97 (by kernel_rfl) (by kernel_rfl) (by kernel_rfl) (by kernel_rfl),
a6d X G (by kernel_rfl),
wH (.str "law_mostrows_k14_joined_and_thinned" 240) 102 (by kernel_rfl) (by kernel_rfl) (by kernel_rfl) (by kernel_rfl),
a6d X G (by kernel_rfl),
wH (.str "mostrows.tables" 187) 35 (by kernel_rfl) (by kernel_rfl) (by kernel_rfl) (by kernel_rfl),
a6d X G (by kernel_rfl),
wH (.str "mostrows.tables" 187) 30 (by kernel_rfl) (by kernel_rfl) (by kernel_rfl) (by kernel_rfl),
a6d X G (by kernel_rfl),
wH (.str "mostrows.tables" 187) 25 (by kernel_rfl) (by kernel_rfl) (by kernel_rfl) (by kernel_rfl),
a6d X G (by kernel_rfl),
wH (.str "mostrows.tables" 187) 42 (by kernel_rfl) (by kernel_rfl) (by kernel_rfl) (by kernel_rfl),
a6d X G (by kernel_rfl),
wH (.str "mostrows.tables" 187) 20 (by kernel_rfl) (by kernel_rfl) (by kernel_rfl) (by kernel_rfl),
a6d X G (by kernel_rfl),
wH (.str "mostrows.tables" 187) 47 (by kernel_rfl) (by kernel_rfl) (by kernel_rfl) (by kernel_rfl),
a6d X G (by kernel_rfl),
wH (.str "law_mostrows_k14_joined_and_thinned" 240) 117 (by kernel_rfl) (by kernel_rfl) (by kernel_rfl) (by kernel_rfl),
a6d X G (by kernel_rfl),
wH (.str "mostrows.tables" 187) 52 (by kernel_rfl) (by kernel_rfl) (by kernel_rfl) (by kernel_rfl),
a6d X G (by kernel_rfl),
wH (.str "law_mostrows_k14_joined_and_thinned" 240) 124 (by kernel_rfl) (by kernel_rfl) (by kernel_rfl) (by kernel_rfl),
a6d X G (by kernel_rfl),
wH (.str "law_mostrows_k14_joined_and_thinned" 240) 131 (by kernel_rfl) (by kernel_rfl) (by kernel_rfl) (by kernel_rfl),
a6e X G (by kernel_rfl),
a6e X G (by kernel_rfl),
a6e X G (by kernel_rfl),
a6e X G (by kernel_rfl),
a6e X G (by kernel_rfl),
a6e X G (by kernel_rfl),
a6e X G (by kernel_rfl),
a6e X G (by kernel_rfl),
a6e X G (by kernel_rfl),
a6e X G (by kernel_rfl)⟩
def cK9{P:Program}{w:World}{mg:Str->Option Value}{base:Heap}(T:Txt (Hd.KF w.params) mg adr):FnOk P w (Hd.KF w.params) mg base CX0 5 132 Hd.aH1 ["_law_script"] (dsp 1 mR):=by
 have i:=aR3 (P:=P) (w:=w) (base:=base) T;have a:=aG2 (P:=P) (w:=w) (base:=base) T;have j:=aA1 (P:=P) (w:=w) (base:=base) T a;have k:=aA2 (P:=P) (w:=w) (base:=base) T a;have l:=aG3 (P:=P) (w:=w) (base:=base) T a;have m:=aA3 (P:=P) (w:=w) (base:=base) T k a l;have d:=bA0 (P:=P) (w:=w) (base:=base) T;have n:=xM (P:=P) (w:=w) (base:=base) T d;have o:=aA4 (P:=P) (w:=w) (base:=base) T;have p:=pU (P:=P) (w:=w) (base:=base) T o;have e:=mS (P:=P) (w:=w) (base:=base) T;have b:=bA1 (P:=P) (w:=w) (base:=base) T;have c:=aA5 (P:=P) (w:=w) (base:=base) T;have f:=aR4 (P:=P) (w:=w) (base:=base) T b c;have q:=aG4 (P:=P) (w:=w) (base:=base) T;have g:=bA2 (P:=P) (w:=w) (base:=base) T e f c b q;have r:=aG5 (P:=P) (w:=w) (base:=base) T d;have h:=xN (P:=P) (w:=w) (base:=base) T e f c b;have s:=aA6 (P:=P) (w:=w) (base:=base) T n p g r h;have t:=cJ4 (P:=P) (w:=w) (base:=base) T i j m s g h;exact t
def bJ5:W.WalkO Hd.Vw [] (W.XL Hd.Vw []) (W.InK Hd.KF) PySem.Challenge.rw_mostrows_k14_joined_and_thinned.row.toRowW Hd.cM1 [] (λf vs=>PySem.call f vs):=by
 refine L2.bQ6 (l:=PySem.Challenge.rw_mostrows_k14_joined_and_thinned) (K:=Hd.KF) (n:=63) (k:=5) (x:="_law_script") (CX:=λ_=>CX0) (sp:=λw=>dsp 1 mR) rfl (by decide) (by kernel_rfl) ⟨rfl,by decide,by decide⟩ (λw h Y=>Y) (λw mg i h X G e=>?_) (λw _ a ns b c d=>aX0 (by kernel_rfl) c d (bJ4 ns b)) λ_ _ _ _ _ z=>z;have T:=txt X G;have g:=T.a2D.symm.trans e;cases g;exact⟨Hd.aH1,λs v=>.of_eq (by kernel_rfl),λbase _ _=>cK9 T⟩
end Mr
open PySem PySem.W PyProof.Rows
theorem PySem.Challenge.cw_mostrows_k14_joined_and_thinned_holds : PySem.Challenge.rw_mostrows_k14_joined_and_thinned.Holds :=
 Hd.cT2 Mr.bJ5
#print axioms PySem.Challenge.cw_mostrows_k14_joined_and_thinned_holds
