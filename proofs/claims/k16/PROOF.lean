import PyProof.Rows.All
import Wide.All
import OpenK.AllK
import Wide.FinOn
import Lean
import PyProof.EqAt
import PyProof.EqKinds
import PyProof.TupleCall
import PyProof.StationsW
import PyProof.RulesAs
import PyProof.ExcClass2
import PyProof.Rows.Exc
import OpenK.KMake
import PyProof.InstStoreFacts
import OpenK.KCls
import PyProof.ExcArgsOwn
import PyProof.ExcAttrAll.ValueError
import PyProof.FitsInt
import PyProof.FString
import PyProof.FString4
import PyProof.StrLawsRepr
import PyProof.NsDelKeeps
import PyProof.NoPylong
import PyProof.FitsBits
import PyProof.Rows.RuleM_int
import PyProof.P3In
import PyProof.NeData
import PyProof.Draws
import PyProof.ZipIter
import PyProof.EnumMake
import PySem.SetOps
import PyProof.SetScanFacts
import PyProof.WalksMore
import PyProof.SetNew
import PyProof.SetKind
import PyProof.Rows.SetFrom
import PyProof.TupleKey
import PyProof.IsRules
import PyProof.SetRoads
import PyProof.DictRoadsH
import PyProof.AttrMissHeap
import PySem.Challenge.RW_mostrows_k16_whole_joins_of_three
set_option compiler.extract_closed false
set_option Elab.async false
set_option linter.all false
set_option maxRecDepth 100000
set_option maxHeartbeats 4000000
def a1X:=@PySem.wpAny_bind
def a1Y:=@PySem.wpAny_pure
def a1Z:=@if_pos
def a2k:=@if_neg
def a2l:=@beq_iff_eq
def a2m:=@PySem.wpAny_holding
def a2n:=@decide_eq_true_eq
def a2o:=@decide_eq_false
def a2p:=@if_false
def a2q:=@decide_eq_true
def a2r:=@PySem.wpAny_newObj_type
def a2s:=@if_true
def a2t:=@PySem.wpAny_call_entry
def a2u:=@PySem.wpAny_mono
def a2v:=@PySem.wpAny_passesOwn
def a2w:=@PySem.codeAny_builtin
def a2x:=@bne_self_eq_false
def a2y:=@PySem.wpAny_rule
def a2z:=@PySem.wpAny_getItem_str_slice
def a2A:=@PySem.wpAny_Call_Name_kw
def a2B:=@PySem.wpAny_askSetting
def a2C:=@PySem.wpAny_loadPart'
def a2D:=@congrArg
def a2E:=@PySem.wpAny_typeOf
def a2F:=@PySem.sizeLine_eq
def a2G:=@PySem.wpAny_standAt
def a2H:=@PySem.plainId_quiet
def a2I:=@PySem.codeAny_mono
def a2J:=@PySem.wpAny_specialOf
def a2K:=@PySem.wpAny_setEntries_of
def a2L:=@PySem.putSet_of
def a2M:=@PySem.call_meets
def a2N:=@PySem.wpAny_updateSeq
def a2O:=@PySem.wpAny_ite_split
def a0a:=@List.getElem?_eq_some_iff
def a1a:=@List.getElem?_eq_getElem
def a2a:=@List.getElem?_set_ne
def a3a:=@List.mem_cons_self
def a4a:=@List.mem_cons_of_mem
def a5a:=@Option.some.inj
def a6a:=@PySem.Heap.get?_push_of_some
def a7a:=@Nat.le_refl
def a8a:=@List.length_map
def a9a:=@List.length_append
def a0b:=@Nat.le_trans
def a1b:=@List.getElem?_set_self
def a2b:=@List.getElem?_append_right
def a3b:=@PySem.Heap.get?_push_size
def a4b:=@List.size_toArray
def a5b:=@PySem.Heap.lt_size
def a6b:=@Array.getElem?_toList
def a7b:=@List.mem_singleton
def a8b:=@Array.getElem?_eq_getElem
def a9b:=@List.mem_cons
def a0c:=@Nat.lt_of_lt_of_le
def a1c:=@List.mem_append
def a2c:=@List.getElem?_map
def a3c:=@List.mem_append_right
def a4c:=@List.mem_of_getElem?
def a5c:=@List.getElem?_cons_succ
def a6c:=@List.getElem?_append_left
def a7c:=@List.eq_nil_of_length_eq_zero
def a8c:=@List.take_of_length_le
def a9c:=@Option.map_eq_some_iff
def a0d:=@Array.length_toList
def a1d:=@Ne.symm
def a2d:=@Nat.ne_of_lt
def a3d:=@Nat.zero_le
def a4d:=@List.getElem?_toArray
def a5d:=@List.map_append
def a6d:=@List.getElem?_eq_none_iff
def a7d:=@Bool.and_eq_true
def a8d:=@PySem.Heap.get?_update_other
def a9d:=@Bool.false_ne_true
def a0e:=@PySem.Heap.get?_update_self
def a1e:=@List.pairwise_cons
def a2e:=@List.map_cons
def a3e:=@PyProof.Rows.slot_tuple_getitem
def a4e:=@Array.getElem?_eq_some_iff
def a5e:=@PySem.F.plainAttrs_list
def a6e:=@PySem.W.mg_of
def a7e:=@Classical.byContradiction
def a8e:=@List.length_set
def a9e:=@Nat.zero_add
def a0f:=@PySem.F.slot_list_append
def a1f:=@PySem.F.type_list_append
def a2f:=@Nat.lt_irrefl
def a3f:=@List.append_nil
def a4f:=@List.length_take
def a5f:=@List.nodup_iff_pairwise_ne
def a6f:=@List.getElem_of_mem
def a7f:=@List.mem_map
def a8f:=@Nat.lt_of_le_of_lt
def a9f:=@PySem.W.mg_none_of
def a0g:=@List.length_drop
def a1g:=@PySem.Around.under_plainId
def a2g:=@List.mem_of_mem_take
def a3g:=@Nat.le_of_lt
def a4g:=@Nat.lt_trans
def a5g:=@Nat.pow_succ
def a6g:=@PyProof.Rows.F.plain_set_update_loop
def a7g:=@Array.toList_push
def a8g:=@List.filterMap_cons
def a9g:=@Array.getD_eq_getD_getElem?
def a0h:=@PySem.Heap.SameBut.update
def a1h:=@List.getD_eq_getElem?_getD
def a2h:=@Nat.lt_succ_self
def a3h:=@List.length_cons
def a4h:=@Int.emod_lt_of_pos
def a5h:=@List.mem_append_left
def a6h:=@List.nodup_cons
def a7h:=@List.ext_getElem?
def a8h:=@PySem.PassesOwn.never
def a9h:=@Nat.mul_comm
def a0i:=@PySem.mem_of_lookup
def a1i:=@PySem.F.plain_extend_loop
def a2i:=@List.lookup_cons
def a3i:=@List.mem_range
def a4i:=@Nat.not_lt_zero
def a5i:=@List.getElem?_eq_none
def a6i:=@List.take_add_one
def a7i:=@PySem.Heap.size_push
def a8i:=@Nat.le_of_not_lt
def a9i:=@Nat.lt_of_not_le
def a0j:=@Bool.eq_iff_iff
def a1j:=@Int.emod_nonneg
def a2j:=@Nat.not_lt
def a3j:=@Nat.mul_assoc
namespace Hd
open PySem PySem.W
noncomputable def top(i:Nat):Stmt:=PySem.Challenge.pw_mostrows_k16_whole_joins_of_three.main.body.getD i (.Pass ⟨0,0,0,0⟩)
noncomputable def kG(x q:Str)(s:Stmt)(m:Value)(c:Addr):FuncData:=match s with
 | .FunctionDef _ a b _ _ _ e _ _ _=>fnOf x q a b e .none .none .none m none (.ref c) .none
 | _=>default
noncomputable def cI8:DefRec:=match top 18 with
 | .FunctionDef n a b _ _ _ e _ _ p=>⟨n,a,b,e,p⟩
 | _=>⟨"",default,[],default,default⟩
noncomputable def kE(P:Params)(x:Str)(t:Tok)(v:Value):DictEntry:=⟨PyData.keyHash P x,.str x t,v⟩
noncomputable def kT(l:List Value):Obj:=⟨.type "tuple",none,.seq l.toArray 0,#[]⟩
noncomputable def kF(f:FuncData):Obj:=⟨.type "function",none,.func f,#[]⟩
noncomputable def bW5:=kG "table_of" "table_of" (top 1) (.str "mostrows.tables" 187) 20
noncomputable def bW6:=kG "places_of" "places_of" (top 2) (.str "mostrows.tables" 187) 25
noncomputable def bW7:=kG "picked" "picked" (top 3) (.str "mostrows.tables" 187) 30
noncomputable def bW8:=kG "cut" "cut" (top 4) (.str "mostrows.tables" 187) 35
noncomputable def bW9:=kG "kept" "kept" (top 5) (.str "mostrows.tables" 187) 40
noncomputable def bX0:=kG "common_columns" "common_columns" (top 6) (.str "mostrows.tables" 187) 45
noncomputable def bX1:=kG "grouped" "grouped" (top 7) (.str "mostrows.tables" 187) 52
noncomputable def bX2:=kG "joined" "joined" (top 8) (.str "mostrows.tables" 187) 57
noncomputable def bX3:=kG "thinned_by" "thinned_by" (top 9) (.str "mostrows.tables" 187) 62
noncomputable def bX4:=kG "_law_box" "_law_box" (top 11) (.str "law_mostrows_k16_whole_joins_of_three" 252) 69
noncomputable def bX5:=kG "_law_take" "_law_take" (top 12) (.str "law_mostrows_k16_whole_joins_of_three" 252) 76
noncomputable def bX6:=kG "_law_order" "_law_order" (top 13) (.str "law_mostrows_k16_whole_joins_of_three" 252) 83
noncomputable def bX7:=kG "_law_names" "_law_names" (top 14) (.str "law_mostrows_k16_whole_joins_of_three" 252) 88
noncomputable def bX8:=kG "_law_rows" "_law_rows" (top 15) (.str "law_mostrows_k16_whole_joins_of_three" 252) 93
noncomputable def bX9:=kG "_law_table" "_law_table" (top 16) (.str "law_mostrows_k16_whole_joins_of_three" 252) 100
noncomputable def bG4:=kG "_law_orders" "_law_orders" (top 17) (.str "law_mostrows_k16_whole_joins_of_three" 252) 107
noncomputable def aH0:=kG "law" "law" (top 18) (.str "law_mostrows_k16_whole_joins_of_three" 252) 114
noncomputable def kC(x:Str)(a:Tok)(q:Str)(b c:Tok)(d e f:Int)(g:Addr)(h:Int)(i j k l:Addr)(m n:Int)(o:Tok):Obj:=⟨.type "code",none,.fields #[.str x a,.str q b,.str "/claim/cut.py" c,.int d 0,.int e 0,.int 0 0,.int 0 0,.int f 0,.ref g,.bool true,.int h 0,.ref i,.none,.ref j,.ref k,.ref l,.int m 0,.int n 0,.str "/claim/cut.py" o],#[]⟩
noncomputable def KF(P:Params):W.Frag:=[
(2,⟨.none,none,(.dict #[] 0),#[]⟩),
(3,⟨(.type "dict"),none,(.dict #[kE P "__name__" 165 (.str "law_mostrows_k16_whole_joins_of_three" 252),kE P "__doc__" 166 .none,kE P "__package__" 167 .none,kE P "__loader__" 168 (.builtin "__main__.__loader__#opaque"),kE P "__spec__" 169 .none,kE P "__annotations__" 170 (.ref 6),kE P "__builtins__" 171 (.ref 4),kE P "__file__" 173 (.str "/claim/cut.py" 172),kE P "__cached__" 174 .none,kE P "table_of" 196 (.ref 21),kE P "places_of" 202 (.ref 26),kE P "picked" 208 (.ref 31),kE P "cut" 214 (.ref 36),kE P "kept" 220 (.ref 41),kE P "common_columns" 226 (.ref 46),kE P "grouped" 239 (.ref 53),kE P "joined" 245 (.ref 58),kE P "thinned_by" 251 (.ref 63),kE P "_law_box" 263 (.ref 70),kE P "_law_take" 273 (.ref 77),kE P "_law_order" 283 (.ref 84),kE P "_law_names" 289 (.ref 89),kE P "_law_rows" 295 (.ref 94),kE P "_law_table" 305 (.ref 101),kE P "_law_orders" 316 (.ref 108),kE P "law" 338 (.ref 115)] 26),#[]⟩),
(6,⟨(.type "dict"),none,(.dict #[] 0),#[]⟩),
(15,kT []),
(17,kT [(.str "columns" 192),(.str "rows" 193)]),
(18,kT []),
(20,kC "table_of" 189 "table_of" 190 191 2 2 3 15 181 16 17 18 19 194 2 195),
(21,kF bW5),
(22,kT []),
(25,⟨(.type "code"),none,(.fields #[(.str "places_of" 197),(.str "places_of" 198),(.str "/claim/cut.py" 199),(.int 4 0),(.int 2 0),(.int 0 0),(.int 0 0),(.int 3 0),(.ref 22),(.bool true),(.int 181 0),(.ref 23),.none,.none,.none,(.ref 24),(.int 200 0),(.int 4 0),(.str "/claim/cut.py" 201)]),#[]⟩),
(26,kF bW6),
(27,kT []),
(30,⟨(.type "code"),none,(.fields #[(.str "picked" 203),(.str "picked" 204),(.str "/claim/cut.py" 205),(.int 6 0),(.int 2 0),(.int 0 0),(.int 0 0),(.int 3 0),(.ref 27),(.bool true),(.int 181 0),(.ref 28),.none,.none,.none,(.ref 29),(.int 206 0),(.int 6 0),(.str "/claim/cut.py" 207)]),#[]⟩),
(31,kF bW7),
(32,kT []),
(35,⟨(.type "code"),none,(.fields #[(.str "cut" 209),(.str "cut" 210),(.str "/claim/cut.py" 211),(.int 8 0),(.int 2 0),(.int 0 0),(.int 0 0),(.int 3 0),(.ref 32),(.bool true),(.int 181 0),(.ref 33),.none,.none,.none,(.ref 34),(.int 212 0),(.int 8 0),(.str "/claim/cut.py" 213)]),#[]⟩),
(36,kF bW8),
(37,kT []),
(40,⟨(.type "code"),none,(.fields #[(.str "kept" 215),(.str "kept" 216),(.str "/claim/cut.py" 217),(.int 11 0),(.int 3 0),(.int 0 0),(.int 0 0),(.int 3 0),(.ref 37),(.bool true),(.int 181 0),(.ref 38),.none,.none,.none,(.ref 39),(.int 218 0),(.int 11 0),(.str "/claim/cut.py" 219)]),#[]⟩),
(41,kF bW9),
(42,kT []),
(45,⟨(.type "code"),none,(.fields #[(.str "common_columns" 221),(.str "common_columns" 222),(.str "/claim/cut.py" 223),(.int 14 0),(.int 2 0),(.int 0 0),(.int 0 0),(.int 3 0),(.ref 42),(.bool true),(.int 181 0),(.ref 43),.none,.none,.none,(.ref 44),(.int 224 0),(.int 14 0),(.str "/claim/cut.py" 225)]),#[]⟩),
(46,kF bX0),
(47,kT []),
(49,kT [(.str "table" 230),(.str "columns" 231),(.str "others" 232),(.str "places" 233),(.str "other_places" 234),(.str "groups" 235),(.str "row" 236)]),
(50,kT []),
(52,kC "grouped" 227 "grouped" 228 229 16 3 3 47 181 48 49 50 51 237 16 238),
(53,kF bX1),
(54,kT []),
(57,⟨(.type "code"),none,(.fields #[(.str "joined" 240),(.str "joined" 241),(.str "/claim/cut.py" 242),(.int 23 0),(.int 2 0),(.int 0 0),(.int 0 0),(.int 3 0),(.ref 54),(.bool true),(.int 181 0),(.ref 55),.none,.none,.none,(.ref 56),(.int 243 0),(.int 23 0),(.str "/claim/cut.py" 244)]),#[]⟩),
(58,kF bX2),
(59,kT []),
(62,⟨(.type "code"),none,(.fields #[(.str "thinned_by" 246),(.str "thinned_by" 247),(.str "/claim/cut.py" 248),(.int 32 0),(.int 2 0),(.int 0 0),(.int 0 0),(.int 3 0),(.ref 59),(.bool true),(.int 181 0),(.ref 60),.none,.none,.none,(.ref 61),(.int 249 0),(.int 32 0),(.str "/claim/cut.py" 250)]),#[]⟩),
(63,kF bX3),
(64,kT []),
(66,kT [(.str "_law_script" 257),(.str "_law_k" 258),(.str "_law_cell" 259),(.str "_law_seed" 260)]),
(67,kT []),
(69,kC "_law_box" 254 "_law_box" 255 256 38 2 3 64 181 65 66 67 68 261 38 262),
(70,kF bX4),
(71,kT []),
(73,kT [(.str "_law_box_here" 267),(.str "_law_many" 268),(.str "_law_digit" 269),(.str "_law_one" 270)]),
(74,kT []),
(76,kC "_law_take" 264 "_law_take" 265 266 46 2 3 71 181 72 73 74 75 271 46 272),
(77,kF bX5),
(78,kT []),
(80,kT [(.str "_law_box_here" 277),(.str "_law_things" 278),(.str "_law_left" 279),(.str "_law_found" 280)]),
(81,kT []),
(83,kC "_law_order" 274 "_law_order" 275 276 54 2 3 78 181 79 80 81 82 281 54 282),
(84,kF bX6),
(85,kT []),
(88,⟨(.type "code"),none,(.fields #[(.str "_law_names" 284),(.str "_law_names" 285),(.str "/claim/cut.py" 286),(.int 60 0),(.int 2 0),(.int 0 0),(.int 0 0),(.int 3 0),(.ref 85),(.bool true),(.int 181 0),(.ref 86),.none,.none,.none,(.ref 87),(.int 287 0),(.int 60 0),(.str "/claim/cut.py" 288)]),#[]⟩),
(89,kF bX7),
(90,kT []),
(93,⟨(.type "code"),none,(.fields #[(.str "_law_rows" 290),(.str "_law_rows" 291),(.str "/claim/cut.py" 292),(.int 80 0),(.int 3 0),(.int 0 0),(.int 0 0),(.int 3 0),(.ref 90),(.bool true),(.int 181 0),(.ref 91),.none,.none,.none,(.ref 92),(.int 293 0),(.int 80 0),(.str "/claim/cut.py" 294)]),#[]⟩),
(94,kF bX8),
(95,kT []),
(97,kT [(.str "_law_box_here" 299),(.str "_law_names_here" 300),(.str "_law_ceiling" 301),(.str "_law_columns" 302)]),
(98,kT []),
(100,kC "_law_table" 296 "_law_table" 297 298 84 3 3 95 181 96 97 98 99 303 84 304),
(101,kF bX9),
(102,kT []),
(104,kT [(.str "_law_tables" 309),(.str "_law_found" 310),(.str "_law_i" 311),(.str "_law_j" 312),(.str "_law_k" 313)]),
(105,kT []),
(107,kC "_law_orders" 306 "_law_orders" 307 308 87 1 3 102 181 103 104 105 106 314 87 315),
(108,kF bG4),
(109,kT []),
(111,kT [(.str "_law_script" 320),(.str "_law_box_here" 321),(.str "_law_names_here" 322),(.str "_law_tables" 323),(.str "_law_k" 324),(.str "_law_columns" 325),(.str "_law_one" 326),(.str "_law_other" 327),(.str "_law_third" 328),(.str "_law_all_of_them" 329),(.str "_law_found" 330),(.str "_law_both" 331),(.str "_law_column" 332),(.str "_law_value" 333),(.str "_law_some" 334),(.str "_law_fewer" 335)]),
(112,kT []),
(114,kC "law" 317 "law" 318 319 93 1 3 109 181 110 111 112 113 336 93 337),
(115,kF aH0)]
noncomputable def Vw:Program:=view PySem.Challenge.pw_mostrows_k16_whole_joins_of_three [1,2,3,4,5,6,7,8,9,11,12,13,14,15,16,17,18]
def cQ0:PySem.Challenge.rw_mostrows_k16_whole_joins_of_three.wellSaid=true:=by kernel_rfl
def left:LeftO PySem.Challenge.rw_mostrows_k16_whole_joins_of_three.row.prog Vw [] (λs=>xlAt Vw [] s&&recOk (RowW.records PySem.Challenge.rw_mostrows_k16_whole_joins_of_three.row.toRowW) s) (λs=>[2,3,6,15,17,18,20,21,22,25,26,27,30,31,32,35,36,37,40,41,42,45,46,47,49,50,52,53,54,57,58,59,62,63,64,66,67,69,70,71,73,74,76,77,78,80,81,83,84,85,88,89,90,93,94,95,97,98,100,101,102,104,105,107,108,109,111,112,114,115].map s.heap.get?) (λw=>(KF w.params).map λp=>some p.2) 1170:=λw=>by kernel_rfl
def cQ1(h:WalkO Vw [] (XL Vw []) (InK KF) PySem.Challenge.rw_mostrows_k16_whole_joins_of_three.row.toRowW cI8 [] (λf vs=>PySem.call f vs)):PySem.Challenge.rw_mostrows_k16_whole_joins_of_three.Holds:=
 holds_law cQ0 λe=>holds_open (d:=cI8) (kwd:=[]) left (InK.of λ_=>by kernel_rfl) InK.keeps (λs e=>xl_of s (Bool.and_eq_true_iff.mp e).1) XL.keeps (by kernel_rfl) (by kernel_rfl) (by kernel_rfl) (λs e=>recFacts_of (Bool.and_eq_true_iff.mp e).2) (by kernel_rfl) e (by kernel_rfl) ⟨rfl,rfl,rfl,rfl,rfl,by decide +kernel⟩ (by w_witness2) h
end Hd
namespace L2
open PySem PySem.Spec PyProof.Rows
abbrev Key:=Sum Int Str
noncomputable def aM3:Key->Value->Bool
 | .inl k,v=>Value.isInt k v
 | .inr x,v=>Value.isStrOf x v
noncomputable def cQ2(w:World):Key->Int
 | .inl k=>hashInt k
 | .inr x=>hashStr w x
def bR:∀ {k:Key} {v:Value},aM3 k v=true->(∃ i t,k=Sum.inl i/\v=Value.int i t)\/(∃ x t,k=Sum.inr x/\v=Value.str x t)
 | .inl i,v,h=>by
   obtain⟨t,e⟩:=Value.isInt_shape (k:=i) (v:=v) h;exact .inl ⟨i,t,rfl,e⟩
 | .inr x,v,h=>by
   obtain⟨t,e⟩:=Value.isStrOf_shape (x:=x) (v:=v) h;exact .inr ⟨x,t,rfl,e⟩
def aQ3(i:Int)(t:Tok):aM3 (.inl i) (.int i t)=true:=by simp[aM3,Value.isInt]
def aQ4(x:Str)(t:Tok):aM3 (.inr x) (.str x t)=true:=by simp[aM3,Value.isStrOf]
def bY0(a b:Int):decide ((Sum.inl a:Key)=Sum.inl b)=(a==b):=by
 by_cases e:a=b;subst e;simp;have h:¬ (Sum.inl a:Key)=Sum.inl b:=λq=>e (Sum.inl.inj q);rw[a2o h];exact(beq_eq_false_iff_ne.mpr e).symm
def bY1(a b:Str):decide ((Sum.inr a:Key)=Sum.inr b)=decide (a=b):=by
 by_cases e:a=b;subst e;simp;have h:¬ (Sum.inr a:Key)=Sum.inr b:=λq=>e (Sum.inr.inj q);rw[a2o h,a2o e]
def bY2(a:Int)(b:Str):decide ((Sum.inl a:Key)=Sum.inr b)=false:=a2o (λq=>nomatch q)
def bY3(a:Str)(b:Int):decide ((Sum.inr a:Key)=Sum.inl b)=false:=a2o (λq=>nomatch q)
noncomputable def cF(prog:Program)(w:World):PySem.KeyKind prog w Key where
 is:=aM3
 hash:=cQ2 w
 inj:=λv a b ha hb=>by
  rcases bR ha with⟨i,t,rfl,rfl⟩ | ⟨x,t,rfl,rfl⟩
  ·rcases bR hb with⟨j,u,rfl,e⟩ | ⟨y,u,rfl,e⟩
   ·injection e with c _;rw[c]
   ·exact nomatch e
  ·rcases bR hb with⟨j,u,rfl,e⟩ | ⟨y,u,rfl,e⟩;exact nomatch e;injection e with c _;rw[c]
 byValue:=λk v h=>by
  rcases bR h with⟨i,t,rfl,rfl⟩ | ⟨x,t,rfl,rfl⟩<;>rfl
 pyHash:=λd h=>by
  rcases bR d with⟨i,t,rfl,rfl⟩ | ⟨x,t,rfl,rfl⟩;exact wpAny_pyHash_int h;exact wpAny_pyHash_str h
 eqBool:=λf d h=>by
  rcases bR f with⟨i,t,rfl,rfl⟩ | ⟨x,t,rfl,rfl⟩;rcases bR d with⟨j,u,rfl,rfl⟩ | ⟨y,u,rfl,rfl⟩;rw[bY0]at h;exact wpAny_eqBool_int h;rw[bY2]at h;exact SeqAt.EqAt.int_str i t y u _ _ _ _ h;rcases bR d with⟨j,u,rfl,rfl⟩ | ⟨y,u,rfl,rfl⟩;rw[bY3]at h;exact SeqAt.EqAt.str_int x t j u _ _ _ _ h;rw[bY1]at h;exact wpAny_eqBool_str h
 «strs»:=λk x t v h=>by
  rcases bR h with⟨i,u,rfl,e⟩ | ⟨y,u,rfl,e⟩;exact nomatch e;injection e with c _
  subst c;cases v<;>rfl
def aB4(prog:Program)(w:World)(i:Int)(t:Tok):(cF prog w).is (.inl i) (.int i t)=true:=aQ3 i t
def aB5(prog:Program)(w:World)(x:Str)(t:Tok):(cF prog w).is (.inr x) (.str x t)=true:=aQ4 x t
inductive V where
 | non | bl (b:Bool) | int (i:Int) | str (x:Str) | byt (b:Array UInt8) | flt (b:UInt64) | ref (a:Addr) | ty (n:String)
 deriving DecidableEq
def eI:V->Value->Prop
 | .non,u=>u=Value.none
 | .bl b,u=>u=Value.bool b
 | .int i,u=>∃ t,u=Value.int i t
 | .str x,u=>∃ t,u=Value.str x t
 | .byt b,u=>∃ t,u=Value.bytes b t
 | .flt b,u=>∃ t,u=Value.float b t
 | .ref a,u=>u=Value.ref a
 | .ty n,u=>u=Value.type n
abbrev bS:List V->List Value->Prop:=Paired eI
theorem bS.length{xs:List V}{us:List Value}(r:bS xs us):xs.length=us.length:=Paired.length r
theorem bS.get:∀ {xs:List V} {us:List Value} {i:Nat} {x:V},bS xs us->xs[i]? = some x->∃ u,us[i]? = some u/\eI x u
 | _,_,_,_,.nil,e=>by simp at e
 | _,_,0,_,.cons r _,e=>by simp at e;subst e;exact⟨_,rfl,r⟩
 | _,_,i+1,x,.cons _ t,e=>by
   obtain⟨u,a,b⟩:=bS.get (i:=i) (x:=x) t (by simpa using e);exact⟨u,by simpa using a,b⟩
theorem bS.set{x:V}{u:Value}(r:eI x u):∀ {xs:List V} {us:List Value} (i:Nat),bS xs us->bS (xs.set i x) (us.set i u)
 | _,_,_,.nil=>.nil
 | _,_,0,.cons _ t=>.cons r t
 | _,_,i+1,.cons q t=>.cons q (bS.set r i t)
theorem bS.append:∀ {xs ys:List V} {us ws:List Value},bS xs us->bS ys ws->bS (xs++ys) (us++ws)
 | _,_,_,_,.nil,s=>s
 | _,_,_,_,.cons r t,s=>.cons r (bS.append t s)
theorem bS.take:∀ {xs:List V} {us:List Value} (n:Nat),bS xs us->bS (xs.take n) (us.take n)
 | _,_,0,_=>.nil
 | _,_,_+1,.nil=>.nil
 | _,_,n+1,.cons r t=>.cons r (bS.take n t)
theorem bS.drop:∀ {xs:List V} {us:List Value} (n:Nat),bS xs us->bS (xs.drop n) (us.drop n)
 | _,_,0,r=>r
 | _,_,_+1,.nil=>.nil
 | _,_,n+1,.cons _ t=>bS.drop n t
def bG5:Option V->Option Value->Prop
 | some v,some u=>eI v u
 | none,none=>True
 | _,_=>False
def KV{κ:Type}:List (κ×V)->List (κ×Value)->Prop:=Paired λ(p:κ×V) (q:κ×Value)=>p.1=q.1/\eI p.2 q.2
noncomputable def kV:Key->V
 | .inl i=>.int i
 | .inr x=>.str x
inductive HO where
 | lst (xs:List V)
 | tup (xs:List V)
 | dK (kvs:List (Key×V)) | dT (kvs:List (List Key×V))
 | set (S:Int->Bool) (n:Nat)
 | ins (C dx:Addr) (fs:List (Str×V))
 | own (x:Addr)
 | xd (fs:List (Str×V))
 | met (f x:Addr)
 | rng (lo hi:Int)
 | frz (o:Obj) (u:HO)
 | tbl (ps:Array Value)
 | ext (φ:Heap->Prop)
abbrev Hp:=Addr->Option HO
noncomputable def upd(H:Hp)(a:Addr)(o:HO):Hp:=λb=>if b=a then some o else H b
def aO{H:Hp}{a:Addr}{o:HO}:upd H a o a=some o:=by unfold upd;rw[a1Z rfl]
def aL{H:Hp}{a b:Addr}{o:HO}(h:b≠a):upd H a o b=H b:=by unfold upd;rw[a2k h]
def cI9{H:Hp}{a b:Addr}{o u:HO}(h:H a=some o)(h':H b=some u)(d:o≠u):a≠b:=by
 intro e;subst e;rw[h]at h';exact d (a5a h')
def cX{H:Hp}{a b:Addr}{o:HO}(h:H a=some o)(h':H b=none):a≠b:=by
 intro e;subst e;rw[h]at h';cases h'
def cQ3(h:Heap)(a:Addr):Prop:=∃ o,h.get? a=some o/\o.dict=none
section
variable(P:Program)(w:World)
def dE(H:Hp)(h:Heap)(a:Addr):HO->Prop
 | .lst xs=>xs.length<=sizeLine/\∃ (its:List Value) (n:Nat),bS xs its/\h.get? a=some {cls:=.type "list",data:=.seq its.toArray n}
 | .tup xs=>xs.length<=sizeLine/\∃ its:List Value,bS xs its/\IsTup h a its.toArray/\cQ3 h a
 | .dK kvs=>kvs.length<=sizeLine/\(a==sysModules)=false/\∃ vs,KV kvs vs/\h.DictOf (cF P w) a vs
 | .dT kvs=>kvs.length<=sizeLine/\(a==sysModules)=false/\∃ xs:List (List Key×Addr×Value),
   Paired (λ(p:List Key×V) (q:List Key×Addr×Value)=>p.1=q.1/\H q.2.1=some (.tup (p.1.map kV))/\eI p.2 q.2.2) kvs xs /\
   ∃ o es ep,h.get? a=some o/\o.ExactDict/\o.data=.dict es ep/\es.toList=xs.map (entryOfKey (tupleKind (cF P w)))/\(xs.map (·.1)).Nodup
 | .set S n=>h.SetOf (intKind P w) a S n
 | .ins C dx fs=>H dx=some (.own a)/\fs.length<=1000/\dx≠a/\h.get? a=some (W.instObj C dx) /\
   ∃ mA,h.Ns1 dx mA/\(∀ f,bG5 (fs.lookup f) (mA f))/\Within mA (fs.map (·.1))
 | .own _=>∃ o,h.get? a=some o
 | .xd fs=>∃ mA,h.Ns1 a mA/\∀ f,bG5 (fs.lookup f) (mA f)
 | .rng lo hi=>∃ t u v,h.get? a=some {cls:=.type "range",data:=.fields #[.int lo t,.int hi u,.int 1 v]}
 | .frz o u=>h.get? a=some o/\dE H h a u
 | .tbl ps=>h.get? a=some {cls:=.none,data:=.fields ps}
 | .met f x=>h.get? a=some (W.methodObj (.ref f) (.ref x))
 | .ext φ=>φ h/\(∃ o,h.get? a=some o)/\∀ b c:Heap,φ b->(∀ o,b.get? a=some o->c.get? a=some o)->φ c
def HOk(H:Hp)(h:Heap):Prop:=∀ a o,H a=some o->dE P w H h a o
end
section
variable{P:Program}{w:World}{H H':Hp}{h h':Heap}{a:Addr}{o:HO}
theorem dE.lt(x:dE P w H h a o):a < h.objs.size:=by
 cases o with
 | lst xs=>obtain⟨_,_,_,_,e⟩:=x;exact a5b e
 | tup xs=>obtain⟨_,_,_,p,_⟩:=x;exact p.lt
 | dK kvs=>obtain⟨_,_,_,_,o,_,_,e,_⟩:=x;exact a5b e
 | dT kvs=>obtain⟨_,_,_,_,o,_,_,e,_⟩:=x;exact a5b e
 | set S n=>obtain⟨o,_,_,_,e,_⟩:=x;exact a5b e
 | ins C dx fs=>obtain⟨_,_,_,e,_⟩:=x;exact a5b e
 | own y=>obtain⟨_,e⟩:=x;exact a5b e
 | xd fs=>obtain⟨_,⟨_,_,_,e,_⟩,_⟩:=x;exact a5b e
 | rng lo hi=>obtain⟨_,_,_,e⟩:=x;exact a5b e
 | frz ob u=>obtain⟨e,_⟩:=x;exact a5b e
 | tbl ps=>exact a5b (show h.get? a=some _ from x)
 | met f y=>exact a5b (show h.get? a=some _ from x)
 | ext φ=>obtain⟨_,⟨_,e⟩,_⟩:=x;exact a5b e
theorem Paired.mapP{c d:Type}{F G:c->d->Prop}:∀ {l₁:List c} {l₂:List d},Paired F l₁ l₂->(∀ a b,F a b->G a b)->Paired G l₁ l₂
 | _,_,.nil,_=>.nil
 | _,_,.cons r t,f=>.cons (f _ _ r) (Paired.mapP t f)
def dE.stay(x:dE P w H h a o)(k:∀ b u,(b=a\/H b=some (.own a))->h.get? b=some u->h'.get? b=some u)
  (j:∀ b,H b=some (.own a)->H' b=some (.own a)) (l:∀ b xs,H b=some (.tup xs)->H' b=some (.tup xs)):dE P w H' h' a o:=by
 induction o with
 | lst xs=>obtain⟨z,its,n,r,e⟩:=x;exact⟨z,its,n,r,k _ _ (.inl rfl) e⟩
 | tup xs=>obtain⟨z,its,r,⟨ob,e,c⟩,⟨g,i,m⟩⟩:=x;exact⟨z,its,r,⟨ob,k _ _ (.inl rfl) e,c⟩,⟨g,k _ _ (.inl rfl) i,m⟩⟩
 | dK kvs=>obtain⟨z,y,vs,r,ob,es,ep,e,c⟩:=x;exact⟨z,y,vs,r,ob,es,ep,k _ _ (.inl rfl) e,c⟩
 | dT kvs=>
   obtain⟨z,y,xs,r,ob,es,ep,e,c⟩:=x;exact⟨z,y,xs,Paired.mapP r λp q z=>⟨z.1,l _ _ z.2.1,z.2.2⟩,ob,es,ep,k _ _ (.inl rfl) e,c⟩
 | set S n=>obtain⟨ob,es,ep,t,e,c⟩:=x;exact⟨ob,es,ep,t,k _ _ (.inl rfl) e,c⟩
 | ins C dx fs=>
   obtain⟨d,z,ne,e,mA,⟨od,es,ep,i,c⟩,r⟩:=x;exact⟨j _ d,z,ne,k _ _ (.inl rfl) e,mA,⟨od,es,ep,k _ _ (.inr d) i,c⟩,r⟩
 | own y=>obtain⟨ob,e⟩:=x;exact⟨ob,k _ _ (.inl rfl) e⟩
 | xd fs=>obtain⟨mA,⟨od,es,ep,e,c⟩,r⟩:=x;exact⟨mA,⟨od,es,ep,k _ _ (.inl rfl) e,c⟩,r⟩
 | rng lo hi=>obtain⟨t,u,v,e⟩:=x;exact⟨t,u,v,k _ _ (.inl rfl) e⟩
 | frz ob u s=>obtain⟨e,q⟩:=x;exact⟨k _ _ (.inl rfl) e,s q⟩
 | tbl ps=>
   have e:h.get? a=some {cls:=.none,data:=.fields ps}:=x;show h'.get? a=some {cls:=.none,data:=.fields ps};exact k a _ (.inl rfl) e
 | met f y=>
   have e:h.get? a=some (W.methodObj (.ref f) (.ref y)):=x;show h'.get? a=some (W.methodObj (.ref f) (.ref y));exact k a _ (.inl rfl) e
 | ext φ=>obtain⟨p,⟨o,e⟩,st⟩:=x;exact⟨st _ _ p λo q=>k _ _ (.inl rfl) q,⟨o,k _ _ (.inl rfl) e⟩,st⟩
theorem HOk.lt(x:HOk P w H h)(e:H a=some o):a < h.objs.size:=(x a o e).lt
theorem HOk.fresh(x:HOk P w H h)(e:h.objs.size<=a):H a=none:=by
 cases q:H a with
 | none=>rfl
 | some u=>exact absurd (a0c (x.lt q) e) (a2f _)
def HOk.kept(x:HOk P w H h)(k:∀ b u,h.get? b=some u->h'.get? b=some u):HOk P w H h':=λa o e=>
 (x a o e).stay (λb u _ q=>k b u q) (λ_ q=>q) λ_ _ q=>q
def HOk.laid(x:HOk P w H h)(k:∀ b u,h.get? b=some u->h'.get? b=some u)(f:h.objs.size<=a)(d:dE P w (upd H a o) h' a o):HOk P w (upd H a o) h':=λb u e=>by
 have hn:=x.fresh f;by_cases hb:b=a;subst hb;rw[aO]at e;cases e;exact d;rw[aL hb]at e;exact(x b u e).stay (λc v _ q=>k c v q) (λc q=>by rw[aL (cX q hn)];exact q) λc xs q=>by rw[aL (cX q hn)];exact q
end
def Rd(H:Hp)(a:Addr)(u:HO):Prop:=H a=some u\/∃ o,H a=some (.frz o u)
theorem Rd.ok{P:Program}{w:World}{H:Hp}{h:Heap}{a:Addr}{u:HO}(r:Rd H a u)(x:HOk P w H h):dE P w H h a u:=by
 rcases r with r | ⟨o,r⟩;exact x a u r;obtain⟨_,q⟩:=x a _ r;exact q
def Mut:Option HO->Prop
 | some (.lst _)=>True
 | some (.dK _)=>True
 | some (.dT _)=>True
 | some (.set _ _)=>True
 | some (.ins _ _ _)=>True
 | some (.ext _)=>True
 | _=>False
section
variable{P:Program}{w:World}{H:Hp}{h h':Heap}{x e:Addr}{o':HO}
def HOk.write(ok:HOk P w H h)(mu:Mut (H x))(l:e=x\/H e=some (.own x))(k:∀ b u,b≠e->h.get? b=some u->h'.get? b=some u)(i:∃ u,h'.get? e=some u)
  (j:dE P w (upd H x o') h' x o'):HOk P w (upd H x o') h':=λb u q=>by
 have d:∀ c y,H c=some (.own y)->c≠x:=λc y r z=>by subst z;rw[r]at mu;exact mu
 have f:∀ c xs,H c=some (.tup xs)->c≠x:=λc xs r z=>by subst z;rw[r]at mu;exact mu
 by_cases hb:b=x;subst hb;rw[aO]at q;cases q;exact j;rw[aL hb]at q;by_cases a:b=e
 ·have m:H b=some (.own x):=by
   rcases l with z | z;exact absurd (a.trans z) hb;rw[a];exact z
  rw[q]at m;cases m;obtain⟨v,n⟩:=i;exact⟨v,by rw[a];exact n⟩
 ·refine(ok b u q).stay (λc v g r=>k c v ?_ r) (λc r=>by rw[aL (d c b r)];exact r) λc xs r=>by rw[aL (f c xs r)];exact r
  rcases g with rfl | g;exact a;rintro rfl;rcases l with z | z;exact d c b g z;rw[g]at z;cases z;exact hb rfl
end
structure Un(fs ex:List Addr)(H H':Hp)(h h':Heap):Prop where
 keep:∀ b o,h.get? b=some o->H b=none->b∉fs->b∉ex->h'.get? b=some o
 slot:∀ b o,h.get? b=some o->H b=none->b∈fs->b∉ex->∃ sl,h'.get? b=some {o with slots:=sl}
 free:∀ b o,h.get? b=some o->H b=none->b∉ex->H' b=none
 there:∀ b o,h.get? b=some o->b∉ex->∃ o',h'.get? b=some o'
 tups:∀ b xs,H b=some (.tup xs)->H' b=some (.tup xs)
 frzs:∀ b o u,H b=some (.frz o u)->H' b=some (.frz o u)
 tbls:∀ b ps,H b=some (.tbl ps)->∃ more,H' b=some (.tbl (ps++more))
section
variable{fs fs' ex ex':List Addr}{H H1 H2:Hp}{h h1 h2 h':Heap}{a x e:Addr}{o:HO}
def Un.any(u:Un fs ex H H1 h h1){b:Addr}{ob:Obj}(q:h.get? b=some ob)(n:H b=none)(a:b∉ex):∃ sl,h1.get? b=some {ob with slots:=sl}:=by
 by_cases hb:b∈fs;exact u.slot b ob q n hb a;exact⟨ob.slots,u.keep b ob q n hb a⟩
def Un.kept(k:∀ b u,h.get? b=some u->h'.get? b=some u):Un fs ex H H h h':=
 ⟨λb ob q _ _ _=>k b ob q,λb ob q _ _ _=>⟨ob.slots,k b ob q⟩,λ_ _ _ n _=>n,λb ob q _=>⟨ob,k b ob q⟩,λ_ _ q=>q,λ_ _ _ q=>q,λ_ ps q=>⟨#[],by rw[q];simp⟩⟩
def Un.refl:Un fs ex H H h h:=Un.kept λ_ _ q=>q
def Un.laid(k:∀ b u,h.get? b=some u->h'.get? b=some u)(c:h.objs.size<=a)(hn:H a=none):Un fs ex H (upd H a o) h h' where
 keep:=λb u q _ _ _=>k b u q
 slot:=λb u q _ _ _=>⟨u.slots,k b u q⟩
 free:=λb u q n _=>by rw[aL (a2d (a0c (a5b q) c))];exact n
 there:=λb u q _=>⟨u,k b u q⟩
 tups:=λb xs q=>by rw[aL (cX q hn)];exact q
 frzs:=λb u xs q=>by rw[aL (cX q hn)];exact q
 tbls:=λb ps q=>⟨#[],by rw[aL (cX q hn),q];simp⟩
def Un.write(mu:Mut (H x))(g:e=x\/H e=some (.own x))(k:∀ b u,b≠e->h.get? b=some u->h'.get? b=some u)(c:∃ u,h'.get? e=some u):Un fs ex H (upd H x o) h h':=by
 have f:∀ b,H b=none->b≠x:=λb n z=>by subst z;rw[n]at mu;exact mu
 have hb:∀ b,H b=none->b≠e:=λb n z=>by
  subst z;rcases g with r | r;exact f b n r;rw[n]at r;cases r
 have d:∀ b u,H b=some u->¬ Mut (some u)->b≠x:=λb u q i z=>by subst z;rw[q]at mu;exact i mu
 refine⟨λb u q n _ _=>k b u (hb b n) q,λb u q n _ _=>⟨u.slots,k b u (hb b n) q⟩,λb u q n _=>by rw[aL (f b n)];exact n,λb u q _=>?_,
  λb xs q=>by rw[aL (d b _ q λz=>z)];exact q,λb u xs q=>by rw[aL (d b _ q λz=>z)];exact q,λb ps q=>⟨#[],by rw[aL (d b _ q λz=>z),q];simp⟩⟩
 by_cases a:b=e;subst a;exact c;exact⟨u,k b u a q⟩
end
noncomputable def trk(h:Heap)(H:Hp):List Addr:=(List.range h.objs.size).filter λa=>(H a).isSome
noncomputable def bA5(h:Heap)(H:Hp):Heap:=W.hideAll h (trk h H)
def aQ5(h:Heap)(H:Hp):(bA5 h H).objs.size=h.objs.size:=W.hideAll_size _ _
def bA6{h:Heap}{H:Hp}{b:Addr}{o:Obj}(e:h.get? b=some o)(n:H b=none):(bA5 h H).get? b=some o:=
 W.hideAll_get _ e λa=>by
  have q:(H b).isSome=true:=(List.mem_filter.mp a).2;rw[n]at q;simp at q
def bM0{h:Heap}{H:Hp}{b:Addr}{o:Obj}(e:(bA5 h H).get? b=some o):h.get? b=some o/\H b=none:=by
 have a:h.get? b=some o:=W.of_hideAll (trk h H) e;refine⟨a,?_⟩;cases q:H b with
 | none=>rfl
 | some x=>
   have c:b∈trk h H:=List.mem_filter.mpr ⟨a3i.mpr (a5b a),by simp[q]⟩;have z:(bA5 h H).get? b=none:=W.hideAll_none (trk h H) c;rw[z]at e;cases e
noncomputable def bM1(g h:Heap)(L:Addr):List (Addr×Obj):=(List.range h.objs.size).filterMap λa=>if a=L\/(g.get? a).isSome=true then none else(h.get? a).map λo=>(a,o)
noncomputable def dG(g h:Heap)(L d:Addr):List (Addr×Obj):=(bM1 g h L).filter λp=>decide (p.1≠d)
structure Mod(K:W.Frag)(mg:Str->Option Value)(base:Heap):Prop where
 kin:K.In base
 glob:base.Ns mainGlobals mg
 blt:∃ mb,base.Ns builtinsNs mb/\∀ x:Str,x≠"__name__"->mb x=bootBuiltins x
 nolimit:base.NoLimit
structure Cx where
 prog:Program
 w:World
 K:W.Frag
 mg:Str->Option Value
 base:Heap
 A:Around
 N:List Str
 s₀:Shared
 H₀:Hp
 env:Env
 outer:List Env
 stack:List Env
 ex:List Addr
 fn:Str->Bool
 calm:Bool
 pn:List (Addr×Obj)
 xe:Value->Shared->Prop
noncomputable def frs(l:List Env):List Addr:=l.filterMap (·.frame)
noncomputable abbrev Cx.fs(X:Cx):List Addr:=frs X.outer
def Vis(sc:Scope)(x:Str):Prop:=sc.names.lookup x=some .local\/sc.names.lookup x=some .cell\/sc.names.lookup x=some .free
def Loc(sc:Scope)(x:Str):Prop:=sc.names.lookup x=some .local\/sc.names.lookup x=some .cell
def cQ4(env:Env)(h:Heap)(m:Str->Option Value)(x:Str)(u:Value):Prop:=
 (env.kindOf x=some .local/\m x=some u)\/((env.kindOf x=some .cell\/env.kindOf x=some .free)/\∃ c,env.cells.lookup x=some c/\h.IsCell c (some u))
structure Cx.Ok(X:Cx):Prop where
 mod:Mod X.K X.mg X.base
 kind:X.env.scope.kind=.function
 glob:X.env.globals=mainGlobals
 blt:X.env.builtins=builtinsNs
 above:X.s₀.heap.objs.size<=X.env.locals
 inj:∀ x y c,X.env.cells.lookup x=some c->X.env.cells.lookup y=some c->x=y
 has:∀ x,(X.env.kindOf x=some .cell\/X.env.kindOf x=some .free)->∃ c,X.env.cells.lookup x=some c
 cab:∀ x c,X.fn x=true->X.env.cells.lookup x=some c->X.s₀.heap.objs.size<=c
 hd:X.calm=true->X.A.handled=none
 frames:X.A.frames=some X.stack
 stk:X.stack=X.outer\/(X.stack=X.env::X.outer/\X.env.frame=some X.env.locals)
 exf:∀ b∈X.ex,b≠X.env.locals/\∀ x c,X.env.cells.lookup x=some c->c≠b
 bs:∀ b o,X.base.get? b=some o->X.s₀.heap.get? b=some o/\X.H₀ b=none
 bsz:X.base.objs.size<=X.s₀.heap.objs.size
 noex:∀ b o,X.base.get? b=some o->b∉X.ex
 exfs:∀ b∈X.ex,b∉X.fs
 funs:X.s₀.heap.FunFrames X.base X.outer
 frf:∀ b∈X.fs,X.H₀ b=none
structure Inv(X:Cx)(pins:List (Addr×Obj))(σ:List (Option V))(H:Hp)(s:Shared):Prop where
 ok:X.Ok
 os:s.os=X.s₀.os
 bare:AllBare s.gens
 base:Un X.fs X.ex X.H₀ H X.s₀.heap s.heap
 loc:∃ m,s.heap.Ns X.env.locals m/\∀ (i:Nat) (x:Str) (v:V),X.N[i]? = some x->σ[i]? = some (some v)->Vis X.env.scope x->∃ u,eI v u/\cQ4 X.env s.heap m x u
 cell:∀ x c,X.env.cells.lookup x=some c->∃ v,s.heap.IsCell c v
 free:H X.env.locals=none
 freeC:∀ x c,X.env.cells.lookup x=some c->H c=none
 pin:∀ p∈X.pn++pins,s.heap.get? p.1=some p.2/\H p.1=none/\p.1≠X.env.locals/\p.1∉X.fs/\∀ v,p.2.data≠.cell v
 hok:HOk X.prog X.w H s.heap
 len:σ.length=X.N.length
section
variable{X:Cx}{pins:List (Addr×Obj)}{σ:List (Option V)}{H H':Hp}{s:Shared}{h':Heap}
def Cx.Ok.nofr(ok:X.Ok){b:Addr}{o:Obj}(e:X.base.get? b=some o):b∉X.fs:=λhb=>by
 have:=(ok.funs.mem hb).1;rw[e]at this;cases this
theorem Inv.bs(I:Inv X pins σ H s):∀ b o,X.base.get? b=some o->s.heap.get? b=some o/\H b=none:=λb o e=>
 ⟨I.base.keep b o (I.ok.bs b o e).1 (I.ok.bs b o e).2 (I.ok.nofr e) (I.ok.noex b o e),I.base.free b o (I.ok.bs b o e).1 (I.ok.bs b o e).2 (I.ok.noex b o e)⟩
def Inv.bk(I:Inv X pins σ H s):∀ b o,X.base.get? b=some o->s.heap.get? b=some o:=λb o e=>(I.bs b o e).1
theorem Inv.mod(I:Inv X pins σ H s):Mod X.K X.mg X.base:=I.ok.mod
def Inv.kIn(I:Inv X pins σ H s):X.K.In s.heap:=I.ok.mod.kin.keeps I.bk
theorem Inv.lt(I:Inv X pins σ H s):X.env.locals < s.heap.objs.size:=let ⟨_,hn,_⟩:=I.loc;hn.lt
def Inv.sz(I:Inv X pins σ H s):X.s₀.heap.objs.size<=s.heap.objs.size:=a0b I.ok.above (a3g I.lt)
def Inv.nofs(I:Inv X pins σ H s){a:Addr}(h:s.heap.objs.size<=a):a∉X.fs:=λhb=>by
 obtain⟨_,o,b,_⟩:=I.ok.funs.mem hb;exact absurd (a0c (a5b b) (a0b I.sz h)) (a2f _)
def Inv.cne(I:Inv X pins σ H s):∀ x c,X.env.cells.lookup x=some c->c≠X.env.locals:=λx c e z=>by
 obtain⟨v,o,d,hd⟩:=I.cell x c e;obtain⟨m,⟨o',es,ep,a,b,_⟩,_⟩:=I.loc;rw[z,a]at d;cases d;rw[b]at hd;cases hd
theorem Inv.funs(I:Inv X pins σ H s):s.heap.FunFrames X.base X.outer:=by
 have all:∀ (l:List Env),(∀ b∈frs l,b∈X.fs)->X.s₀.heap.FunFrames X.base l->s.heap.FunFrames X.base l:=by
  intro l
  induction l with
  | nil=>intro _ _;trivial
  | cons env r d=>
    intro hs f;obtain⟨g,⟨L,o,a,hn,h,hd⟩,i⟩:=f;have c:L∈X.fs:=hs L (by unfold frs;rw[a8g,a];exact a3a);obtain⟨sl,e⟩:=I.base.slot L o h (I.ok.frf L c) c λz=>I.ok.exfs L z c;exact⟨g,⟨L,_,a,hn,e,hd⟩,d (λb hb=>hs b (by unfold frs;rw[a8g,a];exact a4a _ hb)) i⟩
 exact all X.outer (λ_ hb=>hb) I.ok.funs
theorem Inv.stack(I:Inv X pins σ H s):s.heap.FunFrames X.base X.stack:=by
 rcases I.ok.stk with e | ⟨e,a⟩;rw[e];exact I.funs;rw[e];obtain⟨m,hn,_⟩:=I.loc;refine .cons (by rw[I.ok.kind];decide) a hn ?_ I.funs;exact Heap.get?_none_of_le (a0b I.ok.bsz I.ok.above)
def Inv.stkSub(I:Inv X pins σ H s):∀ b∈frs X.stack,b∈X.env.locals::X.fs:=λb hb=>by
 rcases I.ok.stk with e | ⟨e,a⟩;rw[e]at hb;exact a4a _ hb;rw[e]at hb;unfold frs at hb;rw[a8g,a]at hb;exact hb
def Inv.stkFree(I:Inv X pins σ H s):∀ b∈frs X.stack,H b=none:=λb hb=>by
 rcases a9b.mp (I.stkSub b hb)with e | hb;rw[e];exact I.free;obtain⟨_,o,a,_⟩:=I.ok.funs.mem hb;exact I.base.free b o a (I.ok.frf b hb) λz=>I.ok.exfs b z hb
def Inv.step{g':Array GenState}{t':Nat}{d':Drawn}{ch:List Addr}(I:Inv X pins σ H s)
  (f:∀ b∈ch,(b∈X.ex\/X.s₀.heap.objs.size<=b)/\b≠X.env.locals/\(∀ x c,X.env.cells.lookup x=some c->c≠b)/\∀ p∈X.pn++pins,p.1≠b)
  (keep:∀ b o,b≠X.env.locals->b∉X.fs->b∉ch->s.heap.get? b=some o->H b=none->h'.get? b=some o)
  (slot:∀ b o,b≠X.env.locals->b∈X.fs->b∉ch->s.heap.get? b=some o->H b=none->∃ sl,h'.get? b=some {o with slots:=sl}) (free:∀ b o,b∉ch->s.heap.get? b=some o->H b=none->H' b=none)
  (there:∀ b o,b∉ch->s.heap.get? b=some o->∃ o',h'.get? b=some o')
  (tups:∀ b xs,H b=some (.tup xs)->H' b=some (.tup xs)) (frzs:∀ b o u,H b=some (.frz o u)->H' b=some (.frz o u)) (tbls:∀ b ps,H b=some (.tbl ps)->∃ more,H' b=some (.tbl (ps++more)))
  (ns:∀ m,s.heap.Ns X.env.locals m->h'.Ns X.env.locals m) (hok:HOk X.prog X.w H' h') (G:AllBare g') :
  Inv X pins σ H' {s with heap:=h',gens:=g',drawn:=d',toks:=t'}:=by
 have A:∀ b o,X.s₀.heap.get? b=some o->b≠X.env.locals:=λb o e=>a2d (a0c (a5b e) I.ok.above);have j:∀ b o,X.s₀.heap.get? b=some o->b∉X.ex->b∉ch:=λb o e a hb=>by
  rcases(f b hb).1 with z | z;exact a z;exact absurd (a0c (a5b e) z) (a2f _)
 have g:∀ x c,X.env.cells.lookup x=some c->∀ v,s.heap.IsCell c v->h'.IsCell c v:=λx c e v ⟨o,y,hd⟩=>by
  have h:c∉ch:=λz=>(f c z).2.2.1 x c e rfl;by_cases D:c∈X.fs;obtain⟨sl,q⟩:=slot c o (I.cne x c e) D h y (I.freeC x c e);exact⟨_,q,hd⟩;exact⟨o,keep c o (I.cne x c e) D h y (I.freeC x c e),hd⟩
 refine⟨I.ok,I.os,G,⟨λb o e n hb a=>?_,λb o e n hb a=>?_,λb o e n a=>?_,λb o e a=>?_,λb xs e=>tups b xs (I.base.tups b xs e),λb o xs e=>frzs b o xs (I.base.frzs b o xs e),λb ps e=>?_⟩,?_,λx c e=>?_,?_,λx c e=>?_,λp E=>?_,hok,I.len⟩;exact keep b o (A b o e) hb (j b o e a) (I.base.keep b o e n hb a) (I.base.free b o e n a);obtain⟨sl,t⟩:=I.base.slot b o e n hb a;obtain⟨C,B⟩:=slot b _ (A b o e) hb (j b o e a) t (I.base.free b o e n a);exact⟨C,B⟩;obtain⟨o',t⟩:=I.base.there b o e a;exact free b o' (j b o e a) t (I.base.free b o e n a);obtain⟨o',t⟩:=I.base.there b o e a;exact there b o' (j b o e a) t;obtain⟨J,t⟩:=I.base.tbls b ps e;obtain⟨K,B⟩:=tbls b _ t;exact⟨J++K,by rw[B,Array.append_assoc]⟩;obtain⟨m,hn,L⟩:=I.loc;refine⟨m,ns m hn,λi x v t B M=>?_⟩;obtain⟨u,r,l⟩:=L i x v t B M;refine⟨u,r,?_⟩;rcases l with l | ⟨k,c,e,z⟩;exact .inl l;exact .inr ⟨k,c,e,g x c e _ z⟩;obtain⟨v,z⟩:=I.cell x c e;exact⟨v,g x c e v z⟩;obtain⟨m,⟨o,_,_,y,_⟩,_⟩:=I.loc;exact free _ o (λz=>(f _ z).2.1 rfl) y I.free;obtain⟨v,o,y,hd⟩:=I.cell x c e;exact free c o (λz=>(f c z).2.2.1 x c e rfl) y (I.freeC x c e);obtain⟨e,n,ne,F,d⟩:=I.pin p E;have h:p.1∉ch:=λz=>(f p.1 z).2.2.2 p E rfl;exact⟨keep p.1 p.2 ne F h e n,free p.1 p.2 h e n,ne,F,d⟩
def Inv.un{t':Nat}(I:Inv X pins σ H s)(u:Un X.fs [] H H' s.heap h')(hok:HOk X.prog X.w H' h'):Inv X pins σ H' {s with heap:=h',toks:=t'}:=by
 obtain⟨m,⟨o,es,ep,f,r⟩,_⟩:=id I.loc;obtain⟨sl,g⟩:=u.any f I.free (by simp);exact I.step (g':=s.gens) (d':=s.drawn) (ch:=[]) (λ_ z=>nomatch z) (λb o _ hb _ e n=>u.keep b o e n hb (by simp)) (λb o _ hb _ e n=>u.slot b o e n hb (by simp)) (λb o _ e n=>u.free b o e n (by simp)) (λb o _ e=>u.there b o e (by simp)) u.tups u.frzs u.tbls (λm' h=>by
  obtain⟨o',c,d,a,i⟩:=h;rw[f]at a;cases a;exact⟨_,c,d,g,i⟩) hok I.bare
def Inv.call{g':Array GenState}{t':Nat}{d':Drawn}{ch:List Addr}(I:Inv X pins σ H s)(u:Un (frs X.stack) ch H H' s.heap h')(hok:HOk X.prog X.w H' h')(k:AllBare g')
  (d:∀ b∈ch,(b∈X.ex\/X.s₀.heap.objs.size<=b)/\b≠X.env.locals/\(∀ x c,X.env.cells.lookup x=some c->c≠b)/\∀ p∈X.pn++pins,p.1≠b) :
  Inv X pins σ H' {s with heap:=h',gens:=g',drawn:=d',toks:=t'}:=by
 obtain⟨m,⟨o,es,ep,j,r⟩,_⟩:=id I.loc;obtain⟨sl,g⟩:=u.any j I.free λz=>(d _ z).2.1 rfl;exact I.step (ch:=ch) d (λb o g hb a e n=>u.keep b o e n (λz=>(a9b.mp (I.stkSub b z)).elim g hb) a) (λb o _ _ a e n=>u.any e n a) (λb o a e n=>u.free b o e n a) (λb o a e=>u.there b o e a) u.tups u.frzs u.tbls (λm' l=>by
  obtain⟨o',h,i,f,q⟩:=l;rw[j]at f;cases f;exact⟨_,h,i,g,q⟩) hok k
def Inv.turned{t':Nat}{it:Addr}(I:Inv X pins σ H s)(k:∀ b o,b≠it->s.heap.get? b=some o->h'.get? b=some o)(hn:H it=none)(f:it≠X.env.locals)
  (g:it∈X.ex\/X.s₀.heap.objs.size<=it) (h:∀ x c,X.env.cells.lookup x=some c->c≠it) (i:∀ p∈X.pn++pins,p.1≠it):Inv X pins σ H {s with heap:=h',toks:=t'}:=by
 have d:∀ b u,H b=some u->b≠it:=λb u e z=>by rw[z,hn]at e;cases e
 refine I.step (g':=s.gens) (d':=s.drawn) (ch:=[it]) (λb hb=>?_) (λb o _ _ a e _=>k b o (λz=>a (by simp[z])) e) (λb o _ _ a e _=>⟨o.slots,k b o (λz=>a (by simp[z])) e⟩) (λ_ _ _ _ n=>n)
  (λb o a e=>⟨o,k b o (λz=>a (by simp[z])) e⟩) (λ_ _ e=>e) (λ_ _ _ e=>e) (λb ps e=>⟨#[],by rw[e];simp⟩) (λm j=>?_) (λb u e=>?_) I.bare
 ·have e:b=it:=by simpa using hb
  subst e;exact⟨g,f,h,i⟩
 ·obtain⟨o,es,ep,l,r⟩:=j;exact⟨o,es,ep,k _ o (a1d f) l,r⟩
 ·refine(I.hok b u e).stay (λc v a q=>k c v ?_ q) (λ_ q=>q) λ_ _ q=>q;rcases a with z | z;rw[z];exact d b u e;exact d c _ z
def Inv.tok(I:Inv X pins σ H s)(t:Nat):Inv X pins σ H {s with toks:=t}:=I.un (h':=s.heap) (t':=t) Un.refl I.hok
theorem Inv.kept{t':Nat}(I:Inv X pins σ H s)(k:∀ b u,s.heap.get? b=some u->h'.get? b=some u):Inv X pins σ H {s with heap:=h',toks:=t'}:=I.un (Un.kept k) (I.hok.kept k)
theorem Inv.laid{a:Addr}{o:HO}{t':Nat}(I:Inv X pins σ H s)(k:∀ b u,s.heap.get? b=some u->h'.get? b=some u)(c:s.heap.objs.size<=a)(d:dE X.prog X.w (upd H a o) h' a o) :
  Inv X pins σ (upd H a o) {s with heap:=h',toks:=t'}:=I.un (Un.laid k c (I.hok.fresh c)) (I.hok.laid k c d)
theorem Inv.write{x e:Addr}{o:HO}{t':Nat}(I:Inv X pins σ H s)(mu:Mut (H x))(d:e=x\/H e=some (.own x))(k:∀ b u,b≠e->s.heap.get? b=some u->h'.get? b=some u)(a:∃ u,h'.get? e=some u)
  (c:dE X.prog X.w (upd H x o) h' x o):Inv X pins σ (upd H x o) {s with heap:=h',toks:=t'}:=I.un (Un.write mu d k a) (I.hok.write mu d k a c)
def Inv.weak{σ':List (Option V)}(I:Inv X pins σ H s)(b:σ'.length=σ.length)(w:∀ (i:Nat) v,σ'[i]? = some (some v)->σ[i]? = some (some v)):Inv X pins σ' H s:=
 ⟨I.ok,I.os,I.bare,I.base,let ⟨m,hn,a⟩:=I.loc;⟨m,hn,λi x v c d e=>a i x v c (w i v d) e⟩,I.cell,I.free,I.freeC,I.pin,I.hok,b.trans I.len⟩
def Inv.pins_of{a:List (Addr×Obj)}(I:Inv X pins σ H s)(h:∀ p∈a,s.heap.get? p.1=some p.2/\H p.1=none/\p.1≠X.env.locals/\p.1∉X.fs/\∀ v,p.2.data≠.cell v):Inv X a σ H s:=
 ⟨I.ok,I.os,I.bare,I.base,I.loc,I.cell,I.free,I.freeC,λp b=>(a1c.mp b).elim (λz=>I.pin p (a5h _ z)) (h p),I.hok,I.len⟩
def aH1{N:List Str}(c:N.Nodup){i j:Nat}{x:Str}(a:N[i]? = some x)(b:N[j]? = some x):i=j:=by
 obtain⟨f,d⟩:=a0a.mp a;obtain⟨g,e⟩:=a0a.mp b;exact(List.getElem_inj c).mp (d.trans e.symm)
def xP{M:Model}{A:Around}{E:Value->Shared->Prop}{i:Nat}{x:Str}{v:V}{u:Value}{Q:Unit->Shared->Prop}(I:Inv X pins σ H s)(hN:X.N.Nodup)(hi:X.N[i]? = some x)(t:Loc X.env.scope x)(r:eI v u)
  (h:∀ s',Inv X pins (σ.set i (some v)) H s'->(∃ a,Heap.SameBut a s.heap s'.heap/\(a=X.env.locals\/X.env.cells.lookup x=some a))->Q () s') (hf:X.fn x=true\/X.env.scope.names.lookup x=some .local:=by first | exact .inl rfl | exact .inr rfl | assumption):wpAny M A (storeName X.env x u) Q E s:=by
 obtain⟨m,hn,hl⟩:=id I.loc;have J:(X.env.scope.kind==.class||(X.env.scope.kind==.module&&X.env.locals != X.env.globals))=false:=by rw[I.ok.kind];rfl
 have D:i < σ.length:=by rw[I.len];exact(a0a.mp hi).1
 have cne:=I.cne;have f:∀ {a:Addr} {h':Heap},(∃ o,s.heap.get? a=some o/\H a=none)->Heap.SameBut a s.heap h'->HOk X.prog X.w H h':=λ{a h'} ha hs b ob e=>by
  obtain⟨_,_,B⟩:=ha;refine(I.hok b ob e).stay (λc R l q=>(hs.2 c ?_).trans q) (λ_ q=>q) λ_ _ q=>q;rintro rfl;rcases l with rfl | l;rw[B]at e;cases e;rw[B]at l;cases l
 rcases t with F | F
 ·refine wpAny_storeName_local F hn (λh' T hs=>?_) J;obtain⟨oL,_,_,U,_⟩:=id hn;refine h _ ⟨I.ok,I.os,I.bare,⟨λb o e n hb t=>?_,λb o e n hb t=>?_,I.base.free,λb o e t=>?_,I.base.tups,I.base.frzs,I.base.tbls⟩,⟨_,T,λj y W g C Y=>?_⟩,λy c e=>?_,I.free,I.freeC,λp Z=>?_,f ⟨oL,U,I.free⟩ hs,by simpa using I.len⟩ ⟨_,hs,.inl rfl⟩;exact(hs.2 b (a2d (a0c (a5b e) I.ok.above))).trans (I.base.keep b o e n hb t);obtain⟨sl,g⟩:=I.base.slot b o e n hb t;exact⟨sl,(hs.2 b (a2d (a0c (a5b e) I.ok.above))).trans g⟩;obtain⟨o',g⟩:=I.base.there b o e t;exact⟨o',(hs.2 b (a2d (a0c (a5b e) I.ok.above))).trans g⟩;by_cases hj:j=i;subst hj;rw[hi]at g;cases g;rw[a1b D]at C;cases C;exact⟨u,r,.inl ⟨F,by simp⟩⟩;rw[a2a (a1d hj)]at C;obtain⟨u',r',q⟩:=hl j y W g C Y;refine⟨u',r',?_⟩;rcases q with⟨k,e⟩ | ⟨k,c,e,z⟩;refine .inl ⟨k,?_⟩;have:y≠x:=λe=>hj (aH1 hN g (e ▸ hi));simp[this,e];exact .inr ⟨k,c,e,z.sameBut hs (cne y c e)⟩;obtain⟨R,z⟩:=I.cell y c e;exact⟨R,z.sameBut hs (cne y c e)⟩;obtain⟨e,n,ne,nf,d⟩:=I.pin p Z;exact⟨(hs.2 p.1 ne).trans e,n,ne,nf,d⟩
 ·have G:X.fn x=true:=by
   rcases hf with z | z;exact z;rw[z]at F;cases F
  obtain⟨c,l⟩:=I.ok.has x (.inl F);obtain⟨R,z⟩:=I.cell x c l;refine wpAny_storeName_cell I.ok.kind F l z (λh' K hs=>?_);obtain⟨oc,L,O⟩:=id z;refine h {s with heap:=h'} ⟨I.ok,I.os,I.bare,⟨λb o e n hb t=>?_,λb o e n hb t=>?_,I.base.free,λb o e t=>?_,I.base.tups,I.base.frzs,I.base.tbls⟩,⟨m,hn.sameBut hs (a1d (cne x c l)),λj y W g C Y=>?_⟩,λy S e=>?_,I.free,I.freeC,λp Z=>?_,f ⟨oc,L,I.freeC x c l⟩ hs,by simpa using I.len⟩ ⟨c,hs,.inr l⟩;exact(hs.2 b (a2d (a0c (a5b e) (I.ok.cab x c G l)))).trans (I.base.keep b o e n hb t);obtain⟨sl,g⟩:=I.base.slot b o e n hb t;exact⟨sl,(hs.2 b (a2d (a0c (a5b e) (I.ok.cab x c G l)))).trans g⟩;obtain⟨o',g⟩:=I.base.there b o e t;exact⟨o',(hs.2 b (a2d (a0c (a5b e) (I.ok.cab x c G l)))).trans g⟩;by_cases hj:j=i;subst hj;rw[hi]at g;cases g;rw[a1b D]at C;cases C;exact⟨u,r,.inr ⟨.inl F,c,l,K⟩⟩;rw[a2a (a1d hj)]at C;obtain⟨u',r',q⟩:=hl j y W g C Y;refine⟨u',r',?_⟩;rcases q with q | ⟨k,S,e,z'⟩;exact .inl q;refine .inr ⟨k,S,e,z'.sameBut hs ?_⟩;rintro rfl;exact hj (aH1 hN g (I.ok.inj _ _ _ e l ▸ hi));by_cases P:S=c;subst P;exact⟨_,K⟩;obtain⟨w2,z2⟩:=I.cell y S e;exact⟨w2,z2.sameBut hs P⟩;obtain⟨e,n,ne,nf,d⟩:=I.pin p Z;refine⟨(hs.2 p.1 ?_).trans e,n,ne,nf,d⟩;intro q;rw[q,L]at e;have q':oc=p.2:=a5a e;exact d R (by rw[← q'];exact O)
def aH2{M:Model}{A:Around}{E:Value->Shared->Prop}{i:Nat}{x:Str}{v:V}{u:Value}{Q:Unit->Shared->Prop}(I:Inv X pins σ H s)(a:X.N.Nodup)(hi:X.N[i]? = some x)(b:Loc X.env.scope x)(r:eI v u)
  (h:∀ s',Inv X pins (σ.set i (some v)) H s'->Q () s') (c:X.fn x=true\/X.env.scope.names.lookup x=some .local:=by first | exact .inl rfl | exact .inr rfl | assumption):wpAny M A (storeName X.env x u) Q E s:=
 xP I a hi b r (λs' d _=>h s' d) c
def Inv.call'{s':Shared}{ch:List Addr}(I:Inv X pins σ H s)(d:s'.os=s.os)(u:Un (frs X.stack) ch H H' s.heap s'.heap)(hok:HOk X.prog X.w H' s'.heap)(f:AllBare s'.gens)
  (a:∀ b∈ch,(b∈X.ex\/X.s₀.heap.objs.size<=b)/\b≠X.env.locals/\(∀ x c,X.env.cells.lookup x=some c->c≠b)/\∀ p∈X.pn++pins,p.1≠b):Inv X pins σ H' s':=by
 obtain⟨h',g',d',t',o'⟩:=s';have e:o'=s.os:=d;subst e;exact I.call (g':=g') (t':=t') (d':=d') u hok f a
end
abbrev XK:=Value->Option Addr->Hp->Prop
abbrev St:=List (Option V)
abbrev VK:=V->Hp->Prop
abbrev TE:=St->Hp->VK->Prop
abbrev TT:=St->Hp->(Bool->Hp->Prop)->Prop
abbrev TA:=St->Hp->(List V->Hp->Prop)->Prop
structure Ends where
 nx:St->Hp->Prop
 rt:VK
 bk:St->Hp->Prop:=λ_ _=>False
 ct:St->Hp->Prop:=λ_ _=>False
abbrev TS:=Ends->St->Hp->Prop
def EP(X:Cx)(pins:List (Addr×Obj))(σ:St)(Q:VK)(u:Value)(s':Shared):Prop:=∃ v H',Inv X pins σ H' s'/\eI v u/\Q v H'
def TP(X:Cx)(pins:List (Addr×Obj))(σ:St)(Q:Bool->Hp->Prop)(b:Bool)(s':Shared):Prop:=∃ H',Inv X pins σ H' s'/\Q b H'
def AP(X:Cx)(pins:List (Addr×Obj))(σ:St)(Q:List V->Hp->Prop)(us:List Value)(s':Shared):Prop:=∃ vs H',Inv X pins σ H' s'/\bS vs us/\Q vs H'
def SP(X:Cx)(pins:List (Addr×Obj))(D:Ends)(f:Flow)(s':Shared):Prop:=
 match f with
 | .next=>∃ σ' H',Inv X pins σ' H' s'/\D.nx σ' H'
 | .brk=>∃ σ' H',Inv X pins σ' H' s'/\D.bk σ' H'
 | .cont=>∃ σ' H',Inv X pins σ' H' s'/\D.ct σ' H'
 | .ret u=>∃ v σ' H',Inv X pins σ' H' s'/\eI v u/\D.rt v H'
def PE(X:Cx)(e:Expr)(t:TE):Prop:=
 ∀ (pins:List (Addr×Obj)) (s:Shared) (σ:St) (H:Hp) (Q:VK),Inv X pins σ H s->t σ H Q->wpAny (model X.prog X.w) X.A (eval e X.env) (EP X pins σ Q) X.xe s
def PT(X:Cx)(e:Expr)(t:TT):Prop:=
 ∀ (pins:List (Addr×Obj)) (s:Shared) (σ:St) (H:Hp) (Q:Bool->Hp->Prop),Inv X pins σ H s->t σ H Q->wpAny (model X.prog X.w) X.A (isTrue e X.env (eval e X.env)) (TP X pins σ Q) X.xe s
def PW(X:Cx)(e:Expr)(t:TT):Prop:=
 ∀ (a:Sem Value) (pins:List (Addr×Obj)) (s:Shared) (σ:St) (H:Hp) (Q:Bool->Hp->Prop),Inv X pins σ H s->t σ H Q->wpAny (model X.prog X.w) X.A (isTrue e X.env a) (TP X pins σ Q) X.xe s
def PW.pt{X:Cx}{e:Expr}{t:TT}(h:PW X e t):PT X e t:=h _
def PA(X:Cx)(es:List Expr)(t:TA):Prop:=
 ∀ (a:Pos) (pins:List (Addr×Obj)) (s:Shared) (σ:St) (H:Hp) (Q:List V->Hp->Prop),Inv X pins σ H s->t σ H Q->wpAny (model X.prog X.w) X.A (spliced (backTo a (starEach es X.env))) (AP X pins σ Q) X.xe s
def PS(X:Cx)(st:Stmt)(t:TS):Prop:=
 ∀ (pins:List (Addr×Obj)) (s:Shared) (σ:St) (H:Hp) (D:Ends),Inv X pins σ H s->t D σ H->wpAny (model X.prog X.w) X.A (exec st X.env) (SP X pins D) X.xe s
def PSs(X:Cx)(st:List Stmt)(t:TS):Prop:=
 ∀ (pins:List (Addr×Obj)) (s:Shared) (σ:St) (H:Hp) (D:Ends),Inv X pins σ H s->t D σ H->wpAny (model X.prog X.w) X.A (execs st X.env) (SP X pins D) X.xe s
def thn{b:Type}{t:Sem b}{Q c:b->Shared->Prop}{M:Model}{A:Around}{E:Value->Shared->Prop}{s:Shared}(h:wpAny M A t Q E s)(d:∀ a s,Q a s->c a s):wpAny M A t c E s:=a2u h d λ_ _ x=>x
section
variable{X:Cx}
def bA2(i:Nat):TE:=λσ H Q=>∃ v,σ[i]? = some (some v)/\Q v H
def tC(v:V):TE:=λ_ H Q=>Q v H
def bY4{i:Nat}{x:Str}{pos:Pos}(g:X.N[i]? = some x)(j:Vis X.env.scope x)(hd:(x==("__debug__":Str))=false:=by decide)(d:(x==("__classdict__":Str))=false:=by decide):PE X (.Name x pos) (bA2 i):=by
 intro pins s σ H Q I h;obtain⟨v,e,h⟩:=h;obtain⟨m,hn,k⟩:=I.loc;obtain⟨u,r,l⟩:=k i x v g e j;have fin:EP X pins σ Q u s:=⟨v,H,I,r,h⟩;rcases l with⟨b,hm⟩ | ⟨b,c,f,a⟩;exact wpAny_Name (wpAny_loadName_local I.ok.kind b hn hm fin) hd;rcases b with b | b;exact wpAny_Name (wpAny_loadName_cell I.ok.kind b f a fin) hd;exact wpAny_Name (wpAny_loadName_free I.ok.kind b f a fin d) hd
def bY5{i j pos}:PE X (.Constant (.int i) j pos) (tC (.int i)):=λ_ _ _ H _ I h=>wpAny_Constant_int ⟨.int i,H,I.tok _,⟨_,rfl⟩,h⟩
def cJ0{b j pos}:PE X (.Constant (.bool b) j pos) (tC (.bl b)):=λ_ _ _ H _ I h=>Constant_bool ⟨.bl b,H,I,rfl,h⟩
def bG6{x j pos}:PE X (.Constant (.str x) j pos) (tC (.str x)):=λ_ _ _ H _ I h=>Calls.Constant_str ⟨.str x,H,I.tok _,⟨_,rfl⟩,h⟩
def Gl(X:Cx)(x:Str):Prop:=X.env.kindOf x=some .globalImplicit
def bM2{E:Value->Shared->Prop}{pins:List (Addr×Obj)}{s:Shared}{σ:St}{H:Hp}{x:Str}{u:Value}{pos:Pos}{Q:Value->Shared->Prop}(I:Inv X pins σ H s)(a:Gl X x)(b:X.mg x=some u)(h:Q u s)
  (hd:(x==("__debug__":Str))=false:=by decide):wpAny (model X.prog X.w) X.A (eval (.Name x pos) X.env) Q E s:=
 Calls.Name_function_global I.ok.kind a (Calls.loadGlobal_global (by rw[I.ok.glob];exact I.mod.glob.keeps I.bk) b h) hd
def xQ{E:Value->Shared->Prop}{pins:List (Addr×Obj)}{s:Shared}{σ:St}{H:Hp}{x:Str}{u:Value}{pos:Pos}{Q:Value->Shared->Prop}(I:Inv X pins σ H s)(a:Gl X x)(b:X.mg x=none)(c:bootBuiltins x=some u)(h:Q u s)
  (hn:x≠"__name__":=by decide) (hd:(x==("__debug__":Str))=false:=by decide):wpAny (model X.prog X.w) X.A (eval (.Name x pos) X.env) Q E s:=by
 obtain⟨mb,d,e⟩:=I.mod.blt;exact Calls.Name_function_global I.ok.kind a (Calls.loadGlobal_builtin (by rw[I.ok.glob];exact I.mod.glob.keeps I.bk) b (by rw[I.ok.blt];exact d.keeps I.bk) ((e x hn).trans c) h) hd
variable{a b:Expr}{ta tb:TE}{pos:Pos}
def tB(t:TE):TT:=λσ H Q=>t σ H λx a=>∃ c,x=.bl c/\Q c a
variable{tA tB':TT}{dG:List Expr}
def cQ5(t u:TT):TT:=λσ H Q=>t σ H λc a=>if c=true then u σ a Q else Q false a
def tOr(t u:TT):TT:=λσ H Q=>t σ H λc a=>if c=true then Q true a else u σ a Q
def bM3(ha:PT X a tA):PW X (.BoolOp .And [a] pos) tA:=by
 intro b pins s σ H Q I h;refine isTrue_and (thn (ha pins s σ H Q I h) λc s1 e=>?_);cases c with
 | true=>exact isTrue_and_nil e
 | false=>exact e
def bY6(ha:PT X a tA):PW X (.BoolOp .Or [a] pos) tA:=by
 intro b pins s σ H Q I h;refine isTrue_or (thn (ha pins s σ H Q I h) λc s1 e=>?_);cases c with
 | false=>exact isTrue_or_nil e
 | true=>exact e
def bY7(ha:PT X a tA)(hb:PW X (.BoolOp .And (b::dG) pos) tB'):PW X (.BoolOp .And (a::b::dG) pos) (cQ5 tA tB'):=by
 intro g pins s σ H Q I h;refine isTrue_and (thn (ha pins s σ H _ I h) λc s1 Z0=>?_);obtain⟨d,e,f⟩:=Z0;cases c with
 | true=>exact hb g pins s1 σ d Q e f
 | false=>exact⟨d,e,f⟩
def cJ1(ha:PT X a tA)(hb:PW X (.BoolOp .Or (b::dG) pos) tB'):PW X (.BoolOp .Or (a::b::dG) pos) (tOr tA tB'):=by
 intro g pins s σ H Q I h;refine isTrue_or (thn (ha pins s σ H _ I h) λc s1 Z0=>?_);obtain⟨d,e,f⟩:=Z0;cases c with
 | true=>exact⟨d,e,f⟩
 | false=>exact hb g pins s1 σ d Q e f
def cJ2(ta tb:TE):TE:=λσ H Q=>ta σ H λx a=>∃ c,x=.bl c/\if c=true then tb σ a Q else Q (.bl false) a
def bY8{op}{t:TE}(h:PE X a t):PE X (.BoolOp op [a] pos) t:=λpins s σ H Q I b=>BoolOp_one (h pins s σ H Q I b)
def bY9(ha:PE X a ta)(hb:PE X (.BoolOp .And (b::dG) pos) tb):PE X (.BoolOp .And (a::b::dG) pos) (cJ2 ta tb):=by
 intro pins s σ H Q I h;refine BoolOp_and (thn (ha pins s σ H _ I h) λv s1 Z0=>?_);obtain⟨x,e,f,g,d⟩:=Z0;obtain⟨c,rfl,d⟩:=d;cases g;refine wpAny_truthy_bool ?_;cases c with
 | true=>exact hb pins s1 σ e Q f d
 | false=>exact⟨.bl false,e,f,rfl,d⟩
end
def SqL(K:W.Frag)(H:Hp)(a:Addr)(xs:List V):Prop:=
 Rd H a (.lst xs) \/
  ∃ (o:Obj) (its:Array Value) (n:Nat),K.lookup a=some o/\o.cls=.type "list"/\o.dict=none/\o.data=.seq its n/\its.size<=sizeLine/\bS xs its.toList
def SqT(K:W.Frag)(H:Hp)(a:Addr)(xs:List V):Prop:=
 Rd H a (.tup xs) \/
  ∃ (o:Obj) (its:Array Value) (n:Nat),K.lookup a=some o/\o.cls=.type "tuple"/\o.data=.seq its n/\its.size<=sizeLine/\bS xs its.toList
noncomputable def cQ6:Value->Option V
 | .none=>some .non
 | .bool b=>some (.bl b)
 | .int i _=>some (.int i)
 | .str x _=>some (.str x)
 | .bytes b _=>some (.byt b)
 | .float b _=>some (.flt b)
 | .ref a=>some (.ref a)
 | .type n=>some (.ty n)
 | _=>none
def eI.abs{x:V}{u:Value}(r:eI x u):cQ6 u=some x:=by
 cases x with
 | non=>cases r;rfl
 | bl _=>cases r;rfl
 | int _=>obtain⟨t,rfl⟩:=r;rfl
 | str _=>obtain⟨t,rfl⟩:=r;rfl
 | byt _=>obtain⟨t,rfl⟩:=r;rfl
 | flt _=>obtain⟨t,rfl⟩:=r;rfl
 | ref _=>cases r;rfl
 | ty _=>cases r;rfl
def eI.inj{x y:V}{u:Value}(r:eI x u)(q:eI y u):x=y:=a5a (r.abs.symm.trans q.abs)
theorem bS.inj:∀ {xs ys:List V} {us:List Value},bS xs us->bS ys us->xs=ys
 | _,_,_,.nil,.nil=>rfl
 | _,_,_,.cons r t,.cons a b=>by rw[r.inj a,bS.inj t b]
section
variable{X:Cx}{pins:List (Addr×Obj)}{σ:St}{H:Hp}{s:Shared}{a:Addr}{xs ys:List V}
def SqL.of{K:W.Frag}(h:H a=some (.lst xs)):SqL K H a xs:=.inl (.inl h)
def SqT.of{K:W.Frag}(h:H a=some (.tup xs)):SqT K H a xs:=.inl (.inl h)
def Inv.list(I:Inv X pins σ H s)(h:SqL X.K H a xs):∃ its:List Value,bS xs its/\PlainL s.heap a its.toArray/\xs.length<=sizeLine:=by
 rcases h with h | ⟨o,its,n,b,c,hd,hs,d,r⟩;obtain⟨z,its,n,r,e⟩:=h.ok I.hok;exact⟨its,r,⟨_,n,e,rfl,rfl,rfl⟩,z⟩;refine⟨its.toList,r,⟨o,n,I.kIn a o b,c,hd,by simpa using hs⟩,?_⟩;have e:=r.length;simp only[Array.length_toList]at e;lia
def Inv.tuple(I:Inv X pins σ H s)(h:SqT X.K H a xs):∃ its:List Value,bS xs its/\IsTup s.heap a its.toArray/\xs.length<=sizeLine:=by
 rcases h with h | ⟨o,its,n,b,c,hs,d,r⟩;obtain⟨z,its,r,p,_⟩:=h.ok I.hok;exact⟨its,r,p,z⟩;refine⟨its.toList,r,⟨o,I.kIn a o b,c,n,by simpa using hs⟩,?_⟩;have e:=r.length;simp only[Array.length_toList]at e;lia
def Inv.list_inj(I:Inv X pins σ H s)(h:SqL X.K H a xs)(h':SqL X.K H a ys):xs=ys:=by
 obtain⟨its,r,⟨o,n,e,_,_,d⟩,_⟩:=I.list h;obtain⟨b,f,⟨o',i,c,_,_,d'⟩,_⟩:=I.list h';rw[e]at c;cases c;rw[d]at d';injection d' with g _
 have:its=b:=by simpa using a2D Array.toList g
 subst this;exact r.inj f
def Inv.tuple_inj(I:Inv X pins σ H s)(h:SqT X.K H a xs)(h':SqT X.K H a ys):xs=ys:=by
 obtain⟨its,r,⟨o,e,_,n,d⟩,_⟩:=I.tuple h;obtain⟨b,f,⟨o',c,_,i,d'⟩,_⟩:=I.tuple h';rw[e]at c;cases c;rw[d]at d';injection d' with g _
 have:its=b:=by simpa using a2D Array.toList g
 subst this;exact r.inj f
end
noncomputable abbrev Cx.wish(X:Cx)(E:Value->Shared->Prop):Cx:={X with xe:=E}
noncomputable abbrev Cx.nox(X:Cx):Cx:=X.wish λ_ _=>False
theorem Cx.Ok.wish{X:Cx}(ok:X.Ok)(E:Value->Shared->Prop):(X.wish E).Ok:=
 ⟨ok.mod,ok.kind,ok.glob,ok.blt,ok.above,ok.inj,ok.has,ok.cab,ok.hd,ok.frames,ok.stk,ok.exf,ok.bs,ok.bsz,ok.noex,ok.exfs,ok.funs,ok.frf⟩
def Cx.Ok.unwish{X:Cx}{E:Value->Shared->Prop}(ok:(X.wish E).Ok):X.Ok:=
 ⟨ok.mod,ok.kind,ok.glob,ok.blt,ok.above,ok.inj,ok.has,ok.cab,ok.hd,ok.frames,ok.stk,ok.exf,ok.bs,ok.bsz,ok.noex,ok.exfs,ok.funs,ok.frf⟩
section
variable{X:Cx}{pins:List (Addr×Obj)}{σ:St}{H:Hp}{s:Shared}{E:Value->Shared->Prop}
theorem Inv.wish(I:Inv X pins σ H s)(E:Value->Shared->Prop):Inv (X.wish E) pins σ H s:=⟨I.ok.wish E,I.os,I.bare,I.base,I.loc,I.cell,I.free,I.freeC,I.pin,I.hok,I.len⟩
theorem Inv.unwish(I:Inv (X.wish E) pins σ H s):Inv X pins σ H s:=⟨I.ok.unwish,I.os,I.bare,I.base,I.loc,I.cell,I.free,I.freeC,I.pin,I.hok,I.len⟩
theorem SP.unwish{D:Ends}{f:Flow}{s':Shared}(h:SP (X.wish E) pins D f s'):SP X pins D f s':=by
 cases f with
 | next=>obtain⟨σ',H',I,q⟩:=h;exact⟨σ',H',I.unwish,q⟩
 | brk=>obtain⟨σ',H',I,q⟩:=h;exact⟨σ',H',I.unwish,q⟩
 | cont=>obtain⟨σ',H',I,q⟩:=h;exact⟨σ',H',I.unwish,q⟩
 | ret u=>obtain⟨v,σ',H',I,r,q⟩:=h;exact⟨v,σ',H',I.unwish,r,q⟩
theorem PSs.nox{st:List Stmt}{t:TS}(h:PSs X.nox st t):PSs X st t:=λpins s σ H D I a=>
 a2u (h pins s σ H D (I.wish _) a) (λ_ _ q=>q.unwish) λ_ _ z=>False.elim z
end
section
variable{X:Cx}{st:Stmt}{dG:List Stmt}{t u:TS}{e:Expr}{te:TE}{pos:Pos}
def cJ3:TS:=λD σ H=>D.nx σ H
def bZ0(t u:TS):TS:=λD σ H=>t {D with nx:=u D} σ H
def bM4:PSs X [] cJ3:=λ_ _ σ H _ I h=>wpAny_execs_nil ⟨σ,H,I,h⟩
def wE(a:PS X st t)(b:PSs X dG u):PSs X (st::dG) (bZ0 t u):=by
 intro pins s σ H D I h;refine wpAny_execs_cons (thn (a pins s σ H {D with nx:=u D} I h) λf s1 q=>?_);cases f with
 | next=>
   obtain⟨σ',H',c,q⟩:=q;exact b pins s1 σ' H' D c q
 | ret v=>exact q
 | brk=>exact q
 | cont=>exact q
def aB6(a:PS X st t):PSs X [st] t:=by
 intro pins s σ H D I h;refine wpAny_execs_cons (thn (a pins s σ H D I h) λf s1 q=>?_);cases f with
 | next=>exact wpAny_execs_nil q
 | ret v=>exact q
 | brk=>exact q
 | cont=>exact q
def Inv.quiet{pins:List (Addr×Obj)}{σ:St}{H:Hp}{s:Shared}(I:Inv X pins σ H s):interactive X.env=false:=by simp[interactive,I.ok.kind]
def bA7(te:TE):TS:=λD σ H=>te σ H λ_ a=>D.nx σ a
def aQ6(a:PE X e te)(hs:swapsWith e none pos.line X.env=pure false:=by rfl):PS X (.Expr e pos) (bA7 te):=by
 intro pins s σ H D I h;exact wpAny_Expr_any (thn (a pins s σ H _ I h) λv s1 ⟨x,b,c,f,d⟩=>⟨σ,b,c,d⟩) I.quiet hs
def cJ4(te:TE):TS:=λD σ H=>te σ H D.rt
def bG7(a:PE X e te):PS X (.Return (some e) pos) (cJ4 te):=by
 intro pins s σ H D I h;exact wpAny_Return_some (thn (a pins s σ H _ I h) λv s1 ⟨x,b,c,d,f⟩=>⟨x,σ,b,c,d,f⟩)
def cQ7(c:TT)(t u:TS):TS:=λD σ H=>c σ H λb a=>if b=true then t D σ a else u D σ a
def cJ5{c:Expr}{a b:List Stmt}{e:TT}(j:PT X c e)(ha:PSs X a t)(hb:PSs X b u):PS X (.If c a b pos) (cQ7 e t u):=by
 intro pins s σ H D I h;refine wpAny_If (thn (j pins s σ H _ I h) λd s1 Z0=>?_);obtain⟨f,g,i⟩:=Z0;cases d with
 | true=>exact ha pins s1 σ f D g i
 | false=>exact hb pins s1 σ f D g i
end
abbrev TG:=V->St->Hp->(St->Hp->Prop)->Prop
abbrev TGs:=List V->St->Hp->(St->Hp->Prop)->Prop
def PG(X:Cx)(a:Expr)(t:TG):Prop:=
 ∀ (pins:List (Addr×Obj)) (s:Shared) (σ:St) (H:Hp) (v:V) (u:Value) (Q:St->Hp->Prop),Inv X pins σ H s->eI v u->t v σ H Q ->
   wpAny (model X.prog X.w) X.A (assign a X.env u) (λ_ s'=>∃ σ' H',Inv X pins σ' H' s'/\Q σ' H') X.xe s
def PGs(X:Cx)(a:List Expr)(t:TGs):Prop:=
 ∀ (pins:List (Addr×Obj)) (s:Shared) (σ:St) (H:Hp) (vs:List V) (us:List Value) (Q:St->Hp->Prop),Inv X pins σ H s->bS vs us->t vs σ H Q ->
   wpAny (model X.prog X.w) X.A (assignInOrder ((assignEach a X.env).map (·.2)) us) (λ_ s'=>∃ σ' H',Inv X pins σ' H' s'/\Q σ' H') X.xe s
abbrev mJ:=V->V->V->Hp->(Hp->Prop)->Prop
def cO2(X:Cx)(t:mJ):Prop:=
 ∀ (pins:List (Addr×Obj)) (s:Shared) (σ:St) (H:Hp) (o i v:V) (ov a u:Value) (Q:Hp->Prop),Inv X pins σ H s->eI o ov->eI i a->eI v u->t o i v H Q ->
   wpAny (model X.prog X.w) X.A (setItem ov a u) (λ_ s'=>∃ H',Inv X pins σ H' s'/\Q H') X.xe s
section
variable{X:Cx}{pos:Pos}
def uP(i:Nat):TG:=λv σ H Q=>Q (σ.set i (some v)) H
def bG{i:Nat}{x:Str}(a:X.N.Nodup)(hi:X.N[i]? = some x)(b:Loc X.env.scope x)(c:X.fn x=true\/X.env.scope.names.lookup x=some .local:=by first | exact .inl rfl | exact .inr rfl | assumption):PG X (.Name x pos) (uP i):=by
 intro pins s σ H v u Q I r h;exact wpAny_assign_Name (aH2 I a hi b r (λs' d=>⟨_,H,d,h⟩) c)
def cO3:TGs:=λvs σ H Q=>vs=[]/\Q σ H
def bZ1(t:TG)(u:TGs):TGs:=λvs σ H Q=>∃ v r,vs=v::r/\t v σ H λσ' H'=>u r σ' H' Q
def aB7:PGs X [] cO3:=by
 intro pins s σ H vs us Q I r h;obtain⟨e,h⟩:=h;subst e;cases r;exact assignInOrder_nil ⟨σ,H,I,h⟩
def eE{e:Expr}{es:List Expr}{t:TG}{u:TGs}(b:PG X e t)(c:PGs X es u)
  (hs:(assignEach (e::es) X.env).map (·.2)=assign e X.env::(assignEach es X.env).map (·.2):=by rfl):PGs X (e::es) (bZ1 t u):=by
 intro pins s σ H vs us Q I r h;obtain⟨v,k,d,h⟩:=h;subst d;cases r with
 | cons r f=>
   rw[hs];refine assignInOrder_cons (thn (b pins s σ H _ _ _ I r h) λ_ s1 Z0=>?_);obtain⟨a,g,i,j⟩:=Z0;exact c pins s1 a g _ _ Q i f j
def cQ8(K:W.Frag)(n:Nat)(t:TGs):TG:=λv σ H Q=>∃ a xs,v=.ref a/\SqT K H a xs/\xs.length=n/\t xs σ H Q
def bZ2{es:List Expr}{k:Nat}{t:TGs}{n:Nat}(g:X.calm=true)(h:PGs X es t)
  (hn:(assignEach es X.env).length=n:=by rfl) (c:(assignEach es X.env).findIdx? (·.1)=none:=by rfl):PG X (.Tuple es k pos) (cQ8 X.K n t):=by
 intro pins s σ H v u Q I r d;obtain⟨a,xs,i,j,l,d⟩:=d;subst i;cases r;obtain⟨its,f,m,w⟩:=I.tuple j;refine assign_Tuple_tuple (I.ok.hd g) m (by simp[hn,← l,f.length]) c λh' p=>?_;have q:Inv X pins σ H {s with heap:=h'}:=I.kept (t':=s.toks) λb o e=>p b o (a2d (a5b e)) e;exact h pins _ σ H xs _ Q q (by simpa using f) d
def cO4(to a:TE)(t:mJ):TG:=λv σ H Q=>to σ H λo b=>a σ b λi c=>t o i v c λd=>Q σ d
def aQ7{o i:Expr}{to b:TE}{t:mJ}(c:PE X o to)(hi:PE X i b)(hs:cO2 X t)
  (ha:∀ v,assign (.Subscript o i pos) X.env v=(do
   let ov ← holding [v] (eval o X.env)
   let a ← holding [v,ov] (eval i X.env)
   standAt pos
   holding [v,ov,a] (setItem ov a v)
   release [v,ov,a] []):=by intro _;rfl):PG X (.Subscript o i pos) (cO4 to b t):=by
 intro pins s σ H v u Q I r h;rw[ha];refine a1X (a2m (thn (c pins s σ H _ I h) λov s1 Z0=>?_));obtain⟨x,d,e,f,g⟩:=Z0;refine a1X (a2m (thn (hi pins s1 σ d _ e g) λa s2 ⟨y,j,k,l,m⟩=>?_));refine a1X (a2G (a1X (a2m (thn (hs pins s2 σ j x y v ov a u _ k f l r m) λ_ w ⟨n,p,q⟩=>?_))));exact wpAny_release ⟨σ,n,p,q⟩
def bM5(a:TE)(g:TG):TS:=λD σ H=>a σ H λx b=>g x σ b D.nx
def xR{tg e:Expr}{a:TE}{g:TG}(b:PE X e a)(c:PG X tg g)(hs:swapsWithSole [tg] e pos.line X.env=pure false:=by rfl)(d:swappedStores [tg] e X.env=pure none:=by rfl)
  (f:(assignEach [tg] X.env).map (·.2)=[assign tg X.env]:=by rfl):PS X (.Assign [tg] e pos) (bM5 a g):=by
 intro pins s σ H D I h;refine wpAny_Assign_stores (thn (b pins s σ H _ I h) λv s1 Z0=>?_) hs d;obtain⟨x,i,j,k,l⟩:=Z0;rw[f];exact thn (c pins s1 σ i x v _ j k l) λ_ s2 q=>q
def bG8{i:Nat}{x:Str}{e:Expr}{b:TE}{a:Pos}(c:X.N.Nodup)(hi:X.N[i]? = some x)(d:Loc X.env.scope x)(f:PE X e b)(hs:swapsWith e (some (.Name x a)) pos.line X.env=pure false:=by rfl)(g:X.fn x=true\/X.env.scope.names.lookup x=some .local:=by first | exact .inl rfl | exact .inr rfl | assumption) :
  PS X (.Assign [.Name x a] e pos) (bM5 b (uP i)):=by
 intro pins s σ H D I h;refine wpAny_Assign_Name (thn (f pins s σ H _ I h) λv s1 Z0=>?_) hs;obtain⟨y,j,k,l,m⟩:=Z0;exact aH2 k c hi d l (λs2 n=>⟨_,j,n,m⟩) g
end
section
variable{X:Cx}{pos:Pos}
def aQ8(c:TT)(tb:TS):TS:=λD σ H=>∃ W:Nat->St->Hp->Prop,(∃ m,W m σ H)/\∀ m σ H,W m σ H ->
 c σ H λb a=>if b=true then ∃ N:St->Hp->Prop,(∀ σ' H',N σ' H'->∃ m',m' < m/\W m' σ' H')/\tb {D with nx:=N,ct:=N,bk:=D.nx} σ a else D.nx σ a
def bA8{c:Expr}{e:List Stmt}{o:TT}{p:TS}(q:PassesOwn (model X.prog X.w) X.A X.env X.xe)(y:PT X c o)(hb:PSs X e p):PS X (.While c e [] pos) (aQ8 o p):=by
 intro pins s σ H D I h;obtain⟨W,⟨z,B⟩,turn⟩:=h;refine wpAny_While (codeAny_whileLoop (λn s'=>∃ σ' H',Inv X pins σ' H' s'/\W n σ' H') ?_ z ⟨σ,H,I,B⟩);rintro n s1 ⟨d,r,C,E⟩;refine a2v q (thn (y pins s1 d r _ C (turn n d r E)) λb s2 Z0=>?_);obtain⟨t,u,i⟩:=Z0;cases b with
 | true=>
   obtain⟨N,x,i⟩:=i;rw[a1Z rfl];refine a2v q (thn (hb pins s2 d t _ u i) λf F j=>?_);cases f with
   | next=>
     obtain⟨a,g,k,n3⟩:=j;obtain⟨m',l,m⟩:=x a g n3;exact⟨m',l,a,g,k,m⟩
   | cont=>
     obtain⟨a,g,k,n3⟩:=j;obtain⟨m',l,m⟩:=x a g n3;exact⟨m',l,a,g,k,m⟩
   | brk=>exact j
   | ret v=>exact j
 | false=>
   rw[a2k a9d];exact wpAny_execs_nil ⟨d,t,u,i⟩
end
structure It where
 go:Nat->Hp->Prop
 yld:Nat->Hp->V->Hp->Prop
 stop:Nat->Hp->Prop
def bA9(X:Cx)(pins:List (Addr×Obj))(H:Hp)(b:Addr):Prop:=
 H b=none/\b≠X.env.locals/\b∉X.fs/\(b∈X.ex\/X.s₀.heap.objs.size<=b)/\(∀ x c,X.env.cells.lookup x=some c->c≠b)/\∀ p∈X.pn++pins,p.1≠b
def Inv.fpOk{X:Cx}{pins:List (Addr×Obj)}{σ:St}{H H':Hp}{s:Shared}{b:Addr}(I:Inv X pins σ H s)(hb:s.heap.objs.size<=b)(hn:H' b=none):bA9 X pins H' b:=by
 refine⟨hn,Nat.ne_of_gt (a0c I.lt hb),I.nofs hb,.inr (a0b I.sz hb),λx c e z=>?_,λp a z=>?_⟩;obtain⟨v,q⟩:=I.cell x c e;exact absurd (a0c q.lt (by rw[z];exact hb)) (a2f _);exact absurd (a0c (a5b (I.pin p a).1) (by rw[z];exact hb)) (a2f _)
structure Turn(P:Program)(w:World)(K:W.Frag)(tg:Expr)(J:It)(fp:List Addr)(it:Addr)(tn:Nat->Heap->Prop):Prop where
 mem:it∈fp
 obj:∀ i h,tn i h->∀ b∈fp,∃ o,h.get? b=some o/\∀ v,o.data≠.cell v
 keep:∀ i h h',tn i h->(∀ b∈fp,∀ o,h.get? b=some o->h'.get? b=some o)->tn i h'
 item:∀ (X:Cx),X.prog=P->X.w=w->X.K=K->X.calm=true->∀ (i:Nat) (pins:List (Addr×Obj)) (s:Shared) (σ:St) (H:Hp) (E:Value->Shared->Prop),Inv X pins σ H s->(∀ b∈fp,bA9 X pins H b)->tn i s.heap->J.go i H ->
  wpAny (model P w) X.A (pyNext (.ref it)) (λr s1=>∃ u,r=some u /\
   wpAny (model P w) X.A (letOwnedTupleGo tg (.ref it) u) (λ_ s2=>∃ x H',Inv X pins σ H' s2/\eI x u/\J.yld i H x H'/\tn (i+1) s2.heap/\∀ b∈fp,H' b=none) E s1) E s
 done:∀ (X:Cx),X.prog=P->X.w=w->X.K=K->X.calm=true->∀ (i:Nat) (pins:List (Addr×Obj)) (s:Shared) (σ:St) (H:Hp) (E:Value->Shared->Prop),Inv X pins σ H s->(∀ b∈fp,bA9 X pins H b)->tn i s.heap->J.stop i H ->
  wpAny (model P w) X.A (pyNext (.ref it)) (λr s1=>r=none/\Inv X pins σ H s1) E s
 self:∀ (A:Around) (i:Nat) (s:Shared) (Q:Value->Shared->Prop) (E:Value->Shared->Prop),tn i s.heap->Q (.ref it) s->wpAny (model P w) A (pyIter (.ref it)) Q E s
abbrev TI:=St->Hp->(It->Hp->Prop)->Prop
def PIE(X:Cx)(pins:List (Addr×Obj))(σ:St)(tg:Expr)(R:It->Hp->Prop)(a:Value)(s2:Shared):Prop:=
 ∃ (it:Addr) (fp:List Addr) (tn:Nat->Heap->Prop) (J:It) (H':Hp),a=.ref it/\Inv X pins σ H' s2/\Turn X.prog X.w X.K tg J fp it tn/\tn 0 s2.heap/\(∀ b∈fp,bA9 X pins H' b)/\R J H'
def PI(X:Cx)(tg iter:Expr)(a:TI):Prop:=
 ∀ (pins:List (Addr×Obj)) (s:Shared) (σ:St) (H:Hp) (R:It->Hp->Prop),Inv X pins σ H s->a σ H R ->
   wpAny (model X.prog X.w) X.A (eval iter X.env) (λv s1=>wpAny (model X.prog X.w) X.A (pyIter v) (PIE X pins σ tg R) X.xe s1) X.xe s
def aQ9{M:Model}{A:Around}{E:Value->Shared->Prop}{s:Shared}{tg:Expr}{it:Addr}{u:Value}{o:Obj}{n:String}{vs:Array Value}{Q:Unit->Shared->Prop}(b:s.heap.get? it=some o)(c:o.cls=.type n)(hd:o.data=.fields vs)
  (hn:["enumerate","zip","dict_itemiterator","dict_reverseitemiterator","odict_iterator","itertools.zip_longest","itertools.pairwise"].contains n=false) (a:Q () s):wpAny M A (letOwnedTupleGo tg (.ref it) u) Q E s:=by
 unfold letOwnedTupleGo;cases tg<;>first
  | exact a1Y a
  | (cases u<;>first
    | exact a1Y a
    | (refine a1X (wpAny_load b ?_)
       rw[c,hd];show wpAny M A (if(["enumerate","zip","dict_itemiterator","dict_reverseitemiterator","odict_iterator","itertools.zip_longest","itertools.pairwise"].contains n&&vs[0]? == some (rawInt _))=true then _ else _) Q E s;rw[a2k (by intro h;rw[hn,Bool.false_and]at h;cases h)];exact a1Y a))
noncomputable def Itl(K:W.Frag)(a:Addr):It:=
 ⟨λi H=>∃ xs x,SqL K H a xs/\xs[i]? = some x,λi H x H'=>H'=H/\∀ xs,SqL K H a xs->xs[i]? = some x,λi H=>∃ xs,SqL K H a xs/\xs.length<=i⟩
noncomputable def Itt(K:W.Frag)(a:Addr):It:=
 ⟨λi H=>∃ xs x,SqT K H a xs/\xs[i]? = some x,λi H x H'=>H'=H/\∀ xs,SqT K H a xs->xs[i]? = some x,λi H=>∃ xs,SqT K H a xs/\xs.length<=i⟩
noncomputable def Itr(lo:Int)(n:Nat):It:=⟨λi _=>i < n,λi H x H'=>H'=H/\x=.int (lo+i),λi _=>n<=i⟩
def aR0{P:Program}{w:World}{K:W.Frag}{tg:Expr}(a it:Addr):Turn P w K tg (Itl K a) [it] it (λi h=>h.IsListIter it a i) where
 mem:=by simp
 obj:=λi h st b hb=>by
  have e:b=it:=by simpa using hb
  subst e;obtain⟨o,e,c,d⟩:=st;exact⟨o,e,λv z=>by rw[d]at z;cases z⟩
 keep:=λi h h' st k=>st.at λo e=>k it (by simp) o e
 item:=by
  intro X j l m D i pins s σ H E I f st n;subst j l m;obtain⟨xs,x,g,q⟩:=n;obtain⟨its,r,p,F⟩:=I.list g;obtain⟨u,G,J⟩:=r.get q;obtain⟨t,y,L,A,B,C⟩:=f it (by simp);refine wpAny_pyNext_list_item st p.isList (x:=u) (by simpa using G) λh' st' M=>?_;have N:Inv X pins σ H {s with heap:=h'}:=I.turned (t':=s.toks) (λb o hb e=>(M.2 b hb).trans e) t y A B C;obtain⟨o,e,c,d⟩:=id st';exact⟨u,rfl,aQ9 (s:={s with heap:=h'}) e c d (by decide) ⟨x,H,N,J,⟨rfl,λys O=>by rw[I.list_inj O g];exact q⟩,st',λb hb=>(f b hb).1⟩⟩
 done:=by
  intro X j l m D i pins s σ H E I f st n;subst j l m;obtain⟨xs,g,q⟩:=n;obtain⟨its,r,p,F⟩:=I.list g;obtain⟨t,y,L,A,B,C⟩:=f it (by simp);have R:=r.length;exact wpAny_pyNext_list_end (I.ok.hd D) st p.isList (by simp;lia) λh' Q=>⟨rfl,I.turned (t':=s.toks) (λb o hb e=>Q b o hb e) t y A B C⟩
 self:=λ_ _ _ _ _ st h=>wpAny_pyIter_listiter st h
def aM4{P:Program}{w:World}{K:W.Frag}{tg:Expr}(a it:Addr):Turn P w K tg (Itt K a) [it] it (λi h=>h.IsTupleIter it a i) where
 mem:=by simp
 obj:=λi h st b hb=>by
  have e:b=it:=by simpa using hb
  subst e;obtain⟨o,e,c,d⟩:=st;exact⟨o,e,λv z=>by rw[d]at z;cases z⟩
 keep:=λi h h' st k=>st.at λo e=>k it (by simp) o e
 item:=by
  intro X j l m D i pins s σ H E I f st n;subst j l m;obtain⟨xs,x,g,q⟩:=n;obtain⟨its,r,p,F⟩:=I.tuple g;obtain⟨u,G,J⟩:=r.get q;obtain⟨t,y,L,A,B,C⟩:=f it (by simp);refine wpAny_pyNext_tuple_item st (show s.heap.IsTuple a its.toArray from p) (x:=u) (by simpa using G) λh' st' M=>?_;have N:Inv X pins σ H {s with heap:=h'}:=I.turned (t':=s.toks) (λb o hb e=>(M.2 b hb).trans e) t y A B C;obtain⟨o,e,c,d⟩:=id st';exact⟨u,rfl,aQ9 (s:={s with heap:=h'}) e c d (by decide) ⟨x,H,N,J,⟨rfl,λys O=>by rw[I.tuple_inj O g];exact q⟩,st',λb hb=>(f b hb).1⟩⟩
 done:=by
  intro X j l m D i pins s σ H E I f st n;subst j l m;obtain⟨xs,g,q⟩:=n;obtain⟨its,r,p,F⟩:=I.tuple g;obtain⟨t,y,L,A,B,C⟩:=f it (by simp);have R:=r.length;exact wpAny_pyNext_tuple_end (I.ok.hd D) st (show s.heap.IsTuple a its.toArray from p) (by simp;lia) λh' Q=>⟨rfl,I.turned (t':=s.toks) (λb o hb e=>Q b o hb e) t y A B C⟩
 self:=λ_ _ _ _ _ st h=>wpAny_pyIter_tupleiter st h
def aM5{P:Program}{w:World}{K:W.Frag}{tg:Expr}(it:Addr)(lo:Int)(n:Nat):Turn P w K tg (Itr lo n) [it] it (λi h=>IsRangeIter h it (lo+(i:Nat)*1) ((n:Int)-(i:Nat)) 1) where
 mem:=by simp
 obj:=λi h st b hb=>by
  have e:b=it:=by simpa using hb
  subst e;exact⟨_,st,λv z=>by
   have u:Data.fields _=Data.cell v:=z;cases u⟩
 keep:=λi h h' st k=>k it (by simp) _ st
 item:=by
  intro X c d f g i pins s σ H E I a st j;subst c d f;obtain⟨l,m,x,p,q,r⟩:=a it (by simp);have W:=Walks.range (prog:=X.prog) (w:=X.w) (I.ok.hd g) it lo 1 n;refine W.item i s _ _ j st λv h' tk y st' A=>?_;obtain⟨t,rfl⟩:=y;have B:Inv X pins σ H {s with heap:=h',toks:=tk}:=I.turned (λb o hb e=>A b o (by simpa using hb) e) l m p q r;refine⟨_,rfl,aQ9 (s:={s with heap:=h',toks:=tk}) (n:="range_iterator") st' rfl rfl (by decide) ⟨.int (lo+i),H,B,⟨t,?_⟩,⟨rfl,rfl⟩,st',λb hb=>(a b hb).1⟩⟩;rw[Int.mul_one]
 done:=by
  intro X c d f g i pins s σ H E I a st j;subst c d f;obtain⟨l,m,x,p,q,r⟩:=a it (by simp);exact wpAny_pyNext_range_end (I.ok.hd g) st (by have:n<=i:=j;lia) λh' C=>⟨rfl,I.turned (t':=s.toks) (λb o hb e=>C b o hb e) l m p q r⟩
 self:=λ_ _ _ _ _ st h=>wpAny_pyIter_rangeiter st h
section
variable{X:Cx}{tg:Expr}
def bB0{pins:List (Addr×Obj)}{σ:St}{H:Hp}{s:Shared}{R:It->Hp->Prop}{E:Value->Shared->Prop}{lo hi:Int}{t u v:Tok}{tk:Nat}(I:Inv X pins σ H s)(c:-(2 ^ 62)<=lo)(d:lo < 2 ^ 62)(f:-(2 ^ 62)<=hi)(g:hi < 2 ^ 62)
  (q:R (Itr lo (hi-lo).toNat) H):wpAny (model X.prog X.w) X.A (pyIter (.ref s.heap.objs.size)) (PIE X pins σ tg R) E {s with heap:=s.heap.push {cls:=.type "range",data:=.fields #[.int lo t,.int hi u,.int 1 v]},toks:=tk}:=by
 refine wpAny_pyIter_range (IsRange.new ..) (small_one c d f g) ?_;have a:Inv X pins σ H {s with heap:=s.heap.push {cls:=.type "range",data:=.fields #[.int lo t,.int hi u,.int 1 v]},toks:=tk}:=I.kept λb o e=>a6a _ e;refine⟨(s.heap.push {cls:=.type "range",data:=.fields #[.int lo t,.int hi u,.int 1 v]}).objs.size,[(s.heap.push {cls:=.type "range",data:=.fields #[.int lo t,.int hi u,.int 1 v]}).objs.size],_,_,H,rfl,
  a.kept (t':=tk) λb o e=>a6a _ e,aM5 _ lo (hi-lo).toNat,?_,λb hb=>?_,q⟩
 ·have h:lo+((0:Nat):Int)*1=lo:=by simp
  have i:(((hi-lo).toNat:Nat):Int)-((0:Nat):Int)=Builtin.Range.rangeSize lo hi 1:=by rw[rangeSize_one];split<;>lia
  show IsRangeIter _ _ (lo+((0:Nat):Int)*1) ((((hi-lo).toNat:Nat):Int)-((0:Nat):Int)) 1;rw[h,i];exact a3b _ rfl
 ·have e:b=(s.heap.push {cls:=.type "range",data:=.fields #[.int lo t,.int hi u,.int 1 v]}).objs.size:=by simpa using hb
  subst e;exact a.fpOk (a7a _) (a.hok.fresh (a7a _))
def bZ3(a:TA):TI:=λσ H R=>a σ H λvs b=>∃ j:Int,vs=[.int j] /\ -(2 ^ 62)<=j/\j < 2 ^ 62/\R (Itr 0 j.toNat) b
def kP{a:Expr}{c:TA}{p pos:Pos}(d:Gl X "range")(f:X.mg "range"=none)(ha:PA X [a] c)(hs:starEach [a] X.env=[(false,eval a X.env)]:=by rfl):PI X tg (.Call (.Name "range" p) [a] [] pos) (bZ3 c):=by
 intro pins s σ H R I h;refine Call_ (xQ I d f boot_range (PyProof.Rows.callWith_type1 (thn (ha pos pins s σ H _ I h) λus s1 Z0=>?_) hs rfl));obtain⟨vs,m,g,i,b⟩:=Z0;obtain⟨j,e,b,k,q⟩:=b;subst e;cases i with
 | cons r l=>
   cases l;obtain⟨t,rfl⟩:=r;exact call_range_1 (bB0 g (by lia) (by lia) b k (by simpa using q))
def bZ4(b:TI)(g:TG)(c:TS):TS:=λD σ H=>b σ H λJ d=>∃ W:Nat->Nat->St->Hp->Prop,(∃ m,W 0 m σ d)/\∀ i m σ H,W i m σ H ->
 (J.stop i H/\D.nx σ H)\/(J.go i H/\∃ N:St->Hp->Prop,(∀ σ' H',N σ' H'->∃ m',m' < m/\W (i+1) m' σ' H')/\∀ x H',J.yld i H x H'->g x σ H' λa e=>c {D with nx:=N,ct:=N,bk:=D.nx} a e)
noncomputable def sQ(fp:List Addr)(h:Heap):List (Addr×Obj):=fp.filterMap λb=>(h.get? b).map λo=>(b,o)
def jS{fp:List Addr}{h:Heap}{b:Addr}{o:Obj}(hb:b∈fp)(e:h.get? b=some o):(b,o)∈sQ fp h:=List.mem_filterMap.mpr ⟨b,hb,by rw[e];rfl⟩
def aR1{fp:List Addr}{h:Heap}{p:Addr×Obj}(a:p∈sQ fp h):p.1∈fp/\h.get? p.1=some p.2:=by
 obtain⟨b,hb,e⟩:=List.mem_filterMap.mp a;cases q:h.get? b with
 | none=>rw[q]at e;cases e
 | some o=>
   rw[q]at e;have c:(b,o)=p:=a5a e;subst c;exact⟨hb,q⟩
def Inv.pinned{pins:List (Addr×Obj)}{σ:St}{H:Hp}{s:Shared}{fp:List Addr}(I:Inv X pins σ H s)(c:∀ b∈fp,bA9 X pins H b)(f:∀ b∈fp,∃ o,s.heap.get? b=some o/\∀ v,o.data≠.cell v):Inv X (pins++sQ fp s.heap) σ H s:=
 I.pins_of λp g=>(a1c.mp g).elim (λz=>I.pin p (a3c _ z)) λz=>by
  obtain⟨hb,e⟩:=aR1 z;obtain⟨h,i,j,_⟩:=c p.1 hb;obtain⟨o,a,d⟩:=f p.1 hb;rw[e]at a;cases a;exact⟨e,h,i,j,d⟩
def Inv.unpinned{pins pl:List (Addr×Obj)}{σ:St}{H:Hp}{s:Shared}(I:Inv X (pins++pl) σ H s):Inv X pins σ H s:=I.pins_of λp a=>I.pin p (a3c _ (a5h _ a))
def vD{iter:Expr}{p:List Stmt}{R:TI}{g:TG}{S:TS}{pos:Pos}(z:PassesOwn (model X.prog X.w) X.A X.env X.xe)(U:X.calm=true)(hi:PI X tg iter R)(hg:PG X tg g)(hb:PSs X p S)
  (hs:∀ x,foldedSetIterable iter X.env x=pure x:=by intro _;rfl):PS X (.For tg iter p [] pos) (bZ4 R g S):=by
 intro pins s σ H D I h;refine wpAny_For (thn (hi pins s σ H _ I h) λv s1 h1=>thn h1 λitv s2 h2=>?_) hs;obtain⟨it,fp,tn,J,H2,e,I2,T,G,V,W,⟨m0,w0⟩,turn⟩:=h2;subst e
 -- Y stays true of K q objects through K loop
 have c:∀ {H':Hp},(∀ b∈fp,H' b=none)->∀ b∈fp,bA9 X pins H' b:=λhn b hb=>⟨hn b hb,(V b hb).2⟩;refine codeAny_forLoop_any (λn s'=>∃ i σ' H',Inv X pins σ' H' s'/\tn i s'.heap/\(∀ b∈fp,H' b=none)/\W i n σ' H') ?_ m0 ⟨0,σ,H2,I2,G,λb hb=>(V b hb).1,w0⟩;rintro n Z ⟨i,j,F,I3,B,C,w3⟩;rcases turn i n j F w3 with⟨stop,qn⟩ | ⟨go,N,hN,step⟩
 ·refine a2v z (thn (T.done X rfl rfl rfl U i pins Z j F X.xe I3 (c C) B stop) λr s4 Z0=>?_);obtain⟨L,I4⟩:=Z0;subst L;exact wpAny_execs_nil ⟨j,F,I4,qn⟩
 ·refine a2v z (thn (T.item X rfl rfl rfl U i pins Z j F X.xe I3 (c C) B go) λr s4 Z0=>?_);obtain⟨u,L,h4⟩:=Z0;subst L;refine a2v z (thn h4 λ_ s5 ⟨x,H5,I5,r5,y5,y,M⟩=>?_);have O:=I5.pinned (c M) (T.obj _ _ y);refine a2v z (thn (hg _ s5 j H5 x u _ O r5 (step x H5 y5)) λ_ s6 ⟨P,H6,I6,q6⟩=>?_);refine a2v z (thn (hb _ s6 P H6 _ I6 q6) λf Q t=>?_);have again:∀ {a:St} {k:Hp},Inv X (pins++sQ fp s5.heap) a k Q->N a k->∃ m,m < n/\∃ i σ' H',Inv X pins σ' H' Q/\tn i Q.heap/\(∀ b∈fp,H' b=none)/\W i m σ' H':=λ{a k} l E=>by
   obtain⟨m',hm,w7⟩:=hN a k E;refine⟨m',hm,i+1,a,k,l.unpinned,T.keep _ _ _ y λb hb o e=>(l.pin (b,o) (a3c _ (a3c _ (jS hb e)))).1,λb hb=>?_,w7⟩;obtain⟨o,e,d⟩:=T.obj _ _ y b hb;exact(l.pin (b,o) (a3c _ (a3c _ (jS hb e)))).2.1
  cases f with
  | next=>obtain⟨a,k,l,E⟩:=t;exact again l E
  | cont=>obtain⟨a,k,l,E⟩:=t;exact again l E
  | brk=>obtain⟨a,k,l,t⟩:=t;exact⟨a,k,l.unpinned,t⟩
  | ret v=>obtain⟨x7,a,k,l,r7,t⟩:=t;exact⟨x7,a,k,l.unpinned,r7,t⟩
end
abbrev R2:=V->V->Hp->VK->Prop
def OpR(X:Cx)(f:Value->Value->Sem Value)(r:R2):Prop:=
 ∀ (pins:List (Addr×Obj)) (s:Shared) (σ:St) (H:Hp) (x y:V) (v u:Value) (Q:VK),Inv X pins σ H s->eI x v->eI y u->r x y H Q ->
   wpAny (model X.prog X.w) X.A (f v u) (EP X pins σ Q) X.xe s
def sR(X:Cx)(f:Value)(r:List V->Hp->VK->Prop):Prop:=
 ∀ (pins:List (Addr×Obj)) (s:Shared) (σ:St) (H:Hp) (xs:List V) (us:List Value) (Q:VK),Inv X pins σ H s->bS xs us->r xs H Q ->
   wpAny (model X.prog X.w) X.A (call f us) (EP X pins σ Q) X.xe s
def tOp(r:R2)(a b:TE):TE:=λσ H Q=>a σ H λx c=>b σ c λy d=>r x y d Q
def rI(C:Int->Int->Prop)(g:Int->Int->V):R2:=λx y H Q=>∃ i j,x=.int i/\y=.int j/\C i j/\Q (g i j) H
def rI0(g:Int->Int->V):R2:=λx y H Q=>∃ i j,x=.int i/\y=.int j/\Q (g i j) H
section
variable{X:Cx}{a b c:Expr}{ta tb tc:TE}{pos:Pos}
def cJ6(ha:PE X a ta)(hb:PE X b tb){pins:List (Addr×Obj)}{s:Shared}{σ:St}{H:Hp}{R:V->V->Hp->Prop}(I:Inv X pins σ H s)
  (h:ta σ H λx g=>tb σ g λy c=>R x y c) {Q:Value->Shared->Prop} {f:Value->Value->Sem Value}
  (i:∀ v u s2 x y c,Inv X pins σ c s2->eI x v->eI y u->R x y c->wpAny (model X.prog X.w) X.A (f v u) Q X.xe s2) :
  wpAny (model X.prog X.w) X.A (eval a X.env) (λv d=>wpAny (model X.prog X.w) X.A (eval b X.env) (λu e=>wpAny (model X.prog X.w) X.A (f v u) Q X.xe e) X.xe d) X.xe s:=by
 refine thn (ha pins s σ H _ I h) λv s1 Z0=>?_;obtain⟨x,g,j,k,l⟩:=Z0;refine thn (hb pins s1 σ g _ j l) λu s2 ⟨y,c,m,n,o⟩=>?_;exact i v u s2 x y c m k n o
def cJ7{op:Operator}{r:R2}(c:OpR X (binaryOp op) r)(ha:PE X a ta)(hb:PE X b tb):PE X (.BinOp a op b pos) (tOp r ta tb):=by
 intro pins s σ H Q I h;exact wpAny_BinOp (cJ6 ha hb I h λv u s2 x y d e f g q=>c pins s2 σ d x y v u Q e f g q)
def opI{f:Value->Value->Sem Value}{C:Int->Int->Prop}{g:Int->Int->Int}
  (rule:∀ (i j:Int) (t u:Tok) (s:Shared) (Q:Value->Shared->Prop) (E:Value->Shared->Prop),C i j->Q (.int (g i j) s.toks) {s with toks:=s.toks+1}->wpAny (model X.prog X.w) X.A (f (.int i t) (.int j u)) Q E s) :
  OpR X f (rI C λi j=>.int (g i j)):=by
 intro pins s σ H x y v u Q I a b h;obtain⟨i,j,rfl,rfl,c,q⟩:=h;obtain⟨t,rfl⟩:=a;obtain⟨d,rfl⟩:=b;exact rule i j t d s _ _ c ⟨.int (g i j),H,I.tok _,⟨_,rfl⟩,q⟩
def cQ9{f:Value->Value->Sem Value}{g:Int->Int->Int}
  (rule:∀ (i j:Int) (t u:Tok) (s:Shared) (Q:Value->Shared->Prop) (E:Value->Shared->Prop),Q (.int (g i j) s.toks) {s with toks:=s.toks+1}->wpAny (model X.prog X.w) X.A (f (.int i t) (.int j u)) Q E s) :
  OpR X f (rI0 λi j=>.int (g i j)):=by
 intro pins s σ H x y v u Q I a b h;obtain⟨i,j,rfl,rfl,q⟩:=h;obtain⟨t,rfl⟩:=a;obtain⟨c,rfl⟩:=b;exact rule i j t c s _ _ ⟨.int (g i j),H,I.tok _,⟨_,rfl⟩,q⟩
def cJ8{f:Value->Value->Sem Value}{g:Int->Int->Bool}
  (rule:∀ (i j:Int) (t u:Tok) (s:Shared) (Q:Value->Shared->Prop) (E:Value->Shared->Prop),Q (.bool (g i j)) s->wpAny (model X.prog X.w) X.A (f (.int i t) (.int j u)) Q E s) :
  OpR X f (rI0 λi j=>.bl (g i j)):=by
 intro pins s σ H x y v u Q I a b h;obtain⟨i,j,rfl,rfl,q⟩:=h;obtain⟨t,rfl⟩:=a;obtain⟨c,rfl⟩:=b;exact rule i j t c s _ _ ⟨.bl (g i j),H,I,rfl,q⟩
def bV6(i j:Int):Prop:=0<=j/\j<=1000000/\i.natAbs < 2 ^ 64
def bZ5(i j:Int):Prop:=(-(2 ^ 64) < i/\i < 2 ^ 64)\/(-(2 ^ 64) < j/\j < 2 ^ 64)
theorem bZ5.ok{i j:Int}(h:bZ5 i j):IntMulOk i j:=by
 rcases h with⟨a,b⟩ | ⟨a,b⟩;exact .of_left (intBits_le_64 a b);exact .of_right (intBits_le_64 a b)
def bZ6:OpR X (binaryOp .Add) (rI0 λi j=>.int (i+j)):=cQ9 λ_ _ _ _ _ _ _ q=>add_int q
def bZ7:OpR X (binaryOp .Mult) (rI bZ5 λi j=>.int (i*j)):=opI λ_ _ _ _ _ _ _ a q=>mul_int q a.ok
def kH:OpR X (binaryOp .Mod) (rI (λ_ j=>0 < j) λi j=>.int (i % j)):=opI λi j _ _ _ _ _ a q=>by
 have b:(0:Int) < j:=a;exact mod_int' (by lia) (by rw[Int.fmod_eq_emod_of_nonneg i (by lia)];exact q)
def bZ8:OpR X (binaryOp .Pow) (rI bV6 λi j=>.int (i ^ j.toNat)):=opI λ_ _ _ _ _ _ _ a q=>pow_int_small a.1 a.2.1 a.2.2 q
end
section
variable{X:Cx}{a b c:Expr}{ta tb tc:TE}{pos:Pos}
def bG9{pins:List (Addr×Obj)}{σ:St}{H:Hp}{s:Shared}{Q:VK}{k a:Bool}(I:Inv X pins σ H s)(q:Q (.bl k) H)(e:k=a):EP X pins σ Q (.bool a) s:=by
 subst e;exact⟨.bl k,H,I,rfl,q⟩
def cJ9:OpR X (compareOp .Lt) (rI0 λi j=>.bl (decide (i < j))):=cJ8 λ_ _ _ _ _ _ _ q=>lt_int q
def bB1:OpR X (compareOp .Gt) (rI0 λi j=>.bl (decide (j < i))):=cJ8 λ_ _ _ _ _ _ _ q=>gt_int q
def cK0:OpR X (compareOp .GtE) (rI0 λi j=>.bl (decide (j<=i))):=cJ8 λ_ _ _ _ _ _ _ q=>ge_int q
def aR2:OpR X (compareOp .In) (λx y H Q=>∃ i j,x=.str i/\y=.str j/\Q (.bl (!(Builtin.Str.occurrences j i 0 j.length 1).isEmpty)) H):=by
 intro pins s σ H x y v u Q I a b h;obtain⟨i,j,rfl,rfl,q⟩:=h;obtain⟨t,rfl⟩:=a;obtain⟨c,rfl⟩:=b;exact in_str (bG9 I q rfl)
def xS:OpR X (compareOp .NotIn) (λx y H Q=>∃ i j,x=.str i/\y=.str j/\Q (.bl (!(!(Builtin.Str.occurrences j i 0 j.length 1).isEmpty))) H):=by
 intro pins s σ H x y v u Q I a b h;obtain⟨i,j,rfl,rfl,q⟩:=h;obtain⟨t,rfl⟩:=a;obtain⟨c,rfl⟩:=b;exact notIn_str (bG9 I q rfl)
def OpR.or{f:Value->Value->Sem Value}{r a:R2}(h:OpR X f r)(h':OpR X f a):OpR X f (λx y H Q=>r x y H Q\/a x y H Q):=by
 intro pins s σ H x y v u Q I b c q;rcases q with q | q;exact h pins s σ H x y v u Q I b c q;exact h' pins s σ H x y v u Q I b c q
def bU(b:Expr){op:CmpOp}(h:op≠.In:=by decide)(a:op≠.NotIn:=by decide):behindInMarks op b=false:=by
 have c:(op==CmpOp.In)=false:=by cases op<;>first | rfl | exact absurd rfl h
 have d:(op==CmpOp.NotIn)=false:=by cases op<;>first | rfl | exact absurd rfl a
 cases b<;>simp[behindInMarks,c,d]
def bM6{op:CmpOp}{r:R2}(c:OpR X (compareOp op) r)(ha:PE X a ta)(hb:PE X b tb)(d:behindInMarks op b=false):PE X (.Compare a [op] [b] pos) (tOp r ta tb):=by
 intro pins s σ H Q I h;exact wpAny_Compare1 (cJ6 ha hb I h λv u s2 x y e f g i q=>c pins s2 σ e x y v u Q f g i q) d
def cK1(t:TE):TT:=λσ H Q=>t σ H λx H'=>∃ k,x=.bl k/\Q k H'
def bM7{op:CmpOp}{r:R2}(d:OpR X (compareOp op) r)(ha:PE X a ta)(hb:PE X b tb)(f:behindInMarks op b=false):PT X (.Compare a [op] [b] pos) (cK1 (tOp r ta tb)):=by
 intro pins s σ H Q I h;refine wpAny_isTrue_Compare1 (thn (ha pins s σ H _ I h) λv s1 ⟨x,g,i,j,l⟩=>thn (hb pins s1 σ g _ i l) λu s2 ⟨y,m,n,o,p⟩=>
  thn (d pins s2 σ m x y v u _ n j o p) λc B ⟨z,q,t,w,k,e,A⟩=>?_) f
 subst e;cases w;exact wpAny_truthy_bool ⟨q,t,A⟩
def vE:(sizeLine:Nat) < 2 ^ 63:=by rw[a2F];decide
def aM6:OpR X (binaryOp .Add) (λx y H Q=>∃ i j,x=.str i/\y=.str j/\i.length+j.length<=sizeLine/\Q (.str (i++j)) H):=by
 intro pins s σ H x y v u Q I a b h;obtain⟨i,j,rfl,rfl,c,q⟩:=h;obtain⟨t,rfl⟩:=a;obtain⟨d,rfl⟩:=b;exact add_str (λd tk=>⟨.str (i++j),H,I.tok _,⟨_,rfl⟩,q⟩) c
def aB8{x:V}{us:List Value}(r:bS [x] us):∃ u,us=[u]/\eI x u:=by
 cases r with
 | cons a b=>cases b;exact⟨_,rfl,a⟩
def xT:sR X (.type "int") (λxs H Q=>(∃ i,xs=[.int i]/\Q (.int i) H)\/∃ k,xs=[.bl k]/\Q (.int (if k then 1 else 0)) H):=by
 intro pins s σ H xs us Q I r h;rcases h with⟨i,rfl,q⟩ | ⟨k,rfl,q⟩;obtain⟨u,rfl,t,rfl⟩:=aB8 r;exact call_int_int ⟨.int i,H,I,⟨_,rfl⟩,q⟩;obtain⟨u,rfl,a⟩:=aB8 r;cases a;exact call_int_bool ⟨.int (if k then 1 else 0),H,I.tok _,⟨_,rfl⟩,q⟩
end
structure ObjM(h:Heap)(x dx C:Addr)(mA:Str->Option Value):Prop where
 obj:h.get? x=some (W.instObj C dx)
 ns:h.Ns1 dx mA
 ne:dx≠x
section
variable{prog:Program}{w:World}{A:Around}{E:Value->Shared->Prop}{s:Shared}{K:W.Frag}{x dx C f:Addr}{mA:Str->Option Value}{name:Str}{v:Value}
end
section
variable{P:Program}{w:World}{H H':Hp}{h h':Heap}{a C dx:Addr}{fs fs':List (Str×V)}
def fZ(hok:HOk P w H h)(e:H a=some (.ins C dx fs)):∃ mA,ObjM h a dx C mA/\(∀ f,bG5 (fs.lookup f) (mA f))/\Within mA (fs.map (·.1))/\fs.length<=1000/\H dx=some (.own a):=by
 obtain⟨d,z,ne,ob,mA,n,r,q⟩:=(show dE P w H h a (.ins C dx fs)from hok a _ e);exact⟨mA,⟨ob,n,ne⟩,r,q,z,d⟩
end
section
variable{X:Cx}{pins:List (Addr×Obj)}{σ:St}{H:Hp}{s:Shared}{a C dx:Addr}{fs:List (Str×V)}{f:Str}{v:V}{A:Around}{E:Value->Shared->Prop}
end
section
variable{X:Cx}{o e value:Expr}{f:Str}{pos pos' tpos:Pos}{ta tv:TE}
end
section
variable{X:Cx}{pins:List (Addr×Obj)}{σ:St}{H:Hp}{s:Shared}{A:Around}{E:Value->Shared->Prop}{Q:Value->Shared->Prop}{c:Value}{b:Bool}
end
structure Room(k:Nat)(A:Around):Prop where
 hd:A.handled=none
 dp:A.depth+3*k+5 < recursionLimit
 un:A.units+16*k+200 < cLine
def Room.mono{j k:Nat}{A:Around}(r:Room k A)(h:j<=k):Room j A:=⟨r.hd,by have:=r.dp;lia,by have:=r.un;lia⟩
theorem Room.deeper{k:Nat}{A:Around}(r:Room (k+1) A)(env:Env):Room k (A.deeper env):=
 ⟨r.hd,by have:=r.dp;show A.depth+1+3*k+5 < _;lia,by have:=r.un;show A.units+3+16*k+200 < _;lia⟩
theorem Room.depth{k:Nat}{A:Around}(r:Room k A):A.depth < recursionLimit:=by have:=r.dp;lia
theorem Room.units{k:Nat}{A:Around}(r:Room k A):A.units+64 < cLine:=by have:=r.un;lia
def Room.units0{k:Nat}{A:Around}(r:Room k A):A.units < cLine:=by have:=r.un;lia
def cK2:TA:=λ_ H Q=>Q [] H
def cK3(a:TE)(tr:TA):TA:=λσ H Q=>a σ H λx b=>tr σ b λxs c=>Q (x::xs) c
section
variable{X:Cx}{e:Expr}{es:List Expr}{te:TE}{t:TA}{pos:Pos}
def bH0:PA X [] cK2:=λ_ _ _ _ H Q I h=>Calls.spliced_nil ⟨[],H,I,.nil,h⟩
def bM8(ha:PE X e te)(a:PA X es t)(hs:starEach (e::es) X.env=(false,eval e X.env)::starEach es X.env:=by rfl):PA X (e::es) (cK3 te t):=by
 intro pos pins s σ H Q I h;rw[hs];show wpAny _ _ (spliced ((false,eval e X.env)::backTo pos (starEach es X.env))) _ _ s;refine Calls.spliced_cons (thn (ha pins s σ H _ I h) λu s1 Z0=>?_);obtain⟨x,b,c,d,f⟩:=Z0;exact thn (a pos pins s1 σ b _ c f) λus s2 ⟨xs,g,i,j,k⟩=>⟨x::xs,g,i,.cons d j,k⟩
def cR0(t:TA):TE:=λσ H Q=>t σ H λxs a=>xs.length<=sizeLine/\∀ p,a p=none->Q (.ref p) (upd a p (.tup xs))
def cK4(t:TA):TE:=λσ H Q=>t σ H λxs a=>xs.length<=sizeLine/\∀ p,a p=none->Q (.ref p) (upd a p (.lst xs))
def bZ9{d}(h:PA X es t):PE X (.Tuple es d pos) (cR0 t):=by
 intro pins s σ H Q I f;refine wpAny_Tuple_spliced (thn (h pos pins s σ H _ I f) λus s1 ⟨xs,a,c,r,z,q⟩=>⟨by rw[← r.length];exact z,?_⟩);have g:a s1.heap.objs.size=none:=c.hok.fresh (a7a _);refine⟨.ref s1.heap.objs.size,upd a s1.heap.objs.size (.tup xs),c.laid (t':=s1.toks) (λb u e=>a6a _ e) (a7a _) ?_,rfl,q _ g⟩;exact⟨z,us,r,⟨_,a3b _ rfl,rfl,_,rfl⟩,⟨_,a3b _ rfl,rfl⟩⟩
def bH1(h:PA X es t):PE X (.List es pos) (cK4 t):=by
 intro pins s σ H Q I d;refine wpAny_List_spliced (thn (h pos pins s σ H _ I d) λus s1 ⟨xs,a,c,r,z,q⟩=>⟨by rw[← r.length];exact z,?_⟩);have f:a s1.heap.objs.size=none:=c.hok.fresh (a7a _);refine⟨.ref s1.heap.objs.size,upd a s1.heap.objs.size (.lst xs),c.laid (t':=s1.toks) (λb u e=>a6a _ e) (a7a _) ?_,rfl,q _ f⟩;exact⟨z,us,0,r,a3b _ rfl⟩
end
abbrev Sp:=List V->Hp->VK->XK->Prop
abbrev CXT:=List Env->Hp->Shared->XK->Value->Shared->Prop
structure Env0(P:Program)(w:World)(K:W.Frag)(mg:Str->Option Value)(base:Heap)(A:Around)(outer:List Env)(s:Shared)(H:Hp):Prop where
 frames:A.frames=some outer
 mod:Mod K mg base
 bs:∀ b o,base.get? b=some o->s.heap.get? b=some o/\H b=none
 bsz:base.objs.size<=s.heap.objs.size
 funs:s.heap.FunFrames base outer
 frf:∀ b∈frs outer,H b=none
 hok:HOk P w H s.heap
 bare:AllBare s.gens
def CE(outer:List Env)(P:Program)(w:World)(H:Hp)(s:Shared)(Q:VK)(u:Value)(s':Shared):Prop:=
 ∃ v H',s'.os=s.os/\AllBare s'.gens/\Un (frs outer) [] H H' s.heap s'.heap/\HOk P w H' s'.heap/\eI v u/\Q v H'
def CR(CX:CXT)(outer:List Env)(P:Program)(w:World)(H:Hp)(s:Shared)(Q:VK)(E:XK)(r:Result)(s':Shared):Prop:=
 match r with
 | .ok (.ret u)=>CE outer P w H s Q u s'
 | .ok _=>False
 | .error e=>CX outer H s E e s'
structure FnOk(P:Program)(w:World)(K:W.Frag)(mg:Str->Option Value)(base:Heap)(CX:CXT)(k:Nat)(f:Addr)(fd:FuncData)(ps:List Str)(sp:Sp):Prop where
 len:∀ vs H Q E,sp vs H Q E->vs.length=ps.length
 run:∀ (A:Around) (outer:List Env) (s:Shared) (H:Hp) (args:Args) (us:List Value) (vs:List V) (Q:VK) (E:XK),Room k A->Env0 P w K mg base A outer s H->BindsTo s fd args (ps.zip us)->bS vs us->sp vs H Q E ->
  codeAny (model P w) A (.call (.ref f) args) (CR CX outer P w H s Q E) s
def FnOk.imp{P:Program}{w:World}{K:W.Frag}{mg:Str->Option Value}{base:Heap}{CX:CXT}{k:Nat}{f:Addr}{fd:FuncData}{ps:List Str}{sp a:Sp}(F:FnOk P w K mg base CX k f fd ps sp)
  (h:∀ vs H Q E,a vs H Q E->sp vs H Q E):FnOk P w K mg base CX k f fd ps a:=
 ⟨λvs H Q E q=>F.len vs H Q E (h _ _ _ _ q),λA outer s H args us vs Q E b c hb d hs=>F.run A outer s H args us vs Q E b c hb d (h _ _ _ _ hs)⟩
section
variable{X:Cx}{pins:List (Addr×Obj)}{σ:St}{H:Hp}{s s':Shared}
def Inv.env0(I:Inv X pins σ H s):Env0 X.prog X.w X.K X.mg X.base X.A X.stack s H:=
 ⟨I.ok.frames,I.ok.mod,I.bs,a0b I.ok.bsz I.sz,I.stack,I.stkFree,I.hok,I.bare⟩
def Inv.after{Q:VK}{u:Value}(I:Inv X pins σ H s)(h:CE X.stack X.prog X.w H s Q u s'):EP X pins σ Q u s':=by
 obtain⟨v,H',os,bare,un,hok,r,q⟩:=h;obtain⟨c,g,d,t,a⟩:=s';obtain rfl:a=s.os:=os;exact⟨v,H',I.call (h':=c) (g':=g) (d':=d) (t':=t) (ch:=[]) un hok bare (λb z=>absurd z (by simp)),r,q⟩
end
def bM9(sp:Sp)(a:List V)(E:XK)(t:TA):TE:=λσ H Q=>t σ H λvs b=>sp (vs++a) b Q E
def fQ(K:W.Frag)(fd:FuncData)(ps:List Str)(ds:List Value):Prop:=
 ∀ (s:Shared) (us:List Value),K.In s.heap->(us++ds).length=ps.length->BindsTo s fd ⟨us,[]⟩ (ps.zip (us++ds))
def fQ.all{K:W.Frag}{fd:FuncData}{ps:List Str}(h:∀ us:List Value,us.length=ps.length->bindArgs fd ⟨us,[]⟩=pure (ps.zip us)):fQ K fd ps []:=λs us _ a=>by
 rw[a3f]at a ⊢;exact .of_eq (h us a)
def aR3(CX:CXT)(X:Cx)(E:XK):Prop:=∀ (pins:List (Addr×Obj)) (σ:St) (H:Hp) (s:Shared) (e:Value) (s':Shared),Inv X pins σ H s->CX X.stack H s E e s'->X.xe e s'
section
variable{X:Cx}{CX:CXT}{k:Nat}{f C:Addr}{fd:FuncData}{ps:List Str}{sp:Sp}{dvs:List V}{ds:List Value}{E:XK}{x m:Str}{p pos apos:Pos}{e o:Expr}{es:List Expr}{ta:TE}{t:TA}
def cA0{pins:List (Addr×Obj)}{σ:St}{H:Hp}{s:Shared}{Q:VK}{us:List Value}{vs:List V}(F:FnOk X.prog X.w X.K X.mg X.base CX k f fd ps sp)(c:Room k X.A)(hb:fQ X.K fd ps ds)(hd:bS dvs ds)(d:aR3 CX X E)
  (I:Inv X pins σ H s) (r:bS vs us) (h:sp (vs++dvs) H Q E):wpAny (model X.prog X.w) X.A (call (.ref f) us) (EP X pins σ Q) X.xe s:=by
 have b:bS (vs++dvs) (us++ds):=r.append hd;have g:(us++ds).length=ps.length:=by rw[← b.length];exact F.len _ _ _ _ h
 refine wpAny_call (a2I (F.run X.A X.stack s H ⟨us,[]⟩ (us++ds) (vs++dvs) Q E c I.env0 (hb s us I.kIn g) b h) λr s' a=>?_);cases r with
 | error e=>exact d pins σ H s e s' I a
 | ok i=>
   cases i with
   | ret u=>exact I.after a
   | next=>exact False.elim a
   | brk=>exact False.elim a
   | cont=>exact False.elim a
def aG(F:FnOk X.prog X.w X.K X.mg X.base CX k f fd ps sp)(d:Room k X.A)(g:Gl X x)(i:X.mg x=some (.ref f))(j:W.keepIn X.K (.ref f)=true)(hb:fQ X.K fd ps ds)(hd:bS dvs ds)(l:aR3 CX X E)
  (ha:PA X (e::es) t) (a:(x==("__debug__":Str))=false:=by decide) (m:starEach (e::es) X.env=(false,eval e X.env)::starEach es X.env:=by rfl) (b:(backTo pos (starEach es X.env)).any (·.1)=false:=by rfl) :
  PE X (.Call (.Name x p) (e::es) [] pos) (bM9 sp dvs E t):=by
 intro pins s σ H Q I h;refine a2A (bM2 I g i ?_ a);refine W.callWith_K (h₀:=X.base) I.ok.mod.kin j (thn (ha pos pins s σ H _ I h) λus s1 ⟨vs,n,c,r,q⟩=>⟨c.kIn,?_⟩) m b;exact cA0 F d hb hd l c r q
end
def PK(X:Cx)(a:List Keyword)(t:TA):Prop:=
 ∀ (b:Pos) (pins:List (Addr×Obj)) (s:Shared) (σ:St) (H:Hp) (Q:List V->Hp->Prop),Inv X pins σ H s->t σ H Q->wpAny (model X.prog X.w) X.A (evalAll ((backToKw b (keywordEach a X.env)).map (·.2))) (AP X pins σ Q) X.xe s
section
variable{X:Cx}{CX:CXT}{k:Nat}{f C:Addr}{fd:FuncData}{ps ks:List Str}{sp:Sp}{E:XK}{x m:Str}{p pos apos kpos:Pos}{e o:Expr}{es:List Expr}{kws:List Keyword}{te ta:TE}{t tk:TA}{nm:Option Str}
variable{g:List Value->List Value->List Value}{gV:List V->List V->List V}
end
structure FnScope(N P:List Str)(sc:Scope):Prop where
 kind:sc.kind=.function
 co:sc.isCoroutine=false
 gen:sc.isGenerator=false
 nd:N.Nodup
 pre:N.take P.length=P
 par:∀ x∈P,sc.names.lookup x=some .local\/sc.names.lookup x=some .cell
 nofree:∀ y∈sc.names,y.2≠.free
theorem xU{kindOf:Str->Option NameKind}{x:Str}:∀ {binds:List (Str×Value)} {m:Str->Option Value},(∀ v,(x,v)∉binds)->bindL kindOf binds m x=m x
 | [],_,_=>rfl
 | (n,v)::r,m,h=>by
   unfold bindL;rw[xU λw a=>h w (a4a _ a)];split
   ·have:x≠n:=by rintro rfl;exact h v a3a
    simp[this]
   ·rfl
theorem xV{kindOf:Str->Option NameKind}{x:Str}:∀ {binds:List (Str×Value)} {m:Str->Option Value},(∀ v,(x,v)∉binds)->bindC kindOf binds m x=m x
 | [],_,_=>rfl
 | (n,v)::r,m,h=>by
   unfold bindC;rw[xV λw a=>h w (a4a _ a)];split;rfl
   ·have:x≠n:=by rintro rfl;exact h v a3a
    simp[this]
theorem xW{kindOf:Str->Option NameKind}{x:Str}{v:Value}:∀ {P:List Str} {vs:List Value} {i:Nat} {m:Str->Option Value},P.Nodup->P[i]? = some x->vs[i]? = some v->kindOf x=some .local ->
  bindL kindOf (P.zip vs) m x=some v
 | [],_,_,_,_,h,_,_=>by simp at h
 | _::_,[],_,_,_,_,h,_=>by simp at h
 | p::P,w::vs,0,m,nd,a,b,c=>by
   simp at a b;subst a;subst b;show bindL kindOf ((p,w)::P.zip vs) m p=_;unfold bindL;rw[xU λv d=>(a6h.mp nd).1 (List.of_mem_zip d).1,a1Z c];simp
 | p::P,w::vs,i+1,m,nd,a,b,c=>by
   show bindL kindOf ((p,w)::P.zip vs) m x=_;unfold bindL;exact xW (i:=i) (a6h.mp nd).2 (by simpa using a) (by simpa using b) c
theorem xY{kindOf:Str->Option NameKind}{x:Str}{v:Value}:∀ {P:List Str} {vs:List Value} {i:Nat} {m:Str->Option Value},P.Nodup->P[i]? = some x->vs[i]? = some v->kindOf x≠some .local ->
  bindC kindOf (P.zip vs) m x=some v
 | [],_,_,_,_,h,_,_=>by simp at h
 | _::_,[],_,_,_,_,h,_=>by simp at h
 | p::P,w::vs,0,m,nd,a,b,c=>by
   simp at a b;subst a;subst b;show bindC kindOf ((p,w)::P.zip vs) m p=_;unfold bindC;rw[xV λv d=>(a6h.mp nd).1 (List.of_mem_zip d).1,a2k c];simp
 | p::P,w::vs,i+1,m,nd,a,b,c=>by
   show bindC kindOf ((p,w)::P.zip vs) m x=_;unfold bindC;exact xY (i:=i) (a6h.mp nd).2 (by simpa using a) (by simpa using b) c
noncomputable def gO(N:List Str)(vs:List V):St:=vs.map some++List.replicate (N.length-vs.length) none
noncomputable def bH2(CX:CXT)(P:Program)(w:World)(K:W.Frag)(mg:Str->Option Value)(base:Heap)(N:List Str)(qual:Str)(scope:Scope)(f:Addr)(b:Value)(A:Around)(outer:List Env)(s:Shared)(H:Hp)(E:XK):Cx where
 prog:=P
 w:=w
 K:=K
 mg:=mg
 base:=base
 A:=A.deeper (envOfC qual scope s.heap.objs.size f b)
 N:=N
 s₀:=s
 H₀:=H
 env:=envOfC qual scope s.heap.objs.size f b
 outer:=outer
 stack:=envOfC qual scope s.heap.objs.size f b::outer
 ex:=[]
 calm:=true
 fn:=λ_=>true
 pn:=[]
 xe:=λe s'=>wpAny (model P w) (A.deeper (envOfC qual scope s.heap.objs.size f b)) (leaving (envOfC qual scope s.heap.objs.size f b) e) (λ_ a=>CX outer H s E e a) (λc a=>CX outer H s E c a) s'
def aH3{sc:Scope}{n:Nat}{x:Str}(h:sc.names.lookup x=some .cell):∃ c,(cellsFrom n sc.names []).lookup x=some c:=by
 have q:=W.cellsFrom_some sc.names n [] (.inl h);exact Option.isSome_iff_exists.mp q
def aR4{CX:CXT}{P:Program}{w:World}{K:W.Frag}{mg:Str->Option Value}{base:Heap}{N ps:List Str}{qual:Str}{scope:Scope}{f:Addr}{t:Value}{A:Around}{outer:List Env}{s s1:Shared}{H:Hp}{E:XK}{us:List Value}{vs:List V}
  (S:FnScope N ps scope) (hd:A.handled=none) (g:Env0 P w K mg base A outer s H) (I:vs.length=ps.length) (r:bS vs us)
  (x:InCallC s s.heap.objs.size (bindL (envOfC qual scope s.heap.objs.size f t).kindOf (ps.zip us) λ_=>none) (cellsFrom (s.heap.objs.size+1) scope.names []) (bindC (envOfC qual scope s.heap.objs.size f t).kindOf (ps.zip us) λ_=>none) s1) :
  Inv (bH2 CX P w K mg base N qual scope f t A outer s H E) [] (gO N vs) H s1:=by
 have F:ps.length<=N.length:=by have:=a2D List.length S.pre;rw[a4f]at this;lia
 obtain⟨B,tk,rfl,C⟩:=x.done;have j:∀ b:Addr,b∉(bH2 CX P w K mg base N qual scope f t A outer s H E).ex:=λb z=>absurd (show b∈([]:List Addr)from z) (by simp);refine⟨⟨g.mod,S.kind,rfl,rfl,a7a _,λy z c B d=>?_,λy l=>?_,λy c _ h=>?_,λ_=>hd,Around.frames_deeper g.frames,.inr ⟨rfl,rfl⟩,λb z=>absurd z (j b),g.bs,g.bsz,λb _ _=>j b,λb z=>absurd z (j b),g.funs,g.frf⟩,
  rfl,g.bare,Un.kept C,⟨_,x.toInCall.ns,λi y v B d J=>?_⟩,λy c h=>⟨_,x.cell y c h⟩,g.hok.fresh (a7a _),λy c h=>?_,λp m=>absurd (show p∈([]:List (Addr×Obj))from m) (by simp),g.hok.kept C,?_⟩
 ·exact name_of_addr x.apart (a0i B) (a0i d)
 ·have l:scope.names.lookup y=some .cell\/scope.names.lookup y=some .free:=l;rcases l with l | l;exact aH3 l;exact absurd rfl (S.nofree _ (a0i l))
 ·exact a3g (x.above y c (a0i h))
 ·have hi:i < vs.length:=by
   unfold gO at d;by_cases hi:i < vs.length;exact hi;rw[a2b (by simpa using hi)]at d;rw[List.getElem?_replicate]at d;split at d<;>cases d
  have ha:vs[i]? = some v:=by
   unfold gO at d;rw[a6c (by simpa using hi),a2c]at d;cases e:vs[i]? with
   | none=>rw[e]at d;cases d
   | some a=>rw[e]at d;cases d;rfl
  obtain⟨u,D,G⟩:=r.get ha;have m:ps[i]? = some y:=by
   rw[← S.pre,List.getElem?_take_of_lt (by lia)];exact B
  have o:ps.Nodup:=by rw[← S.pre];exact S.nd.sublist (List.take_sublist _ _)
  refine⟨u,G,?_⟩;rcases S.par y (a4c m)with k | k;exact .inl ⟨k,xW o m D k⟩;obtain⟨c,e⟩:=aH3 (n:=s.heap.objs.size+1) k;refine .inr ⟨.inl k,c,e,?_⟩;have q:=x.cell y c e;rw[xY o m D (by show scope.names.lookup y≠_;rw[k];decide)]at q;exact q
 ·exact g.hok.fresh (a3g (x.above y c (a0i h)))
 ·unfold gO;show _=N.length;rw[a9a,a8a,List.length_replicate];lia
def cK5{CX:CXT}{P:Program}{w:World}{K:W.Frag}{mg:Str->Option Value}{base:Heap}{k:Nat}{f:Addr}{name qual:Str}{a:Arguments}{c:List Stmt}{scope:Scope}{z kV doc pm cdv ct oc:Value}{an od:Option Addr}
  {osl:Array (Option Value)} {N ps:List Str} {sp:Sp} (lk:K.lookup f=some ⟨oc,od,.func (W.fnOf name qual a c scope z kV doc pm an cdv ct),osl⟩) (j:W.codeIn K cdv qual=true) (S:FnScope N ps scope)
  (len:∀ vs H Q E,sp vs H Q E->vs.length=ps.length)
  (d:∀ (A:Around) (outer:List Env) (s:Shared) (H:Hp) (vs:List V) (Q:VK) (E:XK),Room k (A.deeper (envOfC qual scope s.heap.objs.size f cdv))->sp vs H Q E ->
   ∃ t,PSs (bH2 CX P w K mg base N qual scope f cdv A outer s H E) c t/\t {nx:=λ_ H'=>Q .non H',rt:=Q} (gO N vs) H) :
  FnOk P w K mg base CX (k+1) f (W.fnOf name qual a c scope z kV doc pm an cdv ct) ps sp:=by
 refine⟨len,λA outer s H args us vs Q E l h hb r i=>?_⟩;have C:=len _ _ _ _ i;have B:K.In s.heap:=h.mod.kin.keeps λb o e=>(h.bs b o e).1;have m:s.heap.NoLimit:=h.mod.nolimit.keeps λb o e=>(h.bs b o e).1;have g:∀ y∈ps.zip us,scope.names.lookup y.1=some .local\/(scope.names.lookup y.1=some .cell/\((cellsFrom (s.heap.objs.size+1) scope.names []).lookup y.1).isSome=true):=λ⟨n,v⟩ D=>by
  rcases S.par n (List.of_mem_zip D).1 with q | q;exact .inl q;exact .inr ⟨q,W.cellsFrom_some _ _ _ (.inl q)⟩
 refine codeAny_call_function l.depth (B _ _ lk) rfl S.co S.gen rfl (W.codeRec_of B j) (hb _ _ _ _ ?_);refine wpAny_newFunctionEnv_cells S.kind g λenv F s1 x=>?_;subst F;refine⟨m.keeps x.toInCall.keep,codeAny_func ?_⟩;obtain⟨t,G,L⟩:=d A outer s H vs Q E (l.deeper _) i;have I:Inv (bH2 CX P w K mg base N qual scope f cdv A outer s H E) [] (gO N vs) H s1:=aR4 S l.hd h C r x;refine a2u (G [] s1 (gO N vs) H _ I L) (λM s' hs=>?_) λe s' hs=>hs;have fin:∀ {σ':St} {H':Hp} {v:V} {u:Value},Inv (bH2 CX P w K mg base N qual scope f cdv A outer s H E) [] σ' H' s'->eI v u->Q v H'->CE outer P w H s Q u s':=
  λ{σ' H' v u} J p q=>⟨v,H',J.os,J.bare,J.base,J.hok,p,q⟩
 cases M with
 | ret u=>
   obtain⟨v,σ',H',J,p,q⟩:=hs;exact fin J p q
 | next=>
   obtain⟨σ',H',J,q⟩:=hs;exact fin (v:=V.non) (u:=Value.none) J rfl q
 | brk=>
   obtain⟨_,_,_,q⟩:=hs;exact False.elim q
 | cont=>
   obtain⟨_,_,_,q⟩:=hs;exact False.elim q
section
variable{X:Cx}{x:Str}{p pos:Pos}{e:Expr}{es:List Expr}{t:TA}{id T:String}{r:List V->Hp->VK->Prop}
def tCB(r:List V->Hp->VK->Prop)(t:TA):TE:=λσ H Q=>t σ H λvs a=>r vs a Q
def cL(c:sR X (.builtin id) r)(d:Gl X x)(f:X.mg x=none)(g:bootBuiltins x=some (.builtin id))(ha:PA X (e::es) t)(hn:x≠"__name__":=by decide)(a:(x==("__debug__":Str))=false:=by decide)
  (i:starEach (e::es) X.env=(false,eval e X.env)::starEach es X.env:=by rfl) (b:(backTo pos (starEach es X.env)).any (·.1)=false:=by rfl):PE X (.Call (.Name x p) (e::es) [] pos) (tCB r t):=by
 intro pins s σ H Q I h;refine a2A (xQ I d f g ?_ hn a);exact PyProof.Rows.callWith_builtin1 (thn (ha pos pins s σ H _ I h) λus s1 ⟨vs,j,k,l,m⟩=>c pins s1 σ j vs us Q k l m) i b
def bN(c:sR X (.type T) r)(d:Gl X x)(f:X.mg x=none)(g:bootBuiltins x=some (.type T))(ha:PA X (e::es) t)(hn:x≠"__name__":=by decide)(a:(x==("__debug__":Str))=false:=by decide)
  (i:starEach (e::es) X.env=(false,eval e X.env)::starEach es X.env:=by rfl) (b:(backTo pos (starEach es X.env)).any (·.1)=false:=by rfl):PE X (.Call (.Name x p) (e::es) [] pos) (tCB r t):=by
 intro pins s σ H Q I h;refine a2A (xQ I d f g ?_ hn a);exact PyProof.Rows.callWith_type1 (thn (ha pos pins s σ H _ I h) λus s1 ⟨vs,j,k,l,m⟩=>c pins s1 σ j vs us Q k l m) i b
end
end L2
namespace HT
open PySem PyProof.Rows
noncomputable def lexLt:List Int->List Int->Bool
 | [],[]=>false
 | [],_::_=>true
 | _::_,[]=>false
 | x::xs,y::ys=>if x=y then lexLt xs ys else decide (x < y)
def lexLt_cons(x y:Int)(xs ys:List Int):lexLt (x::xs) (y::ys)=if x=y then lexLt xs ys else decide (x < y):=rfl
def wF:lexLt [] []=false:=rfl
def uQ(y:Int)(ys:List Int):lexLt [] (y::ys)=true:=rfl
def uR(x:Int)(xs:List Int):lexLt (x::xs) []=false:=rfl
def bB2(A:Around)(s:Shared)(a:Int)(t:Tok)(c:Int)(u:Tok):∃ e,SeqAt.EqAt A s (.int a t) (.int c u) e/\(e=true↔a=c):=
 ⟨(a==c),SeqAt.EqAt.int_int a t c u,by simp⟩
def bB3(A:Around)(s:Shared)(a:Int)(t:Tok)(c:Int)(u:Tok)(prog:Program)(w:World)(E:Value->Shared->Prop)(Q:Value->Shared->Prop)(h:Q (.bool (decide (a < c))) s) :
  wpAny (model prog w) A (richCompare .Lt (.int a t) (.int c u)) Q E s:=
 (PyProof.Rows.lt_int h:wpAny (model prog w) A (compareOp .Lt (.int a t) (.int c u)) Q E s)
section
open PySem.SeqAt
open PySem.AutoSeq1 (wpAny_loadPart')
open PySem.MeetsSeq PySem.MeetsSeq2 PySem.MeetsSeq3
def wG(l b:Addr)(items f:Array Value)(n n2:Nat)(I E:Option Addr)(sl sl2:Array (Option Value))(ns C:List Int)(hi:IntsAre items.toList ns)(hj:IntsAre f.toList C) :
  Meets (Builtin.«tuple.__lt__» ⟨[.ref l,.ref b],[]⟩)
   (λ_ R s=>s.heap.get? l=some {cls:=.type "tuple",dict:=I,data:=.seq items n,slots:=sl}/\s.heap.get? b=some {cls:=.type "tuple",dict:=E,data:=.seq f n2,slots:=sl2} /\
    R (.ok (.ret (.bool (lexLt ns C)))) s):=
 .of_wp λprog w A R s h=>by
  obtain⟨D,g,d,tk,os⟩:=s;obtain⟨J,hb,h⟩:=h;have N:=AutoSeq1.sub_tuple_tuple;have O:items.size=ns.length:=by rw[← hi.length];simp
  have P:f.size=C.length:=by rw[← hj.length];simp
  wp_walk using a2C J,a2C hb,wpAny_forIn_list _ (λdG b s'=>b.1=none/\s'=⟨D,g,d,tk,os⟩/\∃ (vs ws:List Value) (ns' i:List Int),dG=vs.zip ws /\
   IntsAre vs ns'/\IntsAre ws i/\ns'.length+f.size=i.length+items.size/\R (.ok (.ret (.bool (lexLt ns' i)))) ⟨D,g,d,tk,os⟩) _
  case turn=>
   rintro⟨y,x⟩ dG b s' ⟨p,rfl,vs,ws,ns',i,j,r,k,hlen,m⟩;cases r with
   | nil=>rw[List.zip_nil_left]at j;cases j
   | cons a t z=>
     cases k with
     | nil=>rw[List.zip_nil_right]at j;cases j
     | cons c u B=>
       rw[List.zip_cons_cons]at j;injection j with F v
       injection F with K L
       subst K L;rw[lexLt_cons]at m;simp only[List.length_cons]at hlen;obtain⟨e,M,o⟩:=bB2 A.in1 ⟨D,g,d,tk,os⟩ a t c u;refine a1X (M prog w _ _ ?_);cases e with
       | true=>
         rw[a1Z (o.mp rfl)]at m
         wp_walk
         exact⟨rfl,rfl,_,_,_,_,v,z,B,by lia,m⟩
       | false=>
         rw[a2k (λq=>absurd (o.mpr q) a9d)]at m;have G:=bB3 A.in1 ⟨D,g,d,tk,os⟩ a t c u prog w
         wp_walk using G
         exact⟨_,rfl,by simpa using m⟩
  case fin=>
   rintro⟨Q,S⟩ s' ⟨p,rfl,vs,ws,ns',i,j,r,k,hlen,m⟩;simp only at p;subst p;have H:lexLt ns' i=decide (items.size < f.size):=by
    cases r with
    | nil=>
      cases k with
      | nil=>
        simp only[List.length_nil]at hlen;rw[wF];exact(a2o (by lia)).symm
      | cons c u hw=>
        simp only[List.length_nil,List.length_cons]at hlen;rw[uQ];exact(a2q (by lia)).symm
    | cons a t H=>
      cases k with
      | nil=>
        simp only[List.length_nil,List.length_cons]at hlen;rw[uR];exact(a2o (by lia)).symm
      | cons c u hw=>
        rw[List.zip_cons_cons]at j;cases j
   rw[H]at m
   wp_walk
   exact⟨_,rfl,by simpa[Builtin.Tuple.tupleCompareSizes]using m⟩
  case h=>
   exact⟨rfl,rfl,items.toList,f.toList,ns,C,rfl,hi,hj,by lia,h⟩
end
section
variable{prog:Program}{w:World}{A:Around}{E:Value->Shared->Prop}{s:Shared}
def lt_tupInts{l b:Addr}{items a:Array Value}{ns c:List Int}{Q:Value->Shared->Prop}(k:IsTup s.heap l items)(hb:IsTup s.heap b a)(hi:IntsAre items.toList ns)(hj:IntsAre a.toList c)
  (m:A.units < cLine) (h:Q (.bool (lexLt ns c)) s):wpAny (model prog w) A (compareOp .Lt (.ref l) (.ref b)) Q E s:=by
 obtain⟨⟨cls,o,data,sl⟩,g,i,n,hd⟩:=id k;obtain⟨⟨j,f,data2,sl2⟩,d,e,n2,hd2⟩:=id hb;simp only at i hd e hd2;subst i hd e hd2;exact richCompare_meets_room (op:=.Lt) ⟨_,g,rfl⟩ ⟨_,d,rfl⟩ F.slot_tuple_lt F.entry_tuple_lt (F.args_tuple_lt_2 _ _) (wG l b items a n n2 o f sl sl2 ns c hi hj)
  ⟨g,d,show Value.bool (lexLt ns c)≠Value.notImplemented/\Q (.bool (lexLt ns c)) s from⟨(λx=>nomatch x),h⟩⟩ m
def cat_tup{t b:Addr}{vs ws:List Value}{Q:Value->Shared->Prop}(l:IsTup s.heap t vs.toArray)(hb:IsTup s.heap b ws.toArray)(h:vs≠[])
  (m:ws=[]->Q (.ref t) s) (o:ws≠[]->Q (.ref s.heap.objs.size) {s with heap:=s.heap.push {cls:=.type "tuple",data:=.seq (vs++ws).toArray}})
  (hsz:vs.length+ws.length<=sizeLine):wpAny (model prog w) A (binaryOp .Add (.ref t) (.ref b)) Q E s:=by
 obtain⟨⟨cls,i,data,sl⟩,f,j,n,hd⟩:=id l;obtain⟨⟨k,c,data2,sl2⟩,a,d,n2,hd2⟩:=id hb;simp only at j hd d hd2;subst j hd d hd2;have e:vs.toArray++ws.toArray=(vs++ws).toArray:=by simp
 by_cases g:ws=[]
 ·exact concat_meets ⟨_,f,rfl⟩ ⟨_,a,rfl⟩ noFill_tuple_add seq_tuple_add F.slot_tuple_add F.entry_tuple_add (F.args_tuple_add_2 _ _)
   (tuple_addW1 t b vs.toArray ws.toArray n n2 i c sl sl2 (by simpa using h) (by simp[g])) ⟨f,a,m g⟩
 ·refine concat_meets ⟨_,f,rfl⟩ ⟨_,a,rfl⟩ noFill_tuple_add seq_tuple_add F.slot_tuple_add F.entry_tuple_add (F.args_tuple_add_2 _ _)
   (tuple_addW2 t b vs.toArray ws.toArray n n2 i c sl sl2 (by simpa using h) (by simpa using g) (by rw[List.size_toArray,List.size_toArray];exact hsz)) ⟨f,a,?_⟩
  rw[e];exact o g
noncomputable def sIx(n d:Nat):Option Int->Nat
 | none=>d
 | some v=>if v < 0 then(v+(n:Int)).toNat else min v.toNat n
def cA1(n d:Nat)(hd:d<=n)(o:Option Int):sIx n d o<=n:=by
 cases o with
 | none=>exact hd
 | some v=>
   show(if v < 0 then(v+(n:Int)).toNat else min v.toNat n)<=n;by_cases a:v < 0;rw[a1Z a];lia;rw[a2k a];exact Nat.min_le_right _ _
def aR5(v:Int)(n d:Nat):(if v < 0 then max (v+(n:Int)) 0 else min v (n:Int))=((sIx n d (some v):Nat):Int):=by
 show(if v < 0 then max (v+(n:Int)) 0 else min v (n:Int))=(((if v < 0 then(v+(n:Int)).toNat else min v.toNat n):Nat):Int);by_cases a:v < 0;simp only[if_pos a];lia;simp only[if_neg a];lia
def aM7(lo hi:Option Int)(n:Nat):Builtin.Slice.sliceAdjust lo hi 1 (n:Int)=(((sIx n 0 lo:Nat):Int),((sIx n n hi:Nat):Int)):=by
 have a:¬ ((1:Int) < 0):=by lia
 unfold Builtin.Slice.sliceAdjust;simp only[a,if_false];refine Prod.ext ?_ ?_
 ·cases lo with
  | none=>rfl
  | some v=>exact aR5 v n 0
 ·cases hi with
  | none=>rfl
  | some v=>exact aR5 v n n
def aM8(i j:Nat):Builtin.Slice.slicePlaces (i:Int) (j:Int) 1=j-i:=by
 unfold Builtin.Slice.slicePlaces;have a:(1:Int) > 0:=by lia
 simp only[a,if_true,Int.ediv_one];split<;>lia
def vF{v:Value}{o:Option Int}{Q:Option Int->Shared->Prop}(p:IsPart v o)(h:Q o s):wpAny (model prog w) A (Builtin.Slice.slicePartIndex v) Q E s:=by
 cases p with
 | none=>exact slicePart_none h
 | int i t=>exact slicePart_int h
def gK{sl:Addr}{c d:Value}{lo hi:Option Int}{n:Nat}{Q:Int×Int×Nat->Shared->Prop}(hs:s.heap.IsSliceOf sl c d .none)(pl:IsPart c lo)(e:IsPart d hi)
  (h:Q (((sIx n 0 lo:Nat):Int),1,sIx n n hi-sIx n 0 lo) s):wpAny (model prog w) A (Builtin.Slice.sliceApplied (.ref sl) (pure (n:Int))) Q E s:=by
 obtain⟨os,a,f,b⟩:=id hs;unfold Builtin.Slice.sliceApplied Builtin.Slice.sliceFields;refine a1X (a1X (wpAny_field a b (x:=c) rfl (a1X (wpAny_field a b (x:=d) rfl (a1X (wpAny_field a b (x:=.none) rfl (a1Y ?_)))))));refine a1X (slicePart_none ?_);show wpAny _ _ (if((1:Int)==0)=true then _ else _) _ _ s;rw[a2k (by decide)];refine a1X (vF pl (a1X (vF e (a1X (a1Y ?_)))));show wpAny _ _ (match Builtin.Slice.sliceAdjust lo hi 1 (n:Int)with | (lo,hi)=>pure (lo,(1:Int),Builtin.Slice.slicePlaces lo hi 1)) _ _ s;rw[aM7 lo hi n];show wpAny _ _ (pure (((sIx n 0 lo:Nat):Int),(1:Int),Builtin.Slice.slicePlaces ((sIx n 0 lo:Nat):Int) ((sIx n n hi:Nat):Int) 1)) _ _ s;rw[aM8];exact a1Y h
def bB4(xs:Array Value)(i k:Nat):((List.range k).filterMap λ(m:Nat)=>xs[((i:Int)+(m:Int)*1).toNat]?).toArray=((xs.toList.drop i).take k).toArray:=by
 have e:(λ(m:Nat)=>xs[((i:Int)+(m:Int)*1).toNat]?)=λm=>xs[i+m]?:=by
  funext m;have:((i:Int)+(m:Int)*1).toNat=i+m:=by lia
  rw[this]
 rw[e];have:=pick_run xs i k;rw[List.filterMap_map]at this;have a:((λx=>xs[x]?) ∘ λx=>i+x)=λm=>xs[i+m]?:=rfl;rw[a]at this;rw[this]
def getItem_tuple_cut{t sl:Addr}{items:Array Value}{g i:Value}{lo hi:Option Int}{Q:Value->Shared->Prop}(b:IsTup s.heap t items)(hs:s.heap.IsSliceOf sl g i .none)(pl:IsPart g lo)(j:IsPart i hi)
  (k:¬ (sIx items.size 0 lo=0/\sIx items.size items.size hi=items.size))
  (h:Q (.ref s.heap.objs.size) {s with heap:=s.heap.push {cls:=.type "tuple",data:=.seq ((items.toList.drop (sIx items.size 0 lo)).take (sIx items.size items.size hi-sIx items.size 0 lo)).toArray}})
  (hsz:items.size<=sizeLine):wpAny (model prog w) A (getItem (.ref t) (.ref sl)) Q E s:=by
 have a:sizeOk (.seq ((items.toList.drop (sIx items.size 0 lo)).take (sIx items.size items.size hi-sIx items.size 0 lo)).toArray):=by
  show((items.toList.drop (sIx items.size 0 lo)).take (sIx items.size items.size hi-sIx items.size 0 lo)).toArray.size<=sizeLine;rw[a4b,a4f,a0g,a0d];lia
 have hj:sIx items.size items.size hi<=items.size:=cA1 _ _ (a7a _) hi;obtain⟨os,c,d,l⟩:=id hs;have e:s.TypeIs (.ref sl) "slice":=⟨os,c,d⟩;unfold getItem
 try with_reducible refine a2m ?_
 first | refine a1X (a1Y ?_) | skip
 refine a1X (wpAny_sequenceKey b.typeIs (by decide) ?_);refine a1X (wpAny_callSpecial?_slot (name:=Str.ofString "__getitem__") b.typeIs a3e
  (a2t a3e b.typeIs entry_tuple_getitem ?_ (args_tuple_getitem _ _)))
 show wpAny _ _ (Builtin.Tuple.tupleItemsOf (.ref t) >>= _) _ _ s;refine a1X (tupleItemsOf_ b ?_);refine a1X (a2E e ?_);rw[a1Z (by decide)];refine a1X (gK hs pl j ?_);have f:¬ ((((sIx items.size 0 lo:Nat):Int)==0&&(1:Int)==1&&(sIx items.size items.size hi-sIx items.size 0 lo)==items.size)=true):=by
  intro q;rw[a7d,a7d]at q;have n:((sIx items.size 0 lo:Nat):Int)=0:=eq_of_beq q.1.1;have o:sIx items.size items.size hi-sIx items.size 0 lo=items.size:=eq_of_beq q.2;exact k ⟨by lia,by lia⟩
 show wpAny _ _ (if(((sIx items.size 0 lo:Nat):Int)==0&&(1:Int)==1&&(sIx items.size items.size hi-sIx items.size 0 lo)==items.size)=true then _ else _) _ _ s;rw[a2k f,bB4]
 first
  | exact a1X (m:=Builtin.Tuple.tupleExact _) (a2r (a1Y ⟨_,rfl,a1Y h⟩) a)
  | exact a1X (m:=Builtin.Tuple.tupleExact _) (a2r (a1X (a1Y (a1Y ⟨_,rfl,a1Y h⟩))) a)
  | exact a1X (a1X (m:=Builtin.Tuple.tupleExact _) (a2r (a1Y (a1Y ⟨_,rfl,a1Y h⟩)) a))
  | exact a1X (a1X (m:=Builtin.Tuple.tupleExact _) (a2r (a1Y ⟨_,rfl,a1Y h⟩) a))
end
end HT
namespace L2
open PySem PySem.Spec PyProof.Rows
abbrev TO:=St->Hp->(Option Int->Hp->Prop)->Prop
def PO(X:Cx)(e:Option Expr)(t:TO):Prop:=
 ∀ (pins:List (Addr×Obj)) (s:Shared) (σ:St) (H:Hp) (Q:Option Int->Hp->Prop),Inv X pins σ H s->t σ H Q ->
   wpAny (model X.prog X.w) X.A (evalPart e X.env) (λu s'=>∃ o H',Inv X pins σ H' s'/\IsPart u o/\Q o H') X.xe s
def bN0:TO:=λ_ H Q=>Q none H
def cK6(t:TE):TO:=λσ H Q=>t σ H λx a=>∃ i,x=.int i/\Q (some i) a
def vG{ns:List Int}:∀ {us:List Value},bS (ns.map V.int) us->IntsAre us ns:=by
 induction ns with
 | nil=>intro us r;rw[List.map_nil]at r;cases r;exact .nil
 | cons n ns a=>
   intro us r;rw[a2e]at r;cases r with
   | cons b c=>
     obtain⟨t,e⟩:=b;subst e;exact .cons n t (a c)
section
variable{X:Cx}{e:Expr}{te:TE}{lo hi:Option Expr}{tl th:TO}{pos p2:Pos}
def bN1:PO X none bN0:=by
 intro pins s σ H Q I h;rw[evalPart_none];exact a1Y ⟨none,H,I,.none,h⟩
def bN2(h:PE X e te):PO X (some e) (cK6 te):=by
 intro pins s σ H Q I a;rw[evalPart_some];refine thn (h pins s σ H _ I a) λu s1 Z0=>?_;obtain⟨x,b,c,d,f⟩:=Z0;obtain⟨i,rfl,q⟩:=f;obtain⟨t,rfl⟩:=d;exact⟨some i,b,c,.int i t,q⟩
def SlR(X:Cx)(r:V->Option Int->Option Int->Hp->VK->Prop):Prop:=
 ∀ (pins:List (Addr×Obj)) (s:Shared) (σ:St) (H:Hp) (x:V) (v a b:Value) (lo hi:Option Int) (sl:Addr) (Q:VK),Inv X pins σ H s->eI x v->s.heap.IsSliceOf sl a b .none->IsPart a lo->IsPart b hi->r x lo hi H Q ->
   ∃ T id,typeLookup (.type T) "__getitem__"=pure (some (.builtin id))/\s.TypeIs v T/\wpAny (model X.prog X.w) X.A (getItem v (.ref sl)) (EP X pins σ Q) X.xe s
def tSl(r:V->Option Int->Option Int->Hp->VK->Prop)(te:TE)(tl th:TO):TE:=λσ H Q=>te σ H λx a=>tl σ a λl b=>th σ b λu c=>r x l u c Q
def bB5{r:V->Option Int->Option Int->Hp->VK->Prop}(g:SlR X r)(i:PE X e te)(j:PO X lo tl)(k:PO X hi th):PE X (.Subscript e (.Slice lo hi none p2) pos) (tSl r te tl th):=by
 intro pins s σ H Q I h;refine Subscript_ (thn (i pins s σ H _ I h) λv s1 Z0=>?_);obtain⟨x,m,n,o,p⟩:=Z0;refine wpAny_Slice (thn (j pins s1 σ m _ n p) λc s2 ⟨l,t,y,pl,z⟩=>thn (k pins s2 σ t _ y z) λd a ⟨u,f,B,C,D⟩=>?_);rw[evalPart_none];refine a1Y ?_;have E:Inv X pins σ f {a with heap:=a.heap.push {cls:=.type "slice",data:=.fields #[c,d,.none]}}:=B.kept (t':=a.toks) λb ob q=>a6a _ q;obtain⟨T,id,F,G,J⟩:=g pins {a with heap:=a.heap.push {cls:=.type "slice",data:=.fields #[c,d,.none]}} σ f x v c d l u a.heap.objs.size Q E o (Heap.IsSliceOf.new ..) pl C D;show wpAny (model X.prog X.w) X.A (subscriptTail e (.Slice lo hi none p2) v (.ref a.heap.objs.size)) (EP X pins σ Q) X.xe {a with heap:=a.heap.push {cls:=.type "slice",data:=.fields #[c,d,.none]}};exact tail_any (ops:=[.ref a.heap.objs.size,v]) G F J (by with_unfolding_all rfl)
noncomputable def aB9(xs:List V)(lo hi:Option Int):List V:=(xs.drop (HT.sIx xs.length 0 lo)).take (HT.sIx xs.length xs.length hi-HT.sIx xs.length 0 lo)
def sV(xs:List V)(lo hi:Option Int):(aB9 xs lo hi).length<=xs.length:=by
 unfold aB9;rw[a4f,a0g];lia
def cR1(K:W.Frag):V->Option Int->Option Int->Hp->VK->Prop:=λx lo hi H Q=>∃ a xs,x=.ref a/\SqT K H a xs /\
 ¬ (HT.sIx xs.length 0 lo=0/\HT.sIx xs.length xs.length hi=xs.length)/\∀ p,H p=none->Q (.ref p) (upd H p (.tup (aB9 xs lo hi)))
def cA2:SlR X (cR1 X.K):=by
 intro pins s σ H x v k l lo hi sl Q I f hs pl g h;obtain⟨a,xs,rfl,i,j,q⟩:=h;cases f;obtain⟨its,r,d,e⟩:=I.tuple i;have c:its.toArray.size=xs.length:=by rw[a4b];exact r.length.symm
 refine⟨"tuple",_,a3e.lookup,d.typeIs,?_⟩;refine HT.getItem_tuple_cut d hs pl g (by rw[c];exact j) ?_ (by rw[c];exact e);rw[c];refine⟨.ref s.heap.objs.size,_,I.laid (t':=s.toks) (o:=.tup (aB9 xs lo hi)) (λb ob q=>a6a _ q) (a7a _) ?_,rfl,q _ (I.hok.fresh (a7a _))⟩;exact⟨a0b (sV xs lo hi) e,_,(r.drop (HT.sIx xs.length 0 lo)).take (HT.sIx xs.length xs.length hi-HT.sIx xs.length 0 lo),IsTup.new _ _,⟨_,a3b _ rfl,rfl⟩⟩
def cR2(K:W.Frag):R2:=λx y H Q=>∃ a b ns c,x=.ref a/\y=.ref b/\SqT K H a (ns.map V.int)/\SqT K H b (c.map V.int)/\Q (.bl (HT.lexLt ns c)) H
def cA3(d:X.A.units < cLine):OpR X (compareOp .Lt) (cR2 X.K):=by
 intro pins s σ H x y v u Q I e f h;obtain⟨a,b,ns,ms,rfl,rfl,ha,hb,q⟩:=h;cases e;cases f;obtain⟨its,g,i,_⟩:=I.tuple ha;obtain⟨c,j,p2,_⟩:=I.tuple hb;have k:IntsAre its.toArray.toList ns:=vG g;have l:IntsAre c.toArray.toList ms:=vG j;exact HT.lt_tupInts i p2 k l d ⟨.bl (HT.lexLt ns ms),H,I,rfl,q⟩
def cK7(K:W.Frag):R2:=λx y H Q=>∃ a b xs ys,x=.ref a/\y=.ref b/\SqT K H a xs/\SqT K H b ys/\xs≠[]/\xs.length+ys.length<=sizeLine /\
 (ys=[]->Q (.ref a) H)/\(ys≠[]->∀ p,H p=none->Q (.ref p) (upd H p (.tup (xs++ys))))
def bS.nil_iff{xs:List V}{us:List Value}(r:bS xs us):us=[]↔xs=[]:=by
 cases r with
 | nil=>simp
 | cons _ _=>simp
def bN3:OpR X (binaryOp .Add) (cK7 X.K):=by
 intro pins s σ H x y v u Q I g i h;obtain⟨a,b,xs,ys,rfl,rfl,ha,hb,j,e,k,l⟩:=h;cases g;cases i;obtain⟨its,d,m,_⟩:=I.tuple ha;obtain⟨f,c,p2,_⟩:=I.tuple hb;refine HT.cat_tup m p2 (λz=>j (d.nil_iff.mp z)) (λz=>⟨.ref a,H,I,rfl,k (c.nil_iff.mp z)⟩) (λz=>?_) (by rw[← d.length,← c.length];exact e);refine⟨.ref s.heap.objs.size,_,I.laid (t':=s.toks) (o:=.tup (xs++ys)) (λb ob q=>a6a _ q) (a7a _) ?_,rfl,l (λw=>z (c.nil_iff.mpr w)) _ (I.hok.fresh (a7a _))⟩;exact⟨by rw[a9a];exact e,_,d.append c,IsTup.new _ _,⟨_,a3b _ rfl,rfl⟩⟩
end
noncomputable def ixN(n:Nat)(i:Int):Option Nat:=if 0<=i then(if i < n then some i.toNat else none)else if -(n:Int)<=i then some (i+n).toNat else none
noncomputable def atI{α:Type}(xs:List α)(i:Int):Option α:=(ixN xs.length i).bind λj=>xs[j]?
def aC0{n:Nat}{i:Int}{j:Nat}(h:ixN n i=some j):seqIndex? i n=some j/\j < n /\ -(n:Int)<=i/\i < n:=by
 unfold ixN at h;by_cases h0:0<=i;rw[a1Z h0]at h;by_cases a:i < n;rw[a1Z a]at h;have e:i.toNat=j:=a5a h;exact⟨by rw[seqIndex_of h0 a,e],by lia,by lia,a⟩;rw[a2k a]at h;cases h;rw[a2k h0]at h;by_cases a:-(n:Int)<=i;rw[a1Z a]at h;have e:(i+n).toNat=j:=a5a h;exact⟨by rw[seqIndex_neg (by lia) a,e],by lia,a,by lia⟩;rw[a2k a]at h;cases h
def aC1{a:Type}{xs:List a}{i:Int}{v:a}(h:atI xs i=some v):∃ j,seqIndex? i xs.length=some j/\xs[j]? = some v/\j < xs.length /\ -(xs.length:Int)<=i/\i < xs.length:=by
 unfold atI at h;cases e:ixN xs.length i with
 | none=>rw[e]at h;cases h
 | some j=>
   rw[e]at h;obtain⟨b,c,d,f⟩:=aC0 e;exact⟨j,b,h,c,d,f⟩
def bN4{a:Type}{xs:List a}{j:Nat}{v:a}(h:xs[j]? = some v):atI xs (j:Int)=some v:=by
 have hj:j < xs.length:=(a0a.mp h).1;have e:ixN xs.length (j:Int)=some j:=by
  unfold ixN;rw[a1Z (by lia),a1Z (by lia)];simp
 unfold atI;rw[e];exact h
def aR6(b:Expr):Prop:=∀ o i,subscripted b false o i=operate [o,i] (getItem o i)
def IxR(X:Cx)(r:R2):Prop:=
 ∀ (b a:Expr) (pins:List (Addr×Obj)) (s:Shared) (σ:St) (H:Hp) (x y:V) (v u:Value) (Q:VK),Inv X pins σ H s->eI x v->eI y u->r x y H Q ->
   subscripted a false v u=operate [v,u] (getItem v u)->wpAny (model X.prog X.w) X.A (subscriptTail b a v u) (EP X pins σ Q) X.xe s
def MtR(X:Cx)(id:String)(r:V->List V->Hp->VK->Prop):Prop:=
 ∀ (pins:List (Addr×Obj)) (s:Shared) (σ:St) (H:Hp) (x:V) (xs:List V) (v:Value) (us:List Value) (Q:VK),Inv X pins σ H s->eI x v->bS xs us->r x xs H Q ->
   wpAny (model X.prog X.w) X.A (call (.builtin id) (v::us)) (EP X pins σ Q) X.xe s
section
variable{X:Cx}{a b:Expr}{ta tb:TE}{pos:Pos}
def cK8{r:R2}(c:IxR X r)(ha:PE X a ta)(hb:PE X b tb)(hs:aR6 b):PE X (.Subscript a b pos) (tOp r ta tb):=by
 intro pins s σ H Q I h;exact Subscript_ (cJ6 ha hb I h λv u s2 x y d e f g q=>c a b pins s2 σ d x y v u Q e f g q (hs _ _))
def cR3(K:W.Frag):R2:=λx y H Q=>∃ p xs i v,x=.ref p/\y=.int i/\SqL K H p xs/\atI xs i=some v/\Q v H
def cR4(K:W.Frag):R2:=λx y H Q=>∃ p xs i v,x=.ref p/\y=.int i/\SqT K H p xs/\atI xs i=some v/\Q v H
def cR5:R2:=λx y H Q=>∃ z i c,x=.str z/\y=.int i/\z.length<=sizeLine/\atI z.cps.toList i=some c/\Q (.str ⟨#[c]⟩) H
def bN5:IxR X (cR3 X.K):=by
 intro b c pins s σ H x y v u Q I f g h hs;obtain⟨p,xs,i,z,rfl,rfl,k,l,q⟩:=h;cases f;obtain⟨t,rfl⟩:=g;obtain⟨its,r,pl,B⟩:=I.list k;obtain⟨j,a,m,C,n,o⟩:=aC1 l;obtain⟨w,e,d⟩:=r.get m;have A:=r.length;have hn:=vE;have fin:EP X pins σ Q w s:=⟨z,H,I,d,q⟩;by_cases h0:0<=i
 ·have hj:i.toNat=j:=by
   rw[seqIndex_of h0 o]at a;exact a5a a
  exact item_listR pl.isList h0 (by lia) (by rw[hj];simpa using e) fin hs
 ·have hj:(i+(its.toArray.size:Int)).toNat=j:=by
   rw[seqIndex_neg (by lia) n]at a;rw[a4b,← A];exact a5a a
  exact subscriptTail_builtinR (x:=w) pl.isList.typeIs slot_list_getitem.lookup
   (wpAny_getItem_list_neg (Q:=λr s'=>r=w/\EP X pins σ Q r s') pl.isList (by lia) (by rw[a4b]<;>lia) (by lia) (by rw[hj];simpa using e) ⟨rfl,fin⟩) hs
def cA4:IxR X (cR4 X.K):=by
 intro a b pins s σ H x y v u Q I d e h hs;obtain⟨p,xs,i,z,rfl,rfl,f,g,q⟩:=h;cases d;obtain⟨t,rfl⟩:=e;obtain⟨its,r,pl,o⟩:=I.tuple f;obtain⟨j,k,l,A,B,C⟩:=aC1 g;obtain⟨w,m,c⟩:=r.get l;have n:=r.length;have hn:=vE;have fin:EP X pins σ Q w s:=⟨z,H,I,c,q⟩;exact subscriptTail_builtinR (x:=w) pl.typeIs slot_tuple_getitem.lookup
  (getItem_tuple (j:=j) (Q:=λr s'=>r=w/\EP X pins σ Q r s') pl (by lia) (by lia) (by rw[a4b,← n];exact k) (by simpa using m) ⟨rfl,fin⟩) hs
def cA5:IxR X cR5:=by
 intro a b pins s σ H x y v u Q I e f h hs;obtain⟨z,i,c,rfl,rfl,r,g,q⟩:=h;obtain⟨t,rfl⟩:=e;obtain⟨w,rfl⟩:=f;obtain⟨j,d,k,A,l,m⟩:=aC1 g;have n:z.cps.toList.length=z.length:=by simp[Str.length]
 rw[n]at d l m;have hn:=vE;exact tail_any (typeIs_str s z t) slot_str_getitem.lookup (getItem_str (c:=c) (by
  have o:decide (i < -(2 ^ 63:Int))=false:=a2o (by lia);have p:decide (i ≥ 2 ^ 63)=false:=a2o (by lia);rw[o,p,Bool.or_false]) (by rw[d];simpa using k) ⟨.str ⟨#[c]⟩,H,I.tok _,⟨_,rfl⟩,q⟩) hs
def aM9(its:List Value)(n j:Nat)(u:Value):Obj.mapSeq (·.setIfInBounds j u) {cls:=.type "list",data:=.seq its.toArray n}={cls:=.type "list",data:=.seq (its.set j u).toArray n}:=by
 simp[Obj.mapSeq]
theorem Inv.lst{pins:List (Addr×Obj)}{σ:St}{H:Hp}{s:Shared}{p:Addr}{xs:List V}(I:Inv X pins σ H s)(h:H p=some (.lst xs)) :
  ∃ (its:List Value) (n:Nat),bS xs its/\s.heap.get? p=some {cls:=.type "list",data:=.seq its.toArray n}/\xs.length<=sizeLine:=by
 obtain⟨z,its,n,r,e⟩:=I.hok p _ h;exact⟨its,n,r,e,z⟩
def Inv.lstUpd{pins:List (Addr×Obj)}{σ:St}{H:Hp}{s:Shared}{p:Addr}{xs ys:List V}{its its':List Value}{n a:Nat}{f:Obj->Obj}(I:Inv X pins σ H s)(h:H p=some (.lst xs))
  (d:s.heap.get? p=some {cls:=.type "list",data:=.seq its.toArray n}) (c:f {cls:=.type "list",data:=.seq its.toArray n}={cls:=.type "list",data:=.seq its'.toArray a}) (r:bS ys its') (hz:ys.length<=sizeLine) (t:Nat) :
  Inv X pins σ (upd H p (.lst ys)) {s with heap:=s.heap.update p f,toks:=t}:=by
 have e:(s.heap.update p f).get? p=some {cls:=.type "list",data:=.seq its'.toArray a}:=by
  rw[a0e f d (by rw[c]<;>rfl),c]
 refine I.write (x:=p) (e:=p) (by rw[h];trivial) (.inl rfl) (λb u hb q=>(a8d _ _ (a1d hb)).trans q) ⟨_,e⟩ ?_;exact⟨hz,its',a,r,e⟩
def cA6:V->V->V->Hp->(Hp->Prop)->Prop:=λo i v H Q=>∃ p xs k j,o=.ref p/\i=.int k/\H p=some (.lst xs)/\ixN xs.length k=some j/\Q (upd H p (.lst (xs.set j v)))
def wH:cO2 X cA6:=by
 intro pins s σ H o i v ov y u Q I m ri w h;obtain⟨p,xs,k,j,rfl,rfl,e,hj,q⟩:=h;cases m;obtain⟨t,rfl⟩:=ri;obtain⟨its,n,r,b,x⟩:=I.lst e;obtain⟨a,z,f,g⟩:=aC0 hj;have c:=r.length;have hn:=vE;have l:Inv X pins σ (upd H p (.lst (xs.set j v))) {s with heap:=s.heap.update p (Obj.mapSeq (·.setIfInBounds j u))}:=
  I.lstUpd e b (aM9 its n j u) (r.set w j) (by rw[a8e];exact x) s.toks
 by_cases h0:0<=k
 ·have d:k.toNat=j:=by
   rw[seqIndex_of h0 g]at a;exact a5a a
  exact W.ki_setAt b h0 (by lia) (by rw[a4b,← c];exact g) (by rw[d];exact⟨_,l,q⟩)
 ·have d:(k+(its.toArray.size:Int)).toNat=j:=by
   rw[seqIndex_neg (by lia) f]at a;rw[a4b,← c];exact a5a a
  exact W.ki_setBack b (by lia) (by rw[a4b,← c];exact f) (by lia) (by rw[d];exact⟨_,l,q⟩)
def xZ(lo hi:Option Int)(n:Nat):(sliceBounds lo hi none n).1=((HT.sIx n 0 lo:Nat):Int)/\(sliceBounds lo hi none n).2.1=((HT.sIx n n hi:Nat):Int)/\(sliceBounds lo hi none n).2.2=1:=by
 refine⟨?_,?_,rfl⟩
 ·cases lo with
  | none=>simp[sliceBounds,HT.sIx]
  | some i=>
    simp only[sliceBounds,HT.sIx,Option.getD_none,show(1:Int) > 0 by decide,if_true];by_cases h:i < 0;simp only[h,if_true]<;>lia;simp only[h,if_false]<;>lia
 ·cases hi with
  | none=>simp[sliceBounds,HT.sIx]
  | some i=>
    simp only[sliceBounds,HT.sIx,Option.getD_none,show(1:Int) > 0 by decide,if_true];by_cases h:i < 0;simp only[h,if_true]<;>lia;simp only[h,if_false]<;>lia
def wI(its:List Value)(lo hi:Option Int):slicePick its.toArray lo hi none=((its.drop (HT.sIx its.length 0 lo)).take (HT.sIx its.length its.length hi-HT.sIx its.length 0 lo)).toArray:=by
 obtain⟨a,b,c⟩:=xZ lo hi its.toArray.size;unfold slicePick;rw[a,b,c];simp only[sliceRange_one,pick_run,List.size_toArray]<;>rfl
def cR6(K:W.Frag):V->Option Int->Option Int->Hp->VK->Prop:=λx lo hi H Q=>∃ a xs,x=.ref a/\SqL K H a xs/\∀ p,H p=none->Q (.ref p) (upd H p (.lst (aB9 xs lo hi)))
def bN6:SlR X (cR6 X.K):=by
 intro pins s σ H x v j k lo hi sl Q I e hs pl f h;obtain⟨a,xs,rfl,g,q⟩:=h;cases e;obtain⟨its,r,d,i⟩:=I.list g;have c:=r.length;refine⟨"list",_,slot_list_getitem.lookup,d.isList.typeIs,?_⟩;refine wpAny_getItem_list_slice d.isList hs pl f .none (by simp) ?_ (by rw[List.size_toArray]<;>lia);rw[wI,← c];refine⟨.ref s.heap.objs.size,_,I.laid (t':=s.toks) (o:=.lst (aB9 xs lo hi)) (λb ob q=>a6a _ q) (a7a _) ?_,rfl,q _ (I.hok.fresh (a7a _))⟩;exact⟨a0b (sV xs lo hi) i,_,0,(r.drop (HT.sIx xs.length 0 lo)).take (HT.sIx xs.length xs.length hi-HT.sIx xs.length 0 lo),a3b _ rfl⟩
def mK:sR X (.builtin "len") (λxs H Q=>∃ p ys,xs=[.ref p]/\(SqL X.K H p ys\/SqT X.K H p ys)/\Q (.int ys.length) H):=by
 intro pins s σ H xs us Q I r h;obtain⟨p,ys,rfl,b,q⟩:=h;obtain⟨u,rfl,d⟩:=aB8 r;cases d;have hn:=vE;rcases b with b | b;obtain⟨its,c,pl,e⟩:=I.list b;have a:=c.length;exact Calls.call_len_list pl.isList (by simp only[List.size_toArray]<;>lia) ⟨.int ys.length,H,I.tok _,⟨s.toks+1,by rw[a4b,a]⟩,q⟩;obtain⟨its,c,pl,e⟩:=I.tuple b;have a:=c.length;exact len_tuple pl (by simp only[List.size_toArray]<;>lia) ⟨.int ys.length,H,I.tok _,⟨s.toks+1,by rw[a4b,a]⟩,q⟩
def yA:sR X (.builtin "len") (λxs H Q=>∃ z,xs=[.str z]/\z.length<=sizeLine/\Q (.int z.length) H):=by
 intro pins s σ H xs us Q I r h;obtain⟨z,rfl,a,q⟩:=h;obtain⟨u,rfl,t,rfl⟩:=aB8 r;have hn:=vE;exact len_str (by lia) ⟨.int z.length,H,I.tok _,⟨_,rfl⟩,q⟩
def mL:sR X (.type "list") (λxs H Q=>∃ p ys,xs=[.ref p]/\(SqL X.K H p ys\/SqT X.K H p ys)/\∀ l,H l=none->Q (.ref l) (upd H l (.lst ys))):=by
 intro pins s σ H xs us Q I r h;obtain⟨p,ys,rfl,d,q⟩:=h;obtain⟨u,rfl,k⟩:=aB8 r;cases k;have fin:∀ (its:List Value),bS ys its->ys.length<=sizeLine->∀ (h':Heap) (a:Nat),(∀ b o',s.heap.get? b=some o'->h'.get? b=some o') ->
   h'.get? s.heap.objs.size=some {cls:=.type "list",dict:=none,data:=.seq its.toArray a,slots:=#[]}->EP X pins σ Q (.ref s.heap.objs.size) {s with heap:=h'}:=λits c f h' a kp e=>
  ⟨.ref s.heap.objs.size,_,I.laid (t':=s.toks) kp (a7a _) (show dE X.prog X.w _ h' _ (.lst ys)from⟨f,its,a,c,e⟩),rfl,q _ (I.hok.fresh (a7a _))⟩
 rcases d with d | d;obtain⟨its,c,pl,f⟩:=I.list d;have g:=c.length;obtain⟨o,i,j,n,hd⟩:=pl.isList;exact call_list_seq p (.inl rfl) i j hd (λh' a kp e=>fin its c f h' a kp e) (by simp only[List.size_toArray]<;>lia);obtain⟨its,c,pl,f⟩:=I.tuple d;have g:=c.length;obtain⟨o,i,j,n,hd⟩:=pl;exact call_list_seq p (.inr rfl) i j hd (λh' a kp e=>fin its c f h' a kp e) (by simp only[List.size_toArray]<;>lia)
def kQ:sR X (.type "tuple") (λxs H Q=>∃ p ys,xs=[.ref p]/\((SqL X.K H p ys/\∀ l,H l=none->Q (.ref l) (upd H l (.tup ys)))\/(SqT X.K H p ys/\Q (.ref p) H))):=by
 intro pins s σ H xs us Q I r h;obtain⟨p,ys,rfl,h⟩:=h;obtain⟨u,rfl,i⟩:=aB8 r;cases i;rcases h with⟨a,q⟩ | ⟨a,q⟩
 ·obtain⟨its,c,pl,d⟩:=I.list a;have f:=c.length;refine call_tuple_list pl.isList (λh' kp=>?_) (by simp only[List.size_toArray]<;>lia);have g:Inv X pins σ H {s with heap:=h'}:=I.kept (t':=s.toks) kp;have j:Inv X pins σ (upd H h'.objs.size (.tup ys)) {s with heap:=h'.push {cls:=.type "tuple",data:=.seq its.toArray}}:=
   g.laid (t':=s.toks) (λb o e=>a6a _ e) (a7a _) (show dE X.prog X.w _ _ _ (.tup ys)from⟨d,its,c,IsTup.new _ _,⟨_,a3b _ rfl,rfl⟩⟩)
  exact⟨.ref h'.objs.size,_,j,rfl,q _ (g.hok.fresh (a7a _))⟩
 ·obtain⟨its,c,pl,d⟩:=I.tuple a;exact call_tuple_same pl ⟨.ref p,H,I,rfl,q⟩
def tyV(K:W.Frag)(T:String)(x:V)(H:Hp):Prop:=match x with
 | .str _=>T="str"
 | .int _=>T="int"
 | .ref p=>(T="list"/\∃ xs,SqL K H p xs)\/(T="tuple"/\∃ o,K.lookup p=some o/\o.cls=.type "tuple"/\o.dict=none) \/
   (T="dict"/\((∃ kvs,H p=some (.dK kvs))\/∃ kvs,H p=some (.dT kvs)))\/(T="set"/\∃ S n,H p=some (.set S n))
 | _=>False
def cA7{pins:List (Addr×Obj)}{σ:St}{H:Hp}{s:Shared}{T:String}{x:V}{v:Value}(I:Inv X pins σ H s)(r:eI x v)(ty:tyV X.K T x H) :
  s.TypeIs v T/\∀ a,v=.ref a->∃ ob,s.heap.get? a=some ob/\ob.dict=none:=by
 cases x with
 | str z=>
   obtain⟨t,rfl⟩:=r;cases (show T="str" from ty);exact⟨typeIs_str s z t,λ_ e=>nomatch e⟩
 | int i=>
   obtain⟨t,rfl⟩:=r;cases (show T="int" from ty);exact⟨typeIs_int s i t,λ_ e=>nomatch e⟩
 | ref p=>
   cases r;rcases ty with⟨rfl,xs,f⟩ | ⟨rfl,o,b,g,hd⟩ | ⟨rfl,b⟩ | ⟨rfl,S,n,b⟩;obtain⟨its,_,pl,_⟩:=I.list f;refine⟨pl.isList.typeIs,λa e=>?_⟩;cases e;obtain⟨o,n,e,c,hd,_⟩:=pl;exact⟨o,e,hd⟩;refine⟨⟨o,I.kIn p o b,g⟩,λa e=>?_⟩;cases e;exact⟨o,I.kIn _ o b,hd⟩
   ·have z:∃ o,s.heap.get? p=some o/\o.ExactDict:=by
     rcases b with⟨kvs,b⟩ | ⟨kvs,b⟩;obtain⟨_,_,_,_,o,_,_,e,ex,_⟩:=I.hok p _ b;exact⟨o,e,ex⟩;obtain⟨_,_,_,_,o,_,_,e,ex,_⟩:=I.hok p _ b;exact⟨o,e,ex⟩
    obtain⟨o,e,ex⟩:=z;refine⟨⟨o,e,ex.1⟩,λa d=>?_⟩;cases d;exact⟨o,e,ex.2.1⟩
   ·obtain⟨o,_,_,_,e,ex,_⟩:=I.hok p _ b;refine⟨⟨o,e,ex.1⟩,λa d=>?_⟩;cases d;exact⟨o,e,ex.2.1⟩
 | _=>exact False.elim ty
def tBM(K:W.Frag)(T:String)(r:V->List V->Hp->VK->Prop)(to:TE)(t:TA):TE:=λσ H Q=>to σ H λx a=>tyV K T x a/\t σ a λxs b=>r x xs b Q
variable{o e:Expr}{es:List Expr}{to:TE}{t:TA}{name:Str}{apos cpos:Pos}{T id:String}{r:V->List V->Hp->VK->Prop}
def cK9(pa:PlainAttrs T)(slot:Slot T name id)(f:typeOf (.builtin id)=pure (.type "method_descriptor"))(k:MtR X id r)(l:PE X o to)(ha:PA X (e::es) t)
  (b:attributeBase o name X.env (eval o X.env)=eval o X.env:=by rfl)
  (d:((backTo cpos (starEach (e::es) X.env)).all (λx=>!x.1)&&(backToKw cpos (keywordEach [] X.env)).all (λx=>x.1.isSome)
   && decide ((e::es).length+([]:List Keyword).length+(if([]:List Keyword).isEmpty then 0 else 1) < 30))=true:=by rfl)
  (c:(apos.endLine==cpos.line)=true:=by rfl) (hs:starEach (e::es) X.env=(false,eval e X.env)::starEach es X.env:=by rfl) (a:(backTo cpos (starEach es X.env)).any (·.1)=false:=by rfl) :
  PE X (.Call (.Attribute o name apos) (e::es) [] cpos) (tBM X.K T r to t):=by
 intro pins s σ H Q I h;refine wpAny_Call_method_late b d c rfl (thn (l pins s σ H _ I h) λv s1 Z0=>?_);obtain⟨x,m,g,i,ty,n⟩:=Z0;obtain⟨p,q⟩:=cA7 g i ty;refine⟨T,id,pa,slot,f,p,q,?_⟩;have j:=ha cpos pins s1 σ m _ g n;rw[hs]at j ⊢;refine Calls.callWith_builtin (by show(false||(backTo cpos (starEach es X.env)).any (·.1))=false;rw[a]<;>rfl) (Calls.evalArgs_plain ?_);exact thn j λus s2 ⟨vs,u,w,y,z⟩=>k pins s2 σ u x vs v us Q w i y z
end
def MtM(X:Cx)(id:String)(r:V->List V->Hp->VK->Prop):Prop:=
 ∀ (pins:List (Addr×Obj)) (s:Shared) (σ:St) (H:Hp) (x:V) (xs:List V) (v:Value) (us:List Value) (Q:VK),Inv X pins σ H s->eI x v->bS xs us->r x xs H Q ->
   wpAny (model X.prog X.w) X.A (call (.builtin id) (v::us)) (EP X pins σ Q) X.xe s
def bS.one:∀ {x:V} {us:List Value},bS [x] us->∃ u,us=[u]/\eI x u
 | _,_,.cons r .nil=>⟨_,rfl,r⟩
theorem bS.eraseIdx:∀ {xs:List V} {us:List Value} (i:Nat),bS xs us->bS (xs.eraseIdx i) (us.eraseIdx i)
 | _,_,_,.nil=>.nil
 | _,_,0,.cons _ t=>t
 | _,_,i+1,.cons r t=>.cons r (bS.eraseIdx i t)
theorem yB{a:Type}:∀ (l:List a) (i:Nat),(l.eraseIdx i).length<=l.length
 | [],_=>a7a _
 | _::_,0=>Nat.le_succ _
 | _::r,i+1=>Nat.succ_le_succ (yB r i)
section
variable{X:Cx}{pins:List (Addr×Obj)}{σ:St}{H:Hp}{s:Shared}{l b:Addr}{xs ys zs:List V}
def Inv.lset{its its':List Value}{n:Nat}{f:Array Value->Array Value}{t':Nat}(I:Inv X pins σ H s)(a:H l=some (.lst xs))
  (e:s.heap.get? l=some {cls:=.type "list",data:=.seq its.toArray n}) (b:f its.toArray=its'.toArray) (c:bS ys its') (hz:ys.length<=sizeLine) :
  Inv X pins σ (upd H l (.lst ys)) {s with heap:=s.heap.update l (Obj.mapSeq f),toks:=t'}:=by
 have q:=PySem.IsL.update e f;rw[b]at q;refine I.write (x:=l) (e:=l) (by rw[a];exact trivial) (.inl rfl) (λg u hb d=>(a8d s.heap (Obj.mapSeq f) (a1d hb)).trans d) ⟨_,q⟩ ?_;exact⟨hz,its',_,c,q⟩
def Inv.lnew{its:List Value}{t':Nat}(I:Inv X pins σ H s)(a:bS ys its)(hz:ys.length<=sizeLine) :
  Inv X pins σ (upd H s.heap.objs.size (.lst ys)) {s with heap:=s.heap.push {cls:=.type "list",data:=.seq its.toArray},toks:=t'}:=
 I.laid (λ_ _ q=>a6a _ q) (a7a _) ⟨hz,its,0,a,a3b _ rfl⟩
theorem Inv.fresh(I:Inv X pins σ H s):H s.heap.objs.size=none:=I.hok.fresh (a7a _)
def Inv.lstM(I:Inv X pins σ H s)(a:H l=some (.lst xs)):xs.length<=sizeLine/\∃ (its:List Value) (n:Nat),bS xs its/\xs.length=its.length/\s.heap.get? l=some {cls:=.type "list",data:=.seq its.toArray n}:=by
 obtain⟨z,its,n,r,e⟩:=I.hok l _ a;exact⟨z,its,n,r,r.length,e⟩
def aH4{n:Nat}(h:n<=sizeLine):Builtin.List.listTooLong n=false:=by
 unfold Builtin.List.listTooLong;exact a2o (by lia)
end
section
variable{X:Cx}
def sW:V->List V->Hp->VK->Prop:=λx vs H Q=>∃ l xs y,x=.ref l/\vs=[y]/\H l=some (.lst xs)/\xs.length < sizeLine/\Q .non (upd H l (.lst (xs++[y])))
def fR:MtM X "list.append" sW:=by
 intro pins s σ H x vs v us Q I b c h;obtain⟨l,xs,y,rfl,rfl,a,f,q⟩:=h;cases b;obtain⟨u,rfl,d⟩:=c.one;obtain⟨z,its,n,r,g,e⟩:=I.lstM a;refine a2M F.slot_list_append ⟨_,e,rfl⟩ F.entry_list_append (F.args_list_append_2 _ _) (PySem.list_append l its.toArray n u (by rw[a4b];lia)) ⟨e,?_⟩;refine⟨.non,_,I.lset (its':=its++[u]) a e (by simp) (r.append (.cons d .nil)) ?_,rfl,q⟩;rw[a9a,List.length_singleton];lia
def bN7:V->List V->Hp->VK->Prop:=λx vs H Q=>∃ l b xs zs,x=.ref l/\vs=[.ref b]/\H l=some (.lst xs)/\H b=some (.lst zs)/\xs.length+zs.length<=sizeLine/\Q .non (upd H l (.lst (xs++zs)))
def cA8:MtM X "list.extend" bN7:=by
 intro pins s σ H x vs v us Q I g i h;obtain⟨l,b,xs,t,rfl,rfl,f,j,w,q⟩:=h;cases g;obtain⟨u,rfl,k⟩:=i.one;cases k;obtain⟨z,its,n,r,y,e⟩:=I.lstM f;obtain⟨A,a,n2,m,o,p⟩:=I.lstM j;have d:its.toArray.size+a.toArray.size<=sizeLine:=by rw[a4b,a4b];lia
 have c:¬ (!its.toArray.isEmpty&&Builtin.List.listTooLong (its.toArray.size+a.toArray.size))=true:=by
  rw[aH4 d,Bool.and_false];exact a9d
 refine a2M F.slot_list_extend ⟨_,e,rfl⟩ F.entry_list_extend (F.args_list_extend_2 _ _)
  (AutoSeq1.list_extend_list_list_0 l its.toArray n b a.toArray n2 c (by rw[a4b];lia) (by lia)) ⟨e,p,?_⟩
 refine⟨.non,_,I.lset (its':=its++a) f e (by simp) (r.append m) ?_,rfl,q⟩;rw[a9a];lia
def bH3:V->List V->Hp->VK->Prop:=λx vs H Q=>∃ l xs i k y,x=.ref l/\vs=[.int i]/\H l=some (.lst xs) /\ -(2 ^ 63)<=i/\i < 2 ^ 63/\seqIndex? i xs.length=some k/\xs[k]? = some y/\Q y (upd H l (.lst (xs.eraseIdx k)))
def bB6:MtM X "list.pop" bH3:=by
 intro pins s σ H x vs v us Q I c d h;obtain⟨l,xs,i,k,y,rfl,rfl,b,f,g,j,m,q⟩:=h;cases c;obtain⟨u,rfl,o⟩:=d.one;obtain⟨t,rfl⟩:=o;obtain⟨z,its,n,r,p,e⟩:=I.lstM b;obtain⟨w,A,a⟩:=r.get m;refine a2M F.slot_list_pop ⟨_,e,rfl⟩ F.entry_list_pop (F.args_list_pop_2 _ _)
  (MeetsSeq.list_pop_at l its.toArray n i t k w (fitsIndex_both f g) (by rw[a4b,← p];exact j) (by rw[← a6b];exact A) (by rw[a4b];lia)) ⟨e,?_⟩
 refine⟨y,_,I.lset (its':=its.eraseIdx k) b e ?_ (r.eraseIdx k) ?_,a,q⟩;show its.toArray.eraseIdxIfInBounds k=(its.eraseIdx k).toArray;rw[List.eraseIdxIfInBounds_toArray];have:=yB xs k;lia
def cR7:R2:=λx y H Q=>∃ l b xs zs,x=.ref l/\y=.ref b/\H l=some (.lst xs)/\H b=some (.lst zs)/\xs.length+zs.length<=sizeLine/\∀ p,H p=none->Q (.ref p) (upd H p (.lst (xs++zs)))
def cA9:OpR X (binaryOp .Add) cR7:=by
 intro pins s σ H x y v u Q I c d h;obtain⟨l,b,xs,o,rfl,rfl,f,g,p,q⟩:=h;cases c;cases d;obtain⟨z,its,n,r,t,e⟩:=I.lstM f;obtain⟨w,a,n2,i,j,k⟩:=I.lstM g;refine PySem.P.add_list e k ?_ (by rw[a4b,a4b];lia);have m:its.toArray++a.toArray=(its++a).toArray:=by simp
 rw[m];exact⟨.ref _,_,I.lnew (t':=s.toks) (r.append i) (by rw[a9a];lia),rfl,q _ I.fresh⟩
end
section
variable{prog:Program}{w:World}{A:Around}{E:Value->Shared->Prop}{s:Shared}
set_option maxRecDepth 100000 in
end
section
variable{X:Cx}
end
end L2
namespace Att
open PySem PySem.W PySem.Calls PyProof.Rows
def sZ{P:Params}{h:Heap}:∀ (ns:List Int) (vs:List Value),WellAll P h vs (ns.map WData.int)->IntsAre vs ns:=by
 intro ns
 induction ns with
 | nil=>
   intro vs w;rw[List.map_nil]at w;cases w;exact .nil
 | cons n ns c=>
   intro vs w;rw[a2e]at w;cases w with
   | cons a b=>
     cases a;exact .cons _ _ (c _ b)
def aR7{l:OpenLaw}{n:Nat}(hn:l.most=some n){P:Params}{h:Heap}{args:List WData}{vals:List Value}
  (b:l.row.toRowW.claim.pre args=true) (i:WellAll P h vals args) :
  ∃ a vs ns,vals=[Value.ref a]/\args=[WData.list (ns.map WData.int)]/\h.get? a=some {cls:=.type "list",data:=.seq vs.toArray}/\IntsAre vs ns/\ns.length<=n:=by
 have j:WShape.hasAll [] args [.list .int]=true:=(pre_splitW b).1;have k:l.pre.holds [] {args:=args}=true:=(pre_splitW b).2;obtain⟨d,r,rfl,m,o⟩:=hasAllW_cons j;obtain rfl:=hasAllW_nil o;obtain⟨xs,rfl,p⟩:=hasW_list m;obtain⟨ns,rfl⟩:=items_int p;have c:ns.length<=n:=by
  unfold OpenLaw.pre at k;have f:(WTm.not (.lt (.lit (.int (n:Int))) (.len (.arg 0)))).holds [] {args:=[.list (ns.map .int)]}=true:=by
   have f:=(holds_andW k).1;rw[hn]at f;exact f
  have g:=condW_of f (w_not (w_lt w_lit (w_len_list (w_arg rfl))));rw[a8a]at g;refine a8i λq=>?_;have s:(n:Int) < ((ns.length:Nat):Int):=by lia
  first
   | (rw[a2q s]at g;exact absurd g (by decide))
   | (simp at g;lia)
 cases i with
 | cons t u=>
   cases u;cases t with
   | list v e=>exact⟨_,_,ns,rfl,rfl,v,sZ ns _ e,c⟩
def aR8(l:OpenLaw)(args:List WData):l.row.toRowW.claim.post args (.bool true) args=true:=
 postW_of (r:=l.row.toRowW) (X:=(true==true))
  (show WShape.has [] (.bool true) .bool=true by first | rfl | decide | simp[WShape.has,WShape.arms,WShape.armsAll])
  (show(WTm.eq .res (.lit (.bool true))).value [] {args:=args,res:=some (.bool true),after:=args}=some (.bool (true==true))from w_eq_bool (w_res rfl) w_lit) rfl
def attach_call{l:OpenLaw}{n:Nat}{q:Program}{c:List Str}{u:(Str->Option Value)->Heap->Prop}{v:World->Heap->Prop}{d:DefRec}
  (hn:l.most=some n) (m:d.params.defaults=[])
  (call:∀ (w:World) (s₀ b:Shared) (mg mb:Str->Option Value) (g:Addr) (o:Obj) (pm k doc:Value) (a:Addr) (vs:List Value) (ns:List Int),
   Ground q c [] u w s₀ mg mb b.heap->v w b.heap ->
   b.heap.get? g=some o->o.data=.func (docDef d.name d.params d.body d.scope pm k doc)->b.heap.CodeRec k d.name->mg d.name=some (.ref g) ->
   b.heap.get? a=some {cls:=.type "list",data:=.seq vs.toArray}->IntsAre vs ns->ns.length<=n->b.gens=#[] ->
   codeAny (model l.prog w) callerA (.call (.ref g) ⟨[.ref a],[]⟩) (λr s'=>r=.ok (.ret (.bool true))/\OldK b.heap s'.heap/\s'.os=b.os/\AllBare s'.gens) b) :
  WalkO q c u v l.row.toRowW d [] (λf vs=>PySem.call f vs):=by
 intro w s₀ b mg mb G Y g o pm k doc z kV A hd p x s B args vals as h y C t D;obtain rfl:z=.none:=Dflts.none x m;obtain rfl:kV=.none:=Dflts.noKw x;obtain⟨a,vs,ns,rfl,rfl,i,e,j⟩:=aR7 hn h t;refine enter_call (a2I (call w s₀ b mg mb g o pm k doc a vs ns G Y A (fd_plain hd) p s i e j B) λr s' E=>?_);obtain⟨rfl,F,H,I⟩:=E;exact⟨.inl ⟨.bool true,.bool true,[],rfl,λ_=>rfl,.bool true,aR8 l _,λ_=>⟨List.Pairwise.nil,λ_ J=>(nomatch J)⟩⟩,F,H,I⟩
section
variable{prog:Program}{w:World}{A:Around}{E:Value->Shared->Prop}{s:Shared}{K:Frag}
end
end Att
namespace L2
open PySem PySem.Spec PyProof.Rows
theorem yC:∀ {vs:List Value} {ns:List Int},IntsAre vs ns->bS (ns.map V.int) vs
 | _,_,.nil=>.nil
 | _,_,.cons n t h=>.cons ⟨t,rfl⟩ (yC h)
def cB0(H:Hp):Prop:=∀ b,H b=none\/∃ o xs,H b=some (.frz o (.lst xs))
def bB7{P:Program}{w:World}{K:W.Frag}{mg mb:Str->Option Value}{CX:CXT}{k:Nat}{G a:Addr}{fd:FuncData}{x:Str}{sp:Sp}{c:Shared}{vs:List Value}{ns:List Int}
  (R:K.In c.heap) (t:c.heap.Ns mainGlobals mg) (hb:c.heap.Ns builtinsNs mb) (I:∀ x:Str,x≠"__name__"->mb x=bootBuiltins x) (y:c.heap.NoLimit) (Z:c.gens=#[])
  (ha:c.heap.get? a=some {cls:=.type "list",data:=.seq vs.toArray}) (hi:IntsAre vs ns) (S:ns.length<=sizeLine) (hr:Room k callerA)
  (F:∀ base:Heap,K.In base->base.Ns mainGlobals mg->FnOk P w K mg base CX k G fd [x] sp) (l:∀ (s:Shared) (u:Value),BindsTo s fd ⟨[u],[]⟩ [(x,u)])
  (J:∀ H:Hp,cB0 H->SqL K H a (ns.map V.int)->sp [.ref a] H (λv _=>v=.bl true) λ_ _ _=>False)
  (L:∀ H e s',CX [] H c (λ_ _ _=>False) e s'->False) :
  codeAny (model P w) callerA (.call (.ref G) ⟨[.ref a],[]⟩) (λr s'=>r=.ok (.ret (.bool true))/\OldK c.heap s'.heap/\s'.os=c.os/\AllBare s'.gens) c:=by
 have T:=yC hi;have A:=hi.length
 -- from an abstract heap in M nothing but B g may be tracked
 have j:∀ H:Hp,cB0 H->SqL K H a (ns.map V.int)->HOk P w H c.heap->(∀ b,H b≠none->b=a)->(H a≠none->K.lookup a=none) ->
   codeAny (model P w) callerA (.call (.ref G) ⟨[.ref a],[]⟩) (λr s'=>r=.ok (.ret (.bool true))/\OldK c.heap s'.heap/\s'.os=c.os/\AllBare s'.gens) c:=by
  intro H U hS hok X hK;have f:∀ {b:Addr} {o:Obj},c.heap.get? b=some o->H b=none->(bA5 c.heap H).get? b=some o:=λe n=>bA6 e n;have N:∀ {b:Addr} {o:Obj} {es:Array DictEntry} {ep:Nat},c.heap.get? b=some o->o.data=.dict es ep->H b=none:=λ{b o es ep} e d=>by
   cases q:H b with
   | none=>rfl
   | some u=>
     have O:b=a:=X b (by rw[q];simp);subst O;rw[ha]at e;cases e;have d':Data.seq vs.toArray _=Data.dict es ep:=d;cases d'
  have i:∀ {b:Addr} {m:Str->Option Value},c.heap.Ns b m->(bA5 c.heap H).Ns b m:=λ{b m} ⟨o,es,ep,e,d,r⟩=>⟨o,es,ep,f e (N e d),d,r⟩;have C:K.In (bA5 c.heap H):=λb o e=>f (R b o e) (by
   cases q:H b with
   | none=>rfl
   | some u=>
     have O:b=a:=X b (by rw[q];simp);subst O;rw[hK (by rw[q];simp)]at e;cases e)
  have hM:Mod K mg (bA5 c.heap H):=⟨C,i t,⟨mb,i hb,I⟩,let ⟨mc,h1,h2⟩:=y;⟨mc,i h1,h2⟩⟩;have e0:Env0 P w K mg (bA5 c.heap H) callerA [] c H:=⟨rfl,hM,λb o e=>bM0 e,Nat.le_of_eq (aQ5 _ _),trivial,λb hb=>absurd (show b∈([]:List Addr)from hb) (by simp),hok,.of_eq Z⟩;refine a2I ((F _ C (i t)).run callerA [] c H ⟨[.ref a],[]⟩ [.ref a] [.ref a] _ _ hr e0 (l c (.ref a)) (.cons rfl .nil) (J H U hS)) λr s' h=>?_;cases r with
  | error e=>exact(L H e s' h).elim
  | ok fl=>
    cases fl with
    | next=>exact False.elim h
    | brk=>exact False.elim h
    | cont=>exact False.elim h
    | ret u=>
      obtain⟨v,H',os,bare,un,D,r',q⟩:=h;have q':v=.bl true:=q;subst q';obtain rfl:u=Value.bool true:=r';refine⟨rfl,OldK.of_keep λb o e=>?_,os,bare⟩;cases q:H b with
      | none=>exact un.keep b o e q (by intro z;exact absurd (show b∈([]:List Addr)from z) (by simp)) (by simp)
      | some u=>
        rcases U b with z | ⟨ob,xs,z⟩;rw[q]at z;cases z;have z2:=un.frzs b ob _ z;obtain⟨Y,_⟩:=hok b _ z;obtain⟨e2,_⟩:=D b _ z2;rw[e]at Y;cases Y;exact e2
 cases Q:K.lookup a with
 | some o=>
   -- B g is one of B p own objects
   have e:=R a o Q;rw[ha]at e;cases e;refine j (λ_=>none) (λ_=>.inl rfl) (.inr ⟨_,vs.toArray,_,Q,rfl,rfl,rfl,by rw[a4b,A];exact S,by simpa using T⟩) (λb u z=>by have E:(none:Option HO)=some u:=z;cases E) (λb z=>absurd rfl z) λz=>absurd rfl z
 | none=>
   refine j (λb=>if b=a then some (.frz {cls:=.type "list",data:=.seq vs.toArray} (.lst (ns.map V.int)))else none) (λb=>?_) (.inl (.inr ⟨{cls:=.type "list",data:=.seq vs.toArray},a1Z rfl⟩)) (λb u z=>?_) (λb z=>?_) λ_=>Q;by_cases hb:b=a;exact .inr ⟨_,_,a1Z hb⟩;exact .inl (a2k hb);by_cases hb:b=a;have E:=(a1Z hb).symm.trans z;cases E;subst hb;exact⟨ha,by rw[a8a];exact S,vs,_,T,ha⟩;have E:=(a2k hb).symm.trans z;cases E;by_cases hb:b=a;exact hb;exact absurd (a2k hb) z
def bN8{l:W.OpenLaw}{n k:Nat}{q:Program}{i:List Str}{E:(Str->Option Value)->Heap->Prop}{C:World->Heap->Prop}{d:DefRec}{K:Params->W.Frag}{CX:World->CXT}{sp:World->Sp}{x:Str}
  (hn:l.most=some n) (t:n<=sizeLine) (y:d.params.defaults=[]) (I:Room k callerA)
  (J:∀ (w:World) (h:Heap),C w h->(K w.params).In h)
  (F:∀ (w:World) (mg:Str->Option Value) (r:Addr) (h:Heap),(K w.params).In h->h.Ns mainGlobals mg->mg d.name=some (.ref r) ->
   ∃ fd:FuncData,(∀ (s:Shared) (u:Value),BindsTo s fd ⟨[u],[]⟩ [(x,u)]) /\
     ∀ base:Heap,(K w.params).In base->base.Ns mainGlobals mg->FnOk l.prog w (K w.params) mg base (CX w) k r fd [x] (sp w))
  (z:∀ (w:World) (H:Hp) (a:Addr) (ns:List Int),ns.length<=n->cB0 H->SqL (K w.params) H a (ns.map V.int)->sp w [.ref a] H (λv _=>v=.bl true) λ_ _ _=>False)
  (A:∀ (w:World) (H:Hp) (s:Shared) (e:Value) (s':Shared),CX w [] H s (λ_ _ _=>False) e s'->False) :
  W.WalkO q i E C l.row.toRowW d [] (λf vs=>PySem.call f vs):=by
 refine Att.attach_call hn y λw s₀ m mg mb r o pm Q doc a vs ns G Y R hd L B p j c M=>?_;have D:=J w _ Y;obtain⟨fd,hb,N⟩:=F w mg r _ D G.T.g B;exact bB7 D G.T.g G.T.b G.T.builtins G.T.nolimit M p j (a0b c t) I N hb (λH O P=>z w H a ns c O P) λH e s'=>A w H m e s'
noncomputable def aC2(s:Stmt):Arguments:=match s with
 | .FunctionDef _ a _ _ _ _ _ _ _ _=>a
 | _=>{posonlyargs:=[],args:=[],vararg:=none,kwonlyargs:=[],kw_defaults:=[],kwarg:=none,defaults:=[]}
noncomputable def lQ(s:Stmt):List Stmt:=match s with
 | .FunctionDef _ _ b _ _ _ _ _ _ _=>b
 | _=>[]
noncomputable def aS(s:Stmt):Scope:=match s with
 | .FunctionDef _ _ _ _ _ _ sc _ _ _=>sc
 | _=>{kind:=.function,names:=[],isGenerator:=false,isCoroutine:=false}
abbrev CX0:CXT:=λ_ _ _ _ _ _=>False
abbrev E0:XK:=λ_ _ _=>False
def aW{X:Cx}:aR3 CX0 X E0:=λ_ _ _ _ _ _ _ h=>h.elim
structure Fun(K:W.Frag)(x qual:Str)(st:Stmt)(f:Addr)(fd:FuncData):Prop where
 ex:∃ (oc:Value) (od:Option Addr) (kV doc pm:Value) (an:Option Addr) (cdv ct:Value) (osl:Array (Option Value)),
  fd=W.fnOf x qual (aC2 st) (lQ st) (aS st) .none kV doc pm an cdv ct/\K.lookup f=some ⟨oc,od,.func fd,osl⟩/\W.codeIn K cdv qual=true
 kp:W.keepIn K (.ref f)=true
section
variable{P:Program}{w:World}{K:W.Frag}{mg:Str->Option Value}{base:Heap}
theorem Fun.ok{x qual:Str}{st:Stmt}{f:Addr}{fd:FuncData}{N ps:List Str}{k:Nat}{sp:Sp}(F:Fun K x qual st f fd)(S:FnScope N ps (aS st))(len:∀ vs H Q E,sp vs H Q E->vs.length=ps.length)
  (a:∀ (cdv:Value) (A:Around) (outer:List Env) (s:Shared) (H:Hp) (vs:List V) (Q:VK) (E:XK),Room k (A.deeper (envOfC qual (aS st) s.heap.objs.size f cdv))->sp vs H Q E ->
   ∃ t,PSs (bH2 CX0 P w K mg base N qual (aS st) f cdv A outer s H E).nox (lQ st) t/\t {nx:=λ_ H'=>Q .non H',rt:=Q} (gO N vs) H):FnOk P w K mg base CX0 (k+1) f fd ps sp:=by
 obtain⟨oc,od,kV,doc,pm,an,cdv,ct,osl,rfl,lk,b⟩:=F.ex;refine cK5 lk b S len λA outer s H vs Q E d c=>?_;obtain⟨t,h,q⟩:=a cdv A outer s H vs Q E d c;exact⟨t,h.nox,q⟩
def Fun.binds{x qual:Str}{st:Stmt}{f:Addr}{fd:FuncData}{ps:List Str}(F:Fun K x qual st f fd)
  (h:∀ (kV doc pm:Value) (an:Option Addr) (cdv ct:Value) (us:List Value),us.length=ps.length->bindArgs (W.fnOf x qual (aC2 st) (lQ st) (aS st) .none kV doc pm an cdv ct) ⟨us,[]⟩=pure (ps.zip us)):fQ K fd ps []:=by
 obtain⟨oc,od,kV,doc,pm,an,cdv,ct,osl,rfl,lk,a⟩:=F.ex;exact .all (h kV doc pm an cdv ct)
end
def bN9{A:Around}{k:Nat}(a:Room k A):A.units+1 < cLine:=a8f (Nat.add_le_add_left (by decide:1<=64) _) a.units
section
variable{X:Cx}
def pv(i:Nat){x:Str}{pos:Pos}(b:X.N[i]? = some x:=by rfl)(c:Vis X.env.scope x:=by first | exact Or.inl rfl | exact Or.inr (Or.inl rfl) | exact Or.inr (Or.inr rfl))(hd:(x==("__debug__":Str))=false:=by decide)
  (a:(x==("__classdict__":Str))=false:=by decide):PE X (.Name x pos) (bA2 i):=bY4 b c hd a
end
def xN(H H':Hp):Prop:=∀ b o,H b=some o->H' b=some o
def xN.refl(H:Hp):xN H H:=λ_ _ h=>h
def aN0{scope:Scope}{env:Env}(h:∀ y∈scope.names,y.2=.free->∃ c,env.cells.lookup y.1=some c) :
  ∃ b:List (Str×Addr),closureFor scope env=pure b/\(∀ x c,b.lookup x=some c->env.cells.lookup x=some c)/\∀ y∈scope.names,y.2=.free->∃ c,b.lookup y.1=some c:=by
 have q:∀ (l:List (Str×NameKind)) (acc:List (Str×Addr)),(∀ y∈l,y.2=.free->∃ c,env.cells.lookup y.1=some c)->(∀ x c,acc.lookup x=some c->env.cells.lookup x=some c) ->
   ∃ b:List (Str×Addr),((forIn l acc λ(x:Str×NameKind) (r:List (Str×Addr))=>if(x.2==NameKind.free)=true then do let a ← cellOf env x.1;pure (ForInStep.yield ((x.1,a)::r))else pure (ForInStep.yield r)):Sem (List (Str×Addr)))=pure b /\
     (∀ x c,b.lookup x=some c->env.cells.lookup x=some c)/\(∀ x c,acc.lookup x=some c->∃ d,b.lookup x=some d)/\∀ y∈l,y.2=.free->∃ c,b.lookup y.1=some c:=by
  intro l
  induction l with
  | nil=>intro acc _ ha;exact⟨acc,rfl,ha,λx c e=>⟨c,e⟩,λ_ f=>nomatch f⟩
  | cons y r u=>
    intro acc s ha;obtain⟨n,k⟩:=y;rw[List.forIn_cons];by_cases j:(k==NameKind.free)=true
    ·have t:k=.free:=by simpa using j
     obtain⟨c,v⟩:=s (n,k) a3a t;have w:cellOf env n=pure c:=by unfold cellOf;rw[v]
     obtain⟨b,e,g,m,i⟩:=u ((n,c)::acc) (λy f=>s y (a4a _ f)) (λx d e=>by
      rw[a2i]at e;split at e
      ·rename_i o;have:x=n:=by simpa using o
       cases e;rw[this];exact v
      ·exact ha x d e)
     have has:∃ d,b.lookup n=some d:=m n c (by rw[a2i];simp);refine⟨b,?_,g,λx d e=>?_,λy f p=>?_⟩;simp only[j,if_true,w];exact e
     ·by_cases o:x=n;subst o;exact has;exact m x d (by rw[a2i];have:(x==n)=false:=by simpa using o
                                                       rw[this];exact e)
     ·rcases a9b.mp f with rfl | f;exact has;exact i y f p
    ·obtain⟨b,e,g,m,i⟩:=u acc (λy f=>s y (a4a _ f)) ha;refine⟨b,?_,g,m,λy f p=>?_⟩;simp only[j];exact e;rcases a9b.mp f with rfl | f;exact absurd (by simpa using p) j;exact i y f p
 obtain⟨b,e,g,_,i⟩:=q scope.names [] h (λx c e=>nomatch e);refine⟨b,?_,g,i⟩;unfold closureFor;simp only[bind_pure];exact e
def gU{a:Type}{x n:Str}{v:a}{r:List (Str×a)}(h:(x==n)=true):List.lookup x ((n,v)::r)=some v:=by rw[a2i,h]
def dH{a:Type}{x n:Str}{v:a}{r:List (Str×a)}(h:(x==n)=false):List.lookup x ((n,v)::r)=List.lookup x r:=by rw[a2i,h]
def bH4{scope:Scope}{env:Env}{x:Str}(h:(relabel scope env).names.lookup x=some .cell\/(relabel scope env).names.lookup x=some .free)(d:∀ y∈scope.names,y.2≠.cell) :
  (x,NameKind.free)∈scope.names:=by
 unfold relabel at h;dsimp only at h;revert h d;generalize scope.names=l;intro h d
 induction l with
 | nil=>rcases h with h | h<;>cases h
 | cons y r i=>
   obtain⟨n,k⟩:=y;rw[a2e]at h;dsimp only at h;have c:=λh=>i h λy j=>d y (a4a _ j);have f:k≠.cell:=d (n,k) a3a;by_cases e:(k==NameKind.free&&env.scope.kind==.function&&env.kindOf n==some .cell)=true
   ·have g:k=.free:=by
     simp only[Bool.and_eq_true,beq_iff_eq]at e;exact e.1.1
    rw[a1Z e]at h;cases b:x==n with
    | true=>
      have a:x=n:=by simpa using b
      subst a g;exact a3a
    | false=>
      rw[dH b]at h;exact a4a _ (c h)
   ·rw[a2k e]at h;cases b:x==n with
    | true=>
      have a:x=n:=by simpa using b
      rw[gU b]at h;subst a;rcases h with h | h;exact absurd (a5a h) f
      ·rw[a5a h];exact a3a
    | false=>
      rw[dH b]at h;exact a4a _ (c h)
def kR{scope:Scope}{env:Env}{x:Str}(h:(relabel scope env).names.lookup x=some .cell\/(relabel scope env).names.lookup x=some .free) :
  (x,NameKind.free)∈scope.names\/scope.names.lookup x=some .cell:=by
 unfold relabel at h;dsimp only at h;revert h;generalize scope.names=l;intro h
 induction l with
 | nil=>rcases h with h | h<;>cases h
 | cons y r e=>
   obtain⟨n,k⟩:=y;rw[a2e]at h;dsimp only at h;by_cases c:(k==NameKind.free&&env.scope.kind==.function&&env.kindOf n==some .cell)=true
   ·have d:k=.free:=by
     simp only[Bool.and_eq_true,beq_iff_eq]at c;exact c.1.1
    rw[a1Z c]at h;cases a:x==n with
    | true=>
      have b:x=n:=by simpa using a
      subst b d;exact .inl a3a
    | false=>
      rw[dH a]at h;rcases e h with z | z;exact .inl (a4a _ z)
      ·exact .inr (by rw[dH a];exact z)
   ·rw[a2k c]at h;cases a:x==n with
    | true=>
      have b:x=n:=by simpa using a
      rw[gU a]at h;subst b;rcases h with h | h;exact .inr (by rw[gU a];exact h)
      ·rw[a5a h];exact .inl a3a
    | false=>
      rw[dH a]at h;rcases e h with z | z;exact .inl (a4a _ z);exact .inr (by rw[dH a];exact z)
theorem cB:∀ (names:List (Str×NameKind)) (n:Nat) (acc:List (Str×Addr)),cellsFrom n names acc=cellsFrom n names []++acc
 | [],n,acc=>rfl
 | (x,k)::r,n,acc=>by
   unfold cellsFrom;split;rw[cB r (n+1) ((x,n)::acc),cB r (n+1) [(x,n)],List.append_assoc];rfl;exact cB r n acc
theorem gB:∀ (names:List (Str×NameKind)) (n:Nat) (x:Str) (c:Addr),(x,c)∈cellsFrom n names []->(x,NameKind.cell)∈names
 | [],n,x,c,h=>nomatch h
 | (y,k)::r,n,x,c,h=>by
   unfold cellsFrom at h;split at h
   ·rename_i b;have a:k=.cell:=by simpa using b
    rw[cB]at h;rcases a1c.mp h with z | z;exact a4a _ (gB r _ x c z);have e:=a7b.mp z;cases e;rw[a];exact a3a
   ·exact a4a _ (gB r _ x c h)
theorem cR:∀ (names:List (Str×NameKind)) (n:Nat) (x:Str),(x,NameKind.cell)∈names->∃ c,(cellsFrom n names []).lookup x=some c
 | [],n,x,h=>nomatch h
 | (y,k)::r,n,x,h=>by
   have a:∀ m,(x,NameKind.cell)∈r->∃ c,(cellsFrom m r []).lookup x=some c:=λm d=>cR r m x d;unfold cellsFrom;split
   ·rename_i b;rw[cB,List.lookup_append];rcases a9b.mp h with z | z
    ·cases z;cases e:(cellsFrom (n+1) r []).lookup y with
     | some c=>exact⟨c,rfl⟩
     | none=>exact⟨n,by simp⟩
    ·obtain⟨c,f⟩:=a (n+1) z;exact⟨c,by rw[f];rfl⟩
   ·rename_i b;rcases a9b.mp h with z | z;cases z;exact absurd rfl b;exact a n z
def bO0{M:Model}{A:Around}{E:Value->Shared->Prop}{s:Shared}{scope:Scope}{globals:Addr}{b:List (Str×Addr)}{qual:Str}{env:Env}{Q:Env->Shared->Prop}
  (d:Q (newEnv scope s.heap.objs.size globals (cellsFrom (s.heap.objs.size+1) scope.names b) qual none .none (some env) builtinsNs) {s with heap:=pushCells (s.heap.push {cls:=.type "dict",data:=.dict #[]}) scope.names}) :
  wpAny M A (newFunctionEnv scope globals b [] qual none .none (some env)) Q E s:=by
 simp only[newFunctionEnv,Option.isSome_some,if_true];refine a1X (wpAny_alloc ?_);refine a1X (wpAny_layCells _ (λc kind cells=>by cases a:kind==NameKind.cell<;>simp[a]) _ _ _ _ ?_);rw[show({s with heap:=s.heap.push {cls:=.type "dict",data:=.dict #[]}}:Shared).heap.objs.size=s.heap.objs.size+1 from a7i ..];refine a1X ?_;rw[List.forIn_nil];exact a1Y (a1Y d)
def wJ{scope:Scope}{env:Env}{x:Str}(h:(relabel scope env).names.lookup x=some .local):scope.names.lookup x=some .local:=by
 unfold relabel at h;dsimp only at h;revert h;generalize scope.names=l;intro h
 induction l with
 | nil=>cases h
 | cons y r b=>
   obtain⟨n,k⟩:=y;rw[a2e]at h;dsimp only at h;by_cases c:(k==NameKind.free&&env.scope.kind==.function&&env.kindOf n==some .cell)=true
   ·rw[a1Z c]at h;cases a:x==n with
    | true=>rw[gU a]at h;cases h
    | false=>rw[dH a]at h ⊢;exact b h
   ·rw[a2k c]at h;cases a:x==n with
    | true=>rw[gU a]at h ⊢;exact h
    | false=>rw[dH a]at h ⊢;exact b h
def Inv.adopt{X:Cx}{pins:List (Addr×Obj)}{σ:St}{H:Hp}{s:Shared}{a:Addr}{o:HO}(I:Inv X pins σ H s)(hn:H a=none)(g:X.s₀.heap.objs.size<=a)(h:a≠X.env.locals)
  (i:∀ x c,X.env.cells.lookup x=some c->c≠a) (j:∀ p∈X.pn++pins,p.1≠a) (d:dE X.prog X.w (upd H a o) s.heap a o):Inv X pins σ (upd H a o) s:=by
 have ne:∀ b u,H b=some u->b≠a:=λb u e=>cX e hn;refine⟨I.ok,I.os,I.bare,⟨I.base.keep,I.base.slot,λb ob q n k=>?_,I.base.there,λb xs q=>?_,λb ob u q=>?_,λb ps q=>?_⟩,I.loc,I.cell,?_,λx c e=>?_,λp f=>?_,λb u e=>?_,I.len⟩;rw[aL (a2d (a0c (a5b q) g))];exact I.base.free b ob q n k;have:=I.base.tups b xs q;rw[aL (ne b _ this)];exact this;have:=I.base.frzs b ob u q;rw[aL (ne b _ this)];exact this;obtain⟨m,this⟩:=I.base.tbls b ps q;exact⟨m,by rw[aL (ne b _ this)];exact this⟩;rw[aL (a1d h)];exact I.free;rw[aL (i x c e)];exact I.freeC x c e;obtain⟨e,n,r⟩:=I.pin p f;exact⟨e,by rw[aL (j p f)];exact n,r⟩;by_cases hb:b=a;subst hb;rw[aO]at e;cases e;exact d;rw[aL hb]at e;exact(I.hok b u e).stay (λc v _ q=>q) (λc q=>by rw[aL (ne c _ q)];exact q) λc xs q=>by rw[aL (ne c _ q)];exact q
def aC3{prog:Program}{w:World}{A:Around}{R:Result->Shared->Prop}{s:Shared}{elt a iter:Expr}{l:List Expr}{scope:Scope}{pos:Pos}{it acc:Value}{env:Env}(I:Nat->Shared->Prop)
  (turn:∀ n s,I n s->wpAny (model prog w) A (pyNext it) (λr e=>match r with
   | none=>R (.ok .next) e
   | some v=>wpAny (model prog w) A (letOwnedTupleGo a it v) (λ_ f=>wpAny (model prog w) A (assign a env v) (λ_ i=>
     wpAny (model prog w) A (forIn l true λc r=>if r=true then do let ok ← isTrue c env (eval c env);pure (ForInStep.yield ok)else pure (ForInStep.yield r)) (λok g=>
      if ok=true then wpAny (model prog w) A (eval elt env) (λx j=>
       wpAny (model prog w) A (call (.builtin "list.append") [acc,x]) (λ_ k=>∃ m,m < n/\I m k) (λ_ _=>False) j) (λ_ _=>False) g
      else ∃ m,m < n/\I m g) (λ_ _=>False) i) (λ_ _=>False) f) (λ_ _=>False) e) (λ_ _=>False) s)
  (n:Nat) (h:I n s) :
  codeAny (model prog w) A (.compLoop (.ListComp elt [⟨a,iter,l,0⟩] scope pos) 0 it acc env) R s:=by
 refine codeAny_loop rfl I (λn s t=>?_) n h;show wpAny _ A ((compTurn (.ListComp elt [⟨a,iter,l,0⟩] scope pos) 0 it acc env).onRaise (λx=>do noteFrame x env;theTreesLotGoes x)) _ _ s;refine wpAny_noted ?_;rw[compTurn_list];refine a1X (a2G (a1X (a2u (turn n s t) (λr e d=>?_) λ_ _ h'=>h'.elim)));cases r with
 | none=>exact a1Y d
 | some v=>
   refine a1X (a2u d (λ_ f d=>?_) λ_ _ h'=>h'.elim);refine a1X (a2u d (λ_ i o=>a1X (a2u o (λok g b=>?_) λ_ _ h'=>h'.elim)) λ_ _ h'=>h'.elim);cases ok with
   | true=>
     simp only[if_true]at b ⊢;refine a1X (a1X (a2u b (λx j p=>a1X (a2u p (λ_ k q=>a1Y (a1Y ⟨rfl,q⟩)) λ_ _ h'=>h'.elim)) λ_ _ h'=>h'.elim))
   | false=>
     simp only[Bool.false_eq_true,if_false]at b ⊢
     first
      | exact a1X (a1Y (a1Y ⟨rfl,b⟩))
      | exact a1Y ⟨rfl,b⟩
noncomputable abbrev cxC(X:Cx)(scope:Scope)(a:List (Str×Addr))(ex:List Addr)(s:Shared)(H:Hp):Cx:=
 {X with s₀:=s,H₀:=H,env:=compEnvC scope a s.heap.objs.size X.env,outer:=X.stack,ex:=ex,fn:=λx=>scope.names.lookup x==some .cell,xe:=λ_ _=>False}
noncomputable def blank(own:List Nat)(σ:St):St:=own.foldl (λσ i=>σ.set i none) σ
theorem mM:∀ (own:List Nat) (σ:St),(blank own σ).length=σ.length
 | [],_=>rfl
 | i::r,σ=>(mM r (σ.set i none)).trans (by simp)
theorem lS:∀ (own:List Nat) (σ:St) (i:Nat) (v:V),(blank own σ)[i]? = some (some v)->i∉own/\σ[i]? = some (some v)
 | [],_,_,_,h=>⟨by simp,h⟩
 | j::r,σ,i,v,h=>by
   obtain⟨b,a⟩:=lS r (σ.set j none) i v h;by_cases e:i=j;subst e;rw[List.getElem?_set]at a;simp at a;rw[a2a (a1d e)]at a;exact⟨by simp[e,b],a⟩
def cB1(own:List Nat)(g:TG):Prop:=∀ x σ H Q,g x σ H Q->g x σ H λσ' H'=>Q σ' H'/\σ'.length=σ.length/\∀ i,i∉own->σ'[i]? = σ[i]?
def bV{own:List Nat}{i:Nat}(h:i∈own):cB1 own (uP i):=λx σ H Q q=>
 ⟨q,by simp,λj hj=>List.getElem?_set_ne (λe:i=j=>hj (by rw[← e];exact h))⟩
def bH5(X:Cx)(a:List Expr)(t:TT):Prop:=
 ∀ (pins:List (Addr×Obj)) (s:Shared) (σ:St) (H:Hp) (Q:Bool->Hp->Prop),Inv X pins σ H s->t σ H Q ->
   wpAny (model X.prog X.w) X.A (forIn a true λc r=>if r=true then do let ok ← isTrue c X.env (eval c X.env);pure (ForInStep.yield ok)else pure (ForInStep.yield r)) (TP X pins σ Q) X.xe s
def cL0:TT:=λ_ H Q=>Q true H
def bB8{X:Cx}:bH5 X [] cL0:=λ_ _ _ H _ I h=>wpAny_tests_nil ⟨H,I,h⟩
def bB9{X:Cx}{c:Expr}{t:TT}(h:PT X c t):bH5 X [c] t:=λpins s σ H Q I q=>wpAny_tests_one (h pins s σ H Q I q)
structure CompScope(X:Cx)(scope:Scope)(own:List Nat):Prop where
 kind:scope.kind=.function
 cells:∀ y∈scope.names,y.2=.cell->scope.names.lookup y.1=some .cell
 names:∀ y∈scope.names,y.2=.local->scope.names.lookup y.1=some .local
 free:∀ y∈scope.names,y.2=.free->X.env.kindOf y.1=some .cell\/X.env.kindOf y.1=some .free
 own:∀ i x,X.N[i]? = some x->(scope.names.lookup x=some .local\/scope.names.lookup x=some .cell)->i∈own
 calm:X.calm=true
def bH6(own:List Nat)(d:TI)(g:TG)(e:TT)(f:TE)(σ:St)(H:Hp)(F:List V->Hp->Prop):Prop:=
 d σ H λJ h=>∃ W:Nat->Nat->List V->Hp->Prop,(∃ m,W 0 m [] h)/\∀ i m ys H,W i m ys H->ys.length<=sizeLine /\
  ((J.stop i H/\F ys H)\/(J.go i H/\∀ x H',J.yld i H x H'->g x (blank own σ) H' λa j=>e a j λb c=>
    if b=true then f a c λv k=>∃ m',m' < m/\W (i+1) m' (ys++[v]) k else ∃ m',m' < m/\W (i+1) m' ys c))
def aR9(own:List Nat)(a:TI)(g:TG)(b:TT)(c:TE):TE:=λσ H Q=>bH6 own a g b c σ H λys H'=>∀ p,H' p=none->Q (.ref p) (upd H' p (.lst ys))
structure Stray(X:Cx)(pins:List (Addr×Obj))(H:Hp)(b:Addr):Prop where
 un:H b=none
 loc:b≠X.env.locals
 young:X.s₀.heap.objs.size<=b
 cell:∀ x c,X.env.cells.lookup x=some c->c≠b
 pin:∀ p∈X.pn++pins,p.1≠b
def Inv.stray{X:Cx}{pins:List (Addr×Obj)}{σ:St}{H H':Hp}{s:Shared}{b:Addr}(I:Inv X pins σ H s)(hb:s.heap.objs.size<=b)(hn:H' b=none):Stray X pins H' b:=by
 obtain⟨a,c,f,g,d,e⟩:=I.fpOk hb hn;exact⟨a,c,a0b I.sz hb,d,e⟩
set_option maxHeartbeats 8000000 in
def aN1{X:Cx}{tg iter elt:Expr}{ifs:List Expr}{scope:Scope}{pos:Pos}{own:List Nat}{g:TG}{tt:TT}{te:TE}{use:Option (Value->Sem Unit)}{Qf:Value->Shared->Prop}
  (S:CompScope X scope own) (hg:∀ h ex s H,PG (cxC X scope h ex s H) tg g) (hG:cB1 own g)
  (ht:∀ h ex s H,bH5 (cxC X scope h ex s H) ifs tt) (he:∀ h ex s H,PE (cxC X scope h ex s H) elt te)
  {pins:List (Addr×Obj)} {a:Shared} {σ:St} {l:Hp} {F:List V->Hp->Prop} {h:List (Str×Addr)} {J:It} {fp:List Addr} {it D:Addr} {tn:Nat->Heap->Prop} {h₁:Heap} {mC:Str->Option Value} {tk m0:Nat} {W:Nat->Nat->List V->Hp->Prop}
  (t:Inv X pins σ l a) (T:Turn X.prog X.w X.K tg J fp it tn) (N:∀ x c,h.lookup x=some c->(X.env.cells.lookup x=some c/\scope.names.lookup x≠some .cell)\/(a.heap.objs.size < c/\scope.names.lookup x=some .cell/\h₁.IsCell c none)) (cl2:∀ y∈scope.names,y.2=.free\/y.2=.cell->∃ c,h.lookup y.1=some c)
  (cl3:∀ x y c,h.lookup x=some c->h.lookup y=some c->x=y)
  (Q:∀ b∈fp,bA9 X pins l b) (M:∀ b∈fp,b < D) (E:D < a.heap.objs.size) (G:∀ b,b∈frs X.stack->b < D) (hbase:∀ b o,X.base.get? b=some o->b < D) (f:Stray X pins l D)
  (hD3:a.heap.get? D=some {cls:=.type "list",data:=.seq ([]:List Value).toArray}) (st3:tn 0 a.heap) (R:h₁.Ns a.heap.objs.size mC) (B:∀ b o,a.heap.get? b=some o->h₁.get? b=some o)
  (w0:W 0 m0 [] l) (turn:∀ i m ys H,W i m ys H->ys.length<=sizeLine /\
  ((J.stop i H/\F ys H)\/(J.go i H/\∀ x H',J.yld i H x H'->g x (blank own σ) H' λσ2 l=>tt σ2 l λb H3=>
    if b=true then te σ2 H3 λv P=>∃ m',m' < m/\W (i+1) m' (ys++[v]) P else ∃ m',m' < m/\W (i+1) m' ys H3)))
  (fin:∀ D C ys H' s' m,Inv X pins σ (upd H' D (.lst ys)) s'->H' D=none->s'.heap.Ns C m->Stray X pins (upd H' D (.lst ys)) C->F ys H' ->
   compPost (model X.prog X.w) X.A X.xe use Qf (.ref D) C (.ok .next) s') :
  codeAny (model X.prog X.w) X.A (.compLoop (.ListComp elt [⟨tg,iter,ifs,0⟩] scope pos) 0 (.ref it) (.ref D) (compEnvC scope h a.heap.objs.size X.env))
   (compPost (model X.prog X.w) X.A X.xe use Qf (.ref D) a.heap.objs.size) {a with heap:=h₁,toks:=tk}:=by
 have cneD:∀ x c,h.lookup x=some c->c≠D:=λx c q=>by
  rcases N x c q with z | z;exact f.cell x c z.1;exact(a2d (a4g E z.1)).symm
 have cneF:∀ b∈fp,∀ x c,h.lookup x=some c->c≠b:=λb hb x c q=>by
  rcases N x c q with z | z;exact(Q b hb).2.2.2.2.1 x c z.1;exact(a2d (a4g (a4g (M b hb) E) z.1)).symm
 have okY:(cxC X scope h (D::fp) a l).Ok:=by
  refine⟨t.ok.mod,S.kind,t.ok.glob,t.ok.blt,a7a _,cl3,λx hk=>?_,λx c hf q=>?_,t.ok.hd,t.ok.frames,.inl rfl,λb hb=>?_,λb o q=>?_,?_,λb o q hb=>?_,λb hb U=>?_,t.stack,t.stkFree⟩;rcases kR hk with z | z;exact cl2 _ z (.inl rfl);exact cl2 _ (mem_of_lookup z) (.inr rfl)
  ·rcases N x c q with z | z
   ·have hf':scope.names.lookup x=some .cell:=by simpa using hf
    exact absurd hf' z.2
   ·exact a3g z.1
  ·constructor;show b≠a.heap.objs.size;rcases a9b.mp hb with z | z;rw[z];exact a2d E;exact a2d (a4g (M b z) E);intro x c q;rcases a9b.mp hb with z | z;rw[z];exact cneD x c q;exact cneF b z x c q
  ·exact t.bs b o q
  ·exact a0b t.ok.bsz t.sz
  ·rcases a9b.mp hb with z | z;have:=hbase b o q;rw[z]at this;exact a2f _ this;rcases(Q b z).2.2.2.1 with y | y;exact t.ok.noex b o q y;exact a2f _ (a0c (a5b q) (a0b t.ok.bsz y))
  ·rcases a9b.mp hb with z | z;have:=G b U;rw[z]at this;exact a2f _ this;rcases a9b.mp (t.stkSub b U)with y | y;exact(Q b z).2.1 y;exact(Q b z).2.2.1 y
 have IY:Inv (cxC X scope h (D::fp) a l) pins (blank own σ) l {a with heap:=h₁,toks:=tk}:=by
  refine⟨okY,rfl,t.bare,Un.kept B,⟨_,R,λi x v e1 e2 e3=>?_⟩,λx c q=>?_,t.hok.fresh (a7a _),λx c q=>by
   rcases N x c q with z | z;exact t.freeC x c z.1;exact t.hok.fresh (a3g z.1),λp hp=>?_,t.hok.kept B,(mM own σ).trans t.len⟩
  ·obtain⟨hno,e2'⟩:=lS own σ i v e2;have hnl:¬ (relabel scope X.env).names.lookup x=some .local:=λz=>hno (S.own i x e1 (.inl (wJ z)));have hnc:¬ scope.names.lookup x=some .cell:=λz=>hno (S.own i x e1 (.inr z));have hcf:(relabel scope X.env).names.lookup x=some .cell\/(relabel scope X.env).names.lookup x=some .free:=by
    rcases e3 with z | z | z;exact absurd z hnl;exact .inl z;exact .inr z
   have hmem:=(kR hcf).resolve_right hnc;have Y:=S.free _ hmem rfl;obtain⟨m,hm,hl⟩:=t.loc;obtain⟨u,r,lk⟩:=hl i x v e1 e2' (by rcases Y with z | z;exact .inr (.inl z);exact .inr (.inr z));obtain⟨c,hc⟩:=cl2 _ hmem (.inl rfl);refine⟨u,r,.inr ⟨hcf,c,hc,?_⟩⟩;rcases lk with⟨z,_⟩ | ⟨_,c',hc',ic⟩;dsimp only at Y;rw[z]at Y;rcases Y with y | y<;>cases y;have:=((N _ c hc).resolve_right λz=>hnc z.2.1).1;dsimp only at this;rw[hc']at this;cases this;obtain⟨o,ho,hd⟩:=ic;exact⟨o,B _ _ ho,hd⟩
  ·rcases N x c q with z | z;obtain⟨v,o,ho,hd⟩:=t.cell x c z.1;exact⟨v,o,B _ _ ho,hd⟩;exact⟨_,z.2.2⟩
  ·obtain⟨q,n,ne,nf,d⟩:=t.pin p hp;refine⟨B _ _ q,n,a2d (a5b q),λhb=>?_,d⟩;rcases a9b.mp (t.stkSub _ hb)with y | y;exact ne y;exact nf y
 have DY:D≠a.heap.objs.size:=a2d E;have statY:∀ {H':Hp},(∀ b∈fp,H' b=none)->∀ b∈fp,bA9 (cxC X scope h (D::fp) a l) pins H' b:=λhn b hb=>by
  refine⟨hn b hb,?_,?_,.inl (a4a _ hb),cneF b hb,(Q b hb).2.2.2.2.2⟩;show b≠a.heap.objs.size;exact a2d (a4g (M b hb) E);intro U;rcases a9b.mp (t.stkSub b U)with y | y;exact(Q b hb).2.1 y;exact(Q b hb).2.2.1 y
 have hDfp:D∉fp:=λz=>a2f _ (M D z);have hDstk:D∉frs X.stack:=λz=>a2f _ (G D z);have I:∀ {H':Hp} {o:Obj},(∀ b∈fp,H' b=none)->∀ b∈fp,bA9 (cxC X scope h (D::fp) a l) (pins++[(D,o)]) H' b:=λ{H' o} fr b hb=>by
  obtain⟨a1,a2,a3,a4,a5,a6⟩:=statY fr b hb;refine⟨a1,a2,a3,a4,a5,λp hp z=>?_⟩;rcases a1c.mp hp with y | y;exact a6 p (a5h _ y) z;rcases a1c.mp y with y | y;exact a6 p (a3c _ y) z;have e:p=(D,o):=a7b.mp y;rw[e]at z;have z':D=b:=z;exact hDfp (by rw[z'];exact hb)
 have pin2:∀ {H':Hp} {s':Shared} {its:Array Value} {k:Nat},Inv (cxC X scope h (D::fp) a l) pins (blank own σ) H' s'->H' D=none->s'.heap.get? D=some {cls:=.type "list",data:=.seq its k} ->
   Inv (cxC X scope h (D::fp) a l) (pins++[(D,{cls:=.type "list",data:=.seq its k})]) (blank own σ) H' s':=λ{H' s' its k} I4 D4 o4=>I4.pins_of λp hp=>by
  rcases a1c.mp hp with z | z;exact I4.pin p (a3c _ z);have e:p=(D,{cls:=.type "list",data:=.seq its k}):=a7b.mp z;subst e;exact⟨o4,D4,DY,hDstk,λv z=>by cases z⟩
 refine aC3 (λn s'=>∃ i ys H' its k,Inv (cxC X scope h (D::fp) a l) pins (blank own σ) H' s'/\tn i s'.heap/\(∀ b∈fp,H' b=none)/\H' D=none /\
  s'.heap.get? D=some {cls:=.type "list",data:=.seq its k}/\bS ys its.toList/\W i n ys H') ?_ m0
  ⟨0,[],l,#[],_,IY,T.keep _ _ _ st3 λb hb o q=>B b o q,λb hb=>(Q b hb).1,f.un,B _ _ hD3,.nil,w0⟩
 rintro n s4 ⟨i,ys,P,its,k,I4,st4,fr4,D4,o4,v4,w4⟩;obtain⟨hz,step⟩:=turn i n ys P w4;rcases step with⟨stop,qn⟩ | ⟨go,step⟩
 ·refine thn (T.done (cxC X scope h (D::fp) a l) rfl rfl rfl S.calm i _ s4 (blank own σ) P (λ_ _=>False) (pin2 I4 D4 o4) (I fr4) st4 stop) λr s5 Z0=>?_;obtain⟨hr,I5⟩:=Z0;subst hr;have oD:s5.heap.get? D=some {cls:=.type "list",data:=.seq its k}:=(I5.pin (D,_) (a3c _ (a3c _ a3a))).1;have O:Inv (cxC X scope h (D::fp) a l) pins (blank own σ) P s5:=I5.unpinned;have IX:Inv X pins σ P s5:=by
   refine t.call' (ch:=D::fp) O.os O.base O.hok O.bare λb hb=>?_;rcases a9b.mp hb with z | z;rw[z];exact⟨.inr f.young,f.loc,f.cell,f.pin⟩;obtain⟨a1,a2,a3,a4,a5,a6⟩:=Q b z;exact⟨a4,a2,a5,a6⟩
  obtain⟨m5,hm5,_⟩:=O.loc;have nC:P a.heap.objs.size=none:=O.free;have IX':Inv X pins σ (upd P D (.lst ys)) s5:=by
   refine IX.adopt D4 f.young f.loc f.cell f.pin ⟨hz,its.toList,k,v4,?_⟩;rw[oD]
  have strC:Stray X pins (upd P D (.lst ys)) a.heap.objs.size:=t.stray (a7a _) (by rw[aL (a1d DY)];exact nC);exact fin D _ ys P s5 m5 IX' D4 hm5 strC qn
 ·refine thn (T.item (cxC X scope h (D::fp) a l) rfl rfl rfl S.calm i _ s4 (blank own σ) P (λ_ _=>False) (pin2 I4 D4 o4) (I fr4) st4 go) λr s5 Z0=>?_;obtain⟨u,hr,h5⟩:=Z0;subst hr;refine thn h5 λ_ s6 ⟨x,H6,I6,r6,y6,st6,fr6⟩=>?_;have I6':=I6.pinned (I fr6) (T.obj _ _ st6);refine thn (hg h (D::fp) a l _ s6 (blank own σ) H6 x u _ I6' r6 (hG _ _ _ _ (step x H6 y6))) λ_ s7 ⟨σ7,H7,I7,⟨q7,l7,p7⟩⟩=>?_;refine thn (ht h (D::fp) a l _ s7 σ7 H7 _ I7 q7) λb s8 ⟨H8,I8,q8⟩=>?_;have weak:∀ {Z:Hp} {s9:Shared},Inv (cxC X scope h (D::fp) a l) ((pins++[(D,{cls:=.type "list",data:=.seq its k})])++sQ fp s6.heap) σ7 Z s9 ->
    Inv (cxC X scope h (D::fp) a l) ((pins++[(D,{cls:=.type "list",data:=.seq its k})])++sQ fp s6.heap) (blank own σ) Z s9:=λI9=>
   I9.weak l7.symm λj v e=>by rw[p7 j (lS own σ j v e).1];exact e
  have tn9:∀ {Z:Hp} {s9:Shared},Inv (cxC X scope h (D::fp) a l) ((pins++[(D,{cls:=.type "list",data:=.seq its k})])++sQ fp s6.heap) (blank own σ) Z s9->tn (i+1) s9.heap/\∀ b∈fp,Z b=none:=λI9=>
   ⟨T.keep _ _ _ st6 λb hb o q=>(I9.pin (b,o) (a3c _ (a3c _ (jS hb q)))).1,λb hb=>by
    obtain⟨o,q,d⟩:=T.obj _ _ st6 b hb;exact(I9.pin (b,o) (a3c _ (a3c _ (jS hb q)))).2.1⟩
  cases b with
  | true=>
    rw[a1Z rfl]at q8 ⊢;refine thn (he h (D::fp) a l _ s8 σ7 H8 _ I8 q8) λy s9 Z0=>?_;obtain⟨v9,Z,I9,r9,m',hm',w9⟩:=Z0;have L:=weak I9;obtain⟨t9,f9⟩:=tn9 L;have p9:=L.pin (D,_) (a3c _ (a5h _ (a3c _ a3a)));have hlen:=v4.length;have hz':its.size<=sizeLine:=by rw[← a0d];lia
    refine append_at (hsz:=hz') p9.1 λh' hs' hD'=>?_;have I9u:Inv (cxC X scope h (D::fp) a l) pins (blank own σ) Z s9:=L.unpinned.unpinned;have I10:Inv (cxC X scope h (D::fp) a l) pins (blank own σ) Z {s9 with heap:=h'}:=
     I9u.turned (it:=D) (t':=s9.toks) (λb o hb q=>(hs'.2 b hb).trans q) p9.2.1 DY (.inl a3a) cneD f.pin
    refine⟨m',hm',i+1,ys++[v9],Z,its.push y,k+1,I10,T.keep _ _ _ t9 λb hb o q=>(hs'.2 b λz=>hDfp (by rw[← z];exact hb)).trans q,f9,p9.2.1,hD',?_,w9⟩;rw[a7g];exact v4.append (.cons r9 .nil)
  | false=>
    rw[a2k a9d]at q8 ⊢;obtain⟨m',hm',w9⟩:=q8;have L:=weak I8;obtain⟨t9,f9⟩:=tn9 L;have p9:=L.pin (D,_) (a3c _ (a5h _ (a3c _ a3a)));exact⟨m',hm',i+1,ys,H8,its,k,L.unpinned.unpinned,t9,f9,p9.2.1,p9.1,v4,w9⟩
set_option maxHeartbeats 8000000 in
def yD{X:Cx}{tg iter elt:Expr}{G:List Expr}{scope:Scope}{pos K:Pos}{own:List Nat}{wi:TI}{g:TG}{tt:TT}{te:TE}{use:Option (Value->Sem Unit)}{Qf:Value->Shared->Prop}
  (S:CompScope X scope own) (hi:PI X tg iter wi) (hg:∀ p ex s H,PG (cxC X scope p ex s H) tg g) (hG:cB1 own g)
  (ht:∀ p ex s H,bH5 (cxC X scope p ex s H) G tt) (he:∀ p ex s H,PE (cxC X scope p ex s H) elt te)
  {pins:List (Addr×Obj)} {s:Shared} {σ:St} {H:Hp} {F:List V->Hp->Prop} (I:Inv X pins σ H s) (hw:bH6 own wi g tt te σ H F)
  (hs:∀ x,foldedSetIterable iter X.env x=pure x)
  (fin:∀ D C ys H' s' m,Inv X pins σ (upd H' D (.lst ys)) s'->H' D=none->s'.heap.Ns C m->Stray X pins (upd H' D (.lst ys)) C->F ys H' ->
   compPost (model X.prog X.w) X.A X.xe use Qf (.ref D) C (.ok .next) s') :
  wpAny (model X.prog X.w) X.A (comprehension (.ListComp elt [⟨tg,iter,G,0⟩] scope pos) scope X.env K (newList []) false (eval iter X.env) use) Qf X.xe s:=by
 obtain⟨p,U,Y,Z⟩:=aN0 (scope:=scope) (env:=X.env) λy Q hf=>I.ok.has y.1 (S.free y Q hf);refine wpAny_comprehension_free (use:=use) rfl hs U S.kind S.names (thn (hi pins s σ H _ I hw) λv s₁ h₁=>thn h₁ λitv a L=>?_);obtain⟨it,fp,tn,J,H2,e,u,T,B,f2,W,⟨m0,w0⟩,turn⟩:=L;subst e;refine a2r (bO0 ?_);dsimp only;have hsz:(a.heap.push {cls:=.type "list",dict:=none,data:=.seq ([]:List Value).toArray}).objs.size=a.heap.objs.size+1:=a7i ..;have h:∀ b o,a.heap.get? b=some o->(a.heap.push {cls:=.type "list",dict:=none,data:=.seq ([]:List Value).toArray}).get? b=some o:=λb o q=>a6a _ q;have M:(a.heap.push {cls:=.type "list",dict:=none,data:=.seq ([]:List Value).toArray}).get? a.heap.objs.size=some {cls:=.type "list",dict:=none,data:=.seq ([]:List Value).toArray}:=a3b _ rfl;generalize hG3:a.heap.push {cls:=.type "list",dict:=none,data:=.seq ([]:List Value).toArray}=d at hsz h M ⊢;have r:(d.push {cls:=.type "dict",data:=.dict #[]}).objs.size=d.objs.size+1:=a7i ..;have i:(pushCells (d.push {cls:=.type "dict",data:=.dict #[]}) scope.names).Ns d.objs.size (λ_=>none):=(Heap.Ns.new d (.type "dict")).keeps (pushCells_keeps _ _);have l:∀ b o,d.get? b=some o->(pushCells (d.push {cls:=.type "dict",data:=.dict #[]}) scope.names).get? b=some o:=λb o q=>pushCells_keeps _ _ b o (a6a _ q);have ok:=cellsFrom_ok scope.names (d.push {cls:=.type "dict",data:=.dict #[]}) (d.objs.size+1) [] ⟨λ_ _ hm=>(nomatch hm),List.Pairwise.nil⟩ (by rw[r];exact a7a _);rw[r]at ok;generalize pushCells (d.push {cls:=.type "dict",data:=.dict #[]}) scope.names=h₁ at i l ok ⊢;have I3:Inv X pins σ H2 {a with heap:=d}:=u.kept (t':=a.toks) h;have j:∀ x,(cellsFrom (d.objs.size+1) scope.names p).lookup x=((cellsFrom (d.objs.size+1) scope.names []).lookup x).or (p.lookup x):=λx=>by rw[cB,List.lookup_append]
 have N:∀ x c,(cellsFrom (d.objs.size+1) scope.names []).lookup x=some c->d.objs.size < c/\scope.names.lookup x=some .cell/\h₁.IsCell c none:=λx c q=>
  ⟨(ok.empty x c (mem_of_lookup q)).2,S.cells _ (gB _ _ x c (mem_of_lookup q)) rfl,(ok.empty x c (mem_of_lookup q)).1⟩
 have k:∀ x c,(cellsFrom (d.objs.size+1) scope.names p).lookup x=some c->(X.env.cells.lookup x=some c/\scope.names.lookup x≠some .cell)\/(d.objs.size < c/\scope.names.lookup x=some .cell/\h₁.IsCell c none):=λx c q=>by
  rw[j]at q;cases e:(cellsFrom (d.objs.size+1) scope.names []).lookup x with
  | some O=>rw[e]at q;cases q;exact .inr (N x _ e)
  | none=>
    rw[e]at q;refine .inl ⟨Y x c q,λz=>?_⟩;obtain⟨O,f⟩:=cR scope.names (d.objs.size+1) x (mem_of_lookup z);rw[e]at f;cases f
 have n:∀ x c,X.env.cells.lookup x=some c->c < d.objs.size:=λx c q=>by
  obtain⟨v,o,ho,hd⟩:=I3.cell x c q;exact a5b ho
 have t:=aN1 (iter:=iter) (elt:=elt) (pos:=pos) (use:=use) (Qf:=Qf) (tk:=a.toks) (h₁:=h₁) S hg hG ht he I3 T k (λy Q hk=>by
   rw[j];rcases hk with z | z
   ·obtain⟨c,hc⟩:=Z y Q z;cases e:(cellsFrom (d.objs.size+1) scope.names []).lookup y.1 with
    | some O=>exact⟨O,rfl⟩
    | none=>exact⟨c,hc⟩
   ·obtain⟨c,hc⟩:=cR scope.names (d.objs.size+1) y.1 (by rw[← z];exact Q);exact⟨c,by rw[hc];rfl⟩) (λx y c q1 R=>by
   rcases k x c q1 with P | P;rcases k y c R with E | E;exact I3.ok.inj x y c P.1 E.1;exact absurd E.1 (a2j.mpr (a3g (n x c P.1)));rcases k y c R with E | E;exact absurd P.1 (a2j.mpr (a3g (n y c E.1)));have m1:(cellsFrom (d.objs.size+1) scope.names []).lookup x=some c:=by
    obtain⟨O,f⟩:=cR scope.names (d.objs.size+1) x (mem_of_lookup P.2.1);rw[j,f]at q1;cases q1;exact f
   have m2:(cellsFrom (d.objs.size+1) scope.names []).lookup y=some c:=by
    obtain⟨O,f⟩:=cR scope.names (d.objs.size+1) y (mem_of_lookup E.2.1);rw[j,f]at R;cases R;exact f
   exact name_of_addr ok.apart (mem_of_lookup m1) (mem_of_lookup m2)) f2 (λb hb=>by obtain⟨o,q,_⟩:=T.obj _ _ B b hb;exact a5b q)
  (by show a.heap.objs.size < d.objs.size;lia) (λb hb=>by
   rcases a9b.mp (u.stkSub b hb)with z | z;rw[z];exact u.lt;exact a9i λhle=>u.nofs hle z)
  (λb o q=>a5b (u.bs b o q).1) (u.stray (a7a _) (u.hok.fresh (a7a _))) M (T.keep _ _ _ B λb hb o q=>h b o q) i l w0 turn fin
 exact codeAny_compStart_list t (T.self _ 0 _ _ _ (T.keep _ _ _ B λb hb o q=>l b o (h b o q)) t)
def fH{X:Cx}{tg iter elt:Expr}{a:List Expr}{scope:Scope}{pos:Pos}{own:List Nat}{f:TI}{g:TG}{h:TT}{i:TE}
  (S:CompScope X scope own) (hi:PI X tg iter f) (j:∀ c ex s H,PG (cxC X scope c ex s H) tg g) (k:cB1 own g)
  (l:∀ c ex s H,bH5 (cxC X scope c ex s H) a h) (n:∀ c ex s H,PE (cxC X scope c ex s H) elt i)
  (hs:∀ x,foldedSetIterable iter X.env x=pure x:=by intro _;rfl):PE X (.ListComp elt [⟨tg,iter,a,0⟩] scope pos) (aR9 own f g h i):=by
 intro pins s σ H Q I p;rw[eval_ListComp];refine yD (use:=none) S hi j k l n I p hs λD C ys H' s' m r t u str q=>?_;refine⟨m,u,λh' d=>⟨.ref D,upd H' D (.lst ys),?_,rfl,q D t⟩⟩;exact r.turned (it:=C) (t':=s'.toks) (λb o hb e=>(d.2 b hb).trans e) str.un str.loc (.inr str.young) str.cell str.pin
def aN2{X:Cx}{i:Nat}{x:Str}{tg iter elt:Expr}{d:List Expr}{scope:Scope}{pos c f:Pos}{own:List Nat}{w:TI}{g:TG}{y:TT}{A:TE}
  (E:X.N.Nodup) (k:X.N[i]? = some x) (B:X.env.scope.names.lookup x=some .local)
  (S:CompScope X scope own) (hi:PI X tg iter w) (F:∀ j ex s H,PG (cxC X scope j ex s H) tg g) (G:cB1 own g)
  (J:∀ j ex s H,bH5 (cxC X scope j ex s H) d y) (K:∀ j ex s H,PE (cxC X scope j ex s H) elt A)
  (l:swapsWith (.ListComp elt [⟨tg,iter,d,0⟩] scope pos) (some (.Name x c)) f.line X.env=pure true)
  (hs:∀ x,foldedSetIterable iter X.env x=pure x:=by intro _;rfl) :
  PS X (.Assign [.Name x c] (.ListComp elt [⟨tg,iter,d,0⟩] scope pos) f) (λD σ H=>aR9 own w g y A σ H λv L=>D.nx (σ.set i (some v)) L):=by
 intro pins s σ H M I O;rw[exec_Assign_Name_used _ _ _ _ l];refine a1X (a2G (a1X ?_));show wpAny _ _ (do let _ ← comprehension (.ListComp elt [⟨tg,iter,d,0⟩] scope pos) scope X.env _ (newList []) false (eval iter X.env) (some (assign (.Name x c) X.env))) _ _ s;refine a1X (thn (yD (use:=some (assign (.Name x c) X.env)) (Qf:=λ_ s'=>SP X pins M .next s') S hi F G J K I O hs λD C ys H' s' m P Q R str q=>?_) λ_ s' T=>a1Y (a1Y T));show wpAny _ _ (assign (.Name x c) X.env (.ref D)) _ _ s';refine wpAny_assign_Name (xP (v:=.ref D) P E k (.inl B) (show eI (.ref D) (Value.ref D)from rfl) (λn p r=>?_) (.inr B));obtain⟨a,h,ha⟩:=r;have t:C≠a:=by
  rcases ha with z | z;rw[z];exact str.loc;exact a1d (str.cell x a z)
 refine⟨m,R.sameBut h t,λh' u=>⟨_,_,?_,q D Q⟩⟩;exact p.turned (it:=C) (t':=n.toks) (λb o hb e=>(u.2 b hb).trans e) str.un str.loc (.inr str.young) str.cell str.pin
section
variable{X:Cx}
noncomputable def Its(x:Str):It:=⟨λi _=>∃ c,x.cps[i]? = some c,λi H v H'=>H'=H/\∃ c,x.cps[i]? = some c/\v=.str ⟨#[c]⟩,λi _=>x.cps[i]? = none⟩
def aH5{P:Program}{w:World}{K:W.Frag}{tg:Expr}(x:Str)(t:Tok)(it:Addr)(ty:String)(a:ty="str_ascii_iterator"\/ty="str_iterator"):Turn P w K tg (Its x) [it] it (λi h=>h.IsStrIter it ty x t i) where
 mem:=by simp
 obj:=λi h st b hb=>by
  have e:b=it:=by simpa using hb
  subst e;obtain⟨o,e,c,d⟩:=st;exact⟨o,e,λv z=>by rw[d]at z;cases z⟩
 keep:=λi h h' st k=>by
  obtain⟨o,e,c,d⟩:=st;exact⟨o,k it (by simp) o e,c,d⟩
 item:=by
  intro X q r u y i pins s σ H E I g st A;subst q r u;obtain⟨c,f⟩:=A;obtain⟨j,l,G,m,n,p⟩:=g it (by simp);rcases a with rfl | rfl;refine wpAny_pyNext_ascii_item st f λh' st' B=>?_;have C:Inv X pins σ H {s with heap:=h',toks:=s.toks+1}:=I.turned (t':=s.toks+1) (λb o hb e=>(B.2 b hb).trans e) j l m n p;obtain⟨o,e,D,d⟩:=id st';exact⟨_,rfl,aQ9 (s:={s with heap:=h',toks:=s.toks+1}) e D d (by decide) ⟨.str ⟨#[c]⟩,H,C,⟨_,rfl⟩,⟨rfl,c,f,rfl⟩,st',λb hb=>(g b hb).1⟩⟩;refine wpAny_pyNext_wide_item st f λh' st' B=>?_;have C:Inv X pins σ H {s with heap:=h',toks:=s.toks+1}:=I.turned (t':=s.toks+1) (λb o hb e=>(B.2 b hb).trans e) j l m n p;obtain⟨o,e,D,d⟩:=id st';exact⟨_,rfl,aQ9 (s:={s with heap:=h',toks:=s.toks+1}) e D d (by decide) ⟨.str ⟨#[c]⟩,H,C,⟨_,rfl⟩,⟨rfl,c,f,rfl⟩,st',λb hb=>(g b hb).1⟩⟩
 done:=by
  intro X q r u y i pins s σ H E I g st A;subst q r u;have f:x.cps[i]? = none:=A;obtain⟨j,l,G,m,n,p⟩:=g it (by simp);rcases a with rfl | rfl;exact wpAny_pyNext_ascii_end (I.ok.hd y) st f λh' F=>⟨rfl,I.turned (t':=s.toks) (λb o hb e=>F b o hb e) j l m n p⟩;exact wpAny_pyNext_wide_end (I.ok.hd y) st f λh' F=>⟨rfl,I.turned (t':=s.toks) (λb o hb e=>F b o hb e) j l m n p⟩
 self:=λ_ _ _ _ _ st h=>by
  rcases a with rfl | rfl;exact wpAny_pyIter_striter_ascii st h;exact wpAny_pyIter_striter_wide st h
def cR8:V->Option Int->Option Int->Hp->VK->Prop:=λx lo hi H Q=>∃ z,x=.str z/\z.length<=sizeLine/\Q (.str (Txt.slice z lo hi)) H
def cB2:SlR X cR8:=by
 intro pins s σ H x v g m lo hi sl Q I e hs pl d h;obtain⟨z,rfl,f,q⟩:=h;obtain⟨t,rfl⟩:=e;refine⟨"str",_,F.slot_str_getitem.lookup,typeIs_str _ _ _,?_⟩;have fin:∀ b k,EP X pins σ Q (.str (Txt.slice z lo hi) b) {s with toks:=k}:=λb k=>⟨.str _,H,I.tok k,⟨b,rfl⟩,q⟩;have a:(Txt.slice z lo hi).length<=sizeLine:=a0b (Txt.slice_le z lo hi) f;cases pl with
 | none=>
   cases d with
   | none=>exact a2z (l:=none) (u:=none) (st:=none) hs rfl (post_val_or_str ⟨a,fin⟩)
   | int j c=>exact a2z (l:=none) (u:=some (j,c)) (st:=none) hs rfl (post_val_or_str ⟨a,fin⟩)
 | int i t1=>
   cases d with
   | none=>exact a2z (l:=some (i,t1)) (u:=none) (st:=none) hs rfl (post_val_or_str ⟨a,fin⟩)
   | int j c=>exact a2z (l:=some (i,t1)) (u:=some (j,c)) (st:=none) hs rfl (post_val_or_str ⟨a,fin⟩)
def vH{ys:List Str}:∀ {us:List Value},bS (ys.map V.str) us->StrsAre us ys:=by
 induction ys with
 | nil=>intro us r;cases r;exact .nil
 | cons y r a=>
   intro us h;cases h with
   | cons b c=>
     obtain⟨t,rfl⟩:=b;exact .cons y t (a c)
def bC0(K:W.Frag):V->List V->Hp->VK->Prop:=λx vs H Q=>∃ b a ys,x=.str b/\vs=[.ref a]/\SqL K H a (ys.map V.str)/\(ys.map (·.length)).sum+ys.length*b.length<=16777216/\Q (.str (Txt.join b ys)) H
def bO1:MtR X "str.join" (bC0 X.K):=by
 intro pins s σ H x vs v us Q I b c h;obtain⟨d,a,ys,rfl,rfl,ha,e,q⟩:=h;obtain⟨t,rfl⟩:=b;obtain⟨u,rfl,f⟩:=c.one;cases f;obtain⟨its,r,p,_⟩:=I.list ha;exact join_list p.isList (by simpa using vH r) e λg k=>⟨.str _,H,I.tok k,⟨g,rfl⟩,q⟩
end
section
variable{σ:St}{H:Hp}{Q:VK}{v x y:V}{n:Nat}{i j:Int}{a b:Bool}{D:Ends}
end
noncomputable def eW(H:Hp)(p:Addr):Option (Bool×List V):=match H p with
 | some (.lst xs)=>some (true,xs)
 | some (.tup xs)=>some (false,xs)
 | some (.frz _ (.lst xs))=>some (true,xs)
 | _=>none
def bC1{H:Hp}{p:Addr}{xs:List V}(h:H p=some (.lst xs)):eW H p=some (true,xs):=by unfold eW;rw[h]
def cM{H:Hp}{p:Addr}{xs:List V}(h:H p=some (.tup xs)):eW H p=some (false,xs):=by unfold eW;rw[h]
def bC2{H:Hp}{p:Addr}{o:Obj}{xs:List V}(h:H p=some (.frz o (.lst xs))):eW H p=some (true,xs):=by unfold eW;rw[h]
def gW{K:W.Frag}{H:Hp}{p:Addr}{xs:List V}(h:eW H p=some (true,xs)):SqL K H p xs:=by
 unfold eW at h;split at h;rename_i e;cases h;exact .inl (.inl e);cases h;rename_i o ys e;cases h;exact .inl (.inr ⟨o,e⟩);cases h
def eA{K:W.Frag}{H:Hp}{p:Addr}{xs:List V}(h:eW H p=some (false,xs)):SqT K H p xs:=by
 unfold eW at h;split at h;cases h;rename_i e;cases h;exact .inl (.inl e);cases h;cases h
noncomputable def ixF(H:Hp)(x y:V):Option V:=match x,y with
 | .ref p,.int i=>(eW H p).bind λq=>atI q.2 i
 | .str z,.int i=>if z.length<=sizeLine then(atI z.cps.toList i).map λc=>.str ⟨#[c]⟩else none
 | _,_=>none
noncomputable def cH8(H:Hp)(x:V):Option Nat:=match x with
 | .ref p=>(eW H p).map (·.2.length)
 | .str z=>if z.length<=sizeLine then some z.length else none
 | _=>none
def cO5:R2:=λx y H Q=>∃ v,ixF H x y=some v/\Q v H
section
variable{X:Cx}
def cR9:IxR X cO5:=by
 intro a d pins s σ H x y v u Q I g j h hs;obtain⟨z,e,q⟩:=h;unfold ixF at e;split at e
 ·rename_i p i;cases f:eW H p with
  | none=>rw[f]at e;cases e
  | some w=>
    obtain⟨b,xs⟩:=w;rw[f]at e;cases b with
    | true=>exact bN5 a d pins s σ H _ _ v u Q I g j ⟨p,xs,i,z,rfl,rfl,gW f,e,q⟩ hs
    | false=>exact cA4 a d pins s σ H _ _ v u Q I g j ⟨p,xs,i,z,rfl,rfl,eA f,e,q⟩ hs
 ·rename_i t i;split at e
  ·rename_i l;cases k:atI t.cps.toList i with
   | none=>rw[k]at e;cases e
   | some c=>
     rw[k]at e;cases e;exact cA5 a d pins s σ H _ _ v u Q I g j ⟨t,i,c,rfl,rfl,l,k,q⟩ hs
  ·cases e
 ·cases e
def cB3:List V->Hp->VK->Prop:=λxs H Q=>∃ x n,xs=[x]/\cH8 H x=some n/\Q (.int n) H
def cI:sR X (.builtin "len") cB3:=by
 intro pins s σ H xs us Q I r h;obtain⟨x,n,rfl,e,q⟩:=h;unfold cH8 at e;split at e
 ·rename_i p;cases a:eW H p with
  | none=>rw[a]at e;cases e
  | some w=>
    obtain⟨b,xs⟩:=w;rw[a]at e;cases e;cases b with
    | true=>exact mK pins s σ H _ us Q I r ⟨p,xs,rfl,.inl (gW a),q⟩
    | false=>exact mK pins s σ H _ us Q I r ⟨p,xs,rfl,.inr (eA a),q⟩
 ·rename_i z;split at e;rename_i c;cases e;exact yA pins s σ H _ us Q I r ⟨z,rfl,c,q⟩;cases e
 ·cases e
def cO6:V->Option Int->Option Int->Hp->VK->Prop:=λx lo hi H Q=>match x with
 | .str z=>z.length<=sizeLine/\Q (.str (Txt.slice z lo hi)) H
 | .ref p=>(∃ xs,eW H p=some (true,xs)/\∀ r,H r=none->Q (.ref r) (upd H r (.lst (aB9 xs lo hi)))) \/
   ∃ xs,eW H p=some (false,xs)/\¬ (HT.sIx xs.length 0 lo=0/\HT.sIx xs.length xs.length hi=xs.length)/\∀ r,H r=none->Q (.ref r) (upd H r (.tup (aB9 xs lo hi)))
 | _=>False
def cL1:SlR X cO6:=by
 intro pins s σ H x v a b lo hi sl Q I c hs pl d h;unfold cO6 at h;split at h;rename_i z;exact cB2 pins s σ H _ v a b lo hi sl Q I c hs pl d ⟨z,rfl,h.1,h.2⟩;rename_i p;rcases h with⟨xs,e,q⟩ | ⟨xs,e,hw,q⟩;exact bN6 pins s σ H _ v a b lo hi sl Q I c hs pl d ⟨p,xs,rfl,gW e,q⟩;exact cA2 pins s σ H _ v a b lo hi sl Q I c hs pl d ⟨p,xs,rfl,eA e,hw,q⟩;exact h.elim
def cO7(K:W.Frag)(b:TE):TI:=λσ H R=>b σ H λx a=>match x with
 | .str z=>R (Its z) a
 | .ref p=>(∃ xs,eW a p=some (true,xs)/\R (Itl K p) a)\/∃ xs,eW a p=some (false,xs)/\R (Itt K p) a
 | _=>False
def cB4{tg l:Expr}{i:TE}(k:PE X l i):PI X tg l (cO7 X.K i):=by
 intro pins s σ H R I h;refine thn (k pins s σ H _ I h) λv s1 Z0=>?_;obtain⟨x,f,c,j,d⟩:=Z0;split at d
 ·rename_i x;obtain⟨t,rfl⟩:=j;cases ha:x.cps.all (· < 128)with
  | true=>
    refine wpAny_pyIter_ascii ha ?_;refine⟨s1.heap.objs.size,[s1.heap.objs.size],_,_,f,rfl,c.kept (t':=s1.toks) λb o e=>a6a _ e,aH5 x t _ _ (.inl rfl),⟨_,a3b _ rfl,rfl,rfl⟩,λb hb=>?_,d⟩;have e:b=s1.heap.objs.size:=by simpa using hb
    subst e;exact c.fpOk (a7a _) (c.hok.fresh (a7a _))
  | false=>
    refine wpAny_pyIter_wide ha ?_;refine⟨s1.heap.objs.size,[s1.heap.objs.size],_,_,f,rfl,c.kept (t':=s1.toks) λb o e=>a6a _ e,aH5 x t _ _ (.inr rfl),⟨_,a3b _ rfl,rfl,rfl⟩,λb hb=>?_,d⟩;have e:b=s1.heap.objs.size:=by simpa using hb
    subst e;exact c.fpOk (a7a _) (c.hok.fresh (a7a _))
 ·rename_i a;cases j;rcases d with⟨xs,g,q⟩ | ⟨xs,g,q⟩
  ·obtain⟨its,m,p,n⟩:=c.list (gW g);refine wpAny_pyIter_list p.isList ?_;refine⟨s1.heap.objs.size,[s1.heap.objs.size],_,_,f,rfl,c.kept (t':=s1.toks) λb o e=>a6a _ e,aR0 a _,⟨_,a3b _ rfl,rfl,rfl⟩,λb hb=>?_,q⟩;have e:b=s1.heap.objs.size:=by simpa using hb
   subst e;exact c.fpOk (a7a _) (c.hok.fresh (a7a _))
  ·obtain⟨its,m,p,n⟩:=c.tuple (eA g);refine wpAny_pyIter_tuple (show s1.heap.IsTuple a its.toArray from p) ?_;refine⟨s1.heap.objs.size,[s1.heap.objs.size],_,_,f,rfl,c.kept (t':=s1.toks) λb o e=>a6a _ e,aM4 a _,⟨_,a3b _ rfl,rfl,rfl⟩,λb hb=>?_,q⟩;have e:b=s1.heap.objs.size:=by simpa using hb
   subst e;exact c.fpOk (a7a _) (c.hok.fresh (a7a _))
 ·exact d.elim
noncomputable def bH7(N:List Str)(sc scope:Scope)(own:List Nat):Bool:=
 (match scope.kind with | .function=>true | _=>false) &&
 scope.names.all (λy=>match y.2 with
  | .cell=>(match scope.names.lookup y.1 with | some .cell=>true | _=>false)
  | .local=>(match scope.names.lookup y.1 with | some .local=>true | _=>false)
  | .free=>(match sc.names.lookup y.1 with | some .cell=>true | some .free=>true | _=>false)
  | _=>true) &&
 (List.range N.length).all λi=>match N[i]? with
  | some x=>(match scope.names.lookup x with | some .local=>own.contains i | some .cell=>own.contains i | _=>true)
  | none=>true
def csc{scope:Scope}(own:List Nat)(h:bH7 X.N X.env.scope scope own=true)(g:X.calm=true:=by rfl):CompScope X scope own:=by
 unfold bH7 at h;rw[a7d,a7d]at h;obtain⟨⟨j,b⟩,d⟩:=h;rw[List.all_eq_true]at b d;refine⟨?_,λy a e=>?_,λy a e=>?_,λy a e=>?_,λi x f c=>?_,g⟩;revert j;cases scope.kind<;>simp;have:=b y a;rw[e]at this;dsimp only at this;split at this;assumption;cases this;have:=b y a;rw[e]at this;dsimp only at this;split at this;assumption;cases this;have:=b y a;rw[e]at this;dsimp only at this;show X.env.scope.names.lookup y.1=some .cell\/X.env.scope.names.lookup y.1=some .free;split at this;rename_i q;exact .inl q;rename_i q;exact .inr q;cases this;have hi:i < X.N.length:=(a0a.mp f).1;have:=d i (a3i.mpr hi);rw[f]at this;dsimp only at this;rcases c with c | c<;>rw[c]at this<;>simpa using this
end
structure ItIs(J:It)(xs:List V)(P:Hp->Prop):Prop where
 go:∀ H i x,P H->xs[i]? = some x->J.go i H
 yld:∀ H i x y H',P H->xs[i]? = some x->J.yld i H y H'->H'=H/\y=x
 stop:∀ H i,P H->xs[i]? = none->J.stop i H
def aS0{K:W.Frag}{a:Addr}{xs:List V}:ItIs (Itl K a) xs (λH=>SqL K H a xs) where
 go:=λH i x h e=>⟨xs,x,h,e⟩
 yld:=λH i x y H' h e ⟨b,c⟩=>⟨b,by have:=c xs h;rw[e]at this;exact(a5a this).symm⟩
 stop:=λH i h e=>⟨xs,h,a6d.mp e⟩
def bC3{K:W.Frag}{a:Addr}{xs:List V}:ItIs (Itt K a) xs (λH=>SqT K H a xs) where
 go:=λH i x h e=>⟨xs,x,h,e⟩
 yld:=λH i x y H' h e ⟨b,c⟩=>⟨b,by have:=c xs h;rw[e]at this;exact(a5a this).symm⟩
 stop:=λH i h e=>⟨xs,h,a6d.mp e⟩
noncomputable def bO2(lo:Int)(n:Nat):List V:=(List.range n).map λ(i:Nat)=>V.int (lo+(i:Int))
def aH6{lo:Int}{n i:Nat}{x:V}(h:(bO2 lo n)[i]? = some x):i < n/\x=.int (lo+i):=by
 unfold bO2 at h;rw[a2c]at h;cases e:(List.range n)[i]? with
 | none=>rw[e]at h;cases h
 | some k=>
   rw[e]at h;obtain⟨hi,a⟩:=a0a.mp e;rw[List.length_range]at hi;rw[List.getElem_range]at a;subst a;exact⟨hi,(a5a h).symm⟩
def aC4(lo:Int)(n:Nat):(bO2 lo n).length=n:=by simp[bO2]
def bC4{lo:Int}{n:Nat}{P:Hp->Prop}:ItIs (Itr lo n) (bO2 lo n) P where
 go:=λH i x _ e=>(aH6 e).1
 yld:=λH i x y H' _ e ⟨a,b⟩=>⟨a,by rw[(aH6 e).2];exact b⟩
 stop:=λH i _ e=>by
  have:=a6d.mp e;rw[aC4]at this;exact this
noncomputable def dI(x:Str):List V:=x.cps.toList.map λc=>.str ⟨#[c]⟩
def eF(x:Str):(dI x).length=x.length:=by simp[dI,Str.length]
def bC5{x:Str}{P:Hp->Prop}:ItIs (Its x) (dI x) P where
 go:=λH i v _ e=>by
  unfold dI at e;rw[a2c]at e;cases q:x.cps.toList[i]? with
  | none=>rw[q]at e;cases e
  | some c=>exact⟨c,by simpa using q⟩
 yld:=λH i v y H' _ e ⟨b,c,d,f⟩=>⟨b,by
  unfold dI at e;rw[a2c]at e;have q:x.cps.toList[i]? = some c:=by simpa using d
  rw[q]at e;cases e;exact f⟩
 stop:=λH i _ e=>by
  have a:=a6d.mp e;rw[eF]at a;show x.cps[i]? = none;rw[Array.getElem?_eq_none_iff];exact a
section
variable{σ:St}{H:Hp}{Q:VK}{z:Str}{p q:Addr}{xs ys:List V}{i j:Int}{b:Bool}{v x y:V}
def bC6(h:z.length<=sizeLine):cH8 H (.str z)=some z.length:=by show(if z.length<=sizeLine then some z.length else none)=_;rw[a1Z h]
def aH7(h:eW H p=some (b,xs)):cH8 H (.ref p)=some xs.length:=by show(eW H p).map (·.2.length)=_;rw[h];rfl
def aS1(h:eW H p=some (b,xs))(e:atI xs i=some v):ixF H (.ref p) (.int i)=some v:=by show(eW H p).bind (λq=>atI q.2 i)=_;rw[h];exact e
def bO3{c:Nat}(h:z.length<=sizeLine)(e:atI z.cps.toList i=some c):ixF H (.str z) (.int i)=some (.str ⟨#[c]⟩):=by
 show(if z.length<=sizeLine then(atI z.cps.toList i).map λc=>V.str ⟨#[c]⟩else none)=_;rw[a1Z h,e];rfl
end
section
variable{σ:St}{H:Hp}{Q:VK}{p:Addr}{xs:List V}{k:Int}{j:Nat}{v:V}
def aS2{a:Type}{ys:List a}{i:Int}(h0:0<=i)(b:i < ys.length):∃ c,atI ys i=some c:=by
 obtain⟨n,rfl⟩:=Int.eq_ofNat_of_zero_le h0;have hn:n < ys.length:=by lia
 exact⟨ys[n],bN4 (a1a hn)⟩
end
end L2
namespace L2
open PySem
def aC5{a b:Type}{f:a->b}{ys:List a}{i:Int}:atI (ys.map f) i=(atI ys i).map f:=by
 unfold atI;rw[a8a];cases ixN ys.length i with
 | none=>rfl
 | some j=>simp
def bM{H:Hp}{p:Addr}{o:HO}(h:H p=none):xN H (upd H p o):=λb u e=>by rw[aL (cX e h)];exact e
def bO4(sep:Str)(ys:List Str):(Txt.join sep ys).length<=(ys.map (·.length)).sum+ys.length*sep.length:=by
 show(Builtin.Str.glued sep ys).length<=_;rw[StrLaws.glued_eq_join];exact StrLaws.join_length_le sep ys
end L2
namespace L2
open PySem PySem.Spec PyProof.Rows
section
variable{prog:Program}{w:World}{A:Around}{E:Value->Shared->Prop}
theorem tE{it:Addr}{x:Str}{t:Tok}{ty:String}(f:ty="str_ascii_iterator"\/ty="str_iterator"):∀ (n i:Nat) (s:Shared) (Q:List Value->Shared->Prop),s.heap.IsStrIter it ty x t i->i+n<=x.length ->
  (∀ h' tk us,h'.IsStrIter it ty x t (i+n)->Heap.SameBut it s.heap h'->bS (((dI x).drop i).take n) us->Q us {s with heap:=h',toks:=tk})->wpAny (model prog w) A (draw (.ref it) n) Q E s
 | 0,i,s,Q,hit,_,j=>by
   show wpAny _ _ (pure []) Q E s;exact a1Y (by simpa using j s.heap s.toks [] hit (Heap.SameBut.refl ..) (by simpa using(.nil:bS [] [])))
 | n+1,i,s,Q,hit,hle,j=>by
   have g:i < x.cps.size:=by have:x.length=x.cps.size:=rfl;lia
   have k:x.cps[i]? = some x.cps[i]:=by simp[g]
   have hd:(dI x).drop i=V.str ⟨#[x.cps[i]]⟩::(dI x).drop (i+1):=by
    rw[List.drop_eq_getElem_cons (by rw[eF];exact g)];congr 1;simp[dI]
   show wpAny _ _ (pyNext (.ref it) >>= _) Q E s;have go:∀ b,b.IsStrIter it ty x t (i+1)->Heap.SameBut it s.heap b ->
     wpAny (model prog w) A (match (some (Value.str ⟨#[x.cps[i]]⟩ s.toks))with | none=>pure [] | some v=>do return v::(← holding [v] (draw (.ref it) n))) Q E {s with heap:=b,toks:=s.toks+1}:=λb a c=>by
    refine a1X (a2m (tE f n (i+1) _ _ a (by lia) λh tk us d e l=>a1Y ?_));refine j h tk _ (by rw[show i+(n+1)=i+1+n by lia];exact d) (c.trans e) ?_;rw[hd,List.take_succ_cons];exact .cons ⟨_,rfl⟩ l
   rcases f with rfl | rfl;exact a1X (wpAny_pyNext_ascii_item hit k λb a c=>go b a c);exact a1X (wpAny_pyNext_wide_item hit k λb a c=>go b a c)
def wK{s:Shared}{x:Str}{t:Tok}{targets:List (Bool×(Value->Sem Unit))}{Q:Unit->Shared->Prop}(hh:A.handled=none)
  (hn:targets.length=x.length) (hstar:targets.findIdx? (·.1)=none)
  (h:∀ h' tk us,Heap.ExtBut s.heap.objs.size s.heap h'->bS (dI x) us->wpAny (model prog w) A (assignInOrder (targets.map (·.2)) us) Q E {s with heap:=h',toks:=tk}) :
  wpAny (model prog w) A (unpack (.str x t) targets) Q E s:=by
 unfold unpack;rw[hn,hstar];refine a1X (a2m ?_);unfold unpackItems;refine a1X ?_;unfold notIterableAtAll;refine a1X (a2J (typeIs_str _ _ _) F.slot_str_iter.lookup ?_);refine a1Y ?_;simp only[Bool.false_eq_true,if_false];have go:∀ ty,(ty="str_ascii_iterator"\/ty="str_iterator")->wpAny (model prog w) A (do
   let items ← holding [Value.ref s.heap.objs.size] (draw (.ref s.heap.objs.size) x.length)
   if items.length < x.length then
    rule "unpack.too-few";raiseError "ValueError" s!"not enough values to unpack (expected {x.length}, got {items.length})"
   if(← holding items (pyNext (.ref s.heap.objs.size))).isSome then
    rule "unpack.too-many";raiseError "ValueError" s!"too many values to unpack (expected {x.length})"
   return items:Sem (List Value)) (λus s'=>wpAny (model prog w) A (assignInOrder (targets.map (·.2)) us) Q E s') E {s with heap:=s.heap.push {cls:=.type ty,data:=.fields #[.str x t,.int 0 0]}}:=by
  intro ty hty;refine a1X (a2m (tE (it:=s.heap.objs.size) (x:=x) (t:=t) hty x.length 0 _ _ ⟨_,a3b _ rfl,rfl,rfl⟩ (by lia) λh₁ tk us hit₁ hs₁ hv=>?_));have hv':bS (dI x) us:=by
   have e:((dI x).drop 0).take x.length=dI x:=by
    rw[List.drop_zero];exact a8c (by rw[eF];exact a7a _)
   rw[e]at hv;exact hv
  have hl:us.length=x.length:=by rw[← hv'.length,eF]
  rw[a2k (by lia)];have hend:x.cps[x.length]? = none:=by simp[Str.length]
  rw[a9e]at hit₁;have fin:∀ h₂,Heap.ExtBut s.heap.objs.size h₁ h₂->wpAny (model prog w) A (do
    if(none:Option Value).isSome then
     rule "unpack.too-many";raiseError "ValueError" s!"too many values to unpack (expected {x.length})"
    return us:Sem (List Value)) (λus s'=>wpAny (model prog w) A (assignInOrder (targets.map (·.2)) us) Q E s') E {s with heap:=h₂,toks:=tk}:=by
   intro h₂ he₂;simp only[Option.isSome_none,Bool.false_eq_true,if_false];exact a1Y (h h₂ tk us (λb o hb e=>he₂ b o hb (hs₁.extBut b o hb (a6a _ e))) hv')
  rcases hty with rfl | rfl;exact a1X (a2m (wpAny_pyNext_ascii_end hh hit₁ hend λh₂ he₂=>fin h₂ he₂));exact a1X (a2m (wpAny_pyNext_wide_end hh hit₁ hend λh₂ he₂=>fin h₂ he₂))
 cases ha:x.cps.all (· < 128)with
 | true=>exact a1X (a2m (wpAny_pyIter_ascii ha (go _ (.inl rfl))))
 | false=>exact a1X (a2m (wpAny_pyIter_wide ha (go _ (.inr rfl))))
end
section
variable{X:Cx}{pos:Pos}
def bC7(K:W.Frag)(n:Nat)(t:TGs):TG:=λv σ H Q=>match v with
 | .str z=>z.length=n/\t (dI z) σ H Q
 | .ref a=>∃ xs,eW H a=some (false,xs)/\xs.length=n/\t xs σ H Q
 | _=>False
def bO5{es:List Expr}{k:Nat}{t:TGs}{n:Nat}(g:X.calm=true)(h:PGs X es t)
  (hn:(assignEach es X.env).length=n:=by rfl) (d:(assignEach es X.env).findIdx? (·.1)=none:=by rfl):PG X (.Tuple es k pos) (bC7 X.K n t):=by
 intro pins s σ H v u Q I r c;unfold bC7 at c;split at c;rename_i z;obtain⟨f,c⟩:=c;obtain⟨tk,rfl⟩:=r;rw[assign_Tuple];refine a1X (a2G (wK (I.ok.hd g) (hn.trans f.symm) d λh' tk us i j=>?_));have l:Inv X pins σ H {s with heap:=h',toks:=tk}:=I.kept λb o e=>i b o (a2d (a5b e)) e;exact h pins _ σ H _ _ Q l j c;rename_i a;obtain⟨xs,m,f,c⟩:=c;exact bZ2 (k:=k) (pos:=pos) g h hn d pins s σ H _ u Q I r ⟨a,xs,rfl,eA m,f,c⟩;exact c.elim
end
section
variable{X:Cx}
def bH8:List V->Hp->VK->Prop:=λxs H Q=>∃ p b ys,xs=[.ref p]/\eW H p=some (b,ys)/\∀ l,H l=none->Q (.ref l) (upd H l (.lst ys))
def aN3:sR X (.type "list") bH8:=by
 intro pins s σ H xs us Q I r h;obtain⟨p,b,ys,rfl,a,q⟩:=h;cases b with
 | true=>exact mL pins s σ H _ us Q I r ⟨p,ys,rfl,.inl (gW a),q⟩
 | false=>exact mL pins s σ H _ us Q I r ⟨p,ys,rfl,.inr (eA a),q⟩
def cB5:List V->Hp->VK->Prop:=λxs H Q=>∃ p b ys,xs=[.ref p]/\eW H p=some (b,ys)/\if b=true then ∀ l,H l=none->Q (.ref l) (upd H l (.tup ys))else Q (.ref p) H
def cJ:sR X (.type "tuple") cB5:=by
 intro pins s σ H xs us Q I r h;obtain⟨p,b,ys,rfl,a,q⟩:=h;cases b with
 | true=>exact kQ pins s σ H _ us Q I r ⟨p,ys,rfl,.inl ⟨gW a,by simpa using q⟩⟩
 | false=>exact kQ pins s σ H _ us Q I r ⟨p,ys,rfl,.inr ⟨eA a,by simpa using q⟩⟩
def bO6:R2:=λx y H Q=>match x,y with
 | .int i,.int j=>bZ5 i j/\Q (.int (i*j)) H
 | .str z,.int i=>z.length<=1000/\0<=i/\i<=1000/\∀ y:Str,y.length<=z.length*i.toNat->y=Txt.mul z i->Q (.str y) H
 | _,_=>False
def bO7(z:Str)(i:Int)(h0:0<=i):(Txt.mul z i).length<=z.length*i.toNat:=by
 unfold Txt.mul;by_cases b:i < 1;rw[a1Z b];exact a3d _;rw[a2k b];by_cases c:(i==1||z.length==0)=true
 ·rw[a1Z c];have:1<=i.toNat:=by lia
  calc z.length=z.length*1:=by rw[Nat.mul_one]
   _<=z.length*i.toNat:=Nat.mul_le_mul_left _ this
 ·rw[a2k c];have a:∀ (k:Nat) (acc:Array Nat),((List.replicate k z.cps).foldl (· ++ ·) acc).size=acc.size+k*z.cps.size:=by
   intro k
   induction k with
   | zero=>intro acc;simp
   | succ k d=>
     intro acc;rw[List.replicate_succ,List.foldl_cons,d,Array.size_append,Nat.succ_mul];lia
  show((List.replicate i.toNat z.cps).foldl (· ++ ·) #[]).size<=_;rw[a];show 0+_<=_;rw[a9e,a9h];exact a7a _
def cB6:OpR X (binaryOp .Mult) bO6:=by
 intro pins s σ H x y v u Q I a b h;unfold bO6 at h;split at h;exact bZ7 pins s σ H _ _ v u Q I a b ⟨_,_,rfl,rfl,h.1,h.2⟩
 ·rename_i z i;obtain⟨d,e,g,q⟩:=h;obtain⟨t,rfl⟩:=a;obtain⟨c,rfl⟩:=b;have f:z.length*i.toNat<=1000*1000:=Nat.mul_le_mul d (by lia);refine SB.mul ⟨?_,λha hb=>?_,λha hb=>?_⟩ λc k=>⟨.str _,H,I.tok k,⟨c,rfl⟩,q _ (bO7 z i e) rfl⟩;rw[a2o (by lia),a2o (by lia)];rfl
  ·have j:(1000:Int)<=(2 ^ 63-1) / i:=by
    rw[Int.le_ediv_iff_mul_le (by lia)];lia
   lia
  ·unfold Builtin.Str.tooLong;exact a2o (by rw[a2F];lia)
 ·exact h.elim
end
section
variable{H:Hp}{Q:VK}{i j:Int}{p:Addr}{b:Bool}{xs:List V}
end
end L2
namespace L2
open PySem
def bC8{x:Str}{j:Int}(h0:0<=j)(a:j<=x.length):(Txt.slice x none (some j)).cps.toList=x.cps.toList.take j.toNat:=by
 have e:=PySem.StrLaws.sliceText_to (x:=x) (j:=j) ⟨h0,by simpa[Str.length]using a⟩;have b:Txt.slice x none (some j)=_:=e;rw[b];simp
def aN4{x:Str}{i:Int}(h0:0<=i)(b:i<=x.length):(Txt.slice x (some i) none).cps.toList=x.cps.toList.drop i.toNat:=by
 have a:i<=x.cps.toList.length:=by simpa[Str.length]using b
 have e:=PySem.StrLaws.sliceText_from (x:=x) (i:=i) ⟨h0,a⟩;have c:Txt.slice x (some i) none=_:=e;rw[c];show(x.cps.toList.drop i.toNat).take _=_;exact a8c (by rw[a0g];lia)
def lT(x:Str):x.length=x.cps.toList.length:=by simp[Str.length]
open PySem.Spec PyProof.Rows
noncomputable instance:DecidableEq Dt:=λ_ _=>Classical.propDecidable _
section
variable{X:Cx}{pins:List (Addr×Obj)}{σ:St}{H:Hp}{s:Shared}
end
section
variable{X:Cx}{pins:List (Addr×Obj)}{σ:St}{H:Hp}{s:Shared}
end
section
variable{X:Cx}
def bO8{prog:Program}{w:World}{A:Around}{E:Value->Shared->Prop}{s:Shared}{t b:Addr}{ws:List Value}{Q:Value->Shared->Prop}(h:IsTup s.heap t ([]:List Value).toArray)(hb:IsTup s.heap b ws.toArray)
  (i:Q (.ref b) s):wpAny (model prog w) A (binaryOp .Add (.ref t) (.ref b)) Q E s:=by
 obtain⟨⟨cls,j,data,sl⟩,e,f,n,hd⟩:=id h;obtain⟨⟨g,d,data2,sl2⟩,a,c,n2,hd2⟩:=id hb;simp only at f hd c hd2;subst f hd c hd2;exact concat_meets ⟨_,e,rfl⟩ ⟨_,a,rfl⟩ noFill_tuple_add seq_tuple_add F.slot_tuple_add F.entry_tuple_add (F.args_tuple_add_2 _ _)
   (tuple_addW0 t b ([]:List Value).toArray ws.toArray n n2 j d sl sl2 (by simp)) ⟨e,a,i⟩
def bO9:R2:=λx y H Q=>match x,y with
 | .int i,.int j=>Q (.int (i+j)) H
 | .str a,.str b=>a.length+b.length<=sizeLine/\Q (.str (a++b)) H
 | .ref p,.ref q=>(∃ xs ys,H p=some (.lst xs)/\H q=some (.lst ys)/\xs.length+ys.length<=sizeLine/\∀ r,H r=none->Q (.ref r) (upd H r (.lst (xs++ys)))) \/
   ∃ xs ys,eW H p=some (false,xs)/\eW H q=some (false,ys)/\xs.length+ys.length<=sizeLine/\(xs=[]->Q (.ref q) H)/\(xs≠[]->ys=[]->Q (.ref p) H)/\(xs≠[]->ys≠[]->∀ r,H r=none->Q (.ref r) (upd H r (.tup (xs++ys))))
 | _,_=>False
def cB7:OpR X (binaryOp .Add) bO9:=by
 intro pins s σ H x y v u Q I a b h;unfold bO9 at h;split at h;exact bZ6 pins s σ H _ _ v u Q I a b ⟨_,_,rfl,rfl,h⟩;exact aM6 pins s σ H _ _ v u Q I a b ⟨_,_,rfl,rfl,h.1,h.2⟩;rename_i p q;rcases h with⟨xs,ys,d,f,g,q⟩ | ⟨xs,ys,d,f,g,j,k,l⟩;exact cA9 pins s σ H _ _ v u Q I a b ⟨_,_,xs,ys,rfl,rfl,d,f,g,q⟩;by_cases c:xs=[];cases a;cases b;obtain⟨its,m,n,_⟩:=I.tuple (eA d);obtain⟨i,r,o,_⟩:=I.tuple (eA f);have e:its=[]:=m.nil_iff.mpr c;subst e;exact bO8 n o ⟨.ref q,H,I,rfl,j c⟩;exact bN3 pins s σ H _ _ v u Q I a b ⟨p,q,xs,ys,rfl,rfl,eA d,eA f,c,g,k c,l c⟩;exact h.elim
end
section
variable{X:Cx}
theorem aS3:∀ {b:List Str} {us:List Value},bS (b.map V.str) us->∀ u∈us,∃ z t,u=.str z t
 | [],_,.nil=>λu a=>nomatch a
 | z::r,_,.cons c d=>λu a=>by
   rcases a9b.mp a with e | e;obtain⟨t,q⟩:=c;exact⟨z,t,e.trans q⟩;exact aS3 d u e
noncomputable def isZ(z:Str):Value->Bool
 | .str y _=>y==z
 | _=>false
theorem mO:∀ (p:Str) (l:List Str),risingS p l=true->(p::l).Pairwise λa b=>¬ b.cps.toList < a.cps.toList
 | p,[],_=>by simp
 | p,x::r,h=>by
   have h':(!ltCps x.cps.toList p.cps.toList&&risingS x r)=true:=h;rw[a7d,Bool.not_eq_true',ltCps_eq]at h';have e:=mO x r h'.2;have f:¬ x.cps.toList < p.cps.toList:=of_decide_eq_false h'.1;refine a1e.mpr ⟨λy c=>?_,e⟩;rcases a9b.mp c with rfl | c;exact f;have:=(a1e.mp e).1 y c;intro d;have g:p.cps.toList<=x.cps.toList:=f;have i:x.cps.toList<=y.cps.toList:=this;exact(List.le_trans g i) d
def mP:∀ (l:List Str),sortedS l=true->l.Pairwise λa b=>¬ b.cps.toList < a.cps.toList
 | [],_=>.nil
 | x::r,h=>mO x r h
def aN5{l m k:List Str}(c:l.Perm k)(d:m.Perm k)(s1:sortedS l=true)(s2:sortedS m=true):l=m:=by
 refine(c.trans d.symm).eq_of_pairwise (le:=λa b=>¬ b.cps.toList < a.cps.toList) (λa b _ _ e f=>?_) (mP l s1) (mP m s2);have h:a.cps.toList=b.cps.toList:=List.le_antisymm e f;have h':a.cps=b.cps:=Array.toList_inj.mp h;cases a;cases b;cases h';rfl
def bH9:List V->Hp->VK->Prop:=λxs H Q=>∃ p b zs,xs=[.ref p]/\eW H p=some (b,zs.map V.str)/\zs.length < 64/\∀ l a,H l=none->a.Perm zs->sortedS a=true->Q (.ref l) (upd H l (.lst (a.map V.str)))
theorem yE:∀ {us:List Value} {a:List Str},StrsAre us a->bS (a.map V.str) us
 | _,_,.nil=>.nil
 | _,_,.cons x t r=>.cons ⟨t,rfl⟩ (yE r)
def vI:sR X (.builtin "sorted") bH9:=by
 intro pins s σ H xs us Q I r h;obtain⟨p,b,zs,rfl,w,C,q⟩:=h;obtain⟨u,rfl,D⟩:=aB8 r;cases D;obtain⟨its,d,T,o,n,E,f,g,hd,l⟩:∃ (its:List Value),bS (zs.map V.str) its/\∃ (T:String) (o:Obj) (n:Nat),(T="list"\/T="tuple")/\s.heap.get? p=some o/\o.cls=.type T/\o.data=.seq its.toArray n/\zs.length<=sizeLine:=by
  cases b with
  | true=>
    obtain⟨its,d,pl,t⟩:=I.list (gW w);obtain⟨o,f,g,n,hd⟩:=pl.isList;exact⟨its,d,"list",o,n,.inl rfl,f,g,hd,by simpa using t⟩
  | false=>
    obtain⟨its,d,pl,t⟩:=I.tuple (eA w);obtain⟨o,f,g,n,hd⟩:=pl;exact⟨its,d,"tuple",o,n,.inr rfl,f,g,hd,by simpa using t⟩
 have x:its.length=zs.length:=by rw[← d.length,a8a]
 have v:StrsAre its zs:=vH d;refine Calls.call_function_entry kind_sorted plain_sorted entry_sorted (args_sorted1 _) ?_;unfold Builtin.«sorted»;refine a1X (m:=checkCount "sorted" 1 1 _) (a1Y ?_);refine a1X (wpAny_collect_seq p E f g hd (λh' F=>?_) (by simp only[List.size_toArray];lia));refine a1X (wpAny_newList ?_ (by rw[show its.toArray.toList.length=its.length from by simp];lia));have a:(h'.push (seqObj "list" its.toArray.toList.toArray 0)).get? h'.objs.size=some (seqObj "list" its.toArray 0):=by
  simpa using a3b (h:=h') (o:=seqObj "list" its.toArray.toList.toArray 0) rfl
 show wpAny _ _ _ _ _ {s with heap:=h'.push (seqObj "list" its.toArray.toList.toArray 0)};refine a1X (a2m (a2t slot_list_sort ⟨_,a,rfl⟩ entry_list_sort (list_sort_treeK strKind_oneLt a v.keysOf (λy z dG e=>keyKind_strs (by rw[← e];exact v)) (by lia) λst' G J=>⟨_,rfl,?_⟩) (args_list_sort _)));obtain⟨i,K,A,L⟩:=sorted_out_str v G J;obtain⟨e,M⟩:=sortedHeap_at (out:=(arrOf st').map (·.2)) a;have B:Inv X pins σ H {s with heap:=h'}:=I.kept (t':=s.toks) F;have c:∀ b o',h'.get? b=some o'->(sortedHeap (h'.push (seqObj "list" its.toArray.toList.toArray 0)) h'.objs.size its ((arrOf st').map (·.2))).get? b=some o':=λb o' j=>by
  have k:=a5b j;rw[sortedHeap_old (a2d k) (by rw[a7i];exact Nat.lt_succ_of_lt k)];exact a6a _ j
 refine a1Y ⟨_,rfl,.ref h'.objs.size,_,B.laid (t':=s.toks) (o:=.lst (i.map V.str)) c (a7a _) ?_,rfl,q _ i (B.hok.fresh (a7a _)) A L⟩;refine⟨?_,((arrOf st').map (·.2)).toList,e,yE K,by rw[Array.toArray_toList];exact M⟩;rw[a8a,A.length_eq];exact l
end
section
variable{prog:Program}{w:World}{A:Around}{E:Value->Shared->Prop}{s:Shared}
end
noncomputable abbrev lU(acc:Array Value)(c:Nat):Obj:={cls:=.type "list",dict:=none,data:=.seq acc c,slots:=#[]}
structure LoopJ(prog:Program)(w:World)(A:Around)(I S:Addr)(n:Nat)(J:Nat->Array Value->Heap->Prop)(K:Array Value->Heap->Prop):Prop where
 item:∀ i acc (s:Shared) (c:Nat) (Q:Option Value->Shared->Prop) (E:Value->Shared->Prop),i < n->J i acc s.heap->s.heap.get? S=some (lU acc c) ->
  (∀ v h' tk,J (i+1) (acc.push v) h'->h'.get? S=some (lU acc c)->Q (some v) {s with heap:=h',toks:=tk})->wpAny (model prog w) A (pyNext (.ref I)) Q E s
 done:∀ acc (s:Shared) (c:Nat) (Q:Option Value->Shared->Prop) (E:Value->Shared->Prop),J n acc s.heap->s.heap.get? S=some (lU acc c) ->
  (∀ h' tk,K acc h'->h'.get? S=some (lU acc c)->Q none {s with heap:=h',toks:=tk})->wpAny (model prog w) A (pyNext (.ref I)) Q E s
 frame:∀ i acc h h',J i acc h->h'.objs.size=h.objs.size->(∀ b o,b≠S->h.get? b=some o->h'.get? b=some o)->J i acc h'
section
variable{prog:Program}{w:World}{A:Around}{E:Value->Shared->Prop}{I S:Addr}{n:Nat}{J:Nat->Array Value->Heap->Prop}{K:Array Value->Heap->Prop}{R:Result->Shared->Prop}
def cB8(L:LoopJ prog w A.in1 I S n J K)(hn:n<=sizeLine)(res:Value):∀ (k i:Nat) (s:Shared) (acc:Array Value) (c:Nat),n-i=k->i<=n->J i acc s.heap->acc.size=i->s.heap.get? S=some (lU acc c) ->
  (∀ h' tk a j,K a h'->a.size=n->h'.get? S=some (lU a j)->R (.ok (.ret res)) {s with heap:=h',toks:=tk})->codeAny (model prog w) A (.builtin "list.extend.loop" ⟨[.ref S,.ref I,res],[]⟩) R s:=by
 intro k
 induction k with
 | zero=>
   intro i s acc c x hi l ha m p;obtain rfl:i=n:=by lia
   (refine a2w F.entry_extend_loop ?_;rw[a1g a1i _])
   (show wpAny _ A.in1 (pyNext (.ref I) >>= _) _ _ s;refine a1X (L.done acc s c _ _ l m λh' tk q d=>?_))
   exact a1Y (p h' tk acc c q ha d)
 | succ k y=>
   intro i s acc c x hi l ha m p;have f:i < n:=by lia
   (refine a2w F.entry_extend_loop ?_;rw[a1g a1i _])
   (show wpAny _ A.in1 (pyNext (.ref I) >>= _) _ _ s;refine a1X (L.item i acc s c _ _ f l m λv h' tk r d=>?_))
   (show wpAny _ A.in1 (updateSeq S (·.push v) >>= _) _ _ _;refine a1X ?_)
   refine a2N d rfl (a1Y ⟨a2H a1i _,y (i+1) _ (acc.push v) (c+1) (by lia) f ?_ (by rw[Array.size_push,ha]) ?_ ?_⟩) (by rw[ha];lia) (by show(acc.push v).size<=sizeLine+1;rw[Array.size_push,ha];lia);exact L.frame _ _ _ _ r (Heap.size_update ..) λb o hb e=>(a8d _ _ (a1d hb)).trans e;rw[a0e _ d rfl];simp[Obj.mapSeq];intro t g a j q u h;exact p t g a j q u h
end
section
variable{prog:Program}{w:World}{A:Around}{E:Value->Shared->Prop}{s:Shared}{I:Addr}{Q:Bool->Shared->Prop}
end
section
variable{prog:Program}{w:World}{A:Around}{E:Value->Shared->Prop}{s:Shared}
end
section
variable{X:Cx}
end
structure ZK(h0:Heap)(xs ys:Array Value)(acc:Array Value)(h:Heap):Prop where
 keep:∀ b o,h0.get? b=some o->h.get? b=some o
 got:∀ j,j < min xs.size ys.size->∃ T x y,acc[j]? = some (.ref T)/\xs[j]? = some x/\ys[j]? = some y/\IsPair h T x y/\h0.objs.size+6<=T
 nd:acc.toList.Nodup
section
variable{prog:Program}{w:World}{A:Around}{E:Value->Shared->Prop}{s:Shared}
end
section
variable{prog:Program}{w:World}{A:Around}{E:Value->Shared->Prop}{s:Shared}
end
section
variable{X:Cx}
end
noncomputable def aC6(t c:String):Bool:=t==c||(t=="bool"&&c=="int")
end L2
namespace Mr
open PySem L2 PyProof.Rows
inductive Tr where
 | leaf (z:Str) | node (l r:Tr)
end Mr
namespace L2
open PySem PyProof.Rows
end L2
namespace L2
open PySem
end L2
namespace L2
end L2
namespace Mr
open PySem L2
end Mr
namespace L2
open PySem
def bP0{X:Cx}(K:W.Frag)(b:X.K=K){tg l:Expr}{a:TE}(c:PE X l a):PI X tg l (cO7 K a):=by rw[← b];exact cB4 c
def aH8{X:Cx}{pos:Pos}(K:W.Frag)(b:X.K=K){es:List Expr}{k:Nat}{t:TGs}{n:Nat}(c:X.calm=true)(h:PGs X es t)
  (hn:(assignEach es X.env).length=n:=by rfl) (a:(assignEach es X.env).findIdx? (·.1)=none:=by rfl):PG X (.Tuple es k pos) (bC7 K n t):=by rw[← b];exact bO5 c h hn a
section
variable{X:Cx}{o e:Expr}{es:List Expr}{to:TE}{t:TA}{name:Str}{apos cpos:Pos}{T id:String}{r:V->List V->Hp->VK->Prop}
def kS(K:W.Frag)(g:X.K=K)(pa:PlainAttrs T)(slot:Slot T name id)(f:typeOf (.builtin id)=pure (.type "method_descriptor"))(h:MtR X id r)(i:PE X o to)(ha:PA X (e::es) t)
  (b:attributeBase o name X.env (eval o X.env)=eval o X.env:=by rfl)
  (d:((backTo cpos (starEach (e::es) X.env)).all (λx=>!x.1)&&(backToKw cpos (keywordEach [] X.env)).all (λx=>x.1.isSome)&&decide ((e::es).length+([]:List Keyword).length+(if([]:List Keyword).isEmpty then 0 else 1) < 30))=true:=by rfl)
  (c:(apos.endLine==cpos.line)=true:=by rfl) (hs:starEach (e::es) X.env=(false,eval e X.env)::starEach es X.env:=by rfl) (a:(backTo cpos (starEach es X.env)).any (·.1)=false:=by rfl) :
  PE X (.Call (.Attribute o name apos) (e::es) [] cpos) (tBM K T r to t):=by rw[← g];exact cK9 pa slot f h i ha b d c hs a
end
end L2
namespace Mr
open PySem L2
end Mr
namespace L2
open PySem
section
variable{H:Hp}{Q:VK}{p q:Addr}{xs:List V}
end
end L2
namespace L2
end L2
namespace Mr
open PySem L2
open PyProof.Rows
section
variable{p q f l sp:Addr}{t:Tr}{v:V}{es ls:List V}{zs:List Str}{H0 H H':Hp}{fs:List V}
end
end Mr
namespace L2
open PySem
section
variable{M:Model}{A:Around}{E:Value->Shared->Prop}{s:Shared}
end
open PySem.Spec PyProof.Rows
section
variable{P:Program}{w:World}{H:Hp}{h:Heap}{e:Addr}{C:Value}{d:Option Addr}{tb:Value}
end
section
variable{X:Cx}{pins:List (Addr×Obj)}{σ:St}{H:Hp}{s:Shared}
end
section
variable{P:Program}{w:World}{K:W.Frag}{mg:Str->Option Value}{base:Heap}{N:List Str}{qual:Str}{scope:Scope}{f:Addr}{cd:Value}{A:Around}{outer:List Env}{s:Shared}{H:Hp}{E:XK}
end
end L2
namespace PySem
section
variable{prog:Program}{w:World}{E:Value->Shared->Prop}{A:Around}{os:OsState}{h:Heap}{t:Nat}{g:Array GenState}{d:Drawn}{dG:List Value}{fI:Addr}{oI:Obj}{mN:Str->Option Value}
 {nm q:Str} {B newId initId:String} {C N:Addr} {bs bm bmB sub:List Value} {hdct ab:Bool} {sn:List Str} {col:Option Bool} {dd:Option Addr} {k0 k1 k2 k3 k5:Option Value}
end
end PySem
namespace L2
open PySem PySem.Spec PyProof.Rows
section
variable{P:Program}{w:World}{H:Hp}{h:Heap}{a:Addr}{o:HO}
end
section
variable{X:Cx}{pins:List (Addr×Obj)}{σ:St}{H:Hp}{s:Shared}
end
section
variable{X:Cx}{CX:CXT}{k:Nat}{f C:Addr}{fd:FuncData}{ps:List Str}{sp:Sp}{E:XK}{x:Str}{p pos:Pos}{e:Expr}{es:List Expr}{t:TA}{B newId initId:String}{bmB:List Value}
end
end L2
namespace L2
open PySem
section
variable{M:Model}{A:Around}{E:Value->Shared->Prop}{env:Env}
variable{nm q:Str}{C N:Addr}{bs bm:List Value}{hdct:Bool}{sn:List Str}{sub:List Value}{ab:Bool}{col:Option Bool}{dd:Option Addr}{k0 k1 k2 k3 k5:Option Value}{newId:String}
end
open PyProof.Rows
section
variable{prog:Program}{w:World}{A:Around}{E:Value->Shared->Prop}{h:Heap}{g:Array GenState}{d:Drawn}{t:Nat}{os:OsState}
variable{nm q:Str}{C N:Addr}{bs bm bmB:List Value}{hdct:Bool}{sn:List Str}{sub:List Value}{ab:Bool}{col:Option Bool}{dd:Option Addr}{k0 k1 k2 k3 k5:Option Value}{B newId initId:String}
end
open PySem.W PySem.Spec PySem.Builtin PySem.Builtin.ObjectAttr
section
variable{prog:Program}{w:World}{A:Around}{E:Value->Shared->Prop}{s:Shared}{K:Frag}{x C:Addr}{ox:Obj}{name:Str}{v:Value}{cd:ClassData}{bmB:List Value}{B:String}{Q:Unit->Shared->Prop}{R:Result->Shared->Prop}
end
end L2
namespace L2
open PySem PySem.W PySem.Spec PyProof.Rows
section
variable{prog:Program}{w:World}{A:Around}{E:Value->Shared->Prop}{s:Shared}{K:Frag}{x C:Addr}{ox:Obj}{od:Option Obj}{name:Str}{expr:Bool}{v:Value}{Q:Value->Shared->Prop}{B:String}
end
section
variable{M:Model}{A:Around}{E:Value->Shared->Prop}{s:Shared}
variable{K:Frag}{e C D:Addr}{oe:Obj}{Q:Bool->Shared->Prop}
end
section
variable{prog:Program}{w:World}{A:Around}{E:Value->Shared->Prop}{s:Shared}{K:Frag}{x C:Addr}{ox:Obj}{od:Option Obj}{B:String}
end
end L2
namespace L2
open PySem PySem.Spec PyProof.Rows
section
variable{X:Cx}{o e value:Expr}{to te tv:TE}{f:Str}{pos pos' apos:Pos}
end
section
variable{P:Program}{w:World}{K:W.Frag}{mg:Str->Option Value}{base:Heap}{N:List Str}{qual:Str}{scope:Scope}{f:Addr}{cd:Value}{A:Around}{outer:List Env}{s:Shared}{H:Hp}{E:XK}{x:Expr}{te:TE}{pos:Pos}
end
section
variable{X:Cx}{C:Addr}{x:Str}{p pos:Pos}{e:Expr}{es:List Expr}{t:TA}
end
section
variable{X:Cx}{R:Str}{CR:Addr}{rp apos pos:Pos}{a:Expr}{as:List Expr}{t:TA}
end
section
variable{X:Cx}{e:Expr}{te:TE}{z1:Str}{j:Nat}{p p' pos:Pos}
end
section
variable{X:Cx}{pins pins':List (Addr×Obj)}{σ:St}{H:Hp}{s:Shared}{E:Value->Shared->Prop}{e:Value}
end
section
variable{X:Cx}{CX:CXT}{k:Nat}{f:Addr}{fd:FuncData}{ps:List Str}{sp:Sp}{E:St->XK}{x:Str}{p pos:Pos}{e:Expr}{es:List Expr}{t:TA}{pins0:List (Addr×Obj)}
end
section
variable{X:Cx}{pins:List (Addr×Obj)}{σ:St}{H:Hp}{s:Shared}{T:Addr}{oT:Obj}
end
abbrev TH:=Addr->Addr->Option Addr->Addr->TS
section
variable{X:Cx}{t:Expr}{tt:TE}{n:Str}{i:Nat}{b0:Stmt}{body:List Stmt}{ts:TS}{pos:Pos}{dG:List ExceptHandler}{th:TH}
end
section
variable{κ:Type}[DecidableEq κ]
noncomputable def lV(kvs:List (κ×V))(k:κ):Option V:=(kvs.find? λa=>decide (a.1=k)).map (·.2)
def jT{p:κ×V}{r:List (κ×V)}{k:κ}(e:p.1=k):lV (p::r) k=some p.2:=by simp[lV,List.find?_cons,e]
def jU{p:κ×V}{r:List (κ×V)}{k:κ}(e:¬ p.1=k):lV (p::r) k=lV r k:=by simp[lV,List.find?_cons,e]
def bG5.isSome_eq{o:Option V}{u:Option Value}(r:bG5 o u):o.isSome=u.isSome:=by
 cases o with
 | none=>cases u with
   | none=>rfl
   | some _=>exact(show False from r).elim
 | some _=>cases u with
   | none=>exact(show False from r).elim
   | some _=>rfl
theorem bG5.getD{o:Option V}{u:Option Value}{d:V}{d':Value}(r:bG5 o u)(rd:eI d d'):eI (o.getD d) (u.getD d'):=by
 cases o with
 | none=>cases u with
   | none=>exact rd
   | some _=>exact(show False from r).elim
 | some _=>cases u with
   | none=>exact(show False from r).elim
   | some _=>exact r
end
def cL2{P:Program}{w:World}{k:Key}{u:Value}(r:eI (kV k) u):(cF P w).is k u=true:=by
 cases k with
 | inl i=>obtain⟨t,e⟩:=(show ∃ t,u=Value.int i t from r);subst e;exact aB4 P w i t
 | inr x=>obtain⟨t,e⟩:=(show ∃ t,u=Value.str x t from r);subst e;exact aB5 P w x t
theorem yF{P:Program}{w:World}:∀ {ks:List Key} {us:List Value},bS (ks.map kV) us->ItemsAre (cF P w) ks us
 | [],_,r=>by rw[List.map_nil]at r;cases r;exact .nil
 | k::ks,_,r=>by
   rw[a2e]at r;cases r with
   | cons h t=>exact .cons (cL2 h) (yF t)
abbrev KT(H:Hp):List (List Key×V)->List (List Key×Addr×Value)->Prop:=Paired λp q=>p.1=q.1/\H q.2.1=some (.tup (p.1.map kV))/\eI p.2 q.2.2
def KT.val{H:Hp}{kvs:List (List Key×V)}{xs:List (List Key×Addr×Value)}(r:KT H kvs xs)(k:List Key):bG5 (lV kvs k) ((atKey xs k).map (·.2)):=by
 induction r with
 | nil=>exact True.intro
 | @cons p q ps a h t f=>
   obtain⟨d,_,g⟩:=h;by_cases e:p.1=k
   ·have c:q.1=k:=d.symm.trans e;have b:atKey (q::a) k=some q.2:=by simp[atKey,List.find?_cons,c]
    rw[jT e,b];exact g
   ·have c:¬ q.1=k:=λz=>e (d.trans z);have b:atKey (q::a) k=atKey a k:=by simp[atKey,List.find?_cons,c]
    rw[jU e,b];exact f
def KT.keeps{H H':Hp}{kvs:List (List Key×V)}{xs:List (List Key×Addr×Value)}(r:KT H kvs xs)(a:∀ b ys,H b=some (.tup ys)->H' b=some (.tup ys)):KT H' kvs xs:=
 Paired.mapP r λ_ _ z=>⟨z.1,a _ _ z.2.1,z.2.2⟩
section
variable{P:Program}{w:World}{H:Hp}{h:Heap}{a:Addr}
def cB9{u:HO}(ok:HOk P w H h)(e:Rd H a u):dE P w H h a u:=e.ok ok
def bP1{kvs:List (Key×V)}(ok:HOk P w H h)(e:Rd H a (.dK kvs)):kvs.length<=sizeLine/\(a==sysModules)=false/\∃ vs,KV kvs vs/\h.DictOf (cF P w) a vs:=
 show dE P w H h a (.dK kvs)from cB9 ok e
def cL3{kvs:List (Key×V)}(ok:HOk P w H h)(e:H a=some (.dK kvs)):kvs.length<=sizeLine/\(a==sysModules)=false/\∃ vs,KV kvs vs/\h.DictOf (cF P w) a vs:=bP1 ok (.inl e)
def aH9{ks:List Key}(ok:HOk P w H h)(e:H a=some (.tup (ks.map kV))):(tupleKind (cF P w)).is h ks a:=by
 obtain⟨_,its,r,⟨o,b,c,n,d⟩,_⟩:=(show dE P w H h a (.tup (ks.map kV))from ok a _ e);exact⟨o,its.toArray,n,b,c,d,by simpa using yF r⟩
def bP2{kvs:List (List Key×V)}(ok:HOk P w H h)(e:Rd H a (.dT kvs)):kvs.length<=sizeLine/\(a==sysModules)=false /\
  ∃ xs,KT H kvs xs/\h.DictOfH (tupleKind (cF P w)) a xs:=by
 obtain⟨z,y,xs,r,o,es,ep,d,f,g,i,j⟩:=(show dE P w H h a (.dT kvs)from cB9 ok e);refine⟨z,y,xs,r,o,es,ep,d,f,g,i,λx b=>?_,j⟩;have all:∀ {l:List (List Key×V)} {m:List (List Key×Addr×Value)},KT H l m->∀ x∈m,(tupleKind (cF P w)).is h x.1 x.2.1:=by
  intro l m q
  induction q with
  | nil=>intro x b;exact nomatch b
  | @cons p q ps n c t k=>
    intro x b;rcases a9b.mp b with e | b;subst e;exact aH9 ok (by rw[← c.1];exact c.2.1);exact k x b
 exact all r x b
def cL4{kvs:List (List Key×V)}(ok:HOk P w H h)(e:H a=some (.dT kvs)):kvs.length<=sizeLine/\(a==sysModules)=false /\
  ∃ xs,KT H kvs xs/\h.DictOfH (tupleKind (cF P w)) a xs:=bP2 ok (.inl e)
end
section
variable{X:Cx}{pins:List (Addr×Obj)}{σ:St}{H:Hp}{s:Shared}{a:Addr}{y v:V}{u r:Value}{o:Option V}{A:Around}{E:Value->Shared->Prop}
def Inv.big(I:Inv X pins σ H s):sysModules < s.heap.objs.size:=by
 have h:mainGlobals < s.heap.objs.size:=(I.mod.glob.keeps I.bk).lt;exact a4g (by decide) h
def bP3{h':Heap}{t':Nat}{ob:HO}(I:Inv X pins σ H s)(mu:Mut (H a))(hs:Heap.SameBut a s.heap h')(d:∃ q,h'.get? a=some q)(c:dE X.prog X.w (upd H a ob) h' a ob) :
  Inv X pins σ (upd H a ob) {s with heap:=h',toks:=t'}:=
 I.write (x:=a) (e:=a) mu (.inl rfl) (λb q hb z=>(hs.2 b hb).trans z) d c
end
section
variable{X:Cx}{pins:List (Addr×Obj)}{σ:St}{H:Hp}{s:Shared}{a:Addr}{kvs:List (Key×V)}{k:Key}{u:Value}{A:Around}{E:Value->Shared->Prop}
end
section
variable{X:Cx}{o i e value:Expr}{pos pos' tpos:Pos}{td ty tv:TE}
end
def bC9{P:Program}{w:World}{H:Hp}(h:Heap)(hb:sysModules < h.objs.size):dE P w H (h.push {cls:=.type "dict",data:=.dict #[]}) h.objs.size (.dT []):=
 ⟨a3d _,beq_eq_false_iff_ne.mpr (a1d (a2d hb)),[],.nil,_,#[],0,a3b _ rfl,⟨rfl,rfl,rfl⟩,rfl,rfl,List.nodup_nil⟩
def aS4:TE:=λ_ H Q=>∀ p,H p=none->Q (.ref p) (upd H p (.dT []))
section
variable{X:Cx}{pos:Pos}
def bD0:PE X (.Dict [] [] pos) aS4:=λpins s σ H Q I h=>
 wpAny_Dict_empty ⟨.ref s.heap.objs.size,_,I.laid (a:=s.heap.objs.size) (o:=.dT []) (t':=s.toks) (λ_ _ q=>a6a _ q) (a7a _) (bC9 s.heap I.big),rfl,h _ (I.hok.fresh (a7a _))⟩
end
structure M2(X:Cx)(o:Expr)(m:Str)(apos:Pos)(e f:Expr)(cpos:Pos):Prop where
 base:attributeBase o m X.env (eval o X.env)=eval o X.env
 few:((backTo cpos (starEach [e,f] X.env)).all (λx=>!x.1)&&(backToKw cpos (keywordEach [] X.env)).all (λx=>x.1.isSome)
  && decide (([e,f]:List Expr).length+([]:List Keyword).length+(if([]:List Keyword).isEmpty then 0 else 1) < 30))=true
 line:(apos.endLine==cpos.line)=true
 trees:backTo cpos (starEach [e,f] X.env)=[(false,eval e X.env),(false,eval f X.env)]
def IsD(H:Hp)(a:Addr):Prop:=(∃ kvs,Rd H a (.dK kvs))\/∃ kvs,Rd H a (.dT kvs)
def bI0{X:Cx}{pins:List (Addr×Obj)}{σ:St}{H:Hp}{s:Shared}{a:Addr}(I:Inv X pins σ H s)(d:IsD H a) :
  s.TypeIs (.ref a) "dict"/\(∀ b,Value.ref a=.ref b->∃ ob,s.heap.get? b=some ob/\ob.dict=none)/\(a==sysModules)=false:=by
 rcases d with⟨kvs,e⟩ | ⟨kvs,e⟩;obtain⟨_,hd,vs,_,c⟩:=bP1 I.hok e;refine⟨c.typeIs,λb q=>?_,hd⟩;cases q;obtain⟨ob,_,_,f,g,_⟩:=c;exact⟨ob,f,g.2.1⟩;obtain⟨_,hd,xs,_,c⟩:=bP2 I.hok e;refine⟨c.typeIs,λb q=>?_,hd⟩;cases q;obtain⟨ob,_,_,f,g,_⟩:=c;exact⟨ob,f,g.2.1⟩
section
variable{X:Cx}{pins:List (Addr×Obj)}{σ:St}{H:Hp}{s:Shared}{a:Addr}{y d:V}{u r:Value}{o:Option V}{A:Around}{E:Value->Shared->Prop}
end
section
variable{X:Cx}{o e f:Expr}{apos cpos:Pos}{td ty tx:TE}
end
section
variable{X:Cx}{pins:List (Addr×Obj)}{σ:St}{H:Hp}{s:Shared}{a:Addr}{kvs:List (Key×V)}{A:Around}{E:Value->Shared->Prop}
end
section
variable{X:Cx}{pins:List (Addr×Obj)}{σ:St}{H:Hp}{s:Shared}{a:Addr}{y:V}{u:Value}{A:Around}{E:Value->Shared->Prop}
end
section
variable{X:Cx}
end
section
variable{K:W.Frag}{t:TA}{te to tv:TE}{f:Str}{σ:St}{H:Hp}{Q:VK}{D:Ends}{sp:Sp}{C:Addr}{E:XK}{Ex:St->XK}{tb:(St->XK)->TS}{th:TH}{i:Nat}{ts:TS}
end
end L2
namespace Mr
open PySem L2 PyProof.Rows
end Mr
namespace Mr
open PySem L2
section
variable{K:W.Frag}{H:Hp}{C t D0 D1 D2 D3:Addr}{b0 b1 b2 b3:Bool}
end
end Mr
namespace L2
open PySem PySem.Spec PyProof.Rows
section
variable{X:Cx}
end
section
variable{t tk tv td ty tx:TE}{r:List (TE×TE)}{σ:St}{H:Hp}{Q:VK}{R:List (V×V)->Hp->Prop}
end
end L2
namespace Mr
open PySem L2 PyProof.Rows
theorem vJ{m:Nat}{sep:Str}(hs:∀ c∈sep.cps.toList,c < m):∀ b:List Str,(∀ z∈b,∀ c∈z.cps.toList,c < m)->∀ c∈(Str.join sep b).cps.toList,c < m
 | [],_=>λc a=>by simp[Str.join,Str.empty]at a
 | [x],h=>λc a=>h x a3a c a
 | x::y::r,h=>λc a=>by
   have d:=vJ hs (y::r) λz f=>h z (a4a _ f);have e:(Str.join sep (x::y::r)).cps.toList=x.cps.toList++sep.cps.toList++(Str.join sep (y::r)).cps.toList:=by
    show(x++sep++Str.join sep (y::r)).cps.toList=_;rw[Str.cps_append,Str.cps_append,Array.toList_append,Array.toList_append]
   rw[e]at a;rcases a1c.mp a with a | a;rcases a1c.mp a with a | a;exact h x a3a c a;exact hs c a;exact d c a
def aC7{m:Nat}{sep:Str}(hs:∀ c∈sep.cps.toList,c < m)(a:List Str)(h:∀ z∈a,∀ c∈z.cps.toList,c < m):∀ c∈(Txt.join sep a).cps.toList,c < m:=by
 show ∀ c∈(Builtin.Str.glued sep a).cps.toList,c < m;rw[StrLaws.glued_eq_join];exact vJ hs a h
def bP4:∀ c∈(Str.ofString "abcdefghijklmnopqrstuvwxyz").cps.toList,c < 128:=by decide
end Mr
namespace Dv
open PySem L2
inductive D where
 | non | bl (b:Bool) | int (i:Int) | str (x:Str) | tup (l:List D) | lst (l:List D) | dic (ks vs:List D)
noncomputable instance:DecidableEq D:=λ_ _=>Classical.propDecidable _
noncomputable instance:Inhabited D:=⟨.non⟩
noncomputable def uU:Key->D
 | .inl i=>.int i
 | .inr x=>.str x
def bP5:HO->List D->List V->Prop
 | .dK kvs,ks,ws=>ks=kvs.map (λa=>uU a.1)/\ws=kvs.map (·.2)
 | .dT kvs,ks,ws=>ks=kvs.map (λa=>D.tup (a.1.map uU))/\ws=kvs.map (·.2)
 | _,_,_=>False
mutual
inductive Rp(H:Hp):D->V->Prop
 | non:Rp H .non .non
 | bl (b:Bool):Rp H (.bl b) (.bl b)
 | int (i:Int):Rp H (.int i) (.int i)
 | str (x:Str):Rp H (.str x) (.str x)
 | tup {l:List D} {p:Addr} {xs:List V}:H p=some (.tup xs)->Rps H l xs->Rp H (.tup l) (.ref p)
 | lst {l:List D} {p:Addr} {xs:List V} {o:Obj}:H p=some (.frz o (.lst xs))->Rps H l xs->Rp H (.lst l) (.ref p)
 | dic {ks vs:List D} {p:Addr} {o:Obj} {u:HO} {ws:List V}:H p=some (.frz o u)->bP5 u ks ws->Rps H vs ws->Rp H (.dic ks vs) (.ref p)
inductive Rps(H:Hp):List D->List V->Prop
 | nil:Rps H [] []
 | cons {d:D} {r:List D} {x:V} {xs:List V}:Rp H d x->Rps H r xs->Rps H (d::r) (x::xs)
end
structure Ext(H H':Hp):Prop where
 tup:∀ p xs,H p=some (.tup xs)->H' p=some (.tup xs)
 frz:∀ p o u,H p=some (.frz o u)->H' p=some (.frz o u)
def Ext.same{H H':Hp}(h:xN H H'):Ext H H':=⟨λp xs e=>h p _ e,λp o u e=>h p _ e⟩
mutual
theorem Rp.mono{H H':Hp}(a:Ext H H'):∀ {d:D} {x:V},Rp H d x->Rp H' d x
 | _,_,.non=>.non
 | _,_,.bl b=>.bl b
 | _,_,.int i=>.int i
 | _,_,.str x=>.str x
 | _,_,.tup h r=>.tup (a.tup _ _ h) (Rps.mono a r)
 | _,_,.lst h r=>.lst (a.frz _ _ _ h) (Rps.mono a r)
 | _,_,.dic h k r=>.dic (a.frz _ _ _ h) k (Rps.mono a r)
theorem Rps.mono{H H':Hp}(b:Ext H H'):∀ {l:List D} {xs:List V},Rps H l xs->Rps H' l xs
 | _,_,.nil=>.nil
 | _,_,.cons a r=>.cons (Rp.mono b a) (Rps.mono b r)
end
section
variable{H:Hp}
theorem Rps.length:∀ {l:List D} {xs:List V},Rps H l xs->l.length=xs.length
 | _,_,.nil=>rfl
 | _,_,.cons _ r=>by simp[Rps.length r]
theorem Rps.get:∀ {l:List D} {xs:List V} {i:Nat} {d:D},Rps H l xs->l[i]? = some d->∃ x,xs[i]? = some x/\Rp H d x
 | _,_,_,_,.nil,h=>by simp at h
 | _,_,0,_,.cons a r,h=>by simp at h;subst h;exact⟨_,rfl,a⟩
 | _,_,i+1,_,.cons a r,h=>by
   obtain⟨x,e,q⟩:=Rps.get (i:=i) r (by simpa using h);exact⟨x,by simpa using e,q⟩
theorem Rps.append:∀ {l m:List D} {xs ys:List V},Rps H l xs->Rps H m ys->Rps H (l++m) (xs++ys)
 | _,_,_,_,.nil,h=>h
 | _,_,_,_,.cons a r,h=>.cons a (Rps.append r h)
theorem Rps.take:∀ {l:List D} {xs:List V} (n:Nat),Rps H l xs->Rps H (l.take n) (xs.take n)
 | _,_,0,_=>.nil
 | _,_,_+1,.nil=>.nil
 | _,_,n+1,.cons a r=>.cons a (Rps.take n r)
theorem Rps.drop:∀ {l:List D} {xs:List V} (n:Nat),Rps H l xs->Rps H (l.drop n) (xs.drop n)
 | _,_,0,r=>r
 | _,_,_+1,.nil=>.nil
 | _,_,n+1,.cons _ r=>Rps.drop n r
theorem Rps.set:∀ {l:List D} {xs:List V} {d:D} {x:V} (i:Nat),Rps H l xs->Rp H d x->Rps H (l.set i d) (xs.set i x)
 | _,_,_,_,_,.nil,_=>.nil
 | _,_,_,_,0,.cons _ r,q=>.cons q r
 | _,_,_,_,i+1,.cons a r,q=>.cons a (Rps.set i r q)
theorem Rps.eraseIdx:∀ {l:List D} {xs:List V} (i:Nat),Rps H l xs->Rps H (l.eraseIdx i) (xs.eraseIdx i)
 | _,_,_,.nil=>.nil
 | _,_,0,.cons _ r=>r
 | _,_,i+1,.cons a r=>.cons a (Rps.eraseIdx i r)
theorem wL:∀ ns:List Int,Rps H (ns.map D.int) (ns.map V.int)
 | []=>.nil
 | n::r=>.cons (.int n) (wL r)
theorem aI0:∀ ns:List Str,Rps H (ns.map D.str) (ns.map V.str)
 | []=>.nil
 | n::r=>.cons (.str n) (aI0 r)
theorem Rps.ints_inv:∀ {ns:List Int} {xs:List V},Rps H (ns.map D.int) xs->xs=ns.map V.int
 | [],_,h=>by cases h;rfl
 | n::r,_,h=>by
   rw[a2e]at h;cases h with
   | cons a t=>cases a;rw[Rps.ints_inv t];rfl
theorem Rps.strs_inv:∀ {ns:List Str} {xs:List V},Rps H (ns.map D.str) xs->xs=ns.map V.str
 | [],_,h=>by cases h;rfl
 | n::r,_,h=>by
   rw[a2e]at h;cases h with
   | cons a t=>cases a;rw[Rps.strs_inv t];rfl
end
inductive Md where
 | val | own | par | lent
 deriving DecidableEq
noncomputable def Md.mt:Md->Bool
 | .own=>true
 | .par=>true
 | _=>false
structure Sl where
 m:Md
 d:D
abbrev Sg:=List (Option Sl)
def cN(H:Hp)(d:D)(p:Addr):Prop:=match d with
 | .lst l=>∃ xs,H p=some (.lst xs)/\Rps H l xs
 | .dic ks vs=>∃ u ws,H p=some u/\bP5 u ks ws/\Rps H vs ws
 | _=>False
theorem cN.mono{H H':Hp}{d:D}{p:Addr}(h:cN H d p)(e:Ext H H')(c:∀ o,H p=some o->H' p=some o):cN H' d p:=by
 unfold cN at h ⊢;split at h;obtain⟨xs,a,b⟩:=h;exact⟨xs,c _ a,b.mono e⟩;obtain⟨u,ws,a,b,f⟩:=h;exact⟨u,ws,c _ a,b,f.mono e⟩;exact h.elim
def cN.obj{H:Hp}{d:D}{p:Addr}(h:cN H d p):∃ o,H p=some o/\(∀ xs,o≠.tup xs)/\∀ ob u,o≠.frz ob u:=by
 unfold cN at h;split at h;obtain⟨xs,a,b⟩:=h;exact⟨_,a,⟨λ_ z=>(by cases z),λ_ _ z=>(by cases z)⟩⟩;obtain⟨u,ws,a,b,c⟩:=h;refine⟨_,a,λ_ z=>?_,λ_ _ z=>?_⟩<;>(subst z;exact b);exact h.elim
def bD1(H:Hp)(s:Sl)(v:V):Prop:=match s.m with
 | .val=>Rp H s.d v
 | _=>∃ p,v=.ref p/\cN H s.d p
def cO{H:Hp}{s:Sl}{v:V}(h:s.m≠.val):bD1 H s v↔∃ p,v=.ref p/\cN H s.d p:=by
 obtain⟨m,d⟩:=s;cases m with
 | val=>exact absurd rfl h
 | own=>exact Iff.rfl
 | par=>exact Iff.rfl
 | lent=>exact Iff.rfl
def Vw(H:Hp)(d:D)(v:V):Prop:=Rp H d v\/∃ p,v=.ref p/\cN H d p
def bD1.vw{H:Hp}{s:Sl}{v:V}(h:bD1 H s v):Vw H s.d v:=by
 by_cases e:s.m=.val;obtain⟨m,d⟩:=s;cases e;exact .inl h;exact .inr ((cO e).mp h)
inductive Vws(H:Hp):List D->List V->Prop
 | nil:Vws H [] []
 | cons {d:D} {r:List D} {x:V} {xs:List V}:Vw H d x->Vws H r xs->Vws H (d::r) (x::xs)
def gP(σ:Sg)(σV:St)(a:Addr):Prop:=∃ (i:Nat) (s:Sl),σ[i]? = some (some s)/\s.m.mt=true/\σV[i]? = some (some (.ref a))
def aI1(σ:Sg)(σV:St)(a:Addr):Prop:=∃ (i:Nat) (s:Sl),σ[i]? = some (some s)/\s.m≠.val/\σV[i]? = some (some (.ref a))
def gP.nv{σ:Sg}{σV:St}{a:Addr}(h:gP σ σV a):aI1 σ σV a:=by
 obtain⟨i,s,c,b,d⟩:=h;exact⟨i,s,c,λz=>(by rw[z]at b;cases b),d⟩
structure Gm where
 H₀:Hp
 pr:Addr->Prop
structure StOk(Γ:Gm)(H:Hp)(σ:Sg)(σV:St):Prop where
 rel:∀ (i:Nat) s,σ[i]? = some (some s)->∃ v,σV[i]? = some (some v)/\bD1 H s v
 dis:∀ (i j:Nat) s t p,i≠j->σ[i]? = some (some s)->σ[j]? = some (some t)->s.m.mt=true->t.m≠.val->σV[i]? = some (some (.ref p))->σV[j]? = some (some (.ref p))->False
 own:∀ (i:Nat) s p,σ[i]? = some (some s)->s.m=.own->σV[i]? = some (some (.ref p))->Γ.H₀ p=none
 par:∀ (i:Nat) s p,σ[i]? = some (some s)->s.m=.par->σV[i]? = some (some (.ref p))->Γ.pr p
 keep:∀ a o,Γ.H₀ a=some o->¬ Γ.pr a->H a=some o
 dom:∀ a,H a=none->Γ.H₀ a=none
 len:σ.length=σV.length
structure Step(σ:Sg)(σV:St)(H:Hp)(σ':Sg)(σV':St)(H':Hp):Prop where
 fr:∀ a o,H a=some o->¬ gP σ σV a->H' a=some o
 dom:∀ a,H' a=none->H a=none
 mu:∀ a,gP σ' σV' a->gP σ σV a\/H a=none
 nv:∀ a,aI1 σ' σV' a->aI1 σ σV a\/H a=none
 kp:∀ (i:Nat) s,σ[i]? = some (some s)->∃ s',σ'[i]? = some (some s')
 fix:∀ (i:Nat) s,σ[i]? = some (some s)->(s.m=.par\/s.m=.lent)->∃ s',σ'[i]? = some (some s')/\s'.m=s.m/\(s.m=.lent->s'.d=s.d)/\σV'[i]? = σV[i]?
 lt:∀ (i:Nat) s',σ'[i]? = some (some s')->s'.m=.lent->∃ s,σ[i]? = some (some s)/\s.m=.lent
section
variable{σ σ1 σ2:Sg}{σV σV1 σV2:St}{H H1 H2:Hp}{Γ:Gm}
def Step.refl:Step σ σV H σ σV H:=⟨λ_ _ h _=>h,λ_ h=>h,λ_ h=>.inl h,λ_ h=>.inl h,λi s h=>⟨s,h⟩,λi s h _=>⟨s,h,rfl,λ_=>rfl,rfl⟩,λi s h m=>⟨s,h,m⟩⟩
theorem Step.trans(a:Step σ σV H σ1 σV1 H1)(b:Step σ1 σV1 H1 σ2 σV2 H2):Step σ σV H σ2 σV2 H2 where
 fr:=λc o h n=>b.fr c o (a.fr c o h n) λz=>by
  rcases a.mu c z with q | q;exact n q;rw[h]at q;cases q
 dom:=λc h=>a.dom c (b.dom c h)
 mu:=λc h=>by
  rcases b.mu c h with q | q;exact a.mu c q;exact .inr (a.dom c q)
 nv:=λc h=>by
  rcases b.nv c h with q | q;exact a.nv c q;exact .inr (a.dom c q)
 kp:=λi s h=>by
  obtain⟨s1,d⟩:=a.kp i s h;exact b.kp i s1 d
 fix:=λi s h f=>by
  obtain⟨s1,d,e,g,j⟩:=a.fix i s h f;obtain⟨s2,k,l,p,r⟩:=b.fix i s1 d (by rw[e];exact f);exact⟨s2,k,l.trans e,λz=>(p (e.trans z)).trans (g z),r.trans j⟩
 lt:=λi s h m=>by
  obtain⟨s1,d,e⟩:=b.lt i s h m;exact a.lt i s1 d e
def StOk.mutObj(ok:StOk Γ H σ σV){a:Addr}(h:aI1 σ σV a):∃ o,H a=some o/\(∀ xs,o≠.tup xs)/\∀ ob u,o≠.frz ob u:=by
 obtain⟨i,s,b,c,d⟩:=h;obtain⟨v,e,r⟩:=ok.rel i s b;rw[d]at e;cases e;obtain⟨p,e,q⟩:=(cO c).mp r;cases e;exact q.obj
def Step.ext(st:Step σ σV H σ1 σV1 H1)(ok:StOk Γ H σ σV):Ext H H1:=by
 refine⟨λp xs h=>st.fr p _ h λz=>?_,λp o u h=>st.fr p _ h λz=>?_⟩;obtain⟨o,e,n,_⟩:=ok.mutObj z.nv;rw[h]at e;cases e;exact n _ rfl;obtain⟨o,e,_,n⟩:=ok.mutObj z.nv;rw[h]at e;cases e;exact n _ _ rfl
theorem bD1.mono{s:Sl}{v:V}(r:bD1 H s v)(e:Ext H H1)(b:∀ p o,v=.ref p->s.m≠.val->H p=some o->H1 p=some o):bD1 H1 s v:=by
 by_cases q:s.m=.val;obtain⟨m,d⟩:=s;cases q;exact Rp.mono e r;obtain⟨p,a,c⟩:=(cO q).mp r;exact(cO q).mpr ⟨p,a,c.mono e λo=>b p o a q⟩
theorem StOk.same(ok:StOk Γ H σ σV)(h:xN H H1):StOk Γ H1 σ σV:=
 ⟨λi s e=>by
  obtain⟨v,b,r⟩:=ok.rel i s e;exact⟨v,b,r.mono (.same h) λp o _ _ q=>h p o q⟩,ok.dis,ok.own,ok.par,λa o e n=>h a o (ok.keep a o e n),λa e=>ok.dom a (by
  cases q:H a with
  | none=>rfl
  | some o=>rw[h a o q]at e;cases e),ok.len⟩
def aS5(h:xN H H1){a:Addr}(e:H1 a=none):H a=none:=by
 cases q:H a with
 | none=>rfl
 | some o=>rw[h a o q]at e;cases e
def Step.same(h:xN H H1):Step σ σV H σ σV H1:=⟨λa o e _=>h a o e,λa e=>aS5 h e,λ_ h=>.inl h,λ_ h=>.inl h,λi s h=>⟨s,h⟩,λi s h _=>⟨s,h,rfl,λ_=>rfl,rfl⟩,λi s h m=>⟨s,h,m⟩⟩
end
inductive Res where
 | val (d:D) | own (d:D) | slot (i:Nat)
def kB(Γ:Gm)(H:Hp)(σ:Sg)(σV:St)(r:Res)(v:V):Prop:=match r with
 | .val d=>Rp H d v
 | .own d=>∃ p,v=.ref p/\cN H d p/\¬ aI1 σ σV p/\Γ.H₀ p=none
 | .slot i=>σV[i]? = some (some v)/\∃ s,σ[i]? = some (some s)
noncomputable def rd(σ:Sg):Res->Option D
 | .val d=>some d
 | .own d=>some d
 | .slot i=>match σ[i]? with
   | some (some s)=>some s.d
   | _=>none
section
variable{σ σ1:Sg}{σV σV1:St}{H H1:Hp}{Γ:Gm}{r:Res}{v:V}{d:D}
theorem kB.vw(ok:StOk Γ H σ σV)(h:kB Γ H σ σV r v)(e:rd σ r=some d):Vw H d v:=by
 cases r with
 | val d'=>cases e;exact .inl h
 | own d'=>cases e;obtain⟨p,a,b,_⟩:=h;exact .inr ⟨p,a,b⟩
 | slot i=>
   obtain⟨f,s,c⟩:=h;have g:some s.d=some d:=by
    have:rd σ (.slot i)=some s.d:=by show(match σ[i]? with | some (some s)=>some s.d | _=>none)=_;rw[c]
    rw[← this];exact e
   cases g;obtain⟨w,a,b⟩:=ok.rel i s c;rw[f]at a;cases a;exact b.vw
def kB.step(ok:StOk Γ H σ σV)(h:kB Γ H σ σV r v)(st:Step σ σV H σ1 σV H1):kB Γ H1 σ1 σV r v:=by
 cases r with
 | val d=>exact Rp.mono (st.ext ok) h
 | own d=>
   obtain⟨p,c,a,b,e⟩:=h;obtain⟨o,f,_⟩:=a.obj;refine⟨p,c,a.mono (st.ext ok) λo h=>st.fr p o h λz=>b z.nv,λz=>?_,e⟩;rcases st.nv p z with q | q;exact b q;rw[f]at q;cases q
 | slot i=>
   obtain⟨g,s,j⟩:=h;exact⟨g,st.kp i s j⟩
end
abbrev DE:=Sg->Option (Res×Sg)
abbrev DT:=Sg->Option (Bool×Sg)
abbrev DA:=Sg->Option (List Res×Sg)
inductive ResOks(Γ:Gm)(H:Hp)(σ:Sg)(σV:St):List Res->List V->Prop
 | nil:ResOks Γ H σ σV [] []
 | cons {r:Res} {rs:List Res} {v:V} {vs:List V}:kB Γ H σ σV r v->ResOks Γ H σ σV rs vs->(∀ d p,r=.own d->v=.ref p->∀ (j:Nat) d',rs[j]? = some (.own d')->vs[j]? ≠ some (.ref p))->ResOks Γ H σ σV (r::rs) (v::vs)
def Frh(H:Hp)(r:Res)(v:V):Prop:=∀ d p,r=.own d->v=.ref p->H p=none
def eL{H:Hp}{d:D}{v:V}:Frh H (.val d) v:=λ_ _ e=>nomatch e
def Frh.back{H c:Hp}{r:Res}{v:V}{σ b:Sg}{σV a:St}(f:Frh c r v)(st:Step σ σV H b a c):Frh H r v:=λd p e g=>st.dom p (f d p e g)
def dTE(Γ:Gm)(r:DE):TE:=λσV H Q=>∃ σ,StOk Γ H σ σV/\∃ res σ',r σ=some (res,σ') /\
 ∀ v H',StOk Γ H' σ' σV->kB Γ H' σ' σV res v->Step σ σV H σ' σV H'->Frh H res v->Q v H'
def peW{X:Cx}{e:Expr}{t t':TE}(h:PE X e t)(w:∀ σ H Q,t' σ H Q->t σ H Q):PE X e t':=λpins s σ H Q I q=>h pins s σ H Q I (w σ H Q q)
def ptW{X:Cx}{e:Expr}{t t':TT}(h:PT X e t)(w:∀ σ H Q,t' σ H Q->t σ H Q):PT X e t':=λpins s σ H Q I q=>h pins s σ H Q I (w σ H Q q)
def pwW{X:Cx}{e:Expr}{t t':TT}(h:PW X e t)(w:∀ σ H Q,t' σ H Q->t σ H Q):PW X e t':=λa pins s σ H Q I q=>h a pins s σ H Q I (w σ H Q q)
def paW{X:Cx}{e:List Expr}{t t':TA}(h:PA X e t)(w:∀ σ H Q,t' σ H Q->t σ H Q):PA X e t':=λa pins s σ H Q I q=>h a pins s σ H Q I (w σ H Q q)
def psW{X:Cx}{e:Stmt}{t t':TS}(h:PS X e t)(w:∀ D σ H,t' D σ H->t D σ H):PS X e t':=λpins s σ H D I q=>h pins s σ H D I (w D σ H q)
def cH9{X:Cx}{e:List Stmt}{t t':TS}(h:PSs X e t)(w:∀ D σ H,t' D σ H->t D σ H):PSs X e t':=λpins s σ H D I q=>h pins s σ H D I (w D σ H q)
structure GE(X:Cx)(e:Expr)(r:DE):Prop where
 to:∀ Γ,PE X e (dTE Γ r)
def dTT(Γ:Gm)(r:DT):TT:=λσV H Q=>∃ σ,StOk Γ H σ σV/\∃ b σ',r σ=some (b,σ')/\∀ H',StOk Γ H' σ' σV->Step σ σV H σ' σV H'->Q b H'
structure GT(X:Cx)(e:Expr)(r:DT):Prop where
 to:∀ Γ,PT X e (dTT Γ r)
structure GW(X:Cx)(e:Expr)(r:DT):Prop where
 to:∀ Γ,PW X e (dTT Γ r)
def GW.gt{X:Cx}{e:Expr}{r:DT}(h:GW X e r):GT X e r:=.mk λΓ=>(h.to Γ).pt
def cS0(H:Hp)(rs:List Res)(vs:List V):Prop:=∀ (j:Nat) d p,rs[j]? = some (.own d)->vs[j]? = some (.ref p)->H p=none
def dTA(Γ:Gm)(r:DA):TA:=λσV H Q=>∃ σ,StOk Γ H σ σV/\∃ rs σ',r σ=some (rs,σ')/\∀ vs H',StOk Γ H' σ' σV->ResOks Γ H' σ' σV rs vs->Step σ σV H σ' σV H'->cS0 H rs vs->Q vs H'
structure GA(X:Cx)(es:List Expr)(r:DA):Prop where
 to:∀ Γ,PA X es (dTA Γ r)
noncomputable def aJ(i:Nat):DE:=λσ=>match σ[i]? with
 | some (some s)=>some (if s.m=.val then .val s.d else .slot i,σ)
 | _=>none
def aB{X:Cx}{e:Expr}{i:Nat}(h:PE X e (bA2 i)):GE X e (aJ i):=.mk λΓ=>peW h λσV H Q ⟨σ,ok,res,σ',e,k⟩=>by
 unfold aJ at e;split at e;rename_i s hs;cases e;obtain⟨v,b,r⟩:=ok.rel i s hs;refine⟨v,b,k v H ok ?_ .refl (by split<;>exact λ_ _ e=>nomatch e)⟩;by_cases a:s.m=.val;rw[a1Z a];obtain⟨m,d⟩:=s;cases a;exact r;rw[a2k a];exact⟨b,s,hs⟩;cases e
noncomputable def dC(d:D):DE:=λσ=>some (.val d,σ)
def cL5{X:Cx}{e:Expr}{v:V}{d:D}(h:PE X e (tC v))(a:∀ H,Rp H d v):GE X e (dC d):=.mk λΓ=>peW h λσV H Q ⟨σ,ok,res,σ',e,k⟩=>by
 cases e;exact k v H ok (a H) .refl eL
def ge_int{X:Cx}{i:Int}{j pos}:GE X (.Constant (.int i) j pos) (dC (.int i)):=cL5 bY5 λ_=>.int i
def aN6{X:Cx}{i:Bool}{j pos}:GE X (.Constant (.bool i) j pos) (dC (.bl i)):=cL5 cJ0 λ_=>.bl i
def fS{X:Cx}{i:Str}{j pos}:GE X (.Constant (.str i) j pos) (dC (.str i)):=cL5 bG6 λ_=>.str i
def aC8(H H':Hp)(r:Res)(v:V):Prop:=match r with
 | .val d=>Rp H' d v
 | .own d=>∃ p,v=.ref p/\H p=none/\cN H' d p
 | .slot _=>False
def aC8.frh{H H':Hp}{r:Res}{v:V}(h:aC8 H H' r v):Frh H r v:=λd p a b=>by
 subst a b;obtain⟨q,e,c,_⟩:=h;cases e;exact c
def aC8.res{Γ:Gm}{H H':Hp}{σ:Sg}{σV:St}{r:Res}{v:V}(h:aC8 H H' r v)(ok:StOk Γ H σ σV):kB Γ H' σ σV r v:=by
 cases r with
 | val d=>exact h
 | own d=>
   obtain⟨p,b,a,c⟩:=h;refine⟨p,b,c,λz=>?_,ok.dom p a⟩;obtain⟨o,e,_⟩:=ok.mutObj z;rw[a]at e;cases e
 | slot i=>exact h.elim
abbrev F1:=D->Option Res
abbrev F2:=D->D->Option Res
abbrev FN:=List D->Option Res
def cS1(a:V->Hp->VK->Prop)(f:F1):Prop:=∀ H d x Q res,Vw H d x->f d=some res->(∀ v H',xN H H'->aC8 H H' res v->Q v H')->a x H Q
def xO(c:R2)(f:F2):Prop:=∀ H a b x y Q res,Vw H a x->Vw H b y->f a b=some res->(∀ v H',xN H H'->aC8 H H' res v->Q v H')->c x y H Q
def bP6(b:List V->Hp->VK->Prop)(f:FN):Prop:=∀ H a vs Q res,Vws H a vs->f a=some res->(∀ v H',xN H H'->aC8 H H' res v->Q v H')->b vs H Q
noncomputable def cI0(f:F1)(a:DE):DE:=λσ=>(a σ).bind λx=>(rd x.2 x.1).bind λd=>(f d).bind λr=>some (r,x.2)
noncomputable def aV(f:F2)(a b:DE):DE:=λσ=>(a σ).bind λx=>(b x.2).bind λy=>(rd y.2 x.1).bind λd=>(rd y.2 y.1).bind λe=>(f d e).bind λr=>some (r,y.2)
def aC{c d:Type}{o:Option c}{f:c->Option d}{b:d}(h:o.bind f=some b):∃ a,o=some a/\f a=some b:=by
 cases o with
 | none=>cases h
 | some a=>exact⟨a,rfl,h⟩
def sE{Γ:Gm}{l:R2}{f:F2}(p:xO l f){m n:DE}{σV:St}{H:Hp}{Q:VK}(h:dTE Γ (aV f m n) σV H Q):tOp l (dTE Γ m) (dTE Γ n) σV H Q:=by
 obtain⟨σ,ok,res,σ',e,k⟩:=h;obtain⟨⟨x,c⟩,q,e⟩:=aC e;obtain⟨⟨y,i⟩,s,e⟩:=aC e;obtain⟨t,u,e⟩:=aC e;obtain⟨w,z,e⟩:=aC e;obtain⟨r,A,e⟩:=aC e;cases e;refine⟨σ,ok,x,c,q,λB G d C g _=>⟨c,d,y,i,s,λD E a F b _=>?_⟩⟩;have j:=C.step d b;refine p E t w B D Q _ (j.vw a u) (F.vw a z) A λv H' sm o=>?_;exact k v H' (a.same sm) (o.res a) ((g.trans b).trans (.same sm)) (o.frh.back (g.trans b))
section
variable{X:Cx}{a b:Expr}{ra rb:DE}{pos:Pos}
def aP{op:Operator}{c:R2}{f:F2}(d:OpR X (binaryOp op) c)(e:xO c f)(ha:GE X a ra)(hb:GE X b rb):GE X (.BinOp a op b pos) (aV f ra rb):=
 .mk λΓ=>peW (cJ7 d (ha.to Γ) (hb.to Γ)) λ_ _ _=>sE e
def yG{op:CmpOp}{c:R2}{f:F2}(d:OpR X (compareOp op) c)(e:xO c f)(ha:GE X a ra)(hb:GE X b rb)(g:behindInMarks op b=false):GE X (.Compare a [op] [b] pos) (aV f ra rb):=
 .mk λΓ=>peW (bM6 d (ha.to Γ) (hb.to Γ) g) λ_ _ _=>sE e
noncomputable def kU(r:DE):DT:=λσ=>(r σ).bind λx=>(rd x.2 x.1).bind λd=>match d with
 | .bl b=>some (b,x.2)
 | _=>none
def aI2{r:DE}{σ σ':Sg}{b:Bool}(h:kU r σ=some (b,σ')):∃ x,r σ=some (x,σ')/\rd σ' x=some (.bl b):=by
 obtain⟨⟨x,c⟩,f,e⟩:=aC h;obtain⟨d,a,e⟩:=aC e;dsimp only at e a;split at e;cases e;exact⟨x,f,a⟩;cases e
def bP7{H:Hp}{b:Bool}{v:V}(h:Vw H (.bl b) v):v=.bl b:=by
 rcases h with h | ⟨p,_,h⟩;cases h;rfl;exact h.elim
def bD2{Γ:Gm}{r:DE}{σV:St}{H:Hp}{Q:Bool->Hp->Prop}(h:dTT Γ (kU r) σV H Q):dTE Γ r σV H (λx H'=>∃ k,x=.bl k/\Q k H'):=by
 obtain⟨σ,ok,b,σ',e,k⟩:=h;obtain⟨x,c,d⟩:=aI2 e;refine⟨σ,ok,x,σ',c,λv H' a f st _=>⟨b,bP7 (f.vw a d),k H' a st⟩⟩
def cD{op:CmpOp}{c:R2}{f:F2}(d:OpR X (compareOp op) c)(e:xO c f)(ha:GE X a ra)(hb:GE X b rb)(g:behindInMarks op b=false):GT X (.Compare a [op] [b] pos) (kU (aV f ra rb)):=
 .mk λΓ=>ptW (bM7 d (ha.to Γ) (hb.to Γ) g) λσ H Q h=>sE e (bD2 h)
end
def eM{H:Hp}{l:List D}{v:V}(h:Vw H (.tup l) v):∃ p xs,v=.ref p/\H p=some (.tup xs)/\Rps H l xs:=by
 rcases h with h | ⟨p,_,h⟩
 ·cases h with
  | tup h r=>exact⟨_,_,rfl,h,r⟩
 ·exact h.elim
def gZ{H:Hp}{l:List D}{v:V}(h:Vw H (.lst l) v):∃ p xs,v=.ref p/\eW H p=some (true,xs)/\Rps H l xs:=by
 rcases h with h | ⟨p,e,xs,h,r⟩
 ·cases h with
  | lst h r=>exact⟨_,_,rfl,bC2 h,r⟩
 ·exact⟨p,xs,e,bC1 h,r⟩
def cW{H:Hp}{i:Int}{v:V}(h:Vw H (.int i) v):v=.int i:=by
 rcases h with h | ⟨p,_,h⟩;cases h;rfl;exact h.elim
def kI{H:Hp}{i:Str}{v:V}(h:Vw H (.str i) v):v=.str i:=by
 rcases h with h | ⟨p,_,h⟩;cases h;rfl;exact h.elim
noncomputable def bV7:D->Option (Bool×List D)
 | .lst l=>some (true,l)
 | .tup l=>some (false,l)
 | _=>none
def aS6{H:Hp}{d:D}{v:V}{b:Bool}{l:List D}(h:Vw H d v)(e:bV7 d=some (b,l)):∃ p xs,v=.ref p/\eW H p=some (b,xs)/\Rps H l xs:=by
 cases d with
 | lst a=>cases e;exact gZ h
 | tup a=>cases e;obtain⟨p,xs,c,f,g⟩:=eM h;exact⟨p,xs,c,cM f,g⟩
 | _=>cases e
section
variable{X:Cx}{a b:Expr}{ra rb:DE}{pos:Pos}
variable{tA tB:DT}{dG:List Expr}
noncomputable def cI1(t u:DT):DT:=λσ=>(t σ).bind λx=>if x.1=true then u x.2 else some (false,x.2)
noncomputable def dOr(t u:DT):DT:=λσ=>(t σ).bind λx=>if x.1=true then some (true,x.2)else u x.2
def bP8(ha:GT X a tA):GW X (.BoolOp .And [a] pos) tA:=.mk λΓ=>bM3 (ha.to Γ)
def aI3(ha:GT X a tA):GW X (.BoolOp .Or [a] pos) tA:=.mk λΓ=>bY6 (ha.to Γ)
def cC0(ha:GT X a tA)(hb:GW X (.BoolOp .And (b::dG) pos) tB):GW X (.BoolOp .And (a::b::dG) pos) (cI1 tA tB):=.mk λΓ=>pwW (bY7 (ha.to Γ) (hb.to Γ)) λσV H Q ⟨σ,ok,c,σ',e,k⟩=>by
 obtain⟨⟨x,d⟩,l,e⟩:=aC e;refine⟨σ,ok,x,d,l,λm f g=>?_⟩;dsimp only at e;split at e;rename_i h;rw[a1Z h];exact⟨d,f,c,σ',e,λn i j=>k n i (g.trans j)⟩;rename_i h;rw[a2k h];cases e;exact k m f g
def bD3(ha:GT X a tA)(hb:GW X (.BoolOp .Or (b::dG) pos) tB):GW X (.BoolOp .Or (a::b::dG) pos) (dOr tA tB):=.mk λΓ=>pwW (cJ1 (ha.to Γ) (hb.to Γ)) λσV H Q ⟨σ,ok,c,σ',e,k⟩=>by
 obtain⟨⟨x,d⟩,l,e⟩:=aC e;refine⟨σ,ok,x,d,l,λm f g=>?_⟩;dsimp only at e;split at e;rename_i h;rw[a1Z h];cases e;exact k m f g;rename_i h;rw[a2k h];exact⟨d,f,c,σ',e,λn i j=>k n i (g.trans j)⟩
noncomputable def aS7(t u:DE):DE:=λσ=>(kU t σ).bind λx=>if x.1=true then u x.2 else some (.val (.bl false),x.2)
def bI1{op}{r:DE}(h:GE X a r):GE X (.BoolOp op [a] pos) r:=.mk λΓ=>bY8 (h.to Γ)
def bI2(ha:GE X a ra)(hb:GE X (.BoolOp .And (b::dG) pos) rb):GE X (.BoolOp .And (a::b::dG) pos) (aS7 ra rb):=.mk λΓ=>peW (bY9 (ha.to Γ) (hb.to Γ)) λσV H Q ⟨σ,ok,c,σ',e,k⟩=>by
 obtain⟨⟨x,g⟩,l,e⟩:=aC e;obtain⟨y,m,n⟩:=aI2 l;refine⟨σ,ok,y,g,m,λv o d p f _=>⟨x,bP7 (p.vw d n),?_⟩⟩;dsimp only at e;split at e;rename_i h;rw[a1Z h];exact⟨g,d,c,σ',e,λq r i s j t=>k q r i s (f.trans j) (t.back f)⟩;rename_i h;rw[a2k h];cases e;exact k _ o d (.bl false) f eL
end
def Fz:HO->Prop
 | .lst _=>True
 | .dK _=>True
 | .dT _=>True
 | _=>False
def aS8{X:Cx}{pins:List (Addr×Obj)}{σ:St}{H:Hp}{s:Shared}{p:Addr}{u:HO}(I:Inv X pins σ H s)(h:H p=some u)(d:Fz u):∃ o,Inv X pins σ (upd H p (.frz o u)) s:=by
 have nt:∀ b xs,H b=some (.tup xs)->b≠p:=λb xs e z=>by subst z;rw[h]at e;cases e;exact d
 have j:∀ b o x,H b=some (.frz o x)->b≠p:=λb o x e z=>by subst z;rw[h]at e;cases e;exact d
 have no:∀ b x,H b=some (.own x)->b≠p:=λb x e z=>by subst z;rw[h]at e;cases e;exact d
 have nb:∀ b x,H b=some (.tbl x)->b≠p:=λb x e z=>by subst z;rw[h]at e;cases e;exact d
 have f:∀ b,H b=none->b≠p:=λb e z=>by subst z;rw[h]at e;cases e
 obtain⟨o,r⟩:∃ o,s.heap.get? p=some o:=by
  have:=I.hok p u h;have l:=this.lt;cases q:s.heap.get? p with
  | some o=>exact⟨o,rfl⟩
  | none=>
    cases u with
    | lst xs=>obtain⟨_,_,_,_,e⟩:=this;rw[q]at e;cases e
    | dK kvs=>obtain⟨_,_,_,_,ob,_,_,e,_⟩:=this;rw[q]at e;cases e
    | dT kvs=>obtain⟨_,_,_,_,ob,_,_,e,_⟩:=this;rw[q]at e;cases e
    | _=>exact d.elim
 have st:∀ a x,dE X.prog X.w H s.heap a x->dE X.prog X.w (upd H p (.frz o u)) s.heap a x:=λa x k=>
  k.stay (λ_ _ _ e=>e) (λb e=>by rw[aL (no b _ e)];exact e) λb xs e=>by rw[aL (nt b _ e)];exact e
 refine⟨o,{I with base:=?_,free:=?_,freeC:=?_,pin:=?_,hok:=?_}⟩
 ·exact⟨I.base.keep,I.base.slot,λb ob q n t=>by
    have:=I.base.free b ob q n t;rw[aL (f b this)];exact this,I.base.there,λb xs e=>by
    have:=I.base.tups b xs e;rw[aL (nt b _ this)];exact this,λb ob x e=>by
    have:=I.base.frzs b ob x e;rw[aL (j b _ _ this)];exact this,λb ps e=>by
    obtain⟨m,g⟩:=I.base.tbls b ps e;exact⟨m,by rw[aL (nb b _ g)];exact g⟩⟩
 ·rw[aL (f _ I.free)];exact I.free
 ·intro x c e;rw[aL (f _ (I.freeC x c e))];exact I.freeC x c e
 ·intro q v;obtain⟨y,i,A⟩:=I.pin q v;exact⟨y,by rw[aL (f _ i)];exact i,A⟩
 ·intro a x e;by_cases ha:a=p;subst ha;rw[aO]at e;cases e;exact⟨r,st a u (I.hok a u h)⟩;rw[aL ha]at e;exact st a x (I.hok a x e)
def tFz(t:TE):TE:=λσ H Q=>t σ H λv H1=>Q v H1\/∃ p u,v=.ref p/\H1 p=some u/\Fz u/\∀ o,Q v (upd H1 p (.frz o u))
def cL6{X:Cx}{e:Expr}{t:TE}(h:PE X e t):PE X e (tFz t):=λpins s σ H Q I q=>
 thn (h pins s σ H _ I q) λu s1 ⟨v,d,b,c,a⟩=>by
  rcases a with a | ⟨p,x,j,f,g,a⟩;exact⟨v,d,b,c,a⟩;obtain⟨o,i⟩:=aS8 b f g;exact⟨v,_,i,c,a o⟩
def aS9{H:Hp}{d:D}{p:Addr}(h:cN H d p):∃ u,H p=some u/\Fz u/\∀ o H',Ext H H'->H' p=some (.frz o u)->Rp H' d (.ref p):=by
 unfold cN at h;split at h;obtain⟨xs,b,a⟩:=h;exact⟨_,b,True.intro,λo H' x e=>.lst e (a.mono x)⟩
 ·obtain⟨u,ws,b,a,c⟩:=h;refine⟨u,b,?_,λo H' x e=>.dic e a (c.mono x)⟩;cases u with
  | dK _=>exact True.intro
  | dT _=>exact True.intro
  | _=>exact a.elim
 ·exact h.elim
def aT0{H:Hp}{p:Addr}{u:HO}{o:Obj}(h:H p=some u)(a:Fz u):Ext H (upd H p (.frz o u)):=
 ⟨λb xs e=>by rw[aL (λz=>by subst z;rw[h]at e;cases e;exact a)];exact e,λb ob x e=>by rw[aL (λz=>by subst z;rw[h]at e;cases e;exact a)];exact e⟩
noncomputable def cO8(σ:Sg):Res->Option (D×Sg)
 | .val d=>some (d,σ)
 | .own d=>some (d,σ)
 | .slot i=>match σ[i]? with
   | some (some s)=>if s.m=.own then some (s.d,σ.set i (some ⟨.val,s.d⟩))else if s.m=.val then some (s.d,σ)else none
   | _=>none
noncomputable def dFz(r:DE):DE:=λσ=>(r σ).bind λx=>(cO8 x.2 x.1).bind λy=>some (.val y.1,y.2)
def aX{a:Type}{l:List a}{i j:Nat}{x y:a}(h:(l.set i x)[j]? = some y):(j=i/\y=x/\i < l.length)\/(j≠i/\l[j]? = some y):=by
 rw[List.getElem?_set]at h;split at h;rename_i e;split at h;cases h;exact .inl ⟨e.symm,rfl,by assumption⟩;cases h;rename_i e;exact .inr ⟨λz=>e z.symm,h⟩
def cQ{X:Cx}{e:Expr}{r:DE}(h:GE X e r):GE X e (dFz r):=.mk λΓ=>peW (cL6 (h.to Γ)) λσV H Q ⟨σ,ok,res,σ',e,k⟩=>by
 obtain⟨⟨x,σ1⟩,V,e⟩:=aC e;obtain⟨⟨d,M⟩,C,e⟩:=aC e;cases e;refine⟨σ,ok,x,σ1,V,λv T b A c W=>?_⟩;dsimp only at C;cases x with
 | val d'=>cases C;exact .inl (k v T b A c eL)
 | own d'=>
   cases C;obtain⟨p,rfl,N,Y,Z⟩:=A;obtain⟨u,F,G,O⟩:=aS9 N;have hn:H p=none:=W _ p rfl rfl;refine .inr ⟨p,u,rfl,F,G,λo=>?_⟩;have x:=aT0 (o:=o) F G;refine k _ _ ⟨λi s e=>?_,b.dis,b.own,b.par,λa ob e n=>?_,λa e=>?_,b.len⟩ (O o _ x aO) ⟨λa ob e n=>?_,λa e=>?_,c.mu,c.nv,c.kp,c.fix,c.lt⟩ eL;obtain⟨w,D,B⟩:=b.rel i s e;refine⟨w,D,B.mono x λq ob P m C=>?_⟩;rw[aL (λz=>Y ⟨i,s,e,m,by rw[D,P,z]⟩)];exact C;rw[aL (λz=>by subst z;rw[Z]at e;cases e)];exact b.keep a ob e n;by_cases z:a=p;subst z;rw[aO]at e;cases e;rw[aL z]at e;exact b.dom a e;rw[aL (λz=>by subst z;rw[hn]at e;cases e)];exact c.fr a ob e n;by_cases z:a=p;subst z;rw[aO]at e;cases e;rw[aL z]at e;exact c.dom a e
 | slot i=>
   obtain⟨A,s,hs⟩:=A;have g:(match σ1[i]? with | some (some s)=>if s.m=.own then some (s.d,σ1.set i (some ⟨.val,s.d⟩))else if s.m=.val then some (s.d,σ1)else none | _=>none)=some (d,M):=C;rw[hs]at g;dsimp only at g;obtain⟨w,D,B⟩:=b.rel i s hs;rw[A]at D;cases D;split at g
   ·rename_i I;cases g;obtain⟨m,d⟩:=s;cases I;obtain⟨p,rfl,N⟩:=(cO (s:=⟨.own,d⟩) (λz=>nomatch z)).mp B;obtain⟨u,F,G,O⟩:=aS9 N;refine .inr ⟨p,u,rfl,F,G,λo=>?_⟩;have x:=aT0 (o:=o) F G;have U:=O o _ x aO;have il:i < σ1.length:=(a0a.mp hs).1;have pm:gP σ1 σV p:=⟨i,_,hs,rfl,A⟩;have sub:∀ (j:Nat) t,(σ1.set i (some ⟨.val,d⟩))[j]? = some (some t)->t.m≠.val->j≠i/\σ1[j]? = some (some t):=λj t f I=>by
     rcases aX f with⟨_,z,_⟩ | z;cases z;exact absurd rfl I;exact z
    have J:∀ t:Sl,t.m.mt=true->t.m≠.val:=λt h z=>by rw[z]at h;cases h
    refine k _ _ ⟨λj t f=>?_,λj l t E q n f el m m'=>?_,λj t q f m=>?_,λj t q f m=>?_,λa ob e n=>?_,λa e=>?_,?_⟩ U
     ⟨λa ob e n=>?_,λa e=>?_,λa ⟨j,t,f,m,R⟩=>?_,λa ⟨j,t,f,m,R⟩=>?_,λj t f=>?_,λj t f m=>?_,λj t f m=>c.lt j t (sub j t f (by rw[m];exact λz=>nomatch z)).2 m⟩ eL
    ·rcases aX f with⟨z,L,_⟩ | ⟨z,L⟩;cases L;rw[z];exact⟨_,A,U⟩;obtain⟨w,D,S⟩:=b.rel j t L;refine⟨w,D,S.mono x λq ob P m C=>?_⟩;rw[aL (λy=>b.dis i j _ t p (a1d z) hs L rfl m A (by rw[D,P,y]))];exact C
    ·exact b.dis j l t E q n (sub j t f (J t m)).2 (sub l E el m').2 m m'
    ·exact b.own j t q (sub j t f (by rw[m];exact λz=>nomatch z)).2 m
    ·exact b.par j t q (sub j t f (by rw[m];exact λz=>nomatch z)).2 m
    ·have hp:=b.own i _ p hs rfl A;rw[aL (λz=>by subst z;rw[hp]at e;cases e)];exact b.keep a ob e n
    ·by_cases z:a=p;subst z;rw[aO]at e;cases e;rw[aL z]at e;exact b.dom a e
    ·rw[a8e];exact b.len
    ·by_cases z:a=p;subst z;rcases c.mu a pm with y | y;exact absurd y n;rw[e]at y;cases y;rw[aL z];exact c.fr a ob e n
    ·by_cases z:a=p;subst z;rw[aO]at e;cases e;rw[aL z]at e;exact c.dom a e
    ·exact c.mu a ⟨j,t,(sub j t f (J t m)).2,m,R⟩
    ·exact c.nv a ⟨j,t,(sub j t f m).2,m,R⟩
    ·obtain⟨E,K⟩:=c.kp j t f;by_cases z:j=i;subst z;exact⟨_,by rw[a1b il]⟩;exact⟨E,by rw[a2a (a1d z)];exact K⟩
    ·obtain⟨E,K,h⟩:=c.fix j t f m;refine⟨E,?_,h⟩;rw[a2a (λz=>?_)];exact K;subst z;rw[hs]at K;cases K;rcases m with m | m;have:=h.1;rw[m]at this;cases this;have:=h.1;rw[m]at this;cases this
   ·split at g;rename_i I;cases g;obtain⟨m,d⟩:=s;cases I;exact .inl (k v T b B c eL);cases g
noncomputable def aN:DA:=λσ=>some ([],σ)
noncomputable def aD(r:DE)(rs:DA):DA:=λσ=>(r σ).bind λx=>(rs x.2).bind λy=>some (x.1::y.1,y.2)
noncomputable def rds(σ:Sg):List Res->Option (List D)
 | []=>some []
 | r::rs=>(rd σ r).bind λd=>(rds σ rs).bind λa=>some (d::a)
noncomputable def vals:List Res->Option (List D)
 | []=>some []
 | .val d::rs=>(vals rs).bind λa=>some (d::a)
 | _=>none
theorem wM{Γ:Gm}{H:Hp}{σ:Sg}{σV:St}(ok:StOk Γ H σ σV):∀ {rs:List Res} {vs:List V} {ds:List D},ResOks Γ H σ σV rs vs->rds σ rs=some ds->Vws H ds vs
 | _,_,_,.nil,e=>by cases e;exact .nil
 | _,_,_,.cons h t _,e=>by
   obtain⟨d,a,e⟩:=aC e;obtain⟨ds,b,e⟩:=aC e;cases e;exact .cons (h.vw ok a) (wM ok t b)
theorem kW{Γ:Gm}{H:Hp}{σ:Sg}{σV:St}:∀ {rs:List Res} {vs:List V} {ds:List D},ResOks Γ H σ σV rs vs->vals rs=some ds->Rps H ds vs
 | _,_,_,.nil,e=>by cases e;exact .nil
 | .val d::_,_,_,.cons h t _,e=>by
   obtain⟨ds,a,e⟩:=aC e;cases e;exact .cons h (kW t a)
 | .own d::_,_,_,.cons h t _,e=>by cases e
 | .slot d::_,_,_,.cons h t _,e=>by cases e
section
variable{X:Cx}{e:Expr}{es:List Expr}{r:DE}{rs:DA}{pos:Pos}
def aE:GA X [] aN:=.mk λΓ=>paW bH0 λσV H Q ⟨σ,ok,res,σ',e,k⟩=>by
 cases e;exact k [] H ok .nil .refl (λj d p e=>by simp at e)
def aA(ha:GE X e r)(n:GA X es rs)(hs:starEach (e::es) X.env=(false,eval e X.env)::starEach es X.env:=by kernel_rfl):GA X (e::es) (aD r rs):=.mk λΓ=>paW (bM8 (ha.to Γ) (n.to Γ) hs) λσV H Q ⟨σ,ok,res,σ',e,k⟩=>by
 obtain⟨⟨x,a⟩,s,e⟩:=aC e;obtain⟨⟨ys,t⟩,u,e⟩:=aC e;cases e;refine⟨σ,ok,x,a,s,λv E b l c w=>⟨a,b,ys,_,u,λvs y i z f m=>?_⟩⟩;refine k (v::vs) y i (.cons (l.step b f) z λd p g h j d' A B=>?_) (c.trans f) λj d p g h=>?_;subst g h;obtain⟨q,C,ow,_⟩:=l;cases C;obtain⟨o,D,_⟩:=ow.obj;have:=m j d' p A B;rw[D]at this;cases this;cases j with
 | zero=>simp at g h;subst g h;exact w d p rfl rfl
 | succ j=>exact c.dom p (m j d p (by simpa using g) (by simpa using h))
noncomputable def dCB(f:FN)(a:DA):DE:=λσ=>(a σ).bind λx=>(rds x.2 x.1).bind λb=>(f b).bind λr=>some (r,x.2)
def cY{c:List V->Hp->VK->Prop}{f:FN}{d:DA}(i:bP6 c f)(h:∀ Γ,PE X e (tCB c (dTA Γ d))):GE X e (dCB f d):=.mk λΓ=>peW (h Γ) λσV H Q ⟨σ,ok,res,σ',e,k⟩=>by
 obtain⟨⟨x,j⟩,l,e⟩:=aC e;obtain⟨m,n,e⟩:=aC e;obtain⟨r,o,e⟩:=aC e;cases e;refine⟨σ,ok,x,_,l,λvs p a q b s=>?_⟩;refine i p m vs Q _ (wM a q n) o λv H' sm g=>?_;exact k v H' (a.same sm) (g.res a) (b.trans (.same sm)) (g.frh.back b)
noncomputable def kL(b:DA):DE:=λσ=>(b σ).bind λx=>(vals x.1).bind λa=>if a.length<=sizeLine then some (.val (.tup a),x.2)else none
noncomputable def wN(b:DA):DE:=λσ=>(b σ).bind λx=>(vals x.1).bind λa=>if a.length<=sizeLine then some (.own (.lst a),x.2)else none
def bW{f}(h:GA X es rs):GE X (.Tuple es f pos) (kL rs):=.mk λΓ=>peW (bZ9 (h.to Γ)) λσV H Q ⟨σ,ok,res,σ',e,k⟩=>by
 obtain⟨⟨x,g⟩,i,e⟩:=aC e;obtain⟨o,j,e⟩:=aC e;dsimp only at e;split at e;rename_i l;cases e;refine⟨σ,ok,x,_,i,λvs c a m b q=>?_⟩;have d:=kW m j;refine⟨by rw[← d.length];exact l,λp n=>?_⟩;have sm:xN c (upd c p (.tup vs)):=bM n;exact k _ _ (a.same sm) (.tup aO (d.mono (.same sm))) (b.trans (.same sm)) eL;cases e
def eB(h:GA X es rs):GE X (.List es pos) (wN rs):=.mk λΓ=>peW (bH1 (h.to Γ)) λσV H Q ⟨σ,ok,res,σ',e,k⟩=>by
 obtain⟨⟨x,i⟩,j,e⟩:=aC e;obtain⟨l,m,e⟩:=aC e;dsimp only at e;split at e;rename_i n;cases e;refine⟨σ,ok,x,_,j,λvs c a o b q=>?_⟩;have d:=kW o m;refine⟨by rw[← d.length];exact n,λp f=>?_⟩;have sm:xN c (upd c p (.lst vs)):=bM f;have g:aC8 c (upd c p (.lst vs)) (.own (.lst l)) (.ref p):=⟨p,rfl,f,vs,aO,d.mono (.same sm)⟩;exact k _ _ (a.same sm) (g.res a) (b.trans (.same sm)) (g.frh.back b);cases e
end
section
variable{Γ:Gm}{H:Hp}{σ:Sg}{σV:St}{i:Nat}{s:Sl}{p:Addr}{o':HO}{d':D}
def StOk.ownAt(ok:StOk Γ H σ σV)(hs:σ[i]? = some (some s))(a:s.m≠.val):∃ p,σV[i]? = some (some (.ref p))/\cN H s.d p:=by
 obtain⟨v,e,r⟩:=ok.rel i s hs;obtain⟨p,rfl,b⟩:=(cO a).mp r;exact⟨p,e,b⟩
def fT{m:Md}(h:m.mt=true):m≠.val:=λz=>by rw[z]at h;cases h
def cN.ext{d:D}(h:cN H d p):Ext H (upd H p o'):=by
 obtain⟨o,e,n1,n2⟩:=h.obj;exact⟨λb xs q=>by rw[aL (λz=>by subst z;rw[e]at q;cases q;exact n1 _ rfl)];exact q,λb ob x q=>by rw[aL (λz=>by subst z;rw[e]at q;cases q;exact n2 _ _ rfl)];exact q⟩
def StOk.write(ok:StOk Γ H σ σV)(hs:σ[i]? = some (some s))(g:s.m.mt=true)(k:σV[i]? = some (some (.ref p)))(ow:cN (upd H p o') d' p) :
  StOk Γ (upd H p o') (σ.set i (some ⟨s.m,d'⟩)) σV/\Step σ σV H (σ.set i (some ⟨s.m,d'⟩)) σV (upd H p o'):=by
 obtain⟨K,A,r⟩:=ok.ownAt hs (fT g);rw[k]at A;cases A;have x:Ext H (upd H p o'):=r.ext;have B:i < σ.length:=(a0a.mp hs).1;have back:∀ (j:Nat) t,(σ.set i (some ⟨s.m,d'⟩))[j]? = some (some t)->∃ t',σ[j]? = some (some t')/\t'.m=t.m:=λj t b=>by
  rcases aX b with⟨z,h,_⟩ | ⟨z,h⟩;cases h;subst z;exact⟨s,hs,rfl⟩;exact⟨t,h,rfl⟩
 refine⟨⟨λj t b=>?_,λj l t t' q n b D m m'=>?_,λj t q b m=>?_,λj t q b m=>?_,λa ob e n=>?_,λa e=>?_,by rw[a8e];exact ok.len⟩,
  ⟨λa ob e n=>?_,λa e=>?_,λa ⟨j,t,b,m,u⟩=>?_,λa ⟨j,t,b,m,u⟩=>?_,λj t b=>?_,λj t b m=>?_,λj t b m=>?_⟩⟩
 ·rcases aX b with⟨z,h,_⟩ | ⟨z,h⟩;cases h;subst z;exact⟨_,k,(cO (s:=⟨s.m,d'⟩) (fT g)).mpr ⟨p,rfl,ow⟩⟩;obtain⟨w,C,v⟩:=ok.rel j t h;refine⟨w,C,v.mono x λq ob E m F=>?_⟩;rw[aL (λy=>ok.dis i j _ t p (a1d z) hs h g m k (by rw[C,E,y]))];exact F
 ·obtain⟨c,d,f⟩:=back j t b;obtain⟨G,I,J⟩:=back l t' D;exact ok.dis j l c G q n d I (by rw[f];exact m) (by rw[J];exact m')
 ·obtain⟨c,d,f⟩:=back j t b;exact ok.own j c q d (f.trans m)
 ·obtain⟨c,d,f⟩:=back j t b;exact ok.par j c q d (f.trans m)
 ·have:a≠p:=λz=>by
   subst z;cases o:s.m with
   | own=>rw[ok.own i s a hs o k]at e;cases e
   | par=>exact n (ok.par i s a hs o k)
   | val=>rw[o]at g;cases g
   | lent=>rw[o]at g;cases g
  rw[aL this];exact ok.keep a ob e n
 ·by_cases z:a=p;subst z;rw[aO]at e;cases e;rw[aL z]at e;exact ok.dom a e
 ·rw[aL (λz=>n ⟨i,s,hs,g,by rw[z];exact k⟩)];exact e
 ·by_cases z:a=p;subst z;rw[aO]at e;cases e;rw[aL z]at e;exact e
 ·obtain⟨c,d,f⟩:=back j t b;exact .inl ⟨j,c,d,by rw[f];exact m,u⟩
 ·obtain⟨c,d,f⟩:=back j t b;exact .inl ⟨j,c,d,by rw[f];exact m,u⟩
 ·by_cases z:j=i;subst z;exact⟨_,by rw[a1b B]⟩;exact⟨t,by rw[a2a (a1d z)];exact b⟩
 ·by_cases z:j=i;subst z;rw[hs]at b;cases b;exact⟨⟨s.m,d'⟩,by rw[a1b B],rfl,λq=>(by rw[q]at g;cases g),rfl⟩;exact⟨t,by rw[a2a (a1d z)];exact b,rfl,λ_=>rfl,rfl⟩
 ·obtain⟨c,d,f⟩:=back j t b;exact⟨c,d,f.trans m⟩
end
abbrev FM:=D->List D->Option (D×D)
def cL7(r:V->List V->Hp->VK->Prop)(f:FM):Prop:=∀ H d p a vs Q d' e,cN H d p->Rps H a vs->f d a=some (d',e)->(∀ o' v,cN (upd H p o') d' p->Rp (upd H p o') e v->Q v (upd H p o'))->r (.ref p) vs H Q
def cO9(r:V->List V->Hp->VK->Prop)(f:FM):Prop:=∀ H d p a vs Q d' e,cN H d p->Vws H a vs->f d a=some (d',e)->(∀ o' v,cN (upd H p o') d' p->Rp (upd H p o') e v->Q v (upd H p o'))->r (.ref p) vs H Q
noncomputable def bD4(f:FM)(i:Nat)(ds:List D)(σ:Sg):Option (Res×Sg):=match σ[i]? with
 | some (some s)=>if s.m.mt=true then(f s.d ds).bind λy=>some (.val y.2,σ.set i (some ⟨s.m,y.1⟩))else none
 | _=>none
noncomputable def tyD(T:String):D->Bool
 | .lst _=>T=="list"
 | .dic _ _=>T=="dict"
 | _=>false
noncomputable def aC9(T:String)(i:Nat)(σ:Sg):Bool:=match σ[i]? with
 | some (some s)=>decide (s.m≠.val)&&tyD T s.d
 | _=>false
noncomputable def uV(T:String)(i:Nat)(f:FM)(a:DA):DE:=λσ=>if aC9 T i σ=true then(a σ).bind λx=>(vals x.1).bind λb=>bD4 f i b x.2 else none
noncomputable def aT1(T:String)(i:Nat)(f:FM)(a:DA):DE:=λσ=>if aC9 T i σ=true then(a σ).bind λx=>(rds x.2 x.1).bind λb=>bD4 f i b x.2 else none
def cC1{K:W.Frag}{T:String}{H:Hp}{d:D}{p:Addr}(h:cN H d p)(e:tyD T d=true):tyV K T (.ref p) H:=by
 unfold cN at h;split at h;obtain⟨xs,a,_⟩:=h;exact .inl ⟨by simpa[tyD]using e,xs,SqL.of a⟩
 ·obtain⟨u,ws,a,b,_⟩:=h;refine .inr (.inr (.inl ⟨by simpa[tyD]using e,?_⟩));cases u with
  | dK kvs=>exact .inl ⟨kvs,a⟩
  | dT kvs=>exact .inr ⟨kvs,a⟩
  | _=>exact b.elim
 ·exact h.elim
def kX{f:FM}{i:Nat}{ds:List D}{σ σ':Sg}{res:Res}(h:bD4 f i ds σ=some (res,σ')):∃ s d' e,σ[i]? = some (some s)/\s.m.mt=true/\f s.d ds=some (d',e)/\res=.val e/\σ'=σ.set i (some ⟨s.m,d'⟩):=by
 unfold bD4 at h;split at h;rename_i s hs;split at h;rename_i a;obtain⟨⟨d',e⟩,b,c⟩:=aC h;cases c;exact⟨s,d',e,hs,a,b,rfl,rfl⟩;cases h;cases h
def wO{T:String}{i:Nat}{σ:Sg}(h:aC9 T i σ=true):∃ s,σ[i]? = some (some s)/\s.m≠.val/\tyD T s.d=true:=by
 unfold aC9 at h;split at h;rename_i s hs;rw[a7d,a2n]at h;exact⟨s,hs,h.1,h.2⟩;cases h
section
variable{X:Cx}{e:Expr}{ra:DA}{K:W.Frag}{T:String}{r:V->List V->Hp->VK->Prop}{f:FM}{i:Nat}
def lW(w:cL7 r f)(h:∀ Γ,PE X e (tBM K T r (bA2 i) (dTA Γ ra))):GE X e (uV T i f ra):=.mk λΓ=>peW (h Γ) λσV H Q ⟨σ,ok,res,σ',e,k⟩=>by
 unfold uV at e;split at e;rename_i hn;obtain⟨⟨x,c⟩,z,e⟩:=aC e;obtain⟨A,B,e⟩:=aC e;obtain⟨s,d',y,hs,u,C,rfl,rfl⟩:=kX e;obtain⟨G,g,j,l⟩:=wO hn;obtain⟨p,ep,ow⟩:=ok.ownAt g j;refine⟨_,ep,cC1 ow l,σ,ok,x,c,z,λvs D a E m I=>?_⟩;obtain⟨J,b,n⟩:=a.ownAt hs (fT u);rw[ep]at b;cases b;refine w D s.d p A vs Q d' y n (kW E B) C λo' v o F=>?_;obtain⟨q,t⟩:=a.write hs u ep o;exact k v _ q F (m.trans t) eL;cases e
def bP9(w:cO9 r f)(h:∀ Γ,PE X e (tBM K T r (bA2 i) (dTA Γ ra))):GE X e (aT1 T i f ra):=.mk λΓ=>peW (h Γ) λσV H Q ⟨σ,ok,res,σ',e,k⟩=>by
 unfold aT1 at e;split at e;rename_i hn;obtain⟨⟨x,c⟩,z,e⟩:=aC e;obtain⟨A,B,e⟩:=aC e;obtain⟨s,d',y,hs,u,C,rfl,rfl⟩:=kX e;obtain⟨G,g,j,l⟩:=wO hn;obtain⟨p,ep,ow⟩:=ok.ownAt g j;refine⟨_,ep,cC1 ow l,σ,ok,x,c,z,λvs D a E m I=>?_⟩;obtain⟨J,b,n⟩:=a.ownAt hs (fT u);rw[ep]at b;cases b;refine w D s.d p A vs Q d' y n (wM a E B) C λo' v o F=>?_;obtain⟨q,t⟩:=a.write hs u ep o;exact k v _ q F (m.trans t) eL;cases e
end
inductive Out where
 | nx (σ:Sg) | rt (r:Res) (σ:Sg) | bk (σ:Sg) | ct (σ:Sg) | ex (c:Str) (f:Option (Str×D)) (σ:Sg)
abbrev DS:=Sg->Option Out
structure Ex where
 ok:Hp->Str->Option (Str×D)->Value->Option Addr->Prop
 to:St->XK
noncomputable def Ex.no:Ex:=⟨λ_ _ _ _ _=>False,λ_ _ _ _=>False⟩
def aT2(Γ:Gm)(E:Ex)(σ:Sg)(σV:St)(H:Hp)(o:Out)(D:Ends):Prop:=match o with
 | .nx σ'=>∀ σV' H',StOk Γ H' σ' σV'->Step σ σV H σ' σV' H'->D.nx σV' H'
 | .rt r σ'=>∀ v σV' H',StOk Γ H' σ' σV'->kB Γ H' σ' σV' r v->Step σ σV H σ' σV' H'->D.rt v H'
 | .bk σ'=>∀ σV' H',StOk Γ H' σ' σV'->Step σ σV H σ' σV' H'->D.bk σV' H'
 | .ct σ'=>∀ σV' H',StOk Γ H' σ' σV'->Step σ σV H σ' σV' H'->D.ct σV' H'
 | .ex c f σ'=>∀ x d σV' H',StOk Γ H' σ' σV'->E.ok H' c f x d->Step σ σV H σ' σV' H'->E.to σV' x d H'
def dTS(Γ:Gm)(E:Ex)(r:DS):TS:=λD σV H=>∃ σ,StOk Γ H σ σV/\∃ o,r σ=some o/\aT2 Γ E σ σV H o D
structure GS(E:Ex)(X:Cx)(s:Stmt)(r:DS):Prop where
 to:∀ Γ,PS X s (dTS Γ E r)
structure GSs(E:Ex)(X:Cx)(s:List Stmt)(r:DS):Prop where
 to:∀ Γ,PSs X s (dTS Γ E r)
def aT2.after{Γ:Gm}{E:Ex}{σ b:Sg}{σV a:St}{H e:Hp}{o:Out}{D:Ends}(h:aT2 Γ E σ σV H o D)(st:Step σ σV H b a e):aT2 Γ E b a e o D:=by
 cases o with
 | nx σ'=>exact λσV' H' ok s=>h σV' H' ok (st.trans s)
 | rt r σ'=>exact λv σV' H' ok q s=>h v σV' H' ok q (st.trans s)
 | bk σ'=>exact λσV' H' ok s=>h σV' H' ok (st.trans s)
 | ct σ'=>exact λσV' H' ok s=>h σV' H' ok (st.trans s)
 | ex c f σ'=>exact λx d σV' H' ok q s=>h x d σV' H' ok q (st.trans s)
noncomputable def lX:DS:=λσ=>some (.nx σ)
noncomputable def cG(a b:DS):DS:=λσ=>(a σ).bind λo=>match o with
 | .nx c=>b c
 | o=>some o
noncomputable def wP(r:DE):DS:=λσ=>(r σ).bind λx=>some (.nx x.2)
noncomputable def mQ(r:DE):DS:=λσ=>(r σ).bind λx=>some (.rt x.1 x.2)
noncomputable def cL8:DS:=λσ=>some (.rt (.val .non) σ)
noncomputable def aD0(c:DT)(a b:DS):DS:=λσ=>(c σ).bind λx=>if x.1=true then a x.2 else b x.2
section
variable{X:Cx}{E:Ex}{st:Stmt}{dG:List Stmt}{a b:DS}{pos:Pos}{e:Expr}{r:DE}
def eN:GSs E X [] lX:=.mk λΓ=>cH9 bM4 λD σV H ⟨σ,ok,o,e,k⟩=>by
 cases e;exact k σV H ok .refl
def aU(h:GS E X st a):GSs E X [st] a:=.mk λΓ=>aB6 (h.to Γ)
def bD5{Γ:Gm}{E:Ex}{D:Ends}{σV:St}{H:Hp}(h:dTS Γ E (cG a b) D σV H):bZ0 (dTS Γ E a) (dTS Γ E b) D σV H:=by
 obtain⟨σ,ok,o,e,k⟩:=h;obtain⟨j,m,e⟩:=aC e;refine⟨σ,ok,j,m,?_⟩;cases j with
 | nx d=>exact λl n g i=>⟨d,g,o,e,k.after i⟩
 | rt r σ'=>cases e;exact k
 | bk σ'=>cases e;exact k
 | ct σ'=>cases e;exact k
 | ex c f σ'=>cases e;exact k
def aF(c:GS E X st a)(d:GSs E X dG b):GSs E X (st::dG) (cG a b):=.mk λΓ=>cH9 (wE (c.to Γ) (d.to Γ)) λ_ _ _=>bD5
def lY(d:GE X e r)(hs:swapsWith e none pos.line X.env=pure false:=by rfl):GS E X (.Expr e pos) (wP r):=.mk λΓ=>psW (aQ6 (d.to Γ) hs) λD σV H ⟨σ,ok,o,e,k⟩=>by
 obtain⟨⟨x,a⟩,f,e⟩:=aC e;cases e;exact⟨σ,ok,x,a,f,λv g b h c _=>k σV g b c⟩
def bX(d:GE X e r):GS E X (.Return (some e) pos) (mQ r):=.mk λΓ=>psW (bG7 (d.to Γ)) λD σV H ⟨σ,ok,o,e,k⟩=>by
 obtain⟨⟨x,a⟩,f,e⟩:=aC e;cases e;exact⟨σ,ok,x,a,f,λv g b h c _=>k v σV g b h c⟩
def sC{c:Expr}{l m:List Stmt}{t:DT}(i:GT X c t)(ha:GSs E X l a)(hb:GSs E X m b):GS E X (.If c l m pos) (aD0 t a b):=.mk λΓ=>psW (cJ5 (i.to Γ) (ha.to Γ) (hb.to Γ)) λD σV H ⟨σ,ok,o,e,k⟩=>by
 obtain⟨⟨x,d⟩,j,e⟩:=aC e;refine⟨σ,ok,x,d,j,λn f g=>?_⟩;dsimp only at e;split at e;rename_i h;rw[a1Z h];exact⟨d,f,o,e,k.after g⟩;rename_i h;rw[a2k h];exact⟨d,f,o,e,k.after g⟩
end
noncomputable def fJ(σ:Sg)(i:Nat):Bool:=match σ[i]? with
 | some none=>true
 | some (some s)=>decide (s.m=.val)||decide (s.m=.own)
 | none=>false
def kY{σ:Sg}{i:Nat}(h:fJ σ i=true):i < σ.length:=by
 unfold fJ at h;split at h;rename_i e;exact(a0a.mp e).1;rename_i e;exact(a0a.mp e).1;cases h
def bD6{σ:Sg}{i:Nat}{s:Sl}(h:fJ σ i=true)(hs:σ[i]? = some (some s)):s.m=.val\/s.m=.own:=by
 unfold fJ at h;rw[hs]at h;simpa using h
section
variable{Γ:Gm}{H H0:Hp}{σ σ0:Sg}{σV σV0:St}{i:Nat}{d:D}{v:V}
def StOk.put(ok:StOk Γ H σ σV)(h:fJ σ i=true)(r:Rp H d v):StOk Γ H (σ.set i (some ⟨.val,d⟩)) (σV.set i (some v)) where
 rel:=λj t c=>by
  rcases aX c with⟨z,a,_⟩ | ⟨z,a⟩;cases a;subst z;exact⟨v,by rw[a1b (by rw[← ok.len];exact kY h)],r⟩;obtain⟨w,k,f⟩:=ok.rel j t a;exact⟨w,by rw[a2a (a1d z)];exact k,f⟩
 dis:=λj l t o q n c p m m' b e=>by
  rcases aX c with⟨z,a,_⟩ | ⟨z,a⟩;cases a;cases m;rcases aX p with⟨y,g,_⟩ | ⟨y,g⟩;cases g;exact m' rfl;rw[a2a (a1d z)]at b;rw[a2a (a1d y)]at e;exact ok.dis j l t o q n a g m m' b e
 own:=λj t q c m b=>by
  rcases aX c with⟨z,a,_⟩ | ⟨z,a⟩;cases a;cases m;rw[a2a (a1d z)]at b;exact ok.own j t q a m b
 par:=λj t q c m b=>by
  rcases aX c with⟨z,a,_⟩ | ⟨z,a⟩;cases a;cases m;rw[a2a (a1d z)]at b;exact ok.par j t q a m b
 keep:=ok.keep
 dom:=ok.dom
 len:=by rw[a8e,a8e];exact ok.len
def Step.put(st:Step σ0 σV0 H0 σ σV H)(w:fJ σ i=true)(m:Md)(q:m=.val\/m=.own/\∀ p,v=.ref p->H0 p=none):Step σ0 σV0 H0 (σ.set i (some ⟨m,d⟩)) (σV.set i (some v)) H:=by
 have b:m≠.lent:=by rcases q with rfl | ⟨rfl,_⟩<;>exact λz=>nomatch z
 have x:=kY w;have h:∀ t,σ[i]? = some (some t)->t.m≠.par/\t.m≠.lent:=λt e=>by
  rcases bD6 w e with z | z<;>(rw[z];exact⟨(λy=>by cases y),(λy=>by cases y)⟩)
 refine⟨st.fr,st.dom,λa ⟨j,t,f,mt,g⟩=>?_,λa ⟨j,t,f,nv,g⟩=>?_,λj t f=>?_,λj t f k=>?_,λj t f k=>?_⟩
 ·rcases aX f with⟨z,c,_⟩ | ⟨z,c⟩;cases c;subst z;rcases q with rfl | ⟨_,r⟩;cases mt;have:=a0a.mp g;obtain⟨A,l⟩:=this;rw[List.getElem_set_self]at l;exact .inr (r a (a5a l));rw[a2a (a1d z)]at g;exact st.mu a ⟨j,t,c,mt,g⟩
 ·rcases aX f with⟨z,c,_⟩ | ⟨z,c⟩;cases c;subst z;rcases q with rfl | ⟨_,r⟩;exact absurd rfl nv;have:=a0a.mp g;obtain⟨A,l⟩:=this;rw[List.getElem_set_self]at l;exact .inr (r a (a5a l));rw[a2a (a1d z)]at g;exact st.nv a ⟨j,t,c,nv,g⟩
 ·obtain⟨n,o⟩:=st.kp j t f;by_cases z:j=i;subst z;exact⟨_,by rw[a1b x]⟩;exact⟨n,by rw[a2a (a1d z)];exact o⟩
 ·obtain⟨n,o,s,B,C⟩:=st.fix j t f k;have z:j≠i:=λz=>by
   subst z;obtain⟨n1,n2⟩:=h n o;rcases k with u | u;exact n1 (s.trans u);exact n2 (s.trans u)
  exact⟨n,by rw[a2a (a1d z)];exact o,s,B,by rw[a2a (a1d z)];exact C⟩
 ·rcases aX f with⟨z,c,_⟩ | ⟨z,c⟩;cases c;exact absurd k b;exact st.lt j t c k
def StOk.putOwn{p:Addr}(ok:StOk Γ H σ σV)(g:fJ σ i=true)(ow:cN H d p)(hn:¬ aI1 σ σV p)(h0:Γ.H₀ p=none):StOk Γ H (σ.set i (some ⟨.own,d⟩)) (σV.set i (some (.ref p))) where
 rel:=λj t e=>by
  rcases aX e with⟨z,c,_⟩ | ⟨z,c⟩;cases c;subst z;exact⟨.ref p,by rw[a1b (by rw[← ok.len];exact kY g)],p,rfl,ow⟩;obtain⟨w,s,h⟩:=ok.rel j t c;exact⟨w,by rw[a2a (a1d z)];exact s,h⟩
 dis:=λj l t k q n e o m m' a b=>by
  have r:i < σV.length:=by rw[← ok.len];exact kY g
  rcases aX e with⟨z,c,_⟩ | ⟨z,c⟩;subst z;rw[a1b r]at a;have a:=a5a (a5a a);cases a;rcases aX o with⟨y,f,_⟩ | ⟨y,f⟩;exact n y.symm;rw[a2a (a1d y)]at b;exact hn ⟨l,k,f,m',b⟩;rw[a2a (a1d z)]at a;rcases aX o with⟨y,f,_⟩ | ⟨y,f⟩;subst y;rw[a1b r]at b;have b:=a5a (a5a b);cases b;exact hn ⟨j,t,c,fT m,a⟩;rw[a2a (a1d y)]at b;exact ok.dis j l t k q n c f m m' a b
 own:=λj t q e m a=>by
  rcases aX e with⟨z,c,_⟩ | ⟨z,c⟩;subst z;rw[a1b (by rw[← ok.len];exact kY g)]at a;have a:=a5a (a5a a);cases a;exact h0;rw[a2a (a1d z)]at a;exact ok.own j t q c m a
 par:=λj t q e m a=>by
  rcases aX e with⟨z,c,_⟩ | ⟨z,c⟩;cases c;cases m;rw[a2a (a1d z)]at a;exact ok.par j t q c m a
 keep:=ok.keep
 dom:=ok.dom
 len:=by rw[a8e,a8e];exact ok.len
end
noncomputable def cP0(i:Nat)(r:Res)(σ:Sg):Option Sg:=match r with
 | .val d=>if fJ σ i=true then some (σ.set i (some ⟨.val,d⟩))else none
 | .own d=>if fJ σ i=true then some (σ.set i (some ⟨.own,d⟩))else none
 | .slot _=>none
noncomputable def dW(i:Nat)(r:DE):DS:=λσ=>(r σ).bind λx=>(cP0 i x.1 x.2).bind λa=>some (.nx a)
def aI4{Γ:Gm}{E:Ex}{i:Nat}{r:DE}{D:Ends}{σV:St}{H:Hp}(h:dTS Γ E (dW i r) D σV H):dTE Γ r σV H (λx n=>D.nx (σV.set i (some x)) n):=by
 obtain⟨σ,ok,o,e,k⟩:=h;obtain⟨⟨x,b⟩,s,e⟩:=aC e;obtain⟨c,m,e⟩:=aC e;cases e;refine⟨σ,ok,x,b,s,λv n f q g t=>?_⟩;cases x with
 | val d=>
   have a:(if fJ b i=true then some (b.set i (some ⟨.val,d⟩))else none)=some c:=m;split at a;rename_i l;cases a;exact k _ _ (f.put l q) (g.put l .val (.inl rfl));cases a
 | own d=>
   have a:(if fJ b i=true then some (b.set i (some ⟨.own,d⟩))else none)=some c:=m;split at a;rename_i l;cases a;obtain⟨p,rfl,u,w,y⟩:=q;exact k _ _ (f.putOwn l u w y) (g.put l .own (.inr ⟨rfl,λp e=>t _ p rfl e⟩));cases a
 | slot j=>cases m
def cC2{X:Cx}{E:Ex}{i:Nat}{st:Stmt}{r:DE}(h:∀ Γ,PS X st (bM5 (dTE Γ r) (uP i))):GS E X st (dW i r):=.mk λΓ=>psW (h Γ) λ_ _ _ h=>aI4 h
noncomputable def hU(x:Str):List D:=x.cps.toList.map λc=>.str ⟨#[c]⟩
def yH{H:Hp}(x:Str):Rps H (hU x) (dI x):=by
 unfold hU dI
 induction x.cps.toList with
 | nil=>exact .nil
 | cons a r b=>exact .cons (.str _) b
abbrev DG:=D->Sg->Option Sg
abbrev DGs:=List D->Sg->Option Sg
def aT3(own:List Nat)(g:TG)(e:DG):Prop:=∀ Γ H b a c σ σV d v σ' Q,StOk Γ H σ σV->Step b a c σ σV H->Rp H d v->e d σ=some σ' ->
 (∀ σV',StOk Γ H σ' σV'->Step b a c σ' σV' H->σV'.length=σV.length->(∀ i,i∉own->σV'[i]? = σV[i]? /\ σ'[i]? = σ[i]?)->Q σV' H)->g v σV H Q
def aT4(own:List Nat)(g:TGs)(e:DGs):Prop:=∀ Γ H b a c σ σV d vs σ' Q,StOk Γ H σ σV->Step b a c σ σV H->Rps H d vs->e d σ=some σ' ->
 (∀ σV',StOk Γ H σ' σV'->Step b a c σ' σV' H->σV'.length=σV.length->(∀ i,i∉own->σV'[i]? = σV[i]? /\ σ'[i]? = σ[i]?)->Q σV' H)->g vs σV H Q
noncomputable def dgN(i:Nat):DG:=λd σ=>if fJ σ i=true then some (σ.set i (some ⟨.val,d⟩))else none
noncomputable def aN7:DGs:=λa σ=>if a.isEmpty then some σ else none
noncomputable def hV(g:DG)(b:DGs):DGs:=λc σ=>match c with
 | d::r=>(g d σ).bind λa=>b r a
 | []=>none
noncomputable def aT5(n:Nat)(a:DGs):DG:=λd σ=>match d with
 | .tup l=>if l.length=n then a l σ else none
 | .str z=>if z.length=n then a (hU z) σ else none
 | _=>none
def bH{own:List Nat}{i:Nat}(h:i∈own):aT3 own (uP i) (dgN i):=by
 intro Γ H c a f σ σV d v σ' Q ok st r e k;unfold dgN at e;split at e;rename_i b;cases e;refine k _ (ok.put b r) (st.put b .val (.inl rfl)) (by simp) λj hj=>?_;have:i≠j:=λz=>hj (by rw[← z];exact h);exact⟨a2a this,a2a this⟩;cases e
def aD1{own:List Nat}:aT4 own cO3 aN7:=by
 intro Γ H b a c σ σV d vs σ' Q ok st r e k;unfold aN7 at e;cases r with
 | nil=>cases e;exact⟨rfl,k _ ok st rfl λ_ _=>⟨rfl,rfl⟩⟩
 | cons _ _=>cases e
def eG{own:List Nat}{g:TG}{p:DG}{q:TGs}{c:DGs}(w:aT3 own g p)(x:aT4 own q c):aT4 own (bZ1 g q) (hV p c):=by
 intro Γ H d b s σ σV B vs σ' Q ok st r e k;cases r with
 | nil=>cases e
 | cons a t=>
   obtain⟨f,y,e⟩:=aC e;refine⟨_,_,rfl,w Γ H d b s σ σV _ _ f _ ok st a y λh l m z u=>?_⟩;refine x Γ H d b s f h _ _ σ' _ l m t e λj n o A v=>?_;exact k j n o (A.trans z) λi hi=>⟨(v i hi).1.trans (u i hi).1,(v i hi).2.trans (u i hi).2⟩
def bI3{own:List Nat}{K:W.Frag}{n:Nat}{i:TGs}{a:DGs}(h:aT4 own i a):aT3 own (bC7 K n i) (aT5 n a):=by
 intro Γ H f b j σ σV d v σ' Q ok st r e k;cases d with
 | tup l=>
   have c:(if l.length=n then a l σ else none)=some σ':=e;split at c;rename_i g;obtain⟨p,xs,rfl,o,m⟩:=eM (.inl r);exact⟨xs,cM o,by rw[← m.length];exact g,h Γ H f b j σ σV l xs σ' Q ok st m c k⟩;cases c
 | str z=>
   have c:(if z.length=n then a (hU z) σ else none)=some σ':=e;split at c;rename_i g;cases r;exact⟨g,h Γ H f b j σ σV _ _ σ' Q ok st (yH z) c k⟩;cases c
 | _=>cases e
noncomputable def cC3(g:DG)(r:DE):DS:=λσ=>(r σ).bind λx=>match x.1 with
 | .val d=>(g d x.2).bind λa=>some (.nx a)
 | _=>none
def bI4{X:Cx}{E:Ex}{own:List Nat}{st:Stmt}{r:DE}{g:TG}{m:DG}(p:aT3 own g m)(h:∀ Γ,PS X st (bM5 (dTE Γ r) g)):GS E X st (cC3 m r):=.mk λΓ=>psW (h Γ) λD σV H ⟨σ,ok,o,e,k⟩=>by
 obtain⟨⟨x,a⟩,q,e⟩:=aC e;refine⟨σ,ok,x,a,q,λv n c s f u=>?_⟩;cases x with
 | val d=>
   obtain⟨i,t,e⟩:=aC e;cases e;exact p Γ n σ σV H a σV d v i _ c f s t λb j l _ _=>k b n j l
 | own d=>cases e
 | slot d=>cases e
noncomputable def lend(i:Nat)(σ:Sg):Sg:=match σ[i]? with
 | some (some s)=>if s.m.mt=true then σ.set i (some ⟨.lent,s.d⟩)else σ
 | _=>σ
noncomputable def unl(i:Nat)(a σ:Sg):Sg:=match a[i]?,σ[i]? with
 | some (some s0),some (some s)=>if s0.m.mt=true then σ.set i (some ⟨s0.m,s.d⟩)else σ
 | _,_=>σ
noncomputable def lendO(l:Option Nat)(σ:Sg):Sg:=match l with
 | some i=>lend i σ
 | none=>σ
noncomputable def vK(l:Option Nat)(a σ:Sg):Sg:=match l with
 | some i=>unl i a σ
 | none=>σ
section
variable{Γ:Gm}{H H1 H2:Hp}{σ σ1 σ2:Sg}{σV σV2:St}{i:Nat}{s:Sl}
def wQ(hs:σ[i]? = some (some s))(a:s.m.mt=true):lend i σ=σ.set i (some ⟨.lent,s.d⟩):=by
 unfold lend;rw[hs];simp only[a,if_true]
def aD2(h:∀ s,σ[i]? = some (some s)->s.m.mt=false):lend i σ=σ:=by
 unfold lend;split;rename_i s hs;rw[a2k (by rw[h s hs];exact a9d)];rfl
theorem StOk.lend(ok:StOk Γ H σ σV):StOk Γ H (lend i σ) σV:=by
 by_cases g:∃ s,σ[i]? = some (some s)/\s.m.mt=true
 ·obtain⟨s,hs,f⟩:=g;rw[wQ hs f];obtain⟨p,ep,ow⟩:=ok.ownAt hs (fT f);have back:∀ (j:Nat) t,(σ.set i (some ⟨.lent,s.d⟩))[j]? = some (some t)->(j=i/\t=⟨.lent,s.d⟩)\/(j≠i/\σ[j]? = some (some t)):=λj t a=>by
   rcases aX a with⟨z,k,_⟩ | z;cases k;exact .inl ⟨z,rfl⟩;exact .inr z
  refine⟨λj t a=>?_,λj l t h q n a o m m' b c=>?_,λj t q a m b=>?_,λj t q a m b=>?_,ok.keep,ok.dom,by rw[a8e];exact ok.len⟩;rcases back j t a with⟨rfl,rfl⟩ | ⟨_,z⟩;exact⟨_,ep,p,rfl,ow⟩;exact ok.rel j t z;rcases back j t a with⟨rfl,rfl⟩ | ⟨_,z⟩;cases m;rcases back l h o with⟨rfl,rfl⟩ | ⟨_,y⟩;exact ok.dis j l t s q n z hs m (fT f) b c;exact ok.dis j l t h q n z y m m' b c;rcases back j t a with⟨rfl,rfl⟩ | ⟨_,z⟩;cases m;exact ok.own j t q z m b;rcases back j t a with⟨rfl,rfl⟩ | ⟨_,z⟩;cases m;exact ok.par j t q z m b
 ·rw[aD2 λs hs=>by
   cases e:s.m.mt with
   | false=>rfl
   | true=>exact absurd ⟨s,hs,e⟩ g]
  exact ok
def cC4(ok:StOk Γ H1 σ1 σV)(c:StOk Γ H2 σ2 σV2)(st:Step (lend i σ1) σV H1 σ2 σV2 H2):StOk Γ H2 (unl i σ1 σ2) σV2/\Step σ1 σV H1 (unl i σ1 σ2) σV2 H2:=by
 by_cases P:∃ s,σ1[i]? = some (some s)/\s.m.mt=true
 ·obtain⟨s,hs,v⟩:=P;have V:i < σ1.length:=(a0a.mp hs).1;rw[wQ hs v]at st;have J:(σ1.set i (some ⟨.lent,s.d⟩))[i]? = some (some ⟨.lent,s.d⟩):=by rw[a1b V]
  obtain⟨s2,I,W,d2,Q⟩:=st.fix i _ J (.inr rfl);have B:s2.m=.lent:=W;have C:i < σ2.length:=(a0a.mp I).1;have K:unl i σ1 σ2=σ2.set i (some ⟨s.m,s2.d⟩):=by unfold unl;rw[hs,I];simp only[v,if_true]
  rw[K];obtain⟨p,ep,ow⟩:=ok.ownAt hs (fT v);have f:σV2[i]? = some (some (.ref p)):=Q.trans ep;obtain⟨p',R,L⟩:=c.ownAt I (by rw[B];exact λz=>nomatch z);rw[f]at R;cases R;have D:∀ (j:Nat) t,j≠i->σ2[j]? = some (some t)->t.m=.lent->σV2[j]? ≠ some (some (.ref p)):=λj t hj b M e=>by
   obtain⟨E,A,F⟩:=st.lt j t b M;rw[a2a (a1d hj)]at A;have X:(σ1.set i (some ⟨.lent,s.d⟩))[j]? = some (some E):=by rw[a2a (a1d hj)];exact A
   obtain⟨_,_,_,_,Y⟩:=st.fix j E X (.inr F);rw[Y]at e;exact ok.dis i j s E p (a1d hj) hs A v (by rw[F];exact λz=>nomatch z) ep e
  have r:∀ (j:Nat) t,j≠i->σ2[j]? = some (some t)->t.m≠.val->σV2[j]? ≠ some (some (.ref p)):=λj t hj b M e=>by
   by_cases S:t.m=.lent;exact D j t hj b S e;have N:t.m.mt=true:=by
    cases q:t.m with
    | val=>exact absurd q M
    | own=>rfl
    | par=>rfl
    | lent=>exact absurd q S
   exact c.dis j i t s2 p hj b I N (by rw[B];exact λz=>nomatch z) e f
  have back:∀ (j:Nat) t,(σ2.set i (some ⟨s.m,s2.d⟩))[j]? = some (some t)->(j=i/\t=⟨s.m,s2.d⟩)\/(j≠i/\σ2[j]? = some (some t)):=λj t b=>by
   rcases aX b with⟨z,w,_⟩ | z;cases w;exact .inl ⟨z,rfl⟩;exact .inr z
  have sub:∀ a,gP (σ1.set i (some ⟨.lent,s.d⟩)) σV a->gP σ1 σV a:=λa ⟨j,t,b,m,k⟩=>by
   rcases aX b with⟨z,w,_⟩ | ⟨z,w⟩;cases w;cases m;exact⟨j,t,w,m,k⟩
  have G:∀ a,aI1 (σ1.set i (some ⟨.lent,s.d⟩)) σV a->aI1 σ1 σV a:=λa ⟨j,t,b,m,k⟩=>by
   rcases aX b with⟨z,w,_⟩ | ⟨z,w⟩;subst z;exact⟨j,s,hs,fT v,k⟩;exact⟨j,t,w,m,k⟩
  constructor
  ·refine⟨λj t b=>?_,λj l t x q n b T m m' g u=>?_,λj t q b m g=>?_,λj t q b m g=>?_,c.keep,c.dom,by rw[a8e];exact c.len⟩;rcases back j t b with⟨rfl,rfl⟩ | ⟨_,z⟩;exact⟨_,f,(cO (s:=⟨s.m,s2.d⟩) (fT v)).mpr ⟨p,rfl,L⟩⟩;exact c.rel j t z
   ·rcases back j t b with⟨rfl,rfl⟩ | ⟨zn,z⟩;rw[f]at g;have g:=a5a (a5a g);cases g;rcases back l x T with⟨rfl,rfl⟩ | ⟨U,y⟩;exact n rfl;exact r l x U y m' u;rcases back l x T with⟨rfl,rfl⟩ | ⟨U,y⟩;rw[f]at u;have u:=a5a (a5a u);cases u;exact r j t zn z (fT m) g;exact c.dis j l t x q n z y m m' g u
   ·rcases back j t b with⟨rfl,rfl⟩ | ⟨_,z⟩;rw[f]at g;have g:=a5a (a5a g);cases g;exact ok.own j s p hs m ep;exact c.own j t q z m g
   ·rcases back j t b with⟨rfl,rfl⟩ | ⟨_,z⟩;rw[f]at g;have g:=a5a (a5a g);cases g;exact ok.par j s p hs m ep;exact c.par j t q z m g
  ·refine⟨λa o e n=>st.fr a o e λz=>n (sub a z),st.dom,λa ⟨j,t,b,m,k⟩=>?_,λa ⟨j,t,b,m,k⟩=>?_,λj t b=>?_,λj t b m=>?_,λj t b m=>?_⟩;rcases back j t b with⟨rfl,rfl⟩ | ⟨_,z⟩;rw[f]at k;have k:=a5a (a5a k);cases k;exact .inl ⟨j,s,hs,v,ep⟩;rcases st.mu a ⟨j,t,z,m,k⟩with y | y;exact .inl (sub a y);exact .inr y;rcases back j t b with⟨rfl,rfl⟩ | ⟨_,z⟩;rw[f]at k;have k:=a5a (a5a k);cases k;exact .inl ⟨j,s,hs,fT v,ep⟩;rcases st.nv a ⟨j,t,z,m,k⟩with y | y;exact .inl (G a y);exact .inr y;by_cases z:j=i;subst z;exact⟨_,by rw[a1b C]⟩;obtain⟨x,O⟩:=st.kp j t (by rw[a2a (a1d z)];exact b);exact⟨x,by rw[a2a (a1d z)];exact O⟩;by_cases z:j=i;subst z;rw[hs]at b;cases b;refine⟨⟨s.m,s2.d⟩,by rw[a1b C],rfl,λq=>?_,Q⟩;rw[q]at v;cases v;obtain⟨x,O,h⟩:=st.fix j t (by rw[a2a (a1d z)];exact b) m;exact⟨x,by rw[a2a (a1d z)];exact O,h⟩;rcases back j t b with⟨rfl,rfl⟩ | ⟨zn,z⟩;have m':s.m=.lent:=m;rw[m']at v;cases v;obtain⟨E,A,Z⟩:=st.lt j t z m;rw[a2a (a1d zn)]at A;exact⟨E,A,Z⟩
 ·have H:∀ s,σ1[i]? = some (some s)->s.m.mt=false:=λs hs=>by
   cases e:s.m.mt with
   | false=>rfl
   | true=>exact absurd ⟨s,hs,e⟩ P
  rw[aD2 H]at st;have K:unl i σ1 σ2=σ2:=by
   unfold unl;split;rename_i s0 s' h0 h';rw[a2k (by rw[H s0 h0];exact a9d)];rfl
  rw[K];exact⟨c,st⟩
theorem StOk.lendO{l:Option Nat}(ok:StOk Γ H σ σV):StOk Γ H (lendO l σ) σV:=by
 cases l with
 | none=>exact ok
 | some i=>exact ok.lend
def wR{l:Option Nat}(ok:StOk Γ H1 σ1 σV)(a:StOk Γ H2 σ2 σV2)(st:Step (lendO l σ1) σV H1 σ2 σV2 H2):StOk Γ H2 (vK l σ1 σ2) σV2/\Step σ1 σV H1 (vK l σ1 σ2) σV2 H2:=by
 cases l with
 | none=>exact⟨a,st⟩
 | some i=>exact cC4 ok a st
def bQ0{l:Option Nat}{r:Res}{v:V}(st:Step (lendO l σ1) σV H1 σ2 σV2 H2)(h:kB Γ H2 σ2 σV2 r v):kB Γ H2 (vK l σ1 σ2) σV2 r v:=by
 cases l with
 | none=>exact h
 | some i=>
   show kB Γ H2 (unl i σ1 σ2) σV2 r v;have st':Step (lend i σ1) σV H1 σ2 σV2 H2:=st;unfold unl;split
   ·rename_i f s' h0 h';split
    ·rename_i g;cases r with
     | val d=>exact h
     | own d=>
       obtain⟨p,a,b,k,n⟩:=h;refine⟨p,a,b,λ⟨j,t,o,m,c⟩=>k ?_,n⟩;rcases aX o with⟨z,e,_⟩ | ⟨z,e⟩;subst z;rw[wQ h0 g]at st';obtain⟨q,s,u,_⟩:=st'.fix j ⟨.lent,f.d⟩ (by rw[a1b (a0a.mp h0).1]) (.inr rfl);exact⟨j,q,s,by rw[u];exact λz=>(by cases z),c⟩
       ·exact⟨j,t,e,m,c⟩
     | slot j=>
       obtain⟨a,t,b⟩:=h;refine⟨a,?_⟩;by_cases z:j=i;subst z;exact⟨_,by rw[a1b (a0a.mp h').1]⟩
       ·exact⟨t,by rw[a2a (a1d z)];exact b⟩
    ·exact h
   ·exact h
end
structure ItD(J:It)(items:List D)(P:Hp->Prop):Prop where
 go:∀ H i d,P H->items[i]? = some d->J.go i H
 yld:∀ H i d y H',P H->items[i]? = some d->J.yld i H y H'->xN H H'/\Rp H' d y
 stop:∀ H,P H->J.stop items.length H
def aI5{J:It}{xs:List V}{P:Hp->Prop}{items:List D}(w:ItIs J xs P):ItD J items (λH=>P H/\Rps H items xs) where
 go:=λH i d ⟨h,r⟩ e=>by
  obtain⟨x,ex,_⟩:=r.get e;exact w.go H i x h ex
 yld:=λH i d y H' ⟨h,r⟩ e q=>by
  obtain⟨x,ex,a⟩:=r.get e;obtain⟨rfl,rfl⟩:=w.yld H i x y H' h ex q;exact⟨.refl _,a⟩
 stop:=λH ⟨h,r⟩=>by
  refine w.stop H _ h ?_;have:=r.length;rw[a6d];lia
abbrev DI:=Sg->Option (List D×Option Nat×Sg)
def dTI(Γ:Gm)(ri:DI):TI:=λσV H R=>∃ σ,StOk Γ H σ σV/\∃ items l a,ri σ=some (items,l,a)/\∀ J c P,StOk Γ c a σV->Step σ σV H a σV c->ItD J items P ->
 (∀ d b e,Step (lendO l a) σV c d b e->P e)->R J c
structure GI(X:Cx)(tg iter:Expr)(ri:DI):Prop where
 to:∀ Γ,PI X tg iter (dTI Γ ri)
def piW{X:Cx}{tg e:Expr}{t t':TI}(h:PI X tg e t)(w:∀ σ H Q,t' σ H Q->t σ H Q):PI X tg e t':=λpins s σ H Q I q=>h pins s σ H Q I (w σ H Q q)
noncomputable def vL:D->Option (List D)
 | .lst l=>some l
 | .tup l=>some l
 | .str x=>some (hU x)
 | _=>none
noncomputable def dIt(r:DE):DI:=λσ=>(r σ).bind λx=>(rd x.2 x.1).bind λd=>(vL d).bind λl=>some (l,(match x.1 with | .slot i=>some i | _=>none),x.2)
def eJ{H a:Hp}{p:Addr}{o:HO}(h:H p=some o)(b:a p=some o):eW a p=eW H p:=by unfold eW;rw[h,b]
def aT6{Γ:Gm}{g:Hp}{a:Sg}{σV:St}{x:Res}{v:V}{d:D}{items:List D}(A:StOk Γ g a σV)(h:kB Γ g a σV x v)(O:rd a x=some d)(H:vL d=some items)(vw:Vw g d v) :
  ∀ p b xs,v=.ref p->eW g p=some (b,xs)->Rps g items xs->∀ B k C,Step (lendO (match x with | .slot i=>some i | _=>none) a) σV g B k C->eW C p=some (b,xs)/\Rps C items xs:=by
 intro p b xs r u T B k C l;have ext:Ext g C:=l.ext (Γ:=Γ) A.lendO;refine⟨?_,T.mono ext⟩;cases x with
 | val d'=>
   cases O;subst r;cases d with
   | tup J=>obtain⟨_,_,e,f,_⟩:=eM vw;cases e;rw[eJ f (ext.tup _ _ f)];exact u
   | lst J=>
     cases h with
     | lst f _=>rw[eJ f (ext.frz _ _ _ f)];exact u
   | dic ks vs=>cases H
   | str z=>cases h
   | _=>cases H
 | own d'=>
   obtain⟨q,P,ow,U,_⟩:=h;rw[r]at P;cases P;obtain⟨o,E,_⟩:=ow.obj;rw[eJ E (l.fr p o E (λz=>U z.nv))];exact u
 | slot i=>
   obtain⟨h,s,hs⟩:=h;have c:StOk Γ g a σV:=A;by_cases I:s.m=.val
   ·obtain⟨w,Q,K⟩:=c.rel i s hs;rw[h]at Q;cases Q;subst r;obtain⟨m,R⟩:=s;cases I;have L:some R=some d:=by
     have:rd a (.slot i)=some R:=by show(match a[i]? with | some (some s)=>some s.d | _=>none)=_;rw[hs]
     rw[← this];exact O
    cases L;have M:Rp g d (.ref p):=K;cases d with
    | tup J=>obtain⟨_,_,e,f,_⟩:=eM (.inl M);cases e;rw[eJ f (ext.tup _ _ f)];exact u
    | lst J=>
      cases M with
      | lst f _=>rw[eJ f (ext.frz _ _ _ f)];exact u
    | dic ks vs=>cases H
    | str z=>cases M
    | _=>cases H
   ·obtain⟨q,F,ow⟩:=c.ownAt hs I;rw[h]at F;have F:=a5a (a5a F);rw[r]at F;cases F;obtain⟨o,E,_⟩:=ow.obj;have W:¬ gP (lend i a) σV p:=by
     rintro⟨j,t,y,m,S⟩;by_cases n:s.m.mt=true;rw[wQ hs n]at y;rcases aX y with⟨_,N,_⟩ | ⟨z,N⟩;cases N;cases m;exact c.dis j i t s p z N hs m I S (by rw[h,r]);rw[aD2 (λs' G=>by rw[hs]at G;cases G;exact Bool.eq_false_iff.mpr n)]at y;by_cases z:j=i;subst z;rw[hs]at y;cases y;exact n m;exact c.dis j i t s p z y hs m I S (by rw[h,r])
    rw[eJ E (l.fr p o E W)];exact u
def fU{X:Cx}{tg e:Expr}{r:DE}(K:W.Frag)(w:X.K=K)(h:GE X e r):GI X tg e (dIt r):=.mk λΓ=>piW (bP0 K w (h.to Γ)) λσV H R ⟨σ,ok,items,l,y,e,k⟩=>by
 obtain⟨⟨x,A⟩,B,e⟩:=aC e;obtain⟨d,t,e⟩:=aC e;obtain⟨its,i,e⟩:=aC e;cases e;refine⟨σ,ok,x,_,B,λv n b u g D=>?_⟩;have vw:=u.vw b t;have stay:=aT6 b u t i vw;cases d with
 | lst C=>
   cases i;obtain⟨p,xs,rfl,j,o⟩:=gZ vw;refine .inl ⟨xs,j,k _ n _ b g (aI5 (aS0 (xs:=xs))) λc a m f=>?_⟩;obtain⟨q,s⟩:=stay p true xs rfl j o c a m f;exact⟨gW q,s⟩
 | tup C=>
   cases i;obtain⟨p,xs,rfl,j,o⟩:=eM vw;refine .inr ⟨xs,cM j,k _ n _ b g (aI5 (bC3 (xs:=xs))) λc a m f=>?_⟩;obtain⟨q,s⟩:=stay p false xs rfl (cM j) o c a m f;exact⟨eA q,s⟩
 | str z=>
   cases i;obtain rfl:=kI vw;exact k _ n (λH=>True/\Rps H (hU z) (dI z)) b g (aI5 bC5) λc a m f=>⟨True.intro,yH z⟩
 | _=>cases i
noncomputable def aQ0(lo:Int)(n:Nat):List D:=(List.range n).map λ(i:Nat)=>D.int (lo+(i:Int))
def bQ1{H:Hp}(lo:Int)(n:Nat):Rps H (aQ0 lo n) (bO2 lo n):=by
 unfold aQ0 bO2
 induction List.range n with
 | nil=>exact .nil
 | cons a r b=>exact .cons (.int _) b
noncomputable def bQ2(a:DA):DI:=λσ=>(a σ).bind λx=>(rds x.2 x.1).bind λb=>match b with
 | [.int j]=>if -(2 ^ 62)<=j/\j < 2 ^ 62 then some (aQ0 0 j.toNat,none,x.2)else none
 | [.int i,.int j]=>if(-(2 ^ 62)<=i/\i < 2 ^ 62) /\ -(2 ^ 62)<=j/\j < 2 ^ 62 then some (aQ0 i (j-i).toNat,none,x.2)else none
 | _=>none
def wS{X:Cx}{tg e:Expr}{d:DA}(h:∀ Γ,PI X tg e (bZ3 (dTA Γ d)))(m:∀ σ rs σ',d σ=some (rs,σ')->rs.length=1):GI X tg e (bQ2 d):=.mk λΓ=>piW (h Γ) λσV H R ⟨σ,ok,items,l,n,e,k⟩=>by
 obtain⟨⟨x,o⟩,g,e⟩:=aC e;obtain⟨w,p,e⟩:=aC e;refine⟨σ,ok,x,_,g,λvs r c i f y=>?_⟩;have vw:=wM c i p;have s:=m _ _ _ g;dsimp only at e;split at e
 ·split at e
  ·rename_i hj;cases e;cases vw with
   | cons a t=>
     cases t;obtain rfl:=cW a;exact⟨_,rfl,hj.1,hj.2,k _ r (λH=>True/\Rps H _ _) c f (aI5 bC4) λu j z v=>⟨True.intro,bQ1 _ _⟩⟩
  ·cases e
 ·exfalso;cases vw with
  | cons a t=>cases t with
    | cons b t=>
      cases i with
      | cons _ q _=>cases q with
        | cons _ q _=>simp at s
 ·cases e
theorem bI5{r:DE}:∀ σ rs σ',aD r aN σ=some (rs,σ')->rs.length=1:=λσ rs σ' e=>by
 obtain⟨x,_,e⟩:=aC e;cases e;rfl
noncomputable def bD7(g:DG)(b:DS):List D->Sg->Option Out
 | [],σ=>some (.nx σ)
 | d::r,σ=>(g d σ).bind λe=>(b e).bind λo=>match o with
   | .nx a=>bD7 g b r a
   | .ct a=>bD7 g b r a
   | .bk a=>some (.nx a)
   | .rt x a=>some (.rt x a)
   | .ex c f a=>some (.ex c f a)
noncomputable def vM(l:Option Nat)(a:Sg):Out->Out
 | .nx σ=>.nx (vK l a σ)
 | .rt r σ=>.rt r (vK l a σ)
 | .bk σ=>.bk (vK l a σ)
 | .ct σ=>.ct (vK l a σ)
 | .ex c f σ=>.ex c f (vK l a σ)
noncomputable def aT7(ri:DI)(g:DG)(b:DS):DS:=λσ=>(ri σ).bind λx=>(bD7 g b x.1 (lendO x.2.1 x.2.2)).bind λo=>some (vM x.2.1 x.2.2 o)
def bD8{Γ:Gm}{E:Ex}{own:List Nat}{ri:DI}{g:TG}{S:DG}{b:DS}(hg:aT3 own g S){D:Ends}{σV:St}{H:Hp}(h:dTS Γ E (aT7 ri S b) D σV H):bZ4 (dTI Γ ri) g (dTS Γ E b) D σV H:=by
 obtain⟨σ,ok,o,e,k⟩:=h;obtain⟨⟨items,l,u⟩,e1,e⟩:=aC e;obtain⟨U,e2,e⟩:=aC e;cases e;refine⟨σ,ok,items,l,u,e1,λJ T P F M N stay=>?_⟩;dsimp only at e2
 -- V end that is wanted of V walk
 have K:∀ n a w,StOk Γ w n a->Step (lendO l u) σV T n a w->∀ W,W=U->(∀ σ',W=.nx σ'->∀ σV' H',StOk Γ H' σ' σV'->Step (lendO l u) σV T σ' σV' H'->D.nx σV' H'):=by
  intro n a w G B W ho σ' X σV' H' Y st';subst ho X;obtain⟨O,Q⟩:=wR F Y st';exact k σV' H' O (M.trans Q)
 refine⟨λi m a w=>m=items.length-i/\i<=items.length/\∃ n,bD7 S b (items.drop i) n=some U/\StOk Γ w n a/\Step (lendO l u) σV T n a w,⟨items.length,by simp,a3d _,lendO l u,by simpa using e2,F.lendO,.refl⟩,?_⟩;rintro i m a w ⟨rfl,hi,n,A,G,B⟩;have Z:=stay n a w B;by_cases I:i < items.length
 ·have ei:items[i]? = some items[i]:=a1a I;refine .inr ⟨N.go w i _ Z ei,λC R=>∃ m',m' < items.length-i/\m'=items.length-(i+1)/\i+1<=items.length/\∃ z,bD7 S b (items.drop (i+1)) z=some U/\StOk Γ R z C/\Step (lendO l u) σV T z C R,λσ' H' q=>q,λy R hy=>?_⟩;obtain⟨sm,ry⟩:=N.yld w i _ y R Z ei hy;rw[List.drop_eq_getElem_cons I]at A;obtain⟨z,eg,A⟩:=aC A;obtain⟨ob,eb,A⟩:=aC A;refine hg Γ R _ _ _ n a _ y z _ (G.same sm) (B.trans (.same sm)) ry eg λC ok3 t _ _=>?_;refine⟨z,ok3,ob,eb,?_⟩;cases ob with
  | nx s=>exact λj L r p=>⟨_,by lia,rfl,I,s,A,r,t.trans p⟩
  | ct s=>exact λj L r p=>⟨_,by lia,rfl,I,s,A,r,t.trans p⟩
  | bk s=>
    cases A;exact λj L r p=>K s j L r (t.trans p) _ rfl s rfl j L r (t.trans p)
  | rt x s=>
    cases A;intro v j L r r4 p;obtain⟨O,Q⟩:=wR F r (t.trans p);exact k v j L O (bQ0 (t.trans p) r4) (M.trans Q)
  | ex c f s=>
    cases A;intro v d j L r r4 p;obtain⟨O,Q⟩:=wR F r (t.trans p);exact k v d j L O r4 (M.trans Q)
 ·have e0:i=items.length:=by lia
  subst e0;rw[List.drop_length]at A;cases A;exact .inl ⟨N.stop w Z,K n a w G B _ rfl n rfl a w G B⟩
def yI{X:Cx}{E:Ex}{own:List Nat}{st:Stmt}{ri:DI}{g:TG}{a:DG}{b:DS}(c:aT3 own g a)(h:∀ Γ,PS X st (bZ4 (dTI Γ ri) g (dTS Γ E b))):GS E X st (aT7 ri a b):=.mk λΓ=>psW (h Γ) λ_ _ _=>bD8 c
def aT8:∃ n:Nat,1000000<=n:=⟨_,a7a _⟩
noncomputable def bV8:Nat:=Classical.choose aT8
def bQ3:1000000<=bV8:=Classical.choose_spec aT8
noncomputable def mR(c:DT)(b:DS):Nat->Sg->Option Out
 | 0,_=>none
 | n+1,σ=>(c σ).bind λx=>if x.1=true then(b x.2).bind λo=>match o with
   | .nx a=>mR c b n a
   | .ct a=>mR c b n a
   | .bk a=>some (.nx a)
   | .rt r a=>some (.rt r a)
   | .ex c f a=>some (.ex c f a)else some (.nx x.2)
noncomputable def aI6(c:DT)(b:DS):DS:=λσ=>mR c b bV8 σ
def aN8{Γ:Gm}{E:Ex}{c:DT}{b:DS}{D:Ends}{σV:St}{H:Hp}(h:dTS Γ E (aI6 c b) D σV H):aQ8 (dTT Γ c) (dTS Γ E b) D σV H:=by
 obtain⟨σ,ok,o,e,k⟩:=h;refine⟨λm l A=>∃ u,mR c b m u=some o/\StOk Γ A u l/\Step σ σV H u l A,⟨bV8,σ,e,ok,.refl⟩,?_⟩;rintro m l A ⟨u,p,B,r⟩;cases m with
 | zero=>cases p
 | succ n=>
   obtain⟨⟨t,y⟩,G,p⟩:=aC p;refine⟨u,B,t,y,G,λI z s=>?_⟩;dsimp only at p;split at p
   ·rename_i C;rw[a1Z C];obtain⟨ob,J,p⟩:=aC p;refine⟨λa w=>∃ m',m' < n+1/\∃ g,mR c b m' g=some o/\StOk Γ w g a/\Step σ σV H g a w,λ_ _ q=>q,y,z,ob,J,?_⟩;cases ob with
    | nx g=>exact λa w i j=>⟨n,a2h n,g,p,i,(r.trans s).trans j⟩
    | ct g=>exact λa w i j=>⟨n,a2h n,g,p,i,(r.trans s).trans j⟩
    | bk g=>cases p;exact λa w i j=>k a w i ((r.trans s).trans j)
    | rt x g=>cases p;exact λv a w i F j=>k v a w i F ((r.trans s).trans j)
    | ex c f g=>cases p;exact λv d a w i F j=>k v d a w i F ((r.trans s).trans j)
   ·rename_i C;rw[a2k C];cases p;exact k l I z (r.trans s)
def bD9{X:Cx}{E:Ex}{st:Stmt}{c:DT}{b:DS}(h:∀ Γ,PS X st (aQ8 (dTT Γ c) (dTS Γ E b))):GS E X st (aI6 c b):=.mk λΓ=>psW (h Γ) λ_ _ _=>aN8
noncomputable def bK(ow:List Nat)(σ:Sg):Sg:=ow.foldl (λσ i=>σ.set i none) σ
noncomputable def kZ(ow:List Nat)(σ a:Sg):Sg:=ow.foldl (λa i=>a.set i (σ[i]?.getD none)) a
theorem eO{a:Type}:∀ (ow:List Nat) (σ:List (Option a)),(ow.foldl (λσ i=>σ.set i none) σ).length=σ.length
 | [],_=>rfl
 | i::r,σ=>(eO r (σ.set i none)).trans (by simp)
theorem dJ{a:Type}:∀ (ow:List Nat) (σ:List (Option a)) (j:Nat),j∉ow->(ow.foldl (λσ i=>σ.set i none) σ)[j]? = σ[j]?
 | [],_,_,_=>rfl
 | i::r,σ,j,h=>by
   have b:i≠j:=λz=>h (by rw[z];exact a3a);have c:j∉r:=λz=>h (a4a _ z);show(r.foldl _ (σ.set i none))[j]? = _;rw[dJ r _ j c,a2a b]
theorem bI{a:Type}:∀ (ow:List Nat) (σ:List (Option a)) (j:Nat) (x:a),(ow.foldl (λσ i=>σ.set i none) σ)[j]? = some (some x)->j∉ow/\σ[j]? = some (some x)
 | [],_,_,_,h=>⟨by simp,h⟩
 | i::r,σ,j,x,h=>by
   obtain⟨b,c⟩:=bI r (σ.set i none) j x h;rcases aX c with⟨_,z,_⟩ | ⟨z,d⟩;cases z;exact⟨by simp[z,b],d⟩
theorem mS:∀ (ow:List Nat) (σ a:Sg),(kZ ow σ a).length=a.length
 | [],_,_=>rfl
 | i::r,σ,a=>(mS r σ (a.set i (σ[i]?.getD none))).trans (by simp)
theorem hW:∀ (ow:List Nat) (σ a:Sg) (j:Nat),j∉ow->(kZ ow σ a)[j]? = a[j]?
 | [],_,_,_,_=>rfl
 | i::r,σ,a,j,h=>by
   have b:i≠j:=λz=>h (by rw[z];exact a3a);have c:j∉r:=λz=>h (a4a _ z);show(kZ r σ (a.set i (σ[i]?.getD none)))[j]? = _;rw[hW r σ _ j c,a2a b]
theorem sF:∀ (ow:List Nat) (σ a:Sg) (j:Nat),j∈ow->σ.length=a.length->(kZ ow σ a)[j]? = σ[j]?
 | [],_,_,_,h,_=>by simp at h
 | i::r,σ,a,j,h,hl=>by
   show(kZ r σ (a.set i (σ[i]?.getD none)))[j]? = _;by_cases b:j∈r;exact sF r σ _ j b (by simp[hl])
   ·rw[hW r σ _ j b];have:j=i:=by rcases a9b.mp h with z | z;exact z;exact absurd z b
    subst this;by_cases hj:j < a.length;rw[a1b hj,a1a (by lia:j < σ.length)];rfl;rw[a6d.mpr (by simp;lia),a6d.mpr (by lia)]
section
variable{Γ:Gm}{H H1 H2:Hp}{σ σ1 τ:Sg}{σV σV2 σV3:St}{ow:List Nat}
def StOk.blank(ok:StOk Γ H τ σV2)(h:σV3.length=σV2.length)(e:∀ j,j∉ow->σV3[j]? = σV2[j]?):StOk Γ H (bK ow τ) σV3 where
 rel:=λj t b=>by
  obtain⟨c,d⟩:=bI ow τ j t b;rw[e j c];exact ok.rel j t d
 dis:=λj l t g q n b i m m' a f=>by
  obtain⟨c,d⟩:=bI ow τ j t b;obtain⟨k,o⟩:=bI ow τ l g i;rw[e j c]at a;rw[e l k]at f;exact ok.dis j l t g q n d o m m' a f
 own:=λj t q b m a=>by
  obtain⟨c,d⟩:=bI ow τ j t b;rw[e j c]at a;exact ok.own j t q d m a
 par:=λj t q b m a=>by
  obtain⟨c,d⟩:=bI ow τ j t b;rw[e j c]at a;exact ok.par j t q d m a
 keep:=ok.keep
 dom:=ok.dom
 len:=by rw[bK,eO,h];exact ok.len
def Step.blank{c:Sg}(hb:∀ (j:Nat) t,c[j]? = some (some t)->j∉ow)(st:Step c σV H1 τ σV2 H2)(g:∀ j,j∉ow->σV3[j]? = σV2[j]?):Step c σV H1 (bK ow τ) σV3 H2 where
 fr:=st.fr
 dom:=st.dom
 mu:=λa ⟨j,t,b,m,f⟩=>by
  obtain⟨e,d⟩:=bI ow τ j t b;rw[g j e]at f;exact st.mu a ⟨j,t,d,m,f⟩
 nv:=λa ⟨j,t,b,m,f⟩=>by
  obtain⟨e,d⟩:=bI ow τ j t b;rw[g j e]at f;exact st.nv a ⟨j,t,d,m,f⟩
 kp:=λj t b=>by
  obtain⟨h,i⟩:=st.kp j t b;exact⟨h,by rw[bK,dJ ow τ j (hb j t b)];exact i⟩
 fix:=λj t b m=>by
  obtain⟨h,i,e,d,k⟩:=st.fix j t b m;exact⟨h,by rw[bK,dJ ow τ j (hb j t b)];exact i,e,d,by rw[g j (hb j t b)];exact k⟩
 lt:=λj t b m=>by
  obtain⟨e,d⟩:=bI ow τ j t b;exact st.lt j t d m
def bQ4(c:StOk Γ H1 σ1 σV)(ok:StOk Γ H τ σV2)(x:∀ j,j∉ow->σV2[j]? = σV[j]?)(N:σV2.length=σV.length)(st:Step (bK ow σ1) σV2 H1 τ σV2 H) :
  StOk Γ H (kZ ow σ1 τ) σV/\Step σ1 σV H1 (kZ ow σ1 τ) σV H:=by
 have A:σ1.length=τ.length:=by rw[c.len,ok.len,N]
 have O:StOk Γ H1 (bK ow σ1) σV2:=c.blank N x;have ext:Ext H1 H:=st.ext O;have get:∀ (j:Nat) t,(kZ ow σ1 τ)[j]? = some (some t)->(j∈ow/\σ1[j]? = some (some t))\/(j∉ow/\τ[j]? = some (some t)):=λj t e=>by
  by_cases h:j∈ow;rw[sF ow σ1 τ j h A]at e;exact .inl ⟨h,e⟩;rw[hW ow σ1 τ j h]at e;exact .inr ⟨h,e⟩
 have B:∀ (j:Nat) t,(bK ow σ1)[j]? = some (some t)->j∉ow/\σ1[j]? = some (some t):=λj t e=>bI ow σ1 j t e;have G:∀ (j:Nat),j∉ow->(bK ow σ1)[j]? = σ1[j]?:=λj h=>dJ ow σ1 j h;have s:∀ a,gP (bK ow σ1) σV2 a->∃ (j:Nat) (t:Sl),j∉ow/\σ1[j]? = some (some t)/\t.m.mt=true/\σV[j]? = some (some (.ref a)):=λa ⟨j,t,b,m,u⟩=>by
  obtain⟨k,f⟩:=B j t b;rw[x j k]at u;exact⟨j,t,k,f,m,u⟩
 have I:∀ a,aI1 (bK ow σ1) σV2 a->∃ (j:Nat) (t:Sl),j∉ow/\σ1[j]? = some (some t)/\t.m≠.val/\σV[j]? = some (some (.ref a)):=λa ⟨j,t,b,m,u⟩=>by
  obtain⟨k,f⟩:=B j t b;rw[x j k]at u;exact⟨j,t,k,f,m,u⟩
 have C:∀ (j l:Nat) t g q,j∈ow->σ1[j]? = some (some t)->l∉ow->τ[l]? = some (some g)->t.m≠.val->g.m≠.val->(t.m.mt=true\/g.m.mt=true)->σV[j]? = some (some (.ref q))->σV[l]? = some (some (.ref q))->False:=by
  intro j l t g q hj b P K m m' L i d;rw[← x l P]at d;obtain⟨p,ep,Q⟩:=c.ownAt b m;rw[i]at ep;have ep:=a5a (a5a ep);cases ep;obtain⟨o,S,_⟩:=Q.obj;rcases L with L | L;rcases st.nv q ⟨l,g,K,m',d⟩with z | z;obtain⟨D,E,k,f,v,F⟩:=I q z;exact c.dis j D t E q (λy=>k (by rw[← y];exact hj)) b f L v i F;rw[S]at z;cases z;rcases st.mu q ⟨l,g,K,L,d⟩with z | z;obtain⟨D,E,k,f,v,F⟩:=s q z;exact c.dis D j E t q (λy=>k (by rw[y];exact hj)) f b v m F i;rw[S]at z;cases z
 constructor
 ·refine⟨λj t b=>?_,λj l t g q n b K m m' i d=>?_,λj t q b m i=>?_,λj t q b m i=>?_,ok.keep,ok.dom,by rw[mS,ok.len,N]⟩;rcases get j t b with⟨h,e⟩ | ⟨h,e⟩;obtain⟨w,M,r⟩:=c.rel j t e;refine⟨w,M,r.mono ext λp o ep m U=>st.fr p o U λz=>?_⟩;obtain⟨D,E,k,f,v,F⟩:=s p z;exact c.dis D j E t p (λy=>k (by rw[y];exact h)) f e v m F (by rw[M,ep]);obtain⟨w,M,r⟩:=ok.rel j t e;exact⟨w,by rw[← x j h];exact M,r⟩
  ·rcases get j t b with⟨h,e⟩ | ⟨h,e⟩;rcases get l g K with⟨h',J⟩ | ⟨h',J⟩;exact c.dis j l t g q n e J m m' i d;exact C j l t g q h e h' J (fT m) m' (.inl m) i d;rcases get l g K with⟨h',J⟩ | ⟨h',J⟩;exact C l j g t q h' J h e m' (fT m) (.inr m) d i;rw[← x j h]at i;rw[← x l h']at d;exact ok.dis j l t g q n e J m m' i d
  ·rcases get j t b with⟨h,e⟩ | ⟨h,e⟩;exact c.own j t q e m i;rw[← x j h]at i;exact ok.own j t q e m i
  ·rcases get j t b with⟨h,e⟩ | ⟨h,e⟩;exact c.par j t q e m i;rw[← x j h]at i;exact ok.par j t q e m i
 ·refine⟨λa o e n=>st.fr a o e λz=>?_,st.dom,λa ⟨j,t,b,m,u⟩=>?_,λa ⟨j,t,b,m,u⟩=>?_,λj t b=>?_,λj t b m=>?_,λj t b m=>?_⟩;obtain⟨D,E,k,f,v,F⟩:=s a z;exact n ⟨D,E,f,v,F⟩;rcases get j t b with⟨h,e⟩ | ⟨h,e⟩;exact .inl ⟨j,t,e,m,u⟩;rw[← x j h]at u;rcases st.mu a ⟨j,t,e,m,u⟩with z | z;obtain⟨D,E,k,f,v,F⟩:=s a z;exact .inl ⟨D,E,f,v,F⟩;exact .inr z;rcases get j t b with⟨h,e⟩ | ⟨h,e⟩;exact .inl ⟨j,t,e,m,u⟩;rw[← x j h]at u;rcases st.nv a ⟨j,t,e,m,u⟩with z | z;obtain⟨D,E,k,f,v,F⟩:=I a z;exact .inl ⟨D,E,f,v,F⟩;exact .inr z;by_cases h:j∈ow;exact⟨t,by rw[sF ow σ1 τ j h A];exact b⟩;obtain⟨g,R⟩:=st.kp j t (by rw[G j h];exact b);exact⟨g,by rw[hW ow σ1 τ j h];exact R⟩;by_cases h:j∈ow;exact⟨t,by rw[sF ow σ1 τ j h A];exact b,rfl,λ_=>rfl,rfl⟩;obtain⟨g,R,k,f,v⟩:=st.fix j t (by rw[G j h];exact b) m;exact⟨g,by rw[hW ow σ1 τ j h];exact R,k,f,rfl⟩;rcases get j t b with⟨h,e⟩ | ⟨h,e⟩;exact⟨t,e,m⟩;obtain⟨T,V,W⟩:=st.lt j t e m;exact⟨T,(B j T V).2,W⟩
end
noncomputable def aD3(ow:List Nat)(g:DG)(t:DT)(e:DE):List D->Sg->Option (List D×Sg)
 | [],a=>some ([],a)
 | d :: r,a=>(g d a).bind λb=>(t b).bind λx=>if x.1=true then(e x.2).bind λy=>match y.1 with
     | .val d'=>(aD3 ow g t e r (bK ow y.2)).bind λz=>some (d'::z.1,z.2)
     | _=>none else aD3 ow g t e r (bK ow x.2)
noncomputable def wT:DT:=λσ=>some (true,σ)
noncomputable def hZ(ow:List Nat)(ri:DI)(g:DG)(t:DT)(e:DE):DE:=λσ=>(ri σ).bind λx=>if x.1.length<=sizeLine then(aD3 ow g t e x.1 (bK ow (lendO x.2.1 x.2.2))).bind λy=>
 some (.own (.lst y.1),vK x.2.1 x.2.2 (kZ ow (lendO x.2.1 x.2.2) y.2))else none
def yJ{Γ:Gm}{ow:List Nat}{ri:DI}{g:TG}{Y:DG}{t:DT}{e:DE}(hg:aT3 ow g Y){σV:St}{H:Hp}{Q:VK}(h:dTE Γ (hZ ow ri Y t e) σV H Q) :
  aR9 ow (dTI Γ ri) g (dTT Γ t) (dTE Γ e) σV H Q:=by
 obtain⟨σ,ok,res,σ',w,k⟩:=h;obtain⟨⟨items,l,c⟩,e1,w⟩:=aC w;dsimp only at w;split at w
 case isFalse=>cases w
 case isTrue hlen=>
 obtain⟨⟨all,Z⟩,e2,w⟩:=aC w;cases w;refine⟨σ,ok,items,l,c,e1,λJ F P G I A stay=>?_⟩;have bl:(blank ow σV).length=σV.length:=eO ow σV;have bo:∀ j,j∉ow->(blank ow σV)[j]? = σV[j]?:=λj hj=>dJ ow σV j hj;have K:StOk Γ F (lendO l c) σV:=G.lendO;have okB:StOk Γ F (bK ow (lendO l c)) (blank ow σV):=K.blank bl bo;have hb:∀ (j:Nat) t,(bK ow (lendO l c))[j]? = some (some t)->j∉ow:=λj t ej=>(bI ow _ j t ej).1
 -- a step within,as a step of the q
 have q:∀ o d,StOk Γ d o (blank ow σV)->Step (bK ow (lendO l c)) (blank ow σV) F o (blank ow σV) d->StOk Γ d (kZ ow (lendO l c) o) σV/\Step (lendO l c) σV F (kZ ow (lendO l c) o) σV d:=
  λo d r s=>bQ4 K r bo bl s
 refine⟨λi m ys d=>m=items.length-i/\i<=items.length/\∃ o don dG,aD3 ow Y t e (items.drop i) o=some (dG,Z)/\don++dG=all/\don.length<=i/\Rps d don ys/\StOk Γ d o (blank ow σV)/\Step (bK ow (lendO l c)) (blank ow σV) F o (blank ow σV) d,
  ⟨items.length,by simp,Nat.zero_le _,bK ow (lendO l c),[],all,by simpa using e2,rfl,a3d _,.nil,okB,.refl⟩,?_⟩
 rintro i m ys d ⟨rfl,hi,o,don,dG,f,n,hdl,V,r,s⟩;have hyl:=V.length;obtain⟨okw,L⟩:=q o d r s;have hP:=stay _ σV d L;refine⟨by lia,?_⟩;by_cases u:i < items.length
 ·have ei:items[i]? = some items[i]:=a1a u;refine .inr ⟨A.go d i _ hP ei,λy W hy=>?_⟩;obtain⟨sm,ry⟩:=A.yld d i _ y W hP ei hy;rw[List.drop_eq_getElem_cons u]at f;obtain⟨M,eg,f⟩:=aC f;obtain⟨⟨b,B⟩,et,f⟩:=aC f;refine hg Γ W _ _ _ o (blank ow σV) _ y M _ (r.same sm) (s.trans (.same sm)) ry eg λσV3 N O l3 X=>?_;have x:Ext d W:=.same sm;refine⟨M,N,b,B,et,λH4 C D=>?_⟩;have z:Ext W H4:=D.ext N;dsimp only at f;split at f;rename_i hbt;dsimp only;rw[a1Z hbt];obtain⟨⟨r5,R⟩,ee,f⟩:=aC f;refine⟨B,C,r5,R,ee,λv H5 ok5 r5' S f5=>?_⟩;dsimp only at f;split at f;rename_i d';obtain⟨⟨E,τe'⟩,ec',f⟩:=aC f;cases f;refine⟨_,by lia,rfl,u,bK ow R,don++[d'],E,ec',by rw[← n];simp,by simp;lia,?_,ok5.blank (by rw[l3]) (λj hj=>((X j hj).1).symm),Step.blank hb ((O.trans D).trans S) λj hj=>((X j hj).1).symm⟩;exact((V.mono x).mono z |>.mono (S.ext C)).append (.cons r5' .nil);cases f;rename_i hbf;dsimp only;rw[a2k hbf];refine⟨_,by lia,rfl,u,bK ow B,don,dG,f,n,by lia,(V.mono x).mono z,C.blank (by rw[l3]) (λj hj=>((X j hj).1).symm),Step.blank hb (O.trans D) λj hj=>((X j hj).1).symm⟩
 ·have e0:i=items.length:=by lia
  subst e0;rw[List.drop_length]at f;cases f;rw[a3f]at n;subst n;refine .inl ⟨A.stop d hP,λp hp=>?_⟩;obtain⟨T,U⟩:=wR G okw L;have sm:xN d (upd d p (.lst ys)):=bM hp;have nw:aC8 d (upd d p (.lst ys)) (.own (.lst don)) (.ref p):=⟨p,rfl,hp,ys,aO,V.mono (.same sm)⟩;exact k _ _ (T.same sm) (nw.res T) ((I.trans U).trans (.same sm)) (nw.frh.back (I.trans U))
def fK{X:Cx}{ow:List Nat}{ex:Expr}{ri:DI}{g:TG}{a:DG}{t:DT}{e:DE}(b:aT3 ow g a)(h:∀ Γ,PE X ex (aR9 ow (dTI Γ ri) g (dTT Γ t) (dTE Γ e))):GE X ex (hZ ow ri a t e):=.mk λΓ=>peW (h Γ) λ_ _ _=>yJ b
def gC{X:Cx}{Γ:Gm}:bH5 X [] (dTT Γ wT):=λpins s σ H Q I ⟨a,ok,b,σ',e,k⟩=>bB8 pins s σ H Q I (by cases e;exact k H ok .refl)
def sG{X:Cx}{Γ:Gm}{c:Expr}{t:DT}(h:GT X c t):bH5 X [c] (dTT Γ t):=bB9 (h.to Γ)
def aN9{X:Cx}{E:Ex}{ow:List Nat}{i:Nat}{st:Stmt}{ri:DI}{g:TG}{a:DG}{t:DT}{e:DE}(b:aT3 ow g a)(h:∀ Γ,PS X st (λD σ H=>aR9 ow (dTI Γ ri) g (dTT Γ t) (dTE Γ e) σ H λv c=>D.nx (σ.set i (some v)) c)):GS E X st (dW i (hZ ow ri a t e)):=.mk λΓ=>psW (h Γ) λD σV H h=>yJ b (aI4 h)
abbrev Run:=List Sl->Option (Res×List Sl)
structure ArgOk(H:Hp)(as:List Sl)(vs:List V):Prop where
 len:as.length=vs.length
 rel:∀ (i:Nat) s,as[i]? = some s->∃ v,vs[i]? = some v/\bD1 H s v
 dis:∀ (i j:Nat) s t p,i≠j->as[i]? = some s->as[j]? = some t->s.m.mt=true->t.m≠.val->vs[i]? = some (.ref p)->vs[j]? = some (.ref p)->False
 own:∀ (i:Nat) s,as[i]? = some s->s.m≠.own
def bV9(as:List Sl)(vs:List V)(a:Addr):Prop:=∃ (i:Nat) (s:Sl),as[i]? = some s/\s.m.mt=true/\vs[i]? = some (.ref a)
structure PostOk(as:List Sl)(vs:List V)(H:Hp)(as':List Sl)(H':Hp):Prop where
 rel:∀ (i:Nat) s,as[i]? = some s->s.m.mt=true->∃ s' v,as'[i]? = some s'/\s'.m=s.m/\vs[i]? = some v/\bD1 H' s' v
 fr:∀ a o,H a=some o->¬ bV9 as vs a->H' a=some o
 dom:∀ a,H' a=none->H a=none
def dsp(n:Nat)(run:Run):Sp:=λvs H Q _=>∃ as res as',ArgOk H as vs/\as.length=n/\run as=some (res,as')/\∀ v H',PostOk as vs H as' H'->aC8 H H' res v->Q v H'
noncomputable def bW0(σ:Sg):Res->Option Res
 | .val d=>some (.val d)
 | .own d=>some (.own d)
 | .slot i=>match σ[i]? with
   | some (some s)=>if s.m=.own then some (.own s.d)else if s.m=.val then some (.val s.d)else none
   | _=>none
noncomputable def tF:List Sl->Sg->List Sl
 | [],_=>[]
 | a::as,some s::σ=>(if a.m=.val then a else s)::tF as σ
 | a::as,_::σ=>a::tF as σ
 | a::as,[]=>a::as
noncomputable def ini(len:Nat)(as:List Sl):Sg:=as.map some++List.replicate (len-as.length) none
noncomputable def wU(len:Nat)(a:DS):Run:=λas=>(a (ini len as)).bind λo=>match o with
 | .nx σ=>some (.val .non,tF as σ)
 | .rt r σ=>(bW0 σ r).bind λb=>some (b,tF as σ)
 | _=>none
def kM{len:Nat}{as:List Sl}{i:Nat}{s:Sl}:(ini len as)[i]? = some (some s)↔as[i]? = some s:=by
 unfold ini;by_cases h:i < as.length;rw[a6c (by simpa using h),a2c];cases as[i]? <;> simp;rw[a2b (by simpa using h),List.getElem?_replicate,a6d.mpr (by lia)];split<;>simp
def fV{N:List Str}{vs:List V}{i:Nat}{v:V}:(L2.gO N vs)[i]? = some (some v)↔vs[i]? = some v:=by
 unfold L2.gO;by_cases h:i < vs.length;rw[a6c (by simpa using h),a2c];cases vs[i]? <;> simp;rw[a2b (by simpa using h),List.getElem?_replicate,a6d.mpr (by lia)];split<;>simp
theorem aI7:∀ {as:List Sl} {σ:Sg} {i:Nat} {a s:Sl},as[i]? = some a->σ[i]? = some (some s)->(tF as σ)[i]? = some (if a.m=.val then a else s)
 | [],_,_,_,_,h,_=>by simp at h
 | _::_,[],_,_,_,_,h=>by simp at h
 | a::as,o::σ,0,b,s,h,h'=>by
   simp at h h';subst h h';unfold tF;simp
 | a::as,o::σ,i+1,b,s,h,h'=>by
   have:=aI7 (as:=as) (σ:=σ) (i:=i) (a:=b) (s:=s) (by simpa using h) (by simpa using h');cases o<;>(unfold tF;simpa using this)
section
variable{P:Program}{w:World}{K:W.Frag}{mg:Str->Option Value}{base:Heap}
abbrev MS:=Sg->(Out->Prop)->Prop
abbrev MC:=List Sl->(Res->List Sl->Prop)->Prop
def cS2(m:MS):Prop:=∀ σ (Q a:Out->Prop),(∀ o,Q o->a o)->m σ Q->m σ a
def mTS(Γ:Gm)(E:Ex)(m:MS):TS:=λD σV H=>∃ σ,StOk Γ H σ σV/\m σ λo=>aT2 Γ E σ σV H o D
def cS3(n:Nat)(C:MC):Sp:=λvs H Q _=>∃ as,ArgOk H as vs/\as.length=n/\C as λres as'=>∀ v H',PostOk as vs H as' H'->aC8 H H' res v->Q v H'
def cS4(as:List Sl)(K:Res->List Sl->Prop)(o:Out):Prop:=match o with
 | .nx σ=>K (.val .non) (tF as σ)
 | .rt r σ=>∃ a,bW0 σ r=some a/\K a (tF as σ)
 | _=>False
def cS5(len:Nat)(m:MS):MC:=λas K=>m (ini len as) (cS4 as K)
def bQ5{x qual:Str}{st:Stmt}{f:Addr}{fd:FuncData}{N ps:List Str}{k:Nat}(F:Fun K x qual st f fd)(S:FnScope N ps (aS st))(T:ps.length<=N.length)(m:MS)(B:cS2 m)
  (hb:∀ (cdv:Value) (A:Around) (outer:List Env) (s:Shared) (H:Hp) (E:XK),Room k (A.deeper (PyProof.Rows.envOfC qual (aS st) s.heap.objs.size f cdv))->∀ Γ,PSs (bH2 CX0 P w K mg base N qual (aS st) f cdv A outer s H E).nox (lQ st) (mTS Γ Ex.no m)) :
  FnOk P w K mg base CX0 (k+1) f fd ps (cS3 ps.length (cS5 N.length m)):=by
 refine F.ok S (λvs H Q E Z1=>by obtain⟨as,ok,L,_⟩:=Z1;rw[← ok.len];exact L) λcdv A outer s H vs Q E U h=>?_;obtain⟨as,ok,L,h⟩:=h;refine⟨_,hb cdv A outer s H E U ⟨H,bV9 as vs⟩,ini N.length as,?_,B _ _ _ (λo k=>?_) h⟩;refine⟨λi s e=>?_,λi j s t p n l I m m' e V=>?_,λi s p l m=>?_,λi s p l m e=>?_,λa o e _=>e,λa e=>e,?_⟩;obtain⟨v,y,r⟩:=ok.rel i s (kM.mp e);exact⟨v,fV.mpr y,r⟩;exact ok.dis i j s t p n (kM.mp l) (kM.mp I) m m' (fV.mp e) (fV.mp V);exact absurd m (ok.own i s (kM.mp l));exact⟨i,s,kM.mp l,by rw[m];rfl,fV.mp e⟩;unfold ini L2.gO;have:=ok.len;simp;lia;have u:∀ σ σV' H',StOk ⟨H,bV9 as vs⟩ H' σ σV'->Step (ini N.length as) (L2.gO N vs) H σ σV' H'->PostOk as vs H (tF as σ) H':=λσ σV' H' b st'=>by
  have W:∀ a,gP (ini N.length as) (L2.gO N vs) a->bV9 as vs a:=λa ⟨j,t,I,m,X⟩=>⟨j,t,kM.mp I,m,fV.mp X⟩;refine⟨λi a l m=>?_,λa o e n=>st'.fr a o e λz=>n (W a z),st'.dom⟩;have M:a.m=.par:=by
   have h0:=ok.own i a l;cases q:a.m with
   | par=>rfl
   | own=>exact absurd q h0
   | val=>rw[q]at m;cases m
   | lent=>rw[q]at m;cases m
  obtain⟨s',es,Y,_,D⟩:=st'.fix i a (kM.mpr l) (.inl M);obtain⟨v,y,r⟩:=b.rel i s' es;obtain⟨Z,O,_⟩:=ok.rel i a l;have:some (some v)=some (some Z):=by rw[← y,D];exact fV.mpr O
  cases this;refine⟨s',v,?_,Y,O,r⟩;rw[aI7 l es,a2k (by rw[M];exact λz=>nomatch z)]
 cases o with
 | nx σ=>
   exact λσV' H' b st'=>k .non H' (u σ σV' H' b st') .non
 | rt r σ=>
   obtain⟨res,y,k⟩:=k;intro v σV' H' b J st';refine k v H' (u σ σV' H' b st') ?_;cases r with
   | val d=>cases y;exact J
   | own d=>
     cases y;obtain⟨p,G,C,q3,q4⟩:=J;exact⟨p,G,q4,C⟩
   | slot i=>
     obtain⟨G,s',C⟩:=J;have g:(match σ[i]? with | some (some s)=>if s.m=.own then some (Res.own s.d)else if s.m=.val then some (.val s.d)else none | _=>none)=some res:=y;rw[C]at g;dsimp only at g;obtain⟨v',D,R⟩:=b.rel i s' C;rw[G]at D;cases D;split at g
     ·rename_i B;cases g;obtain⟨p,rfl,ow⟩:=(cO (by rw[B];exact λz=>nomatch z)).mp R;exact⟨p,rfl,b.own i s' p C B G,ow⟩
     ·split at g;rename_i B;cases g;obtain⟨m,d⟩:=s';cases B;exact R;cases g
 | bk σ=>exact k.elim
 | ct σ=>exact k.elim
 | ex c f σ=>exact k.elim
def cH{x qual:Str}{st:Stmt}{f:Addr}{fd:FuncData}{N ps:List Str}{k:Nat}(F:Fun K x qual st f fd)(S:FnScope N ps (aS st))(d:ps.length<=N.length)(b:DS)
  (hb:∀ (cdv:Value) (A:Around) (outer:List Env) (s:Shared) (H:Hp) (E:XK),Room k (A.deeper (PyProof.Rows.envOfC qual (aS st) s.heap.objs.size f cdv))->GSs Ex.no (bH2 CX0 P w K mg base N qual (aS st) f cdv A outer s H E).nox (lQ st) b) :
  FnOk P w K mg base CX0 (k+1) f fd ps (dsp ps.length (wU N.length b)):=
 (bQ5 F S d (λσ Q=>∃ o,b σ=some o/\Q o) (λσ Q l w ⟨o,e,q⟩=>⟨o,e,w o q⟩) λcdv A outer s H E g Γ=>cH9 ((hb cdv A outer s H E g).to Γ) λD σV H ⟨σ,ok,o,e,q⟩=>⟨σ,ok,o,e,q⟩).imp
  λvs H Q E ⟨as,res,as',ok,h,a,k⟩=>by
   obtain⟨o,i,a⟩:=aC a;refine⟨as,ok,h,o,i,?_⟩;cases o with
   | nx σ=>cases a;exact k
   | rt r σ=>
     obtain⟨m,j,a⟩:=aC a;cases a;exact⟨_,j,k⟩
   | bk σ=>cases a
   | ct σ=>cases a
   | ex c f σ=>cases a
end
noncomputable def aD4(σ:Sg):Res->Option Sl
 | .val d=>some ⟨.val,d⟩
 | .own d=>some ⟨.par,d⟩
 | .slot i=>match σ[i]? with
   | some (some s)=>some ⟨if s.m.mt=true then .par else s.m,s.d⟩
   | _=>none
noncomputable def vN(σ:Sg):List Res->Option (List Sl)
 | []=>some []
 | r::rs=>(aD4 σ r).bind λa=>(vN σ rs).bind λas=>some (a::as)
noncomputable def aD5(i:Nat):List Res->Bool
 | []=>false
 | .slot j::rs=>decide (i=j)||aD5 i rs
 | _::rs=>aD5 i rs
noncomputable def cE:List Res->Bool
 | []=>true
 | .slot i::rs=>!aD5 i rs&&cE rs
 | _::rs=>cE rs
noncomputable def iA(j:Nat):List Res->List Sl->Option Sl
 | .slot i::rs,a::as=>if i=j then some a else iA j rs as
 | _::rs,_::as=>iA j rs as
 | _,_=>none
noncomputable def gQ(rs:List Res)(as:List Sl):Nat->Sg->Sg
 | _,[]=>[]
 | k,some s::σ=>(match iA k rs as with
   | some a=>some (if s.m.mt=true then⟨s.m,a.d⟩else s)
   | none=>some s)::gQ rs as (k+1) σ
 | k,none::σ=>none::gQ rs as (k+1) σ
noncomputable def aT(n:Nat)(run:Run)(a:DA):DE:=λσ=>(a σ).bind λx=>(vN x.2 x.1).bind λas=>if as.length=n/\cE x.1=true then(run as).bind λy=>some (y.1,gQ x.1 y.2 0 x.2)else none
theorem vO{σ:Sg}:∀ {rs:List Res} {as:List Sl},vN σ rs=some as->as.length=rs.length/\∀ (k:Nat) r,rs[k]? = some r->∃ a,as[k]? = some a/\aD4 σ r=some a
 | [],as,h=>by cases h;exact⟨rfl,λk r e=>by simp at e⟩
 | r::rs,as,h=>by
   obtain⟨a,b,h⟩:=aC h;obtain⟨as',c,h⟩:=aC h;cases h;obtain⟨l,g⟩:=vO c;refine⟨by simp[l],λk d e=>?_⟩;cases k with
   | zero=>simp at e;subst e;exact⟨a,rfl,b⟩
   | succ k=>
     obtain⟨f,i,j⟩:=g k d (by simpa using e);exact⟨f,by simpa using i,j⟩
theorem ResOks.get{Γ:Gm}{H:Hp}{σ:Sg}{σV:St}:∀ {rs:List Res} {vs:List V},ResOks Γ H σ σV rs vs->rs.length=vs.length/\∀ (k:Nat) r,rs[k]? = some r->∃ v,vs[k]? = some v/\kB Γ H σ σV r v
 | _,_,.nil=>⟨rfl,λk r e=>by simp at e⟩
 | _,_,.cons h t _=>by
   obtain⟨l,g⟩:=ResOks.get t;refine⟨by simp[l],λk a e=>?_⟩;cases k with
   | zero=>simp at e;subst e;exact⟨_,rfl,h⟩
   | succ k=>
     obtain⟨b,c,d⟩:=g k a (by simpa using e);exact⟨b,by simpa using c,d⟩
theorem ResOks.dis{Γ:Gm}{H:Hp}{σ:Sg}{σV:St}:∀ {rs:List Res} {vs:List V},ResOks Γ H σ σV rs vs->∀ (k l:Nat) d d' p,k < l->rs[k]? = some (.own d)->rs[l]? = some (.own d')->vs[k]? = some (.ref p)->vs[l]? ≠ some (.ref p)
 | _,_,.nil,k,l,d,d',p,_,e,_,_=>by simp at e
 | _,_,.cons h t q,k,l,d,d',p,b,e,a,ev=>by
   cases l with
   | zero=>lia
   | succ l=>
     cases k with
     | zero=>
       simp at e ev;subst e ev;intro z;exact q d p rfl rfl l d' (by simpa using a) (by simpa using z)
     | succ k=>
       intro z;exact ResOks.dis t k l d d' p (by lia) (by simpa using e) (by simpa using a) (by simpa using ev) (by simpa using z)
theorem sH{i:Nat}:∀ {rs:List Res} {k:Nat},rs[k]? = some (.slot i)->aD5 i rs=true
 | [],_,h=>by simp at h
 | r::rs,0,h=>by simp at h;subst h;simp[aD5]
 | r::rs,k+1,h=>by
   have:=sH (rs:=rs) (k:=k) (by simpa using h);cases r<;>simp[aD5,this]
theorem lZ:∀ {rs:List Res},cE rs=true->∀ (k l i:Nat),rs[k]? = some (.slot i)->rs[l]? = some (.slot i)->k=l
 | [],_,k,l,i,h,_=>by simp at h
 | r::rs,hn,k,l,i,h,h'=>by
   cases k with
   | zero=>
     cases l with
     | zero=>rfl
     | succ l=>
       simp at h;subst h;unfold cE at hn;rw[a7d]at hn;rw[sH (k:=l) (by simpa using h')]at hn;simp at hn
   | succ k=>
     cases l with
     | zero=>
       simp at h';subst h';unfold cE at hn;rw[a7d]at hn;rw[sH (k:=k) (by simpa using h)]at hn;simp at hn
     | succ l=>
       have a:cE rs=true:=by
        cases r with
        | slot j=>unfold cE at hn;rw[a7d]at hn;exact hn.2
        | val d=>exact hn
        | own d=>exact hn
       exact a2D Nat.succ (lZ a k l i (by simpa using h) (by simpa using h'))
theorem eK{j:Nat}:∀ {rs:List Res} {as:List Sl} {a:Sl},iA j rs as=some a->∃ k:Nat,rs[k]? = some (.slot j)/\as[k]? = some a
 | [],_,_,h=>by simp[iA]at h
 | r::rs,[],_,h=>by cases r<;>simp[iA]at h
 | r::rs,a::as,b,h=>by
   cases r with
   | slot i=>
     have h':(if i=j then some a else iA j rs as)=some b:=h;split at h';rename_i e;cases h';subst e;exact⟨0,rfl,rfl⟩
     ·obtain⟨k,c,f⟩:=eK h';exact⟨k+1,by simpa using c,by simpa using f⟩
   | val d=>obtain⟨k,c,f⟩:=eK (rs:=rs) (as:=as) h;exact⟨k+1,by simpa using c,by simpa using f⟩
   | own d=>obtain⟨k,c,f⟩:=eK (rs:=rs) (as:=as) h;exact⟨k+1,by simpa using c,by simpa using f⟩
noncomputable def lA(rs:List Res)(as:List Sl)(k:Nat)(o:Option Sl):Option Sl:=match o with
 | some s=>(match iA k rs as with
   | some a=>some (if s.m.mt=true then⟨s.m,a.d⟩else s)
   | none=>some s)
 | none=>none
theorem iB{rs:List Res}{as:List Sl}:∀ (k:Nat) (σ:Sg) (j:Nat),(gQ rs as k σ)[j]? = (σ[j]?).map (lA rs as (k+j))
 | _,[],_=>by simp[gQ]
 | k,o::σ,0=>by cases o<;>simp[gQ,lA]
 | k,o::σ,j+1=>by
   have:=iB (rs:=rs) (as:=as) (k+1) σ j;have e:k+1+j=k+(j+1):=by lia
   rw[e]at this;cases o<;>simpa[gQ]using this
theorem mT{rs:List Res}{as:List Sl}:∀ (k:Nat) (σ:Sg),(gQ rs as k σ).length=σ.length
 | _,[]=>rfl
 | k,o::σ=>by cases o<;>simp[gQ,mT (k+1) σ]
def aT9{Γ:Gm}{σ c:Sg}{rs:List Res}{as:List Sl}{σV:St}{H H1:Hp}{vs:List V}(e2:vN c rs=some as)(hc:cE rs=true)(x:StOk Γ H1 c σV)(r1:ResOks Γ H1 c σV rs vs)(D:Step σ σV H c σV H1)
  (f1:∀ (j:Nat) d p,rs[j]? = some (.own d)->vs[j]? = some (.ref p)->H p=none) :
  ArgOk H1 as vs/\∀ r as' v H2,PostOk as vs H1 as' H2->aC8 H1 H2 r v->StOk Γ H2 (gQ rs as' 0 c) σV/\kB Γ H2 (gQ rs as' 0 c) σV r v/\Step σ σV H (gQ rs as' 0 c) σV H2/\Frh H r v:=by
 obtain⟨la,ga⟩:=vO e2;obtain⟨lv,gv⟩:=r1.get;have P:∀ (i:Nat) a,as[i]? = some a->∃ r v,rs[i]? = some r/\aD4 c r=some a/\vs[i]? = some v/\kB Γ H1 c σV r v:=λi a A=>by
  have hi:i < rs.length:=by rw[← la];exact(a0a.mp A).1
  have Q:rs[i]? = some rs[i]:=a1a hi;obtain⟨a',R,h2⟩:=ga i _ Q;rw[A]at R;cases R;obtain⟨v,h3,h4⟩:=gv i _ Q;exact⟨_,v,Q,h2,h3,h4⟩
 have f:∀ i a,aD4 c (.slot i)=some a->∃ s,c[i]? = some (some s)/\a=⟨if s.m.mt=true then .par else s.m,s.d⟩:=λi a A=>by
  have Y:(match c[i]? with | some (some s)=>some (⟨if s.m.mt=true then .par else s.m,s.d⟩:Sl) | _=>none)=some a:=A;split at Y
  ·rename_i s hs;cases Y;exact⟨s,hs,rfl⟩
  ·cases Y
 -- an argument that may change: new,or owned here
 have L:∀ a,bV9 as vs a->gP c σV a\/(H a=none/\¬ aI1 c σV a/\Γ.H₀ a=none):=λa ⟨i,s,S,m,G⟩=>by
  obtain⟨r,v,Q,A,E,M⟩:=P i s S;rw[G]at E;cases E;cases r with
  | val d=>cases A;cases m
  | own d=>
    obtain⟨p,C,T,Z,q4⟩:=M;cases C;exact .inr ⟨f1 i d a Q G,Z,q4⟩
  | slot j=>
    obtain⟨s',hs,rfl⟩:=f j s A;obtain⟨C,_⟩:=M;refine .inl ⟨j,s',hs,?_,C⟩;by_cases w:s'.m.mt=true;exact w;simp only[w]at m;exact absurd m w
 have J:ArgOk H1 as vs:=by
  refine⟨by rw[la,lv],λi a S=>?_,λi j s t p nij S g m m' G E=>?_,λi a S=>?_⟩
  ·obtain⟨r,v,Q,A,G,M⟩:=P i a S;refine⟨v,G,?_⟩;cases r with
   | val d=>cases A;exact M
   | own d=>cases A;obtain⟨p,C,T,_⟩:=M;exact⟨p,C,T⟩
   | slot j=>
     obtain⟨s',hs,rfl⟩:=f j a A;obtain⟨C,_⟩:=M;obtain⟨v',e4,r4⟩:=x.rel j s' hs;rw[C]at e4;cases e4;by_cases w:s'.m.mt=true;simp only[w,if_true];exact(cO (s:=⟨.par,s'.d⟩) (λz=>nomatch z)).mpr ((cO (fT w)).mp r4);simp only[w];exact r4
  ·obtain⟨r,v,Q,A,U,M⟩:=P i s S;obtain⟨r2,v2,er2,ea2,ev2,rv2⟩:=P j t g;rw[G]at U;cases U;rw[E]at ev2;cases ev2;have F:∀ l a,aD4 c (.slot l)=some a->a.m≠.val->∃ s,c[l]? = some (some s)/\s.m≠.val/\(a.m.mt=true->s.m.mt=true):=λl a A w=>by
    obtain⟨s',hs,rfl⟩:=f l a A;refine⟨s',hs,?_,?_⟩;intro z;simp only[z,Md.mt]at w;exact w rfl;intro z;by_cases W:s'.m.mt=true;exact W;simp only[W]at z;exact z
   cases r with
   | val d=>cases A;cases m
   | own d=>
     obtain⟨q,C,T,Z,q4⟩:=M;cases C;cases r2 with
     | val d=>cases ea2;exact m' rfl
     | own d2=>
       rcases Nat.lt_or_gt_of_ne nij with z | z;exact r1.dis i j d d2 p z Q er2 G E
       ·exact r1.dis j i d2 d p z er2 Q E G
     | slot l=>
       obtain⟨s',hs,W,_⟩:=F l t ea2 m';exact Z ⟨l,s',hs,W,rv2.1⟩
   | slot l=>
     obtain⟨s',hs,W,hmt⟩:=F l s A (fT m);cases r2 with
     | val d=>cases ea2;exact m' rfl
     | own d2=>
       obtain⟨q,C,T,Z,q4⟩:=rv2;cases C;exact Z ⟨l,s',hs,W,M.1⟩
     | slot l2=>
       obtain⟨s2,hs2,hm2,_⟩:=F l2 t ea2 m';refine x.dis l l2 s' s2 p (λz=>?_) hs hs2 (hmt m) hm2 M.1 rv2.1;subst z;exact nij (lZ hc i j l Q er2)
  ·obtain⟨r,v,Q,A,U,M⟩:=P i a S;cases r with
   | val d=>cases A;exact λz=>nomatch z
   | own d=>cases A;exact λz=>nomatch z
   | slot j=>
     obtain⟨s',hs,rfl⟩:=f j a A;intro z;by_cases w:s'.m.mt=true;simp only[w,if_true]at z;cases z;simp only[w]at z;have z':s'.m=.own:=z;rw[z']at w;exact w rfl
 refine⟨J,λr as' v H2 po nw=>?_⟩;have extA:Ext H1 H2:=by
  refine⟨λp xs h=>po.fr p _ h λz=>?_,λp o u h=>po.fr p _ h λz=>?_⟩;obtain⟨i,s,S,m,G⟩:=z;obtain⟨v,e4,r4⟩:=J.rel i s S;rw[G]at e4;cases e4;obtain⟨q,eq,ow⟩:=(cO (fT m)).mp r4;cases eq;obtain⟨o,ho,n1,_⟩:=ow.obj;rw[h]at ho;cases ho;exact n1 _ rfl;obtain⟨i,s,S,m,G⟩:=z;obtain⟨v,e4,r4⟩:=J.rel i s S;rw[G]at e4;cases e4;obtain⟨q,eq,ow⟩:=(cO (fT m)).mp r4;cases eq;obtain⟨o',ho,_,n1⟩:=ow.obj;rw[h]at ho;cases ho;exact n1 _ _ rfl
 have back:∀ (j:Nat) t,(gQ rs as' 0 c)[j]? = some (some t)->∃ s,c[j]? = some (some s)/\t.m=s.m/\(t=s\/(s.m.mt=true/\∃ (k:Nat) (a:Sl),rs[k]? = some (.slot j)/\as'[k]? = some a/\t=⟨s.m,a.d⟩)):=λj t g=>by
  rw[iB,a9e]at g;cases q:c[j]? with
  | none=>rw[q]at g;cases g
  | some o=>
    rw[q]at g;cases o with
    | none=>cases g
    | some s=>
      have B:lA rs as' j (some s)=some t:=a5a g;unfold lA at B;refine⟨s,rfl,?_⟩;dsimp only at B;split at B;rename_i a ha;obtain⟨X,R,h2⟩:=eK ha;have N:=a5a B;by_cases w:s.m.mt=true;rw[a1Z w]at N;subst N;exact⟨rfl,.inr ⟨w,X,a,R,h2,rfl⟩⟩;rw[a2k w]at N;subst N;exact⟨rfl,.inl rfl⟩;cases B;exact⟨rfl,.inl rfl⟩
 have fwd:∀ (j:Nat) s,c[j]? = some (some s)->∃ t,(gQ rs as' 0 c)[j]? = some (some t)/\t.m=s.m/\(s.m.mt=false->t=s):=λj s g=>by
  rw[iB,a9e,g];show ∃ t,some (lA rs as' j (some s))=some (some t)/\_;unfold lA;dsimp only;split;refine⟨_,rfl,?_,λz=>?_⟩;split<;>rfl;rw[a2k (by rw[z];exact a9d)];exact⟨s,rfl,rfl,λ_=>rfl⟩
 -- a slot that is handed in by no argument that may change
 have quiet:∀ (j:Nat) s t p,c[j]? = some (some s)->(gQ rs as' 0 c)[j]? = some (some t)->t=s->s.m≠.val->σV[j]? = some (some (.ref p))->(∀ k:Nat,s.m.mt=true->rs[k]? ≠ some (.slot j))->¬ bV9 as vs p:=by
  intro j s t p hs _ _ w G hno ⟨i,a,S,m,evi⟩;obtain⟨r,v,Q,A,U,M⟩:=P i a S;rw[evi]at U;cases U;cases r with
  | val d=>cases A;cases m
  | own d=>
    obtain⟨q,C,T,Z,q4⟩:=M;cases C;exact Z ⟨j,s,hs,w,G⟩
  | slot l=>
    obtain⟨s',I,rfl⟩:=f l a A;have hmt:s'.m.mt=true:=by
     by_cases h':s'.m.mt=true;exact h';simp only[h']at m;exact absurd m h'
    by_cases z:l=j;subst z;rw[hs]at I;cases I;exact hno i hmt Q;exact x.dis l j s' s p z I hs hmt w M.1 G
 have okB:StOk Γ H2 (gQ rs as' 0 c) σV:=by
  refine⟨λj t g=>?_,λj l t t' q n g el m m' eq eq'=>?_,λj t q g m eq=>?_,λj t q g m eq=>?_,λa o e n=>?_,λa e=>x.dom a (po.dom a e),by rw[mT];exact x.len⟩
  ·obtain⟨s,hs,O,hc'⟩:=back j t g;obtain⟨w',ew,rw'⟩:=x.rel j s hs;refine⟨w',ew,?_⟩;by_cases K:s.m.mt=true/\∃ X:Nat,rs[X]? = some (.slot j)
   ·obtain⟨w,X,hk'⟩:=K;obtain⟨a,ha,hao⟩:=ga X _ hk';obtain⟨v',hv',rv'⟩:=gv X _ hk';have E:σV[j]? = some (some v'):=rv'.1;rw[ew]at E;cases E;obtain⟨s',I,Y⟩:=f j a hao;rw[hs]at I;cases I;have am:a.m=.par:=by rw[Y,a1Z w]
    obtain⟨a2,w2,R,h2,h3,h4⟩:=po.rel X a ha (by rw[am];rfl);rw[hv']at h3;cases h3;have ht:t=⟨s.m,a2.d⟩:=by
     rw[iB,a9e,hs]at g;have B:lA rs as' j (some s)=some t:=a5a g;unfold lA at B;dsimp only at B;split at B;rename_i b hb;obtain⟨k2,C,T⟩:=eK hb;obtain rfl:=lZ hc k2 X j C hk';rw[R]at T;cases T;have:=a5a B;rw[a1Z w]at this;exact this.symm;rename_i hb
     -- no argument at all: the lists part in length
     exfalso;have:∀ {rs:List Res} {as:List Sl} {kk:Nat} {a:Sl},rs[kk]? = some (.slot j)->as[kk]? = some a->iA j rs as≠none:=by
      intro rs
      induction rs with
      | nil=>intro as kk a h;simp at h
      | cons r rs ih=>
        intro as kk a h h';cases as with
        | nil=>simp at h'
        | cons b as=>
          cases kk with
          | zero=>simp at h;subst h;simp[iA]
          | succ kk=>
            have:=ih (as:=as) (kk:=kk) (a:=a) (by simpa using h) (by simpa using h');cases r with
            | slot i=>simp only[iA];split;exact λz=>nomatch z;exact this
            | val d=>exact this
            | own d=>exact this
     exact this hk' R hb
    subst ht;have h5:=(cO (s:=a2) (by rw[h2,am];exact λz=>nomatch z)).mp h4;exact(cO (s:=⟨s.m,a2.d⟩) (fT w)).mpr h5
   ·have ht:t=s:=by
     rcases hc' with h | ⟨w,X,a,R,_⟩;exact h;exact absurd ⟨w,X,R⟩ K
    rw[ht];refine rw'.mono extA λp o ep m hp=>po.fr p o hp ?_;exact quiet j s t p hs g ht m (by rw[ew,ep]) λX w hk=>K ⟨w,X,hk⟩
  ·obtain⟨s,hs,O,_⟩:=back j t g;obtain⟨s',I,mm',_⟩:=back l t' el;exact x.dis j l s s' q n hs I (by rw[← O];exact m) (by rw[← mm'];exact m') eq eq'
  ·obtain⟨s,hs,O,_⟩:=back j t g;exact x.own j s q hs (O.symm.trans m) eq
  ·obtain⟨s,hs,O,_⟩:=back j t g;exact x.par j s q hs (O.symm.trans m) eq
  ·refine po.fr a o (x.keep a o e n) λz=>?_;rcases L a z with⟨j,s,hs,m,G⟩ | ⟨_,_,z0⟩
   ·cases hq:s.m with
    | own=>rw[x.own j s a hs hq G]at e;cases e
    | par=>exact n (x.par j s a hs hq G)
    | val=>rw[hq]at m;cases m
    | lent=>rw[hq]at m;cases m
   ·rw[z0]at e;cases e
 have stB:Step σ σV H (gQ rs as' 0 c) σV H2:=by
  refine⟨λa o e n=>?_,λa e=>D.dom a (po.dom a e),λa ⟨j,t,g,m,A⟩=>?_,λa ⟨j,t,g,m,A⟩=>?_,λj t g=>?_,λj t g m=>?_,λj t g m=>?_⟩
  ·refine po.fr a o (D.fr a o e n) λz=>?_;rcases L a z with y | ⟨y,_⟩;rcases D.mu a y with y | y;exact n y;rw[e]at y;cases y;rw[e]at y;cases y
  ·obtain⟨s,hs,O,_⟩:=back j t g;exact D.mu a ⟨j,s,hs,by rw[← O];exact m,A⟩
  ·obtain⟨s,hs,O,_⟩:=back j t g;exact D.nv a ⟨j,s,hs,by rw[← O];exact m,A⟩
  ·obtain⟨s,hs⟩:=D.kp j t g;obtain⟨t',R,_⟩:=fwd j s hs;exact⟨t',R⟩
  ·obtain⟨s,hs,C,T,Z⟩:=D.fix j t g m;obtain⟨t',R,h2,h3⟩:=fwd j s hs;refine⟨t',R,h2.trans C,λz=>?_,Z⟩;rw[h3 (by rw[C,z];rfl)];exact T z
  ·obtain⟨s,hs,O,_⟩:=back j t g;exact D.lt j s hs (O.symm.trans m)
 refine⟨okB,?_,stB,nw.frh.back D⟩;cases r with
 | val d=>exact nw
 | own d=>
   obtain⟨p,C,T,Z⟩:=nw;refine⟨p,C,Z,λZ0=>?_,x.dom p T⟩;obtain⟨j,t,g,m,A⟩:=Z0;obtain⟨s,hs,O,_⟩:=back j t g;obtain⟨o,ho,_⟩:=x.mutObj ⟨j,s,hs,by rw[← O];exact m,A⟩;rw[T]at ho;cases ho
 | slot i=>exact nw.elim
def aU0{Γ:Gm}{n:Nat}{run:Run}{g:DA}{E:XK}{σV:St}{H:Hp}{Q:VK}(h:dTE Γ (aT n run g) σV H Q):bM9 (dsp n run) [] E (dTA Γ g) σV H Q:=by
 obtain⟨σ,ok,res,σ',e,k⟩:=h;obtain⟨⟨rs,a⟩,l,e⟩:=aC e;obtain⟨as,i,e⟩:=aC e;dsimp only at e;split at e
 case isFalse=>cases e
 case isTrue b=>
 obtain⟨⟨r,as'⟩,m,e⟩:=aC e;cases e;dsimp only at i b k;refine⟨σ,ok,rs,a,l,λvs o d p f q=>?_⟩;show dsp n run (vs++[]) o Q E;rw[a3f];obtain⟨s,c⟩:=aT9 i b.2 d p f q;refine⟨as,r,as',s,b.1,m,λv j t u=>?_⟩;obtain⟨w,x,y,z⟩:=c r as' v j t u;exact k v j w x y z
def aH{X:Cx}{e:Expr}{n:Nat}{run:Run}{a:DA}{E:XK}(h:∀ Γ,PE X e (bM9 (dsp n run) [] E (dTA Γ a))):GE X e (aT n run a):=.mk λΓ=>peW (h Γ) λ_ _ _=>aU0
section
variable{X:Cx}
def uW(i j:Int):Prop:=bZ5 i j\/(Builtin.Int.intBits i<=2 ^ 20/\Builtin.Int.intBits j<=2 ^ 20)
theorem uW.ok{i j:Int}(h:uW i j):IntMulOk i j:=by
 rcases h with h | h;exact h.ok;exact IntMulOk.of_bits h.1 h.2
def bQ6:OpR X (binaryOp .Mult) (rI uW λi j=>.int (i*j)):=opI λ_ _ _ _ _ _ _ a q=>PyProof.Rows.mul_int q a.ok
end
noncomputable section
open Classical
noncomputable def ii(f:Int->Int->D):F2:=λd e=>match d,e with
 | .int i,.int j=>some (.val (f i j))
 | _,_=>none
noncomputable def iiC(C:Int->Int->Prop)(f:Int->Int->D):F2:=λd e=>match d,e with
 | .int i,.int j=>if C i j then some (.val (f i j))else none
 | _,_=>none
noncomputable def iu(f:Int->D):F1:=λd=>match d with
 | .int i=>some (.val (f i))
 | _=>none
end
def bI6{g:Int->Int->V}{f:Int->Int->D}(h:∀ H i j,Rp H (f i j) (g i j)):xO (rI0 g) (ii f):=by
 intro H c d x y Q res a b e k;unfold ii at e;split at e;cases e;obtain rfl:=cW a;obtain rfl:=cW b;exact⟨_,_,rfl,rfl,k _ H (.refl _) (h H _ _)⟩;cases e
def aD6{C:Int->Int->Prop}{g:Int->Int->V}{f:Int->Int->D}(h:∀ H i j,Rp H (f i j) (g i j)):xO (rI C g) (iiC C f):=by
 intro H d l x y Q res a b e k;unfold iiC at e;split at e;split at e;rename_i c;cases e;obtain rfl:=cW a;obtain rfl:=cW b;exact⟨_,_,rfl,rfl,c,k _ H (.refl _) (h H _ _)⟩;cases e;cases e
noncomputable def cS6:F2:=ii λi j=>.int (i-j)
noncomputable def aQ1:F2:=iiC (λ_ j=>0 < j) λi j=>.int (i % j)
noncomputable def cL9:F2:=iiC bV6 λi j=>.int (i ^ j.toNat)
noncomputable def ltI:F2:=ii λi j=>.bl (decide (i < j))
noncomputable def leI:F2:=ii λi j=>.bl (decide (i<=j))
noncomputable def gtI:F2:=ii λi j=>.bl (decide (j < i))
noncomputable def geI:F2:=ii λi j=>.bl (decide (j<=i))
noncomputable def cS7:F1:=iu λi=>.int (-i)
def fL:xO (rI (λ_ j=>0 < j) λi j=>.int (i % j)) aQ1:=aD6 λ_ _ _=>.int _
def bQ7:xO (rI bV6 λi j=>.int (i ^ j.toNat)) cL9:=aD6 λ_ _ _=>.int _
def wV:xO (rI0 λi j=>.bl (decide (j < i))) gtI:=bI6 λ_ _ _=>.bl _
def bQ8:xO (rI0 λi j=>.bl (decide (j<=i))) geI:=bI6 λ_ _ _=>.bl _
section
variable{X:Cx}{pins:List (Addr×Obj)}{σ:St}{H:Hp}{s:Shared}{l:Addr}{xs:List V}
def wW(I:Inv X pins σ H s)(h:eW H l=some (true,xs)):xs.length<=sizeLine/\∃ (its:List Value) (n:Nat),bS xs its/\xs.length=its.length/\s.heap.get? l=some {cls:=.type "list",data:=.seq its.toArray n}:=by
 unfold eW at h;split at h;rename_i e;cases h;exact I.lstM e;cases h;rename_i o ys e;cases h;obtain⟨_,z,its,n,r,e⟩:=I.hok l _ e;exact⟨z,its,n,r,r.length,e⟩;cases h
end
def cC5:R2:=λx y H Q=>∃ l b xs zs,x=.ref l/\y=.ref b/\eW H l=some (true,xs)/\eW H b=some (true,zs)/\xs.length+zs.length<=sizeLine/\∀ p,H p=none->Q (.ref p) (upd H p (.lst (xs++zs)))
def bQ9{X:Cx}:OpR X (binaryOp .Add) cC5:=by
 intro pins s σ H x y v u Q I c d h;obtain⟨l,b,xs,o,rfl,rfl,f,g,p,q⟩:=h;cases c;cases d;obtain⟨z,its,n,r,t,e⟩:=wW I f;obtain⟨w,a,n2,i,j,k⟩:=wW I g;refine PySem.P.add_list e k ?_ (by rw[a4b,a4b];lia);have m:its.toArray++a.toArray=(its++a).toArray:=by simp
 rw[m];exact⟨.ref _,_,I.lnew (t':=s.toks) (r.append i) (by rw[a9a];lia),rfl,q _ I.fresh⟩
def cC6:R2:=λx y H Q=>bO9 x y H Q\/cC5 x y H Q
def bC{X:Cx}:OpR X (binaryOp .Add) cC6:=cB7.or bQ9
noncomputable def kJ:F2:=λd e=>match d,e with
 | .int i,.int j=>some (.val (.int (i+j)))
 | .str a,.str b=>if a.length+b.length<=sizeLine then some (.val (.str (a++b)))else none
 | .lst l,.lst m=>if l.length+m.length<=sizeLine then some (.own (.lst (l++m)))else none
 | .tup l,.tup m=>if l.length+m.length<=sizeLine then some (.val (.tup (l++m)))else none
 | _,_=>none
def wX{H:Hp}{p:Addr}{xs:List V}{l:List D}(a:H p=none)(r:Rps H l xs):aC8 H (upd H p (.lst xs)) (.own (.lst l)) (.ref p):=⟨p,rfl,a,xs,aO,r.mono (.same (bM a))⟩
def aD7{H:Hp}{p:Addr}{xs:List V}{l:List D}(a:H p=none)(r:Rps H l xs):aC8 H (upd H p (.tup xs)) (.val (.tup l)) (.ref p):=.tup aO (r.mono (.same (bM a)))
def bD:xO cC6 kJ:=by
 intro H t u x y Q res d f e k;unfold kJ at e;split at e;cases e;obtain rfl:=cW d;obtain rfl:=cW f;exact .inl (k _ H (.refl _) (.int _));split at e;rename_i i;cases e;obtain rfl:=kI d;obtain rfl:=kI f;exact .inl ⟨i,k _ H (.refl _) (.str _)⟩;cases e;split at e;rename_i l m i;cases e;obtain⟨p,xs,rfl,g,a⟩:=gZ d;obtain⟨q,ys,rfl,h,b⟩:=gZ f;have:=a.length;have:=b.length;exact .inr ⟨p,q,xs,ys,rfl,rfl,g,h,by lia,λr c=>k _ _ (bM c) (wX c (a.append b))⟩;cases e
 ·split at e;rename_i l m i;cases e;obtain⟨p,xs,rfl,g,a⟩:=eM d;obtain⟨q,ys,rfl,h,b⟩:=eM f;have o:=a.length;have s:=b.length;refine .inl (.inr ⟨xs,ys,cM g,cM h,by lia,λj=>?_,λj n=>?_,λj n r c=>k _ _ (bM c) (aD7 c (a.append b))⟩);subst j;have:l=[]:=a7c o;subst this;exact k _ H (.refl _) (.tup h b);subst n;have:m=[]:=a7c s;subst this;rw[a3f]at k;exact k _ H (.refl _) (.tup g a);cases e
 ·cases e
noncomputable section
open Classical
noncomputable def aD8:F2:=λd e=>match d,e with
 | .int i,.int j=>if uW i j then some (.val (.int (i*j)))else none
 | .str z,.int i=>if z.length<=1000/\0<=i/\i<=1000 then some (.val (.str (Txt.mul z i)))else none
 | _,_=>none
end
def cC7:R2:=λx y H Q=>rI uW (λi j=>.int (i*j)) x y H Q\/bO6 x y H Q
def fM{X:Cx}:OpR X (binaryOp .Mult) cC7:=bQ6.or cB6
def fN:xO cC7 aD8:=by
 intro H d f x y Q res b c e k;unfold aD8 at e;split at e;split at e;rename_i a;cases e;obtain rfl:=cW b;obtain rfl:=cW c;exact .inl ⟨_,_,rfl,rfl,a,k _ H (.refl _) (.int _)⟩;cases e;split at e;rename_i a;cases e;obtain rfl:=kI b;obtain rfl:=cW c;exact .inr ⟨a.1,a.2.1,a.2.2,λy _ e=>by subst e;exact k _ H (.refl _) (.str _)⟩;cases e;cases e
noncomputable def ixD:F2:=λd e=>match d,e with
 | .lst l,.int i=>(atI l i).map .val
 | .tup l,.int i=>(atI l i).map .val
 | .str z,.int i=>if z.length<=sizeLine then(atI z.cps.toList i).map λc=>.val (.str ⟨#[c]⟩)else none
 | _,_=>none
theorem Rps.atI{H:Hp}{l:List D}{xs:List V}{i:Int}{d:D}(r:Rps H l xs)(h:L2.atI l i=some d):∃ x,L2.atI xs i=some x/\Rp H d x:=by
 unfold L2.atI at h ⊢;obtain⟨j,a,b⟩:=aC h;rw[← r.length,a];exact r.get b
def cC8:xO cO5 ixD:=by
 intro H m n x y Q res f g e k;unfold ixD at e;split at e;obtain rfl:=cW g;obtain⟨p,xs,rfl,h,i⟩:=gZ f;obtain⟨d,a,b⟩:=a9c.mp e;cases b;obtain⟨x,j,r⟩:=i.atI a;exact⟨x,aS1 h j,k _ H (.refl _) r⟩;obtain rfl:=cW g;obtain⟨p,xs,rfl,h,i⟩:=eM f;obtain⟨d,a,b⟩:=a9c.mp e;cases b;obtain⟨x,j,r⟩:=i.atI a;exact⟨x,aS1 (cM h) j,k _ H (.refl _) r⟩;split at e;rename_i l;obtain rfl:=cW g;obtain rfl:=kI f;obtain⟨c,a,b⟩:=a9c.mp e;cases b;exact⟨_,bO3 l a,k _ H (.refl _) (.str _)⟩;cases e;cases e
def bE{X:Cx}{a b:Expr}{c d:DE}{pos:Pos}(ha:GE X a c)(hb:GE X b d)(hs:aR6 b):GE X (.Subscript a b pos) (aV ixD c d):=.mk λΓ=>peW (cK8 cR9 (ha.to Γ) (hb.to Γ) hs) λ_ _ _=>sE cC8
noncomputable def aD9:FN:=λa=>match a with
 | [.lst l]=>some (.val (.int l.length))
 | [.tup l]=>some (.val (.int l.length))
 | [.str z]=>if z.length<=sizeLine then some (.val (.int z.length))else none
 | _=>none
def bA3{H:Hp}{d:D}{vs:List V}(h:Vws H [d] vs):∃ x,vs=[x]/\Vw H d x:=by
 cases h with
 | cons a t=>cases t;exact⟨_,rfl,a⟩
def fO:bP6 cB3 aD9:=by
 intro H d vs Q res vw e k;unfold aD9 at e;split at e;cases e;obtain⟨x,rfl,v⟩:=bA3 vw;obtain⟨p,xs,rfl,a,b⟩:=gZ v;refine⟨_,_,rfl,aH7 a,?_⟩;rw[← b.length];exact k _ H (.refl _) (.int _);cases e;obtain⟨x,rfl,v⟩:=bA3 vw;obtain⟨p,xs,rfl,a,b⟩:=eM v;refine⟨_,_,rfl,aH7 (cM a),?_⟩;rw[← b.length];exact k _ H (.refl _) (.int _);split at e;rename_i c;cases e;obtain⟨x,rfl,v⟩:=bA3 vw;obtain rfl:=kI v;exact⟨_,_,rfl,bC6 c,k _ H (.refl _) (.int _)⟩;cases e;cases e
noncomputable def bI7(l:List D)(lo hi:Option Int):List D:=(l.drop (HT.sIx l.length 0 lo)).take (HT.sIx l.length l.length hi-HT.sIx l.length 0 lo)
def Rps.cut{H:Hp}{l:List D}{xs:List V}(r:Rps H l xs)(lo hi:Option Int):Rps H (bI7 l lo hi) (aB9 xs lo hi):=by
 unfold bI7 aB9;rw[r.length];exact(r.drop _).take _
def aU1{xs:List V}{lo hi:Option Int}(h:HT.sIx xs.length 0 lo=0/\HT.sIx xs.length xs.length hi=xs.length):aB9 xs lo hi=xs:=by
 unfold aB9;rw[h.1,h.2];simp
end Dv
namespace HT
open PySem PySem.Spec PyProof.Rows
section
variable{prog:Program}{w:World}{A:Around}{E:Value->Shared->Prop}{s:Shared}
def getItem_tuple_all{t sl:Addr}{items:Array Value}{f g:Value}{lo hi:Option Int}{Q:Value->Shared->Prop}(a:IsTup s.heap t items)(hs:s.heap.IsSliceOf sl f g .none)(pl:IsPart f lo)(j:IsPart g hi)
  (i:sIx items.size 0 lo=0/\sIx items.size items.size hi=items.size) (h:Q (.ref t) s):wpAny (model prog w) A (getItem (.ref t) (.ref sl)) Q E s:=by
 obtain⟨os,c,d,k⟩:=id hs;have e:s.TypeIs (.ref sl) "slice":=⟨os,c,d⟩;unfold getItem
 try with_reducible refine a2m ?_
 first | refine a1X (a1Y ?_) | skip
 refine a1X (wpAny_sequenceKey a.typeIs (by decide) ?_);refine a1X (wpAny_callSpecial?_slot (name:=Str.ofString "__getitem__") a.typeIs a3e
  (a2t a3e a.typeIs entry_tuple_getitem ?_ (args_tuple_getitem _ _)))
 show wpAny _ _ (Builtin.Tuple.tupleItemsOf (.ref t) >>= _) _ _ s;refine a1X (tupleItemsOf_ a ?_);refine a1X (a2E e ?_);rw[a1Z (by decide)];refine a1X (gK hs pl j ?_);have b:(((sIx items.size 0 lo:Nat):Int)==0&&(1:Int)==1&&(sIx items.size items.size hi-sIx items.size 0 lo)==items.size)=true:=by
  rw[i.1,i.2];simp
 show wpAny _ _ (if(((sIx items.size 0 lo:Nat):Int)==0&&(1:Int)==1&&(sIx items.size items.size hi-sIx items.size 0 lo)==items.size)=true then _ else _) _ _ s;rw[a1Z b];refine a1X ?_;unfold Builtin.Tuple.tupleIsExact;refine a1X (a2E a.typeIs (a1Y ?_));rw[a1Z (by decide)];refine a1X (a2y ?_);exact a1Y ⟨_,rfl,a1Y h⟩
end
end HT
namespace Dv
open PySem L2
def cP1:V->Option Int->Option Int->Hp->VK->Prop:=λx lo hi H Q=>match x with
 | .str z=>z.length<=sizeLine/\Q (.str (Txt.slice z lo hi)) H
 | .ref p=>(∃ xs,eW H p=some (true,xs)/\∀ r,H r=none->Q (.ref r) (upd H r (.lst (aB9 xs lo hi)))) \/
   ∃ xs,eW H p=some (false,xs)/\(aB9 xs lo hi=xs->Q (.ref p) H)/\∀ r,H r=none->Q (.ref r) (upd H r (.tup (aB9 xs lo hi)))
 | _=>False
def cS8{X:Cx}:SlR X cP1:=by
 intro pins s σ H x v d e lo hi sl Q I b hs pl c h;unfold cP1 at h;split at h;rename_i z;exact cL1 pins s σ H _ v d e lo hi sl Q I b hs pl c h
 ·rename_i p;rcases h with h | ⟨xs,g,j,k⟩;exact cL1 pins s σ H _ v d e lo hi sl Q I b hs pl c (.inl h);by_cases f:HT.sIx xs.length 0 lo=0/\HT.sIx xs.length xs.length hi=xs.length
  ·cases b;obtain⟨its,r,i,l⟩:=I.tuple (eA g);have a:its.toArray.size=xs.length:=by rw[a4b];exact r.length.symm
   refine⟨"tuple",_,a3e.lookup,i.typeIs,?_⟩;exact HT.getItem_tuple_all i hs pl c (by rw[a];exact f) ⟨.ref p,H,I,rfl,j (aU1 f)⟩
  ·exact cL1 pins s σ H _ v d e lo hi sl Q I b hs pl c (.inr ⟨xs,g,f,k⟩)
 ·exact h.elim
abbrev DO:=Sg->Option (Option Int×Sg)
def dTO(Γ:Gm)(r:DO):TO:=λσV H Q=>∃ σ,StOk Γ H σ σV/\∃ o σ',r σ=some (o,σ')/\∀ H',StOk Γ H' σ' σV->Step σ σV H σ' σV H'->Q o H'
structure GO(X:Cx)(e:Option Expr)(r:DO):Prop where
 to:∀ Γ,PO X e (dTO Γ r)
def poW{X:Cx}{e:Option Expr}{t t':TO}(h:PO X e t)(w:∀ σ H Q,t' σ H Q->t σ H Q):PO X e t':=λpins s σ H Q I q=>h pins s σ H Q I (w σ H Q q)
noncomputable def bA4:DO:=λσ=>some (none,σ)
noncomputable def dP(r:DE):DO:=λσ=>(r σ).bind λx=>(rd x.2 x.1).bind λd=>match d with
 | .int i=>some (some i,x.2)
 | _=>none
def iC{X:Cx}:GO X none bA4:=.mk λΓ=>poW bN1 λσV H Q Z1=>by obtain⟨σ,ok,o,σ',e,k⟩:=Z1;cases e;exact k H ok .refl
def iD{X:Cx}{e:Expr}{r:DE}(h:GE X e r):GO X (some e) (dP r):=.mk λΓ=>poW (bN2 (h.to Γ)) λσV H Q ⟨σ,ok,o,σ',e,k⟩=>by
 obtain⟨⟨x,c⟩,f,e⟩:=aC e;obtain⟨d,g,e⟩:=aC e;dsimp only at e;split at e;cases e;exact⟨σ,ok,x,_,f,λv i a j b _=>⟨_,cW (j.vw a g),k i a b⟩⟩;cases e
noncomputable def slD(d:D)(lo hi:Option Int):Option Res:=match d with
 | .str z=>if z.length<=sizeLine then some (.val (.str (Txt.slice z lo hi)))else none
 | .lst l=>some (.own (.lst (bI7 l lo hi)))
 | .tup l=>some (.val (.tup (bI7 l lo hi)))
 | _=>none
noncomputable def dSl(r:DE)(a b:DO):DE:=λσ=>(r σ).bind λx=>(a x.2).bind λy=>(b y.2).bind λz=>(rd z.2 x.1).bind λd=>(slD d y.1 z.1).bind λw=>some (w,z.2)
def eX{X:Cx}{e:Expr}{lo hi:Option Expr}{A pos:Pos}{r:DE}{a b:DO}(B:GE X e r)(ha:GO X lo a)(hb:GO X hi b):GE X (.Subscript e (.Slice lo hi none A) pos) (dSl r a b):=.mk λΓ=>peW (bB5 cS8 (B.to Γ) (ha.to Γ) (hb.to Γ)) λσV H Q ⟨σ,ok,res,σ',e,k⟩=>by
 obtain⟨⟨x,i⟩,C,e⟩:=aC e;obtain⟨⟨lo,j⟩,D,e⟩:=aC e;obtain⟨⟨hi,y⟩,E,e⟩:=aC e;obtain⟨d,F,e⟩:=aC e;obtain⟨w,c,e⟩:=aC e;cases e;refine⟨σ,ok,x,i,C,λv K l G m _=>⟨i,l,lo,j,D,λL n f=>⟨j,n,hi,y,E,λs g h=>?_⟩⟩⟩;have vw:=((G.step l f).step n h).vw g F;have fin:∀ v H',xN s H'->aC8 s H' res v->Q v H':=λv H' sm z=>k v H' (g.same sm) (z.res g) (((m.trans f).trans h).trans (.same sm)) (z.frh.back ((m.trans f).trans h));dsimp only at c;unfold slD at c;split at c;split at c;rename_i I;cases c;obtain rfl:=kI vw;exact⟨I,fin _ s (.refl _) (.str _)⟩;cases c;cases c;obtain⟨p,xs,rfl,t,u⟩:=gZ vw;exact .inl ⟨xs,t,λq o=>fin _ _ (bM o) (wX o (u.cut lo hi))⟩;cases c;obtain⟨p,xs,rfl,t,u⟩:=eM vw;refine .inr ⟨xs,cM t,λJ=>fin _ s (.refl _) ?_,λq o=>fin _ _ (bM o) (aD7 o (u.cut lo hi))⟩;have:=u.cut lo hi;rw[J]at this;exact .tup t this;cases c
noncomputable def cM0:FN:=λa=>match a with
 | [.int i,.int j]=>some (.val (.int (if j > i then j else i)))
 | _=>none
noncomputable def cM1:FN:=λa=>match a with
 | [.int i,.int j]=>some (.val (.int (if j < i then j else i)))
 | _=>none
noncomputable def bW1:FN:=λa=>match a with
 | [.int i]=>some (.val (.int i))
 | [.bl b]=>some (.val (.int (if b then 1 else 0)))
 | _=>none
def aU2:bP6 (λxs H Q=>(∃ i,xs=[.int i]/\Q (.int i) H)\/∃ k,xs=[.bl k]/\Q (.int (if k then 1 else 0)) H) bW1:=by
 intro H b vs Q res vw e k;unfold bW1 at e;split at e;cases e;obtain⟨x,rfl,a⟩:=bA3 vw;obtain rfl:=cW a;exact .inl ⟨_,rfl,k _ H (.refl _) (.int _)⟩;cases e;obtain⟨x,rfl,a⟩:=bA3 vw;obtain rfl:=bP7 a;exact .inr ⟨_,rfl,k _ H (.refl _) (.int _)⟩;cases e
noncomputable def aU3:FN:=λa=>match a with
 | [.lst l]=>some (.own (.lst l))
 | [.tup l]=>some (.own (.lst l))
 | _=>none
def bE0:bP6 bH8 aU3:=by
 intro H f vs Q res vw e k;unfold aU3 at e;split at e;cases e;obtain⟨x,rfl,a⟩:=bA3 vw;obtain⟨p,xs,rfl,c,d⟩:=gZ a;exact⟨p,true,xs,rfl,c,λq b=>k _ _ (bM b) (wX b d)⟩;cases e;obtain⟨x,rfl,a⟩:=bA3 vw;obtain⟨p,xs,rfl,c,d⟩:=eM a;exact⟨p,false,xs,rfl,cM c,λq b=>k _ _ (bM b) (wX b d)⟩;cases e
noncomputable def aI8:FN:=λa=>match a with
 | [.lst l]=>some (.val (.tup l))
 | [.tup l]=>some (.val (.tup l))
 | _=>none
def fP:bP6 cB5 aI8:=by
 intro H f vs Q res vw e k;unfold aI8 at e;split at e;cases e;obtain⟨x,rfl,a⟩:=bA3 vw;obtain⟨p,xs,rfl,b,c⟩:=gZ a;exact⟨p,true,xs,rfl,b,λq d=>k _ _ (bM d) (aD7 d c)⟩;cases e;obtain⟨x,rfl,a⟩:=bA3 vw;obtain⟨p,xs,rfl,b,c⟩:=eM a;exact⟨p,false,xs,rfl,cM b,k _ H (.refl _) (.tup b c)⟩;cases e
noncomputable def cM2:D->String
 | .non=>"NoneType"
 | .bl _=>"bool"
 | .int _=>"int"
 | .str _=>"str"
 | .lst _=>"list"
 | .tup _=>"tuple"
 | .dic _ _=>"dict"
noncomputable def cI2(c:String):F1:=λd=>match d with
 | .dic _ _=>none
 | d=>some (.val (.bl (aC6 (cM2 d) c)))
noncomputable def cS9:F1:=iu λi=>.int (Builtin.Int.intBits i)
noncomputable def bI8:FM:=λd a=>match d,a with
 | .lst l,[e]=>if l.length < sizeLine then some (.lst (l++[e]),.non)else none
 | _,_=>none
def tG{H:Hp}{l:List D}{p:Addr}(h:cN H (.lst l) p):∃ xs,H p=some (.lst xs)/\Rps H l xs:=h
def tH:cL7 sW bI8:=by
 intro H d p h vs Q d' e ow r b k;unfold bI8 at b;split at b
 ·split at b
  ·rename_i l x f;cases b;obtain⟨xs,g,c⟩:=tG ow;cases r with
   | cons a t=>
     cases t;exact⟨p,xs,_,rfl,rfl,g,by rw[← c.length];exact f,k _ _ ⟨_,aO,(c.append (.cons a .nil)).mono (cN.ext ow)⟩ .non⟩
  ·cases b
 ·cases b
noncomputable def cI3:FM:=λd a=>match d,a with
 | .lst l,[.lst m]=>if l.length+m.length<=sizeLine then some (.lst (l++m),.non)else none
 | _,_=>none
def cC9:V->List V->Hp->VK->Prop:=λx vs H Q=>∃ l b xs zs,x=.ref l/\vs=[.ref b]/\H l=some (.lst xs)/\eW H b=some (true,zs)/\xs.length+zs.length<=sizeLine/\Q .non (upd H l (.lst (xs++zs)))
def bR0{X:Cx}:MtM X "list.extend" cC9:=by
 intro pins s σ H x vs v us Q I g i h;obtain⟨l,b,xs,t,rfl,rfl,f,j,w,q⟩:=h;cases g;obtain⟨u,rfl,k⟩:=i.one;cases k;obtain⟨z,its,n,r,y,e⟩:=I.lstM f;obtain⟨A,a,n2,m,o,p⟩:=wW I j;have d:its.toArray.size+a.toArray.size<=sizeLine:=by rw[a4b,a4b];lia
 have c:¬ (!its.toArray.isEmpty&&Builtin.List.listTooLong (its.toArray.size+a.toArray.size))=true:=by
  rw[aH4 d,Bool.and_false];exact a9d
 refine a2M F.slot_list_extend ⟨_,e,rfl⟩ F.entry_list_extend (F.args_list_extend_2 _ _)
  (AutoSeq1.list_extend_list_list_0 l its.toArray n b a.toArray n2 c (by rw[a4b];lia) (by lia)) ⟨e,p,?_⟩
 refine⟨.non,_,I.lset (its':=its++a) f e (by simp) (r.append m) ?_,rfl,q⟩;rw[a9a];lia
def bR1:cO9 cC9 cI3:=by
 intro H d p i vs Q d' e ow r b k;unfold cI3 at b;split at b;split at b;rename_i l m j;cases b;obtain⟨xs,g,c⟩:=tG ow;obtain⟨x,rfl,a⟩:=bA3 r;obtain⟨q,ys,rfl,h,f⟩:=gZ a;have:=c.length;have:=f.length;exact⟨p,q,xs,ys,rfl,rfl,g,h,by lia,k _ _ ⟨_,aO,(c.append f).mono (cN.ext ow)⟩ .non⟩;cases b;cases b
noncomputable def yK:FM:=λd a=>match d,a with
 | .lst l,[.int i]=>if -(2 ^ 63)<=i/\i < 2 ^ 63 then(ixN l.length i).bind λj=>(l[j]?).map λy=>(.lst (l.eraseIdx j),y)else none
 | _,_=>none
def aU4:cL7 bH3 yK:=by
 intro H d p o vs Q d' e ow r b k;unfold yK at b;split at b
 ·split at b
  ·rename_i l i hi;obtain⟨j,f,b⟩:=aC b;obtain⟨y,g,h⟩:=a9c.mp b;cases h;obtain⟨xs,m,c⟩:=tG ow;obtain⟨x,ex,n⟩:=c.get g;cases r with
   | cons a t=>
     cases t;cases a;exact⟨p,xs,i,j,x,rfl,rfl,m,hi.1,hi.2,by rw[← c.length];exact(aC0 f).1,ex,k _ _ ⟨_,aO,(c.eraseIdx j).mono (cN.ext ow)⟩ (n.mono (cN.ext ow))⟩
  ·cases b
 ·cases b
noncomputable def cI4(i:Int)(e:D):D->Option D
 | .lst l=>(ixN l.length i).map λj=>.lst (l.set j e)
 | _=>none
noncomputable def bW2(k:Nat)(ri c:DE):DS:=λσ=>(c σ).bind λx=>match x.1 with
 | .val d=>if aC9 "list" k x.2=true then(ri x.2).bind λy=>(rd y.2 y.1).bind λe=>match e with
   | .int i=>(bD4 (λa _=>(cI4 i d a).map λb=>(b,.non)) k [] y.2).bind λz=>some (.nx z.2)
   | _=>none else none
 | _=>none
def aU5{X:Cx}{E:Ex}{st:Stmt}{k:Nat}{ri G:DE}(h:∀ Γ,PS X st (bM5 (dTE Γ G) (cO4 (bA2 k) (dTE Γ ri) cA6))):GS E X st (bW2 k ri G):=.mk λΓ=>psW (h Γ) λD σV H ⟨σ,ok,o,e,M⟩=>by
 obtain⟨⟨x,f⟩,N,e⟩:=aC e;refine⟨σ,ok,x,f,N,λv H1 g O u f1=>?_⟩;cases x with
 | own d=>cases e
 | slot d=>cases e
 | val d=>
   have c:(if aC9 "list" k f=true then(ri f).bind λy=>(rd y.2 y.1).bind λI=>match I with
    | .int i=>(bD4 (λa _=>(cI4 i d a).map λb=>(b,.non)) k [] y.2).bind λz=>some (.nx z.2)
    | _=>none else none)=some o:=e
   split at c
   ·rename_i hn;obtain⟨⟨y,w⟩,P,c⟩:=aC c;obtain⟨I,Q,c⟩:=aC c;obtain⟨s0,A,B,R⟩:=wO hn;obtain⟨p,ep,ow⟩:=g.ownAt A B;dsimp only at c;split at c
    ·rename_i i;obtain⟨⟨z,S⟩,T,c⟩:=aC c;cases c;obtain⟨s,d',y',hs,J,U,rfl,rfl⟩:=kX T;obtain⟨b,K,V⟩:=a9c.mp U;cases V;refine⟨_,ep,f,g,y,w,P,λvi W n Y q f2=>?_⟩;obtain rfl:=cW (Y.vw n Q);obtain⟨p',r,t⟩:=n.ownAt hs (fT J);rw[ep]at r;cases r;have Z:Rp W d v:=Rp.mono (q.ext g) O;obtain⟨m,sd⟩:=s;cases sd with
     | lst l=>
       obtain⟨j,e8,e9⟩:=a9c.mp K;cases e9;obtain⟨xs,h1,L⟩:=tG t;refine⟨p,xs,i,j,rfl,rfl,h1,by rw[← L.length];exact e8,?_⟩;obtain⟨C,F⟩:=n.write (d':=.lst (l.set j d)) (o':=.lst (xs.set j v)) hs J ep ⟨_,aO,(L.set j Z).mono (cN.ext t)⟩;exact M _ _ C ((u.trans q).trans F)
     | _=>cases K
    ·cases c
   ·cases c
def aO0(i j:Int):Prop:=0 < j/\j < 18446744073709551616
def aI9{X:Cx}:OpR X (binaryOp .FloorDiv) (rI aO0 λi j=>.int (i / j)):=opI λi j _ _ _ _ _ a q=>by
 have c:(0:Int) < j:=a.1;have d:j < 18446744073709551616:=a.2;refine PyProof.Rows.floordiv_int (by lia) (by rw[Int.fdiv_eq_ediv_of_nonneg i (by lia)];exact q) (.inl (PyProof.noPylong_of_log2 ?_));have h0:j.natAbs≠0:=by lia
 have b:j.natAbs.log2 < 64:=(Nat.log2_lt h0).mpr (by lia);lia
noncomputable def cI5:F2:=iiC aO0 λi j=>.int (i / j)
def aU6:xO (rI aO0 λi j=>.int (i / j)) cI5:=aD6 λ_ _ _=>.int _
mutual
def lB:D->PyData
 | .non=>.none
 | .bl b=>.bool b
 | .int i=>.int i
 | .str x=>.str x
 | .tup l=>.tuple (toPys l)
 | .lst l=>.list (toPys l)
 | .dic _ _=>.dict []
def toPys:List D->List PyData
 | []=>[]
 | d::r=>lB d::toPys r
end
section
variable{X:Cx}{pins:List (Addr×Obj)}{σ:St}{H:Hp}{s:Shared}
mutual
theorem aJ0(I:Inv X pins σ H s):∀ {d:D} {v:V} {u:Value},Rp H d v->eI v u->(lB d).canLay0=true->∃ as,Reads s.heap u (lB d) as
 | _,_,_,.non,r,_=>by cases r;exact⟨_,.none⟩
 | _,_,_,.bl b,r,_=>by cases r;exact⟨_,.bool b⟩
 | _,_,_,.int i,r,_=>by obtain⟨t,rfl⟩:=r;exact⟨_,.int i t⟩
 | _,_,_,.str x,r,_=>by obtain⟨t,rfl⟩:=r;exact⟨_,.str x t⟩
 | _,_,_,.tup h rs,r,a=>by
   cases r;obtain⟨_,its,c,⟨o,j,f,n,hd⟩,_⟩:=I.hok _ _ h;obtain⟨as,g⟩:=rps_reads I rs c a;exact⟨_,.tuple j f hd (by simpa using g)⟩
 | _,_,_,.lst h rs,r,a=>by
   cases r;obtain⟨_,_,its,n,c,e⟩:=I.hok _ _ h;obtain⟨as,g⟩:=rps_reads I rs c a;exact⟨_,.list e rfl rfl (by simpa using g)⟩
 | _,_,_,.dic h k rs,r,a=>nomatch a
theorem rps_reads(I:Inv X pins σ H s):∀ {l:List D} {vs:List V} {us:List Value},Rps H l vs->bS vs us->PyData.canLayAll0 (toPys l)=true->∃ as,ReadsAll s.heap us (toPys l) as
 | [],_,_,.nil,r,_=>by cases r;exact⟨_,.nil⟩
 | d::l,_,_,.cons a t,r,c=>by
   cases r with
   | cons e f=>
     have b:(lB d).canLay0=true/\PyData.canLayAll0 (toPys l)=true:=by simpa[toPys,PyData.canLayAll0]using c
     obtain⟨as,g⟩:=aJ0 I a e b.1;obtain⟨bs,h⟩:=rps_reads I t f b.2;exact⟨_,.cons g h⟩
end
def eY(I:Inv X pins σ H s){d:D}{v:V}{u:Value}(h:Vw H d v)(r:eI v u)(a:(lB d).canLay0=true):∃ as,Reads s.heap u (lB d) as:=by
 rcases h with h | ⟨p,rfl,h⟩;exact aJ0 I h r a;cases r;cases d with
 | lst l=>
   obtain⟨xs,b,c⟩:=tG h;obtain⟨_,its,n,f,e⟩:=I.hok _ _ b;obtain⟨as,g⟩:=rps_reads I c f a;exact⟨_,.list e rfl rfl (by simpa using g)⟩
 | dic ks vs=>exact nomatch a
 | _=>exact h.elim
end
noncomputable def aE0(d e:D):Bool:=PyData.eqv (lB d) (lB e)
noncomputable def eP(d:D):Bool:=(lB d).canLay0&&decide ((lB d).depth<=60)
def cM3(neg:Bool):R2:=λx y H Q=>∃ d e,Vw H d x/\Vw H e y/\eP d=true/\eP e=true/\Q (.bl (if neg then !aE0 d e else aE0 d e)) H
def bY{d:D}(h:eP d=true):(lB d).canLay0=true/\(lB d).depth<=60:=by
 unfold eP at h;rw[a7d,a2n]at h;exact h
def tJ{X:Cx}(n:X.A.units+64 < cLine):OpR X (compareOp .Eq) (cM3 false):=by
 intro pins s σ H x y v u Q I c f h;obtain⟨d,e,g,i,j,k,q⟩:=h;obtain⟨a,o⟩:=bY j;obtain⟨b,p⟩:=bY k;obtain⟨as,l⟩:=eY I g c a;obtain⟨bs,m⟩:=eY I i f b;exact SeqAt.rcAt_reads l m a b (by lia) _ _ _ _ ⟨.bl _,H,I,rfl,q⟩
def kK{X:Cx}(n:X.A.units+64 < cLine):OpR X (compareOp .NotEq) (cM3 true):=by
 intro pins s σ H x y v u Q I c f h;obtain⟨d,e,g,i,j,k,q⟩:=h;obtain⟨a,o⟩:=bY j;obtain⟨b,p⟩:=bY k;obtain⟨as,l⟩:=eY I g c a;obtain⟨bs,m⟩:=eY I i f b;exact SeqAt.rcNeAt_reads l m a b (by lia) _ _ _ _ ⟨.bl _,H,I,rfl,q⟩
noncomputable def eqD(neg:Bool):F2:=λd e=>if eP d=true/\eP e=true then some (.val (.bl (if neg then !aE0 d e else aE0 d e)))else none
def dL{neg:Bool}:xO (cM3 neg) (eqD neg):=by
 intro H b c x y Q res d f e k;unfold eqD at e;split at e;rename_i a;cases e;exact⟨b,c,d,f,a.1,a.2,k _ H (.refl _) (.bl _)⟩;cases e
def cM4(neg:Bool):R2:=λx y H Q=>(∃ i j,x=.str i/\y=.str j/\Q (.bl (if neg then(Builtin.Str.occurrences j i 0 j.length 1).isEmpty else !(Builtin.Str.occurrences j i 0 j.length 1).isEmpty)) H) \/
 ∃ d e b l,Vw H d x/\Vw H e y/\bV7 e=some (b,l)/\eP d=true/\eP e=true/\Q (.bl (if neg then !(l.any λy=>aE0 y d)else l.any λy=>aE0 y d)) H
theorem tK(d:D):∀ l:List D,(toPys l).any (λy=>PyData.eqv y (lB d))=l.any λy=>aE0 y d
 | []=>rfl
 | e::r=>by show(PyData.eqv (lB e) (lB d)||(toPys r).any _)=_;rw[tK d r];rfl
def yL{e:D}{b:Bool}{l:List D}(h:bV7 e=some (b,l)):PyData.depthAll (toPys l)<=(lB e).depth/\((lB e).canLay0=true->PyData.canLayAll0 (toPys l)=true):=by
 cases e with
 | lst a=>cases h;exact⟨by show _<=PyData.depth (.list (toPys l));simp only[PyData.depth];lia,λz=>z⟩
 | tup a=>cases h;exact⟨by show _<=PyData.depth (.tuple (toPys l));simp only[PyData.depth];lia,λz=>z⟩
 | _=>cases h
def cD0{X:Cx}(t:X.A.units+64 < cLine):OpR X (compareOp .In) (cM4 false):=by
 intro pins s σ H x y v u Q I f g h;rcases h with⟨i,j,rfl,rfl,q⟩ | ⟨d,e,b,l,v1,v2,hs,o,p,q⟩;exact aR2 pins s σ H _ _ v u Q I f g ⟨_,_,rfl,rfl,by simpa using q⟩;obtain⟨a,w⟩:=bY o;obtain⟨c,z⟩:=bY p;obtain⟨as,k⟩:=eY I v1 f a;obtain⟨bs,m⟩:=eY I v2 g c;obtain⟨dp,n⟩:=yL hs;have fin:EP X pins σ Q (.bool ((toPys l).any λy=>PyData.eqv y (lB d))) s:=⟨.bl _,H,I,by rw[tK];rfl,q⟩;cases e with
 | lst r=>cases hs;exact SeqAt.in_list_reads m k (n c) a (by lia) fin
 | tup r=>cases hs;exact SeqAt.in_tuple_reads m k (n c) a (by lia) fin
 | _=>cases hs
def yM{X:Cx}(t:X.A.units+64 < cLine):OpR X (compareOp .NotIn) (cM4 true):=by
 intro pins s σ H x y v u Q I f g h;rcases h with⟨i,j,rfl,rfl,q⟩ | ⟨d,e,b,l,v1,v2,hs,o,p,q⟩;exact xS pins s σ H _ _ v u Q I f g ⟨_,_,rfl,rfl,by simpa using q⟩;obtain⟨a,w⟩:=bY o;obtain⟨c,z⟩:=bY p;obtain⟨as,k⟩:=eY I v1 f a;obtain⟨bs,m⟩:=eY I v2 g c;obtain⟨dp,n⟩:=yL hs;have fin:EP X pins σ Q (.bool (!(toPys l).any λy=>PyData.eqv y (lB d))) s:=⟨.bl _,H,I,by rw[tK];rfl,q⟩;cases e with
 | lst r=>cases hs;exact SeqAt.notIn_list_reads m k (n c) a (by lia) fin
 | tup r=>cases hs;exact SeqAt.notIn_tuple_reads m k (n c) a (by lia) fin
 | _=>cases hs
noncomputable def inD(neg:Bool):F2:=λd e=>match d,e with
 | .str i,.str j=>some (.val (.bl (if neg then(Builtin.Str.occurrences j i 0 j.length 1).isEmpty else !(Builtin.Str.occurrences j i 0 j.length 1).isEmpty)))
 | d,e=>match bV7 e with
   | some (_,l)=>if eP d=true/\eP e=true then some (.val (.bl (if neg then !(l.any λy=>aE0 y d)else l.any λy=>aE0 y d)))else none
   | none=>none
def aU7{neg:Bool}:xO (cM4 neg) (inD neg):=by
 intro H f g x y Q res a c e k;unfold inD at e;split at e;cases e;obtain rfl:=kI a;obtain rfl:=kI c;exact .inl ⟨_,_,rfl,rfl,k _ H (.refl _) (.bl _)⟩;split at e;rename_i b l hs;split at e;rename_i d;cases e;exact .inr ⟨f,g,b,l,a,c,hs,d.1,d.2,k _ H (.refl _) (.bl _)⟩;cases e;cases e
def gE{X:Cx}{e:Expr}{r:DE}(h:GE X e r)(Γ:Gm):PE X e (dTE Γ r):=h.to Γ
def gA{X:Cx}{e:List Expr}{r:DA}(h:GA X e r)(Γ:Gm):PA X e (dTA Γ r):=h.to Γ
def gT{X:Cx}{e:Expr}{r:DT}(h:GT X e r)(Γ:Gm):PT X e (dTT Γ r):=h.to Γ
def gI{X:Cx}{tg e:Expr}{r:DI}(h:GI X tg e r)(Γ:Gm):PI X tg e (dTI Γ r):=h.to Γ
def gSs{X:Cx}{E:Ex}{e:List Stmt}{r:DS}(h:GSs E X e r)(Γ:Gm):PSs X e (dTS Γ E r):=h.to Γ
noncomputable def aU8(K:W.Frag):Bool:=K.all λp=>match p.2.cls with
 | .type n=>!(n=="list")
 | _=>true
def bR2{K:W.Frag}{H:Hp}{a:Addr}{ns:List Int}(c:aU8 K=true)(g:cB0 H)(b:SqL K H a (ns.map V.int)):ArgOk H [⟨.val,.lst (ns.map D.int)⟩] [.ref a]:=by
 have d:∃ o,H a=some (.frz o (.lst (ns.map V.int))):=by
  rcases b with b | ⟨o,its,n,k,q,_⟩
  ·rcases b with b | ⟨o,b⟩;rcases g a with z | ⟨o,xs,z⟩;rw[b]at z;cases z;rw[b]at z;cases z;exact⟨o,b⟩
  ·exfalso;unfold aU8 at c;rw[List.all_eq_true]at c;have u:(a,o)∈K:=by
    clear c g;have:∀ (l:List (Addr×Obj)),List.lookup a l=some o->(a,o)∈l:=by
     intro l
     induction l with
     | nil=>intro h;simp at h
     | cons p r v=>
       intro h;rw[a2i]at h;split at h
       ·rename_i e;have:a=p.1:=by simpa using e
        cases h;rw[this];exact a3a
       ·exact a4a _ (v h)
    exact this K k
   have:=c _ u;rw[q]at this;simp at this
 obtain⟨o,d⟩:=d;refine⟨rfl,λi s e=>?_,λi j s t p n f w m=>?_,λi s e=>?_⟩
 ·cases i with
  | zero=>simp at e;subst e;exact⟨_,rfl,.lst d (wL ns)⟩
  | succ i=>simp at e
 ·cases i with
  | zero=>simp at f;subst f;cases m
  | succ i=>simp at f
 ·cases i with
  | zero=>simp at e;subst e;exact λz=>nomatch z
  | succ i=>simp at e
def aU9{run:Run}{K:W.Frag}{H:Hp}{a:Addr}{ns:List Int}(b:aU8 K=true)(c:cB0 H)(d:SqL K H a (ns.map V.int))(h:∃ as',run [⟨.val,.lst (ns.map D.int)⟩]=some (.val (.bl true),as')) :
  dsp 1 run [.ref a] H (λv _=>v=.bl true) (λ_ _ _=>False):=by
 obtain⟨as',h⟩:=h;exact⟨_,_,as',bR2 b c d,rfl,h,λv H' f e=>by cases e;rfl⟩
def OK1{b:Type}(o:Option b)(K:b->Prop):Prop:=match o with
 | some a=>K a
 | none=>False
def RE(r:DE)(σ:Sg)(Q:Res->Sg->Prop):Prop:=OK1 (r σ) λx=>Q x.1 x.2
def RT(r:DT)(σ:Sg)(Q:Bool->Sg->Prop):Prop:=OK1 (r σ) λx=>Q x.1 x.2
def RA(r:DA)(σ:Sg)(Q:List Res->Sg->Prop):Prop:=OK1 (r σ) λx=>Q x.1 x.2
def RS(r:DS)(σ:Sg)(Q:Out->Prop):Prop:=OK1 (r σ) Q
def RI(r:DI)(σ:Sg)(Q:List D->Option Nat->Sg->Prop):Prop:=OK1 (r σ) λx=>Q x.1 x.2.1 x.2.2
def RO(r:DO)(σ:Sg)(Q:Option Int->Sg->Prop):Prop:=OK1 (r σ) λx=>Q x.1 x.2
theorem aK{b c:Type}{o:Option b}{f:b->Option c}{K:c->Prop}:OK1 (o.bind f) K=OK1 o λa=>OK1 (f a) K:=by cases o<;>rfl
theorem bF{b:Type}{a:b}{K:b->Prop}:OK1 (some a) K=K a:=rfl
def yN{b c:Type}{o:Option b}{f:b->c}{K:c->Prop}:OK1 (o.map f) K=OK1 o λa=>K (f a):=by cases o<;>rfl
theorem bA{a:Type}{c:Prop}[Decidable c]{o:Option a}{K:a->Prop}:OK1 (if c then o else none) K=(c/\OK1 o K):=by
 by_cases h:c;rw[a1Z h];exact propext ⟨λq=>⟨h,q⟩,λq=>q.2⟩;rw[a2k h];exact propext ⟨λq=>q.elim,λq=>h q.1⟩
def eC{b:Type}{o:Option b}{K:b->Prop}:OK1 o K↔∃ a,o=some a/\K a:=by
 cases o with
 | none=>exact⟨λq=>q.elim,λ⟨_,e,_⟩=>nomatch e⟩
 | some a=>exact⟨λq=>⟨a,rfl,q⟩,λZ1=>by obtain⟨_,e,q⟩:=Z1;cases e;exact q⟩
def cZ{b:Type}{o:Option b}{K c:b->Prop}(h:OK1 o K)(w:∀ a,K a->c a):OK1 o c:=by
 cases o with
 | none=>exact h
 | some a=>exact w a h
def VK:Nat->Sg->Nat->Sg->(Res->Sg->Prop)->Prop
 | 0,some s::_,i,σ,Q=>Q (if s.m=.val then .val s.d else .slot i) σ
 | n+1,_::r,i,σ,Q=>VK n r i σ Q
 | _,_,_,_,_=>False
theorem cD1:∀ (n:Nat) (r:Sg) (i:Nat) (σ:Sg) (Q:Res->Sg->Prop),VK n r i σ Q=OK1 (match r[n]? with | some (some s)=>some (if s.m=.val then Res.val s.d else Res.slot i,σ) | _=>none) λx=>Q x.1 x.2
 | 0,[],_,_,_=>rfl
 | 0,none::_,_,_,_=>rfl
 | 0,some s::_,_,_,_=>rfl
 | n+1,[],_,_,_=>rfl
 | n+1,_::r,i,σ,Q=>by
   show VK n r i σ Q=_;rw[cD1 n r i σ Q,a5c]
def GK:Nat->Sg->(D->Prop)->Prop
 | 0,some s::_,K=>K s.d
 | n+1,_::r,K=>GK n r K
 | _,_,_=>False
theorem cD2:∀ (n:Nat) (r:Sg) (K:D->Prop),GK n r K=OK1 (match r[n]? with | some (some s)=>some s.d | _=>none) K
 | 0,[],_=>rfl
 | 0,none::_,_=>rfl
 | 0,some s::_,_=>rfl
 | n+1,[],_=>rfl
 | n+1,_::r,K=>by
   show GK n r K=_;rw[cD2 n r K,a5c]
def RD(σ:Sg)(r:Res)(K:D->Prop):Prop:=OK1 (rd σ r) K
def PK:Nat->Sg->Sl->(Sg->Prop)->Prop
 | 0,none::r,s,K=>K (some s::r)
 | 0,some ⟨.val,_⟩::r,s,K=>K (some s::r)
 | 0,some ⟨.own,_⟩::r,s,K=>K (some s::r)
 | n+1,o::r,s,K=>PK n r s λa=>K (o::a)
 | _,_,_,_=>False
def aO1{n:Nat}{o:Option Sl}{r:Sg}:fJ (o::r) (n+1)=fJ r n:=by unfold fJ;rw[a5c]
theorem bE1:∀ (n:Nat) (r:Sg) (s:Sl) (K:Sg->Prop),PK n r s K=OK1 (if fJ r n=true then some (r.set n (some s))else none) K
 | 0,[],s,K=>rfl
 | 0,none::r,s,K=>rfl
 | 0,some ⟨.val,_⟩::r,s,K=>rfl
 | 0,some ⟨.own,_⟩::r,s,K=>rfl
 | 0,some ⟨.par,_⟩::r,s,K=>rfl
 | 0,some ⟨.lent,_⟩::r,s,K=>rfl
 | n+1,[],s,K=>by
   show False=_;rw[bA];unfold fJ;simp
 | n+1,o::r,s,K=>by
   show PK n r s (λa=>K (o::a))=_;rw[bE1 n r s _,bA,bA,aO1,List.set_cons_succ];rfl
def MK:Nat->Sg->FM->List D->(D->Sg->Prop)->Prop
 | 0,some ⟨.own,d⟩::r,f,ds,K=>OK1 (f d ds) λy=>K y.2 (some ⟨.own,y.1⟩::r)
 | 0,some ⟨.par,d⟩::r,f,ds,K=>OK1 (f d ds) λy=>K y.2 (some ⟨.par,y.1⟩::r)
 | n+1,o::r,f,ds,K=>MK n r f ds λe a=>K e (o::a)
 | _,_,_,_,_=>False
theorem cD3:∀ (n:Nat) (r:Sg) (f:FM) (ds:List D) (K:D->Sg->Prop),MK n r f ds K=OK1 (bD4 f n ds r) λx=>OK1 (match x.1 with | .val d=>some d | _=>none) λd=>K d x.2
 | 0,[],f,ds,K=>rfl
 | 0,none::r,f,ds,K=>rfl
 | 0,some ⟨.val,_⟩::r,f,ds,K=>rfl
 | 0,some ⟨.lent,_⟩::r,f,ds,K=>rfl
 | 0,some ⟨.own,d⟩::r,f,ds,K=>by
   show OK1 (f d ds) _=OK1 ((f d ds).bind λy=>some (Res.val y.2,some (⟨.own,y.1⟩:Sl)::r)) _;rw[aK];rfl
 | 0,some ⟨.par,d⟩::r,f,ds,K=>by
   show OK1 (f d ds) _=OK1 ((f d ds).bind λy=>some (Res.val y.2,some (⟨.par,y.1⟩:Sl)::r)) _;rw[aK];rfl
 | n+1,[],f,ds,K=>rfl
 | n+1,o::r,f,ds,K=>by
   show MK n r f ds (λe b=>K e (o::b))=_;rw[cD3 n r f ds _];unfold bD4;rw[a5c];cases q:r[n]? with
   | none=>rfl
   | some x=>cases x with
     | none=>rfl
     | some s=>
       dsimp only;by_cases a:s.m.mt=true;rw[a1Z a,a1Z a,aK,aK];rfl;rw[a2k a,a2k a];rfl
def TK:String->Nat->Sg->Prop->Prop
 | T,0,some ⟨.own,d⟩::_,P=>tyD T d=true/\P
 | T,0,some ⟨.par,d⟩::_,P=>tyD T d=true/\P
 | T,0,some ⟨.lent,d⟩::_,P=>tyD T d=true/\P
 | T,n+1,_::r,P=>TK T n r P
 | _,_,_,_=>False
theorem bE2:∀ (T:String) (n:Nat) (r:Sg) (P:Prop),TK T n r P=(aC9 T n r=true/\P)
 | T,0,[],P=>by simp[TK,aC9]
 | T,0,none::r,P=>by simp[TK,aC9]
 | T,0,some ⟨.val,d⟩::r,P=>by simp[TK,aC9]
 | T,0,some ⟨.own,d⟩::r,P=>by simp[TK,aC9]
 | T,0,some ⟨.par,d⟩::r,P=>by simp[TK,aC9]
 | T,0,some ⟨.lent,d⟩::r,P=>by simp[TK,aC9]
 | T,n+1,[],P=>by simp[TK,aC9]
 | T,n+1,o::r,P=>by
   show TK T n r P=_;rw[bE2 T n r P];unfold aC9;rw[a5c]
section
variable{σ:Sg}{Q:Res->Sg->Prop}{QT:Bool->Sg->Prop}{QA:List Res->Sg->Prop}{QS:Out->Prop}{K:D->Prop}{KR:Res->Prop}{a b c:DE}{ra:DA}{t u:DT}{x y:DS}{d e:D}{f:F2}{f1:F1}{fn:FN}{i j n:Nat}{r:Sg}{o:Option Sl}
theorem bI9:RE (dC d) σ Q=Q (.val d) σ:=rfl
theorem mU:RE (aJ i) σ Q=VK i σ i σ Q:=(cD1 i σ i σ Q).symm
theorem mV:VK (n+1) (o::r) i σ Q=VK n r i σ Q:=rfl
theorem mW:VK 0 (some ⟨.val,d⟩::r) i σ Q=Q (.val d) σ:=rfl
theorem mX:VK 0 (some ⟨.own,d⟩::r) i σ Q=Q (.slot i) σ:=rfl
theorem mY:VK 0 (some ⟨.par,d⟩::r) i σ Q=Q (.slot i) σ:=rfl
theorem mZ:VK 0 (some ⟨.lent,d⟩::r) i σ Q=Q (.slot i) σ:=rfl
theorem nA:RE (aV f a b) σ Q=RE a σ λx g=>RE b g λy c=>RD c x λd=>RD c y λe=>OK1 (f d e) λr=>Q r c:=by
 unfold RE aV RD;simp only[aK,bF]
theorem nB:RE (cI0 f1 a) σ Q=RE a σ λx b=>RD b x λd=>OK1 (f1 d) λr=>Q r b:=by
 unfold RE cI0 RD;simp only[aK,bF]
theorem nD:RD σ (.val d) K=K d:=rfl
theorem nE:RD σ (.own d) K=K d:=rfl
theorem nF:RD σ (.slot i) K=GK i σ K:=(cD2 i σ K).symm
theorem nG{m:Md}:GK 0 (some ⟨m,d⟩::r) K=K d:=rfl
theorem nH:GK (n+1) (o::r) K=GK n r K:=rfl
theorem nJ:RT (kU a) σ QT=RE a σ λx c=>RD c x λd=>OK1 (match d with | .bl b=>some b | _=>none) λb=>QT b c:=by
 unfold RT RE kU RD;simp only[aK];congr 1;funext x;congr 1;funext d;cases d<;>rfl
theorem nK{b:Bool}{K:Bool->Prop}:OK1 (match D.bl b with | .bl b=>some b | _=>none) K=K b:=rfl
theorem nM:RT (cI1 t u) σ QT=RT t σ λb a=>if b=true then RT u a QT else QT false a:=by
 unfold RT cI1;simp only[aK];congr 1;funext x;by_cases h:x.1=true<;>simp[h,OK1]
theorem yO:RT (dOr t u) σ QT=RT t σ λb a=>if b=true then QT true a else RT u a QT:=by
 unfold RT dOr;simp only[aK];congr 1;funext x;by_cases h:x.1=true<;>simp[h,OK1]
theorem iE:RT wT σ QT=QT true σ:=rfl
theorem iF:RE (aS7 a b) σ Q=RT (kU a) σ λt c=>if t=true then RE b c Q else Q (.val (.bl false)) c:=by
 unfold RT RE aS7;simp only[aK];congr 1;funext x;by_cases h:x.1=true<;>simp[h,OK1]
theorem nN{b:Bool}{K:Bool->Prop}:OK1 (match Res.val (D.bl b)with | .val (.bl t)=>some t | _=>none) K=K b:=rfl
theorem nO:RA aN σ QA=QA [] σ:=rfl
theorem iG:RA (aD a ra) σ QA=RE a σ λx b=>RA ra b λxs c=>QA (x::xs) c:=by
 unfold RA RE aD;simp only[aK,bF]
def RDs(σ:Sg)(rs:List Res)(K:List D->Prop):Prop:=OK1 (rds σ rs) K
def VLs(rs:List Res)(K:List D->Prop):Prop:=OK1 (vals rs) K
theorem iH{K:List D->Prop}:RDs σ [] K=K []:=rfl
theorem iI{x:Res}{xs:List Res}{K:List D->Prop}:RDs σ (x::xs) K=RD σ x λd=>RDs σ xs λds=>K (d::ds):=by
 show OK1 ((rd σ x).bind λd=>(rds σ xs).bind λds=>some (d::ds)) K=_;unfold RDs RD;simp only[aK,bF]
theorem nP{K:List D->Prop}:VLs [] K=K []:=rfl
theorem nQ{xs:List Res}{K:List D->Prop}:VLs (.val d::xs) K=VLs xs λds=>K (d::ds):=by
 show OK1 ((vals xs).bind λds=>some (d::ds)) K=_;unfold VLs;simp only[aK,bF]
theorem yP:RE (dCB fn ra) σ Q=RA ra σ λxs a=>RDs a xs λds=>OK1 (fn ds) λr=>Q r a:=by
 unfold RE RA RDs dCB;simp only[aK,bF]
theorem nU:RE (kL ra) σ Q=RA ra σ λxs a=>VLs xs λds=>ds.length<=sizeLine/\Q (.val (.tup ds)) a:=by
 unfold RE RA VLs kL;simp only[aK,bA,bF]
theorem nV:RE (wN ra) σ Q=RA ra σ λxs a=>VLs xs λds=>ds.length<=sizeLine/\Q (.own (.lst ds)) a:=by
 unfold RE RA VLs wN;simp only[aK,bA,bF]
def FK(r:Res)(σ:Sg)(K:D->Sg->Prop):Prop:=OK1 (cO8 σ r) λx=>K x.1 x.2
def ZK:Nat->Sg->(D->Sg->Prop)->Prop
 | 0,some ⟨.own,d⟩::r,K=>K d (some ⟨.val,d⟩::r)
 | 0,some ⟨.val,d⟩::r,K=>K d (some ⟨.val,d⟩::r)
 | n+1,o::r,K=>ZK n r λd a=>K d (o::a)
 | _,_,_=>False
theorem cD4:∀ (n:Nat) (r:Sg) (K:D->Sg->Prop),ZK n r K=FK (.slot n) r K
 | 0,[],K=>rfl
 | 0,none::r,K=>rfl
 | 0,some ⟨.val,_⟩::r,K=>rfl
 | 0,some ⟨.own,_⟩::r,K=>rfl
 | 0,some ⟨.par,_⟩::r,K=>rfl
 | 0,some ⟨.lent,_⟩::r,K=>rfl
 | n+1,[],K=>rfl
 | n+1,o::r,K=>by
   show ZK n r (λd c=>K d (o::c))=_;rw[cD4 n r _];show OK1 (match r[n]? with | some (some s)=>if s.m=.own then some (s.d,r.set n (some ⟨.val,s.d⟩))else if s.m=.val then some (s.d,r)else none | _=>none) _ =
    OK1 (match (o::r)[n+1]? with | some (some s)=>if s.m=.own then some (s.d,(o::r).set (n+1) (some ⟨.val,s.d⟩))else if s.m=.val then some (s.d,o::r)else none | _=>none) _
   rw[a5c];cases r[n]? with
   | none=>rfl
   | some x=>cases x with
     | none=>rfl
     | some s=>
       dsimp only;by_cases a:s.m=.own;rw[a1Z a,a1Z a];rfl;rw[a2k a,a2k a];by_cases b:s.m=.val;rw[a1Z b,a1Z b];rfl;rw[a2k b,a2k b];rfl
theorem yQ:RE (dFz a) σ Q=RE a σ λx b=>FK x b λd c=>Q (.val d) c:=by
 unfold RE dFz FK;simp only[aK,bF]
theorem nW{K:D->Sg->Prop}:FK (.val d) σ K=K d σ:=rfl
theorem nX{K:D->Sg->Prop}:FK (.own d) σ K=K d σ:=rfl
theorem nY{K:D->Sg->Prop}:FK (.slot i) σ K=ZK i σ K:=(cD4 i σ K).symm
theorem nZ{K:D->Sg->Prop}:ZK 0 (some ⟨.own,d⟩::r) K=K d (some ⟨.val,d⟩::r):=rfl
theorem oA{K:D->Sg->Prop}:ZK 0 (some ⟨.val,d⟩::r) K=K d (some ⟨.val,d⟩::r):=rfl
theorem oB{K:D->Sg->Prop}:ZK (n+1) (o::r) K=ZK n r λd a=>K d (o::a):=rfl
theorem iJ:RS lX σ QS=QS (.nx σ):=rfl
theorem iK:RS (λσ=>some (.ct σ)) σ QS=QS (.ct σ):=rfl
def SqK(y:DS)(QS:Out->Prop):Out->Prop
 | .nx σ=>RS y σ QS
 | o=>QS o
theorem oC:RS (cG x y) σ QS=RS x σ (SqK y QS):=by
 unfold RS cG;rw[aK];congr 1;funext o;cases o<;>rfl
theorem oE:SqK y QS (.nx σ)=RS y σ QS:=rfl
theorem oF{v:Res}:SqK y QS (.rt v σ)=QS (.rt v σ):=rfl
theorem oG:SqK y QS (.bk σ)=QS (.bk σ):=rfl
theorem oH:SqK y QS (.ct σ)=QS (.ct σ):=rfl
theorem iL:RS (wP a) σ QS=RE a σ λ_ b=>QS (.nx b):=by unfold RS RE wP;simp only[aK,bF]
theorem oJ:RS (mQ a) σ QS=RE a σ λx b=>QS (.rt x b):=by unfold RS RE mQ;simp only[aK,bF]
theorem iM:RS cL8 σ QS=QS (.rt (.val .non) σ):=rfl
theorem oK:RS (aD0 t x y) σ QS=RT t σ λb a=>if b=true then RS x a QS else RS y a QS:=by
 unfold RS RT aD0;simp only[aK];congr 1;funext z;by_cases h:z.1=true<;>simp[h]
def PtK(i:Nat)(r:Res)(σ:Sg)(K:Sg->Prop):Prop:=OK1 (cP0 i r σ) K
theorem oM:RS (dW i a) σ QS=RE a σ λx b=>PtK i x b λc=>QS (.nx c):=by unfold RS RE PtK dW;simp only[aK,bF]
theorem oN{K:Sg->Prop}:PtK i (.val d) σ K=PK i σ ⟨.val,d⟩ K:=(bE1 i σ _ K).symm
theorem oO{K:Sg->Prop}:PtK i (.own d) σ K=PK i σ ⟨.own,d⟩ K:=(bE1 i σ _ K).symm
theorem oP{s:Sl}{K:Sg->Prop}:PK 0 (none::r) s K=K (some s::r):=rfl
theorem oQ{s:Sl}{K:Sg->Prop}:PK 0 (some ⟨.val,d⟩::r) s K=K (some s::r):=rfl
theorem oR{s:Sl}{K:Sg->Prop}:PK 0 (some ⟨.own,d⟩::r) s K=K (some s::r):=rfl
theorem oS{s:Sl}{K:Sg->Prop}:PK (n+1) (o::r) s K=PK n r s λa=>K (o::a):=rfl
theorem bR3{b:FM}{ds:List D}{σ:Sg}:OK1 (bD4 b i ds σ) (λx=>Q x.1 x.2)=MK i σ b ds λd a=>Q (.val d) a:=by
 rw[cD3];apply propext;rw[eC,eC];constructor;rintro⟨⟨x,s⟩,e,q⟩;obtain⟨_,_,_,_,_,_,rfl,_⟩:=kX e;exact⟨_,e,q⟩;rintro⟨⟨x,s⟩,e,q⟩;obtain⟨_,_,_,_,_,_,rfl,_⟩:=kX e;exact⟨_,e,q⟩
theorem iN{T:String}{c:FM}:RE (uV T i c ra) σ Q=TK T i σ (RA ra σ λxs a=>VLs xs λds=>MK i a c ds λd b=>Q (.val d) b):=by
 rw[bE2];unfold RE uV RA VLs;rw[bA];simp only[aK,bR3]
theorem iO{T:String}{c:FM}:RE (aT1 T i c ra) σ Q=TK T i σ (RA ra σ λxs a=>RDs a xs λds=>MK i a c ds λd b=>Q (.val d) b):=by
 rw[bE2];unfold RE aT1 RA RDs;rw[bA];simp only[aK,bR3]
theorem oU{T:String}{P:Prop}:TK T 0 (some ⟨.own,d⟩::r) P=(tyD T d=true/\P):=rfl
theorem oV{T:String}{P:Prop}:TK T 0 (some ⟨.par,d⟩::r) P=(tyD T d=true/\P):=rfl
theorem oW{T:String}{P:Prop}:TK T (n+1) (o::r) P=TK T n r P:=rfl
theorem oX{a:FM}{ds:List D}{K:D->Sg->Prop}:MK 0 (some ⟨.own,d⟩::r) a ds K=OK1 (a d ds) λy=>K y.2 (some ⟨.own,y.1⟩::r):=rfl
theorem oY{a:FM}{ds:List D}{K:D->Sg->Prop}:MK 0 (some ⟨.par,d⟩::r) a ds K=OK1 (a d ds) λy=>K y.2 (some ⟨.par,y.1⟩::r):=rfl
theorem oZ{a:FM}{ds:List D}{K:D->Sg->Prop}:MK (n+1) (o::r) a ds K=MK n r a ds λe b=>K e (o::b):=rfl
theorem pA:RS (bW2 i a b) σ QS=RE b σ λx c=>OK1 (match x with | .val d=>some d | _=>none) λd=>TK "list" i c (RE a c λy f=>RD f y λg=>OK1 (match g with | .int k=>some k | _=>none) λk=>
  MK i f (λa _=>(cI4 k d a).map λb=>(b,.non)) [] λ_ e=>QS (.nx e)):=by
 unfold RS RE RD bW2;rw[aK];congr 1;funext x;obtain⟨x,c⟩:=x;cases x with
 | own d=>rfl
 | slot d=>rfl
 | val d=>
   show OK1 _ _=TK _ _ _ _;rw[bE2];dsimp only;rw[bA];simp only[aK];congr 1;congr 1;funext y;congr 1;funext g;cases g with
   | int k=>
     dsimp only;rw[aK];show _=MK _ _ _ _ _;rw[← bR3 (Q:=λ_ e=>QS (.nx e))];rfl
   | _=>rfl
theorem pB{K:D->Prop}:OK1 (match Res.val d with | .val d=>some d | _=>none) K=K d:=rfl
theorem pC{k:Int}{K:Int->Prop}:OK1 (match D.int k with | .int k=>some k | _=>none) K=K k:=rfl
theorem pD{g:DG}:RS (cC3 g a) σ QS=RE a σ λx b=>OK1 (match x with | .val d=>some d | _=>none) λd=>OK1 (g d b) λc=>QS (.nx c):=by
 unfold RS RE cC3;rw[aK];congr 1;funext x;obtain⟨x,b⟩:=x;cases x with
 | own d=>rfl
 | slot d=>rfl
 | val d=>
   show OK1 ((g d b).bind _) _=OK1 (g d b) _;rw[aK];rfl
theorem yR{K:Sg->Prop}:OK1 (dgN i d σ) K=PK i σ ⟨.val,d⟩ K:=(bE1 i σ _ K).symm
theorem iP{a:DGs}{l:List D}{K:Sg->Prop}:OK1 (aT5 n a (.tup l) σ) K=(l.length=n/\OK1 (a l σ) K):=by
 show OK1 (if l.length=n then a l σ else none) K=_;rw[bA]
theorem eZ{g:DG}{b:DGs}{l:List D}{K:Sg->Prop}:OK1 (hV g b (d::l) σ) K=OK1 (g d σ) λa=>OK1 (b l a) K:=by
 show OK1 ((g d σ).bind λa=>b l a) K=_;rw[aK]
theorem iQ{K:Sg->Prop}:OK1 (aN7 [] σ) K=K σ:=rfl
theorem pE{K:D×D->Prop}:OK1 (match [d,e]with | [d,e]=>some (d,e) | _=>none) K=K (d,e):=rfl
end
def CK(run:Run)(as:List Sl)(K:Res->List Sl->Prop):Prop:=OK1 (run as) λy=>K y.1 y.2
def AK(σ:Sg)(rs:List Res)(K:List Sl->Prop):Prop:=OK1 (vN σ rs) K
def A1(σ:Sg)(r:Res)(K:Sl->Prop):Prop:=OK1 (aD4 σ r) K
def HK:Nat->Sg->(Sl->Prop)->Prop
 | 0,some ⟨m,d⟩::_,K=>K ⟨if m.mt=true then .par else m,d⟩
 | n+1,_::r,K=>HK n r K
 | _,_,_=>False
theorem cD5:∀ (n:Nat) (r:Sg) (K:Sl->Prop),HK n r K=A1 r (.slot n) K
 | 0,[],_=>rfl
 | 0,none::_,_=>rfl
 | 0,some s::_,_=>rfl
 | n+1,[],_=>rfl
 | n+1,_::r,K=>by
   show HK n r K=_;rw[cD5 n r K];show OK1 (match r[n]? with | some (some s)=>some (⟨if s.m.mt=true then .par else s.m,s.d⟩:Sl) | _=>none) K=OK1 (match (_::r)[n+1]? with | some (some s)=>some (⟨if s.m.mt=true then .par else s.m,s.d⟩:Sl) | _=>none) K;rw[a5c]
def UK:Nat->Sg->D->(Sg->Prop)->Prop
 | 0,some ⟨.own,_⟩::r,d,K=>K (some ⟨.own,d⟩::r)
 | 0,some ⟨.par,_⟩::r,d,K=>K (some ⟨.par,d⟩::r)
 | 0,o::r,_,K=>K (o::r)
 | n+1,o::r,d,K=>UK n r d λa=>K (o::a)
 | _,[],_,K=>K []
noncomputable def uS(σ:Sg)(i:Nat)(d:D):Sg:=match σ[i]? with
 | some (some s)=>if s.m.mt=true then σ.set i (some ⟨s.m,d⟩)else σ
 | _=>σ
theorem cD6:∀ (n:Nat) (r:Sg) (d:D) (K:Sg->Prop),UK n r d K=K (uS r n d)
 | 0,[],_,_=>rfl
 | n+1,[],_,_=>rfl
 | 0,none::r,d,K=>rfl
 | 0,some ⟨.val,_⟩::r,d,K=>rfl
 | 0,some ⟨.own,_⟩::r,d,K=>rfl
 | 0,some ⟨.par,_⟩::r,d,K=>rfl
 | 0,some ⟨.lent,_⟩::r,d,K=>rfl
 | n+1,o::r,d,K=>by
   show UK n r d (λa=>K (o::a))=_;rw[cD6 n r d _];unfold uS;rw[a5c];cases r[n]? with
   | none=>rfl
   | some x=>cases x with
     | none=>rfl
     | some s=>
       dsimp only;by_cases h:s.m.mt=true;rw[a1Z h,a1Z h];rfl;rw[a2k h,a2k h]
noncomputable def sB:List Res->List Sl->Sg->Sg
 | .slot i::rs,a::as,σ=>sB rs as (uS σ i a.d)
 | _::rs,_::as,σ=>sB rs as σ
 | _,_,σ=>σ
def cD7{σ:Sg}{i j:Nat}{d:D}:(uS σ i d)[j]? = (σ[j]?).map λo=>if j=i then(match o with | some s=>some (if s.m.mt=true then⟨s.m,d⟩else s) | none=>none)else o:=by
 unfold uS;by_cases hj:j=i
 ·subst hj;cases h:σ[j]? with
  | none=>dsimp only;rw[h];rfl
  | some o=>
    cases o with
    | none=>dsimp only;rw[h];simp
    | some s=>
      dsimp only;by_cases a:s.m.mt=true;rw[a1Z a,a1b (a0a.mp h).1];simp[a];rw[a2k a,h];simp[a]
 ·have:∀ x:Option Sl,(σ.set i x)[j]? = σ[j]?:=λx=>a2a (a1d hj);split;split;rw[this];cases σ[j]? <;> simp[hj];cases σ[j]? <;> simp[hj];cases σ[j]? <;> simp[hj]
theorem aJ1:∀ (rs:List Res) (as:List Sl) (σ:Sg) (j:Nat),cE rs=true->(sB rs as σ)[j]? = (σ[j]?).map (lA rs as j)
 | [],as,σ,j,_=>by cases as<;>(show σ[j]? = _;cases σ[j]? with | none=>rfl | some o=>cases o<;>simp[lA,iA])
 | r::rs,[],σ,j,_=>by cases r<;>(show σ[j]? = _;cases σ[j]? with | none=>rfl | some o=>cases o<;>simp[lA,iA])
 | .val d::rs,a::as,σ,j,h=>aJ1 rs as σ j h
 | .own d::rs,a::as,σ,j,h=>aJ1 rs as σ j h
 | .slot i::rs,a::as,σ,j,h=>by
   have h':cE rs=true/\aD5 i rs=false:=by
    unfold cE at h;rw[a7d]at h;exact⟨h.2,by simpa using h.1⟩
   show(sB rs as (uS σ i a.d))[j]? = _;rw[aJ1 rs as _ j h'.1,cD7];cases σ[j]? with
   | none=>rfl
   | some o=>
     cases o with
     | none=>by_cases hj:j=i<;>simp[lA,hj]
     | some s=>
       by_cases hj:j=i
       ·subst hj;have c:iA j rs as=none:=by
         cases q:iA j rs as with
         | none=>rfl
         | some b=>
           obtain⟨k,e,_⟩:=eK q;rw[sH e]at h';cases h'.2
        simp[lA,c,iA]
       ·have:¬ i=j:=λz=>hj z.symm;simp[lA,hj,iA,this]
def cD8{rs:List Res}{as:List Sl}{σ:Sg}(h:cE rs=true):gQ rs as 0 σ=sB rs as σ:=by
 apply a7h;intro j;rw[iB,aJ1 rs as σ j h,a9e]
def BK(rs:List Res)(as:List Sl)(σ:Sg)(K:Sg->Prop):Prop:=K (sB rs as σ)
def cD9(as:List Sl)(K:Res->List Sl->Prop):Out->Prop
 | .nx σ=>K (.val .non) (tF as σ)
 | .rt r σ=>OK1 (bW0 σ r) λa=>K a (tF as σ)
 | _=>False
section
variable{σ:Sg}{Q:Res->Sg->Prop}{ra:DA}{d:D}{i n:Nat}{r:Sg}{o:Option Sl}
theorem iR{run:Run}:RE (aT n run ra) σ Q=RA ra σ λrs a=>AK a rs λas=>(as.length=n/\cE rs=true)/\CK run as λy as'=>BK rs as' a λb=>Q y b:=by
 unfold RE RA AK CK aT;simp only[aK,bA,bF];congr 1;funext x;congr 1;funext as;apply propext;constructor;rintro⟨h,q⟩;refine⟨h,cZ q λy q=>?_⟩;unfold BK;rw[← cD8 h.2];exact q;rintro⟨h,q⟩;refine⟨h,cZ q λy q=>?_⟩;unfold BK at q;rw[← cD8 h.2]at q;exact q
theorem pF{as:List Sl}{K:Sg->Prop}:BK [] as σ K=K σ:=by cases as<;>rfl
theorem pG{rs:List Res}{a:Sl}{as:List Sl}{K:Sg->Prop}:BK (.val d::rs) (a::as) σ K=BK rs as σ K:=rfl
theorem pH{rs:List Res}{a:Sl}{as:List Sl}{K:Sg->Prop}:BK (.own d::rs) (a::as) σ K=BK rs as σ K:=rfl
theorem pI{rs:List Res}{m:Md}{as:List Sl}{K:Sg->Prop}:BK (.slot i::rs) (⟨m,d⟩::as) σ K=UK i σ d λσ'=>BK rs as σ' K:=by
 rw[cD6];rfl
theorem pJ{e:D}{K:Sg->Prop}:UK 0 (some ⟨.own,e⟩::r) d K=K (some ⟨.own,d⟩::r):=rfl
theorem pK{e:D}{K:Sg->Prop}:UK 0 (some ⟨.par,e⟩::r) d K=K (some ⟨.par,d⟩::r):=rfl
theorem pL{e:D}{K:Sg->Prop}:UK 0 (some ⟨.val,e⟩::r) d K=K (some ⟨.val,e⟩::r):=rfl
theorem pM{e:D}{K:Sg->Prop}:UK 0 (some ⟨.lent,e⟩::r) d K=K (some ⟨.lent,e⟩::r):=rfl
theorem pN{K:Sg->Prop}:UK (n+1) (o::r) d K=UK n r d λa=>K (o::a):=rfl
def dM{len:Nat}{b:DS}{as:List Sl}{K:Res->List Sl->Prop}:CK (wU len b) as K=RS b (ini len as) (cD9 as K):=by
 unfold CK RS wU;rw[aK];congr 1;funext o;cases o with
 | rt x s=>show OK1 ((bW0 s x).bind _) _=OK1 (bW0 s x) _;rw[aK];rfl
 | _=>rfl
def FSK:Nat->Sg->(Res->Prop)->Prop
 | 0,some ⟨.own,d⟩::_,K=>K (.own d)
 | 0,some ⟨.val,d⟩::_,K=>K (.val d)
 | n+1,_::r,K=>FSK n r K
 | _,_,_=>False
theorem bJ0:∀ (n:Nat) (r:Sg) (K:Res->Prop),FSK n r K=OK1 (bW0 r (.slot n)) K
 | 0,[],_=>rfl
 | 0,none::_,_=>rfl
 | 0,some ⟨.val,_⟩::r,K=>rfl
 | 0,some ⟨.own,_⟩::r,K=>rfl
 | 0,some ⟨.par,_⟩::r,K=>rfl
 | 0,some ⟨.lent,_⟩::r,K=>rfl
 | n+1,[],_=>rfl
 | n+1,o::r,K=>by
   show FSK n r K=_;rw[bJ0 n r K];show OK1 (match r[n]? with | some (some s)=>if s.m=.own then some (Res.own s.d)else if s.m=.val then some (.val s.d)else none | _=>none) K=OK1 (match (o::r)[n+1]? with | some (some s)=>if s.m=.own then some (Res.own s.d)else if s.m=.val then some (.val s.d)else none | _=>none) K;rw[a5c]
section
variable{as:List Sl}{K:Res->List Sl->Prop}{KR:Res->Prop}
theorem iS:cD9 as K (.nx σ)=K (.val .non) (tF as σ):=rfl
theorem iT:cD9 as K (.rt (.val d) σ)=K (.val d) (tF as σ):=rfl
theorem iU:cD9 as K (.rt (.own d) σ)=K (.own d) (tF as σ):=rfl
theorem iV:cD9 as K (.rt (.slot i) σ)=FSK i σ λr=>K r (tF as σ):=(bJ0 i σ _).symm
theorem pO:FSK 0 (some ⟨.own,d⟩::r) KR=KR (.own d):=rfl
theorem pP:FSK 0 (some ⟨.val,d⟩::r) KR=KR (.val d):=rfl
theorem pQ:FSK (n+1) (o::r) KR=FSK n r KR:=rfl
theorem iW:tF [] σ=[]:=rfl
theorem iX{s:Sl}:tF (⟨.val,d⟩::as) (some s::r)=⟨.val,d⟩::tF as r:=rfl
theorem iY{s:Sl}:tF (⟨.par,d⟩::as) (some s::r)=s::tF as r:=rfl
theorem iZ{s:Sl}:tF (⟨.lent,d⟩::as) (some s::r)=s::tF as r:=rfl
end
theorem pR{K:List Sl->Prop}:AK σ [] K=K []:=rfl
theorem pS{x:Res}{xs:List Res}{K:List Sl->Prop}:AK σ (x::xs) K=A1 σ x λa=>AK σ xs λas=>K (a::as):=by
 show OK1 ((aD4 σ x).bind λa=>(vN σ xs).bind λas=>some (a::as)) K=_;unfold AK A1;simp only[aK,bF]
theorem pT{K:Sl->Prop}:A1 σ (.val d) K=K ⟨.val,d⟩:=rfl
theorem pU{K:Sl->Prop}:A1 σ (.own d) K=K ⟨.par,d⟩:=rfl
theorem pV{K:Sl->Prop}:A1 σ (.slot i) K=HK i σ K:=(cD5 i σ K).symm
theorem pW{K:Sl->Prop}:HK 0 (some ⟨.own,d⟩::r) K=K ⟨.par,d⟩:=rfl
theorem pX{K:Sl->Prop}:HK 0 (some ⟨.par,d⟩::r) K=K ⟨.par,d⟩:=rfl
theorem pY{K:Sl->Prop}:HK 0 (some ⟨.lent,d⟩::r) K=K ⟨.lent,d⟩:=rfl
theorem pZ{K:Sl->Prop}:HK (n+1) (o::r) K=HK n r K:=rfl
end
section
variable{σ:Sg}{QS:Out->Prop}{Q:Res->Sg->Prop}{ri:DI}{g:DG}{b:DS}{a:DE}{ra:DA}
def cE0:RS (aT7 ri g b) σ QS=RI ri σ λitems l a=>OK1 (bD7 g b items (lendO l a)) λo=>QS (vM l a o):=by
 unfold RS RI aT7;simp only[aK,bF]
theorem yS{K:List D->Option Nat->Sg->Prop}:RI (dIt a) σ K=RE a σ λx b=>RD b x λd=>OK1 (vL d) λl=>K l (match x with | .slot i=>some i | _=>none) b:=by
 unfold RI RE RD dIt;simp only[aK,bF];try rfl
noncomputable def cP2:List D->Option (List D)
 | [.int j]=>if -(2 ^ 62)<=j/\j < 2 ^ 62 then some (aQ0 0 j.toNat)else none
 | [.int i,.int j]=>if(-(2 ^ 62)<=i/\i < 2 ^ 62) /\ -(2 ^ 62)<=j/\j < 2 ^ 62 then some (aQ0 i (j-i).toNat)else none
 | _=>none
theorem qA{K:List D->Option Nat->Sg->Prop}:RI (bQ2 ra) σ K=RA ra σ λxs a=>RDs a xs λds=>OK1 (cP2 ds) λl=>K l none a:=by
 unfold RI RA RDs bQ2;simp only[aK];congr 1;funext x;congr 1;funext ds
 match ds with
 | []=>rfl
 | [.int j]=>show OK1 (if -(2 ^ 62)<=j/\j < 2 ^ 62 then _ else none) _=OK1 (if -(2 ^ 62)<=j/\j < 2 ^ 62 then _ else none) _;rw[bA,bA];rfl
 | [.int i,.int j]=>show OK1 (if(-(2 ^ 62)<=i/\i < 2 ^ 62) /\ -(2 ^ 62)<=j/\j < 2 ^ 62 then _ else none) _=OK1 (if(-(2 ^ 62)<=i/\i < 2 ^ 62) /\ -(2 ^ 62)<=j/\j < 2 ^ 62 then _ else none) _;rw[bA,bA];rfl
 | [.non]=>rfl
 | [.bl _]=>rfl
 | [.str _]=>rfl
 | [.tup _]=>rfl
 | [.lst _]=>rfl
 | [.dic _ _]=>rfl
 | .non::_::_=>rfl
 | .bl _::_::_=>rfl
 | .str _::_::_=>rfl
 | .tup _::_::_=>rfl
 | .lst _::_::_=>rfl
 | .dic _ _::_::_=>rfl
 | .int _::.non::_=>rfl
 | .int _::.bl _::_=>rfl
 | .int _::.str _::_=>rfl
 | .int _::.tup _::_=>rfl
 | .int _::.lst _::_=>rfl
 | .int _::.dic _ _::_=>rfl
 | .int _::.int _::_::_=>rfl
theorem jA{j:Int}{K:List D->Prop}:OK1 (cP2 [.int j]) K=((-(2 ^ 62)<=j/\j < 2 ^ 62)/\K (aQ0 0 j.toNat)):=by
 show OK1 (if -(2 ^ 62)<=j/\j < 2 ^ 62 then some (aQ0 0 j.toNat)else none) K=_;rw[bA];rfl
def bR4{items:List D}(P:Nat->Sg->Prop)(h0:P 0 σ)(hs:∀ i d σ,items[i]? = some d->P i σ->OK1 (g d σ) λc=>RS b c λo=>∃ a,(o=.nx a\/o=.ct a)/\P (i+1) a){K:Out->Prop}(k:∀ σ',P items.length σ'->K (.nx σ')):OK1 (bD7 g b items σ) K:=by
 induction items generalizing P σ with
 | nil=>exact k σ h0
 | cons d r f=>
   show OK1 ((g d σ).bind _) K;rw[aK];refine cZ (hs 0 d σ rfl h0) λc h=>?_;rw[aK];refine cZ h λo j=>?_;obtain⟨a,l,m⟩:=j;have go:OK1 (bD7 g b r a) K:=f (λi=>P (i+1)) m (λi d σ e p=>hs (i+1) d σ (by simpa using e) p) λσ' p=>k σ' (by simpa using p);rcases l with rfl | rfl;exact go;exact go
theorem vP{c:DT}{K:Out->Prop}(P:Nat->Sg->Prop)(hs:∀ m σ,P m σ->RT c σ λt d=>if t=true then RS b d λo=>(∃ a m',(o=.nx a\/o=.ct a)/\m' < m/\P m' a)\/(∃ x a,o=.rt x a/\K (.rt x a))\/(∃ a,o=.bk a/\K (.nx a))else K (.nx d)) :
  ∀ (n m:Nat) (σ:Sg),m < n->P m σ->OK1 (mR c b n σ) K
 | 0,m,σ,h,_=>by lia
 | n+1,m,σ,h,p=>by
   show OK1 ((c σ).bind _) K;rw[aK];refine cZ (hs m σ p) λx e=>?_;dsimp only at e;by_cases f:x.1=true
   ·rw[a1Z f]at e ⊢;rw[aK];refine cZ e λo g=>?_;rcases g with⟨a,m',i,hm,j⟩ | ⟨x,a,rfl,q⟩ | ⟨a,rfl,q⟩;have go:=vP P hs n m' a (by lia) j;rcases i with rfl | rfl;exact go;exact go;exact q;exact q
   ·rw[a2k f]at e ⊢;exact e
def aV0{c:DT}(P:Nat->Sg->Prop)(m:Nat)(e:m < 1000000)(h0:P m σ)(hs:∀ m σ,P m σ->RT c σ λt d=>if t=true then RS b d λo=>(∃ a m',(o=.nx a\/o=.ct a)/\m' < m/\P m' a)\/(∃ x a,o=.rt x a/\QS (.rt x a))\/(∃ a,o=.bk a/\QS (.nx a))else QS (.nx d)):OK1 (mR c b bV8 σ) QS:=
 vP P hs bV8 m σ (a0c e bQ3) h0
def bR5{ow:List Nat}{t:DT}{e:DE}:RE (hZ ow ri g t e) σ Q=RI ri σ λitems l a=>items.length<=sizeLine/\OK1 (aD3 ow g t e items (bK ow (lendO l a))) λy=>Q (.own (.lst y.1)) (vK l a (kZ ow (lendO l a) y.2)):=by
 unfold RE RI hZ;simp only[aK,bA,bF]
theorem tL{ow:List Nat}{t:DT}{e:DE}{K:List D×Sg->Prop}:∀ (items:List D) (a:Sg) (P:Nat->List D->Sg->Prop),P 0 [] a ->
  (∀ i d acc a,items[i]? = some d->P i acc a->OK1 (g d a) λh=>RT t h λb j=>if b=true then RE e j λr m=>∃ v,r=.val v/\P (i+1) (acc++[v]) (bK ow m)else P (i+1) acc (bK ow j)) ->
  (∀ acc a,P items.length acc a->K (acc,a))->OK1 (aD3 ow g t e items a) K
 | [],a,P,h0,_,k=>k [] a h0
 | d::r,a,P,h0,hs,k=>by
   show OK1 ((g d a).bind _) K;rw[aK];refine cZ (hs 0 d [] a rfl h0) λh q=>?_;rw[aK];refine cZ q λx l=>?_;dsimp only at l;by_cases o:x.1=true;rw[a1Z o]at l ⊢;rw[aK];refine cZ l λy s=>?_;obtain⟨v,u,p⟩:=s;rw[u];dsimp only;rw[aK];exact tL r _ (λi acc a=>P (i+1) (v::acc) a) p (λi d' acc c n f=>by simpa using hs (i+1) d' (v::acc) c (by simpa using n) f) λacc c f=>k (v::acc) c (by simpa using f);rw[a2k o]at l ⊢;exact tL r _ (λi acc a=>P (i+1) acc a) l (λi d' acc c n f=>hs (i+1) d' acc c (by simpa using n) f) λacc c f=>k acc c (by simpa using f)
end
section
variable{i j:Int}{l m:List D}{K:Res->Prop}{d e:D}{σ:Sg}{Q:Res->Sg->Prop}
theorem qB:OK1 (kJ (.int i) (.int j)) K=K (.val (.int (i+j))):=rfl
theorem jB:OK1 (kJ (.lst l) (.lst m)) K=(l.length+m.length<=sizeLine/\K (.own (.lst (l++m)))):=by
 show OK1 (if l.length+m.length<=sizeLine then some (Res.own (.lst (l++m)))else none) K=_;rw[bA];rfl
theorem jC:OK1 (kJ (.tup l) (.tup m)) K=(l.length+m.length<=sizeLine/\K (.val (.tup (l++m)))):=by
 show OK1 (if l.length+m.length<=sizeLine then some (Res.val (.tup (l++m)))else none) K=_;rw[bA];rfl
theorem jD{x y:Str}:OK1 (kJ (.str x) (.str y)) K=(x.length+y.length<=sizeLine/\K (.val (.str (x++y)))):=by
 show OK1 (if x.length+y.length<=sizeLine then some (Res.val (.str (x++y)))else none) K=_;rw[bA];rfl
theorem qC:OK1 (cS6 (.int i) (.int j)) K=K (.val (.int (i-j))):=rfl
theorem qD:OK1 (aD8 (.int i) (.int j)) K=(uW i j/\K (.val (.int (i*j)))):=@bA _ (uW i j) (Classical.propDecidable _) _ _
theorem qE:OK1 (cI5 (.int i) (.int j)) K=(aO0 i j/\K (.val (.int (i / j)))):=@bA _ (aO0 i j) (Classical.propDecidable _) _ _
theorem qF:OK1 (aQ1 (.int i) (.int j)) K=(0 < j/\K (.val (.int (i % j)))):=@bA _ (0 < j) (Classical.propDecidable _) _ _
theorem qG:OK1 (cL9 (.int i) (.int j)) K=(bV6 i j/\K (.val (.int (i ^ j.toNat)))):=@bA _ (bV6 i j) (Classical.propDecidable _) _ _
theorem yT:OK1 (ltI (.int i) (.int j)) K=K (.val (.bl (decide (i < j)))):=rfl
theorem yU:OK1 (leI (.int i) (.int j)) K=K (.val (.bl (decide (i<=j)))):=rfl
theorem yV:OK1 (gtI (.int i) (.int j)) K=K (.val (.bl (decide (j < i)))):=rfl
theorem yW:OK1 (geI (.int i) (.int j)) K=K (.val (.bl (decide (j<=i)))):=rfl
theorem qH:OK1 (cS7 (.int i)) K=K (.val (.int (-i))):=rfl
theorem qI:OK1 (cS9 (.int i)) K=K (.val (.int (Builtin.Int.intBits i))):=rfl
theorem qJ:OK1 (ixD (.lst l) (.int i)) K=OK1 (atI l i) λd=>K (.val d):=by
 show OK1 ((atI l i).map Res.val) K=_;rw[yN]
theorem qK:OK1 (ixD (.tup l) (.int i)) K=OK1 (atI l i) λd=>K (.val d):=by
 show OK1 ((atI l i).map Res.val) K=_;rw[yN]
theorem jE:OK1 (aD9 [.lst l]) K=K (.val (.int l.length)):=rfl
theorem jF:OK1 (aD9 [.tup l]) K=K (.val (.int l.length)):=rfl
theorem qL:OK1 (bW1 [.int i]) K=K (.val (.int i)):=rfl
theorem jG{b:Bool}:OK1 (bW1 [.bl b]) K=K (.val (.int (if b then 1 else 0))):=rfl
theorem qM:OK1 (cM0 [.int i,.int j]) K=K (.val (.int (if j > i then j else i))):=rfl
theorem qN:OK1 (cM1 [.int i,.int j]) K=K (.val (.int (if j < i then j else i))):=rfl
theorem jH:OK1 (aU3 [.lst l]) K=K (.own (.lst l)):=rfl
theorem fA:OK1 (aU3 [.tup l]) K=K (.own (.lst l)):=rfl
theorem qO:OK1 (aI8 [.lst l]) K=K (.val (.tup l)):=rfl
theorem jI:OK1 (aI8 [.tup l]) K=K (.val (.tup l)):=rfl
theorem yX:OK1 (eqD false (.int i) (.int j)) K=K (.val (.bl (decide (i=j)))):=by
 have h:aE0 (.int i) (.int j)=decide (i=j):=by
  show(i==j)=_;rw[a0j];simp
 show OK1 (if eP (.int i)=true/\eP (.int j)=true then some (Res.val (.bl (if false then !aE0 (.int i) (.int j)else aE0 (.int i) (.int j))))else none) K=_;rw[a1Z ⟨rfl,rfl⟩,h];rfl
theorem qP{c:String}:OK1 (cI2 c (.int i)) K=K (.val (.bl (aC6 "int" c))):=rfl
theorem qQ{c:String}{b:Bool}:OK1 (cI2 c (.bl b)) K=K (.val (.bl (aC6 "bool" c))):=rfl
theorem qR{k:Int}{K:D×D->Prop}:OK1 ((cI4 k e (.lst l)).map λb=>(b,D.non)) K=OK1 (ixN l.length k) λj=>K (.lst (l.set j e),.non):=by
 show OK1 (((ixN l.length k).map λj=>D.lst (l.set j e)).map λb=>(b,D.non)) K=_;rw[yN,yN]
theorem qS{K:D×D->Prop}:OK1 (bI8 (.lst l) [e]) K=(l.length < sizeLine/\K (.lst (l++[e]),.non)):=by
 show OK1 (if l.length < sizeLine then some (D.lst (l++[e]),D.non)else none) K=_;rw[bA];rfl
def SK(d:D)(lo hi:Option Int)(K:Res->Prop):Prop:=OK1 (slD d lo hi) K
theorem yZ{a:DE}{x y:DO}:RE (dSl a x y) σ Q=RE a σ λr c=>RO x c λlo e=>RO y e λhi b=>RD b r λd=>SK d lo hi λv=>Q v b:=by
 unfold RE RO RD SK dSl;simp only[aK,bF]
theorem qT{K:Option Int->Sg->Prop}:RO bA4 σ K=K none σ:=rfl
theorem bJ1{a:DE}{K:Option Int->Sg->Prop}:RO (dP a) σ K=RE a σ λx b=>RD b x λd=>OK1 (match d with | .int k=>some k | _=>none) λk=>K (some k) b:=by
 unfold RO RE RD dP;simp only[aK];congr 1;funext x;congr 1;funext d;cases d<;>rfl
theorem qU{lo hi:Option Int}:SK (.lst l) lo hi K=K (.own (.lst (bI7 l lo hi))):=rfl
theorem qV{lo hi:Option Int}:SK (.tup l) lo hi K=K (.val (.tup (bI7 l lo hi))):=rfl
theorem qW{x:D}{K:D->Prop}:OK1 (atI (x::l) 0) K=K x:=by
 show OK1 ((ixN (x::l).length 0).bind λj=>(x::l)[j]?) K=_;unfold ixN;rw[a1Z (Int.le_refl 0),a1Z (by first | (simp;done) | (simp;lia))];rfl
theorem qX{x y:D}{K:D->Prop}:OK1 (atI (x::y::l) 1) K=K y:=by
 show OK1 ((ixN (x::y::l).length 1).bind λj=>(x::y::l)[j]?) K=_;unfold ixN;rw[a1Z (by decide),a1Z (by first | (simp;done) | (simp;lia))];rfl
theorem qY{x y z:D}{K:D->Prop}:OK1 (atI (x::y::z::l) 2) K=K z:=by
 show OK1 ((ixN (x::y::z::l).length 2).bind λj=>(x::y::z::l)[j]?) K=_;unfold ixN;rw[a1Z (by decide),a1Z (by first | (simp;done) | (simp;lia))];rfl
theorem qZ{x:D}{K:Nat->Prop}:OK1 (ixN (x::l).length 0) K=K 0:=by
 unfold ixN;rw[a1Z (Int.le_refl 0),a1Z (by first | (simp;done) | (simp;lia))];rfl
theorem rA{x y:D}{K:Nat->Prop}:OK1 (ixN (x::y::l).length 1) K=K 1:=by
 unfold ixN;rw[a1Z (by decide),a1Z (by first | (simp;done) | (simp;lia))];rfl
theorem rB{i j:Int}(a:-(2 ^ 64) < j)(b:j < 2 ^ 64):uW i j=True:=eq_true (.inl (.inr ⟨a,b⟩))
theorem rC{i j:Int}(a:-(2 ^ 64) < i)(b:i < 2 ^ 64):uW i j=True:=eq_true (.inl (.inl ⟨a,b⟩))
theorem rD{i:Int}{p:Prop}[Decidable p]:uW i (if p then 1 else 0)=True:=eq_true (.inl (.inr (by split<;>decide)))
theorem wY{i j:Int}(a:0 < j)(b:j < 18446744073709551616):aO0 i j=True:=eq_true ⟨a,b⟩
theorem zA{i j:Int}(a:0<=j)(b:j<=1000000)(c:-18446744073709551616 < i)(d:i < 18446744073709551616):bV6 i j=True:=eq_true ⟨a,b,by show i.natAbs < 18446744073709551616;lia⟩
theorem rE{σ:Sg}:lendO none σ=σ:=rfl
theorem zB{σ:Sg}{o:Out}:vM none σ o=o:=by cases o<;>rfl
theorem rF{σ σ':Sg}:vK none σ σ'=σ':=rfl
theorem rG:(tyD "list" (.lst l)=true)=True:=by simp[tyD]
end
noncomputable def uX:List D->Option (List Str)
 | []=>some []
 | .str s::r=>(uX r).bind λl=>some (s::l)
 | _::_=>none
theorem sI:∀ {l:List D} {a:List Str},uX l=some a->l=a.map D.str
 | [],_,h=>by cases h;rfl
 | .str s::r,_,h=>by
   obtain⟨l,b,c⟩:=aC h;cases c;rw[sI b];rfl
 | .non::_,_,h=>by cases h
 | .int _::_,_,h=>by cases h
 | .bl _::_,_,h=>by cases h
 | .tup _::_,_,h=>by cases h
 | .lst _::_,_,h=>by cases h
 | .dic _ _::_,_,h=>by cases h
def tM(zs:List Str):uX (zs.map D.str)=some zs:=by
 induction zs with
 | nil=>rfl
 | cons b r a=>show(uX (r.map D.str)).bind _=_;rw[a];rfl
noncomputable def aV1(sep:Str):F1:=λd=>match d with
 | .lst l=>(uX l).bind λys=>if(ys.map (·.length)).sum+ys.length*sep.length<=16777216 then some (.val (.str (Txt.join sep ys)))else none
 | _=>none
def bR6{X:Cx}{e:Expr}{sep:Str}{r:DE}(K:W.Frag)(h:∀ Γ,PE X e (tBM K "str" (bC0 K) (tC (.str sep)) (dTA Γ (aD r aN)))):GE X e (cI0 (aV1 sep) r):=.mk λΓ=>peW (h Γ) λσV H Q l=>by
 have m:cS1 (λx H Q=>bC0 K (.str sep) [x] H Q) (aV1 sep):=by
  intro H d x Q res n e k;unfold aV1 at e;split at e;obtain⟨ys,f,e⟩:=aC e;split at e;rename_i hs;cases e;obtain⟨p,xs,rfl,i,b⟩:=gZ n;rw[sI f]at b;rw[b.strs_inv]at i;exact⟨sep,p,ys,rfl,rfl,gW i,hs,k _ H (.refl _) (.str _)⟩;cases e;cases e
 obtain⟨σ,ok,res,σ',e,k⟩:=l;obtain⟨⟨x,g⟩,f,e⟩:=aC e;obtain⟨o,q,e⟩:=aC e;obtain⟨r,s,e⟩:=aC e;cases e;refine⟨rfl,σ,ok,[x],g,?_,λvs u a b c _=>?_⟩;show((_:Option _).bind _)=_;rw[f];rfl;cases b with
 | cons b t=>
   cases t;refine m u o _ Q _ (b.vw a q) s λv H' sm j=>?_;exact k v H' (a.same sm) (j.res a) (c.trans (.same sm)) (j.frh.back c)
def bR7{sep:Str}{zs:List Str}{K:Res->Prop}:OK1 (aV1 sep (.lst (zs.map D.str))) K=((zs.map (·.length)).sum+zs.length*sep.length<=16777216/\K (.val (.str (Txt.join sep zs)))):=by
 show OK1 ((uX (zs.map D.str)).bind _) K=_;rw[tM];show OK1 (if _ then _ else none) K=_;rw[bA];rfl
def bE3{X:Cx}(K:W.Frag)(a:X.K=K):MtR X "str.join" (bC0 K):=by rw[← a];exact bO1
noncomputable def nv1(σ:Sg):Res->Option D
 | .own d=>some d
 | .slot i=>match σ[i]? with
   | some (some s)=>if s.m=.val then none else some s.d
   | _=>none
 | .val _=>none
noncomputable def nvs(σ:Sg):List Res->Option (List D)
 | []=>some []
 | r::rs=>(nv1 σ r).bind λd=>(nvs σ rs).bind λa=>some (d::a)
noncomputable def cT0:FN:=λa=>match a with
 | [.lst l]=>some (.own (.lst l.reverse))
 | _=>none
noncomputable def cP3(l m:List D):List D:=(l.zip m).map λp=>.tup [p.1,p.2]
noncomputable def cT1:FN:=λa=>match a with
 | [.lst l,.lst m]=>some (.val (.tup (cP3 l m)))
 | _=>none
section
variable{σ:Sg}{Q:Res->Sg->Prop}{ra:DA}
def NV(σ:Sg)(rs:List Res)(K:List D->Prop):Prop:=OK1 (nvs σ rs) K
def N1(σ:Sg)(r:Res)(K:D->Prop):Prop:=OK1 (nv1 σ r) K
theorem rH{K:List D->Prop}:NV σ [] K=K []:=rfl
theorem rJ{d:D}{K:D->Prop}:N1 σ (.own d) K=K d:=rfl
def GN:Nat->Sg->(D->Prop)->Prop
 | 0,some ⟨m,d⟩::_,K=>if m=.val then False else K d
 | n+1,_::r,K=>GN n r K
 | _,_,_=>False
theorem rK{d:D}{r:Sg}{K:D->Prop}:GN 0 (some ⟨.own,d⟩::r) K=K d:=rfl
theorem rL{d:D}{r:Sg}{K:D->Prop}:GN 0 (some ⟨.par,d⟩::r) K=K d:=rfl
theorem rM{d:D}{r:Sg}{K:D->Prop}:GN 0 (some ⟨.lent,d⟩::r) K=K d:=rfl
theorem rN{n:Nat}{o:Option Sl}{r:Sg}{K:D->Prop}:GN (n+1) (o::r) K=GN n r K:=rfl
theorem rO{l:List D}{K:Res->Prop}:OK1 (cT0 [.lst l]) K=K (.own (.lst l.reverse)):=rfl
theorem rP{l m:List D}{K:Res->Prop}:OK1 (cT1 [.lst l,.lst m]) K=K (.val (.tup (cP3 l m))):=rfl
end
end Dv
namespace PySem
section
variable{prog:Program}{w:World}{A:Around}{E:Value->Shared->Prop}{s:Shared}
end
end PySem
namespace L2
open PySem PyProof.Rows
section
variable{X:Cx}{pins:List (Addr×Obj)}{σ:St}{H:Hp}{s:Shared}{h':Heap}{ch:List Addr}
end
end L2
namespace PySem
open AutoSeq1 (wpAny_loadPart')
section
variable{prog:Program}{w:World}{A:Around}{E:Value->Shared->Prop}{s:Shared}
end
end PySem
namespace L2
open PySem PyProof.Rows
section
variable{X:Cx}
end
end L2
namespace Dv
open PySem L2 Mr
section
variable{P:Program}{w:World}{K:W.Frag}{mg:Str->Option Value}{base:Heap}
end
section
variable{K:W.Frag}{H:Hp}{C fI:Addr}{E:XK}
end
section
variable{K:W.Frag}{H:Hp}{C fI:Addr}{E:XK}
end
end Dv
namespace Dv
open PySem L2
noncomputable def cT2:D->Option (List D)
 | .lst l=>some l
 | .tup l=>some l
 | _=>none
end Dv
namespace Mr
open PySem L2
noncomputable def top(i:Nat):Stmt:=PySem.Challenge.pw_mostrows_k16_whole_joins_of_three.main.body.getD i (.Pass ⟨0,0,0,0⟩)
noncomputable abbrev zC:Stmt:=top 11
noncomputable abbrev vQ:Stmt:=top 12
noncomputable abbrev tN:Stmt:=top 14
noncomputable abbrev tO:Stmt:=top 13
noncomputable abbrev vR:Stmt:=top 15
noncomputable abbrev gM:Stmt:=top 6
noncomputable abbrev aJ2:Stmt:=top 3
noncomputable abbrev tP:Stmt:=top 2
noncomputable abbrev zD:Stmt:=top 7
noncomputable abbrev vS:Stmt:=top 1
noncomputable abbrev aJ3:Stmt:=top 8
noncomputable abbrev rQ:Stmt:=top 17
noncomputable abbrev cE1:Stmt:=top 4
noncomputable abbrev rR:Stmt:=top 9
noncomputable abbrev bJ2:Stmt:=top 5
noncomputable abbrev cE2:Stmt:=top 18
structure Adr where
 a1B:Addr
 a1k:FuncData
 a0Q:Addr
 a0B:FuncData
 a1p:Addr
 a0L:FuncData
 a1s:Addr
 a0M:FuncData
 a1w:Addr
 a0S:FuncData
 a0m:Addr
 a0s:FuncData
 picked:Addr
 a0J:FuncData
 a0p:Addr
 a0u:FuncData
 grouped:Addr
 a0O:FuncData
 a0y:Addr
 a0I:FuncData
 joined:Addr
 a0W:FuncData
 a1l:Addr
 a0G:FuncData
 cut:Addr
 a1K:FuncData
 a0q:Addr
 a0F:FuncData
 kept:Addr
 a1C:FuncData
 law:Addr
 a1P:FuncData
structure Txt(K:W.Frag)(mg:Str->Option Value)(a:Adr):Prop where
 a1E:mg "_law_box"=some (.ref a.a1B)
 a1o:Fun K "_law_box" "_law_box" zC a.a1B a.a1k
 a0n:mg "_law_take"=some (.ref a.a0Q)
 a0l:Fun K "_law_take" "_law_take" vQ a.a0Q a.a0B
 a1J:mg "_law_names"=some (.ref a.a1p)
 a1n:Fun K "_law_names" "_law_names" tN a.a1p a.a0L
 a1y:mg "_law_order"=some (.ref a.a1s)
 a0U:Fun K "_law_order" "_law_order" tO a.a1s a.a0M
 a1N:mg "_law_rows"=some (.ref a.a1w)
 a1v:Fun K "_law_rows" "_law_rows" vR a.a1w a.a0S
 a0V:mg "common_columns"=some (.ref a.a0m)
 a0A:Fun K "common_columns" "common_columns" gM a.a0m a.a0s
 a1r:mg "picked"=some (.ref a.picked)
 a0R:Fun K "picked" "picked" aJ2 a.picked a.a0J
 a0K:mg "places_of"=some (.ref a.a0p)
 a0C:Fun K "places_of" "places_of" tP a.a0p a.a0u
 a1H:mg "grouped"=some (.ref a.grouped)
 a1q:Fun K "grouped" "grouped" zD a.grouped a.a0O
 a1A:mg "table_of"=some (.ref a.a0y)
 a0Z:Fun K "table_of" "table_of" vS a.a0y a.a0I
 a0D:mg "joined"=some (.ref a.joined)
 a0z:Fun K "joined" "joined" aJ3 a.joined a.a0W
 a1I:mg "_law_orders"=some (.ref a.a1l)
 a0Y:Fun K "_law_orders" "_law_orders" rQ a.a1l a.a0G
 a1O:mg "cut"=some (.ref a.cut)
 a1G:Fun K "cut" "cut" cE1 a.cut a.a1K
 a0E:mg "thinned_by"=some (.ref a.a0q)
 a0w:Fun K "thinned_by" "thinned_by" rR a.a0q a.a0F
 a1Q:mg "kept"=some (.ref a.kept)
 a1M:Fun K "kept" "kept" bJ2 a.kept a.a1C
 a1W:mg "law"=some (.ref a.law)
 a1V:Fun K "law" "law" cE2 a.law a.a1P
 a1S:mg "int"=none
 a1z:mg "len"=none
 a1R:mg "list"=none
 a1D:mg "range"=none
 a1T:mg "set"=none
 a1x:mg "sorted"=none
 a0N:mg "tuple"=none
def aJ4:bootBuiltins "int"=some (.type "int"):=by decide +kernel
def dB:bootBuiltins "len"=some (.builtin "len"):=by decide +kernel
def aV2:bootBuiltins "list"=some (.type "list"):=by decide +kernel
def aJ5:bootBuiltins "set"=some (.type "set"):=by decide +kernel
def gD:bootBuiltins "sorted"=some (.builtin "sorted"):=by decide +kernel
def bT:bootBuiltins "tuple"=some (.type "tuple"):=by decide +kernel
def vT:FnScope ["_law_script","_law_k","_law_cell","_law_seed"] ["_law_script","_law_k"] (aS zC):=⟨rfl,rfl,rfl,by decide +kernel,rfl,by decide +kernel,by decide +kernel⟩
def tQ:FnScope ["_law_box_here","_law_many","_law_digit","_law_one"] ["_law_box_here","_law_many"] (aS vQ):=⟨rfl,rfl,rfl,by decide +kernel,rfl,by decide +kernel,by decide +kernel⟩
def rS:FnScope ["_law_box_here","_law_many","_law_letters","_law_stem","_law_at","_law_first","_law_form","_law_x","_law_y","_law_z","_law_some","_law_found","_law_k","_law_word","_law_own"] ["_law_box_here","_law_many"] (aS tN):=⟨rfl,rfl,rfl,by decide +kernel,rfl,by decide +kernel,by decide +kernel⟩
def rT:FnScope ["_law_box_here","_law_things","_law_left","_law_found"] ["_law_box_here","_law_things"] (aS tO):=⟨rfl,rfl,rfl,by decide +kernel,rfl,by decide +kernel,by decide +kernel⟩
def tR:FnScope ["_law_box_here","_law_columns","_law_ceiling","_law_span","_law_many","_law_k","_law_column"] ["_law_box_here","_law_columns","_law_ceiling"] (aS vR):=⟨rfl,rfl,rfl,by decide +kernel,rfl,by decide +kernel,by decide +kernel⟩
def fW:FnScope ["one","other","column"] ["one","other"] (aS gM):=⟨rfl,rfl,rfl,by decide +kernel,rfl,by decide +kernel,by decide +kernel⟩
def zE:FnScope ["row","places","place"] ["row","places"] (aS aJ2):=⟨rfl,rfl,rfl,by decide +kernel,rfl,by decide +kernel,by decide +kernel⟩
def rU:FnScope ["columns","some","column"] ["columns","some"] (aS tP):=⟨rfl,rfl,rfl,by decide +kernel,rfl,by decide +kernel,by decide +kernel⟩
def vU:FnScope ["table","columns","others","places","other_places","groups","row"] ["table","columns","others"] (aS zD):=⟨rfl,rfl,rfl,by decide +kernel,rfl,by decide +kernel,by decide +kernel⟩
def tS:FnScope ["columns","rows"] ["columns","rows"] (aS vS):=⟨rfl,rfl,rfl,by decide +kernel,rfl,by decide +kernel,by decide +kernel⟩
def zF:FnScope ["one","other","common","added","ends","places","rows","row","column","end"] ["one","other"] (aS aJ3):=⟨rfl,rfl,rfl,by decide +kernel,rfl,by decide +kernel,by decide +kernel⟩
def lC:FnScope ["_law_tables","_law_found","_law_i","_law_j","_law_k"] ["_law_tables"] (aS rQ):=⟨rfl,rfl,rfl,by decide +kernel,rfl,by decide +kernel,by decide +kernel⟩
def bJ3:FnScope ["table","columns","places","row"] ["table","columns"] (aS cE1):=⟨rfl,rfl,rfl,by decide +kernel,rfl,by decide +kernel,by decide +kernel⟩
def lD:FnScope ["one","other","common","there","places","row"] ["one","other"] (aS rR):=⟨rfl,rfl,rfl,by decide +kernel,rfl,by decide +kernel,by decide +kernel⟩
def aV3:FnScope ["table","column","value","place","row"] ["table","column","value"] (aS bJ2):=⟨rfl,rfl,rfl,by decide +kernel,rfl,by decide +kernel,by decide +kernel⟩
def bJ4:FnScope ["_law_script","_law_box_here","_law_names_here","_law_tables","_law_k","_law_columns","_law_one","_law_other","_law_third","_law_all_of_them","_law_found","_law_both","_law_column","_law_value","_law_some","_law_fewer"] ["_law_script"] (aS cE2):=⟨rfl,rfl,rfl,by decide +kernel,rfl,by decide +kernel,by decide +kernel⟩
section
variable{P:Program}{w:World}{K:W.Frag}{mg:Str->Option Value}{base:Heap}{a:Adr}
def zG(T:Txt K mg a):fQ K a.a1k ["_law_script","_law_k"] []:=T.a1o.binds (ps:=["_law_script","_law_k"]) λ_ _ _ _ _ _ us b=>match us,b with | [_,_],_=>rfl
def aR(T:Txt K mg a):fQ K a.a0B ["_law_box_here","_law_many"] []:=T.a0l.binds (ps:=["_law_box_here","_law_many"]) λ_ _ _ _ _ _ us b=>match us,b with | [_,_],_=>rfl
def aE1(T:Txt K mg a):fQ K a.a0L ["_law_box_here","_law_many"] []:=T.a1n.binds (ps:=["_law_box_here","_law_many"]) λ_ _ _ _ _ _ us b=>match us,b with | [_,_],_=>rfl
def tT(T:Txt K mg a):fQ K a.a0M ["_law_box_here","_law_things"] []:=T.a0U.binds (ps:=["_law_box_here","_law_things"]) λ_ _ _ _ _ _ us b=>match us,b with | [_,_],_=>rfl
def aO2(T:Txt K mg a):fQ K a.a0S ["_law_box_here","_law_columns","_law_ceiling"] []:=T.a1v.binds (ps:=["_law_box_here","_law_columns","_law_ceiling"]) λ_ _ _ _ _ _ us b=>match us,b with | [_,_,_],_=>rfl
def gN(T:Txt K mg a):fQ K a.a0s ["one","other"] []:=T.a0A.binds (ps:=["one","other"]) λ_ _ _ _ _ _ us b=>match us,b with | [_,_],_=>rfl
def lE(T:Txt K mg a):fQ K a.a0J ["row","places"] []:=T.a0R.binds (ps:=["row","places"]) λ_ _ _ _ _ _ us b=>match us,b with | [_,_],_=>rfl
def eQ(T:Txt K mg a):fQ K a.a0u ["columns","some"] []:=T.a0C.binds (ps:=["columns","some"]) λ_ _ _ _ _ _ us b=>match us,b with | [_,_],_=>rfl
def zH(T:Txt K mg a):fQ K a.a0O ["table","columns","others"] []:=T.a1q.binds (ps:=["table","columns","others"]) λ_ _ _ _ _ _ us b=>match us,b with | [_,_,_],_=>rfl
def vV(T:Txt K mg a):fQ K a.a0I ["columns","rows"] []:=T.a0Z.binds (ps:=["columns","rows"]) λ_ _ _ _ _ _ us b=>match us,b with | [_,_],_=>rfl
def cS(T:Txt K mg a):fQ K a.a0W ["one","other"] []:=T.a0z.binds (ps:=["one","other"]) λ_ _ _ _ _ _ us b=>match us,b with | [_,_],_=>rfl
def zI(T:Txt K mg a):fQ K a.a0G ["_law_tables"] []:=T.a0Y.binds (ps:=["_law_tables"]) λ_ _ _ _ _ _ us b=>match us,b with | [_],_=>rfl
def aO3(T:Txt K mg a):fQ K a.a1K ["table","columns"] []:=T.a1G.binds (ps:=["table","columns"]) λ_ _ _ _ _ _ us b=>match us,b with | [_,_],_=>rfl
def dN(T:Txt K mg a):fQ K a.a0F ["one","other"] []:=T.a0w.binds (ps:=["one","other"]) λ_ _ _ _ _ _ us b=>match us,b with | [_,_],_=>rfl
def bJ5(T:Txt K mg a):fQ K a.a1C ["table","column","value"] []:=T.a1M.binds (ps:=["table","column","value"]) λ_ _ _ _ _ _ us b=>match us,b with | [_,_,_],_=>rfl
end
end Mr
namespace So
open PySem PySem.W PyProof.Rows
structure Cm(M:Model)(A:Around)(s:Shared)(κ:SortKind)(G:Keyed->Prop)(c:Keyed->Keyed->Bool):Prop where
 lt:∀ {x y:Keyed} {E:Value->Shared->Prop} {Q:Bool->Shared->Prop},G x->G y->Q (c x y) s->wpAny M A (keyLt' κ x.1 y.1) Q E s
 ir:∀ x,c x x=false
 tr:∀ {x y z},c x y=true->c y z=true->c x z=true
section
variable{M:Model}{A:Around}{E:Value->Shared->Prop}{s:Shared}{κ:SortKind}{G:Keyed->Prop}{c:Keyed->Keyed->Bool}
def aV4(C:Cm M A s κ G c){x y:Keyed}{st:SortSt}{Q:Option Bool->SortSt->Prop}(a:kindOf st=κ)(b:G x)(d:G y)(q:Q (some (c x y)) st):wpS M A E s (lt' x y) Q st:=by
 rw[lt'_eq];refine wpS_bind (wpS_get (wpS_bind (wpS_lift (wpAny_attempt ?_))));rw[a];exact C.lt b d ⟨rfl,wpS_pure q⟩
def bJ{a:Array Keyed}{i:Nat}{x:Keyed}{st:SortSt}{Q:Keyed->SortSt->Prop}(h:a[i]? = some x)(q:Q x st):wpS M A E s (elem' a i) Q st:=by
 rw[elem'_eq,h];exact wpS_pure q
def mB(C:Cm M A s κ G c){i j:Nat}{x y:Keyed}{st:SortSt}{Q:Option Bool->SortSt->Prop}(a:kindOf st=κ)(hi:(arrOf st)[i]? = some x)(hj:(arrOf st)[j]? = some y)(b:G x)(d:G y)(q:Q (some (c x y)) st):wpS M A E s (ltAt' i j) Q st:=by
 rw[ltAt'_eq];refine wpS_bind (wpS_get ?_);exact wpS_bind (bJ hi (wpS_bind (bJ hj (aV4 C a b d q))))
noncomputable def aE2:Bool->Keyed->Array Keyed->Nat->Nat->Nat->StateT SortSt Sem (Option Nat):=sortPriv% PySem.Builtin.gallop
def aV5(C:Cm M A s κ G c){left:Bool}{m:Keyed}{y:Array Keyed}{base n hint:Nat}{st:SortSt}{Q:Option Nat->SortSt->Prop}(F:kindOf st=κ)(be:Nat->Bool)
  (hb:∀ i,i < n->∃ x,y[base+i]? = some x/\G x/\be i=if left then c x m else !c m x) (H:G m) (B:∀ i j,i<=j->j < n->be j=true->be i=true) (I:hint < n)
  (q:∀ k,k<=n->(∀ i,i < k->be i=true)->(∀ i,k<=i->i < n->be i=false)->Q (some k) st):wpS M A E s (aE2 left m y base n hint) Q st:=by
 have p:∀ i j,i<=j->j < n->be i=false->be j=false:=λi j d h b=>by
  cases e:be j with
  | false=>rfl
  | true=>rw[B i j d h e]at b;cases b
 have t:∀ (i:Nat) (Q:Option Bool->SortSt->Prop),i < n->Q (some (be i)) st->wpS M A E s (do let x ← elem' y (base+i);if left then lt' x m else return (← lt' m x).map (!·)) Q st:=λi Q hi q=>by
  obtain⟨x,e,g,D⟩:=hb i hi;refine wpS_bind (bJ e ?_);cases left with
  | true=>exact aV4 C F g H (by simp only[if_true]at D;rw[← D];exact q)
  | false=>exact wpS_bind (aV4 C F H g (wpS_pure (by simp at D;rw[D]at q;exact q)))
 refine wpS_bind (t hint _ I ?_);dsimp only;cases J:be hint with
 | true=>
   rw[a1Z rfl];refine wpS_bind (wpS_mono (wpS_forRange (λi (r:Option (Option Nat)×Nat×Nat) st'=>st=st'/\r.1=none/\r.2.1 < r.2.2/\i<=r.2.1/\hint+r.2.1 < n/\be (hint+r.2.1)=true)
    (Q:=λr st'=>st=st'/\r.1=none/\(∀ i,i < hint+r.2.1+1->be i=true)/\(∀ i,hint+min r.2.2 (n-hint)<=i->i < n->be i=false)/\hint+r.2.1+1<=hint+min r.2.2 (n-hint)/\hint+min r.2.2 (n-hint)<=n) ?_ ?_ ⟨rfl,rfl,Nat.zero_lt_one,a7a _,I,J⟩) ?_)
   ·rintro i ⟨o,l,f⟩ st'-hi ⟨rfl,rfl,d,h,b,a⟩;dsimp only at d h b a ⊢;split;refine wpS_pure ⟨rfl,rfl,?_⟩;dsimp only;exact⟨λi hi=>B i _ (by lia) b a,λi u w=>by lia,by lia,by lia⟩;refine wpS_bind (t (hint+f) _ (by lia) ?_);dsimp only;cases v:be (hint+f)<;>refine wpS_pure ⟨rfl,rfl,?_⟩<;>dsimp only;exact⟨λi hi=>B i _ (by lia) b a,λi u w=>p (hint+f) i (by lia) w v,by lia,by lia⟩;exact⟨by lia,by lia,by lia,v⟩
   ·rintro⟨o,l,f⟩ st' ⟨rfl,rfl,d,h,b,a⟩;dsimp only at d h b a;lia
   rintro⟨o,l,f⟩ st' ⟨rfl,rfl,d,h,b,a⟩;dsimp only at d h b a ⊢;generalize hint+l+1=lo at d b ⊢;generalize hint+min f (n-hint)=hi at h b a ⊢;refine wpS_bind (wpS_mono (wpS_forRange (λi (r:Option (Option Nat)×Nat×Nat) st'=>st=st'/\r.1=none/\(∀ i,i < r.2.1->be i=true)/\(∀ i,r.2.2<=i->i < n->be i=false)/\r.2.1<=r.2.2/\r.2.2<=n/\r.2.2+i<=n+r.2.1)
    (Q:=λr st'=>st=st'/\r.1=none/\(∀ i,i < r.2.1->be i=true)/\(∀ i,r.2.2<=i->i < n->be i=false)/\r.2.1=r.2.2/\r.2.2<=n) ?_ ?_ ⟨rfl,rfl,d,h,b,a,by dsimp only;lia⟩) ?_)
   ·rintro i ⟨o,l,f⟩ st'-hi ⟨rfl,rfl,d,h,b,a,z⟩;dsimp only at d h b a z ⊢;split;exact wpS_pure ⟨rfl,rfl,d,h,by dsimp only;lia,a⟩;refine wpS_bind (t _ _ (by lia) ?_);dsimp only;cases v:be (l+(f-l) / 2)<;>refine wpS_pure ⟨rfl,rfl,?_⟩<;>dsimp only;exact⟨d,λi u w=>p _ i u w v,by lia,by lia,by lia⟩;exact⟨λi u=>B i _ (by lia) (by lia) v,h,by lia,a,by lia⟩
   ·rintro⟨o,l,f⟩ st' ⟨rfl,rfl,d,h,b,a,z⟩;exact⟨rfl,rfl,d,h,by dsimp only at b a z ⊢;lia,a⟩
   rintro⟨o,l,f⟩ st' ⟨rfl,rfl,d,h,b,a⟩;dsimp only at d h b a ⊢;subst b;exact wpS_pure (q _ a d h)
 | false=>
   rw[a2k (by decide)];refine wpS_bind (wpS_mono (wpS_forRange (λi (r:Option (Option Nat)×Nat×Nat) st'=>st=st'/\r.1=none/\r.2.1 < r.2.2/\i<=r.2.1/\r.2.1<=hint/\be (hint-r.2.1)=false)
    (Q:=λr st'=>st=st'/\r.1=none/\(∀ i,i < hint+1-min r.2.2 (hint+1)->be i=true)/\(∀ i,hint-r.2.1<=i->i < n->be i=false)/\hint+1-min r.2.2 (hint+1)<=hint-r.2.1/\hint-r.2.1<=n) ?_ ?_ ⟨rfl,rfl,Nat.zero_lt_one,a7a _,a3d _,J⟩) ?_)
   ·rintro i ⟨o,l,f⟩ st'-hi ⟨rfl,rfl,d,h,b,a⟩;dsimp only at d h b a ⊢;split;refine wpS_pure ⟨rfl,rfl,?_⟩;dsimp only;exact⟨λi hi=>by lia,λi u w=>p _ i u w a,by lia,by lia⟩;refine wpS_bind (t (hint-f) _ (by lia) ?_);dsimp only;cases v:be (hint-f)<;>refine wpS_pure ⟨rfl,rfl,?_⟩<;>dsimp only;exact⟨by lia,by lia,by lia,v⟩;exact⟨λi hi=>B i (hint-f) (by lia) (by lia) v,λi u w=>p _ i u w a,by lia,by lia⟩
   ·rintro⟨o,l,f⟩ st' ⟨rfl,rfl,d,h,b,a⟩;dsimp only at d h b a;lia
   rintro⟨o,l,f⟩ st' ⟨rfl,rfl,d,h,b,a⟩;dsimp only at d h b a ⊢;generalize hint+1-min f (hint+1)=lo at d b ⊢;generalize hint-l=hi at h b a ⊢;refine wpS_bind (wpS_mono (wpS_forRange (λi (r:Option (Option Nat)×Nat×Nat) st'=>st=st'/\r.1=none/\(∀ i,i < r.2.1->be i=true)/\(∀ i,r.2.2<=i->i < n->be i=false)/\r.2.1<=r.2.2/\r.2.2<=n/\r.2.2+i<=n+r.2.1)
    (Q:=λr st'=>st=st'/\r.1=none/\(∀ i,i < r.2.1->be i=true)/\(∀ i,r.2.2<=i->i < n->be i=false)/\r.2.1=r.2.2/\r.2.2<=n) ?_ ?_ ⟨rfl,rfl,d,h,b,a,by dsimp only;lia⟩) ?_)
   ·rintro i ⟨o,l,f⟩ st'-hi ⟨rfl,rfl,d,h,b,a,z⟩;dsimp only at d h b a z ⊢;split;exact wpS_pure ⟨rfl,rfl,d,h,by dsimp only;lia,a⟩;refine wpS_bind (t _ _ (by lia) ?_);dsimp only;cases v:be (l+(f-l) / 2)<;>refine wpS_pure ⟨rfl,rfl,?_⟩<;>dsimp only;exact⟨d,λi u w=>p _ i u w v,by lia,by lia,by lia⟩;exact⟨λi u=>B i _ (by lia) (by lia) v,h,by lia,a,by lia⟩
   ·rintro⟨o,l,f⟩ st' ⟨rfl,rfl,d,h,b,a,z⟩;exact⟨rfl,rfl,d,h,by dsimp only at b a z ⊢;lia,a⟩
   rintro⟨o,l,f⟩ st' ⟨rfl,rfl,d,h,b,a⟩;dsimp only at d h b a ⊢;subst b;exact wpS_pure (q _ a d h)
end
abbrev Srt(c:Keyed->Keyed->Bool)(l:List Keyed):Prop:=l.Pairwise λx y=>c x y=true
structure Mg(c:Keyed->Keyed->Bool)(la lb out:List Keyed)(i j:Nat):Prop where
 pm:out.Perm (la.take i++lb.take j)
 so:Srt c out
 le:∀ o∈out,∀ x∈la.drop i++lb.drop j,c o x=true
 hi:i<=la.length
 hj:j<=lb.length
def Rs(c:Keyed->Keyed->Bool)(la lb l:List Keyed):Prop:=l.Perm (la++lb)/\Srt c l
section
variable{c:Keyed->Keyed->Bool}{la lb out:List Keyed}{i j:Nat}
def Mg.len(m:Mg c la lb out i j):out.length=i+j:=by
 have:=m.pm.length_eq;have:=m.hi;have:=m.hj;simp at *;lia
theorem Mg.symm(m:Mg c la lb out i j):Mg c lb la out j i:=
 ⟨m.pm.trans List.perm_append_comm,m.so,λo b x a=>m.le o b x (by simp at a ⊢;exact a.symm),m.hj,m.hi⟩
def Mg.left(m:Mg c la lb out i j)(sa:Srt c la){k:Nat}(d:i+k<=la.length)(h:∀ x∈(la.drop i).take k,∀ y∈lb.drop j,c x y=true):Mg c la lb (out++(la.drop i).take k) (i+k) j:=by
 have s1:Srt c ((la.drop i).take k++(la.drop i).drop k):=by rw[List.take_append_drop];exact sa.sublist (List.drop_sublist _ _)
 obtain⟨s2,f,e⟩:=List.pairwise_append.mp s1;refine⟨?_,List.pairwise_append.mpr ⟨m.so,s2,λo a x b=>m.le o a x (a1c.mpr (.inl (a2g b)))⟩,λo a x b=>?_,d,m.hj⟩;rw[List.take_add];refine(m.pm.append_right _).trans ?_;rw[List.append_assoc,List.append_assoc];exact List.Perm.append_left _ List.perm_append_comm;rw[a1c]at b a;rcases a with a | a;refine m.le o a x (a1c.mpr (b.imp (λz=>?_) id));rw[← List.drop_drop]at z;exact List.mem_of_mem_drop z;rcases b with b | b;exact e o a x (by rw[List.drop_drop];exact b);exact h o a x b
def Mg.right(m:Mg c la lb out i j)(sb:Srt c lb){k:Nat}(a:j+k<=lb.length)(h:∀ x∈(lb.drop j).take k,∀ y∈la.drop i,c x y=true):Mg c la lb (out++(lb.drop j).take k) i (j+k):=(m.symm.left sb a h).symm
def Mg.done(m:Mg c la lb out i j)(sa:Srt c la)(sb:Srt c lb)(h:i=la.length\/j=lb.length):Rs c la lb (out++la.drop i++lb.drop j):=by
 rcases h with rfl | rfl;have:=m.right sb (k:=lb.length-j) (by have:=m.hj;lia) (λx _ y a=>by simp at a);have e:(lb.drop j).take (lb.length-j)=lb.drop j:=a8c (by simp);rw[e]at this;refine⟨?_,?_⟩;have p:=this.pm;rw[a8c (l:=lb) (by lia),List.take_length]at p;simpa using p;simpa using this.so;have:=m.left sa (k:=la.length-i) (by have:=m.hi;lia) (λx _ y a=>by simp at a);have e:(la.drop i).take (la.length-i)=la.drop i:=a8c (by simp);rw[e]at this;refine⟨?_,?_⟩;have p:=this.pm;rw[a8c (l:=la) (by lia),List.take_length]at p;simpa using p;simpa using this.so
def Mg.last(m:Mg c la lb out i j)(sa:Srt c la)(sb:Srt c lb)(h:i+1=la.length)(d:∀ x∈la.drop i,∀ y∈lb,c y x=true):Rs c la lb (out++lb.drop j++la.drop i):=by
 have a:=m.right sb (k:=lb.length-j) (by have:=m.hj;lia) (λx f y g=>d y g x (List.mem_of_mem_drop (a2g f)));have e:(lb.drop j).take (lb.length-j)=lb.drop j:=a8c (by simp);rw[e]at a;have b:j+(lb.length-j)=lb.length:=by have:=m.hj;lia
 have:=a.done sa sb (.inr b);rw[b,List.drop_length,a3f]at this;exact this
def jJ{l:List Keyed}{i:Nat}{x:Keyed}(h:l[i]? = some x):l.drop i=x::l.drop (i+1):=by
 obtain⟨a,rfl⟩:=a0a.mp h;exact List.drop_eq_getElem_cons a
def lF{l:List Keyed}{i:Nat}{x:Keyed}(h:l[i]? = some x)(s:Srt c l):∀ y∈l.drop i,y=x\/c x y=true:=by
 have:=s.sublist (List.drop_sublist i l);rw[jJ h]at this ⊢;exact λy a=>(a9b.mp a).imp id λz=>(a1e.mp this).1 y z
end
section
variable{M:Model}{A:Around}{E:Value->Shared->Prop}{s:Shared}{κ:SortKind}{G:Keyed->Prop}{c:Keyed->Keyed->Bool}
noncomputable def bE4:Array Keyed->Array Keyed->StateT SortSt Sem (Array Keyed):=sortPriv% PySem.Builtin.mergeLo
noncomputable def bR8:Nat->StateT SortSt Sem Unit:=sortPriv% PySem.Builtin.setMinGallop
structure Like(st st':SortSt):Prop where
 k:kindOf st'=kindOf st
 a:arrOf st'=arrOf st
 p:pendingOf st'=pendingOf st
 f:failedOf st'=failedOf st
def Like.rfl'{st:SortSt}:Like st st:=⟨rfl,rfl,rfl,rfl⟩
theorem Like.trans{a b d:SortSt}(x:Like a b)(y:Like b d):Like a d:=⟨y.k.trans x.k,y.a.trans x.a,y.p.trans x.p,y.f.trans x.f⟩
def lG{g:Nat}{st:SortSt}{Q:Unit->SortSt->Prop}(q:∀ st',Like st st'->Q () st'):wpS M A E s (bR8 g) Q st:=wpS_modify (q _ ⟨rfl,rfl,rfl,rfl⟩)
theorem Cm.as(C:Cm M A s κ G c){x y:Keyed}(h:c x y=true):c y x=false:=by
 cases e:c y x with
 | false=>rfl
 | true=>have:=C.tr h e;rw[C.ir]at this;cases this
def uY{a:Array Keyed}{i:Nat}(h:i < a.size):∃ x,a[i]? = some x/\a.toList[i]? = some x/\x∈a.toList:=⟨a[i],by simp[h],by simp[h],by simp⟩
def lH{l:List Keyed}{i k:Nat}{x:Keyed}(h:x∈(l.drop i).take k):∃ j,j < k/\l[i+j]? = some x:=by
 obtain⟨j,hj⟩:=List.getElem?_of_mem h;rw[List.getElem?_take]at hj;split at hj;rename_i a;rw[List.getElem?_drop]at hj;exact⟨j,a,hj⟩;cases hj
def wZ{l:List Keyed}{i:Nat}{x:Keyed}(h:x∈l.drop i):∃ j,i<=j/\j < l.length/\l[j]? = some x:=by
 obtain⟨j,hj⟩:=List.getElem?_of_mem h;rw[List.getElem?_drop]at hj;exact⟨i+j,by lia,(a0a.mp hj).1,hj⟩
def aE3(C:Cm M A s κ G c){left:Bool}{key:Keyed}{a:Array Keyed}{b n hint:Nat}{L:List Keyed}{st:SortSt}{Q:Option Nat->SortSt->Prop}(w:kindOf st=κ)(z:(a.toList.drop b).take n=L)(hn:L.length=n)(B:∀ x∈L,G x)(D:G key)(F:Srt c L)
  (hd:∀ x∈L,c x key=true\/c key x=true) (H:hint < n) (q:∀ k,k<=n->(∀ x∈L.take k,c x key=true)->(∀ x∈L.drop k,c key x=true)->Q (some k) st):wpS M A E s (aE2 left key a b n hint) Q st:=by
 have I:∀ x∈L,(if left=true then c x key else !c key x)=c x key:=λx d=>by
  cases left with
  | true=>rfl
  | false=>rcases hd x d with e | e<;>simp[e,C.as e]
 have f:∀ i,i < n->∃ x,a[b+i]? = some x/\L[i]? = some x/\x∈L:=λi hi=>by
  obtain⟨x,d⟩:∃ x,L[i]? = some x:=⟨L[i],by simp[hn,hi]⟩;refine⟨x,?_,d,a4c d⟩;rw[← z,List.getElem?_take,a1Z hi,List.getElem?_drop]at d;simpa using d
 refine aV5 C w (λi=>match L[i]? with | some x=>c x key | none=>false) (λi hi=>?_) D (λi j m o g=>?_) H λk m o g=>q k m (λx d=>?_) λx d=>?_
 ·obtain⟨x,u,h,p⟩:=f i hi;exact⟨x,u,B x p,by simp only[h];exact(I x p).symm⟩
 ·obtain⟨x,u,h,p⟩:=f i (by lia);obtain⟨y,P,l,R⟩:=f j o;simp only[h,l]at g ⊢;rcases Nat.eq_or_lt_of_le m with e | e;subst e;rw[h]at l;cases l;exact g;obtain⟨J,K⟩:=a0a.mp h;obtain⟨N,O⟩:=a0a.mp l;have:=List.pairwise_iff_getElem.mp F i j J N e;rw[K,O]at this;exact C.tr this g
 ·obtain⟨j,r,t⟩:=lH (i:=0) (by rw[List.drop_zero];exact d);rw[a9e]at t;have:=o j r;simp only[t]at this;exact this
 ·obtain⟨j,r,t,v⟩:=wZ d;have:=g j r (by lia);simp only[v]at this;rcases hd x (a4c v)with e | e;rw[e]at this;cases this;exact e
def aJ6(C:Cm M A s κ G c){left:Bool}{d:Keyed}{a:Array Keyed}{b n hint:Nat}{st:SortSt}{Q:Option Nat->SortSt->Prop}(j:kindOf st=κ)(l:∀ x∈a.toList,G x)(m:G d)(sa:Srt c a.toList)
  (hd:∀ x∈a.toList,c x d=true\/c d x=true) (hb:b+n<=a.size) (o:hint < n)
  (q:∀ k,k<=n->(∀ i x,i < k->a.toList[b+i]? = some x->c x d=true)->(∀ i x,k<=i->i < n->a.toList[b+i]? = some x->c d x=true)->Q (some k) st):wpS M A E s (aE2 left d a b n hint) Q st:=by
 have g:∀ x∈(a.toList.drop b).take n,x∈a.toList:=λx f=>List.mem_of_mem_drop (a2g f);have gt:∀ i x,i < n->a.toList[b+i]? = some x->((a.toList.drop b).take n)[i]? = some x:=λi x h e=>by rw[List.getElem?_take,a1Z h,List.getElem?_drop];exact e
 refine aE3 C j rfl (by simp;lia) (λx f=>l x (g x f)) m (sa.sublist ((List.take_sublist _ _).trans (List.drop_sublist _ _))) (λx f=>hd x (g x f)) o λk p r t=>q k p (λi x hi f=>r x ?_) λi x hi u f=>t x ?_;have:=gt i x (by lia) f;exact a4c (i:=i) (by rw[List.getElem?_take,a1Z hi];exact this);have:=gt i x u f;exact a4c (i:=i-k) (by rw[List.getElem?_drop,show k+(i-k)=i by lia];exact this)
def jV{l:List Keyed}{i:Nat}{x:Keyed}(h:l[i]? = some x):(l.drop i).take 1=[x]:=by rw[jJ h];rfl
theorem dD{a:Array Keyed}{i j:Nat}:(a.extract i j).toList=(a.toList.drop i).take (j-i):=by simp[Array.toList_extract,List.extract]
def xA{a:Array Keyed}{i:Nat}:(a.extract i a.size).toList=a.toList.drop i:=by
 rw[dD];exact a8c (by simp)
def tU{a:Type}{p:Prop}[Decidable p]{m m':StateT SortSt Sem a}{Q:a->SortSt->Prop}{st:SortSt}(h:wpS M A E s m Q st)(h':wpS M A E s m' Q st):wpS M A E s (if p then m else m') Q st:=by
 by_cases e:p;rw[a1Z e];exact h;rw[a2k e];exact h'
def aO4(C:Cm M A s κ G c){a b:Array Keyed}{st:SortSt}{Q:Array Keyed->SortSt->Prop}(hk:kindOf st=κ)(ga:∀ x∈a.toList,G x)(gb:∀ x∈b.toList,G x)(sa:Srt c a.toList)(sb:Srt c b.toList)
  (hd:∀ x∈a.toList,∀ y∈b.toList,c x y=true\/c y x=true) (h1:1<=a.size) (h2:1<=b.size) (hf:∀ y∈b.toList.take 1,∀ x∈a.toList,c y x=true) (hl:∀ x∈a.toList.drop (a.size-1),∀ y∈b.toList,c y x=true)
  (q:∀ r st',Like st st'->Rs c a.toList b.toList r.toList->Q r st'):wpS M A E s (bE4 a b) Q st:=by
 have la:a.toList.length=a.size:=rfl;have lb:b.toList.length=b.size:=rfl;refine wpS_bind (wpS_lift (a2y ⟨rfl,?_⟩));obtain⟨b0,hb0,hb1,hb2⟩:=uY (a:=b) (i:=0) h2;refine wpS_bind (bJ hb0 ?_);dsimp only;have t1:b.toList.take 1=[b0]:=by have:=jV hb1;rwa[List.drop_zero]at this
 have m0:Mg c a.toList b.toList [b0] 0 1:=by
  have:=(Mg.mk (c:=c) (la:=a.toList) (lb:=b.toList) (out:=[]) (i:=0) (j:=0) (by simp) .nil (λ_ h=>by simp at h) (Nat.zero_le _) (Nat.zero_le _)).right sb (k:=1) (by lia) (by rw[List.drop_zero,List.drop_zero];exact hf);rwa[List.drop_zero,t1]at this
 have dn:∀ {o:Array Keyed} {i j:Nat},Mg c a.toList b.toList o.toList i j->(i=a.size\/j=b.size)->Rs c a.toList b.toList (o++a.extract i a.size++b.extract j b.size).toList:=λ{o i j} m h=>by
  rw[Array.toList_append,Array.toList_append,xA,xA];exact m.done sa sb h
 have ls:∀ {o:Array Keyed} {i j:Nat},Mg c a.toList b.toList o.toList i j->i+1=a.size->Rs c a.toList b.toList (o++b.extract j b.size++a.extract i a.size).toList:=λ{o i j} m h=>by
  rw[Array.toList_append,Array.toList_append,xA,xA];exact m.last sa sb h (by rw[show i=a.size-1 by lia];exact hl)
 have pa:∀ {o:Array Keyed} {i j:Nat} {x:Keyed},Mg c a.toList b.toList o.toList i j->a.toList[i]? = some x->(∀ y∈b.toList.drop j,c x y=true)->Mg c a.toList b.toList (o.push x).toList (i+1) j:=λ{o i j x} m J h=>by
  have:=m.left sa (k:=1) (a0a.mp J).1 (by rw[jV J];intro z D;cases a7b.mp D;exact h);rwa[jV J,← a7g]at this
 have pb:∀ {o:Array Keyed} {i j:Nat} {x:Keyed},Mg c a.toList b.toList o.toList i j->b.toList[j]? = some x->(∀ y∈a.toList.drop i,c x y=true)->Mg c a.toList b.toList (o.push x).toList i (j+1):=λ{o i j x} m J h=>by
  have:=m.right sb (k:=1) (a0a.mp J).1 (by rw[jV J];intro z D;cases a7b.mp D;exact h);rwa[jV J,← a7g]at this
 by_cases n1:1=b.size;rw[a1Z (by rw[← n1];rfl)];exact wpS_pure (q _ _ .rfl' (dn m0 (.inr n1)))
 rw[a2k (by rw[a2l];exact n1)];by_cases n2:0+1=a.size;rw[a1Z (by rw[← n2];rfl)];exact wpS_pure (q _ _ .rfl' (ls m0 n2))
 rw[a2k (by rw[a2l];exact n2)];refine wpS_bind (wpS_get ?_);refine wpS_bind (wpS_mono (wpS_forRange (λi (r:Option (Array Keyed)×Array Keyed×Nat×Nat×Nat) st'=>Like st st'/\r.1=none/\Mg c a.toList b.toList r.2.1.toList r.2.2.1 r.2.2.2.1/\r.2.2.1+1 < a.size/\r.2.2.2.1 < b.size/\i+1<=r.2.1.size)
  (Q:=λr st'=>Like st st'/\∃ o,r.1=some o/\Rs c a.toList b.toList o.toList) ?_ ?_ ⟨.rfl',rfl,m0,by dsimp only;lia,by dsimp only;lia,a7a _⟩) ?_)
 ·rintro n ⟨o,out,l,f,m⟩ st1-hn ⟨l1,rfl,mg,p,g,t⟩;dsimp only at mg p g t ⊢;refine wpS_bind (wpS_mono (wpS_forRange (λi (r:Option (Array Keyed)×Array Keyed×Nat×Nat×Nat×Nat) st'=>Like st st'/\r.1=none/\Mg c a.toList b.toList r.2.1.toList r.2.2.1 r.2.2.2.1/\r.2.2.1+1 < a.size/\r.2.2.2.1 < b.size/\n+1+i<=r.2.1.size)
   (Q:=λr st'=>Like st st'/\((r.1=none/\Mg c a.toList b.toList r.2.1.toList r.2.2.1 r.2.2.2.1/\r.2.2.1+1 < a.size/\r.2.2.2.1 < b.size/\n+2<=r.2.1.size)\/∃ o,r.1=some o/\Rs c a.toList b.toList o.toList)) ?_ ?_ ⟨l1,rfl,mg,p,g,by dsimp only;lia⟩) ?_)
  ·rintro i ⟨o,out,l,f,Z,bc⟩ K-hi ⟨B,rfl,mg,p,g,t⟩;dsimp only at mg p g t ⊢;obtain⟨y,L,N,O⟩:=uY (a:=b) g;obtain⟨x,P,R,S⟩:=uY (a:=a) (show l < a.size by lia);refine wpS_bind (bJ L (wpS_bind (bJ P (wpS_bind (aV4 C (B.k.trans hk) (gb y O) (ga x S) ?_)))));dsimp only;cases e:c y x with
   | true=>
     rw[a1Z rfl];refine wpS_bind (bJ L ?_);have d:=pb mg N (λz D=>(lF R sa z D).elim (λh=>h ▸ e) (C.tr e));by_cases T:f+1=b.size;rw[a1Z (a2l.mpr T)];exact wpS_pure ⟨B,.inr ⟨_,rfl,dn d (.inr T)⟩⟩
     rw[a2k (by rw[a2l];exact T)];by_cases U:bc+1 ≥ m;rw[a1Z U];exact wpS_pure ⟨B,.inl ⟨rfl,d,p,by dsimp only;lia,by dsimp only;rw[Array.size_push];lia⟩⟩;rw[a2k U];exact wpS_pure ⟨B,rfl,d,p,by dsimp only;lia,by dsimp only;rw[Array.size_push];lia⟩
   | false=>
     rw[a2k (by decide)];have e':c x y=true:=(hd x S y O).resolve_right (by rw[e];decide);refine wpS_bind (bJ P ?_);have d:=pa mg R (λz D=>(lF N sb z D).elim (λh=>h ▸ e') (C.tr e'));by_cases T:l+1+1=a.size;rw[a1Z (a2l.mpr T)];exact wpS_pure ⟨B,.inr ⟨_,rfl,ls d T⟩⟩
     rw[a2k (by rw[a2l];exact T)];by_cases U:Z+1 ≥ m;rw[a1Z U];exact wpS_pure ⟨B,.inl ⟨rfl,d,by dsimp only;lia,g,by dsimp only;rw[Array.size_push];lia⟩⟩;rw[a2k U];exact wpS_pure ⟨B,rfl,d,by dsimp only;lia,g,by dsimp only;rw[Array.size_push];lia⟩
  ·rintro⟨o,out,l,f,Z,bc⟩ K ⟨B,rfl,mg,p,g,t⟩;have:=mg.len;dsimp only at mg p g t this;simp at this t;lia
  rintro⟨o,out,l,f,Z,bc⟩ K ⟨B,⟨rfl,mg,p,g,t⟩ | ⟨r,rfl,hr⟩⟩
  case inr=>exact wpS_pure ⟨B,r,rfl,hr⟩
  dsimp only at mg p g t ⊢;refine wpS_bind (wpS_lift (a2y ⟨rfl,?_⟩));refine wpS_bind (wpS_mono (wpS_forRange (λi (r:Option (Array Keyed)×Array Keyed×Nat×Nat×Nat×Nat×Nat) st'=>Like st st'/\r.1=none/\Mg c a.toList b.toList r.2.1.toList r.2.2.1 r.2.2.2.1/\r.2.2.1+1 < a.size/\r.2.2.2.1 < b.size/\n+2+i<=r.2.1.size)
   (Q:=λr st'=>Like st st'/\((r.1=none/\Mg c a.toList b.toList r.2.1.toList r.2.2.1 r.2.2.2.1/\r.2.2.1+1 < a.size/\r.2.2.2.1 < b.size/\n+2<=r.2.1.size)\/∃ o,r.1=some o/\Rs c a.toList b.toList o.toList)) ?_ ?_ ⟨B,rfl,mg,p,g,t⟩) ?_)
  ·rintro i ⟨o,out,l,f,m,Z,bc⟩ K-hi ⟨B,rfl,mg,p,g,t⟩;dsimp only at mg p g t ⊢;obtain⟨y,L,N,O⟩:=uY (a:=b) g;by_cases hm:m > 1
   case' pos=>rw[a1Z hm]
   case' neg=>rw[a2k hm]
   all_goals
    refine wpS_bind (lG λst3 I=>wpS_bind (bJ L (wpS_bind (aJ6 C ((B.trans I).k.trans hk) ga (gb y O) sa (λx J=>hd x J y O) (b:=l) (n:=a.size-l) (by lia) (by lia) λk k1 k2 k3=>?_))))
    replace I:=B.trans I
    dsimp only;have d:Mg c a.toList b.toList (out++a.extract l (l+k)).toList (l+k) f:=by
     rw[Array.toList_append,dD,Nat.add_sub_cancel_left];refine mg.left sa (by lia) λx J z D=>?_;obtain⟨j,j1,j2⟩:=lH J;have:=k2 j x j1 j2;exact(lF N sb z D).elim (λh=>h ▸ this) (C.tr this)
    have f2:∀ z∈a.toList.drop (l+k),c y z=true:=λz D=>by
     obtain⟨j,j1,j2,j3⟩:=wZ D;exact k3 (j-l) z (by lia) (by lia) (by rw[show l+(j-l)=j by lia];exact j3)
    have x4:n+2+i<=(out++a.extract l (l+k)).size:=by rw[Array.size_append];lia
    by_cases hk0:k > 0
    case' pos=>
     rw[a1Z hk0];generalize out++a.extract l (l+k)=w at d x4 ⊢;generalize l+k=H at d f2 ⊢;by_cases T:H+1=a.size;rw[a1Z (a2l.mpr T)];exact wpS_pure ⟨I,.inr ⟨_,rfl,ls d T⟩⟩
     rw[a2k (by rw[a2l];exact T)];by_cases U:H=a.size;rw[a1Z (a2l.mpr U)];exact wpS_pure ⟨I,.inr ⟨_,rfl,dn d (.inl U)⟩⟩
     rw[a2k (by rw[a2l];exact U)]
     replace p:H+1 < a.size:=by have:=d.hi;lia
    case' neg=>
     rw[a2k hk0];obtain rfl:k=0:=by lia
     rw[Nat.add_zero]at f2
     replace d:=mg
     replace x4:=t
     generalize out=w at d x4 ⊢;generalize l=H at d f2 p ⊢
    all_goals
     refine wpS_bind (bJ L ?_);have W:=pb d N f2;by_cases e4:f+1=b.size;rw[a1Z (a2l.mpr e4)];exact wpS_pure ⟨I,.inr ⟨_,rfl,dn W (.inr e4)⟩⟩
     rw[a2k (by rw[a2l];exact e4)];obtain⟨x,P,R,S⟩:=uY (a:=a) (show H < a.size by lia);refine wpS_bind (bJ P (wpS_bind (aJ6 C (I.k.trans hk) gb (ga x S) sb (λz D=>(hd x S z D).symm) (b:=f+1) (n:=b.size-(f+1)) (by lia) (by lia) λj j1 j2 j3=>?_)));dsimp only;have F:Mg c a.toList b.toList (w.push y++b.extract (f+1) (f+1+j)).toList H (f+1+j):=by
      rw[Array.toList_append,dD,Nat.add_sub_cancel_left];refine W.right sb (by lia) λz D u hu=>?_;obtain⟨v,v1,v2⟩:=lH D;have:=j2 v z v1 v2;exact(lF R sa u hu).elim (λh=>h ▸ this) (C.tr this)
     have f4:∀ z∈b.toList.drop (f+1+j),c x z=true:=λz D=>by
      obtain⟨v,v1,v2,v3⟩:=wZ D;exact j3 (v-(f+1)) z (by lia) (by lia) (by rw[show f+1+(v-(f+1))=v by lia];exact v3)
     have x5:n+2+i < (w.push y++b.extract (f+1) (f+1+j)).size:=by rw[Array.size_append,Array.size_push];lia
     by_cases hj0:j > 0
     case' pos=>
      rw[a1Z hj0];generalize w.push y++b.extract (f+1) (f+1+j)=V at F x5 ⊢;generalize f+1+j=X at F f4 ⊢;by_cases e5:X=b.size;rw[a1Z (a2l.mpr e5)];exact wpS_pure ⟨I,.inr ⟨_,rfl,dn F (.inr e5)⟩⟩
      rw[a2k (by rw[a2l];exact e5)]
      replace g:X < b.size:=by have:=F.hj;lia
     case' neg=>
      rw[a2k hj0];obtain rfl:j=0:=by lia
      rw[Nat.add_zero]at f4
      replace F:=W
      replace x5:n+2+i < (w.push y).size:=by rw[Array.size_push];lia
      replace g:f+1 < b.size:=by lia
      generalize w.push y=V at F x5 ⊢;generalize f+1=X at F f4 g ⊢
     all_goals
      refine wpS_bind (bJ P ?_);have Y:=pa F R f4;by_cases e6:H+1+1=a.size;rw[a1Z (a2l.mpr e6)];exact wpS_pure ⟨I,.inr ⟨_,rfl,ls Y e6⟩⟩
      rw[a2k (by rw[a2l];exact e6)];have x6:n+2+(i+1)<=(V.push x).size:=by rw[Array.size_push];lia
      refine tU ?_ ?_;exact wpS_pure ⟨I,.inl ⟨rfl,Y,by dsimp only;lia,g,by dsimp only;lia⟩⟩;exact wpS_pure ⟨I,rfl,Y,by dsimp only;lia,g,x6⟩
  ·rintro⟨o,out,l,f,m,Z,bc⟩ K ⟨B,rfl,mg,p,g,t⟩;have:=mg.len;dsimp only at mg p g t this;simp at this t;lia
  rintro⟨o,out,l,f,m,Z,bc⟩ K ⟨B,⟨rfl,mg,p,g,t⟩ | ⟨r,rfl,hr⟩⟩
  case inr=>exact wpS_pure ⟨B,r,rfl,hr⟩
  dsimp only at mg p g t ⊢;exact wpS_bind (lG λst3 I=>wpS_pure ⟨B.trans I,rfl,mg,p,g,t⟩)
 ·rintro⟨o,out,l,f,m⟩ st1 ⟨l1,rfl,mg,p,g,t⟩;have:=mg.len;dsimp only at mg p g t this;simp at this t;lia
 ·rintro⟨o,out,l,f,m⟩ st1 ⟨l1,r,rfl,hr⟩;exact wpS_pure (q _ _ l1 hr)
end
structure Wh(c:Keyed->Keyed->Bool)(a b out:Array Keyed)(na nb:Nat):Prop where
 m:Mg (λx y=>c y x) b.toList.reverse a.toList.reverse out.toList (b.size-nb) (a.size-na)
 ha:na<=a.size
 hb:nb<=b.size
section
variable{c:Keyed->Keyed->Bool}{a b out:Array Keyed}{na nb:Nat}
theorem Wh.symm(w:Wh c a b out na nb):Wh c b a out nb na:=⟨w.m.symm,w.hb,w.ha⟩
theorem Wh.len(w:Wh c a b out na nb):out.size+na+nb=a.size+b.size:=by
 have:=w.m.len;have:=w.ha;have:=w.hb;simp at *;lia
def tV{l:List Keyed}(h:Srt c l):Srt (λx y=>c y x) l.reverse:=List.pairwise_reverse.mpr h
def bJ6{la lb l:List Keyed}(h:Rs (λx y=>c y x) lb.reverse la.reverse l):Rs c la lb l.reverse:=
 ⟨by have:=(List.reverse_perm l).trans h.1;rw[← List.reverse_append]at this;exact this.trans (List.reverse_perm _),List.pairwise_reverse.mpr h.2⟩
def gF{a:Array Keyed}{n:Nat}(h:n<=a.size):a.toList.reverse.drop (a.size-n)=(a.toList.take n).reverse:=by
 rw[List.drop_reverse];congr 2;simp;lia
theorem Wh.done(w:Wh c a b out na nb)(sa:Srt c a.toList)(sb:Srt c b.toList)(h:na=0\/nb=0):Rs c a.toList b.toList (a.extract 0 na++b.extract 0 nb++out.reverse).toList:=by
 have:=bJ6 (w.m.done (tV sb) (tV sa) (by simp;have:=w.ha;have:=w.hb;lia));rw[gF w.ha,gF w.hb]at this;simpa[dD]using this
theorem Wh.last(w:Wh c a b out na nb)(sa:Srt c a.toList)(sb:Srt c b.toList)(h:nb=1)(d:∀ y∈b.toList.take 1,∀ x∈a.toList,c y x=true):Rs c a.toList b.toList (b.extract 0 nb++a.extract 0 na++out.reverse).toList:=by
 have:=bJ6 (w.m.last (tV sb) (tV sa) (by simp;have:=w.hb;lia) (by rw[gF w.hb,h];intro x e y f;exact d x (List.mem_reverse.mp e) y (List.mem_reverse.mp f)));rw[gF w.ha,gF w.hb]at this;simpa[dD]using this
def zJ{a:Array Keyed}{n k:Nat}(h:n<=a.size)(b:k<=n):(a.extract (n-k) n).reverse.toList=(a.toList.reverse.drop (a.size-n)).take k:=by
 rw[gF h,Array.toList_reverse,dD,List.take_reverse,List.drop_take];congr 2;congr 1;simp;lia;simp;lia
def Wh.pa(w:Wh c a b out na nb)(sa:Srt c a.toList){k:Nat}(d:k<=na)(h:∀ i x,na-k<=i->i < na->a.toList[i]? = some x->∀ y∈b.toList.take nb,c y x=true):Wh c a b (out++(a.extract (na-k) na).reverse) (na-k) nb:=by
 have:=w.m.right (tV sa) (k:=k) (by simp;have:=w.ha;lia) (by
  rw[gF w.hb,← zJ w.ha d];intro x e y f;rw[Array.toList_reverse,List.mem_reverse,dD]at e;obtain⟨j,l,g⟩:=lH e;exact h _ x (by lia) (by lia) g y (List.mem_reverse.mp f))
 rw[← zJ w.ha d,← Array.toList_append,show a.size-na+k=a.size-(na-k) by have:=w.ha;lia]at this;exact⟨this,by have:=w.ha;lia,w.hb⟩
def Wh.to(w:Wh c a b out na nb)(sa:Srt c a.toList){t:Nat}(d:t<=na)(h:∀ i x,t<=i->i < na->a.toList[i]? = some x->∀ y∈b.toList.take nb,c y x=true):Wh c a b (out++(a.extract t na).reverse) t nb:=by
 have e:na-(na-t)=t:=by lia
 have:=w.pa sa (k:=na-t) (by lia) (by rw[e];exact h);rwa[e]at this
theorem Wh.push(w:Wh c a b out na nb)(sa:Srt c a.toList){x:Keyed}(g:1<=na)(d:a.toList[na-1]? = some x)(h:∀ y∈b.toList.take nb,c y x=true):Wh c a b (out.push x) (na-1) nb:=by
 have:=w.pa sa g (λi z j k f=>by rw[show i=na-1 by lia,d]at f;cases f;exact h);have e:out++(a.extract (na-1) na).reverse=out.push x:=by
  apply Array.toList_inj.mp;rw[Array.toList_append,Array.toList_reverse,dD,show na-(na-1)=1 by lia,jV d];simp
 rwa[e]at this
def jW{l:List Keyed}{i:Nat}{x:Keyed}(h:l[i]? = some x)(s:Srt c l):∀ y∈l.take (i+1),y=x\/c y x=true:=by
 have:=s.sublist (List.take_sublist (i+1) l);obtain⟨a,rfl⟩:=a0a.mp h;rw[List.take_succ_eq_append_getElem a]at this ⊢;intro y b;rcases a1c.mp b with z | z;exact .inr ((List.pairwise_append.mp this).2.2 y z _ (a7b.mpr rfl));exact .inl (a7b.mp z)
end
section
variable{M:Model}{A:Around}{E:Value->Shared->Prop}{s:Shared}{κ:SortKind}{G:Keyed->Prop}{c:Keyed->Keyed->Bool}
noncomputable def bE5:Array Keyed->Array Keyed->StateT SortSt Sem (Array Keyed):=sortPriv% PySem.Builtin.mergeHi
def aO5(C:Cm M A s κ G c){a b:Array Keyed}{st:SortSt}{Q:Array Keyed->SortSt->Prop}(hk:kindOf st=κ)(ga:∀ x∈a.toList,G x)(gb:∀ x∈b.toList,G x)(sa:Srt c a.toList)(sb:Srt c b.toList)
  (hd:∀ x∈a.toList,∀ y∈b.toList,c x y=true\/c y x=true) (h1:1<=a.size) (h2:1<=b.size) (hf:∀ y∈b.toList.take 1,∀ x∈a.toList,c y x=true) (hl:∀ x∈a.toList.drop (a.size-1),∀ y∈b.toList,c y x=true)
  (q:∀ r st',Like st st'->Rs c a.toList b.toList r.toList->Q r st'):wpS M A E s (bE5 a b) Q st:=by
 have la:a.toList.length=a.size:=rfl;have lb:b.toList.length=b.size:=rfl;refine wpS_bind (wpS_lift (a2y ⟨rfl,?_⟩));obtain⟨a0,ha0,W,ha2⟩:=uY (a:=a) (i:=a.size-1) (by lia);refine wpS_bind (bJ ha0 ?_);dsimp only;have w0:Wh c a b #[a0] (a.size-1) b.size:=by
  have:=(Wh.mk (c:=c) (a:=a) (b:=b) (out:=#[]) (na:=a.size) (nb:=b.size) ⟨by simp,.nil,λ_ h=>by simp at h,by simp,by simp⟩ (a7a _) (a7a _)).push sa h1 W
   (by rw[← lb,List.take_length];exact hl a0 (by rw[jJ W];exact a3a))
  exact this
 have X:∀ {o:Array Keyed} {i j:Nat},Wh c a b o i j->(i=0\/j=0)->Rs c a.toList b.toList (a.extract 0 i++b.extract 0 j++o.reverse).toList:=λw h=>w.done sa sb h;have ls:∀ {o:Array Keyed} {i j:Nat},Wh c a b o i j->j=1->Rs c a.toList b.toList (b.extract 0 j++a.extract 0 i++o.reverse).toList:=λw h=>w.last sa sb h hf;by_cases n1:a.size-1=0;rw[a1Z (a2l.mpr n1)];exact wpS_pure (q _ _ .rfl' (X w0 (.inl n1)))
 rw[a2k (by rw[a2l];exact n1)];by_cases n2:b.size=1;rw[a1Z (a2l.mpr n2)];exact wpS_pure (q _ _ .rfl' (ls w0 n2))
 rw[a2k (by rw[a2l];exact n2)];refine wpS_bind (wpS_get ?_);refine wpS_bind (wpS_mono (wpS_forRange (λi (r:Option (Array Keyed)×Nat×Nat×Array Keyed×Nat) st'=>Like st st'/\r.1=none/\Wh c a b r.2.2.2.1 r.2.1 r.2.2.1/\1<=r.2.1/\2<=r.2.2.1/\i+1<=r.2.2.2.1.size)
  (Q:=λr st'=>Like st st'/\∃ o,r.1=some o/\Rs c a.toList b.toList o.toList) ?_ ?_ ⟨.rfl',rfl,w0,by dsimp only;lia,by dsimp only;lia,a7a _⟩) ?_)
 ·rintro n ⟨o,na,nb,out,m⟩ Y-hn ⟨l1,rfl,mg,g,f,p⟩;dsimp only at mg g f p ⊢;refine wpS_bind (wpS_mono (wpS_forRange (λi (r:Option (Array Keyed)×Nat×Nat×Array Keyed×Nat×Nat) st'=>Like st st'/\r.1=none/\Wh c a b r.2.2.2.1 r.2.1 r.2.2.1/\1<=r.2.1/\2<=r.2.2.1/\n+1+i<=r.2.2.2.1.size)
   (Q:=λr st'=>Like st st'/\((r.1=none/\Wh c a b r.2.2.2.1 r.2.1 r.2.2.1/\1<=r.2.1/\2<=r.2.2.1/\n+2<=r.2.2.2.1.size)\/∃ o,r.1=some o/\Rs c a.toList b.toList o.toList)) ?_ ?_ ⟨l1,rfl,mg,g,f,by dsimp only;lia⟩) ?_)
  ·rintro i ⟨o,na,nb,out,Z,bc⟩ J-hi ⟨B,rfl,mg,g,f,p⟩;dsimp only at mg g f p ⊢;have za:=mg.ha;have zb:=mg.hb;obtain⟨y,K,L,N⟩:=uY (a:=b) (show nb-1 < b.size by lia);obtain⟨x,O,P,R⟩:=uY (a:=a) (show na-1 < a.size by lia);have sx:=jW P sa;have sy:=jW L sb;rw[show na-1+1=na by lia]at sx;rw[show nb-1+1=nb by lia]at sy;refine wpS_bind (bJ K (wpS_bind (bJ O (wpS_bind (aV4 C (B.k.trans hk) (gb y N) (ga x R) ?_)))));dsimp only;cases e:c y x with
   | true=>
     rw[a1Z rfl];refine wpS_bind (bJ O ?_);have d:=mg.push sa g P (λz F=>(sy z F).elim (λh=>h ▸ e) λh=>C.tr h e);by_cases I:na-1=0;rw[a1Z (a2l.mpr I)];exact wpS_pure ⟨B,.inr ⟨_,rfl,X d (.inl I)⟩⟩
     rw[a2k (by rw[a2l];exact I)];refine tU ?_ ?_;exact wpS_pure ⟨B,.inl ⟨rfl,d,by dsimp only;lia,f,by dsimp only;rw[Array.size_push];lia⟩⟩;exact wpS_pure ⟨B,rfl,d,by dsimp only;lia,f,by dsimp only;rw[Array.size_push];lia⟩
   | false=>
     rw[a2k (by decide)];have e':c x y=true:=(hd x R y N).resolve_right (by rw[e];decide);refine wpS_bind (bJ K ?_);have d:=(mg.symm.push sb (by lia) L (λz F=>(sx z F).elim (λh=>h ▸ e') λh=>C.tr h e')).symm;by_cases I:nb-1=1;rw[a1Z (a2l.mpr I)];exact wpS_pure ⟨B,.inr ⟨_,rfl,ls d I⟩⟩
     rw[a2k (by rw[a2l];exact I)];refine tU ?_ ?_;exact wpS_pure ⟨B,.inl ⟨rfl,d,g,by dsimp only;lia,by dsimp only;rw[Array.size_push];lia⟩⟩;exact wpS_pure ⟨B,rfl,d,g,by dsimp only;lia,by dsimp only;rw[Array.size_push];lia⟩
  ·rintro⟨o,na,nb,out,Z,bc⟩ J ⟨B,rfl,mg,g,f,p⟩;have:=mg.len;dsimp only at mg g f p this;lia
  rintro⟨o,na,nb,out,Z,bc⟩ J ⟨B,⟨rfl,mg,g,f,p⟩ | ⟨r,rfl,hr⟩⟩
  case inr=>exact wpS_pure ⟨B,r,rfl,hr⟩
  dsimp only at mg g f p ⊢;refine wpS_bind (wpS_lift (a2y ⟨rfl,?_⟩));refine wpS_bind (wpS_mono (wpS_forRange (λi (r:Option (Array Keyed)×Nat×Nat×Array Keyed×Nat×Nat×Nat) st'=>Like st st'/\r.1=none/\Wh c a b r.2.2.2.1 r.2.1 r.2.2.1/\1<=r.2.1/\2<=r.2.2.1/\n+2+i<=r.2.2.2.1.size)
   (Q:=λr st'=>Like st st'/\((r.1=none/\Wh c a b r.2.2.2.1 r.2.1 r.2.2.1/\1<=r.2.1/\2<=r.2.2.1/\n+2<=r.2.2.2.1.size)\/∃ o,r.1=some o/\Rs c a.toList b.toList o.toList)) ?_ ?_ ⟨B,rfl,mg,g,f,p⟩) ?_)
  ·rintro i ⟨o,na,nb,out,m,Z,bc⟩ J-hi ⟨B,rfl,mg,g,f,p⟩;dsimp only at mg g f p ⊢;have za:=mg.ha;have zb:=mg.hb;obtain⟨y,K,L,N⟩:=uY (a:=b) (show nb-1 < b.size by lia);have sy:=jW L sb;rw[show nb-1+1=nb by lia]at sy;by_cases hm:m > 1
   case' pos=>rw[a1Z hm]
   case' neg=>rw[a2k hm]
   all_goals
    refine wpS_bind (lG λst3 H=>wpS_bind (bJ K (wpS_bind (aJ6 C ((B.trans H).k.trans hk) ga (gb y N) sa (λx hx=>hd x hx y N) (b:=0) (n:=na) (by lia) (by lia) λt k1 k2 k3=>?_))))
    replace H:=B.trans H
    dsimp only;have d:Wh c a b (out++(a.extract t na).reverse) t nb:=mg.to sa k1 λi x i1 i2 i3 z F=>by
     have:=k3 i x i1 i2 (by rw[a9e];exact i3);exact(sy z F).elim (λh=>h ▸ this) λh=>C.tr h this
    have f2:∀ z∈a.toList.take t,c z y=true:=λz F=>by
     obtain⟨j,hj⟩:=List.getElem?_of_mem F;rw[List.getElem?_take]at hj;split at hj;rename_i h;exact k2 j z h (by rw[a9e];exact hj);cases hj
    have x4:n+2+i<=(out++(a.extract t na).reverse).size:=by rw[Array.size_append];lia
    by_cases hk0:na-t > 0
    case' pos=>
     rw[a1Z hk0];generalize out++(a.extract t na).reverse=l at d x4 ⊢;by_cases I:t=0;rw[a1Z (a2l.mpr I)];exact wpS_pure ⟨H,.inr ⟨_,rfl,X d (.inl I)⟩⟩
     rw[a2k (by rw[a2l];exact I)]
    case' neg=>
     rw[a2k hk0];obtain rfl:t=na:=by lia
     replace d:=mg
     replace x4:=p
     have I:¬ t=0:=by lia
     generalize out=l at d x4 ⊢
    all_goals
     refine wpS_bind (bJ K ?_);have T:=(d.symm.push sb (by lia) L f2).symm;by_cases e4:nb-1=1;rw[a1Z (a2l.mpr e4)];exact wpS_pure ⟨H,.inr ⟨_,rfl,ls T e4⟩⟩
     rw[a2k (by rw[a2l];exact e4)];obtain⟨x,O,P,R⟩:=uY (a:=a) (show t-1 < a.size by lia);have sx:=jW P sa;rw[show t-1+1=t by lia]at sx;refine wpS_bind (bJ O (wpS_bind (aJ6 C (H.k.trans hk) gb (ga x R) sb (λz F=>(hd x R z F).symm) (b:=0) (n:=nb-1) (by lia) (by lia) λj j1 j2 j3=>?_)));dsimp only;have D:Wh c a b (l.push y++(b.extract j (nb-1)).reverse) t j:=(T.symm.to sb j1 λi u i1 i2 i3 z F=>by
      have:=j3 i u i1 i2 (by rw[a9e];exact i3);exact(sx z F).elim (λh=>h ▸ this) λh=>C.tr h this).symm
     have f4:∀ z∈b.toList.take j,c z x=true:=λz F=>by
      obtain⟨v,hv⟩:=List.getElem?_of_mem F;rw[List.getElem?_take]at hv;split at hv;rename_i h;exact j2 v z h (by rw[a9e];exact hv);cases hv
     have x5:n+2+i < (l.push y++(b.extract j (nb-1)).reverse).size:=by rw[Array.size_append,Array.size_push];lia
     by_cases hj0:nb-1-j > 0
     case' pos=>
      rw[a1Z hj0];generalize l.push y++(b.extract j (nb-1)).reverse=S at D x5 ⊢;by_cases e5:j=1;rw[a1Z (a2l.mpr e5)];exact wpS_pure ⟨H,.inr ⟨_,rfl,ls D e5⟩⟩
      rw[a2k (by rw[a2l];exact e5)];by_cases U:j=0;rw[a1Z (a2l.mpr U)];exact wpS_pure ⟨H,.inr ⟨_,rfl,X D (.inr U)⟩⟩
      rw[a2k (by rw[a2l];exact U)]
      replace f:2<=j:=by lia
     case' neg=>
      rw[a2k hj0];obtain rfl:j=nb-1:=by lia
      replace D:=T
      replace x5:n+2+i < (l.push y).size:=by rw[Array.size_push];lia
      replace f:2<=nb-1:=by lia
      generalize l.push y=S at D x5 ⊢;generalize nb-1=j at D f4 f ⊢
     all_goals
      refine wpS_bind (bJ O ?_);have V:=D.push sa (by lia) P f4;by_cases U:t-1=0;rw[a1Z (a2l.mpr U)];exact wpS_pure ⟨H,.inr ⟨_,rfl,X V (.inl U)⟩⟩
      rw[a2k (by rw[a2l];exact U)];have x6:n+2+(i+1)<=(S.push x).size:=by rw[Array.size_push];lia
      refine tU ?_ ?_;exact wpS_pure ⟨H,.inl ⟨rfl,V,by dsimp only;lia,f,by dsimp only;lia⟩⟩;exact wpS_pure ⟨H,rfl,V,by dsimp only;lia,f,x6⟩
  ·rintro⟨o,na,nb,out,m,Z,bc⟩ J ⟨B,rfl,mg,g,f,p⟩;have:=mg.len;dsimp only at mg g f p this;lia
  rintro⟨o,na,nb,out,m,Z,bc⟩ J ⟨B,⟨rfl,mg,g,f,p⟩ | ⟨r,rfl,hr⟩⟩
  case inr=>exact wpS_pure ⟨B,r,rfl,hr⟩
  dsimp only at mg g f p ⊢;exact wpS_bind (lG λst3 H=>wpS_pure ⟨B.trans H,rfl,mg,g,f,p⟩)
 ·rintro⟨o,na,nb,out,m⟩ Y ⟨l1,rfl,mg,g,f,p⟩;have:=mg.len;dsimp only at mg g f p this;lia
 ·rintro⟨o,na,nb,out,m⟩ Y ⟨l1,r,rfl,hr⟩;exact wpS_pure (q _ _ l1 hr)
end
section
variable{M:Model}{A:Around}{E:Value->Shared->Prop}{s:Shared}{κ:SortKind}{G:Keyed->Prop}{c:Keyed->Keyed->Bool}
def bR9{σ:Type}{Q:PUnit->σ->Prop}{st st':σ}(h:Q ⟨⟩ st'):wpS M A E s (set st':StateT σ Sem PUnit) Q st:=by
 unfold wpS;rw[StateT.run_set];exact a1Y ⟨rfl,h⟩
theorem vW(o:Nat):∀ (m:List Keyed) (k:Nat) (a:Array Keyed),o+k+m.length<=a.size->((m.zipIdx k).foldl (λa (p:Keyed×Nat)=>a.setIfInBounds (o+p.2) p.1) a).toList=a.toList.take (o+k)++m++a.toList.drop (o+k+m.length)
 | [],k,a,h=>by simp
 | x::m,k,a,h=>by
   rw[List.zipIdx_cons,List.foldl_cons,vW o m (k+1) _ (by simp at h ⊢;lia)];simp only[Array.toList_setIfInBounds,List.length_cons];have b:o+k < a.toList.length:=by simp at h ⊢;lia
   rw[show o+(k+1)=o+k+1 by lia,List.take_succ_eq_append_getElem (by simpa using b),List.getElem_set_self,List.take_set_of_le (by lia),List.drop_set_of_lt (by lia)];simp[Nat.add_assoc,Nat.add_comm 1]
def _root_.List.drop_take_comm'{l:List Keyed}{j n:Nat}(h:j<=n):(l.take n).drop j=(l.drop j).take (n-j):=List.drop_take ..
def aO6(C:Cm M A s κ G c){i sa na pa nb pb sb:Nat}{st:SortSt}{Q:Bool->SortSt->Prop}(D:PyProof.Rows.kindOf st=κ)(U:∀ x∈(arrOf st).toList,G x)(N:failedOf st=none){p q:List Keyed}{X Y:List Keyed}
  (ha:(arrOf st).toList=p++(X++(Y++q))) (l:p.length=sa) (m:X.length=na) (e3:Y.length=nb) (e4:sb=sa+na) (hp:(pendingOf st)[i]? = some (sa,na,pa)) (O:(pendingOf st)[i+1]? = some (sb,nb,pb)) (h1:1<=na) (h2:1<=nb)
  (H:Srt c X) (I:Srt c Y) (hd:∀ x∈X,∀ y∈Y,c x y=true\/c y x=true)
  (k:∀ (st':SortSt) Z,PyProof.Rows.kindOf st'=κ->failedOf st'=none->pendingOf st'=((pendingOf st).setIfInBounds i (sa,na+nb,pa)).eraseIdxIfInBounds (i+1)->(arrOf st').toList=p++(Z++q)->Z.Perm (X++Y)->Srt c Z->Q true st') :
  wpS M A E s (mergeAt' i) Q st:=by
 have P:∀ x∈X,G x:=λx o=>U x (by rw[ha];simp[o]);have R:∀ x∈Y,G x:=λx o=>U x (by rw[ha];simp[o]);subst l m e3 e4;have V:((arrOf st).toList.drop p.length).take X.length=X:=by rw[ha];simp
 have W:((arrOf st).toList.drop (p.length+X.length)).take Y.length=Y:=by rw[ha,← List.append_assoc];simp[List.drop_append,List.take_append]
 refine wpS_bind (wpS_get ?_);rw[hp,O];dsimp only;refine wpS_bind (bR9 ?_);obtain⟨y,b,rfl⟩:∃ y b,Y=y::b:=by cases Y with | nil=>simp at h2 | cons y b=>exact⟨y,b,rfl⟩
 have yY:∀ z∈y::b,z=y\/c y z=true:=λz d=>(a9b.mp d).imp id λh=>(a1e.mp I).1 z h;refine wpS_bind (bJ (x:=y) ?_ ?_)
 ·have:(arrOf st).toList[p.length+X.length]? = some y:=by rw[ha,← List.append_assoc,← a9a];simp
  simpa using this
 refine wpS_bind (aE3 C D V rfl P (R y a3a) H (λx o=>hd x o y a3a) h1 λj j1 S j3=>?_);dsimp only;have J:=List.pairwise_append.mp (show Srt c (X.take j++X.drop j) by rw[List.take_append_drop];exact H);have w:∀ x,c x y=true->∀ z∈y::b,c x z=true:=λx h z d=>(yY z d).elim (λe=>e ▸ h) (C.tr h);have fin:∀ Z:List Keyed,Z=X++(y::b)->Srt c Z->Q true (SortSt.mk' (PyProof.Rows.kindOf st) (arrOf st) (((pendingOf st).setIfInBounds i (p.length,X.length+(y::b).length,pa)).eraseIdxIfInBounds (i+1)) (gallopOf st) (failedOf st)):=λZ e h=>k _ Z D N rfl (by rw[e,List.append_assoc];exact ha) (by rw[e]) h;by_cases b1:X.length-j=0;rw[a1Z (a2l.mpr b1)];refine wpS_pure (fin _ rfl (List.pairwise_append.mpr ⟨H,I,λx o z d=>w x (S x ?_) z d⟩));rw[a8c (by lia)];exact o
 rw[a2k (by rw[a2l];exact b1)];obtain⟨x,o⟩:∃ x,X[X.length-1]? = some x:=⟨X[X.length-1],a1a (by lia)⟩;have xX:∀ z∈X,z=x\/c z x=true:=λz d=>jW o H z (by rw[show X.length-1+1=X.length by lia,List.take_length];exact d);have mx:=a4c o;refine wpS_bind (bJ (x:=x) ?_ ?_)
 ·have:(arrOf st).toList[p.length+(X.length-1)]? = some x:=by rw[ha,a2b (by lia),Nat.add_sub_cancel_left,a6c (by lia)];exact o
  rw[show p.length+j+(X.length-j)-1=p.length+(X.length-1) by lia];simpa using this
 refine wpS_bind (aE3 C D W rfl R (P x mx) I (λz d=>(hd x mx z d).symm) (by simp) λn n1 n2 n3=>?_);dsimp only;by_cases T:n=0;rw[a1Z (a2l.mpr T)];subst T;exact wpS_pure (fin _ rfl (List.pairwise_append.mpr ⟨H,I,λz d u g=>(xX z d).elim (λe=>e ▸ n3 u g) λh=>C.tr h (n3 u g)⟩))
 rw[a2k (by rw[a2l];exact T)];have K:=List.pairwise_append.mp (show Srt c ((y::b).take n++(y::b).drop n) by rw[List.take_append_drop];exact I);have l:((arrOf st).extract (p.length+j) (p.length+X.length)).toList=X.drop j:=by
  rw[dD,show p.length+X.length-(p.length+j)=X.length-j by lia,← List.drop_drop,← List.drop_take_comm' j1,V]
 have m:((arrOf st).extract (p.length+X.length) (p.length+X.length+n)).toList=(y::b).take n:=by
  rw[dD,Nat.add_sub_cancel_left,← W,List.take_take,Nat.min_eq_left n1]
 have L:((arrOf st).extract (p.length+j) (p.length+X.length)).size=X.length-j:=by rw[← a0d,l,a0g]
 have z2:((arrOf st).extract (p.length+X.length) (p.length+X.length+n)).size=n:=by rw[← a0d,m,a4f];lia
 have q1:∀ z∈X.drop j,G z:=λz d=>P z (List.mem_of_mem_drop d);have q2:∀ z∈(y::b).take n,G z:=λz d=>R z (a2g d);have q3:∀ z∈X.drop j,∀ u∈(y::b).take n,c z u=true\/c u z=true:=λz d u g=>hd z (List.mem_of_mem_drop d) u (a2g g);have q4:∀ u∈((y::b).take n).take 1,∀ z∈X.drop j,c u z=true:=λu g z d=>by
  rw[List.take_take,show min 1 n=1 by lia]at g;cases a7b.mp g;exact j3 z d
 have q5:∀ z∈(X.drop j).drop (X.length-j-1),∀ u∈(y::b).take n,c u z=true:=λz d u g=>by
  rw[List.drop_drop,show j+(X.length-j-1)=X.length-1 by lia,jJ o,show X.length-1+1=X.length by lia,List.drop_length]at d;cases a7b.mp d;exact n2 u g
 by_cases b3:X.length-j<=n
 case' pos=>
  rw[a1Z b3];refine wpS_bind (aO4 C D (by rw[l];exact q1) (by rw[m];exact q2) (by rw[l];exact J.2.1) (by rw[m];exact K.1) (by rw[l,m];exact q3) (a0b (by lia) (Nat.le_of_eq L.symm)) (a0b (by lia) (Nat.le_of_eq z2.symm)) (by rw[l,m];exact q4) (by rw[L,l,m];exact q5) λr t B rs=>?_)
 case' neg=>
  rw[a2k b3];refine wpS_bind (aO5 C D (by rw[l];exact q1) (by rw[m];exact q2) (by rw[l];exact J.2.1) (by rw[m];exact K.1) (by rw[l,m];exact q3) (a0b (by lia) (Nat.le_of_eq L.symm)) (a0b (by lia) (Nat.le_of_eq z2.symm)) (by rw[l,m];exact q4) (by rw[L,l,m];exact q5) λr t B rs=>?_)
 all_goals
  rw[l,m]at rs;have rl:r.toList.length=X.length-j+n:=by rw[rs.1.length_eq,a9a,a0g,a4f];lia
  have mr:∀ u∈r.toList,u∈X.drop j\/u∈(y::b).take n:=λu g=>a1c.mp (rs.1.mem_iff.mp g);refine wpS_bind (wpS_modify (wpS_bind (wpS_get (wpS_pure ?_))));show Q (failedOf t).isNone _;rw[show(failedOf t).isNone=true by rw[B.f];show(failedOf st).isNone=true;rw[N];rfl];refine k _ (X.take j++r.toList++(y::b).drop n) (B.k.trans D) (B.f.trans N) B.p ?_ ?_ (List.pairwise_append.mpr ⟨List.pairwise_append.mpr ⟨J.1,rs.2,λu g v F=>?_⟩,K.2.1,λu g v F=>?_⟩)
  ·have:=vW (p.length+j) r.toList 0 (arrOf t) (by rw[B.a];show _<=(arrOf st).size;rw[← a0d,ha,rl];simp at n1 ⊢;lia);refine this.trans ?_;rw[B.a];show(arrOf st).toList.take _++_++(arrOf st).toList.drop _=_;rw[rl,Nat.add_zero,show p.length+j+(X.length-j+n)=p.length+X.length+n by lia,ha];have t1:(p++(X++(y::b++q))).take (p.length+j)=p++X.take j:=by
    rw[List.take_append,a8c (by lia),Nat.add_sub_cancel_left,List.take_append,show j-X.length=0 by lia];simp
   have t2:(p++(X++(y::b++q))).drop (p.length+X.length+n)=(y::b).drop n++q:=by
    rw[← List.append_assoc,← a9a,← List.drop_drop,List.drop_left,List.drop_append_of_le_length n1]
   rw[t1,t2];simp
  ·have:(X.take j++(X.drop j++(y::b).take n)++(y::b).drop n)=X++(y::b):=by
    rw[← List.append_assoc,List.take_append_drop,List.append_assoc,List.take_append_drop]
   exact((rs.1.append_left _).append_right _).trans (by rw[this])
  ·rcases mr v F with h | h;exact J.2.2 u g v h;exact w u (S u g) v (a2g h)
  ·rcases a1c.mp g with h | h;exact w u (S u h) v (List.mem_of_mem_drop F);rcases mr u h with h | h;exact(xX u (List.mem_of_mem_drop h)).elim (λe=>e ▸ n3 v F) λe=>C.tr e (n3 v F);exact K.2.2 u h v F
end
section
variable{M:Model}{A:Around}{E:Value->Shared->Prop}{s:Shared}{κ:SortKind}{G:Keyed->Prop}{c:Keyed->Keyed->Bool}
def Dst(c:Keyed->Keyed->Bool)(l:List Keyed):Prop:=l.Pairwise λx y=>c x y=true\/c y x=true
def Dst.perm{l a:List Keyed}(h:Dst c l)(p:l.Perm a):Dst c a:=p.pairwise h λh=>h.symm
def Dst.two{l:List Keyed}(h:Dst c l){i j:Nat}{x y:Keyed}(a:i < j)(b:l[i]? = some x)(d:l[j]? = some y):c x y=true\/c y x=true:=by
 obtain⟨e,rfl⟩:=a0a.mp b;obtain⟨f,rfl⟩:=a0a.mp d;exact List.pairwise_iff_getElem.mp h i j e f a
def lI{a:Array Keyed}{p R:List Keyed}(ha:a.toList=p++R)(i:Nat):a[p.length+i]? = R[i]?:=by
 rw[← a6b,ha,a2b (by lia),Nat.add_sub_cancel_left]
def rV{l:List Keyed}{i:Nat}(h:i < l.length):∃ x,l[i]? = some x/\x∈l:=⟨l[i],a1a h,List.getElem_mem h⟩
def tW{l:List Keyed}{n:Nat}{x:Keyed}(h:l[n]? = some x):l.take (n+1)=l.take n++[x]:=by
 obtain⟨a,rfl⟩:=a0a.mp h;exact List.take_succ_eq_append_getElem a
def aE4{r:Keyed->Keyed->Prop}(tr:∀ {x y z},r x y->r y z->r x z){l:List Keyed}{n:Nat}{x z:Keyed}(d:1<=n)(hs:(l.take n).Pairwise r)(b:l[n]? = some x)(hz:l[n-1]? = some z)(h:r z x):(l.take (n+1)).Pairwise r:=by
 rw[tW b];obtain⟨m,rfl⟩:∃ m,n=m+1:=⟨n-1,by lia⟩;rw[Nat.add_sub_cancel]at hz;refine List.pairwise_append.mpr ⟨hs,List.pairwise_singleton _ _,λy a u c=>?_⟩;cases a7b.mp c;rw[tW hz]at hs a;rcases a1c.mp a with e | e;exact tr ((List.pairwise_append.mp hs).2.2 y e z (a7b.mpr rfl)) h;cases a7b.mp e;exact h
def aE5{a:Array Keyed}{p R:List Keyed}{n:Nat}(ha:a.toList=p++R)(hn:n<=R.length):(mirror a p.length (p.length+n) ((p.length+n-p.length) / 2)).toList=p++((R.take n).reverse++R.drop n):=by
 have sz:a.size=p.length+R.length:=by rw[← a0d,ha,a9a]
 apply a7h;intro k;rw[a6b,getElem?_mirror_all (by lia)];rw[← a6b,← a6b,ha];have b:(R.take n).reverse.length=n:=by simp;lia
 by_cases c:k < p.length;rw[a2k (by lia),a6c c,a6c c];by_cases d:k < p.length+n;rw[a1Z (by lia)];refine(a2b (by lia)).trans (Eq.trans ?_ (a2b (by lia)).symm);rw[a6c (by lia),List.getElem?_reverse (by simp at b ⊢;lia),List.getElem?_take,a1Z (by simp;lia)];congr 1;simp;lia;rw[a2k (by lia)];refine(a2b (by lia)).trans (Eq.trans ?_ (a2b (by lia)).symm);rw[a2b (by lia),List.getElem?_drop,b];congr 1;lia
def aE6{a:Array Keyed}{p R:List Keyed}{k l:Nat}{x:Keyed}(ha:a.toList=p++R)(b:R[k]? = some x)(h:l<=k):(bubble a (p.length+k) (p.length+k-(p.length+l))).toList=p++(R.take l++(x::((R.drop l).take (k-l)++R.drop (k+1)))):=by
 have m:=(a0a.mp b).1;have sz:a.size=p.length+R.length:=by rw[← a0d,ha,a9a]
 apply a7h;intro i;rw[a6b,getElem?_bubble (by lia) _ (by lia),lI ha,b];rw[← a6b,← a6b,ha];have lt:(R.take l).length=l:=by simp;lia
 have d:((R.drop l).take (k-l)).length=k-l:=by simp;lia
 by_cases c:i < p.length;rw[a2k (by lia),a2k (by lia),a6c c,a6c c];obtain⟨j,rfl⟩:∃ j,i=p.length+j:=⟨i-p.length,by lia⟩;refine Eq.trans ?_ (a2b (by lia)).symm;rw[Nat.add_sub_cancel_left];by_cases e:j < l;rw[a2k (by lia),a2k (by lia)];refine(a2b (by lia)).trans (Eq.trans ?_ (a6c (by lia)).symm);rw[Nat.add_sub_cancel_left,List.getElem?_take,a1Z e];refine Eq.trans ?_ (a2b (by lia)).symm;rw[lt];by_cases f:j=l;subst f;rw[a1Z (by lia),Nat.sub_self];rfl;rw[a2k (by lia)];obtain⟨u,g⟩:∃ u,j-l=u+1:=⟨j-l-1,by lia⟩;rw[g,a5c];by_cases n:j<=k;rw[a1Z (by lia)];refine(a2b (by lia)).trans (Eq.trans ?_ (a6c (by lia)).symm);rw[List.getElem?_take,a1Z (by lia),List.getElem?_drop];congr 1;lia;rw[a2k (by lia)];refine(a2b (by lia)).trans (Eq.trans ?_ (a2b (by lia)).symm);rw[List.getElem?_drop,d];congr 1;lia
def bJ7(C:Cm M A s κ G c){p R:List Keyed}{st:SortSt}{a:Nat}{Q:Option (Option Nat)×Nat->SortSt->Prop}{f:Nat->Option (Option Nat)×Nat->StateT SortSt Sem (ForInStep (Option (Option Nat)×Nat))}(ha:(arrOf st).toList=p++R)(h:∀ x∈R,G x)(j:Dst c R)(u:1<=a)(v:a<=R.length)(hs:Srt c (R.take a))
  (k:∀ i n x z (Q:ForInStep (Option (Option Nat)×Nat)->SortSt->Prop),(arrOf st)[p.length+n]? = some x->(arrOf st)[p.length+n-1]? = some z->G x->G z->(c x z=true->Q (.done (none,n)) st)->(c x z=false->Q (.yield (none,n+1)) st)->wpS M A E s (f i (none,n)) Q st)
  (q:∀ n,a<=n->n<=R.length->Srt c (R.take n)->(n=R.length\/∃ x z,R[n]? = some x/\R[n-1]? = some z/\c x z=true)->Q (none,n) st):wpS M A E s (forIn [a:R.length] (none,a) f) Q st:=by
 refine wpS_forRange (λi (r:Option (Option Nat)×Nat) st'=>st=st'/\r=(none,i)/\Srt c (R.take i)) ?_ ?_ ⟨rfl,rfl,hs⟩;rintro i r st' l m ⟨rfl,rfl,b⟩;obtain⟨x,d,o⟩:=rV m;obtain⟨z,g,t⟩:=rV (show i-1 < R.length by lia);refine k i i x z _ (by rw[lI ha];exact d) (by rw[show p.length+i-1=p.length+(i-1) by lia,lI ha];exact g) (h x o) (h z t) (λe=>q i l (by lia) b (.inr ⟨x,z,d,g,e⟩)) λe=>⟨rfl,rfl,aE4 (r:=λx y=>c x y=true) C.tr (by lia) b d g ?_⟩;exact(j.two (show i-1 < i by lia) g d).resolve_right (by rw[e];decide);rintro r st' ⟨rfl,rfl,b⟩;exact q _ (by lia) (by lia) b (.inl (by lia))
def aE7(C:Cm M A s κ G c){p R:List Keyed}{st:SortSt}{Q:Option Nat->SortSt->Prop}(d:PyProof.Rows.kindOf st=κ)(ha:(arrOf st).toList=p++R)(f:∀ x∈R,G x)(u:Dst c R)(J:1<=R.length)
  (q:∀ n (st':SortSt) g,1<=n->n<=R.length->PyProof.Rows.kindOf st'=κ->pendingOf st'=pendingOf st->failedOf st'=failedOf st->(arrOf st').toList=p++g->g.Perm R->Srt c (g.take n)->Q (some n) st'):wpS M A E s (countRun' p.length R.length) Q st:=by
 refine wpS_bind (bJ7 C ha f u (a7a 1) J (by obtain⟨x,g,rfl⟩:∃ x g,R=x::g:=(by cases R with | nil=>simp at J | cons x g=>exact⟨x,g,rfl⟩);exact List.pairwise_singleton _ _) (λi n x z Q a b v w B D=>?_) λn K F j P=>?_)
 ·refine wpS_bind (mB C d a b v w ?_);dsimp only;cases e:c x z with
  | true=>exact wpS_pure (B e)
  | false=>exact wpS_pure (D e)
 dsimp only;by_cases H:n=R.length;rw[a1Z (a2l.mpr H)];exact wpS_pure (q n st R K F d rfl rfl ha (.refl _) j)
 rw[a2k (by rw[a2l];exact H)];by_cases L:n > 1
 ·rw[a1Z L];obtain⟨x,a,o⟩:=rV (show 0 < R.length by lia);obtain⟨z,b,t⟩:=rV (show n-1 < R.length by lia);refine wpS_bind (mB C d (x:=x) (y:=z) (by have:=lI ha 0;rw[Nat.add_zero]at this;rw[this];exact a) (by rw[show p.length+n-1=p.length+(n-1) by lia,lI ha];exact b) (f x o) (f z t) ?_);have:c x z=true:=by
   obtain⟨Z,S⟩:=a0a.mp a;obtain⟨g3,T⟩:=a0a.mp b;have:=List.pairwise_iff_getElem.mp j 0 (n-1) (by simp;lia) (by simp;lia) (by lia);simpa[S,T]using this
  rw[this];exact wpS_pure (q n st R K F d rfl rfl ha (.refl _) j)
 rw[a2k L];obtain rfl:n=1:=by lia
 refine wpS_bind (wpS_lift (a2y ⟨rfl,?_⟩));refine wpS_bind (wpS_mono (wpS_forRange (λi (r:Option (Option Nat)×Nat×Nat) st'=>st=st'/\r=(none,i,0)/\(R.take i).Pairwise (λx y=>c y x=true))
  (Q:=λr st'=>st=st'/\∃ n,r=(none,n,0)/\2<=n/\n<=R.length/\(R.take n).Pairwise (λx y=>c y x=true)) ?_ ?_ ⟨rfl,rfl,?_⟩) ?_)
 ·rintro i r st' F j ⟨rfl,rfl,k⟩;obtain⟨x,a,o⟩:=rV j;obtain⟨z,b,t⟩:=rV (show i-1 < R.length by lia);have N:(arrOf st)[p.length+i]? = some x:=by rw[lI ha];exact a
  have O:(arrOf st)[p.length+i-1]? = some z:=by rw[show p.length+i-1=p.length+(i-1) by lia,lI ha];exact b
  refine wpS_bind (mB C d N O (f x o) (f z t) ?_);dsimp only;cases e:c x z with
  | true=>
    exact wpS_pure ⟨rfl,rfl,aE4 (r:=λx y=>c y x=true) (λh h'=>C.tr h' h) (by lia) k a b e⟩
  | false=>
    rw[a2k (by decide)];have U:c z x=true:=(u.two (show i-1 < i by lia) b a).resolve_right (by rw[e];decide);refine wpS_bind (mB C d O N (f z t) (f x o) ?_);rw[U];exact wpS_pure ⟨rfl,i,rfl,by lia,by lia,k⟩
 ·rintro r st' ⟨rfl,rfl,k⟩;exact⟨rfl,_,rfl,by lia,by lia,k⟩
 ·obtain⟨x,z,a,b,e⟩:=P.resolve_left H;exact aE4 (r:=λx y=>c y x=true) (λh h'=>C.tr h' h) (a7a 1) (by rw[tW b];exact List.pairwise_singleton _ _) a b e
 rintro r st' ⟨rfl,n,rfl,k,I,V⟩;dsimp only;refine wpS_bind (wpS_modify ?_);have l:=aE5 ha I;have pm:((R.take n).reverse++R.drop n).Perm R:=by
  have:=(List.reverse_perm (R.take n)).append_right (R.drop n);rwa[List.take_append_drop]at this
 have lr:(R.take n).reverse.length=n:=by simp;lia
 have W:Srt c (((R.take n).reverse++R.drop n).take n):=by
  rw[List.take_append_of_le_length (by lia),a8c (by lia)];exact List.pairwise_reverse.mpr V
 rw[← pm.length_eq]at I ⊢;refine wpS_bind (bJ7 C l (λx a=>f x (pm.mem_iff.mp a)) (u.perm pm.symm) (by lia) I W (λi n x z Q a b v w B D=>?_) λm m1 X Y _=>?_)
 ·refine wpS_bind (mB C d a b v w ?_);dsimp only;cases e:c x z with
  | true=>exact wpS_pure (B e)
  | false=>exact wpS_pure (D e)
 ·exact wpS_pure (q m _ _ (by lia) (by rw[← pm.length_eq];exact X) d rfl rfl l pm Y)
def xB(C:Cm M A s κ G c){p R:List Keyed}{n ok:Nat}{st:SortSt}{Q:Bool->SortSt->Prop}(N:PyProof.Rows.kindOf st=κ)(ha:(arrOf st).toList=p++R)(O:∀ x∈R,G x)(P:Dst c R)(S:1<=ok)(h2:ok<=n)(hn:n<=R.length)(hs:Srt c (R.take ok))
  (q:∀ (st':SortSt) R',PyProof.Rows.kindOf st'=κ->pendingOf st'=pendingOf st->failedOf st'=failedOf st->(arrOf st').toList=p++R'->R'.Perm R->Srt c (R'.take n)->Q true st'):wpS M A E s (binarySort' p.length n ok) Q st:=by
 refine wpS_bind (wpS_mono (wpS_forRange (λk (r:Option Bool×Unit) st'=>r=(none,())/\PyProof.Rows.kindOf st'=κ/\pendingOf st'=pendingOf st/\failedOf st'=failedOf st/\∃ R',(arrOf st').toList=p++R'/\R'.Perm R/\Srt c (R'.take k))
  (Q:=λr st'=>r=(none,())/\PyProof.Rows.kindOf st'=κ/\pendingOf st'=pendingOf st/\failedOf st'=failedOf st/\∃ R',(arrOf st').toList=p++R'/\R'.Perm R/\Srt c (R'.take n)) ?_ ?_ ⟨rfl,N,rfl,rfl,R,ha,.refl _,by rw[Nat.max_eq_left S];exact hs⟩) ?_)
 ·rintro k r b h3 h4 ⟨rfl,m,F,H,a,f,pm,s1⟩;have lR:=pm.length_eq;obtain⟨x,t,T⟩:=rV (show k < a.length by lia);have J:∀ x∈a,G x:=λx t=>O x (pm.mem_iff.mp t);refine wpS_bind (wpS_mono (wpS_forRange (λi (r:Option Bool×Nat×Nat) st'=>b=st'/\r.1=none/\r.2.1<=r.2.2/\r.2.2<=k/\r.2.2+i<=k+r.2.1/\(∀ z∈a.take r.2.1,c z x=true)/\(∀ z∈(a.take k).drop r.2.2,c x z=true))
   (Q:=λr st'=>b=st'/\r.1=none/\r.2.1<=k/\(∀ z∈a.take r.2.1,c z x=true)/\(∀ z∈(a.take k).drop r.2.1,c x z=true)) ?_ ?_ ⟨rfl,rfl,a3d _,a7a _,by dsimp only;lia,λz g=>by simp at g,λz g=>by simp at g⟩) ?_)
  ·rintro i ⟨o,l,r⟩ I h5 h6 ⟨rfl,rfl,w,d,j,y,B⟩;dsimp only at w d j y B ⊢;by_cases K:l ≥ r
   ·rw[a1Z K];obtain rfl:l=r:=by lia
    exact wpS_pure ⟨rfl,rfl,d,y,B⟩
   rw[a2k K];obtain⟨z,g,U⟩:=rV (show(l+r) / 2 < a.length by lia);refine wpS_bind (mB C m (by rw[lI f];exact t) (by rw[lI f];exact g) (J x T) (J z U) ?_);dsimp only;have tk:(a.take k)[(l+r) / 2]? = some z:=by rw[List.getElem?_take,a1Z (by lia)];exact g
   cases e:c x z with
   | true=>exact wpS_pure ⟨rfl,rfl,by dsimp only;lia,by dsimp only;lia,by dsimp only;lia,y,λu D=>(lF tk s1 u D).elim (λh=>h ▸ e) (C.tr e)⟩
   | false=>
     have L:c z x=true:=((P.perm pm.symm).two (show(l+r) / 2 < k by lia) g t).resolve_right (by rw[e];decide);refine wpS_pure ⟨rfl,rfl,by dsimp only;lia,by dsimp only;lia,by dsimp only;lia,λu D=>?_,B⟩;have:=jW tk s1 u (by rw[List.take_take,Nat.min_eq_left (by lia)];exact D);exact this.elim (λh=>h ▸ L) λh=>C.tr h L
  ·rintro⟨o,l,r⟩ I ⟨rfl,rfl,w,d,j,y,B⟩;dsimp only at w d j y B;obtain rfl:l=r:=by lia
   exact⟨rfl,rfl,d,y,B⟩
  rintro⟨o,l,r⟩ I ⟨rfl,rfl,w,d,j⟩;dsimp only at w d j ⊢;refine wpS_bind (wpS_modify (wpS_pure ⟨rfl,m,F,H,_,aE6 f t w,?_,?_⟩))
  ·have e:a=a.take l++((a.drop l).take (k-l)++(x::a.drop (k+1))):=by
    rw[← jJ t]
    conv=>lhs;rw[← List.take_append_drop l a]
    congr 1
    conv=>lhs;rw[← List.take_append_drop (k-l) (a.drop l)]
    rw[List.drop_drop,show l+(k-l)=k by lia]
   refine List.Perm.trans ?_ pm
   conv=>rhs;rw[e]
   exact List.Perm.append_left _ List.perm_middle.symm
  ·have V:(a.take l).length=l:=by simp;lia
   have t2:((a.drop l).take (k-l)).length=k-l:=by simp;lia
   have W:(a.take l++(x::((a.drop l).take (k-l)++a.drop (k+1)))).take (k+1)=a.take l++(x::(a.drop l).take (k-l)):=by
    rw[List.take_append,a8c (l:=a.take l) (by lia),V,show k+1-l=(k-l)+1 by lia,List.take_succ_cons,List.take_append_of_le_length (by lia),a8c (l:=(a.drop l).take (k-l)) (by lia)]
   rw[W];have s2:Srt c (a.take l++(a.drop l).take (k-l)):=by
    have:a.take k=a.take l++(a.drop l).take (k-l):=by
     conv=>lhs;rw[show k=l+(k-l) by lia,List.take_add]
    rw[← this];exact s1
   rw[List.drop_take]at j;obtain⟨X,Y,Z⟩:=List.pairwise_append.mp s2;refine List.pairwise_append.mpr ⟨X,a1e.mpr ⟨j,Y⟩,λu D v hv=>?_⟩;rcases a9b.mp hv with rfl | h;exact d u D;exact Z u D v h
 ·rintro r b ⟨rfl,m,F,H,a,f,pm,s1⟩;rw[show max (max ok 1) n=n by lia]at s1;exact⟨rfl,m,F,H,a,f,pm,s1⟩
 rintro r b ⟨rfl,m,F,H,a,f,pm,s1⟩;exact wpS_pure (q b a m F H f pm s1)
end
def Tl(c:Keyed->Keyed->Bool):Nat->List (Nat×Nat×Nat)->List Keyed->Prop
 | _,[],l=>l=[]
 | s,t::r,l=>t.1=s/\1<=t.2.1/\∃ X Y,l=X++Y/\X.length=t.2.1/\Srt c X/\Tl c (s+t.2.1) r Y
section
variable{c:Keyed->Keyed->Bool}
theorem Tl.app:∀ {L b:List (Nat×Nat×Nat)} {s:Nat} {l:List Keyed},Tl c s (L++b) l↔∃ X Y,l=X++Y/\Tl c s L X/\Tl c (s+X.length) b Y
 | [],b,s,l=>⟨λh=>⟨[],l,rfl,rfl,by simpa using h⟩,λ⟨X,Y,e,f,h⟩=>by
   have f:X=[]:=f;subst f;subst e;simpa using h⟩
 | t::L,b,s,l=>by
   constructor;rintro⟨g,i,X,Y,rfl,a,j,k⟩;obtain⟨U,V,rfl,d,m⟩:=Tl.app.mp k;exact⟨X++U,V,by simp,⟨g,i,X,U,rfl,a,j,d⟩,by rw[List.length_append,← Nat.add_assoc,a];exact m⟩;rintro⟨X,Y,rfl,⟨g,i,U,V,rfl,a,j,k⟩,d⟩;refine⟨g,i,U,V++Y,by simp,a,j,Tl.app.mpr ⟨V,Y,rfl,k,?_⟩⟩;rw[a9a,← Nat.add_assoc,a]at d;exact d
theorem Tl.like:∀ {L a:List (Nat×Nat×Nat)} {s:Nat} {l:List Keyed},L.map (λt=>(t.1,t.2.1))=a.map (λt=>(t.1,t.2.1))->Tl c s L l->Tl c s a l
 | [],[],_,_,_,h=>h
 | [],_::_,_,_,e,_=>by simp at e
 | _::_,[],_,_,e,_=>by simp at e
 | t::L,u::a,s,l,e,⟨d,f,X,Y,g,i,j,k⟩=>by
   simp only[List.map_cons,List.cons.injEq,Prod.mk.injEq]at e;obtain⟨⟨m,b⟩,n⟩:=e;exact⟨m ▸ d,b ▸ f,X,Y,g,b ▸ i,j,b ▸ Tl.like n k⟩
theorem Tl.le:∀ {L:List (Nat×Nat×Nat)} {s:Nat} {l:List Keyed},Tl c s L l->L.length<=l.length
 | [],_,_,_=>a3d _
 | t::L,s,l,⟨d,e,X,Y,a,f,g,b⟩=>by
   have:=Tl.le b;subst a;simp;lia
end
section
variable{M:Model}{A:Around}{E:Value->Shared->Prop}{s:Shared}{κ:SortKind}{G:Keyed->Prop}{c:Keyed->Keyed->Bool}
structure Std(κ:SortKind)(c:Keyed->Keyed->Bool)(a₀:List Keyed)(st:SortSt)(D R:List Keyed):Prop where
 k:PyProof.Rows.kindOf st=κ
 f:failedOf st=none
 a:(arrOf st).toList=D++R
 p:(D++R).Perm a₀
 t:Tl c 0 (pendingOf st).toList D
def bJ8(C:Cm M A s κ G c){a₀:List Keyed}(J:∀ x∈a₀,G x)(K:Dst c a₀){st:SortSt}{D R:List Keyed}{i:Nat}{Q:Bool->SortSt->Prop}(h:Std κ c a₀ st D R)(hi:i+1 < (pendingOf st).size)
  (q:∀ st' l,Std κ c a₀ st' l R->(pendingOf st').size+1=(pendingOf st).size->l.length=D.length->Q true st'):wpS M A E s (mergeAt' i) Q st:=by
 obtain⟨L,b⟩:∃ L,(pendingOf st).toList=L:=⟨_,rfl⟩;have O:(pendingOf st).size=L.length:=by rw[← b];rfl
 obtain⟨t,m,-⟩:∃ t,L[i]? = some t/\True:=⟨L[i]'(by lia),a1a (by lia),trivial⟩;obtain⟨u,n,-⟩:∃ t,L[i+1]? = some t/\True:=⟨L[i+1]'(by lia),a1a (by lia),trivial⟩;have e:L=L.take i++(t::u::L.drop (i+1+1)):=by
  conv=>lhs;rw[← List.take_append_drop i L]
  congr 1;obtain⟨S,T⟩:=a0a.mp m;obtain⟨U,g4⟩:=a0a.mp n;rw[List.drop_eq_getElem_cons S,List.drop_eq_getElem_cons U,T,g4]
 have o:(L.take i).length=i:=by simp;lia
 generalize L.take i=r at e o;generalize L.drop (i+1+1)=L2 at e;have v:=h.t;rw[b,e]at v;obtain⟨P,V,eD,t1,t2⟩:=Tl.app.mp v;obtain⟨d,w,X,W,rfl,z,a4,B,F,Y,Z,rfl,H,b4,g⟩:=t2;subst eD;have pw:Dst c (P++(X++(Y++(Z++R)))):=K.perm (by have:=h.p.symm;simpa using this);obtain⟨sa,na,pa⟩:=t;obtain⟨sb,nb,pb⟩:=u;dsimp only at d w z B F H g;rw[a9e]at d g B;refine aO6 (sa:=sa) (na:=na) (nb:=nb) (sb:=sb) (pa:=pa) (pb:=pb) (p:=P) (q:=Z++R) (X:=X) (Y:=Y) C h.k (λx j=>J x (h.p.mem_iff.mp (h.a ▸ j))) h.f (by rw[h.a];simp) d.symm z H (by lia) (by rw[← Array.getElem?_toList,b];exact m) (by rw[← a6b,b];exact n) w F a4 b4 (λx j y hy=>?_) λst' N k1 k2 k3 k4 I k6=>?_;have:=(List.pairwise_append.mp (List.pairwise_append.mp pw).2.1).2.2 x j y (by simp[hy]);exact this;have lN:N.length=na+nb:=by rw[I.length_eq,a9a];lia
 have pl:(pendingOf st').toList=r++((sa,na+nb,pa)::L2):=by
  rw[k3];have:((pendingOf st).setIfInBounds i (sa,na+nb,pa)).eraseIdxIfInBounds (i+1)=((pendingOf st).setIfInBounds i (sa,na+nb,pa)).eraseIdx (i+1) (by simpa using hi):=by
   rw[Array.eraseIdxIfInBounds,dif_pos]
  rw[this,Array.toList_eraseIdx,Array.toList_setIfInBounds,b,e,← o];simp[List.set_append_right,List.eraseIdx_append_of_length_le]
 refine q st' (P++(N++Z)) ⟨k1,k2,by rw[k4];simp,?_,?_⟩ ?_ ?_;refine List.Perm.trans ?_ h.p;simp only[List.append_assoc];exact List.Perm.append_left _ (by have:=I.append_right (Z++R);simpa using this);rw[pl];exact Tl.app.mpr ⟨P,N++Z,rfl,t1,by lia,by dsimp only;lia,N,Z,rfl,lN,k6,by dsimp only;rw[a9e,← Nat.add_assoc];exact g⟩
 ·have:(pendingOf st').size=(r++((sa,na+nb,pa)::L2)).length:=by rw[← pl];rfl
  rw[this,O,e];simp;lia
 ·simp;lia
end
section
variable{M:Model}{A:Around}{E:Value->Shared->Prop}{s:Shared}{κ:SortKind}{G:Keyed->Prop}{c:Keyed->Keyed->Bool}
theorem _root_.List.map_modify_same{b c:Type}(g:b->c)(f:b->b)(h:∀ a,g (f a)=g a):∀ (l:List b) (i:Nat),(l.modify i f).map g=l.map g
 | [],_=>by simp
 | a::l,0=>by simp[h]
 | a::l,i+1=>by simp[List.map_modify_same g f h l i]
def zK{P:Prop}[Decidable P]{n:Nat}(h:¬ n<=1):(if P then n-2-1 else n-2)+1 < n:=by split<;>lia
def aE8(C:Cm M A s κ G c){st:SortSt}{Q:Unit->SortSt->Prop}(hk:PyProof.Rows.kindOf st=κ)(hp:pendingOf st=#[])(hf:failedOf st=none)(hg:∀ x∈(arrOf st).toList,G x)(hD:Dst c (arrOf st).toList)
  (q:∀ st',failedOf st'=none->(arrOf st').toList.Perm (arrOf st).toList->Srt c (arrOf st').toList->Q () st'):wpS M A E s sortRuns' Q st:=by
 obtain⟨N,hN⟩:∃ N,(arrOf st).size=N:=⟨_,rfl⟩;have lz:(arrOf st).toList.length=N:=hN;have sz:∀ {st' D R},Std κ c (arrOf st).toList st' D R->D.length+R.length=N:=λh=>by have:=h.p.length_eq;rw[a9a]at this;lia
 refine wpS_bind (wpS_get ?_);dsimp only;rw[hN];generalize (sortPriv% PySem.Builtin.minRun) N N 0=S;refine wpS_bind (wpS_mono (wpS_forRange (λi (r:Option Unit×Nat) st'=>r.1=none/\i<=r.2/\∃ D R,Std κ c (arrOf st).toList st' D R/\D.length=r.2)
  (Q:=λr st'=>r.1=none/\∃ D,Std κ c (arrOf st).toList st' D []) ?_ ?_ ⟨rfl,a7a _,[],(arrOf st).toList,⟨hk,hf,rfl,.refl _,by rw[hp];exact rfl⟩,rfl⟩) ?_)
 ·rintro i ⟨o,lo⟩ y-hi ⟨rfl,h1,D,R,v,T⟩;dsimp only at h1 T ⊢;have e1:=sz v;by_cases B:lo ≥ N;rw[a1Z B];have:R=[]:=a7c (by lia);subst this;exact wpS_pure ⟨rfl,D,v⟩
  rw[a2k B];subst T;have gR:∀ {F:List Keyed},F.Perm R->∀ x∈F,G x:=λh x hx=>hg x (v.p.mem_iff.mp (a1c.mpr (.inr (h.mem_iff.mp hx))));have dR:∀ {F:List Keyed},F.Perm R->Dst c F:=λh=>(List.pairwise_append.mp (hD.perm v.p.symm)).2.1.perm h.symm λh=>h.symm;rw[show N-D.length=R.length by lia];refine wpS_bind (aE7 C v.k v.a (gR (.refl _)) (dR (.refl _)) (by lia) λn g R2 n1 n2 U V W Z z k6=>?_);dsimp only;have nx:∀ (n:Nat) (d:SortSt) (j:List Keyed),1<=n->n<=R.length->PyProof.Rows.kindOf d=κ->pendingOf d=pendingOf y->failedOf d=failedOf y->(arrOf d).toList=D++j->j.Perm R->Srt c (j.take n)->Std κ c (arrOf st).toList d D j:=λn d j n1 n2 U V W Z z k6=>
   ⟨U,W.trans v.f,Z,(z.append_left D).trans v.p,by rw[V];exact v.t⟩
  by_cases b2:n < S
  case' pos=>
   rw[a1Z b2];refine wpS_bind (wpS_lift (a2y ⟨rfl,?_⟩));refine wpS_bind (xB C U Z (gR z) (dR z) n1 (by lia) (by rw[z.length_eq];lia) k6 λd j j1 j2 j3 j4 H I=>?_);rw[a2k (by decide)];have m1:1<=min R.length S:=by lia
   have m2:min R.length S<=R.length:=by lia
   generalize min R.length S=n at m1 m2 I ⊢;have J:=nx n d j m1 m2 j1 (j2.trans V) (j3.trans W) j4 (H.trans z) I
   replace H:=H.trans z
  case' neg=>
   rw[a2k b2];have J:=nx n g R2 n1 n2 U V W Z z k6;have m1:=n1;have m2:=n2;have I:=k6;have H:=z;generalize g=d at J ⊢;generalize R2=j at J H I
  all_goals
   refine wpS_bind (wpS_get ?_);have pu:∀ (b l:SortSt) (D4:List Keyed),Std κ c (arrOf st).toList b D4 j->D4.length=D.length->PyProof.Rows.kindOf l=PyProof.Rows.kindOf b->failedOf l=failedOf b->arrOf l=arrOf b->(pendingOf l).toList.map (λt=>(t.1,t.2.1))=(pendingOf b).toList.map (λt=>(t.1,t.2.1))++[(D.length,n)] ->
     (none:Option Unit)=none/\i+1<=D.length+n/\∃ D' F,Std κ c (arrOf st).toList l D' F/\D'.length=D.length+n:=λb l D4 w m K y2 y3 y4=>by
    have lt:(j.take n).length=n:=by rw[a4f,H.length_eq];lia
    have ee:D4++j.take n++j.drop n=D4++j:=by rw[List.append_assoc,List.take_append_drop]
    refine⟨rfl,by lia,D4++j.take n,j.drop n,⟨K.trans w.k,y2.trans w.f,by rw[y3,ee];exact w.a,by rw[ee];exact w.p,Tl.like (L:=(pendingOf b).toList++[(D.length,n,0)]) (by rw[y4,a5d];rfl) (Tl.app.mpr ⟨D4,j.take n,rfl,w.t,by dsimp only;lia,m1,j.take n,[],by simp,lt,I,rfl⟩)⟩,by rw[List.length_append];lia⟩
   cases e:(pendingOf d).back? with
   | none=>
     exact wpS_bind (wpS_modify (wpS_pure (pu d _ D J rfl rfl rfl rfl (by show((pendingOf d).push _).toList.map _=_;rw[a7g,a5d];rfl))))
   | some t=>
     obtain⟨s1,n1,w1⟩:=t;dsimp only;refine wpS_bind (wpS_mono (wpS_forRange (λi (r:Option Unit×Unit) st'=>r=(none,())/\∃ D4,Std κ c (arrOf st).toList st' D4 j/\D4.length=D.length)
      (Q:=λr st'=>r=(none,())/\∃ D4,Std κ c (arrOf st).toList st' D4 j/\D4.length=D.length) ?_ ?_ ⟨rfl,D,J,rfl⟩) ?_)
     ·rintro i r b-hi ⟨rfl,D4,w,m⟩;refine wpS_bind (wpS_get ?_);by_cases b3:(pendingOf b).size > 1;rw[a1Z b3,a8b (show(pendingOf b).size-2 < (pendingOf b).size by lia)];dsimp only;refine tU ?_ ?_;exact wpS_pure ⟨rfl,D4,w,m⟩;exact wpS_bind (bJ8 C hg hD w (show(pendingOf b).size-2+1 < (pendingOf b).size by lia) λl D5 K _ y3=>by rw[a2k (by decide)];exact wpS_pure ⟨rfl,D5,K,y3.trans m⟩);rw[a2k b3];exact wpS_pure ⟨rfl,D4,w,m⟩
     ·exact λr b h=>h
     ·rintro r b ⟨rfl,D4,w,m⟩;refine wpS_bind (wpS_modify (wpS_bind (wpS_modify (wpS_pure (pu b _ D4 w m rfl rfl rfl ?_)))));show(((pendingOf b).modify _ _).push _).toList.map _=_;rw[a7g,a5d,Array.toList_modify,List.map_modify_same (λt:Nat×Nat×Nat=>(t.1,t.2.1))];rfl;exact λt=>rfl
 ·rintro⟨o,lo⟩ y ⟨rfl,h1,D,R,v,T⟩;have e1:=sz v;dsimp only at h1 T;have:R=[]:=a7c (by lia);subst this;exact⟨rfl,D,v⟩
 ·rintro⟨o,lo⟩ y ⟨rfl,D,v⟩;dsimp only;refine wpS_bind (wpS_mono (wpS_forRange (λi (r:Option Unit×Unit) st'=>r=(none,())/\(pendingOf st').size+i<=N/\∃ D,Std κ c (arrOf st).toList st' D [])
   (Q:=λr st'=>r=(none,())/\(pendingOf st').size<=1/\∃ D,Std κ c (arrOf st).toList st' D []) ?_ ?_ ⟨rfl,by have h5:(pendingOf y).size<=D.length:=v.t.le;have h6:=sz v;rw[List.length_nil]at h6;lia,D,v⟩) ?_)
  ·rintro i r g-hi ⟨rfl,w,O,m⟩;refine wpS_bind (wpS_get ?_);by_cases B:(pendingOf g).size<=1;rw[a1Z B];exact wpS_pure ⟨rfl,B,O,m⟩
   rw[a2k B];refine wpS_bind (bJ8 C hg hD m (zK B) λl D5 K y2 y3=>by rw[a2k (by decide)];exact wpS_pure ⟨rfl,by lia,D5,K⟩)
  ·rintro r g ⟨rfl,w,O,m⟩;exact⟨rfl,by lia,O,m⟩
  ·rintro r g ⟨rfl,w,O,m⟩;refine wpS_pure (q g m.f (by rw[m.a];exact m.p) ?_);rw[m.a,a3f];have t:=m.t;have P:(pendingOf g).toList.length<=1:=w;cases e:(pendingOf g).toList with
   | nil=>rw[e]at t;have t:O=[]:=t;rw[t];exact .nil
   | cons u r=>
     rw[e]at t P;have:r=[]:=a7c (by simpa using P);subst this;obtain⟨_,_,X,Y,rfl,_,sX,hY⟩:=t;have hY:Y=[]:=hY;rw[hY,a3f];exact sX
end
end So
namespace Sx
open PySem PySem.SetTable
noncomputable def gS:Nat->Nat
 | 0=>0
 | n+1=>5*gS n+1
def zL(n:Nat):4*gS n+1=5 ^ n:=by
 induction n with
 | zero=>rfl
 | succ n a=>rw[a5g,← a];show 4*(5*gS n+1)+1=_;lia
def bJ9(a b:Nat):gS (a+b)=gS a*5 ^ b+gS b:=by
 have d:=zL (a+b);have c:=zL a;have e:=zL b;have f:(5:Nat) ^ (a+b)=5 ^ a*5 ^ b:=Nat.pow_add ..;have g:4*(gS a*5 ^ b)+5 ^ b=5 ^ a*5 ^ b:=by rw[← c,Nat.add_mul,Nat.one_mul,a3j]
 lia
def aJ7(n:Nat):5 ^ n % 4=1:=by
 have:=zL n;lia
def cE3(n:Nat)(h:n % 2=1):gS n % 2=1:=by
 have a:∀ m,gS m % 2=m % 2:=λm=>by
  induction m with
  | zero=>rfl
  | succ m b=>show(5*gS m+1) % 2=_;lia
 rw[a n,h]
def vX{a b k:Nat}(hb:b % 2=1)(h:2 ^ k ∣ a*b):2 ^ k ∣ a:=by
 have c:Nat.Coprime (2 ^ k) b:=by
  refine Nat.Coprime.pow_left k ?_;have:Nat.gcd 2 b=1:=by
   rw[Nat.gcd_rec,hb];rfl
  exact this
 exact Nat.Coprime.dvd_of_dvd_mul_right c h
theorem bK0:∀ (k n:Nat),2 ^ k ∣ gS n->2 ^ k ∣ n
 | 0,n,_=>by rw[Nat.pow_zero];exact Nat.one_dvd n
 | k+1,n,h=>by
   rcases Nat.mod_two_eq_zero_or_one n with e | e
   ·obtain⟨m,rfl⟩:∃ m,n=m+m:=⟨n / 2,by lia⟩;rw[bJ9]at h;have f:=aJ7 m;obtain⟨q,a⟩:∃ q,5 ^ m+1=2*q:=⟨(5 ^ m+1) / 2,by lia⟩;have b:q % 2=1:=by lia
    have c:gS m*5 ^ m+gS m=2*(gS m*q):=by
     have:gS m*5 ^ m+gS m=gS m*(5 ^ m+1):=by rw[Nat.mul_add,Nat.mul_one]
     rw[this,a,Nat.mul_left_comm]
    rw[c,a5g,a9h (2 ^ k) 2]at h;have d:2 ^ k ∣ gS m*q:=Nat.dvd_of_mul_dvd_mul_left (by decide) h;have g:=bK0 k m (vX b d);have i:m+m=2*m:=by lia
    rw[i,a5g,a9h (2 ^ k) 2];exact Nat.mul_dvd_mul_left 2 g
   ·exfalso;have o:=cE3 n e;have:2 ∣ gS n:=Nat.dvd_trans ⟨2 ^ k,by rw[a5g,a9h]⟩ h;lia
noncomputable def stp(k:Nat):Nat->Nat->Nat
 | 0,x=>x % 2 ^ k
 | n+1,x=>(5*stp k n x+1) % 2 ^ k
def aV6(k n x:Nat):stp k n x=(5 ^ n*x+gS n) % 2 ^ k:=by
 induction n with
 | zero=>simp[stp,gS]
 | succ n a=>
   show(5*stp k n x+1) % 2 ^ k=_;rw[a];have e:5 ^ (n+1)*x+gS (n+1)=5*(5 ^ n*x+gS n)+1:=by
    show _+(5*gS n+1)=_;rw[a5g,a9h (5 ^ n) 5,a3j,Nat.mul_add];lia
   rw[e,Nat.add_mod,Nat.mul_mod];simp[Nat.mul_mod,Nat.add_mod]
def aV7{k x a b:Nat}(ha:a < b)(hb:b < 2 ^ k)(h:stp k a x=stp k b x):False:=by
 rw[aV6,aV6]at h;obtain⟨d,rfl⟩:∃ d,b=a+d:=⟨b-a,by lia⟩;have hd:2 ^ k ∣ (5 ^ (a+d)*x+gS (a+d))-(5 ^ a*x+gS a):=by
  exact Nat.dvd_of_mod_eq_zero (Nat.sub_mod_eq_zero_of_mod_eq h.symm)
 have e:(5 ^ (a+d)*x+gS (a+d))-(5 ^ a*x+gS a)=gS d*((4*x+1)*5 ^ a):=by
  have c:=zL d;have g:5 ^ (a+d)*x=gS d*(4*x*5 ^ a)+5 ^ a*x:=by
   rw[Nat.pow_add,← c,a3j,Nat.add_mul,Nat.one_mul,Nat.mul_add];congr 1;rw[a9h (4*x),a9h 4 (gS d),a3j,Nat.mul_left_comm]
  have i:gS (a+d)=gS d*5 ^ a+gS a:=by rw[Nat.add_comm a d,bJ9]
  rw[g,i,Nat.add_mul,Nat.one_mul,Nat.mul_add];lia
 rw[e]at hd;have j:((4*x+1)*5 ^ a) % 2=1:=by
  have f:=aJ7 a;rw[Nat.mul_mod];have:5 ^ a % 2=1:=by lia
  have:(4*x+1) % 2=1:=by lia
  simp[*]
 have:=Nat.le_of_dvd (by lia) (bK0 k d (vX j hd));lia
theorem xC:∀ (N:Nat) (f:Nat->Nat),(∀ i,i < N->f i < N)->(∀ i j,i < j->j < N->f i≠f j)->∀ c,c < N->∃ i,i < N/\f i=c
 | 0,_,_,_,c,h=>absurd h (a4i c)
 | N+1,f,hb,hi,c,p=>by
   by_cases k:∃ i,i < N+1/\f i=c;exact k
   ·exfalso
    -- with c left out,and N in its place
    have a:∀ i,i < N+1->f i≠c:=λi h e=>k ⟨i,h,e⟩
    let g:Nat->Nat:=λi=>if f i=N then c else f i
    have l:∀ i,i < N+1->g i < N:=λi h=>by
     show(if f i=N then c else f i) < N;have n:=hb i h;have o:=a i h;split;lia;lia
    have m:∀ i j,i < j->j < N+1->g i≠g j:=λi j b hj=>by
     show(if f i=N then c else f i)≠if f j=N then c else f j
     have n:=hi i j b hj;have o:=a i (by lia);have q:=a j hj;split<;>split<;>lia
    obtain⟨i,d,e⟩:=xC N g (λi h=>l i (by lia)) (λi j b hj=>m i j b (by lia)) (g N) (l N (by lia));exact m i N d (by lia) e
def bS0{k x c:Nat}(b:c < 2 ^ k):∃ n,n < 2 ^ k/\stp k n x=c:=
 xC (2 ^ k) (λn=>stp k n x) (λi _=>by show stp k i x < _;rw[aV6];exact Nat.mod_lt _ (Nat.two_pow_pos k)) (λi j a hj e=>aV7 a hj e) c b
noncomputable def adv(mask:Nat)(p:Probe):Probe:=
 if p.more > 0 then{p with j:=p.j+1,more:=p.more-1}else
 {p with j:=(leap mask p.i p.perturb).1,more:=runEnd mask (leap mask p.i p.perturb).1-(leap mask p.i p.perturb).1,i:=(leap mask p.i p.perturb).1,perturb:=(leap mask p.i p.perturb).2}
noncomputable def wk0(mask:Nat)(h:Int):Probe:=⟨bits h % (mask+1),runEnd mask (bits h % (mask+1))-bits h % (mask+1),bits h % (mask+1),bits h,none⟩
noncomputable def wk(mask:Nat)(h:Int):Nat->Probe
 | 0=>wk0 mask h
 | n+1=>adv mask (wk mask h n)
noncomputable def lp(mask:Nat)(h:Int):Nat->Nat×Nat
 | 0=>(bits h % (mask+1),bits h)
 | l+1=>leap mask (lp mask h l).1 (lp mask h l).2
noncomputable def uO(mask i:Nat):Nat:=runEnd mask i-i
def bS1(mask i:Nat):uO mask i<=9:=by unfold uO runEnd;split<;>lia
noncomputable def tm(mask:Nat)(h:Int):Nat->Nat
 | 0=>0
 | l+1=>tm mask h l+uO mask (lp mask h l).1+1
def cM5(mask:Nat)(h:Int)(l:Nat):tm mask h l<=10*l:=by
 induction l with
 | zero=>exact a7a _
 | succ l a=>
   have:=bS1 mask (lp mask h l).1;show tm mask h l+uO mask (lp mask h l).1+1<=_;lia
theorem aV8{mask:Nat}{h:Int}{l:Nat}(e:wk mask h (tm mask h l)=⟨(lp mask h l).1,uO mask (lp mask h l).1,(lp mask h l).1,(lp mask h l).2,none⟩) :
  ∀ r,r<=uO mask (lp mask h l).1->wk mask h (tm mask h l+r)=⟨(lp mask h l).1+r,uO mask (lp mask h l).1-r,(lp mask h l).1,(lp mask h l).2,none⟩
 | 0,_=>e
 | r+1,b=>by
   have a:=aV8 e r (by lia);show adv mask (wk mask h (tm mask h l+r))=_;rw[a];unfold adv;rw[a1Z (by show uO mask (lp mask h l).1-r > 0;lia)];congr 1
theorem aE9(mask:Nat)(h:Int):∀ l,wk mask h (tm mask h l)=⟨(lp mask h l).1,uO mask (lp mask h l).1,(lp mask h l).1,(lp mask h l).2,none⟩
 | 0=>rfl
 | l+1=>by
   have a:=aV8 (aE9 mask h l) (uO mask (lp mask h l).1) (a7a _);show adv mask (wk mask h (tm mask h l+uO mask (lp mask h l).1))=_;rw[a];unfold adv;rw[a2k (by show ¬ uO mask (lp mask h l).1-uO mask (lp mask h l).1 > 0;lia)];rfl
theorem aV9(mask:Nat)(h:Int):∀ l,(lp mask h l).2=bits h / 32 ^ l
 | 0=>by show bits h=_;simp
 | l+1=>by
   show(lp mask h l).2 / 32=_;rw[aV9 mask h l,Nat.div_div_eq_div_mul,a5g]
def bS2(h:Int):bits h < 2 ^ 64:=by
 unfold bits;have a:=a1j h (b:=2 ^ 64) (by decide);have c:=a4h h (b:=2 ^ 64) (by decide);lia
def bS3(mask:Nat)(h:Int){l:Nat}(a:13<=l):(lp mask h l).2=0:=by
 rw[aV9];refine Nat.div_eq_of_lt (a0c (bS2 h) ?_);refine a0b (by decide:2 ^ 64<=32 ^ 13) (Nat.pow_le_pow_right (by decide) a)
def cE4(mask:Nat)(h:Int):∀ l,(lp mask h l).1 < mask+1
 | 0=>Nat.mod_lt _ (Nat.succ_pos _)
 | l+1=>Nat.mod_lt _ (Nat.succ_pos _)
theorem aW0{mask k:Nat}(a:mask+1=2 ^ k)(h:Int):∀ n,(lp mask h (13+n)).1=stp k n (lp mask h 13).1
 | 0=>by
   show _=_ % 2 ^ k;rw[Nat.mod_eq_of_lt (by rw[← a];exact cE4 mask h 13)]
 | n+1=>by
   have e:(lp mask h (13+(n+1))).1=((lp mask h (13+n)).1*5+1+(lp mask h (13+n)).2 / 32) % (mask+1):=rfl;rw[e,bS3 mask h (by lia),aW0 a h n,a];show _=(5*stp k n _+1) % 2 ^ k;rw[a9h 5]
def aW1{mask i:Nat}(hi:i<=mask)(r:Nat)(a:r<=uO mask i):i+r<=mask:=by
 unfold uO runEnd at a;split at a<;>lia
theorem bS4{mask:Nat}(h:Int):∀ n,(wk mask h n).dummy=none/\(wk mask h n).j+(wk mask h n).more<=mask
 | 0=>⟨rfl,by
   have a:bits h % (mask+1)<=mask:=Nat.le_of_lt_succ (Nat.mod_lt _ (Nat.succ_pos _));exact aW1 a _ (a7a _)⟩
 | n+1=>by
   obtain⟨a,b⟩:=bS4 (mask:=mask) h n;show(adv mask (wk mask h n)).dummy=none/\(adv mask (wk mask h n)).j+(adv mask (wk mask h n)).more<=mask;unfold adv;split;refine⟨a,?_⟩;show(wk mask h n).j+1+((wk mask h n).more-1)<=mask;lia;refine⟨a,?_⟩;exact aW1 (Nat.le_of_lt_succ (Nat.mod_lt _ (Nat.succ_pos _))) _ (a7a _)
def cE5{mask:Nat}(h:Int)(n:Nat):(wk mask h n).j<=mask:=by
 have:=(bS4 (mask:=mask) h n).2;lia
def Ris(xs:Array Nat):Prop:=∀ (i j:Nat) (a b:Nat),i < j->xs[i]? = some a->xs[j]? = some b->a < b
structure Cut(xs:Array Nat)(j r:Nat):Prop where
 le:r<=xs.size
 lo:∀ (i a:Nat),i < r->xs[i]? = some a->a < j
 hi:∀ (i a:Nat),r<=i->xs[i]? = some a->j<=a
theorem xD{xs:Array Nat}{j:Nat}(hs:Ris xs):∀ (b lo hi:Nat),hi-lo<=b->lo<=hi->hi<=xs.size->(∀ (i a:Nat),i < lo->xs[i]? = some a->a < j)->(∀ (i a:Nat),hi<=i->xs[i]? = some a->j<=a)->Cut xs j (below.go xs j b lo hi)
 | 0,lo,hi,hf,hl,c,d,f=>by
   have:lo=hi:=by lia
   subst this;exact⟨c,d,f⟩
 | b+1,lo,hi,hf,hl,c,d,f=>by
   unfold below.go;split
   ·rename_i k;have l:(lo+hi) / 2 < xs.size:=by lia
    have em:xs[(lo+hi) / 2]? = some xs[(lo+hi) / 2]:=a8b l;have m:xs.getD ((lo+hi) / 2) j=xs[(lo+hi) / 2]:=by rw[a9g,em];rfl
    dsimp only;rw[m];split;rename_i g;refine xD hs b _ hi (by lia) (by lia) c (λi a h e=>?_) f;by_cases z:i=(lo+hi) / 2;subst z;rw[em]at e;cases e;exact g;exact a4g (hs i _ a _ (by lia) e em) g;rename_i g;refine xD hs b lo _ (by lia) (by lia) (by lia) d (λi a h e=>?_);by_cases z:i=(lo+hi) / 2;subst z;rw[em]at e;cases e;lia;have:=hs _ i _ a (by lia) em e;lia
   ·have:lo=hi:=by lia
    subst this;exact⟨c,d,f⟩
def jK{xs:Array Nat}(hs:Ris xs)(j:Nat):Cut xs j (below xs j):=
 xD hs _ _ _ (by lia) (by lia) (a7a _) (λi a h _=>absurd h (a4i _)) λi a h e=>by
  have:=(a4e.mp e).1;lia
def fB{xs:Array Nat}(hs:Ris xs){i j:Nat}(h:xs[i]? = some j):below xs j=i:=by
 have c:=jK hs j;have b:below xs j<=i:=by
  refine a8i λz=>?_;have:=c.lo i j z h;lia
 have d:i<=below xs j:=by
  refine a8i λz=>?_;have hb:below xs j < xs.size:=a4g z (a4e.mp h).1;have a:xs[below xs j]? = some xs[below xs j]:=a8b hb;have:=hs _ i _ j z a h;have:=c.hi _ _ (a7a _) a;lia
 lia
def tX{t:SetTable}(hs:Ris t.place){i j:Nat}(h:t.place[i]? = some j):t.slot j=.live i:=by
 unfold slot;dsimp only;rw[fB hs h,h];simp
def aO7{t:SetTable}(hd:t.dummies=#[]){j:Nat}(h:∀ i:Nat,t.place[i]? ≠ some j):t.slot j=.empty:=by
 unfold slot;dsimp only;rw[a2k (by simpa using h _),if_neg (by rw[hd];simp[has])]
def Occ(t:SetTable)(j:Nat):Prop:=∃ i:Nat,t.place[i]? = some j
structure TOk(t:SetTable)(hs:List Int):Prop where
 pw:∃ k,t.mask+1=2 ^ k
 m7:7<=t.mask
 dm:t.dummies=#[]
 ri:Ris t.place
 lt:∀ (i j:Nat),t.place[i]? = some j->j<=t.mask
 len:t.place.size=hs.length
 fit:t.place.size<=t.mask
 rea:∀ (i:Nat) h,hs[i]? = some h->∃ m j,t.place[i]? = some j/\(wk t.mask h m).j=j/\∀ m',m' < m->Occ t (wk t.mask h m').j
section
variable{t:SetTable}{hs:List Int}
end
theorem aW2{t:SetTable}{hs:List Int}(T:TOk t hs){h:Int}{hashAt:Nat->Int}{M:Nat}(q:¬ Occ t (wk t.mask h M).j)(hb:∀ m,m < M->Occ t (wk t.mask h m).j) :
  ∀ (a n:Nat),n<=M->M-n < a ->
    (∃ m i,n<=m/\m < M/\t.place[i]? = some (wk t.mask h m).j/\hashAt i=h/\(∀ m' b,n<=m'->m' < m->t.place[b]? = some (wk t.mask h m').j->hashAt b≠h)/\probe.go t hashAt h a (wk t.mask h n)=some (.candidate (wk t.mask h m).j i (wk t.mask h (m+1)))) \/
    ((∀ m' b,n<=m'->m' < M->t.place[b]? = some (wk t.mask h m').j->hashAt b≠h)/\probe.go t hashAt h a (wk t.mask h n)=some (.empty (wk t.mask h M).j none))
 | 0,n,_,hf=>by lia
 | a+1,n,hn,hf=>by
   have g:=(bS4 (mask:=t.mask) h n).1;unfold probe.go;by_cases k:n=M;subst k;refine .inr ⟨λm' b l c=>by lia,?_⟩;have:t.slot (wk t.mask h n).j=.empty:=aO7 T.dm λi e=>q ⟨i,e⟩;rw[this];dsimp only;rw[g]
   ·obtain⟨i,o⟩:=hb n (by lia);have p:=tX T.ri o;rw[p];dsimp only;by_cases d:hashAt i=h;refine .inl ⟨n,i,a7a _,by lia,o,d,λm' b l c=>by lia,?_⟩;rw[a1Z (by simpa using d)];rfl
    ·rw[a2k (by simpa using d)];have f:∀ b,t.place[b]? = some (wk t.mask h n).j->b=i:=λb e=>by
      rw[← fB T.ri e,← fB T.ri o]
     rcases aW2 T q hb a (n+1) (by lia) (by lia)with⟨m,i2,a1,a2,r,s,u,v⟩ | ⟨a1,a2⟩;refine .inl ⟨m,i2,by lia,a2,r,s,λm' b l c e=>?_,v⟩;by_cases z:m'=n;subst z;rw[f b e];exact d;exact u m' b (by lia) c e;refine .inr ⟨λm' b l c e=>?_,a2⟩;by_cases z:m'=n;subst z;rw[f b e];exact d;exact a1 m' b (by lia) c e
def fZ{b:Type}(xs:Array b){p:Nat}(h:p<=xs.size)(x:b)(i:Nat):(insertAt xs p x)[i]? = if i < p then xs[i]? else if i=p then some x else xs[i-1]?:=by
 rw[← a6b,toList_insertAt];have e:(xs.toList.take p).length=p:=by rw[a4f,a0d];lia
 by_cases a:i < p;rw[a1Z a,a6c (by lia),List.getElem?_take_of_lt a,a6b];rw[a2k a,a2b (by lia),e];by_cases c:i=p;subst c;rw[a1Z rfl,Nat.sub_self];rfl;rw[a2k c];obtain⟨d,rfl⟩:∃ d,i=p+1+d:=⟨i-p-1,by lia⟩;have f:p+1+d-p=d+1:=by lia
 have g:p+1+d-1=p+d:=by lia
 rw[f,g,a5c,List.getElem?_drop,a6b]
def sJ{a:Type}(xs:Array a){p:Nat}(b:p<=xs.size)(x:a):(insertAt xs p x).size=xs.size+1:=by
 rw[← a0d,toList_insertAt,a9a,a3h,a4f,a0g,a0d];lia
noncomputable def aF0{α:Type}(l:List α)(p:Nat)(x:α):List α:=l.take p++x::l.drop p
def aJ8{a:Type}(l:List a){p:Nat}(b:p<=l.length)(x:a)(i:Nat):(aF0 l p x)[i]? = if i < p then l[i]? else if i=p then some x else l[i-1]?:=by
 have:=fZ l.toArray (p:=p) (by simpa using b) x i;rw[← a6b,toList_insertAt]at this;simpa[aF0]using this
def tY{a:Type}(l:List a){p:Nat}(b:p<=l.length)(x:a):(aF0 l p x).length=l.length+1:=by
 unfold aF0;rw[a9a,a3h,a4f,a0g];lia
section
variable{t:SetTable}{hs:List Int}{h:Int}{M:Nat}
def zM(t:SetTable)(j:Nat)(hd:t.dummies=#[]):t.put j=({t with place:=insertAt t.place (below t.place j) j},below t.place j):=by
 unfold put;dsimp only;rw[hd];rfl
def bS5{t t':SetTable}{j c:Nat}(a:below t.place j<=t.place.size)(e:t'.place=insertAt t.place (below t.place j) j):Occ t' c↔Occ t c\/c=j:=by
 constructor;rintro⟨i,hi⟩;rw[e,fZ _ a]at hi;split at hi;exact .inl ⟨i,hi⟩;split at hi;exact .inr (a5a hi).symm;exact .inl ⟨i-1,hi⟩;rintro(⟨i,hi⟩ | rfl);by_cases hb:i < below t.place j;exact⟨i,by rw[e,fZ _ a,a1Z hb];exact hi⟩;exact⟨i+1,by rw[e,fZ _ a,a2k (by lia),a2k (by lia)];exact hi⟩;exact⟨below t.place c,by rw[e,fZ _ a,a2k (by lia),a1Z rfl]⟩
theorem TOk.put(T:TOk t hs)(r:¬ Occ t (wk t.mask h M).j)(hb:∀ m,m < M->Occ t (wk t.mask h m).j)(s:t.place.size+1<=t.mask) :
  TOk (t.put (wk t.mask h M).j).1 (aF0 hs (below t.place (wk t.mask h M).j) h):=by
 have c:=jK T.ri (wk t.mask h M).j;rw[zM t _ T.dm];have l:=c.le;have n:below t.place (wk t.mask h M).j<=hs.length:=by rw[← T.len];exact l
 have g:∀ x,Occ {t with place:=insertAt t.place (below t.place (wk t.mask h M).j) (wk t.mask h M).j} x↔Occ t x\/x=(wk t.mask h M).j:=λx=>bS5 l rfl;refine⟨T.pw,T.m7,T.dm,?_,?_,?_,?_,?_⟩
 ·intro D u a b hi f d;have q:∀ i a,t.place[i]? = some a->a≠(wk t.mask h M).j:=λi a e z=>r ⟨i,by rw[e,z]⟩;dsimp only at f d;rw[fZ _ l]at f d;generalize (wk t.mask h M).j=j at *;split at f;split at d;exact T.ri _ _ _ _ hi f d;split at d;cases d;exact c.lo _ _ (by assumption) f;exact T.ri _ _ _ _ (by lia) f d;split at f;cases f;rw[a2k (by lia),a2k (by lia)]at d;have E:=c.hi _ _ (by lia:below t.place a<=u-1) d;have F:=q _ _ d;lia;rw[a2k (by lia),a2k (by lia)]at d;exact T.ri _ _ _ _ (by lia) f d
 ·intro i j e;rcases(g j).mp ⟨i,e⟩with⟨v,w⟩ | rfl;exact T.lt v j w;exact cE5 h M
 ·show(insertAt _ _ _).size=_;rw[sJ _ l,tY _ n,T.len]
 ·show(insertAt _ _ _).size<=_;rw[sJ _ l];exact s
 ·intro i h' e;rw[aJ8 _ n]at e;show ∃ m j,(insertAt t.place (below t.place (wk t.mask h M).j) (wk t.mask h M).j)[i]? = some j/\_;rw[fZ _ l];have o:∀ p,hs[p]? = some h'->∃ m j,t.place[p]? = some j/\(wk t.mask h' m).j=j/\∀ m',m' < m->Occ {t with place:=insertAt t.place (below t.place (wk t.mask h M).j) (wk t.mask h M).j} (wk t.mask h' m').j:=λp y=>by
   obtain⟨m,j,A,B,C⟩:=T.rea p h' y;exact⟨m,j,A,B,λm' k=>(g _).mpr (.inl (C m' k))⟩
  split at e;rw[a1Z (by assumption)];exact o i e;split at e;cases e;rw[a2k (by assumption),a1Z (by assumption)];exact⟨M,_,rfl,rfl,λm' k=>(g _).mpr (.inl (hb m' k))⟩;rw[a2k (by assumption),a2k (by assumption)];exact o (i-1) e
end
def aO8(ow:Array (Option Nat))(j:Nat):Prop:=∃ k,ow[j]? = some (some k)
structure LOk(mask:Nat)(ow:Array (Option Nat))(hs:List Int):Prop where
 sz:ow.size=mask+1
 bd:∀ (j k:Nat),ow[j]? = some (some k)->k < hs.length
 one:∀ (j j' k:Nat),ow[j]? = some (some k)->ow[j']? = some (some k)->j=j'
 rea:∀ (k:Nat) h,hs[k]? = some h->∃ m,ow[(wk mask h m).j]? = some (some k)/\∀ m',m' < m->aO8 ow (wk mask h m').j
def cM6{ow:Array (Option Nat)}{j:Nat}(hj:j < ow.size):(ow.getD j (some 0)).isNone=true↔¬ aO8 ow j:=by
 have e:ow[j]? = some ow[j]:=a8b hj;rw[a9g,e];show ow[j].isNone=true↔_;constructor;rintro h ⟨k,a⟩;rw[e]at a;rw[a5a a]at h;cases h;intro h;cases b:ow[j]with
 | none=>rfl
 | some k=>exact absurd ⟨k,by rw[e,b]⟩ h
theorem zN{mask:Nat}{ow:Array (Option Nat)}(hs:ow.size=mask+1)(h:Int){L:Nat}(n:¬ aO8 ow (lp mask h L).1) :
  ∀ (fuel l:Nat),l<=L->L < l+fuel->(∀ m,m < tm mask h l->aO8 ow (wk mask h m).j) ->
    ∃ M,layClean.free mask ow fuel (lp mask h l).1 (lp mask h l).2=some (wk mask h M).j/\¬ aO8 ow (wk mask h M).j/\∀ m,m < M->aO8 ow (wk mask h m).j
 | 0,l,p,q,_=>by lia
 | fuel+1,l,p,q,hb=>by
   have b:∀ r,r<=uO mask (lp mask h l).1->(lp mask h l).1+r < ow.size:=λr e=>by
    have:=aW1 (Nat.le_of_lt_succ (cE4 mask h l)) r e;lia
   have f:runEnd mask (lp mask h l).1+1-(lp mask h l).1=uO mask (lp mask h l).1+1:=by
    unfold uO runEnd;split<;>lia
   have g:∀ r,r<=uO mask (lp mask h l).1->(wk mask h (tm mask h l+r)).j=(lp mask h l).1+r:=λr e=>by rw[aV8 (aE9 mask h l) r e]
   unfold layClean.free;split
   ·rename_i k i;obtain⟨s,t,u⟩:=List.find?_range_eq_some.mp i;rw[a3i,f]at t;have c:k<=uO mask (lp mask h l).1:=by lia
    refine⟨tm mask h l+k,by rw[g k c],?_,λm o=>?_⟩;rw[g k c];exact(cM6 (b k c)).mp s;by_cases d:m < tm mask h l;exact hb m d;obtain⟨r,rfl⟩:∃ r,m=tm mask h l+r:=⟨m-tm mask h l,by lia⟩;rw[g r (by lia)];have:=u r (by lia);refine a7e λz=>?_;rw[(cM6 (b r (by lia))).mpr z]at this;cases this
   ·rename_i i;have a:∀ r,r<=uO mask (lp mask h l).1->aO8 ow ((lp mask h l).1+r):=λr e=>by
     have:=List.find?_eq_none.mp i r (by rw[a3i,f];lia);exact a7e λz=>this ((cM6 (b r e)).mpr z)
    have v:l≠L:=λz=>by
     subst z;exact n (by simpa using a 0 (a3d _))
    refine zN hs h n fuel (l+1) (by lia) (by lia) λm o=>?_;have w:m < tm mask h l+uO mask (lp mask h l).1+1:=o;by_cases d:m < tm mask h l;exact hb m d;obtain⟨r,rfl⟩:∃ r,m=tm mask h l+r:=⟨m-tm mask h l,by lia⟩;rw[g r (by lia)];exact a r (by lia)
section
variable{mask:Nat}{ow:Array (Option Nat)}{hs:List Int}
def LOk.free(T:LOk mask ow hs)(hn:hs.length<=mask):∃ c,c<=mask/\¬ aO8 ow c:=by
 refine a7e λl=>?_;have d:∀ c,c<=mask->aO8 ow c:=λc m=>a7e λz=>l ⟨c,m,z⟩
 let f:Nat->Nat:=λc=>(ow.getD c none).getD 0
 have j:∀ c,c<=mask->ow[c]? = some (some (f c)):=λc m=>by
  obtain⟨k,e⟩:=d c m;have:f c=k:=by
   show(ow.getD c none).getD 0=k;rw[a9g,e];rfl
  rw[this];exact e
 have n:∀ a b,a < b->b<=mask->f a≠f b:=λa b g hb e=>by
  have o:=j a (by lia);rw[e]at o;have:=T.one a b _ o (j b hb);lia
 obtain⟨i,hi,e⟩:=xC hs.length f (λi h=>T.bd _ _ (j i (by lia))) (λa b g hb=>n a b g (by lia)) (f hs.length) (T.bd _ _ (j hs.length hn));exact n i hs.length hi hn e
def LOk.lay{k:Nat}(s:mask+1=2 ^ k)(T:LOk mask ow hs)(hn:hs.length<=mask)(h:Int):∃ j,layClean.free mask ow (turns mask) (bits h % (mask+1)) (bits h)=some j/\LOk mask (ow.setIfInBounds j (some hs.length)) (hs++[h]):=by
 obtain⟨c,C,t⟩:=T.free hn;obtain⟨n,u,e⟩:=bS0 (k:=k) (x:=(lp mask h 13).1) (c:=c) (by lia);have v:¬ aO8 ow (lp mask h (13+n)).1:=by rw[aW0 s h n,e];exact t
 obtain⟨M,w,q,y⟩:=zN T.sz h v (turns mask) 0 (a3d _) (by show 13+n < 0+(mask+15);lia) (λm A=>absurd A (a4i _));refine⟨_,w,?_⟩;have hj:(wk mask h M).j < ow.size:=by rw[T.sz];exact Nat.lt_succ_of_le (cE5 h M)
 have g:∀ c,(ow.setIfInBounds (wk mask h M).j (some hs.length))[c]? = if(wk mask h M).j=c then some (some hs.length)else ow[c]?:=λc=>by
  rw[Array.getElem?_setIfInBounds];split
  ·first | rfl | rw[a1Z hj]
  ·rfl
 have i:∀ {c},aO8 ow c->aO8 (ow.setIfInBounds (wk mask h M).j (some hs.length)) c:=λ{c} ⟨b,a⟩=>by
  refine⟨b,?_⟩;rw[g,a2k (λz=>q ⟨b,by rw[z];exact a⟩)];exact a
 refine⟨by rw[Array.size_setIfInBounds];exact T.sz,λj b a=>?_,λj j' b l f=>?_,λb h' a=>?_⟩;rw[g]at a;rw[a9a];split at a;cases a;simp;have:=T.bd _ _ a;simp;lia
 ·rw[g]at l f;split at l;cases l;split at f;lia;have:=T.bd _ _ f;lia;split at f;cases f;have:=T.bd _ _ l;lia;exact T.one _ _ _ l f
 ·by_cases o:b < hs.length;rw[a6c o]at a;obtain⟨m,r,B⟩:=T.rea b h' a;refine⟨m,?_,λm' d=>i (B m' d)⟩;rw[g,a2k (λz=>q ⟨b,by rw[z];exact r⟩)];exact r;rw[a2b (by lia)]at a;have p:b=hs.length:=by
   have:=(a0a.mp a).1;simp at this;lia
  subst p;have:h'=h:=by simpa using a.symm
  subst this;exact⟨M,by rw[g,a1Z rfl],λm' d=>i (y m' d)⟩
end
theorem lJ{mask k:Nat}(b:mask+1=2 ^ k):∀ (dG:List Int) (hs:List Int) (ow:Array (Option Nat)),LOk mask ow hs->hs.length+dG.length<=mask+1 ->
  ∃ a,dG.foldl (λacc h=>do
    let (owner,k) ← acc
    let j ← layClean.free mask owner (turns mask) (bits h % (mask+1)) (bits h)
    pure (owner.setIfInBounds j (some k),k+1)) (some (ow,hs.length))=some (a,hs.length+dG.length)/\LOk mask a (hs++dG)
 | [],hs,ow,T,_=>⟨ow,by simp,by simpa using T⟩
 | h::dG,hs,ow,T,hl=>by
   rw[a3h]at hl;obtain⟨j,e,d⟩:=T.lay b (by lia) h;obtain⟨a,c,f⟩:=lJ b dG (hs++[h]) _ d (by rw[a9a,List.length_singleton];lia);refine⟨a,?_,by simpa using f⟩;rw[List.foldl_cons];rw[a9a,List.length_singleton]at c;have g:hs.length+(h::dG).length=hs.length+1+dG.length:=by rw[a3h];lia
   rw[g,← c];congr 1;show((layClean.free mask ow (turns mask) (bits h % (mask+1)) (bits h)).bind λj=>some (ow.setIfInBounds j (some hs.length),hs.length+1))=_;rw[e];rfl
def bS6(mask:Nat):LOk mask (Array.replicate (mask+1) none) []:=by
 refine⟨by simp,λj k e=>?_,λj j' k e=>?_,λk h e=>by simp at e⟩
 all_goals
  rw[Array.getElem?_replicate]at e;split at e<;>cases e
def aW3{mask k finger moves:Nat}{led plain:Bool}{hashes:Array Int}(H:mask+1=2 ^ k)(K:7<=mask)(hn:hashes.size<=mask) :
  ∃ t order,laid mask finger moves led plain hashes=some (t,order)/\TOk t (order.toList.filterMap (hashes[·]?))/\order.toList.Perm (List.range hashes.size)/\t.mask=mask/\t.place.size=hashes.size/\t.led=led/\t.plain=plain:=by
 obtain⟨ow,e,T⟩:=lJ H hashes.toList [] _ (bS6 mask) (by rw[a0d];simp;lia);rw[List.nil_append]at T;have L:layClean mask hashes=some ow:=by
  unfold layClean;rw[← Array.foldl_toList];have n:=e;rw[List.length_nil,a9e]at n;rw[n];rfl
 let g:Nat->Option (Nat×Nat):=λj=>(ow.getD j none).map (j,·)
 have A:∀ j p,g j=some p↔p.1=j/\ow[j]? = some (some p.2):=λj p=>by
  show(ow.getD j none).map (j,·)=some p↔_;rw[a9g];cases I:ow[j]? with
  | none=>simp
  | some o=>
    cases o with
    | none=>simp
    | some B=>
      obtain⟨a,b⟩:=p;simp;intro _;exact⟨λz=>z.symm,λz=>z.symm⟩
 let d:=(List.range (mask+1)).filterMap g
 have mem:∀ p,p∈d↔ow[p.1]? = some (some p.2):=λp=>by
  rw[List.mem_filterMap];constructor;rintro⟨j,_,h⟩;obtain⟨rfl,h'⟩:=(A j p).mp h;exact h';intro h;have:p.1 < mask+1:=by rw[← T.sz];exact(a4e.mp h).1
  exact⟨p.1,a3i.mpr this,(A _ _).mpr ⟨rfl,h⟩⟩
 have pw:d.Pairwise (λa b=>a.1 < b.1):=List.Pairwise.filterMap g (λa W h b hb X C=>by
  rw[((A _ _).mp hb).1,((A _ _).mp C).1];exact h) List.pairwise_lt_range
 have ri:∀ (i j:Nat) p q,i < j->d[i]? = some p->d[j]? = some q->p.1 < q.1:=λi j p q s M N=>by
  obtain⟨hi,rfl⟩:=a0a.mp M;obtain⟨hj,rfl⟩:=a0a.mp N;exact List.pairwise_iff_getElem.mp pw i j hi hj s
 have nd:(d.map (·.2)).Nodup:=by
  rw[a5f,List.pairwise_map];refine List.Pairwise.imp_of_mem (λ{a b} ha hb O e=>?_) pw;have u:=(mem a).mp ha;have w:=(mem b).mp hb;rw[← e]at w;have:=T.one _ _ _ u w;lia
 have x:hashes.toList.length=hashes.size:=a0d;have perm:(d.map (·.2)).Perm (List.range hashes.size):=(List.perm_ext_iff_of_nodup nd List.nodup_range).mpr λa=>by
  rw[a7f,a3i];constructor;rintro⟨p,v,rfl⟩;rw[← x];exact T.bd _ _ ((mem p).mp v);intro ha;obtain⟨m,u,_⟩:=T.rea a hashes.toList[a] (a1a (by lia));exact⟨((wk mask hashes.toList[a] m).j,a),(mem _).mpr u,rfl⟩
 have J:d.length=hashes.size:=by have:=perm.length_eq;simpa using this
 have y:(d.map (·.2)).filterMap (hashes[·]?)=d.map λp=>hashes.toList.getD p.2 0:=by
  have D:∀ l:List (Nat×Nat),(∀ p∈l,p.2 < hashes.toList.length)->(l.map (·.2)).filterMap (hashes[·]?)=l.map λp=>hashes.toList.getD p.2 0:=by
   intro l
   induction l with
   | nil=>intro _;rfl
   | cons p r P=>
     intro hb;have u:=hb p a3a;have f:hashes[p.2]? = some (hashes.toList.getD p.2 0):=by
      rw[← a6b,a1h,a1a u];rfl
     rw[a2e,a8g,f,a2e,P λq I=>hb q (a4a _ I)]
  exact D d λp v=>T.bd _ _ ((mem p).mp v)
 refine⟨⟨mask,(d.map (·.1)).toArray,#[],finger,led,moves,plain⟩,(d.map (·.2)).toArray,?_,?_,perm,rfl,by simpa using J,rfl,rfl⟩;unfold laid;rw[L];rfl;have pl:∀ (i j:Nat),(d.map (·.1)).toArray[i]? = some j↔∃ p,d[i]? = some p/\p.1=j:=λi j=>by
  rw[a4d,a2c];exact a9c
 have E:∀ c,Occ (⟨mask,(d.map (·.1)).toArray,#[],finger,led,moves,plain⟩:SetTable) c↔aO8 ow c:=λc=>by
  constructor;rintro⟨i,h⟩;obtain⟨p,f,rfl⟩:=(pl i c).mp h;exact⟨p.2,(mem p).mp (a4c f)⟩;rintro⟨B,h⟩;obtain⟨i,hi,f⟩:=a6f ((mem (c,B)).mpr h);exact⟨i,(pl i c).mpr ⟨(c,B),by rw[a1a hi,f],rfl⟩⟩
 refine⟨⟨k,H⟩,K,rfl,?_,?_,?_,?_,?_⟩;intro i j a b s Q R;obtain⟨p,f,rfl⟩:=(pl i a).mp Q;obtain⟨q,F,rfl⟩:=(pl j b).mp R;exact ri i j p q s f F;intro i j n;obtain⟨p,f,rfl⟩:=(pl i j).mp n;have u:=(mem p).mp (a4c f);have w:=(a4e.mp u).1;rw[T.sz]at w;exact Nat.le_of_lt_succ w;show(d.map (·.1)).toArray.size=((d.map (·.2)).toArray.toList.filterMap (hashes[·]?)).length;rw[show(d.map (·.2)).toArray.toList=d.map (·.2)from rfl,y];simp;show(d.map (·.1)).toArray.size<=mask;simp[J];lia;intro i h' n;rw[show(d.map (·.2)).toArray.toList=d.map (·.2)from rfl,y,a2c]at n;obtain⟨p,f,F⟩:=a9c.mp n;have v:=(mem p).mp (a4c f);have hb:=T.bd _ _ v;have S:hashes.toList[p.2]? = some h':=by
  rw[← F,a1h,a1a hb];rfl
 obtain⟨m,U,V⟩:=T.rea p.2 h' S;have:=T.one _ _ _ U v;exact⟨m,p.1,(pl i p.1).mpr ⟨p,f,rfl⟩,this,λm' G=>(E _).mpr (V m' G)⟩
end Sx
namespace Dv
open PySem L2 Mr
section
variable{Γ:Gm}{H H1:Hp}{σ σ1:Sg}{σV:St}{p:Addr}{o o':HO}
end
def aM{X:Cx}{E:Ex}{i:Nat}{x:Str}{e:Expr}{r:DE}{pos a:Pos}(b:X.N.Nodup)(hi:X.N[i]? = some x)(c:Loc X.env.scope x)(d:GE X e r)(hs:swapsWith e (some (.Name x a)) pos.line X.env=pure false:=by rfl)(f:X.fn x=true\/X.env.scope.names.lookup x=some .local:=by first | exact .inl rfl | exact .inr rfl | assumption) :
  GS E X (.Assign [.Name x a] e pos) (dW i r):=cC2 λΓ=>bG8 b hi c (d.to Γ) hs f
theorem rW{z:Str}{i:Int}{K:Res->Prop}:OK1 (ixD (.str z) (.int i)) K=(z.length<=sizeLine/\OK1 (atI z.cps.toList i) λc=>K (.val (.str ⟨#[c]⟩))):=by
 show OK1 (if _ then _ else none) K=_;rw[bA,yN]
theorem gG{z:Str}{K:Res->Prop}(h:z.length<=sizeLine):OK1 (aD9 [.str z]) K=K (.val (.int z.length)):=by
 show OK1 (if _ then _ else none) K=_;rw[bA];exact propext ⟨λh=>h.2,λk=>⟨h,k⟩⟩
@[irreducible] noncomputable def aO9(ow:List Nat)(g:DG)(t:DT)(e:DE)(items:List D)(a:Sg):=aD3 ow g t e items a
@[irreducible] noncomputable def cI6(g:DG)(b:DS)(items:List D)(σ:Sg):=bD7 g b items σ
@[irreducible] noncomputable def aJ9(c:DT)(b:DS)(σ:Sg):=mR c b bV8 σ
section
variable{σ:Sg}{QS:Out->Prop}{Q:Res->Sg->Prop}{ri:DI}{g:DG}{b:DS}{a:DE}{ra:DA}
theorem jL:RS (aT7 ri g b) σ QS=RI ri σ λitems l a=>OK1 (cI6 g b items (lendO l a)) λo=>QS (vM l a o):=by
 unfold cI6;exact cE0
theorem dO{c:DT}:RS (aI6 c b) σ QS=OK1 (aJ9 c b σ) QS:=by unfold aJ9;rfl
theorem fC{ow:List Nat}{t:DT}{e:DE}:RE (hZ ow ri g t e) σ Q=RI ri σ λitems l a=>items.length<=sizeLine/\OK1 (aO9 ow g t e items (bK ow (lendO l a))) λy=>Q (.own (.lst y.1)) (vK l a (kZ ow (lendO l a) y.2)):=by
 unfold aO9;exact bR5
def tZ{items:List D}(P:Nat->Sg->Prop)(h0:P 0 σ)(hs:∀ i d σ,items[i]? = some d->P i σ->OK1 (g d σ) λc=>RS b c λo=>∃ a,(o=.nx a\/o=.ct a)/\P (i+1) a){K:Out->Prop}(k:∀ σ',P items.length σ'->K (.nx σ')):OK1 (cI6 g b items σ) K:=by
 unfold cI6;exact bR4 P h0 hs k
def aP0{c:DT}(P:Nat->Sg->Prop)(m:Nat)(e:m < 1000000)(h0:P m σ)(hs:∀ m σ,P m σ->RT c σ λt d=>if t=true then RS b d λo=>(∃ a m',(o=.nx a\/o=.ct a)/\m' < m/\P m' a)\/(∃ x a,o=.rt x a/\QS (.rt x a))\/(∃ a,o=.bk a/\QS (.nx a))else QS (.nx d)):OK1 (aJ9 c b σ) QS:=by
 unfold aJ9;exact aV0 P m e h0 hs
def jM{ow:List Nat}{t:DT}{e:DE}{K:List D×Sg->Prop}(items:List D)(a:Sg)(P:Nat->List D->Sg->Prop)(h0:P 0 [] a)
  (hs:∀ i d acc a,items[i]? = some d->P i acc a->OK1 (g d a) λf=>RT t f λb c=>if b=true then RE e c λr h=>∃ v,r=.val v/\P (i+1) (acc++[v]) (bK ow h)else P (i+1) acc (bK ow c))
  (k:∀ acc a,P items.length acc a->K (acc,a)):OK1 (aO9 ow g t e items a) K:=by
 unfold aO9;exact tL items a P h0 hs k
end
end Dv
namespace PySem
structure Fill(prog:Program)(w:World)(A:Around)(S I:Addr)(n:Nat)(P:Nat->Value->Prop)(J:Nat->Heap->Prop):Prop where
 put:∀ i v (s:Shared) (Q:Bool->Shared->Prop) (E:Value->Shared->Prop),i < n->P i v->J i s.heap ->
  (∀ b h' tk,J (i+1) h'->(∀ c o,c≠S->s.heap.get? c=some o->h'.get? c=some o)->Q b {s with heap:=h',toks:=tk})->wpAny (model prog w) A (setAdd S v) Q E s
 stay:∀ i h h',J i h->(∀ c o,c≠I->h.get? c=some o->h'.get? c=some o)->J i h'
section
variable{prog:Program}{w:World}{A:Around}{E:Value->Shared->Prop}{R:Result->Shared->Prop}{S I:Addr}{fp:List Addr}{n:Nat}{P:Nat->Value->Prop}{St J:Nat->Heap->Prop}
theorem zO(W:Walks prog w A.in1 I fp [I] n P St)(F:Fill prog w A.in1 S I n P J)(l:S∉fp) :
  ∀ (k i:Nat) (s:Shared),i+k=n->St i s.heap->J i s.heap ->
    (∀ h' tk,J n h'->(∀ c o,c≠S->c≠I->s.heap.get? c=some o->h'.get? c=some o)->R (.ok (.ret .none)) {s with heap:=h',toks:=tk}) ->
    codeAny (model prog w) A (.builtin "set.update.loop" ⟨[.ref S,.ref I],[]⟩) R s
 | 0,i,s,m,st,j,q=>by
   have hi:i=n:=m;subst hi;refine a2w PyProof.Rows.F.entry_set_update_loop ?_;rw[a1g a6g _]
   (show wpAny _ A.in1 (pyNext (.ref I) >>= _) _ _ s;refine a1X (W.done s _ _ st λh' tk d=>?_))
   have p:∀ c o,c≠I->s.heap.get? c=some o->h'.get? c=some o:=λc o a e=>d c o (by simpa using a) e;exact a1Y (q h' tk (F.stay _ _ _ j p) λc o _ a e=>p c o a e)
 | k+1,i,s,m,st,j,q=>by
   have hi:i < n:=by lia
   refine a2w PyProof.Rows.F.entry_set_update_loop ?_;rw[a1g a6g _]
   (show wpAny _ A.in1 (pyNext (.ref I) >>= _) _ _ s;refine a1X (W.item i s _ _ hi st λv y B C f g=>?_))
   have r:∀ c o,c≠I->s.heap.get? c=some o->y.get? c=some o:=λc o a e=>g c o (by simpa using a) e
   (show wpAny _ A.in1 (holding [v] (setAdd S v) >>= _) _ _ _;refine a1X (a2m ?_))
   refine F.put i v _ _ _ hi C (F.stay _ _ _ j r) λb D E G t=>?_;refine a1Y ⟨a2H a6g _,?_⟩;have h:St (i+1) D:=W.frame _ _ _ f λc a o e=>t c o (λz=>l (z ▸ a)) e;exact zO W F l k (i+1) _ (by lia) h G λh' tk jn H=>q h' tk jn λc o u x e=>H c o u x (t c o u (r c o x e))
def bS7{T b a:String}{args:List Value}{Q Q₁:Value->Shared->Prop}{s:Shared}(k:TypeCalled T b a)(l:checkTypeCall T ⟨args,[]⟩=pure ())
  (g:codeAny (model prog w) A.in1 (.call (.builtin b) ⟨.type T::args,[]⟩) (wants Q₁ E) s)
  (h:∀ obj d,Q₁ obj d->d.TypeIs obj T/\codeAny (model prog w) A.in1 (.call (.builtin a) ⟨obj::args,[]⟩) (wants (λr i=>r=.none/\Q obj i) E) d) :
  wpAny (model prog w) A (call (.type T) args) Q E s:=by
 obtain⟨n1,n2,⟨c,n,n3⟩,o,p,q,j⟩:=k;have t:=j.lookup;refine wpAny_call (codeAny_of_tree (a1Y ⟨Code.quiet_builtin _ (by decide +kernel),a2w F.entry_type_call ?_⟩));rw[Around.under_plain (weight_type_call_type T args []) rfl]
 repeat (any_goals (first | assumption | wp_step))
 refine a2I g λr s1 f=>?_
 match r,f with
 | .error e,f=>exact f
 | .ok (.ret obj),f=>
   obtain⟨u,hi⟩:=h obj s1 f;have hb:=j.bind obj
   repeat (any_goals (first | assumption | wp_step))
   refine a2I hi λr s2 f=>?_
   match r,f with
   | .error e,f=>exact f
   | .ok (.ret x),⟨m,v⟩=>
     subst m
     repeat (any_goals (first | assumption | wp_step))
end
noncomputable abbrev aP1(es:Array (Int×Value))(ep:Nat)(t:SetTable):Obj:={cls:=.type "set",dict:=none,data:=.set es ep t}
noncomputable def eH(w:World):Bool:=!w.params.followText "set-order"
section
variable{prog:Program}{w:World}{A:Around}{E:Value->Shared->Prop}{s:Shared}
def bS8(a:Value){Q:Value->Shared->Prop}(h:Q (.ref s.heap.objs.size) {s with heap:=s.heap.push (aP1 #[] 0 (.fresh 0 0 (eH w)))}) :
  codeAny (model prog w) A (.call (.builtin "set.__new__") ⟨[.type "set",a],[]⟩) (wants Q E) s:=by
 refine codeAny_call_builtin F.plain_set_new F.entry_set_new (wpAny_of_eq (F.newCall_set_1 a) ?_);have b:=sub_set_self;unfold Builtin.«set.__new__» Builtin.Frozenset.newClass;obtain⟨c,g,d,tk,os⟩:=s
 wp_walk
 refine a2B (a1Y ?_);simp only[newObj];exact a1X (wpAny_alloc (a1Y (a1Y h)))
end
section
variable{prog:Program}{w:World}{A:Around}{E:Value->Shared->Prop}{n:Nat}{P:Nat->Value->Prop}{St J:Nat->Heap->Prop}
structure Src(prog:Program)(w:World)(A:Around)(h₀:Heap)(l:Addr)(n:Nat)(P:Nat->Value->Prop) where
 T:String
 St:Addr->Nat->Heap->Prop
 ob:Obj
 ty:∃ o,h₀.get? l=some o/\o.cls=.type T
 n1:isSubtype (.type T) (.type "set")=pure false
 n2:isSubtype (.type T) (.type "frozenset")=pure false
 n3:(Value.type T==Value.type "dict")=false
 iter:∀ (A:Around) (s:Shared) (Q:Value->Shared->Prop) (E:Value->Shared->Prop),(∀ b o,h₀.get? b=some o->s.heap.get? b=some o)->Q (.ref s.heap.objs.size) {s with heap:=s.heap.push ob}->wpAny (model prog w) A (pyIter (.ref l)) Q E s
 free:ob.isFreed=false
 walk:∀ (A':Around),A'.handled=A.handled->∀ I,l≠I->Walks prog w A' I [I,l] [I] n P (St I)
 gO:∀ h:Heap,(∀ b o,h₀.get? b=some o->h.get? b=some o)->St h.objs.size 0 (h.push ob)
def bE6{s:Shared}{l:Addr}{Q:Value->Shared->Prop}(c:Src prog w A s.heap l n P)
  (L:∀ A':Around,A'.handled=A.handled->A'.units<=A.units+8->Fill prog w A' s.heap.objs.size (s.heap.objs.size+1) n P J)
  (y:∀ (h':Heap),h'.get? s.heap.objs.size=some (aP1 #[] 0 (.fresh 0 0 (eH w)))->(∀ b o,s.heap.get? b=some o->h'.get? b=some o)->J 0 h')
  (q:∀ h' tk,J n h'->(∀ b o,s.heap.get? b=some o->h'.get? b=some o)->Q (.ref s.heap.objs.size) {s with heap:=h',toks:=tk}) :
  wpAny (model prog w) A (call (.type "set") [.ref l]) Q E s:=by
 obtain⟨T,St,ob,⟨⟨t,k,m,j⟩,f,g⟩,n1,n2,n3,iter,free,walk,gO⟩:=c;simp only at g;subst g;have h:l < s.heap.objs.size:=a5b f;refine bS7 (Q₁:=λobj s₁=>obj=.ref s.heap.objs.size/\s₁={s with heap:=s.heap.push (aP1 #[] 0 (.fresh 0 0 (eH w)))}) F.called_set (F.typeCall_set_1 _) (bS8 _ ⟨rfl,rfl⟩) λobj s₁ Z0=>?_;obtain⟨B,C⟩:=Z0;subst B C;have u:(s.heap.push (aP1 #[] 0 (.fresh 0 0 (eH w)))).get? s.heap.objs.size=some (aP1 #[] 0 (.fresh 0 0 (eH w))):=a3b _ rfl;have a:∀ b o,s.heap.get? b=some o->(s.heap.push (aP1 #[] 0 (.fresh 0 0 (eH w)))).get? b=some o:=λb o e=>a6a _ e;have v:Shared.TypeIs {s with heap:=s.heap.push (aP1 #[] 0 (.fresh 0 0 (eH w)))} (.ref s.heap.objs.size) "set":=⟨_,u,rfl⟩;have D:Shared.TypeIs {s with heap:=s.heap.push (aP1 #[] 0 (.fresh 0 0 (eH w)))} (.ref l) T:=⟨_,a l _ f,rfl⟩;refine⟨v,codeAny_call_builtin F.called_set.init.plain F.entry_set_init (check_set_init_1 v ?_)⟩;have G:=a l _ f;unfold Builtin.«set.__init__» noKeywords Builtin.Frozenset.updateFrom;generalize p:pyIter=PI
 wp_walk
 subst p;refine iter _ _ _ _ a ?_;refine a1X (wpAny_runValue ?_);have x:(s.heap.push (aP1 #[] 0 (.fresh 0 0 (eH w)))).objs.size=s.heap.objs.size+1:=a7i ..;have ne:l≠s.heap.objs.size+1:=λz=>absurd h (by rw[z];exact a2j.mpr (Nat.le_succ _));have i:=gO _ a;rw[x]at i;have r:((s.heap.push (aP1 #[] 0 (.fresh 0 0 (eH w)))).push ob).get? s.heap.objs.size=some (aP1 #[] 0 (.fresh 0 0 (eH w))):=a6a _ u;have d:∀ b o,s.heap.get? b=some o->((s.heap.push (aP1 #[] 0 (.fresh 0 0 (eH w)))).push ob).get? b=some o:=λb o e=>a6a _ (a b o e);show codeAny (model prog w) A.in1.in1 (.builtin "set.update.loop" ⟨[.ref s.heap.objs.size,.ref (s.heap.push (aP1 #[] 0 (.fresh 0 0 (eH w)))).objs.size],[]⟩) _ _;rw[x];refine zO (walk A.in1.in1.in1 rfl (s.heap.objs.size+1) ne) (L A.in1.in1.in1 rfl (by show A.units+1+1+1<=A.units+8;lia)) ?_ n 0 _ (a9e n) i (y _ r d) λh' tk jn H=>?_;simp only[List.mem_cons,List.not_mem_nil,or_false,not_or];exact⟨a2d (a2h _),Nat.ne_of_gt h⟩;refine a1Y (a1Y ⟨rfl,q h' tk jn λb o e=>?_⟩);have hb:=a5b e;exact H b o (a2d hb) (a2d (Nat.lt_succ_of_lt hb)) (d b o e)
noncomputable def Src.list{s:Shared}(d:A.handled=none){l:Addr}{items:Array Value}(a:s.heap.IsList l items):Src prog w A s.heap l items.size (λi v=>items[i]? = some v) where
 T:="list"
 St:=λI i h=>h.IsListIter I l i/\h.IsList l items
 ob:={cls:=.type "list_iterator",data:=.fields #[.ref l,.int 0 0]}
 ty:=by obtain⟨o,f,g,_⟩:=a;exact⟨o,f,g⟩
 n1:=F.sub_list_set
 n2:=F.sub_list_frozenset
 n3:=by decide
 iter:=λA' s' Q E b j=>wpAny_pyIter_list (a.at λo e=>b l o e) j
 free:=rfl
 walk:=λA' ha I c=>Walks.list (ha.trans d) I l c items
 gO:=λh b=>⟨⟨_,a3b _ rfl,rfl,rfl⟩,(a.at λo e=>b l o e).push _⟩
def aF1:isSubtype (.type "tuple") (.type "set")=pure false:=by rw[isSubtype_type];kernel_rfl
def uZ:isSubtype (.type "tuple") (.type "frozenset")=pure false:=by rw[isSubtype_type];kernel_rfl
noncomputable def Src.tup{s:Shared}(d:A.handled=none){l:Addr}{items:Array Value}(a:s.heap.IsTuple l items):Src prog w A s.heap l items.size (λi v=>items[i]? = some v) where
 T:="tuple"
 St:=λI i h=>h.IsTupleIter I l i/\h.IsTuple l items
 ob:={cls:=.type "tuple_iterator",data:=.fields #[.ref l,.int 0 0]}
 ty:=by obtain⟨o,f,g,_⟩:=a;exact⟨o,f,g⟩
 n1:=aF1
 n2:=uZ
 n3:=by decide
 iter:=λA' s' Q E b j=>wpAny_pyIter_tuple (a.at λo e=>b l o e) j
 free:=rfl
 walk:=λA' ha I c=>Walks.tuple (ha.trans d) I l c items
 gO:=λh b=>⟨⟨_,a3b _ rfl,rfl,rfl⟩,(a.at λo e=>a6a _ (b l o e))⟩
end
end PySem
namespace Sx
open PySem PySem.SetTable
section
variable{t:SetTable}{hs:List Int}
def TOk.stop2(T:TOk t hs)(h:Int):∃ M,M<=10*(13+t.place.size)/\¬ Occ t (wk t.mask h M).j/\∀ m,m < M->Occ t (wk t.mask h m).j:=by
 obtain⟨k,u⟩:=T.pw;have y:=T.fit;have ex:∃ n,n<=t.place.size/\¬ Occ t (wk t.mask h (tm t.mask h (13+n))).j:=by
  refine a7e λhn=>?_;have l:∀ n,n<=t.place.size->Occ t (stp k n (lp t.mask h 13).1):=λn d=>a7e λz=>hn ⟨n,d,by
   rw[aE9,aW0 u h n];exact z⟩
  let f:Nat->Nat:=λn=>below t.place (stp k n (lp t.mask h 13).1)
  have o:∀ n,n<=t.place.size->f n < t.place.size/\t.place[f n]? = some (stp k n (lp t.mask h 13).1):=λn d=>by
   obtain⟨i,e⟩:=l n d;have:f n=i:=fB T.ri e;rw[this];exact⟨(a4e.mp e).1,e⟩
  have s:∀ a b,a < b->b<=t.place.size->f a≠f b:=λa b g hb e=>by
   have p:=(o a (by lia)).2;rw[e,(o b hb).2]at p;exact aV7 g (by lia:b < 2 ^ k) (a5a p).symm
  obtain⟨i,hi,e⟩:=xC t.place.size f (λi h=>(o i (by lia)).1) (λa b g hb=>s a b g (by lia)) (f t.place.size) (o t.place.size (a7a _)).1;exact s i t.place.size hi (a7a _) e
 obtain⟨n,hn,q⟩:=ex;have r:∀ N,(∃ m,m < N/\¬ Occ t (wk t.mask h m).j)->∃ M,M < N/\¬ Occ t (wk t.mask h M).j/\∀ m,m < M->Occ t (wk t.mask h m).j:=by
  intro N
  induction N with
  | zero=>rintro⟨m,h,_⟩;exact absurd h (a4i _)
  | succ N v=>
    rintro⟨m,p,w⟩;by_cases hb:∃ m,m < N/\¬ Occ t (wk t.mask h m).j;obtain⟨M,a,b,c⟩:=v hb;exact⟨M,by lia,b,c⟩;exact⟨m,p,w,λm' x=>a7e λz=>hb ⟨m',by lia,z⟩⟩
 obtain⟨M,a,b,c⟩:=r (tm t.mask h (13+n)+1) ⟨_,a2h _,q⟩;have:=cM5 t.mask h (13+n);exact⟨M,by lia,b,c⟩
end
end Sx
namespace PySem
open Sx
section
variable{prog:Program}{w:World}{A:Around}{E:Value->Shared->Prop}{s:Shared}
abbrev kD(prog:Program)(w:World)(h:Heap)(k:List Int)(a:Addr):Prop:=IsTupleKey (intKind prog w) h k a
def kD.at{h h':Heap}{k:List Int}{a:Addr}(x:kD prog w h k a)(e:∀ o,h.get? a=some o->h'.get? a=some o):kD prog w h' k a:=by
 obtain⟨o,items,n,b,r⟩:=x;exact⟨o,items,n,e o b,r⟩
theorem jX:∀ {k:List Int} {vs:List Value},ItemsAre (intKind prog w) k vs->∀ v∈vs,∃ i t,v=.int i t
 | _,_,.nil,v,a=>by simp at a
 | _,_,.cons b r,v,a=>by
   rcases a9b.mp a with rfl | a;obtain⟨t,e⟩:=Value.isInt_shape b;exact⟨_,t,e⟩;exact jX r v a
def bS9{k:List Int}{a:Addr}{Q:Bool->Shared->Prop}(d:kD prog w s.heap k a)(h:Q true s):wpAny (model prog w) A (hashByValue 8 (.ref a)) Q E s:=by
 have f:=d.typeIs;obtain⟨o,items,n,g,_,hd,hi⟩:=d;unfold hashByValue;refine a1X (a2J f F.slot_tuple_hash.lookup ?_);dsimp only;refine a1X (wpAny_seqItems g hd ?_);dsimp only[Option.getD_some];refine a1X ?_;rw[← Array.forIn_toList];refine wpAny_forIn_list _ (λdG r s'=>r.1=none/\s'=s/\∀ v∈dG,∃ i t,v=.int i t) _ ?_ ?_ _ _ ⟨rfl,rfl,jX hi⟩
 ·rintro v dG r s' ⟨c,rfl,b⟩;obtain⟨i,t,rfl⟩:=b v a3a;have e:hashByValue 7 (.int i t)=pure true:=by unfold hashByValue;rfl
  rw[e];refine a1X (a1Y ?_);simp only[Bool.not_true,Bool.false_eq_true,if_false];exact a1Y ⟨rfl,rfl,λu j=>b u (a4a _ j)⟩
 ·rintro⟨l,m⟩ s' ⟨c,rfl,_⟩;simp only at c;subst c;exact a1Y h
def aW4{k:List Int}{a:Addr}{Q:Bool->Shared->Prop}(d:kD prog w s.heap k a)(h:Q false s):wpAny (model prog w) A (ofAClassStatement 8 (.ref a)) Q E s:=by
 have f:=d.typeIs;obtain⟨o,items,n,g,_,hd,hi⟩:=d;unfold ofAClassStatement;refine a1X (a2E f ?_);dsimp only;rw[a1Z (by decide)];refine a1X (a1Y ?_);simp only[Bool.not_true,Bool.false_eq_true,if_false];refine a1X (wpAny_seqItems g hd ?_);dsimp only;refine a1X ?_;rw[← Array.forIn_toList];refine wpAny_forIn_list _ (λdG r s'=>r.1=none/\s'=s/\∀ v∈dG,∃ i t,v=.int i t) _ ?_ ?_ _ _ ⟨rfl,rfl,jX hi⟩
 ·rintro v dG r s' ⟨c,rfl,b⟩;obtain⟨i,t,rfl⟩:=b v a3a;have e:ofAClassStatement 7 (.int i t)=pure false:=by unfold ofAClassStatement;rfl
  rw[e];refine a1X (a1Y ?_);simp only[Bool.false_eq_true,if_false];exact a1Y ⟨rfl,rfl,λu j=>b u (a4a _ j)⟩
 ·rintro⟨l,m⟩ s' ⟨c,rfl,_⟩;simp only at c;subst c;exact a1Y h
def bE7{k:List Int}{a:Addr}{Q:Bool->Shared->Prop}(f:kD prog w s.heap k a)(l:List Value)(g:∀ v∈l,∃ d b,v=.ref b/\kD prog w s.heap d b)(h:Q false s):wpAny (model prog w) A (searchCouldBeSeen (.ref a) l) Q E s:=by
 unfold searchCouldBeSeen;refine a1X ?_;refine wpAny_forIn_list _ (λdG r s'=>r.1=none/\s'=s/\∀ v∈dG,∃ d b,v=.ref b/\kD prog w s.heap d b) _ ?_ ?_ _ _ ⟨rfl,rfl,g⟩;rintro v dG r s' ⟨e,rfl,c⟩;obtain⟨d,b,rfl,hb⟩:=c v a3a;have go:∀ u∈dG,∃ d b,u=Value.ref b/\kD prog w s'.heap d b:=λu i=>c u (a4a _ i);dsimp only;split;exact a1Y ⟨rfl,rfl,go⟩;refine a1X (wpAny_eqIsQuiet_tuple f ?_);simp only[Bool.not_true,Bool.false_eq_true,if_false];refine a1X (wpAny_eqIsQuiet_tuple hb ?_);simp only[Bool.not_true,Bool.false_eq_true,if_false];refine a1X (aW4 f ?_);simp only[Bool.false_eq_true,if_false];refine a1X (aW4 hb ?_);simp only[Bool.false_eq_true,if_false];exact a1Y ⟨rfl,rfl,go⟩;rintro⟨j,m⟩ s' ⟨e,rfl,_⟩;simp only at e;subst e;exact a1Y h
end
structure mJ(prog:Program)(w:World)(h:Heap)(S:Addr)(led:Bool)(N:Addr->Prop)(ks:List (List Int))(o:Obj)(es:Array (Int×Value))(ep:Nat)(t:SetTable):Prop where
 ob:h.get? S=some o
 ex:o.ExactSet
 dt:o.data=.set es ep t
 tk:TOk t (es.toList.map (·.1))
 ful:t.place.size*5 < t.mask*3
 ld:t.led=led
 pl:t.plain=true
 len:ks.length=es.size
 it:∀ (i:Nat) e,es[i]? = some e->∃ k a,ks[i]? = some k/\e=(tupleKeyHash (intKind prog w) k,.ref a)/\kD prog w h k a/\N a
 nd:ks.Nodup
section
variable{prog:Program}{w:World}{A:Around}{E:Value->Shared->Prop}{s:Shared}{S:Addr}{led:Bool}{N:Addr->Prop}{ks:List (List Int)}{o:Obj}{es:Array (Int×Value)}{ep:Nat}{t:SetTable}
theorem _root_.Sx.TOk.fits{hs:List Int}(T:TOk t hs){n:Nat}(hn:hs.length=n):t.fits n=true:=by
 have b:=T.len;have a:=T.fit;simp only[SetTable.fits,SetTable.fill,Bool.and_eq_true,beq_iff_eq,decide_eq_true_eq,T.dm];exact⟨by lia,by simpa using a⟩
theorem mJ.fits(X:mJ prog w s.heap S led N ks o es ep t):t.fits es.size=true:=X.tk.fits (by simp)
def mJ.state(X:mJ prog w s.heap S led N ks o es ep t){Q:(Array (Int×Value)×Nat×SetTable)->Shared->Prop}(h:Q (es,ep,t) s):wpAny (model prog w) A (setState S) Q E s:=
 wpAny_setState_of X.ob X.dt X.fits h
def mJ.even(X:mJ prog w s.heap S led N ks o es ep t):t.gaveWay=false:=by
 obtain⟨k,a⟩:=X.tk.pw;have b:=X.tk.m7;unfold SetTable.gaveWay;have:t.mask % 2=1:=by
  cases k with
  | zero=>lia
  | succ k=>rw[a5g]at a;lia
 rw[this];rfl
theorem mD(X:mJ prog w s.heap S led N ks o es ep t){k:List Int}{a:Addr}(W:A.units < cLine)(I:kD prog w s.heap k a){M:Nat}(hM:¬ Occ t (wk t.mask (tupleKeyHash (intKind prog w) k) M).j)(hb:∀ m,m < M->Occ t (wk t.mask (tupleKeyHash (intKind prog w) k) m).j)
  (J:M < 10*SetTable.turns t.mask) :
  ∀ (f n:Nat) (c:Option SetTable.Probe) (Q:SetFound->Shared->Prop),c.getD (t.probeStart (tupleKeyHash (intKind prog w) k))=wk t.mask (tupleKeyHash (intKind prog w) k) n->n<=M->M-n < f ->
    (∀ i:Nat,ks[i]? = some k->∃ m j,n<=m/\t.place[i]? = some j/\(wk t.mask (tupleKeyHash (intKind prog w) k) m).j=j/\m < M) ->
    (k∈ks->Q (.there none) s)->(k∉ks->Q (.free (wk t.mask (tupleKeyHash (intKind prog w) k) M).j false) s)->wpAny (model prog w) A (setSearchFrom S (.ref a) (tupleKeyHash (intKind prog w) k) true f c) Q E s
 | 0,n,c,Q,_,_,hf,_,_,_=>by lia
 | f+1,n,c,Q,hst,hn,hf,B,Y,q2=>by
   unfold setSearchFrom;refine a1X (X.state ?_);dsimp only;rw[X.even,a2k a9d,hst];have hg:=aW2 X.tk (h:=tupleKeyHash (intKind prog w) k) (hashAt:=λi=>(es[i]?.map (·.1)).getD 0) hM hb (10*SetTable.turns t.mask) n hn (by lia);have C:∀ (i:Nat) e,es[i]? = some e->((es[i]?.map (·.1)).getD 0)=e.1:=λi e Z=>by rw[Z];rfl
   split
   ·rename_i met r;rcases hg with⟨m,i,a1,a2,K,a4,a5,a6⟩ | ⟨a1,a2⟩
    ·have e:met=.candidate (wk t.mask (tupleKeyHash (intKind prog w) k) m).j i (wk t.mask (tupleKeyHash (intKind prog w) k) (m+1)):=a5a (r.symm.trans a6);subst e;dsimp only;have hi:i < es.size:=by
      have h1:=(a4e.mp K).1;have h2:=X.tk.len;simp at h2;lia
     have L:es[i]? = some es[i]:=a8b hi;obtain⟨k',b,D,ee,O,_⟩:=X.it i _ L;have seen:∀ v∈((es.filter (λx=>x.1==tupleKeyHash (intKind prog w) k)).toList.map (·.2)),∃ k' b,v=Value.ref b/\kD prog w s.heap k' b:=λv hv=>by
      obtain⟨e,Z,rfl⟩:=a7f.mp hv;have he':e∈es:=by
       rw[Array.mem_toList_iff]at Z;exact(Array.mem_filter.mp Z).1
      obtain⟨j,hj,ej⟩:=Array.getElem_of_mem he';obtain⟨k2,p,_,l,h2,_⟩:=X.it j e (by rw[a8b hj,ej]);exact⟨k2,p,by rw[l],h2⟩
     by_cases hl:t.led=true
     ·rw[hl];simp only[Bool.not_true,Bool.false_eq_true,if_false];rw[L,ee];dsimp only;refine a1X (a2m (wpAny_eqBool_tuple W O I ?_));refine a1X (X.state ?_);dsimp only;by_cases g:k'=k;subst g;rw[a2q rfl];simp only[Bool.and_self,if_true];exact a1Y (Y (a4c D));rw[a2o g];simp only[Bool.and_false,Bool.false_eq_true,if_false];have F:t.sameMemory t.moves t.mask=some true:=by unfold SetTable.sameMemory;simp
      rw[F];dsimp only;rw[a1Z rfl,tX X.tk.ri K];dsimp only;rw[L,ee];dsimp only;refine a1X (wpAny_isSame_ref_self ?_);simp only[if_true];refine a1X (a1Y ?_);dsimp only;refine mD X W I hM hb J f (m+1) (some _) Q rfl (by lia) (by lia) (λd l=>?_) Y q2;obtain⟨G,j2,P,p,q,R⟩:=B d l;refine⟨G,j2,?_,p,q,R⟩
      -- it lies behind the one T was met
      refine a9i λhle=>?_;have H:d < es.size:=by rw[← X.len];exact(a0a.mp l).1
      have u:es[d]? = some es[d]:=a8b H;obtain⟨k3,b5,y,U,_⟩:=X.it d _ u;rw[l]at y;cases y;by_cases z:G=m
      ·subst z;have:d=i:=by rw[← fB X.tk.ri p,← fB X.tk.ri K,q]
       subst this;rw[D]at l;exact g (a5a l)
      ·refine a5 G d P (by lia) (by rw[p,q]) ?_;show(es[d]?.map (·.1)).getD 0=_;rw[C d _ u,U]
     ·have hl':t.led=false:=by simpa using hl
      rw[hl'];simp only[Bool.not_false,if_true];refine a1X (bE7 I _ seen ?_);simp only[Bool.false_eq_true,if_false];rw[L,ee];dsimp only;refine a1X (a2m (wpAny_eqBool_tuple W O I ?_));refine a1X (X.state ?_);dsimp only;by_cases g:k'=k;subst g;rw[a2q rfl];simp only[Bool.and_self,if_true];exact a1Y (Y (a4c D));rw[a2o g];simp only[Bool.and_false,Bool.false_eq_true,if_false];have F:t.sameMemory t.moves t.mask=some true:=by unfold SetTable.sameMemory;simp
      rw[F];dsimp only;rw[a1Z rfl,tX X.tk.ri K];dsimp only;rw[L,ee];dsimp only;refine a1X (wpAny_isSame_ref_self ?_);simp only[if_true];refine a1X (a1Y ?_);dsimp only;refine mD X W I hM hb J f (m+1) (some _) Q rfl (by lia) (by lia) (λd l=>?_) Y q2;obtain⟨G,j2,P,p,q,R⟩:=B d l;refine⟨G,j2,?_,p,q,R⟩
      -- it lies behind the one T was met
      refine a9i λhle=>?_;have H:d < es.size:=by rw[← X.len];exact(a0a.mp l).1
      have u:es[d]? = some es[d]:=a8b H;obtain⟨k3,b5,y,U,_⟩:=X.it d _ u;rw[l]at y;cases y;by_cases z:G=m
      ·subst z;have:d=i:=by rw[← fB X.tk.ri p,← fB X.tk.ri K,q]
       subst this;rw[D]at l;exact g (a5a l)
      ·refine a5 G d P (by lia) (by rw[p,q]) ?_;show(es[d]?.map (·.1)).getD 0=_;rw[C d _ u,U]
    ·have e:met=.empty (wk t.mask (tupleKeyHash (intKind prog w) k) M).j none:=a5a (r.symm.trans a2);subst e;dsimp only;refine a1Y (q2 λhm=>?_);obtain⟨i,hi,e⟩:=a6f hm;have D:ks[i]? = some k:=by rw[a1a hi,e]
     obtain⟨m,j,P,p,q,R⟩:=B i D;have hi':i < es.size:=by rw[← X.len];exact hi
     have u:es[i]? = some es[i]:=a8b hi';obtain⟨k3,b5,y,U,_⟩:=X.it i _ u;rw[D]at y;cases y;refine a1 m i P R (by rw[p,q]) ?_;show(es[i]?.map (·.1)).getD 0=_;rw[C i _ u,U]
   ·rename_i V;exfalso;rcases hg with⟨m,i,_,_,_,_,_,a6⟩ | ⟨_,a2⟩;exact V _ a6;exact V _ a2
end
end PySem
namespace Sx
open PySem PySem.SetTable
theorem rX(n:Nat):∀ (f k:Nat),n < 2 ^ k*2 ^ f->3<=k->∃ g,sizeAbove.go n f (2 ^ k)=2 ^ g/\k<=g/\n < 2 ^ g/\(2 ^ g=2 ^ k\/2 ^ g<=2*n)
 | 0,k,h,i=>⟨k,rfl,a7a _,by simpa using h,.inl rfl⟩
 | f+1,k,h,i=>by
   unfold sizeAbove.go;split;rename_i j;have e:2 ^ k*2=2 ^ (k+1):=(a5g ..).symm;rw[e];obtain⟨g,a,b,c,d⟩:=rX n f (k+1) (by rw[a5g,a3j,a9h 2 (2 ^ f),← a5g];exact h) (by lia);refine⟨g,a,by lia,c,.inr ?_⟩;rcases d with d | d;rw[d,a5g];lia;exact d;rename_i l;exact⟨k,rfl,a7a _,by lia,.inl rfl⟩
def vA(n:Nat)(h:n < 2 ^ 60):∃ k,sizeAbove n=2 ^ k/\3<=k/\n < 2 ^ k/\2 ^ k<=8+2*n:=by
 obtain⟨k,a,b,c,d⟩:=rX n 64 3 (a0c h (by decide)) (a7a _);exact⟨k,a,b,c,by lia⟩
noncomputable def rel{α:Type}(l:List α)(od:List Nat):List α:=od.filterMap (l[·]?)
theorem aF2{a:Type}{l:List a}:∀ {od:List Nat},(∀ j∈od,j < l.length)->∀ i:Nat,(rel l od)[i]? = (od[i]?).bind (l[·]?)
 | [],_,i=>by simp[rel]
 | j::od,h,i=>by
   have hj:=h j a3a;have e:rel l (j::od)=l[j]::rel l od:=by
    unfold rel;rw[a8g,a1a hj]
   rw[e];cases i with
   | zero=>simp[List.getElem?_eq_getElem hj]
   | succ i=>rw[a5c,a5c];exact aF2 (λx b=>h x (a4a _ b)) i
def vY{a:Type}{l:List a}{od:List Nat}(h:∀ j∈od,j < l.length):(rel l od).length=od.length:=by
 induction od with
 | nil=>rfl
 | cons j od b=>
   have hj:=h j a3a;have e:rel l (j::od)=l[j]::rel l od:=by
    unfold rel;rw[a8g,a1a hj]
   rw[e,a3h,a3h,b λx c=>h x (a4a _ c)]
def aK0{b:Type}{l:List b}{od:List Nat}(h:od.Perm (List.range l.length)):(rel l od).Perm l:=by
 have a:(rel l od).Perm (rel l (List.range l.length)):=h.filterMap _;have c:rel l (List.range l.length)=l:=by unfold rel;exact PySem.List.filterMap_getElem?_range_length l
 rw[c]at a;exact a
def uA{b:Type}(l:List b)(p:Nat)(x:b):(aF0 l p x).Perm (x::l):=by
 unfold aF0;have:=List.perm_middle (a:=x) (l₁:=l.take p) (l₂:=l.drop p);rwa[List.take_append_drop]at this
end Sx
namespace PySem
open Sx
section
variable{prog:Program}{w:World}{A:Around}{E:Value->Shared->Prop}{s:Shared}{S:Addr}{led:Bool}{N:Addr->Prop}{ks:List (List Int)}{o:Obj}{es:Array (Int×Value)}{ep:Nat}{t:SetTable}
def zP(prog:Program)(w:World)(h:Heap)(S:Addr)(led:Bool)(N:Addr->Prop)(ks:List (List Int)):Prop:=∃ o es ep t,mJ prog w h S led N ks o es ep t
def mJ.store(X:mJ prog w s.heap S led N ks o es ep t){b:Array (Int×Value)}{t':SetTable}{c:List (List Int)}(T:TOk t' (b.toList.map (·.1)))(m:t'.led=t.led)(p:t'.plain=true)(hn:c.length=b.size)(g:c.Nodup)
  (hi:∀ (i:Nat) e,b[i]? = some e->∃ k a,c[i]? = some k/\e=(tupleKeyHash (intKind prog w) k,.ref a)/\kD prog w s.heap k a/\N a) (q:t'.place.size*5 < t'.mask*3) :
  mJ prog w (s.heap.update S (Obj.putSet b t')) S led N c {o with data:=.set b (ep+1) t'} b (ep+1) t':=by
 have r:(s.heap.update S (Obj.putSet b t')).get? S=some {o with data:=.set b (ep+1) t'}:=by
  have:=a0e (Obj.putSet b t') X.ob (by rw[a2L b t' X.dt];rfl);rw[a2L b t' X.dt]at this;exact this
 refine⟨r,X.ex,rfl,T,q,m.trans X.ld,p,hn,λi e u=>?_,g⟩;obtain⟨k,a,v,x,l,y⟩:=hi i e u;refine⟨k,a,v,x,l.at (λob h=>?_),y⟩;have j:a≠S:=λz=>by
  subst z;obtain⟨A,items,n,d,_,f,_⟩:=l;rw[X.ob]at d;cases d;rw[X.dt]at f;cases f
 rw[(a0h s.heap S (Obj.putSet b t')).2 a j];exact h
def bT0(X:mJ prog w s.heap S led N ks o es ep t){k:List Int}{a:Addr}{Q:Bool->Shared->Prop}(hu:A.units < cLine)(hk:kD prog w s.heap k a)(haN:N a)(hn:ks.length < 4000)
  (q1:k∈ks->∀ tk,Q false {s with toks:=tk}) (q2:k∉ks->∀ h' tk J,zP prog w h' S led N J->J.Perm (k::ks)->(∀ c ob,c≠S->s.heap.get? c=some ob->h'.get? c=some ob)->Q true {s with heap:=h',toks:=tk}) :
  wpAny (model prog w) A (setAdd S (.ref a)) Q E s:=by
 obtain⟨M,hMs,hM,hb⟩:=X.tk.stop2 (tupleKeyHash (intKind prog w) k);have hsz:t.place.size=es.size:=by have:=X.tk.len;simpa using this
 have hfit:=X.tk.fit;have hes:es.size < 4000:=by rw[← X.len];exact hn
 unfold setAdd;refine a2m (a1X (wpAny_pyHash_tuple hu hk ?_));unfold setAddHashed;refine a2m ?_;generalize hs':s.toks+(k.length+1)=d;have X':mJ prog w ({s with toks:=d}:Shared).heap S led N ks o es ep t:=X;have K:kD prog w ({s with toks:=d}:Shared).heap k a:=hk;unfold setAddHashedIn;refine a1X (X'.state ?_);dsimp only;have hbs:byScan (.ref a) es=false:=rfl;rw[hbs,a2k a9d];unfold setSearch;refine a1X (mD X' hu K hM hb (by show M < 10*(t.mask+15);lia) 100000 0 none _ rfl (a3d _) (by lia) (λi ei=>?_) (λL=>a1Y (q1 L d)) λL=>?_)
 ·have hi':i < es.size:=by rw[← X.len];exact(a0a.mp ei).1
  have O:es[i]? = some es[i]:=a8b hi';obtain⟨k3,b5,e4,e5,_⟩:=X.it i _ O;rw[ei]at e4;cases e4;obtain⟨m,j,c1,c2,c3⟩:=X.tk.rea i (tupleKeyHash (intKind prog w) k) (by rw[a2c,a6b,O,e5];rfl);refine⟨m,j,a3d _,c1,c2,a9i λz=>?_⟩;by_cases zz:M=m;subst zz;exact hM ⟨i,by rw[c1,c2]⟩;exact hM (c3 M (by lia))
 ·dsimp only;refine a1X (X'.state ?_);dsimp only;have r:=zM t (wk t.mask (tupleKeyHash (intKind prog w) k) M).j X.tk.dm;have hf7:=X.tk.m7;have hful:=X.ful;have B:=X.tk.put hM hb (by lia);have l:=(jK X.tk.ri (wk t.mask (tupleKeyHash (intKind prog w) k) M).j).le;generalize hj:(wk t.mask (tupleKeyHash (intKind prog w) k) M).j=j at r B l ⊢;rw[r]at B ⊢;dsimp only at B ⊢;generalize hp:SetTable.below t.place j=p at B l ⊢;rw[a1Z X.pl];refine a1X (bS9 K ?_);rw[a1Z rfl];have C:p<=es.size:=by lia
  have P:p<=ks.length:=by rw[X.len];exact C
  have ehs:(SetTable.insertAt es p (tupleKeyHash (intKind prog w) k,Value.ref a)).toList.map (·.1)=aF0 (es.toList.map (·.1)) p (tupleKeyHash (intKind prog w) k):=by
   rw[SetTable.toList_insertAt];unfold aF0;rw[a5d,a2e,List.map_take,List.map_drop]
  rw[← ehs]at B;have q:(SetTable.insertAt es p (tupleKeyHash (intKind prog w) k,Value.ref a)).size=es.size+1:=sJ es C _;have hpl:(SetTable.insertAt t.place p j).size=es.size+1:=by rw[sJ t.place l,hsz]
  have R:∀ (i:Nat) e,(SetTable.insertAt es p (tupleKeyHash (intKind prog w) k,Value.ref a))[i]? = some e->∃ T u,(aF0 ks p k)[i]? = some T/\e=(tupleKeyHash (intKind prog w) T,.ref u)/\kD prog w s.heap T u/\N u:=λi e h=>by
   rw[fZ _ C]at h;rw[aJ8 _ P];split at h;rw[a1Z (by assumption)];exact X.it i e h;split at h;cases h;rw[a2k (by assumption),a1Z (by assumption)];exact⟨k,a,rfl,rfl,hk,haN⟩;rw[a2k (by assumption),a2k (by assumption)];exact X.it (i-1) e h
  have U:(aF0 ks p k).Nodup:=(uA ks p k).nodup_iff.mpr (a6h.mpr ⟨L,X.nd⟩);have f:(aF0 ks p k).length=(SetTable.insertAt es p (tupleKeyHash (intKind prog w) k,Value.ref a)).size:=by rw[tY _ P,q,X.len]
  have hz:es.size+1<=sizeLine:=by rw[a2F];lia
  refine a1X (wpAny_storeSet_of (s:={s with toks:=d}) X.ob X.dt ?_ (by rw[q];exact hz));have kept:∀ (e2:Array (Int×Value)) (t2:SetTable) c ob,c≠S->s.heap.get? c=some ob->(s.heap.update S (Obj.putSet e2 t2)).get? c=some ob:=λe2 t2 c ob hc e=>by
   rw[(a0h s.heap S (Obj.putSet e2 t2)).2 c hc];exact e
  by_cases V:({t with place:=SetTable.insertAt t.place p j}:SetTable).tooFull=true
  ·rw[V];simp only[Bool.not_false,Bool.and_self,if_true];refine a1X ?_;unfold setRelay
   -- the table is full for a moment: what is known of it still
   have hg:(s.heap.update S (Obj.putSet (SetTable.insertAt es p (tupleKeyHash (intKind prog w) k,Value.ref a)) {t with place:=SetTable.insertAt t.place p j})).get? S=some {o with data:=.set (SetTable.insertAt es p (tupleKeyHash (intKind prog w) k,Value.ref a)) (ep+1) {t with place:=SetTable.insertAt t.place p j}}:=by
    have:=a0e (Obj.putSet (SetTable.insertAt es p (tupleKeyHash (intKind prog w) k,Value.ref a)) {t with place:=SetTable.insertAt t.place p j}) X.ob (by rw[a2L _ _ X.dt];rfl);rw[a2L _ _ X.dt]at this;exact this
   refine a1X (wpAny_setState_of (s:={s with heap:=s.heap.update S (Obj.putSet (SetTable.insertAt es p (tupleKeyHash (intKind prog w) k,Value.ref a)) {t with place:=SetTable.insertAt t.place p j}),toks:=d}) hg rfl (B.fits (by simp)) ?_);dsimp only;have hgr:SetTable.grown (es.size+1)=(es.size+1)*4:=by unfold SetTable.grown;rw[a2k (by lia)]
   obtain⟨H,W,sa2,sa3,sa4⟩:=vA ((es.size+1)*4) (by lia);rw[hgr,W];rw[a2k (by rw[a2F];lia)];have hpos:1<=2 ^ H:=Nat.one_le_two_pow;have h8:8<=2 ^ H:=by
    have:2 ^ 3<=2 ^ H:=Nat.pow_le_pow_right (by decide) sa2;simpa using this
   generalize hE:SetTable.insertAt es p (tupleKeyHash (intKind prog w) k,Value.ref a)=b at *;obtain⟨D,od,l1,l2,Y,l4,l5,l6,l7⟩:=aW3 (mask:=2 ^ H-1) (k:=H) (finger:=t.finger) (moves:=({t with place:=SetTable.insertAt t.place p j}:SetTable).movedTo (2 ^ H-1)) (led:=t.led) (plain:=t.plain) (hashes:=b.map (·.1)) (by lia) (by lia) (by rw[Array.size_map,q];lia);have hrl:({t with place:=SetTable.insertAt t.place p j}:SetTable).relaid (b.map (·.1)) ((es.size+1)*4)=some (D,od):=by
    unfold SetTable.relaid;rw[W];exact l1
   rw[Array.size_map]at Y l5;have F:∀ x∈od.toList,x < b.toList.length:=λx I=>by
    have:=Y.mem_iff.mp I;rw[a3i]at this;rw[a0d];exact this
   have O:(od.filterMap (b[·]?)).toList=rel b.toList od.toList:=by
    rw[Array.toList_filterMap];unfold rel;congr 1;funext x;rw[a6b]
   have v:od.toList.length=b.size:=by have:=Y.length_eq;simpa using this
   have G:(od.filterMap (b[·]?)).size=b.size:=by
    rw[← a0d,O,vY F,v]
   rw[hrl];refine a1X ?_;show wpAny (model prog w) A (ite (((od.filterMap (b[·]?)).size != b.size)=true) _ _) _ _ _;dsimp only;rw[G];simp only[bne_self_eq_false,Bool.false_eq_true,if_false];refine a1Y ?_;dsimp only;refine wpAny_storeSet_of (s:={s with heap:=s.heap.update S (Obj.putSet b {t with place:=SetTable.insertAt t.place p j}),toks:=d}) hg rfl ?_ (by rw[G,q];exact hz);refine a1Y ?_
   -- as if it were stored at once
   have T3:TOk D ((od.filterMap (b[·]?)).toList.map (·.1)):=by
    have e4:(od.filterMap (b[·]?)).toList.map (·.1)=od.toList.filterMap ((b.map (·.1))[·]?):=by
     rw[Array.toList_filterMap,List.map_filterMap];congr 1;funext x;rw[Array.getElem?_map]
    rw[e4];exact l2
   have Z:∀ x∈od.toList,x < (aF0 ks p k).length:=λx I=>by rw[f,← a0d];exact F x I
   refine q2 L _ d (rel (aF0 ks p k) od.toList) ⟨{o with data:=.set (od.filterMap (b[·]?)) (ep+1+1) D},od.filterMap (b[·]?),ep+1+1,D,?_,X.ex,rfl,T3,?_,l6.trans X.ld,l7.trans X.pl,?_,?_,?_⟩ ?_ ?_;have:=a0e (Obj.putSet (od.filterMap (b[·]?)) D) hg (by rw[a2L _ _ rfl];rfl);rw[a2L _ _ rfl]at this;exact this;rw[l4,l5,q];lia;rw[vY Z,v,G]
   ·intro i e h;rw[← a6b,O,aF2 F]at h;rw[aF2 Z];cases I:od.toList[i]? with
    | none=>rw[I]at h;cases h
    | some x=>
      rw[I]at h;have he':b[x]? = some e:=by rw[← a6b];exact h
      obtain⟨T,u,h1,h2,h3,h4⟩:=R x e he';refine⟨T,u,h1,h2,h3.at (λob hob=>?_),h4⟩;have y:u≠S:=λz=>by
       subst z;obtain⟨o2,items,n,ho2,_,hd2,_⟩:=h3;rw[X.ob]at ho2;cases ho2;rw[X.dt]at hd2;cases hd2
      rw[(a0h _ S (Obj.putSet (od.filterMap (b[·]?)) D)).2 u y];exact kept _ _ u ob y hob
   ·exact(aK0 (by rw[f];exact Y)).nodup_iff.mpr U
   ·exact(aK0 (by rw[f];exact Y)).trans (uA ks p k)
   ·intro c ob hc e;rw[(a0h _ S (Obj.putSet (od.filterMap (b[·]?)) D)).2 c hc];exact kept _ _ c ob hc e
  ·have g:({t with place:=SetTable.insertAt t.place p j}:SetTable).tooFull=false:=by simpa using V
   rw[g];simp only[Bool.and_false,Bool.false_eq_true,if_false];refine a1Y (q2 L _ d (aF0 ks p k) ⟨_,_,_,_,X.store B rfl X.pl f U R ?_⟩ (uA ks p k) (kept _ _));unfold SetTable.tooFull SetTable.fill at g;simp only[X.tk.dm,decide_eq_false_iff_not,Nat.not_le]at g;simpa using g
end
section
variable{prog:Program}{w:World}{A:Around}{S I:Addr}{led:Bool}{N:Addr->Prop}
def zP.stay{h h':Heap}{ks:List (List Int)}(X:zP prog w h S led N ks)(f:h'.get? S=h.get? S)(g:∀ c ob,N c->h.get? c=some ob->h'.get? c=some ob):zP prog w h' S led N ks:=by
 obtain⟨o,es,ep,t,Y⟩:=X;refine⟨o,es,ep,t,f.trans Y.ob,Y.ex,Y.dt,Y.tk,Y.ful,Y.ld,Y.pl,Y.len,λi e j=>?_,Y.nd⟩;obtain⟨k,a,l,m,n,d⟩:=Y.it i e j;exact⟨k,a,l,m,n.at (λob b=>g a ob d b),d⟩
def fD(prog:Program)(w:World)(h:Heap)(N:Addr->Prop)(ks:List (List Int))(items:Array Value):Prop:=ks.length=items.size/\∀ (i:Nat) v,items[i]? = some v->∃ k a,ks[i]? = some k/\v=.ref a/\kD prog w h k a/\N a
def fD.stay{h h':Heap}{ks:List (List Int)}{items:Array Value}(X:fD prog w h N ks items)(f:∀ c ob,N c->h.get? c=some ob->h'.get? c=some ob):fD prog w h' N ks items:=by
 refine⟨X.1,λi v e=>?_⟩;obtain⟨k,a,g,j,l,d⟩:=X.2 i v e;exact⟨k,a,g,j,l.at (λob b=>f a ob d b),d⟩
def aW5{items:Array Value}{ks:List (List Int)}(C:A.units < cLine)(g:¬ N S)(j:¬ N I)(l:S≠I)(hb:ks.length < 4000) :
  Fill prog w A S I items.size (λi v=>items[i]? = some v) (λi h=>fD prog w h N ks items/\∃ us,zP prog w h S led N us/\us.length<=i/\∀ x,x∈us↔x∈ks.take i) where
 put:=λi v s Q E hi D ⟨TA,us,X,p,d⟩ q=>by
  obtain⟨k,a,F,rfl,tk,ha⟩:=TA.2 i v D;have G:i < ks.length:=by rw[TA.1];exact hi
  have r:ks.take (i+1)=ks.take i++[k]:=by rw[a6i,F];rfl
  have H:=X;obtain⟨o,es,ep,t,Y⟩:=X;refine bT0 Y C tk ha (by lia) (λf b=>?_) λf h' b m J u y=>?_;refine q _ s.heap b ⟨TA,us,H,by lia,λx=>?_⟩ λc ob _ e=>e;rw[r,a1c,a7b,d x];refine⟨.inl,λh=>?_⟩;rcases h with h | rfl;exact h;exact(d _).mp f;refine q _ h' b ⟨TA.stay λc ob n e=>y c ob (λz=>g (z ▸ n)) e,m,J,by have:=u.length_eq;simp at this;lia,λx=>?_⟩ y;rw[u.mem_iff,a9b,r,a1c,a7b,d x];exact or_comm
 stay:=λi h h' ⟨TA,us,X,p,d⟩ k=>by
  have B:∀ c ob,N c->h.get? c=some ob->h'.get? c=some ob:=λc ob n e=>k c ob (λz=>j (z ▸ n)) e;refine⟨TA.stay B,us,X.stay ?_ B,p,d⟩;obtain⟨o,es,ep,t,Y⟩:=X;rw[k S o l Y.ob,Y.ob]
end
def aW6:Manifest.owners.lookup (String.ofList (['r','o','t','a','r','e','t','i','_','t','e','s']:List Char).reverse)=some Manifest.sig_set_iterator:=by kernel_rfl
def lK:Slot "set_iterator" "__next__" "set_iterator.__next__":=.of (owner:="set_iterator") (n:="__next__") (by rw[typeLookup_type,builtinLookup_eq_fast];kernel_rfl) (by decide +kernel) (by decide +kernel) (by decide +kernel) (.inl (by decide +kernel)) (by rw[isSubtype_type];kernel_rfl)
def zQ:entryFor table "set_iterator.__next__"=some Builtin.«set_iterator.__next__»:=entryFor_of_tree (by kernel_rfl)
def aK1(a:Value):argsOk "set_iterator.__next__" ⟨[a],[]⟩:=by
 unfold argsOk;rw[signature?_of (id:="set_iterator.__next__") (n:=['_','_','t','x','e','n','_','_']) (o:=['r','o','t','a','r','e','t','i','_','t','e','s']) (by kernel_rfl) aW6]
 kernel_rfl
def vB:entryFor table "set.__iter__"=some Builtin.«frozenset.__iter__»:=entryFor_alias (id':="frozenset.__iter__") (by kernel_rfl) rfl (by decide +kernel) (by kernel_rfl)
theorem aF3{b:Type}:∀ (l:List b) (i:Nat) (h:i < l.length),(l[i]::l.eraseIdx i).Perm l
 | [],i,h=>absurd h (a4i i)
 | a::l,0,_=>.refl _
 | a::l,i+1,h=>(List.Perm.swap a _ _).trans (.cons a (aF3 l i (Nat.lt_of_succ_lt_succ h)))
theorem zR{b:Type}(next:Nat->Nat):∀ (fuel k:Nat) (left:List b) (out:Array b),left.length=fuel->(pickOrder.go next fuel k left out).toList.Perm (out.toList++left)
 | 0,k,left,out,h=>by
   have:left=[]:=a7c h;subst this;rw[a3f];exact .refl _
 | fuel+1,k,left,out,h=>by
   have a:next k % left.length < left.length:=Nat.mod_lt _ (by lia)
   unfold pickOrder.go;rw[a1a a];dsimp only;have c:=zR next fuel (k+1) (left.eraseIdx (next k % left.length)) (out.push left[next k % left.length]) (by rw[List.length_eraseIdx_of_lt a];lia)
   refine c.trans ?_;rw[a7g,List.append_assoc];exact List.Perm.append_left _ (aF3 left _ a)
def vC{a:Type}(next:Nat->Nat)(xs:Array a):(pickOrder next xs).toList.Perm xs.toList:=by
 have:=zR next xs.size 0 xs.toList #[] (by simp)
 simpa[pickOrder]using this
noncomputable abbrev aP2(slot i n ep:Nat)(S:Addr):Obj:={cls:=.type "set_iterator",data:=.fields #[.int slot 0,.int i 0,.ref S,.int n 0,.int ep 0]}
section
variable{prog:Program}{w:World}{A:Around}{E:Value->Shared->Prop}{s:Shared}{S I:Addr}{N:Addr->Prop}{ks:List (List Int)}{o:Obj}{es:Array (Int×Value)}{ep:Nat}{t:SetTable}
noncomputable def bQ(w:World)(S:Addr)(ep:Nat)(es:Array (Int×Value)):Array (Int×Value):=if w.params.followText "set-order"=true then pickOrder (w.params.setOrder S ep) es else es
def uB(es:Array (Int×Value)):(bQ w S ep es).toList.Perm es.toList:=by
 unfold bQ;split;exact vC _ es;exact .refl _
def aW7(X:mJ prog w s.heap S (eH w) N ks o es ep t){Q:Value->Shared->Prop}(q:Q (.ref s.heap.objs.size) {s with heap:=s.heap.push (aP2 0 0 es.size ep S)}):wpAny (model prog w) A (pyIter (.ref S)) Q E s:=by
 have a:s.TypeIs (.ref S) "set":=⟨o,X.ob,X.ex.1⟩;refine wpAny_pyIter_slot a F.slot_set_iter (a2t F.slot_set_iter a vB ?_ (F.args_set_iter_1 _));show wpAny _ _ (Builtin.Frozenset.sizeOf S >>= _) _ _ s;unfold Builtin.Frozenset.sizeOf;refine a1X (a1X (a2K X.ob X.dt X.fits (a1Y ?_)));unfold setDrawn;refine a1X (a1X (X.state ?_));unfold setsByText;refine a1X (a1X (a2B (a1Y ?_)));refine a1Y ?_;have hd:(!t.plain&&decide (es.size > 1))=false:=by rw[X.pl];rfl
 dsimp only;rw[a2k (λh=>?_)];refine a1X (a1Y ?_);refine a1X (wpAny_setEpoch_of X.ob X.dt X.fits ?_);unfold newFields;refine a1X (a2r ?_);exact a1Y ⟨_,rfl,"set_iterator",_,⟨_,a3b _ rfl,rfl⟩,lK.lookup,q⟩;rw[a7d]at h;exact Bool.noConfusion (hd.symm.trans h.2)
def aW8(w:World)(h:Heap)(I S:Addr)(es:Array (Int×Value))(ep:Nat)(t:SetTable)(i:Nat):Prop:=
 ∃ slot,h.get? I=some (aP2 slot i es.size ep S)/\(w.params.followText "set-order"=false->SetTable.below t.place slot=i)
def aW9(X:mJ prog w s.heap S (eH w) N ks o es ep t){i slot:Nat}(j:w.params.followText "set-order"=false->SetTable.below t.place slot=i){Q:Option (Value×Nat)->Shared->Prop}
  (k:∀ e next,(bQ w S ep es)[i]? = some e->(w.params.followText "set-order"=false->SetTable.below t.place next=i+1)->Q (some (e.2,next)) s) (l:(bQ w S ep es)[i]? = none->Q none s):wpAny (model prog w) A (setNext S slot i ep) Q E s:=by
 unfold setNext;refine a1X (X.state ?_);unfold setsByText;refine a1X (a1X (a2B (a1Y ?_)));dsimp only;by_cases hb:w.params.followText "set-order"=true
 ·rw[a1Z (show(model prog w).w.params.followText "set-order"=true from hb)];simp only[bne_self_eq_false,Bool.false_eq_true,if_false];unfold setWalk;refine a1X (a1X (X.state ?_));unfold setsByText;refine a1X (a1X (a2B (a1Y ?_)));dsimp only;rw[a1Z (show(model prog w).w.params.followText "set-order"=true from hb)];refine a1X (a2B (a1Y ?_));have m:bQ w S ep es=pickOrder (w.params.setOrder S ep) es:=by unfold bQ;rw[a1Z hb]
  show wpAny _ _ (pure ((pickOrder (w.params.setOrder S ep) es)[i]?.map λe=>(e.2,slot))) _ _ _;refine a1Y ?_;rw[← m];cases d:(bQ w S ep es)[i]? with
  | none=>exact l d
  | some e=>exact k e slot d λz=>by rw[hb]at z;cases z
 ·have f:w.params.followText "set-order"=false:=by simpa using hb
  have a:=j f;have m:bQ w S ep es=es:=by unfold bQ;rw[a2k hb]
  have n:(!t.plain&&decide (es.size > 1))=false:=by rw[X.pl];rfl
  have g:t.led=true:=by rw[X.ld];unfold eH;rw[f];rfl
  rw[a2k (show ¬ ((model prog w).w.params.followText "set-order"=true)from hb)];refine a2O (λh=>absurd (n.symm.trans h) a9d) λ_=>?_;refine a1X ?_;have p:wpAny (model prog w) A (if(!t.led && !es.isEmpty)=true then unsupported "set:maker-not-led" else pure ()) (λ_ s'=>s'=s) E s:=by
   rw[g];simp only[Bool.not_true,Bool.false_and,Bool.false_eq_true,if_false];exact a1Y rfl
  refine a2u p (λ_ s' x=>?_) λ_ _ z=>z;subst x;rw[a];rw[m]at k l;have q:t.place.size=es.size:=by have:=X.tk.len;simpa using this
  cases d:es[i]? with
  | none=>exact a1Y (l d)
  | some e=>
    have r:i < t.place.size:=by rw[q];exact(a4e.mp d).1
    have b:t.place[i]? = some t.place[i]:=a8b r;rw[b];refine a1Y (k e _ d λ_=>?_);have c:=jK X.tk.ri (t.place[i]+1);have y:i < SetTable.below t.place (t.place[i]+1):=by
     refine a9i λz=>?_;have:=c.hi i _ z b;lia
    have B:SetTable.below t.place (t.place[i]+1)<=i+1:=by
     refine a8i λz=>?_;have u:i+1 < t.place.size:=a0c z c.le;have v:t.place[i+1]? = some t.place[i+1]:=a8b u;have:=c.lo (i+1) _ z v;have:=X.tk.ri i (i+1) _ _ (a2h _) b v;lia
    lia
def aX0(X:mJ prog w s.heap S (eH w) N ks o es ep t){i:Nat}(hi:aW8 w s.heap I S es ep t i){Q:Option Value->Shared->Prop}{e:Int×Value}(g:(bQ w S ep es)[i]? = some e)
  (q:∀ h',aW8 w h' I S es ep t (i+1)->(∀ b ob,b≠I->s.heap.get? b=some ob->h'.get? b=some ob)->Q (some e.2) {s with heap:=h'}):wpAny (model prog w) A (pyNext (.ref I)) Q E s:=by
 obtain⟨slot,c,d⟩:=hi;have h:s.TypeIs (.ref I) "set_iterator":=⟨_,c,rfl⟩;unfold pyNext;refine a1X (wpAny_attempt (wpAny_callSpecial?_slot (name:=Str.ofString "__next__") h lK (a2t lK h zQ ?_ (aK1 _))));show wpAny _ _ (fieldsOf (.ref I) >>= _) _ _ s;unfold fieldsOf;refine a1X (a1X (wpAny_load c (a1Y ?_)));dsimp only;refine a1X (a2K X.ob X.dt X.fits ?_);simp only[bne_self_eq_false,Bool.false_eq_true,if_false,Int.toNat_natCast];refine a1X (aW9 X d (λm next a f=>?_) λhn=>?_)
 ·rw[g]at a;cases a;dsimp only;refine a1X (wpAny_setField c rfl (by simp) ?_);have j:(s.heap.update I (λob=>ob.mapFields (·.setIfInBounds 0 (rawInt next)))).get? I=some (aP2 next i es.size ep S):=by
   rw[a0e _ c rfl];simp[Obj.mapFields,rawInt]
  refine a1X (wpAny_setField (s:={s with heap:=s.heap.update I (λob=>ob.mapFields (·.setIfInBounds 0 (rawInt next)))}) j rfl (by simp) ?_);have k:((s.heap.update I (λob=>ob.mapFields (·.setIfInBounds 0 (rawInt next)))).update I (λob=>ob.mapFields (·.setIfInBounds 1 (rawInt ((i:Int)+1))))).get? I=some (aP2 next (i+1) es.size ep S):=by
   rw[a0e _ j rfl];simp[Obj.mapFields,rawInt]
  refine a1Y ⟨_,rfl,a1Y (q _ ⟨next,k,f⟩ λb ob hb l=>?_)⟩;exact(a8d _ _ (a1d hb)).trans ((a8d _ _ (a1d hb)).trans l)
 ·rw[g]at hn;cases hn
def aX1(g:A.handled=none)(X:mJ prog w s.heap S (eH w) N ks o es ep t){i:Nat}(hi:aW8 w s.heap I S es ep t i){Q:Option Value->Shared->Prop}(h:(bQ w S ep es)[i]? = none)
  (q:∀ h',(∀ b ob,b≠I->s.heap.get? b=some ob->h'.get? b=some ob)->Q none {s with heap:=h'}):wpAny (model prog w) A (pyNext (.ref I)) Q E s:=by
 obtain⟨slot,d,e⟩:=hi;have f:s.TypeIs (.ref I) "set_iterator":=⟨_,d,rfl⟩;unfold pyNext;refine a1X (wpAny_attempt (wpAny_callSpecial?_slot (name:=Str.ofString "__next__") f lK (a2t lK f zQ ?_ (aK1 _))));show wpAny _ _ (fieldsOf (.ref I) >>= _) _ _ s;unfold fieldsOf;refine a1X (a1X (wpAny_load d (a1Y ?_)));dsimp only;refine a1X (a2K X.ob X.dt X.fits ?_);simp only[bne_self_eq_false,Bool.false_eq_true,if_false,Int.toNat_natCast];refine a1X (aW9 X e (λl next c j=>?_) λhn=>?_)
 ·rw[h]at c;cases c
 ·dsimp only;refine a1X (wpAny_setField d rfl (by simp) ?_);show wpAny _ _ (newExc (.type "StopIteration") [] >>= _) _ _ _;refine a1X ?_;simp only[newExc,newTuple];refine a1X (a2r ?_ (by size_fits));refine a1X (m:=firstArgMember _ _) (wpAny_of_eq (a:=Value.none) rfl ?_);refine a2r ?_ (by size_fits);simp only[raiseNew];refine a1X (wpAny_handled ?_);rw[show A.in1.handled=none from g];refine a1X (a1Y (wpAny_throw ?_));refine a1X (wpAny_isInstance (T:="StopIteration") (b:=true) ⟨_,a3b _ rfl,rfl⟩ isSubtype_stop ?_);refine a1Y (q _ λb ob hb k=>a6a _ (a6a _ ((a8d _ _ (a1d hb)).trans k)))
end
open L2
def aP3:typeLookup (.type "set") "__len__"=pure (some (.builtin "set.__len__")):=by rw[typeLookup_type,builtinLookup_eq_fast];kernel_rfl
section
variable{prog:Program}{w:World}{A:Around}{E:Value->Shared->Prop}{s:Shared}{S I:Addr}{N:Addr->Prop}{ks:List (List Int)}{o:Obj}{es:Array (Int×Value)}{ep:Nat}{t:SetTable}
def bE8{Q:Bool->Shared->Prop}(c:s.TypeIs (.ref S) "set")(h:∀ b,Q b s):wpAny (model prog w) A (Builtin.List.listLengthHint (.ref S)) Q E s:=by
 unfold Builtin.List.listLengthHint;refine a1X (a2J c aP3 ?_)
 (generalize hid:("set.__len__":String)=a;(fail_if_success (clear hid a));wp_delta;rw[show splitId a=some ("set","__len__")from by subst hid;decide +kernel];subst hid)
 refine a1X (wpAny_isInstance (b:=true) c sub_set_self ?_);dsimp only;rw[a2k (by decide)];refine a2O (λ_=>?_) (λh'=>(h' (by decide +kernel)).elim);refine a1X (a2E c ?_);exact a1Y (h _)
def bE9(y:A.handled=none){L:Addr}{h0:Heap}(X:mJ prog w h0 S (eH w) N ks o es ep t)(B:h0.objs.size<=I)(C:h0.objs.size<=L)(f:L≠I) :
  LoopJ prog w A I L es.size (λi acc h=>(∀ b ob,h0.get? b=some ob->h.get? b=some ob)/\aW8 w h I S es ep t i/\acc.toList=((bQ w S ep es).toList.take i).map (·.2)) (λacc h=>(∀ b ob,h0.get? b=some ob->h.get? b=some ob)/\acc.toList=(bQ w S ep es).toList.map (·.2)):=by
 have D:(bQ w S ep es).toList.length=es.size:=by have:=(uB (w:=w) (S:=S) (ep:=ep) es).length_eq;simpa using this
 have v:∀ b ob,h0.get? b=some ob->b≠I:=λb ob e z=>absurd (a5b e) (a2j.mpr (z ▸ B));have F:∀ b ob,h0.get? b=some ob->b≠L:=λb ob e z=>absurd (a5b e) (a2j.mpr (z ▸ C));have x:∀ (h:Heap),(∀ b ob,h0.get? b=some ob->h.get? b=some ob)->mJ prog w h S (eH w) N ks o es ep t:=λh d=>
  ⟨d _ _ X.ob,X.ex,X.dt,X.tk,X.ful,X.ld,X.pl,X.len,λi e l=>by
   obtain⟨k,a,m,n,G,H⟩:=X.it i e l;exact⟨k,a,m,n,G.at (λob p=>d a ob p),H⟩,X.nd⟩
 refine⟨λi acc s c Q E hi ⟨d,hs,ha⟩ r q=>?_,λacc s c Q E ⟨d,hs,ha⟩ r q=>?_,λi acc h h' ⟨d,hs,ha⟩ _ k=>?_⟩
 ·have g:i < (bQ w S ep es).toList.length:=by lia
  have l:(bQ w S ep es)[i]? = some (bQ w S ep es).toList[i]:=by rw[← a6b];exact a1a g
  refine aX0 (x s.heap d) hs l λh' u j=>?_;have:=q (bQ w S ep es).toList[i].2 h' s.toks ⟨λb ob e=>j b ob (v b ob e) (d b ob e),u,?_⟩ (j _ _ f r);exact this;rw[a7g,ha,a6i,a1a g,a5d];rfl
 ·refine aX1 y (x s.heap d) hs (by rw[← a6b];exact a5i (by lia)) λh' j=>?_;have:=q h' s.toks ⟨λb ob e=>j b ob (v b ob e) (d b ob e),by rw[ha,a8c (by lia)]⟩ (j _ _ f r);exact this
 ·obtain⟨slot,m,n⟩:=hs;exact⟨λb ob e=>k b ob (F b ob e) (d b ob e),⟨slot,k I _ (a1d f) m,n⟩,ha⟩
def zS(J:A.handled=none)(X:mJ prog w s.heap S (eH w) N ks o es ep t)(hz:es.size<=sizeLine){Q:List Value->Shared->Prop}
  (q:∀ h' tk,(∀ b ob,s.heap.get? b=some ob->h'.get? b=some ob)->s.heap.objs.size < h'.objs.size->Q ((bQ w S ep es).toList.map (·.2)) {s with heap:=h',toks:=tk}):wpAny (model prog w) A (collect (.ref S)) Q E s:=by
 have h:S < s.heap.objs.size:=a5b X.ob;have n:∀ R:Result->Shared->Prop,(∀ h' tk acc c,(∀ b ob,s.heap.get? b=some ob->h'.get? b=some ob)->acc.toList=(bQ w S ep es).toList.map (·.2)->h'.get? s.heap.objs.size=some (lU acc c)->R (.ok (.ret (.ref s.heap.objs.size))) {s with heap:=h',toks:=tk}) ->
   codeAny (model prog w) A (.builtin "proto.collect" ⟨[.ref S],[]⟩) R s:=by
  intro R C
  (refine a2w F.entry_proto_collect ?_;rw[a1g F.plain_proto_collect _])
  (show wpAny _ A.in1 (newList [] >>= λl=>again (.builtin "list.__iadd__" ⟨[l,.ref S],[]⟩)) _ _ s;refine a1X (a2r ?_))
  (refine a1Y ⟨a2H F.plain_list_iadd _,a2w F.entry_list_iadd ?_⟩;rw[a1g F.plain_list_iadd _])
  have up:∀ b ob,s.heap.get? b=some ob->(s.heap.push (lU #[] 0)).get? b=some ob:=λb ob e=>a6a _ e;have D:(s.heap.push (lU #[] 0)).objs.size=s.heap.objs.size+1:=a7i ..;have G:mJ prog w ({s with heap:=s.heap.push (lU #[] 0)}:Shared).heap S (eH w) N ks o es ep t:=
   ⟨up _ _ X.ob,X.ex,X.dt,X.tk,X.ful,X.ld,X.pl,X.len,λi e K=>by
    obtain⟨k,a,p,M,O,P⟩:=X.it i e K;exact⟨k,a,p,M,O.at (λob r=>up a ob r),P⟩,X.nd⟩
  have T:Shared.TypeIs {s with heap:=s.heap.push (lU #[] 0)} (.ref S) "set":=⟨o,G.ob,X.ex.1⟩
  (show wpAny _ A.in1 (Builtin.List.listExtendWith (.ref s.heap.objs.size) (.ref S) (.ref s.heap.objs.size)) _ _ {s with heap:=s.heap.push (lU #[] 0)})
  unfold Builtin.List.listExtendWith;refine a1X (a2E T ?_);have p:Builtin.List.listSameRef (.ref s.heap.objs.size) (.ref S)=false:=by
   simp only[Builtin.List.listSameRef,beq_eq_false_iff_ne];exact Nat.ne_of_gt h
  rw[a2k (by rw[p];decide)];refine a1X (aW7 G ?_);have f:((s.heap.push (lU #[] 0)).push (aP2 0 0 es.size ep S)).get? s.heap.objs.size=some (lU #[] 0):=a6a _ (a3b _ rfl);have u:((s.heap.push (lU #[] 0)).push (aP2 0 0 es.size ep S)).get? (s.heap.push (lU #[] 0)).objs.size=some (aP2 0 0 es.size ep S):=a3b _ rfl;have j:∀ b ob,s.heap.get? b=some ob->((s.heap.push (lU #[] 0)).push (aP2 0 0 es.size ep S)).get? b=some ob:=λb ob e=>a6a _ (up b ob e);have v:Shared.TypeIs {s with heap:=(s.heap.push (lU #[] 0)).push (aP2 0 0 es.size ep S)} (.ref S) "set":=⟨o,j _ _ X.ob,X.ex.1⟩;have U:SetTable.below t.place 0=0:=by
   have c:=jK X.tk.ri 0;refine Nat.le_zero.mp (a8i λz=>?_);have x:0 < t.place.size:=a0c z c.le;have V:t.place[0]? = some t.place[0]:=a8b x;exact absurd (c.lo 0 _ z V) (a4i _)
  have ne:s.heap.objs.size≠(s.heap.push (lU #[] 0)).objs.size:=by rw[D];exact a2d (a2h _)
  have L:=bE9 (A:=A.in1) J (I:=(s.heap.push (lU #[] 0)).objs.size) (L:=s.heap.objs.size) X (by rw[D];exact Nat.le_succ _) (a7a _) ne;have H:(∀ b ob,s.heap.get? b=some ob->((s.heap.push (lU #[] 0)).push (aP2 0 0 es.size ep S)).get? b=some ob)/\aW8 w ((s.heap.push (lU #[] 0)).push (aP2 0 0 es.size ep S)) (s.heap.push (lU #[] 0)).objs.size S es ep t 0/\(#[]:Array Value).toList=((bQ w S ep es).toList.take 0).map (·.2):=⟨j,⟨0,u,λ_=>U⟩,rfl⟩;refine a1X (a2m (bE8 v λb=>?_));refine a2O (λ_=>?_) (λ_=>a1Y ⟨a2H a1i _,cB8 L hz _ es.size 0 _ #[] 0 (by lia) (a3d _) H rfl f λh' tk acc c g y d=>C h' tk acc c g.1 g.2 d⟩)
  (refine a1X (a2y ?_);refine a1X ?_)
  (show wpAny _ _ (updateSeq s.heap.objs.size (·.push .none) >>= λ_=>updateSeq s.heap.objs.size (·.pop)) _ _ _;refine a1X (a2N f rfl ?_))
  have m:(((s.heap.push (lU #[] 0)).push (aP2 0 0 es.size ep S)).update s.heap.objs.size (Obj.mapSeq (·.push Value.none))).get? s.heap.objs.size=some (lU #[.none] 1):=by
   rw[a0e _ f rfl];simp[Obj.mapSeq]
  refine a2N (hz:=by seq_fits) m rfl ?_;have B:((((s.heap.push (lU #[] 0)).push (aP2 0 0 es.size ep S)).update s.heap.objs.size (Obj.mapSeq (·.push Value.none))).update s.heap.objs.size (Obj.mapSeq (·.pop))).get? s.heap.objs.size=some (lU #[] 2):=by
   rw[a0e _ m rfl];simp[Obj.mapSeq]
  refine a1Y ⟨a2H a1i _,cB8 L hz _ es.size 0 _ #[] 2 (by lia) (a3d _) (L.frame _ _ _ _ H ?_ λb ob hb e=>?_) rfl B λh' tk acc c g y d=>C h' tk acc c g.1 g.2 d⟩;exact(Heap.size_update ..).trans (Heap.size_update ..);exact(a8d _ _ (a1d hb)).trans ((a8d _ _ (a1d hb)).trans e)
 (unfold collect;refine a1X (wpAny_runValue (n _ λh' tk acc c g ha d=>?_)))
 (show wpAny _ A (load s.heap.objs.size >>= _) _ _ _;refine a1X (wpAny_load d ?_))
 rw[← ha]at q;exact a1Y (q h' tk g (a5b d))
end
end PySem
namespace Sx
open PySem PySem.W PyProof.Rows
structure Ord(c:Nat->Nat->Bool):Prop where
 ir:∀ a,c a a=false
 tr:∀ {a b d},c a b=true->c b d=true->c a d=true
 nt:∀ {a b d},c b a=false->c d b=false->c d a=false
noncomputable abbrev at0(p:Array Nat)(i:Nat):Nat:=p.getD i 0
section
variable{N:Nat}{c:Nat->Nat->Bool}{cmp:Nat->Nat->(Bool->Shared->Prop)->Shared->Prop}{s:Shared}(O:Ord c)(hc:∀ i j C,i < N->j < N->C (c i j) s->cmp i j C s)
include O hc
end
noncomputable def tlt:List Int->List Int->Bool
 | _,[]=>false
 | [],_::_=>true
 | a::x,b::y=>if a=b then tlt x y else decide (a < b)
theorem vZ:∀ x,tlt x x=false
 | []=>rfl
 | a::x=>by show(if a=a then tlt x x else _)=false;rw[a1Z rfl];exact vZ x
theorem aK2:∀ {x y z},tlt x y=true->tlt y z=true->tlt x z=true
 | _,[],_,h,_=>by simp[tlt]at h
 | _,_::_,[],_,h=>by simp[tlt]at h
 | [],_::_,_::_,_,_=>rfl
 | a::x,b::y,d::z,i,j=>by
   have e:(if a=b then tlt x y else decide (a < b))=true:=i;have c:(if b=d then tlt y z else decide (b < d))=true:=j;show(if a=d then tlt x z else decide (a < d))=true;by_cases g:a=b;rw[a1Z g]at e;by_cases f:b=d;rw[a1Z f]at c;rw[a1Z (g.trans f)];exact aK2 e c;rw[a2k f]at c;rw[a2k (by lia)];simp at c ⊢;lia;rw[a2k g]at e;by_cases f:b=d;rw[a1Z f]at c;rw[a2k (by lia)];simp at e ⊢;lia;rw[a2k f]at c;simp at e c;rw[a2k (by lia)];simp;lia
theorem aF4:∀ {x y},tlt x y=false->tlt y x=false->x=y
 | [],[],_,_=>rfl
 | [],_::_,h,_=>by simp[tlt]at h
 | _::_,[],_,h=>by simp[tlt]at h
 | a::x,b::y,f,g=>by
   have c:(if a=b then tlt x y else decide (a < b))=false:=f;have d:(if b=a then tlt y x else decide (b < a))=false:=g;by_cases e:a=b;rw[a1Z e]at c;rw[a1Z e.symm]at d;rw[e,aF4 c d];rw[a2k e]at c;rw[a2k λz=>e z.symm]at d;simp at c d;lia
section
variable{prog:Program}{w:World}{A:Around}{E:Value->Shared->Prop}{s:Shared}
theorem bK1{b:Bool}{Q:Bool->Shared->Prop}:∀ {x y:List Int} {xs ys:List Value} (i:Nat) (fin:Bool),ItemsAre (intKind prog w) x xs->ItemsAre (intKind prog w) y ys->fin=decide (xs.length+i < ys.length+i)->Q (tlt x y) s->KatLex prog w A b (decide (xs.length < ys.length)) Q (xs.zip ys) i s
 | _,_,_,_,i,fin,.nil,.nil,_,q=>q
 | _,_,_,_,i,fin,.nil,.cons _ _,_,q=>by
   show Q (decide (0 < _)) s;rw[a2q (by simp)];exact q
 | _,_,_,_,i,fin,.cons _ _,.nil,_,q=>by
   show Q (decide (_ < 0)) s;rw[a2o (by simp)];exact q
 | _,_,_,_,i,fin,.cons (k:=a) (ks:=x) f g,.cons (k:=d) (ks:=y) h j,_,q=>by
   obtain⟨t,rfl⟩:=Value.isInt_shape f;obtain⟨u,rfl⟩:=Value.isInt_shape h;rw[List.zip_cons_cons];refine kat_cons (wpAny_eqBool_int ?_);have c:Q (if a=d then tlt x y else decide (a < d)) s:=q;by_cases e:a=d;rw[a1Z e]at c;rw[show(a==d)=true from a2l.mpr e];refine kat_yes ?_;have:=bK1 (b:=b) (i+1) (decide (_+(i+1) < _+(i+1))) g j rfl c;simpa using this
   ·rw[a2k e]at c;rw[show(a==d)=false by simpa using e];refine kat_no ?_;cases (b&&i==0)with
    | true=>exact oneLt_int c
    | false=>exact kat_one _ _ (lt_int c)
def bF0{ks:List (List Int)}{vs:List Value}{N:Addr->Prop}{Q:SortKind->Shared->Prop}(T:fD prog w s.heap N ks vs.toArray)(z:0 < vs.length)(B:∀ k∈ks,k≠[])(q:Q (tuples' true) s):wpAny (model prog w) A (keyKind' vs.toArray) Q E s:=by
 have h:∀ (vs:List Value) (ks:List (List Int)),(∀ (i:Nat) v,vs[i]? = some v->∃ k a,ks[i]? = some k/\v=.ref a/\kD prog w s.heap k a)->(∀ k∈ks,k≠[])->∃ fs:List Value,KatTups s.heap vs fs/\fs.length=vs.length/\∀ v∈fs,∃ i t,v=.int i t:=by
  intro vs
  induction vs with
  | nil=>intro ks _ _;exact⟨[],KatTups.nil,rfl,by simp⟩
  | cons v r C=>
    intro ks c d;obtain⟨k,a,j,rfl,o,items,n,g,D,hd,hi⟩:=c 0 v rfl;cases ks with
    | nil=>simp at j
    | cons K ks=>
      simp at j;subst j;obtain⟨fs,l,y,m⟩:=C ks (λi u F=>c (i+1) u (by simpa using F)) λx b=>d x (a4a _ b);have p:=d _ a3a;cases hit:items.toList with
      | nil=>
        rw[hit]at hi;cases hi;exact absurd rfl p
      | cons f dG=>
        have G:items[0]? = some f:=by rw[← a6b,hit];rfl
        obtain⟨i,t,H⟩:=jX hi f (by rw[hit];exact a3a);refine⟨f::fs,KatTups.cons g D hd G l,by simp[y],λx b=>?_⟩;rcases a9b.mp b with rfl | b;exact⟨i,t,H⟩;exact m x b
 obtain⟨fs,l,y,m⟩:=h vs ks (λi v e=>by
  obtain⟨k,a,c,d,I,_⟩:=T.2 i v (by rw[a4d];exact e);exact⟨k,a,c,d,I⟩) B
 refine kat_kind (T:=.type "int") l (by lia) (λv J=>?_) (by decide) q;obtain⟨i,t,rfl⟩:=m v J;exact .now
end
noncomputable def aQ2(k:List Int):List (List Int)->List (List Int)
 | []=>[k]
 | x::r=>if tlt k x=true then k::x::r else if k=x then x::r else x::aQ2 k r
noncomputable def srt:List (List Int)->List (List Int)
 | []=>[]
 | k::r=>aQ2 k (srt r)
abbrev aX2(l:List (List Int)):Prop:=l.Pairwise λa b=>tlt a b=true
theorem xE(k:List Int):∀ (l:List (List Int)) (x:List Int),x∈aQ2 k l↔x=k\/x∈l
 | [],x=>by simp[aQ2]
 | y::r,x=>by
   unfold aQ2;split;simp
   ·split;rename_i h;subst h;simp
    ·rw[a9b,xE k r x,a9b];constructor;rintro(h | h | h);exact .inr (.inl h);exact .inl h;exact .inr (.inr h);rintro(h | h | h);exact .inr (.inl h);exact .inl h;exact .inr (.inr h)
theorem aK3(k:List Int):∀ (l:List (List Int)),aX2 l->aX2 (aQ2 k l)
 | [],_=>List.pairwise_singleton _ _
 | y::r,h=>by
   obtain⟨b,d⟩:=a1e.mp h;unfold aQ2;split;rename_i c;refine a1e.mpr ⟨λx a=>?_,h⟩;rcases a9b.mp a with rfl | a;exact c;exact aK2 c (b x a)
   ·split;exact h
    ·rename_i hn e;refine a1e.mpr ⟨λx a=>?_,aK3 k r d⟩;rcases(xE k r x).mp a with rfl | a
     ·cases f:tlt y x with
      | true=>rfl
      | false=>exact absurd (aF4 (by simpa using hn) f) e
     ·exact b x a
theorem dZ:∀ (l:List (List Int)) (x:List Int),x∈srt l↔x∈l
 | [],x=>by simp[srt]
 | k::r,x=>by
   show x∈aQ2 k (srt r)↔_;rw[xE,dZ r x,a9b]
theorem gH:∀ (l:List (List Int)),aX2 (srt l)
 | []=>.nil
 | k::r=>aK3 k _ (gH r)
def aX3{l:List (List Int)}(h:aX2 l):l.Nodup:=a5f.mpr (h.imp λ{a b} h e=>by subst e;rw[vZ]at h;cases h)
theorem aK4:∀ {a b:List (List Int)},aX2 a->aX2 b->(∀ x,x∈a↔x∈b)->a=b
 | [],[],_,_,_=>rfl
 | [],y::b,_,_,h=>by have:=(h y).mpr a3a;simp at this
 | x::a,[],_,_,h=>by have:=(h x).mp a3a;simp at this
 | x::a,y::b,ha,hb,h=>by
   obtain⟨g,j⟩:=a1e.mp ha;obtain⟨i,k⟩:=a1e.mp hb;have d:x=y:=by
    rcases a9b.mp ((h x).mp a3a)with e | e;exact e;rcases a9b.mp ((h y).mpr a3a)with f | f;exact f.symm;have:=aK2 (i x e) (g y f);rw[vZ]at this;cases this
   subst d;have nx:x∉a:=λz=>by have:=g x z;rw[vZ]at this;cases this
   have l:x∉b:=λz=>by have:=i x z;rw[vZ]at this;cases this
   rw[aK4 j k λz=>?_];constructor;intro c;rcases a9b.mp ((h z).mp (a4a _ c))with e | e;subst e;exact absurd c nx;exact e;intro c;rcases a9b.mp ((h z).mpr (a4a _ c))with e | e;subst e;exact absurd c l;exact e
end Sx
namespace PySem
open Sx PySem.W PyProof.Rows
section
variable{prog:Program}{w:World}{A:Around}{E:Value->Shared->Prop}{s:Shared}{S:Addr}{N:Addr->Prop}{ks:List (List Int)}{o:Obj}{es:Array (Int×Value)}{ep:Nat}{t:SetTable}
end
end PySem
namespace Sx
open PySem PySem.W PyProof.Rows So
section
variable{prog:Program}{w:World}{A:Around}{E:Value->Shared->Prop}{s:Shared}
def cE6{a c:List Int}{d e:Addr}{b:Bool}{Q:Bool->Shared->Prop}(f:kD prog w s.heap a d)(g:kD prog w s.heap c e)(q:Q (tlt a c) s):wpAny (model prog w) A (keyLt' (tuples' b) (.ref d) (.ref e)) Q E s:=by
 obtain⟨p,h,n1,i,_,j,k⟩:=f;obtain⟨r,l,n2,m,_,n,o⟩:=g;refine kat_lt i j m n ?_;have:=bK1 (b:=b) (A:=A) 0 (decide (h.toList.length+0 < l.toList.length+0)) k o rfl q;simpa using this
noncomputable def aB1(prog:Program)(w:World)(h:Heap)(x:Keyed):List Int:=Classical.epsilon λk=>∃ a,x.1=.ref a/\kD prog w h k a
def mE{h:Heap}{x:Keyed}{a:Addr}{k:List Int}(e:x.1=.ref a)(t:kD prog w h k a):aB1 prog w h x=k:=by
 obtain⟨d,b,c⟩:=Classical.epsilon_spec (p:=λk=>∃ a,x.1=.ref a/\kD prog w h k a) ⟨k,a,e,t⟩;rw[e]at b;cases b;exact c.inj t
def cE7:Cm (model prog w) A s (tuples' true) (λx=>∃ k a,x.1=.ref a/\kD prog w s.heap k a) (λx y=>tlt (aB1 prog w s.heap x) (aB1 prog w s.heap y)) where
 lt:=λ{x y E Q} ⟨k,a,e,t⟩ ⟨d,f,b,c⟩ q=>by
  rw[mE e t,mE b c]at q;rw[e,b];exact cE6 t c q
 ir:=λx=>vZ _
 tr:=aK2
def bF1{h:Heap}{N:Addr->Prop}{ks:List (List Int)}{vs:List Value}{L:List Keyed}(T:fD prog w h N ks vs.toArray)(hn:ks.Nodup)(pm:L.Perm (vs.zip vs))(so:L.Pairwise λx y=>tlt (aB1 prog w h x) (aB1 prog w h y)=true):fD prog w h N (srt ks) (L.map (·.2)).toArray:=by
 have r:ks.length=vs.length:=by simpa using T.1
 have f:∀ x∈L,∃ a,x.2=.ref a/\kD prog w h (aB1 prog w h x) a/\N a:=λx c=>by
  obtain⟨g,j⟩:=mem_zip_self (pm.mem_iff.mp c);obtain⟨i,hi,e⟩:=a6f j;obtain⟨k,a,_,b,d,m⟩:=T.2 i x.1 (by rw[a4d,a1a hi,e]);exact⟨a,g ▸ b,by rw[mE b d];exact d,m⟩
 have o:(vs.zip vs).map (aB1 prog w h)=ks:=by
  refine a7h λi=>?_;rw[a2c];by_cases hi:i < vs.length
  ·have p:(vs.zip vs)[i]? = some (vs[i],vs[i]):=by rw[a1a (by simpa using hi)];simp
   obtain⟨k,a,q,b,d,m⟩:=T.2 i vs[i] (by rw[a4d];exact a1a hi);rw[p,q];exact a2D some (mE b d)
  ·rw[a5i (l:=ks) (by lia),a5i (by simpa using hi)];rfl
 have e:L.map (aB1 prog w h)=srt ks:=aK4 (List.pairwise_map.mpr so) (gH ks) λx=>by
  rw[dZ,← o,(pm.map (aB1 prog w h)).mem_iff]
 refine⟨by rw[← e];simp,λi v n=>?_⟩;rw[a4d,a2c]at n;obtain⟨x,c,rfl⟩:=a9c.mp n;obtain⟨a,g,j,b⟩:=f x (a4c c);exact⟨aB1 prog w h x,a,by rw[← e,a2c,c];rfl,g,j,b⟩
def aP4{ks:List (List Int)}{vs:List Value}{N:Addr->Prop}{D n:Nat}{P:PySem.Fin->Shared->Prop}(o:s.heap.get? D=some (seqObj "list" vs.toArray n))(M:¬ N D)(T:fD prog w s.heap N ks vs.toArray)(hz:vs.length<=sizeLine)(hn:ks.Nodup)(O:2<=vs.length->∀ k∈ks,k≠[])
  (q:∀ h' ws c,fD prog w h' N (srt ks) (List.toArray ws)->h'.get? D=some (seqObj "list" (List.toArray ws) c)->(∀ b ob,b≠D->s.heap.get? b=some ob->h'.get? b=some ob)->P (.done (.ret .none)) {s with heap:=h'}) :
  wpAny (model prog w) A (Builtin.«list.sort» ⟨[.ref D],[]⟩) P E s:=by
 have R:D < s.heap.objs.size:=a5b o;rw[list_sort_plain];refine a1X (listItems_at o rfl (a1X (listUpdate_at o rfl ?_ (by simpa using hz) (a3d _))));obtain⟨g,l⟩:∃ g,(s.heap.update D (Obj.mapSeq λ_=>(#[]:Array Value))).get? D=some (seqObj "list" #[] g):=⟨_,get?_update_seq o λ_=>#[]⟩;refine a1X (seqEpoch_at l rfl (a1X (wpAny_newTuple ?_ (by simpa using hz))));refine a1X (wpAny_newList ?_ (a3d _));refine a2m ?_;have kept:∀ b ob,b≠D->s.heap.get? b=some ob->(((s.heap.update D (Obj.mapSeq λ_=>(#[]:Array Value))).push (seqObj "tuple" vs.toArray 0)).push (seqObj "list" #[] 0)).get? b=some ob:=λb ob hb e=>a6a _ (a6a _ ((a8d _ _ (a1d hb)).trans e));have f:(((s.heap.update D (Obj.mapSeq λ_=>(#[]:Array Value))).push (seqObj "tuple" vs.toArray 0)).push (seqObj "list" #[] 0)).get? D=some (seqObj "list" #[] g):=a6a _ (a6a _ l);show wpAny (model prog w) A _ P E {s with heap:=((s.heap.update D (Obj.mapSeq λ_=>(#[]:Array Value))).push (seqObj "tuple" vs.toArray 0)).push (seqObj "list" #[] 0)};generalize ((s.heap.update D (Obj.mapSeq λ_=>(#[]:Array Value))).push (seqObj "tuple" vs.toArray 0)).push (seqObj "list" #[] 0)=d at kept f ⊢;have m:fD prog w d N ks vs.toArray:=T.stay λb ob hb e=>kept b ob (λz=>M (z ▸ hb)) e;dsimp only;have hl:ks.length=vs.length:=by simpa using T.1
 have p:(vs.toArray.zip vs.toArray).toList=vs.zip vs:=by simp
 have fin:∀ (L:List Keyed),L.Perm (vs.zip vs)->(L.Pairwise λx y=>tlt (aB1 prog w d x) (aB1 prog w d y)=true)->P (.done (.ret .none)) {s with heap:=d.update D (Obj.mapSeq λ_=>(L.map (·.2)).toArray)}:=λL pm so=>by
  obtain⟨r,t⟩:∃ r,(d.update D (Obj.mapSeq λ_=>(L.map (·.2)).toArray)).get? D=some (seqObj "list" (L.map (·.2)).toArray r):=⟨_,get?_update_seq f λ_=>(L.map (·.2)).toArray⟩;have kp:∀ b ob,b≠D->d.get? b=some ob->(d.update D (Obj.mapSeq λ_=>(L.map (·.2)).toArray)).get? b=some ob:=λb ob hb e=>(a8d _ _ (a1d hb)).trans e;exact q _ _ r ((bF1 m hn pm so).stay λb ob hb e=>kp b ob (λz=>M (z ▸ hb)) e) t λb ob hb e=>kp b ob hb (kept b ob hb e)
 have S:∀ {L:List Keyed},L.Perm (vs.zip vs)->(L.map (·.2)).length=vs.length:=λpm=>by rw[a8a,pm.length_eq];simp
 by_cases h:vs.toArray.size < 2
 ·rw[a1Z h,a1Z h];refine a1X (a1Y ?_);rw[StateT.run_pure];refine a1X (a1Y ?_);dsimp only;refine a1X (seqEpoch_at f rfl ?_);have es:(arrOf (SortSt.mk' general' (vs.toArray.zip vs.toArray) #[] 7 none)).map (·.2)=((vs.zip vs).map (·.2)).toArray:=by
   show(vs.toArray.zip vs.toArray).map (·.2)=_;apply Array.toList_inj.mp;simp
  refine a1X (listUpdate_at f rfl ?_ (a3d _) (by rw[es];simp;lia));simp only[bne_self_eq_false,Bool.false_eq_true,if_false];rw[es];refine a1Y (fin _ (.refl _) ?_);have:(vs.zip vs).length < 2:=by simpa using h
  match U:vs.zip vs with
  | []=>exact .nil
  | [x]=>exact List.pairwise_singleton _ _
  | _::_::_=>rw[U]at this;simp only[List.length_cons]at this;lia
 ·rw[a2k h,a2k h];have u:2<=vs.length:=by simp at h;lia
  refine a1X (bF0 (s:={s with heap:=d}) m (by lia) (O u) ?_);have C:Cm (model prog w) A {s with heap:=d} (tuples' true) _ _:=cE7 (s:={s with heap:=d});have V:∀ x∈vs.zip vs,∃ k a,x.1=.ref a/\kD prog w d k a:=λx W=>by
   obtain⟨g,v⟩:=mem_zip_self W;obtain⟨i,hi,e⟩:=a6f v;obtain⟨k,a,_,B,X,e5⟩:=m.2 i x.1 (by rw[a4d,a1a hi,e]);exact⟨k,a,B,X⟩
  have Y:Dst (λx y=>tlt (aB1 prog w d x) (aB1 prog w d y)) (vs.zip vs):=by
   refine List.pairwise_iff_getElem.mpr λi j hi hj F=>?_;have G:i < vs.length:=by simpa using hi
   have H:j < vs.length:=by simpa using hj
   obtain⟨I,a1,g,v,B,_⟩:=m.2 i vs[i] (by rw[a4d];exact a1a G);obtain⟨J,a2,Z,f2,f3,_⟩:=m.2 j vs[j] (by rw[a4d];exact a1a H);dsimp only;rw[mE (x:=(vs.zip vs)[i]) (by simp[v]) B,mE (x:=(vs.zip vs)[j]) (by simp[f2]) f3];have ne:I≠J:=λz=>by
    subst z;obtain⟨g1,g2⟩:=a0a.mp g;obtain⟨g3,g4⟩:=a0a.mp Z;exact List.pairwise_iff_getElem.mp (a5f.mp hn) i j g1 g3 F (g2.trans g4.symm)
   cases q1:tlt I J with
   | true=>exact .inl rfl
   | false=>cases q2:tlt J I with
     | true=>exact .inr rfl
     | false=>exact absurd (aF4 q1 q2) ne
  have run:=aE8 (E:=E) C (st:=SortSt.mk' (tuples' true) (vs.toArray.zip vs.toArray) #[] 7 none) (Q:=λ_ st'=>failedOf st'=none/\(arrOf st').toList.Perm (vs.zip vs)/\Srt (λx y=>tlt (aB1 prog w d x) (aB1 prog w d y)) (arrOf st').toList) rfl rfl rfl (by show ∀ x∈(vs.toArray.zip vs.toArray).toList,_;rw[p];exact V) (by show Dst _ (vs.toArray.zip vs.toArray).toList;rw[p];exact Y) λst' z1 K z3=>⟨z1,by have K:(arrOf st').toList.Perm (vs.toArray.zip vs.toArray).toList:=K;rwa[p]at K,z3⟩;refine a1X (a2u run ?_ λ_ _ e=>e);rintro⟨⟨⟩,st'⟩ s' ⟨rfl,hf,pm,so⟩;dsimp only at pm so ⊢;refine a1X (seqEpoch_at f rfl ?_);have es:(arrOf st').map (·.2)=((arrOf st').toList.map (·.2)).toArray:=by apply Array.toList_inj.mp;simp
  rw[es];refine a1X (listUpdate_at f rfl ?_ (a3d _) (by show(List.toArray _).size<=_;rw[a4b,S pm];lia));rw[hf];simp only[bne_self_eq_false,Bool.false_eq_true,if_false];exact a1Y (fin _ pm so)
end
end Sx
namespace PySem
open Sx PySem.W PyProof.Rows
section
variable{prog:Program}{w:World}{A:Around}{E:Value->Shared->Prop}{s:Shared}{S:Addr}{N:Addr->Prop}{ks:List (List Int)}{o:Obj}{es:Array (Int×Value)}{ep:Nat}{t:SetTable}
def zT(hh:A.handled=none)(X:mJ prog w s.heap S (eH w) N ks o es ep t)(hN:∀ a,N a->a < s.heap.objs.size)(hz:es.size<=sizeLine)(hk:2<=es.size->∀ k∈ks,k≠[]){l:List (List Int)}(hm:∀ x,x∈ks↔x∈l){Q:Value->Shared->Prop}
  (q:∀ h' tk D vs c,s.heap.objs.size<=D->h'.get? D=some (seqObj "list" (List.toArray vs) c)->fD prog w h' N (srt l) (List.toArray vs)->(∀ b ob,s.heap.get? b=some ob->h'.get? b=some ob)->Q (.ref D) {s with heap:=h',toks:=tk}) :
  wpAny (model prog w) A (call (.builtin "sorted") [.ref S]) Q E s:=by
 -- F keys in F order of F walk
 have pm:=uB (w:=w) (S:=S) (ep:=ep) es;have G:(bQ w S ep es).toList.length=es.size:=by have:=pm.length_eq;simpa using this
 have B:∀ e∈(bQ w S ep es).toList,∃ k a,k∈ks/\e=(tupleKeyHash (intKind prog w) k,Value.ref a)/\kD prog w s.heap k a/\N a:=λe L=>by
  have:=pm.mem_iff.mp L;obtain⟨i,hi,ei⟩:=Array.getElem_of_mem (by simpa using this:e∈es);obtain⟨k,a,j,n,u,H⟩:=X.it i e (by rw[a8b hi,ei]);exact⟨k,a,a4c j,n,u,H⟩
 -- one key for each
 have M:∃ us:List (List Int),us.Perm ks/\us.length=es.size/\∀ (i:Nat) e,(bQ w S ep es).toList[i]? = some e->∃ k a,us[i]? = some k/\e.2=Value.ref a/\kD prog w s.heap k a/\N a:=by
  -- a key for each entry,by its own value
  have f:∀ e:Int×Value,∃ k:List Int,∀ y a,e.2=Value.ref a->kD prog w s.heap y a->y=k:=λe=>by
   by_cases h:∃ y a,e.2=Value.ref a/\kD prog w s.heap y a;obtain⟨y,a,j,n⟩:=h;refine⟨y,λk'' a' r O=>?_⟩;rw[j]at r;cases r;exact O.inj n;exact⟨[],λy a j n=>absurd ⟨y,a,j,n⟩ h⟩
  let g:Int×Value->List Int:=λe=>Classical.choose (f e)
  have Z:∀ e k a,e.2=Value.ref a->kD prog w s.heap k a->k=g e:=λe k a=>Classical.choose_spec (f e) k a;have ge:es.toList.map g=ks:=by
   refine a7h λi=>?_;rw[a2c,a6b];by_cases hi:i < es.size;rw[a8b hi];obtain⟨k,a,j,n,u,_⟩:=X.it i es[i] (a8b hi);rw[j];show some (g es[i])=some k;rw[← Z es[i] k a (by rw[n]) u];rw[Array.getElem?_eq_none (by lia),a5i (by rw[X.len];lia)];rfl
  refine⟨(bQ w S ep es).toList.map g,?_,by rw[a8a];exact G,λi e L=>?_⟩;have:=pm.map g;rw[ge]at this;exact this;obtain⟨k,a,j,n,u,H⟩:=B e (a4c L);refine⟨k,a,?_,by rw[n],u,H⟩;rw[a2c,L];show some (g e)=some k;rw[← Z e k a (by rw[n]) u]
 obtain⟨us,up,ul,ui⟩:=M;refine Calls.call_function_entry kind_sorted plain_sorted entry_sorted (args_sorted1 _) ?_;unfold Builtin.«sorted»;refine a1X (m:=checkCount "sorted" 1 1 _) (a1Y ?_);refine a1X (zS (A:=A.in1) hh X hz λj I p d=>?_);generalize J:(bQ w S ep es).toList.map (·.2)=vs;have P:vs.length=es.size:=by rw[← J,a8a];exact G
 have T1:fD prog w j N us vs.toArray:=by
  refine⟨by rw[ul,a4b];exact P.symm,λi v e=>?_⟩;rw[a4d,← J,a2c]at e;obtain⟨e',ee,rfl⟩:=a9c.mp e;obtain⟨k,a,r,n,u,H⟩:=ui i e' ee;exact⟨k,a,r,n,u.at λob R=>p a ob R,H⟩
 refine a1X (wpAny_newList ?_ (by rw[P];exact hz));have K:(j.push (seqObj "list" vs.toArray 0)).get? j.objs.size=some (seqObj "list" vs.toArray 0):=a3b _ rfl;have up1:∀ b ob,j.get? b=some ob->(j.push (seqObj "list" vs.toArray 0)).get? b=some ob:=λb ob e=>a6a _ e;have T:¬ N j.objs.size:=λz=>absurd (hN _ z) (a2j.mpr (a3g d));have T2:fD prog w (j.push (seqObj "list" vs.toArray 0)) N us vs.toArray:=T1.stay λb ob _ e=>up1 b ob e;have U:2<=vs.length->∀ k∈us,k≠[]:=λh k V=>hk (by lia) k (up.mem_iff.mp V);have nu:us.Nodup:=up.nodup_iff.mpr X.nd;refine a1X (a2m (a2t slot_list_sort ⟨_,K,rfl⟩ entry_list_sort (aP4 (s:={s with heap:=j.push (seqObj "list" vs.toArray 0),toks:=I}) K T T2 (by rw[P];exact hz) nu U λn ws c T3 W C=>⟨_,rfl,?_⟩) (args_list_sort _)));refine a1Y ⟨_,rfl,?_⟩;have Y:srt us=srt l:=aK4 (gH us) (gH l) λx=>by rw[dZ,dZ,up.mem_iff];exact hm x
 rw[Y]at T3;exact q n I j.objs.size ws c (a3g d) W T3 λb ob e=>C b ob (λz=>absurd (a5b (z ▸ e)) (a2j.mpr (a3g d))) (up1 b ob (p b ob e))
end
end PySem
namespace Dv
open PySem L2 Mr
section
variable{Γ:Gm}{H H0:Hp}{σ σ0:Sg}{σV σV0:St}{i:Nat}{v:V}
end
section
variable{K:W.Frag}{H:Hp}{C fI:Addr}{f:Str}{E:XK}{Q:Addr->Hp->Prop}
end
end Dv
namespace L2
open PySem PySem.Spec PyProof.Rows
end L2
namespace PySem
section
variable{κ:Type}[DecidableEq κ]
end
section
variable{prog:Program}{w:World}{A:Around}{κ:Type}[DecidableEq κ]{knd:KeyKind prog w κ}
end
end PySem
namespace L2
open PySem PySem.Spec PyProof.Rows
def aK5{X:Cx}{id U:String}{x y:Str}{p c pos a:Pos}{e:Expr}{es:List Expr}{t:TA}{r:List V->Hp->VK->Prop}
  (l:∀ pins s σ H vs us Q,Inv X pins σ H s->bS vs us->r vs H Q->wpAny (model X.prog X.w) X.A (call (.type U) us) (λu s1=>wpAny (model X.prog X.w) X.A (call (.builtin id) [u]) (EP X pins σ Q) X.xe s1) X.xe s)
  (m:Gl X x) (n:X.mg x=none) (o:bootBuiltins x=some (.builtin id)) (d:Gl X y) (f:X.mg y=none) (g:bootBuiltins y=some (.type U)) (ha:PA X (e::es) t)
  (hn:x≠"__name__":=by decide) (i:(x==("__debug__":Str))=false:=by decide) (j:y≠"__name__":=by decide) (b:(y==("__debug__":Str))=false:=by decide)
  (q:starEach (e::es) X.env=(false,eval e X.env)::starEach es X.env:=by rfl) (k:(backTo a (starEach es X.env)).any (·.1)=false:=by rfl)
  (hs:starEach [.Call (.Name y c) (e::es) [] a] X.env=(false,eval (.Call (.Name y c) (e::es) [] a) X.env)::starEach [] X.env:=by rfl) :
  PE X (.Call (.Name x p) [.Call (.Name y c) (e::es) [] a] [] pos) (tCB r t):=by
 intro pins s σ H Q I h;refine a2A (xQ I m n o (PyProof.Rows.callWith_builtin1 ?_ hs (by rfl)) hn i);rw[hs]
 (show wpAny _ _ (spliced ((false,eval (.Call (.Name y c) (e::es) [] a) X.env)::backTo pos (starEach [] X.env))) _ _ s;refine Calls.spliced_cons (a2A (xQ I d f g (PyProof.Rows.callWith_type1 ?_ q k) j b)))
 exact thn (ha a pins s σ H _ I h) λus s1 ⟨vs,v,z,B,C⟩=>thn (l pins s1 σ v vs us Q z B C) λu s2 D=>Calls.spliced_nil D
def bF2{X:Cx}{pins:List (Addr×Obj)}{σ:St}{H:Hp}{s:Shared}{p:Addr}{b:Bool}{xs:List V}(I:Inv X pins σ H s)(a:X.calm=true)(h:eW H p=some (b,xs)) :
  ∃ items:List Value,bS xs items/\Nonempty (Src X.prog X.w X.A s.heap p items.toArray.size λi v=>items.toArray[i]? = some v):=by
 cases b with
 | true=>
   obtain⟨its,r,⟨o,n,c,d,f,e⟩,_⟩:=I.list (gW h);exact⟨its,r,⟨Src.list (I.ok.hd a) ⟨o,c,d,n,e⟩⟩⟩
 | false=>
   obtain⟨its,r,q,_⟩:=I.tuple (eA h);exact⟨its,r,⟨Src.tup (I.ok.hd a) q⟩⟩
end L2
namespace Dv
open PySem L2 Mr
end Dv
namespace L2
open PySem PySem.Spec PyProof.Rows Sx
theorem lL{prog:Program}{w:World}:∀ {k:List Int} {us:List Value},bS (k.map V.int) us->ItemsAre (intKind prog w) k us
 | [],_,.nil=>.nil
 | i::r,_,.cons h t=>by
   obtain⟨tk,rfl⟩:=h;exact .cons (by simp[intKind,Value.isInt]) (lL t)
def aF5{X:Cx}{pins:List (Addr×Obj)}{σ:St}{H:Hp}{s:Shared}{a:Addr}{k:List Int}(I:Inv X pins σ H s)(h:H a=some (.tup (k.map V.int))):kD X.prog X.w s.heap k a:=by
 obtain⟨its,r,⟨o,b,c,n,hd⟩,_⟩:=I.tuple (eA (cM h));exact⟨o,its.toArray,n,b,c,hd,by simpa using lL r⟩
def cP4(r:V->List V->Hp->VK->Prop)(to:TE)(t:TA):TE:=λσ H Q=>to σ H λx H1=>(∃ p xs,x=.ref p/\H1 p=some (.tup xs))/\t σ H1 λxs a=>r x xs a Q
section
variable{X:Cx}{o e:Expr}{es:List Expr}{to:TE}{t:TA}{name:Str}{apos cpos:Pos}{id:String}{r:V->List V->Hp->VK->Prop}
def bK2(slot:Slot "tuple" name id)(g:typeOf (.builtin id)=pure (.type "method_descriptor"))(n:MtR X id r)(q:PE X o to)(ha:PA X (e::es) t)
  (c:attributeBase o name X.env (eval o X.env)=eval o X.env:=by rfl)
  (f:((backTo cpos (starEach (e::es) X.env)).all (λx=>!x.1)&&(backToKw cpos (keywordEach [] X.env)).all (λx=>x.1.isSome)&&decide ((e::es).length+([]:List Keyword).length+(if([]:List Keyword).isEmpty then 0 else 1) < 30))=true:=by rfl)
  (d:(apos.endLine==cpos.line)=true:=by rfl) (hs:starEach (e::es) X.env=(false,eval e X.env)::starEach es X.env:=by rfl) (b:(backTo cpos (starEach es X.env)).any (·.1)=false:=by rfl) :
  PE X (.Call (.Attribute o name apos) (e::es) [] cpos) (cP4 r to t):=by
 intro pins s σ H Q I h;refine wpAny_Call_method_late c f d rfl (thn (q pins s σ H _ I h) λv s1 Z0=>?_);obtain⟨x,j,k,l,⟨p,xs,ex,u⟩,y⟩:=Z0;subst ex;have z:v=.ref p:=l;subst z;obtain⟨_,its,_,⟨ob,A,B,_⟩,⟨i,C,D⟩⟩:=(show dE X.prog X.w j s1.heap p (.tup xs)from k.hok p _ u);refine⟨"tuple",id,F.plainAttrs_tuple,slot,g,⟨ob,A,B⟩,λa E=>?_,?_⟩;cases E;exact⟨i,C,D⟩;have m:=ha cpos pins s1 σ j _ k y;rw[hs]at m ⊢;refine Calls.callWith_builtin (by show(false||(backTo cpos (starEach es X.env)).any (·.1))=false;rw[b]<;>rfl) (Calls.evalArgs_plain ?_);exact thn m λus s2 ⟨vs,G,J,K,L⟩=>n pins s2 σ G (.ref p) vs _ us Q J l K L
end
theorem zU:∀ (x y:List Int),HT.lexLt x y=tlt x y
 | [],[]=>rfl
 | [],_::_=>rfl
 | _::_,[]=>rfl
 | a::x,b::y=>by
   rw[HT.lexLt_cons,zU x y];rfl
def cP5:R2:=λx y H Q=>(∃ i j,x=.int i/\y=.int j/\Q (.bl (decide (i < j))) H)\/∃ a b ns c,x=.ref a/\y=.ref b/\H a=some (.tup (ns.map V.int))/\H b=some (.tup (c.map V.int))/\Q (.bl (tlt ns c)) H
def cE8{X:Cx}(e:X.A.units < cLine):OpR X (compareOp .Lt) cP5:=by
 intro pins s σ H x y v u Q I c d h;rcases h with⟨i,j,rfl,rfl,q⟩ | ⟨a,b,ns,ms,rfl,rfl,ha,hb,q⟩;exact cJ9 pins s σ H _ _ v u Q I c d ⟨i,j,rfl,rfl,q⟩;exact cA3 e pins s σ H _ _ v u Q I c d ⟨a,b,ns,ms,rfl,rfl,SqT.of ha,SqT.of hb,by rw[zU];exact q⟩
end L2
namespace Dv
open PySem L2 Mr Sx
noncomputable def zV:List D->Option (List Int)
 | []=>some []
 | .int i::r=>(zV r).bind λl=>some (i::l)
 | _::_=>none
theorem sK:∀ {l:List D} {a:List Int},zV l=some a->l=a.map D.int
 | [],_,h=>by cases h;rfl
 | .int s::r,_,h=>by
   obtain⟨l,b,c⟩:=aC h;cases c;rw[sK b];rfl
 | .non::_,_,h=>by cases h
 | .str _::_,_,h=>by cases h
 | .bl _::_,_,h=>by cases h
 | .tup _::_,_,h=>by cases h
 | .lst _::_,_,h=>by cases h
 | .dic _ _::_,_,h=>by cases h
def aX4(zs:List Int):zV (zs.map D.int)=some zs:=by
 induction zs with
 | nil=>rfl
 | cons b r a=>show(zV (r.map D.int)).bind _=_;rw[a];rfl
noncomputable abbrev tI(k:List Int):D:=.tup (k.map D.int)
noncomputable def aF6:List D->Option (List (List Int))
 | []=>some []
 | .tup k::r=>(zV k).bind λa=>(aF6 r).bind λl=>some (a::l)
 | _::_=>none
theorem aK6:∀ {l:List D} {a:List (List Int)},aF6 l=some a->l=a.map tI
 | [],_,h=>by cases h;rfl
 | .tup k::r,_,h=>by
   obtain⟨e,b,h⟩:=aC h;obtain⟨l,c,d⟩:=aC h;cases d;rw[aK6 c,sK b];rfl
 | .non::_,_,h=>by cases h
 | .str _::_,_,h=>by cases h
 | .bl _::_,_,h=>by cases h
 | .int _::_,_,h=>by cases h
 | .lst _::_,_,h=>by cases h
 | .dic _ _::_,_,h=>by cases h
def zW(zs:List (List Int)):aF6 (zs.map tI)=some zs:=by
 induction zs with
 | nil=>rfl
 | cons b r a=>show(zV (b.map D.int)).bind (λc=>(aF6 (r.map tI)).bind _)=_;rw[a,aX4];rfl
def cM7{H:Hp}{k:List Int}{v:V}(h:Rp H (tI k) v):∃ a,v=.ref a/\H a=some (.tup (k.map V.int)):=by
 cases h with
 | tup h r=>rw[r.ints_inv]at h;exact⟨_,rfl,h⟩
theorem bK3{H:Hp}:∀ {ks:List (List Int)} {xs:List V},Rps H (ks.map tI) xs->∃ ps:List Addr,xs=ps.map V.ref/\ps.length=ks.length/\∀ (i:Nat) a k,ps[i]? = some a->ks[i]? = some k->H a=some (.tup (k.map V.int))
 | [],_,h=>by cases h;exact⟨[],rfl,rfl,λi a k e=>by simp at e⟩
 | k::ks,_,h=>by
   rw[a2e]at h;cases h with
   | cons a t=>
     obtain⟨p,rfl,d⟩:=cM7 a;obtain⟨ps,rfl,f,g⟩:=bK3 t;refine⟨p::ps,rfl,by simp[f],λi a j b c=>?_⟩;cases i with
     | zero=>simp at b c;subst b c;exact d
     | succ i=>exact g i a j (by simpa using b) (by simpa using c)
theorem aX5{H:Hp}:∀ {ks:List (List Int)} {ps:List Addr},ps.length=ks.length->(∀ (i:Nat) a k,ps[i]? = some a->ks[i]? = some k->H a=some (.tup (k.map V.int)))->Rps H (ks.map tI) (ps.map V.ref)
 | [],[],_,_=>.nil
 | [],_::_,h,_=>by simp at h
 | _::_,[],h,_=>by simp at h
 | k::ks,p::ps,h,b=>.cons (.tup (b 0 p k rfl rfl) (wL k)) (aX5 (by simpa using h) λi a c d e=>b (i+1) a c (by simpa using d) (by simpa using e))
theorem fE{n:Nat}{σ:Sg}{a:DGs}{z:Str}{K:Sg->Prop}:OK1 (aT5 n a (.str z) σ) K=(z.length=n/\OK1 (a (hU z) σ) K):=by
 show OK1 (if z.length=n then a (hU z) σ else none) K=_;rw[bA]
noncomputable def ltA:F2:=λd e=>match d,e with
 | .int i,.int j=>some (.val (.bl (decide (i < j))))
 | .tup x,.tup y=>(zV x).bind λns=>(zV y).bind λa=>some (.val (.bl (tlt ns a)))
 | _,_=>none
def bT1:xO cP5 ltA:=by
 intro H l m x y Q res a b e k;unfold ltA at e;split at e;cases e;rw[cW a,cW b];exact .inl ⟨_,_,rfl,rfl,k _ _ (.refl _) (.bl _)⟩;obtain⟨ns,h,e⟩:=aC e;obtain⟨i,j,e⟩:=aC e;cases e;obtain⟨p,xs,rfl,c,d⟩:=eM a;obtain⟨q,ys,rfl,f,g⟩:=eM b;rw[sK h]at d;rw[sK j]at g;rw[d.ints_inv]at c;rw[g.ints_inv]at f;exact .inr ⟨p,q,ns,i,rfl,rfl,c,f,k _ _ (.refl _) (.bl _)⟩;cases e
theorem rY{i j:Int}{K:Res->Prop}:OK1 (ltA (.int i) (.int j)) K=K (.val (.bl (decide (i < j)))):=rfl
abbrev FT:=List D->D->Option D
def cP6(r:V->List V->Hp->L2.VK->Prop)(f:FT):Prop:=∀ H l xs e p y Q d,H p=some (.tup xs)->Rps H l xs->Vw H e y->f l e=some d->(∀ v,Rp H d v->Q v H)->r (.ref p) [y] H Q
noncomputable def dMT(f:FT)(a b:DE):DE:=λσ=>(a σ).bind λx=>match x.1 with
 | .val (.tup l)=>(b x.2).bind λy=>(rd y.2 y.1).bind λe=>(f l e).bind λd=>some (.val d,y.2)
 | _=>none
def cE9{X:Cx}{e:Expr}{r:V->List V->Hp->L2.VK->Prop}{f:FT}{n o:DE}(B:cP6 r f)(h:∀ Γ,PE X e (cP4 r (dTE Γ n) (dTA Γ (aD o aN)))):GE X e (dMT f n o):=.mk λΓ=>peW (h Γ) λσV H Q ⟨σ,ok,res,σ',e,k⟩=>by
 have q:=e;clear e;obtain⟨⟨x,a⟩,C,f1⟩:=aC q;clear q;dsimp only at f1;have D:∃ l,x=.val (.tup l):=by
  cases x with
  | val E=>
    cases E with
    | tup l=>exact⟨l,rfl⟩
    | _=>cases f1
  | _=>cases f1
 obtain⟨l,rfl⟩:=D;refine⟨σ,ok,_,a,C,λv1 F b G i _=>?_⟩;obtain⟨⟨y,j⟩,s,f2⟩:=aC f1;obtain⟨I,u,J⟩:=aC f2;obtain⟨d,K,L⟩:=aC J;cases L;dsimp only at s u;have m:Rp F (.tup l) v1:=G;obtain⟨p,xs,rfl,w,M⟩:=eM (.inl m);refine⟨⟨p,xs,rfl,w⟩,a,b,[y],j,?_,λvs z c N g _=>?_⟩;show((_:Option _).bind _)=_;rw[s];rfl;cases N with
 | cons O t _=>
   cases t;have A:=g.ext b;refine B z l xs I p _ Q d (A.tup _ _ w) (M.mono A) (O.vw c u) K λv P=>?_;exact k v z c P (i.trans g) eL
theorem zX{σ:Sg}{f:FT}{c g:DE}{Q:Res->Sg->Prop}:RE (dMT f c g) σ Q=RE c σ λx a=>OK1 (match x with | .val (.tup l)=>some l | _=>none) λl=>RE g a λy b=>RD b y λe=>OK1 (f l e) λd=>Q (.val d) b:=by
 unfold RE RD dMT;simp only[aK];congr 1;funext x;obtain⟨x,a⟩:=x;cases x with
 | val d=>
   cases d with
   | tup l=>simp only[aK];rfl
   | _=>rfl
 | _=>rfl
end Dv
namespace L2
def bK4{A:PySem.Around}{k:Nat}(a:Room k A):A.units+8 < PySem.cLine:=by have:=a.un;lia
open PySem PySem.Spec PyProof.Rows Sx
theorem aK7(k:List Int):∀ l:List (List Int),(aQ2 k l).length<=l.length+1
 | []=>by simp[aQ2]
 | x::l=>by
   have:=aK7 k l;unfold aQ2
   repeat' split
   all_goals (simp;try lia)
theorem uC:∀ l:List (List Int),(srt l).length<=l.length
 | []=>by simp[srt]
 | x::l=>by
   have:=uC l;have:=aK7 x (srt l);show(aQ2 x (srt l)).length<=_;simp;lia
def zY:List V->Hp->VK->Prop:=λvs H Q=>∃ (p:Addr) (b:Bool) (ps:List Addr) (ks:List (List Int)),vs=[.ref p]/\eW H p=some (b,ps.map V.ref)/\ps.length=ks.length/\(∀ (i:Nat) a k,ps[i]? = some a->ks[i]? = some k->H a=some (.tup (k.map V.int))) /\
 ks.length < 4000/\(2<=(srt ks).length->∀ k∈ks,k≠[]) /\
 ∀ r (c:List Addr),H r=none->c.length=(srt ks).length->(∀ (i:Nat) a k,c[i]? = some a->(srt ks)[i]? = some k->H a=some (.tup (k.map V.int)))->Q (.ref r) (upd H r (.lst (c.map V.ref)))
def lM{X:Cx}(hc:X.calm=true)(hu:X.A.units+8 < cLine):∀ pins s σ H vs us Q,Inv X pins σ H s->bS vs us->zY vs H Q ->
  wpAny (model X.prog X.w) X.A (call (.type "set") us) (λu s1=>wpAny (model X.prog X.w) X.A (call (.builtin "sorted") [u]) (EP X pins σ Q) X.xe s1) X.xe s:=by
 intro pins s σ H vs us Q I rv h;obtain⟨p,b,ps,ks,rfl,hH,hl,K,hn,L,q⟩:=h;obtain⟨u,rfl,ru⟩:=rv.one;cases ru;obtain⟨its,r,⟨M⟩⟩:=bF2 I hc hH;have B:ps.length=its.length:=by simpa using r.length
 have alive:∀ a∈ps,a < s.heap.objs.size:=λa ha=>by
  obtain⟨i,hi,e⟩:=a6f ha;have n:i < ks.length:=by lia
  obtain⟨o,_,_,ho,_⟩:=aF5 I (K i a ks[i] (by rw[a1a hi,e]) (a1a n));exact a5b ho
 have T0:fD X.prog X.w s.heap (· ∈ ps) ks its.toArray:=by
  refine⟨by rw[a4b];lia,λi v e=>?_⟩;rw[a4d]at e;have hi:i < ps.length:=by rw[B];exact(a0a.mp e).1
  have n:i < ks.length:=by lia
  obtain⟨v',e',O⟩:=r.get (i:=i) (x:=.ref ps[i]) (by rw[a2c,a1a hi];rfl);rw[e]at e';cases e';cases O;exact⟨ks[i],ps[i],a1a n,rfl,aF5 I (K i _ _ (a1a hi) (a1a n)),List.getElem_mem hi⟩
 have nS:¬ s.heap.objs.size∈ps:=λz=>absurd (alive _ z) (a2f _);have nI:¬ s.heap.objs.size+1∈ps:=λz=>absurd (alive _ z) (a2j.mpr (Nat.le_succ _));refine bE6 M (λA' ha hu'=>aW5 (prog:=X.prog) (w:=X.w) (led:=eH X.w) (N:=(· ∈ ps)) (ks:=ks) (by lia) nS nI (a2d (a2h _)) hn) (λh' hS C=>?_) λh' tk ⟨T1,us,X1,_,hm⟩ d=>?_;refine⟨T0.stay λc ob _ e=>C c ob e,[],⟨_,#[],0,_,hS,⟨rfl,rfl,rfl⟩,rfl,?_,?_,rfl,rfl,rfl,λi e he=>by simp at he,.nil⟩,a7a _,λx=>by simp⟩;refine⟨⟨3,rfl⟩,a7a _,rfl,λi j a b _ e=>by simp[SetTable.fresh]at e,λi j e=>by simp[SetTable.fresh]at e,rfl,by simp[SetTable.fresh],λi h e=>by simp at e⟩;simp[SetTable.fresh];obtain⟨o,es,ep,t,Y⟩:=X1;have y:∀ x,x∈us↔x∈ks:=λx=>by
  rw[hm x,a8c (by rw[a4b];lia)]
 have pl:us.length=(srt ks).length:=((List.perm_ext_iff_of_nodup Y.nd (aX3 (gH ks))).mpr λx=>by rw[y x,dZ]).length_eq;have P:es.size=(srt ks).length:=by rw[← Y.len];exact pl
 have E:s.heap.objs.size < h'.objs.size:=a5b Y.ob;have sl:(srt ks).length<=ks.length:=uC ks;have R:es.size<=sizeLine:=by rw[P,a2F];lia
 refine zT (s:={s with heap:=h',toks:=tk}) (I.ok.hd hc) Y (λa ha=>a4g (alive a ha) E) R (λh2 k S=>L (by lia) k ((y k).mp S)) y λh2 T D vs c hD U W m=>?_
 -- the addresses of what is told
 have hq:∃ qs:List Addr,vs=qs.map Value.ref/\qs.length=(srt ks).length/\∀ (i:Nat) a k,qs[i]? = some a->(srt ks)[i]? = some k->H a=some (.tup (k.map V.int)):=by
  have f:∀ v∈vs,∃ a,v=Value.ref a:=λv J=>by
   obtain⟨i,hi,e⟩:=a6f J;obtain⟨_,a,_,Z,_⟩:=W.2 i v (by rw[a4d,a1a hi,e]);exact⟨a,Z⟩
  have g:∀ vs:List Value,(∀ v∈vs,∃ a,v=Value.ref a)->∃ qs:List Addr,vs=qs.map Value.ref:=by
   intro vs
   induction vs with
   | nil=>intro _;exact⟨[],rfl⟩
   | cons v r ih=>
     intro J;obtain⟨a,rfl⟩:=J v a3a;obtain⟨qs,rfl⟩:=ih λx hx=>J x (a4a _ hx);exact⟨a::qs,rfl⟩
  obtain⟨qs,rfl⟩:=g vs f;have l1:qs.length=(srt ks).length:=by have:=W.1;simpa using this.symm
  refine⟨qs,rfl,l1,λi a k ea ek=>?_⟩;obtain⟨k',a',e1,Z,e3,e4⟩:=W.2 i (.ref a) (by rw[a4d,a2c,ea];rfl);rw[ek]at e1;cases e1;cases Z;obtain⟨j,hj,ej⟩:=a6f e4;have hj':j < ks.length:=by lia
  have F:=K j a ks[j] (by rw[a1a hj,ej]) (a1a hj');have t1:kD X.prog X.w h2 ks[j] a:=(aF5 I F).at λob hob=>m a ob (d a ob hob);rw[e3.inj t1];exact F
 obtain⟨qs,rfl,ql,qh⟩:=hq;have G:s.heap.objs.size<=D:=a0b (a3g E) hD;refine⟨.ref D,upd H D (.lst (qs.map V.ref)),?_,rfl,q D qs (I.hok.fresh G) ql qh⟩;refine I.laid (t':=T) (λb ob e=>m b ob (d b ob e)) G ⟨by rw[a8a,ql,a2F];lia,qs.map Value.ref,c,?_,U⟩;have vr:∀ l:List Addr,bS (l.map V.ref) (l.map Value.ref):=by
  intro l
  induction l with
  | nil=>exact .nil
  | cons a r ih=>exact .cons rfl ih
 exact vr qs
end L2
namespace Dv
open PySem L2 Mr Sx
open Classical in
noncomputable def fF:FN:=λa=>match a with
 | [d]=>(bV7 d).bind λx=>(aF6 x.2).bind λks=>if ks.length < 4000/\(2<=(srt ks).length->∀ k∈ks,k≠[])then some (.own (.lst ((srt ks).map tI)))else none
 | _=>none
def rZ:bP6 zY fF:=by
 intro H x vs Q res vw e k;unfold fF at e;split at e
 ·obtain⟨⟨b,l⟩,h,e⟩:=aC e;obtain⟨ks,c,e⟩:=aC e;dsimp only at c;split at e
  ·rename_i d;cases e;cases vw with
   | cons a t=>
     cases t;obtain⟨p,xs,rfl,j,f⟩:=aS6 a h;rw[aK6 c]at f;obtain⟨ps,rfl,m,n⟩:=bK3 f;refine⟨p,b,ps,ks,rfl,j,m,n,d.1,d.2,λr o g q s=>?_⟩;have sm:xN H (upd H r (.lst (o.map V.ref))):=bM g;exact k _ _ sm ⟨r,rfl,g,_,aO,aX5 q λi a u v w=>sm _ _ (s i a u v w)⟩
  ·cases e
 ·cases e
def cF0{ks:List (List Int)}{K:Res->Prop}:OK1 (fF [.lst (ks.map tI)]) K=((ks.length < 4000/\(2<=(srt ks).length->∀ k∈ks,k≠[]))/\K (.own (.lst ((srt ks).map tI)))):=by
 show OK1 ((aF6 (ks.map tI)).bind _) K=_;rw[zW];show OK1 (if _ then _ else none) K=_;rw[bA];rfl
def cF1{ks:List (List Int)}{K:Res->Prop}:OK1 (fF [.tup (ks.map tI)]) K=((ks.length < 4000/\(2<=(srt ks).length->∀ k∈ks,k≠[]))/\K (.own (.lst ((srt ks).map tI)))):=by
 show OK1 ((aF6 (ks.map tI)).bind _) K=_;rw[zW];show OK1 (if _ then _ else none) K=_;rw[bA];rfl
end Dv
namespace PySem
open Sem (wp)
section
variable{prog:Program}{w:World}{K:Type}[DecidableEq K]{knd:HeapKind prog w K}{A:Around}{E:Value->Shared->Prop}{s:Shared}
def bF3{d a:Addr}{xs:List (K×Addr×Value)}{k:K}{v:Value}{Q:Value->Shared->Prop}(m:knd.room A)(c:knd.is s.heap k a)(n:s.heap.DictOfH knd d xs)(hsz:xs.length<=sizeLine)
  (r:∀ p,atKey xs k=some p->Q p.2 {s with toks:=s.toks+knd.draws k})
  (u:atKey xs k=none->∀ h',h'.DictOfH knd d (xs++[(k,a,v)])->Heap.SameBut d s.heap h'->Q v {s with heap:=h',toks:=s.toks+knd.draws k}) :
  wpAny (model prog w) A (dictSetDefault d (.ref a) v) Q E s:=by
 obtain⟨o,es,ep,g,B,hd,i,h,hn⟩:=n;have kp:∀ {x:K} {b:Addr} (f:Array DictEntry->Array DictEntry),knd.is s.heap x b->knd.is (s.heap.update d (Obj.mapDictKeys f)) x b:=λf t=>knd.keeps t g hd (a0h ..);unfold dictSetDefault
 try with_reducible refine a2m ?_
 refine a1X (knd.pyHash m c (a1X (wpAny_dictFind_heap (s:={s with toks:=s.toks+knd.draws k}) m c g hd i h hn (λno=>?_) λj p hj=>?_)))
 ·have out:k∉xs.map (·.1):=not_mem_keys_of_get no;have q:=u (atKey_none_of_get no);refine a1X (a2y (a1X (wpAny_updateDictKeys (s:={s with toks:=s.toks+knd.draws k}) (hz:=by have:=size_of_entries i;lia) g hd (a1Y (q _ ?_ (a0h ..))))));refine⟨_,_,ep+1,a0e _ g (Obj.isFreed_of_dict (Obj.data_mapDictKeys hd _)),B.mapDictKeys _,Obj.data_mapDictKeys hd _,by simp[i,entryOfKey],λx l=>?_,?_⟩;rcases a1c.mp l with z | z;exact kp _ (h x z);cases a7b.mp z;exact kp _ c;simp only[List.map_append,List.map_cons,List.map_nil];exact List.nodup_append.mpr ⟨hn,by simp,λx l y C e=>out (by cases a7b.mp C;exact e ▸ l)⟩
 ·refine a1X (wpAny_dictEntries (s:={s with toks:=s.toks+knd.draws k}) g hd ?_);rw[entry_at i j,hj];exact a1X (a2y (a1Y (r p (atKey_of_get hn hj))))
def aP5(knd:HeapKind prog w K)(d a:Addr)(hd:(d==sysModules)=false)(dflt:Value) :
  MeetsIn prog w (Builtin.«dict.setdefault» ⟨[.ref d,.ref a,dflt],[]⟩) (λA R s=>knd.room A.in1/\∃ k xs,knd.is s.heap k a/\s.heap.DictOfH knd d xs/\xs.length<=sizeLine /\
   (∀ p,atKey xs k=some p->R (.ok (.ret p.2)) {s with toks:=s.toks+knd.draws k}) /\
   (atKey xs k=none->∀ h',h'.DictOfH knd d (xs++[(k,a,dflt)])->Heap.SameBut d s.heap h'->R (.ok (.ret dflt)) {s with heap:=h',toks:=s.toks+knd.draws k})):=
 .of_wp λA R s ⟨f,k,xs,b,c,g,h,i⟩=>by
  have j:s.TypeIs (.ref d) "dict":=c.typeIs;unfold Builtin.«dict.setdefault» Builtin.Dict.keyAndDefault;refine a1X (a1X (wpAny_notOrdered_dict j (a1Y ?_)));show wpAny _ _ (if(d==sysModules)=true then _ else dictSetDefault d (.ref a) dflt >>= _) _ _ s;rw[hd,a2k a9d];exact a1X (bF3 f b c g (λp e=>a1Y ⟨_,rfl,h p e⟩) λe h' m l=>a1Y ⟨_,rfl,i e h' m l⟩)
end
end PySem
namespace L2
open PySem PySem.Spec PyProof.Rows
def DTa(H:Hp)(a:Addr)(kvs:List (List Key×V)):Prop:=H a=some (.dT kvs)\/H a=some (.dK [])/\kvs=[]
def cF2{P:Program}{w:World}{H:Hp}{h:Heap}{a:Addr}{kvs:List (List Key×V)}(ok:HOk P w H h)(e:DTa H a kvs):(a==sysModules)=false/\∃ xs,KT H kvs xs/\h.DictOfH (tupleKind (cF P w)) a xs:=by
 rcases e with e | ⟨e,rfl⟩;obtain⟨_,hd,xs,rel,c⟩:=cL4 ok e;exact⟨hd,xs,rel,c⟩;obtain⟨_,hd,vs,rel,c⟩:=cL3 ok e;cases rel;obtain⟨o,es,ep,d,f,b,k,g,hn⟩:=c;have i:es.toList=[]:=a7c g.length;exact⟨hd,[],.nil,o,es,ep,d,f,b,by rw[i];rfl,λx j=>by simp at j,.nil⟩
theorem cP7{b c:Type}{R:b->c->Prop}{x:b}{y:c}:∀ {l:List b} {m:List c},Paired R l m->R x y->Paired R (l++[x]) (m++[y])
 | _,_,.nil,h=>.cons h .nil
 | _,_,.cons a t,h=>.cons a (cP7 t h)
section
variable{X:Cx}{pins:List (Addr×Obj)}{σ:St}{H:Hp}{s:Shared}{a b:Addr}{z:V}{r:Value}{kvs:List (List Key×V)}{k:List Key}{A:Around}{E:Value->Shared->Prop}
def cM8{Q:Value->Shared->Prop}(t:A.units+1 < cLine)(I:Inv X pins σ H s)(e:DTa H a kvs)(h:H b=some (.tup (k.map kV)))(l:kvs.length < sizeLine)(u:eI z r)
  (x:∀ v i s',lV kvs k=some v->Inv X pins σ H s'->eI v i->Q i s') (y:lV kvs k=none->∀ s',Inv X pins σ (upd H a (.dT (kvs++[(k,z)]))) s'->Q r s') :
  wpAny (model X.prog X.w) A (call (.builtin "dict.setdefault") [.ref a,.ref b,r]) Q E s:=by
 obtain⟨hd,xs,rel,j⟩:=cF2 I.hok e;have K:xs.length=kvs.length:=(Paired.length rel).symm;refine call_meetsIn F.slot_dict_setdefault j.typeIs F.entry_dict_setdefault (F.args_dict_setdefault_3 _ _ _) (aP5 (tupleKind (cF X.prog X.w)) a b hd r) ⟨tupleKind_room_in1 t,k,xs,aH9 I.hok h,j,by lia,λp B=>?_,λhn h' g hs=>?_⟩
 ·have q:=rel.val k;rw[B]at q;cases d:lV kvs k with
  | none=>rw[d]at q;exact nomatch q
  | some v=>rw[d]at q;exact x v _ _ d (I.tok _) q
 ·have q:=rel.val k;rw[hn]at q;have d:lV kvs k=none:=by
   cases d:lV kvs k with
   | none=>rfl
   | some v=>rw[d]at q;exact nomatch q
  refine y d _ ?_;obtain⟨o,es,ep,m,C,D,G,_,J⟩:=g;have f:KT H (kvs++[(k,z)]) (xs++[(k,b,r)]):=cP7 rel ⟨rfl,h,u⟩;refine bP3 I (by rcases e with e | ⟨e,_⟩<;>(rw[e];exact True.intro)) hs ⟨o,m⟩ ⟨by simp;lia,hd,_,f.keeps λc ys n=>?_,o,es,ep,m,C,D,G,J⟩;rw[aL (by rcases e with e | ⟨e,_⟩<;>exact cI9 n e λz=>nomatch z)];exact n
end
def cM9(d ty tx:TE):TE:=λσ H Q=>d σ H λx c=>∃ a,x=.ref a/\IsD c a/\ty σ c λy e=>tx σ e λz H3=>∃ kvs k b,DTa H3 a kvs/\y=.ref b/\H3 b=some (.tup (k.map kV))/\kvs.length < sizeLine /\
 (∀ v,lV kvs k=some v->Q v H3)/\(lV kvs k=none->Q z (upd H3 a (.dT (kvs++[(k,z)]))))
def cF3{X:Cx}{o e f:Expr}{apos cpos:Pos}{g ty tx:TE}(l:X.A.units+1 < cLine)(n:PE X o g)(p:PE X e ty)(q:PE X f tx)(m:M2 X o "setdefault" apos e f cpos):PE X (.Call (.Attribute o "setdefault" apos) [e,f] [] cpos) (cM9 g ty tx):=by
 intro pins s σ H Q I h;refine wpAny_Call_method m.base m.few m.line F.plainAttrs_dict F.slot_dict_setdefault F.type_dict_setdefault (thn (n pins s σ H _ I h) λu s1 Z0=>?_);obtain⟨x,r,i,t,a,ex,d,w⟩:=Z0;subst ex;obtain rfl:u=Value.ref a:=t;obtain⟨B,C,_⟩:=bI0 i d;refine⟨B,C,?_⟩;rw[m.trees];refine Calls.callWith_builtin rfl (Calls.evalArgs_plain (Calls.spliced_cons (thn (p pins s1 σ r _ i w) λD s2 ⟨y,E,G,J,K⟩=>Calls.spliced_cons (thn (q pins s2 σ E _ G K) λW Y ⟨z,L,M,j,kvs,k,b,N,O,P,R,S,T⟩=>Calls.spliced_nil ?_))));subst O;obtain rfl:D=Value.ref b:=J;exact cM8 l M N P R j (λv Z U e c V=>⟨v,L,c,V,S v e⟩) λe U c=>⟨z,_,c,j,T e⟩
end L2
namespace Dv
open PySem L2 Mr
section
variable{X:Cx}{E:Ex}{st:Stmt}{ss dG:List Stmt}{r:DS}{a b m:MS}{pos:Pos}
end
end Dv
namespace L2
open PySem Dv
inductive FQ(Q:Hp->Prop):Hp->Prop
 | done {H:Hp}:Q H->FQ Q H
 | step {H:Hp} {p:Addr} {u:HO}:H p=some u->Fz u->(∀ o,FQ Q (upd H p (.frz o u)))->FQ Q H
end L2
namespace Dv
open PySem L2
structure Hid(Γ:Gm)(σ:Sg)(σV:St)(q:Addr):Prop where
 nv:¬ aI1 σ σV q
 h0:Γ.H₀ q=none
section
variable{Γ:Gm}{H H':Hp}{σ σ':Sg}{σV σV':St}{q g:Addr}{o o':HO}
def Hid.step(h:Hid Γ σ σV q)(st:Step σ σV H σ' σV' H')(e:H q=some o):Hid Γ σ' σV' q/\H' q=some o:=
 ⟨⟨λz=>(st.nv q z).elim h.nv λz=>(by rw[e]at z;cases z),h.h0⟩,st.fr q o e λz=>h.nv z.nv⟩
def bK5(H:Hp)(q:Addr):Prop:=H q=none\/∃ o,H q=some o/\Fz o
def xF{L:Addr->Prop}(h:∀ a,L a->bK5 H a)(k:∀ a,¬ L a->H' a=H a):Ext H H':=by
 refine⟨λb xs e=>?_,λb ob x e=>?_⟩<;>rw[k b λz=>?_]<;>first | exact e | (rcases h b z with s | ⟨o,s,f⟩<;>rw[s]at e<;>cases e;exact f)
def StOk.hids{L:Addr->Prop}(ok:StOk Γ H σ σV)(h:∀ a,L a->Hid Γ σ σV a/\bK5 H a)(k:∀ a,¬ L a->H' a=H a):StOk Γ H' σ σV:=
 ⟨λi t e=>by
  obtain⟨v,b,r⟩:=ok.rel i t e;refine⟨v,b,r.mono (xF (λa z=>(h a z).2) k) λp x c m ex=>?_⟩;rw[k p λz=>(h p z).1.nv ⟨i,t,e,m,by rw[b,c]⟩];exact ex,ok.dis,ok.own,ok.par,
  λa x e n=>by rw[k a λz=>(by have:=(h a z).1.h0;rw[this]at e;cases e)];exact ok.keep a x e n,
  λa e=>by
   by_cases z:L a;exact(h a z).1.h0;rw[k a z]at e;exact ok.dom a e,ok.len⟩
def Step.hids{L:Addr->Prop}{c:Sg}{b:St}{d:Hp}(st:Step c b d σ σV H)(h:∀ a,L a->(d a=none\/gP c b a)/\H' a≠none)(k:∀ a,¬ L a->H' a=H a):Step c b d σ σV H':=
 ⟨λa x e n=>by rw[k a λz=>(by rcases(h a z).1 with q | q;(rw[e]at q;cases q);exact n q)];exact st.fr a x e n,
  λa e=>by
   by_cases z:L a;exact absurd e (h a z).2;rw[k a z]at e;exact st.dom a e,st.mu,st.nv,st.kp,st.fix,st.lt⟩
def bT2{a:Addr}(z:¬ a=q):upd H q o' a=H a:=aL z
def StOk.hid(ok:StOk Γ H σ σV)(h:Hid Γ σ σV q)(s:bK5 H q):StOk Γ (upd H q o') σ σV:=ok.hids (L:=(· = q)) (λa e=>by subst e;exact⟨h,s⟩) λa z=>bT2 z
def Step.hid{c:Sg}{b:St}{d:Hp}(st:Step c b d σ σV H)(h:d q=none\/gP c b q):Step c b d σ σV (upd H q o'):=st.hids (L:=(· = q)) (λa e=>by subst e;exact⟨h,by rw[aO];exact λz=>nomatch z⟩) λa z=>bT2 z
def bK5.ext(s:bK5 H q):Ext H (upd H q o'):=xF (L:=(· = q)) (λa e=>by subst e;exact s) λa z=>bT2 z
end
section
variable{Γ:Gm}{H H':Hp}{σ σ':Sg}{σV σV':St}{g p:Nat}
noncomputable abbrev SG:Sl:=⟨.own,.dic [] []⟩
def uD{s t:Sl}{i:Nat}(h:(σ.set g (some s))[i]? = some (some t)):(i=g/\t=s)\/(i≠g/\σ[i]? = some (some t)):=by
 rcases aX h with⟨z,a,_⟩ | ⟨z,a⟩;cases a;exact .inl ⟨z,rfl⟩;exact .inr ⟨z,a⟩
def Step.wide(st:Step σ σV H σ' σV' H')(f:g < σ.length)(t:σ'.length=σ.length)(q:σV[g]? = some (some (.ref p)))(k:σV'[g]? = some (some (.ref p))):Step (σ.set g (some SG)) σV H (σ'.set g (some SG)) σV' H':=by
 have up:∀ {a},gP σ σV a->gP (σ.set g (some SG)) σV a:=λ{a} ⟨i,s,c,d,b⟩=>by
  by_cases z:i=g;subst z;exact⟨i,SG,by rw[a1b f],rfl,b⟩;exact⟨i,s,by rw[a2a (a1d z)];exact c,d,b⟩
 have j:∀ {a},aI1 σ σV a->aI1 (σ.set g (some SG)) σV a:=λ{a} ⟨i,s,c,d,b⟩=>by
  by_cases z:i=g;subst z;exact⟨i,SG,by rw[a1b f],(λz=>nomatch z),b⟩;exact⟨i,s,by rw[a2a (a1d z)];exact c,d,b⟩
 have l:gP (σ.set g (some SG)) σV p:=⟨g,SG,by rw[a1b f],rfl,q⟩;refine⟨λa o e n=>st.fr a o e λz=>n (up z),st.dom,λa ⟨i,s,c,d,b⟩=>?_,λa ⟨i,s,c,d,b⟩=>?_,λi s h=>?_,λi s h m=>?_,λi s h m=>?_⟩;rcases uD c with⟨rfl,rfl⟩ | ⟨z,c⟩;rw[k]at b;cases b;exact .inl l;exact(st.mu a ⟨i,s,c,d,b⟩).imp up id;rcases uD c with⟨rfl,rfl⟩ | ⟨z,c⟩;rw[k]at b;cases b;exact .inl l.nv;exact(st.nv a ⟨i,s,c,d,b⟩).imp j id;rcases uD h with⟨rfl,rfl⟩ | ⟨z,h⟩;exact⟨SG,by rw[a1b (by lia)]⟩;obtain⟨s',h'⟩:=st.kp i s h;exact⟨s',by rw[a2a (a1d z)];exact h'⟩;rcases uD h with⟨rfl,rfl⟩ | ⟨z,h⟩;rcases m with m | m<;>cases m;obtain⟨s',h',r⟩:=st.fix i s h m;exact⟨s',by rw[a2a (a1d z)];exact h',r⟩;rcases uD h with⟨rfl,rfl⟩ | ⟨z,h⟩;cases m;obtain⟨s',h',r⟩:=st.lt i s h m;exact⟨s',by rw[a2a (a1d z)];exact h',r⟩
def Step.drop(st:Step σ σV H (σ'.set g (some SG)) σV' H')(h0:σ[g]? = some none)(b:∀ s,σ'[g]? ≠ some (some s)):Step σ σV H σ' σV' H':=by
 have up:∀ {i:Nat} {s:Sl},σ'[i]? = some (some s)->(σ'.set g (some SG))[i]? = some (some s):=λ{i s} h=>by
  rw[a2a (λz=>b s (by rw[z];exact h))];exact h
 refine⟨st.fr,st.dom,λa ⟨i,s,e,r⟩=>st.mu a ⟨i,s,up e,r⟩,λa ⟨i,s,e,r⟩=>st.nv a ⟨i,s,up e,r⟩,λi s h=>?_,λi s h m=>?_,λi s h m=>st.lt i s (up h) m⟩;obtain⟨s',h'⟩:=st.kp i s h;rcases uD h' with⟨rfl,rfl⟩ | ⟨z,h'⟩;rw[h0]at h;cases h;exact⟨s',h'⟩;obtain⟨s',h',r⟩:=st.fix i s h m;rcases uD h' with⟨rfl,rfl⟩ | ⟨z,h'⟩;rw[h0]at h;cases h;exact⟨s',h',r⟩
def StOk.forget(ok:StOk Γ H σ σV):StOk Γ H (σ.set g none) σV:=by
 have up:∀ {i:Nat} {s:Sl},(σ.set g none)[i]? = some (some s)->σ[i]? = some (some s):=λ{i s} h=>by
  rcases aX h with⟨z,a,_⟩ | ⟨z,a⟩;cases a;exact a
 exact⟨λi s e=>ok.rel i s (up e),λi j s t q n b c=>ok.dis i j s t q n (up b) (up c),λi s q e=>ok.own i s q (up e),λi s q e=>ok.par i s q (up e),ok.keep,ok.dom,by rw[a8e];exact ok.len⟩
end
noncomputable def cN0:D->Option Key
 | .int i=>some (.inl i)
 | .str x=>some (.inr x)
 | _=>none
noncomputable def mF:List D->Option (List Key)
 | []=>some []
 | d::r=>(cN0 d).bind λk=>(mF r).bind λks=>some (k::ks)
theorem sM:∀ {l:List D} {ks:List Key},mF l=some ks->l=ks.map uU
 | [],_,h=>by cases h;rfl
 | d::r,_,h=>by
   obtain⟨k,a,h⟩:=aC h;obtain⟨ks,b,h⟩:=aC h;cases h;rw[a2e,← sM b];cases d<;>cases a<;>rfl
theorem xG{H:Hp}:∀ {ks:List Key} {xs:List V},Rps H (ks.map uU) xs->xs=ks.map kV
 | [],_,h=>by cases h;rfl
 | k::r,_,h=>by
   rw[a2e]at h;cases h with
   | cons a t=>rw[xG t,a2e];cases k<;>cases a<;>rfl
abbrev GA0:=List (List Key×List D)
noncomputable def aB2(k:List Key)(v:D):GA0->GA0
 | []=>[(k,[v])]
 | p::r=>if p.1=k then(p.1,p.2++[v])::r else p::aB2 k v r
inductive Grp(H:Hp)(n:Nat):GA0->List (List Key×V)->List Addr->Prop
 | nil:Grp H n [] [] []
 | cons {k:List Key} {vs:List D} {l:Addr} {xs:List V} {acc:GA0} {kvs:List (List Key×V)} {ls:List Addr}:H l=some (.lst xs)->Rps H vs xs->xs.length<=n->l∉ls->Grp H n acc kvs ls->Grp H n ((k,vs)::acc) ((k,.ref l)::kvs) (l::ls)
section
variable{H H':Hp}{n:Nat}
theorem Grp.keep:∀ {acc:GA0} {kvs:List (List Key×V)} {ls:List Addr},Grp H n acc kvs ls->Ext H H'->(∀ l∈ls,∀ o,H l=some o->H' l=some o)->Grp H' n acc kvs ls
 | _,_,_,.nil,_,_=>.nil
 | _,_,_,.cons a b c d t,x,k=>.cons (k _ a3a _ a) (b.mono x) c d (t.keep x λl e=>k l (a4a _ e))
theorem Grp.up:∀ {acc:GA0} {kvs:List (List Key×V)} {ls:List Addr},Grp H n acc kvs ls->Grp H (n+1) acc kvs ls
 | _,_,_,.nil=>.nil
 | _,_,_,.cons a b c d t=>.cons a b (Nat.le_succ_of_le c) d t.up
theorem Grp.soft:∀ {acc:GA0} {kvs:List (List Key×V)} {ls:List Addr},Grp H n acc kvs ls->∀ l∈ls,∃ xs,H l=some (.lst xs)
 | _,_,_,.nil,_,h=>by simp at h
 | _,_,_,.cons a b c d t,l,h=>by
   rcases a9b.mp h with rfl | h;exact⟨_,a⟩;exact t.soft l h
theorem Grp.keys:∀ {acc:GA0} {kvs:List (List Key×V)} {ls:List Addr},Grp H n acc kvs ls->kvs.map (·.1)=acc.map (·.1)
 | _,_,_,.nil=>rfl
 | _,_,_,.cons a b c d t=>by rw[a2e,a2e,t.keys]
def Grp.len{acc:GA0}{kvs:List (List Key×V)}{ls:List Addr}(h:Grp H n acc kvs ls):kvs.length=acc.length:=by have:=a2D List.length h.keys;simpa using this
theorem Grp.app{k:List Key}{d:D}{y:V}:∀ {acc:GA0} {kvs:List (List Key×V)} {ls:List Addr} {v:V},Grp H n acc kvs ls->lV kvs k=some v ->
  ∃ l xs,v=.ref l/\l∈ls/\H l=some (.lst xs)/\xs.length<=n/\(Rp (upd H l (.lst (xs++[y]))) d y->Ext H (upd H l (.lst (xs++[y])))->Grp (upd H l (.lst (xs++[y]))) (n+1) (aB2 k d acc) kvs ls)
 | _,_,_,_,.nil,h=>by cases h
 | _,_,_,_,.cons (k:=j) (l:=l) (xs:=xs) g i c a t,h=>by
   by_cases e:j=k;rw[jT e]at h;cases h;refine⟨l,xs,rfl,a3a,g,c,λr x=>?_⟩;show Grp _ _ (if j=k then _ else _) _ _;rw[a1Z e];refine .cons aO ((i.mono x).append (.cons r .nil)) (by rw[a9a];exact Nat.succ_le_succ c) a (t.up.keep x λb hb o q=>?_);rw[aL (show b≠l from λz=>a (by rw[← z];exact hb))];exact q;rw[jU e]at h;obtain⟨m,f,s,p,u,w,A⟩:=t.app (d:=d) (y:=y) h;refine⟨m,f,s,a4a _ p,u,w,λr x=>?_⟩;show Grp _ _ (if j=k then _ else _) _ _;rw[a2k e];exact .cons (by rw[aL (show l≠m from λz=>a (by rw[z];exact p))];exact g) (i.mono x) (Nat.le_succ_of_le c) a (A r x)
theorem Grp.more{k:List Key}{l:Addr}(a:H l=some (.lst [])):∀ {acc:GA0} {kvs:List (List Key×V)} {ls:List Addr},Grp H n acc kvs ls->l∉ls->Grp H n (acc++[(k,[])]) (kvs++[(k,.ref l)]) (ls++[l])
 | _,_,_,.nil,_=>.cons a .nil (a3d _) (by simp) .nil
 | _,_,_,.cons b c d e t,h=>.cons b c d (by
   intro z;rcases a1c.mp z with z | z;exact e z
   ·cases a7b.mp z;exact h a3a) (t.more a λz=>h (a4a _ z))
theorem zZ{k:List Key}{d:D}:∀ {acc:GA0},k∉acc.map (·.1)->aB2 k d (acc++[(k,[])])=aB2 k d acc
 | [],_=>by simp[aB2]
 | p::r,h=>by
   have e:¬ p.1=k:=λz=>h (by simp[z]);show(if p.1=k then _ else _)=(if p.1=k then _ else _);rw[a2k e,a2k e];exact a2D (p :: ·) (zZ λz=>h (by simp at z ⊢;exact .inr z))
theorem aK8{k:List Key}:∀ {kvs:List (List Key×V)},lV kvs k=none->k∉kvs.map (·.1)
 | [],_=>by simp
 | p::r,h=>by
   by_cases e:p.1=k;rw[jT e]at h;cases h;rw[jU e]at h;intro z;rcases a9b.mp z with z | z;exact e z.symm;exact aK8 h z
theorem aK9{k:List Key}{v:V}:∀ {kvs:List (List Key×V)},lV kvs k=none->lV (kvs++[(k,v)]) k=some v
 | [],_=>jT rfl
 | p::r,h=>by
   by_cases e:p.1=k;rw[jT e]at h;cases h;rw[jU e]at h;rw[List.cons_append,jU e];exact aK9 h
end
noncomputable def cF4:Res->Option (List Key)
 | .val (.tup l)=>mF l
 | _=>none
noncomputable def cP8:List D->Option D
 | [v]=>some v
 | _=>none
noncomputable def bT3(row:Nat)(b:DE)(c:DA):List D->GA0->Sg->Option (GA0×Sg)
 | [],acc,σ=>some (acc,σ)
 | d::r,acc,σ=>(dgN row d σ).bind λa=>(b a).bind λx=>(cF4 x.1).bind λk=>(c x.2).bind λy=>(vals y.1).bind λe=>(cP8 e).bind λv=>bT3 row b c r (aB2 k v acc) y.2
noncomputable def bF4(acc:GA0):D:=.dic (acc.map λp=>.tup (p.1.map uU)) (acc.map λp=>.lst p.2)
open Classical in
noncomputable def bW3(g row:Nat)(ri:DI)(a:DE)(b:DA):DS:=λσ=>if σ[g]? = some none then(ri (σ.set g (some SG))).bind λx=>
 if x.2.1=none/\x.2.2[g]? = some (some SG)/\x.1.length < 4000 then(bT3 row a b x.1 [] (x.2.2.set g none)).bind λy=>some (.rt (.own (bF4 y.1)) (y.2.set g none))else none else none
def tFQ(t:TE):TE:=λσ H Q=>t σ H λv a=>FQ (Q v) a
def cN1{X:Cx}{e:Expr}{t:TE}(h:PE X e t):PE X e (tFQ t):=λpins s σ H Q I q=>
 thn (h pins s σ H _ I q) λu s1 ⟨v,a,b,d,f⟩=>by
  suffices ∀ a,FQ (Q v) a->Inv X pins σ a s1->∃ v c,Inv X pins σ c s1/\eI v u/\Q v c from this a f b
  intro a q b
  induction q with
  | done q=>exact⟨v,_,b,d,q⟩
  | step g i _ j=>
    obtain⟨o,k⟩:=aS8 b g i;exact j o k
theorem bK6{Q:Hp->Prop}:∀ {ls:List Addr} {H:Hp},(∀ l∈ls,∃ xs,H l=some (.lst xs))->ls.Nodup->(∀ H',(∀ a,a∉ls->H' a=H a)->(∀ l∈ls,∀ xs,H l=some (.lst xs)->∃ o,H' l=some (.frz o (.lst xs)))->Q H')->FQ Q H
 | [],H,_,_,q=>.done (q H (λ_ _=>rfl) λl h=>by simp at h)
 | l::ls,H,h,nd,q=>by
   obtain⟨xs,e⟩:=h l a3a;obtain⟨n1,n2⟩:=a6h.mp nd;have ne:∀ b∈ls,b≠l:=λb hb z=>n1 (z ▸ hb);refine .step e True.intro λo=>bK6 (ls:=ls) (λb hb=>?_) n2 λH' d f=>q H' (λa ha=>?_) λb hb ys c=>?_;obtain⟨ys,c⟩:=h b (a4a _ hb);exact⟨ys,by rw[aL (ne b hb)];exact c⟩;rw[d a λz=>ha (a4a _ z),aL (show a≠l from λz=>ha (by rw[z];exact a3a))];rcases a9b.mp hb with rfl | hb;rw[e]at c;cases c;exact⟨o,by rw[d b n1,aO]⟩;exact f b hb ys (by rw[aL (ne b hb)];exact c)
theorem Grp.nodup{H:Hp}{n:Nat}:∀ {acc:GA0} {kvs:List (List Key×V)} {ls:List Addr},Grp H n acc kvs ls->ls.Nodup
 | _,_,_,.nil=>.nil
 | _,_,_,.cons _ _ _ h t=>a6h.mpr ⟨h,t.nodup⟩
theorem Grp.rps{H H':Hp}{n:Nat}(x:Ext H H'):∀ {acc:GA0} {kvs:List (List Key×V)} {ls:List Addr},Grp H n acc kvs ls->(∀ l∈ls,∀ xs,H l=some (.lst xs)->∃ o,H' l=some (.frz o (.lst xs)))->Rps H' (acc.map λp=>.lst p.2) (kvs.map (·.2))
 | _,_,_,.nil,_=>.nil
 | _,_,_,.cons a b _ _ t,k=>by
   obtain⟨o,e⟩:=k _ a3a _ a;exact .cons (.lst e (b.mono x)) (t.rps x λl c=>k l (a4a _ c))
theorem bF5{σ:Sg}{g:Nat}{x:Option Sl}(h:σ[g]? = some x):σ.set g x=σ:=by
 apply a7h;intro i;by_cases z:i=g;subst z;rw[h,a1b (a0a.mp h).1];rw[a2a (a1d z)]
def cF5{Γ:Gm}{H:Hp}{σ:Sg}{σV:St}{p:Addr}(ok:StOk Γ H σ σV)(h:H p=none):¬ aI1 σ σV p:=λz=>by
 obtain⟨o,e,_⟩:=ok.mutObj z;rw[h]at e;cases e
def _root_.L2.DTa.keep{H H':Hp}{p:Addr}{kvs:List (List Key×V)}(h:DTa H p kvs)(k:∀ o,H p=some o->H' p=some o):DTa H' p kvs:=h.imp (k _) λh=>⟨k _ h.1,h.2⟩
theorem _root_.L2.DTa.some{H:Hp}{p:Addr}{kvs:List (List Key×V)}(h:DTa H p kvs):∃ o,H p=some o/\Fz o:=h.elim (λh=>⟨_,h,True.intro⟩) λh=>⟨_,h.1,True.intro⟩
def _root_.L2.DTa.isD{H:Hp}{p:Addr}{kvs:List (List Key×V)}(h:DTa H p kvs):IsD H p:=h.elim (λh=>.inr ⟨_,.inl h⟩) λh=>.inl ⟨_,.inl h.1⟩
def bF6{Γ:Gm}{E:Ex}{K:W.Frag}{g row:Nat}{ri:DI}{rk:DE}{ra:DA}{D:Ends}{σV:St}{H:Hp}(hne:row≠g)(h:dTS Γ E (bW3 g row ri rk ra) D σV H) :
  bZ0 (bM5 aS4 (uP g)) (bZ0 (bZ4 (dTI Γ ri) (uP row) (bA7 (tBM K "list" sW (cM9 (bA2 g) (dTE Γ rk) (cK4 cK2)) (dTA Γ ra)))) (cJ4 (tFQ (bA2 g)))) D σV H:=by
 obtain⟨σ,ok,o,e,k⟩:=h;unfold bW3 at e;split at e
 case isFalse=>cases e
 rename_i hg;obtain⟨⟨items,l,n⟩,e1,e⟩:=aC e;dsimp only at e;split at e
 case isFalse=>cases e
 rename_i hz;obtain⟨rfl,O,hz⟩:=hz;obtain⟨⟨acc,A⟩,e2,e⟩:=aC e;cases e;intro p hp;have gl:g < σV.length:=by rw[← ok.len];exact(a0a.mp hg).1
 have h0:=ok.dom p hp;have okP:fJ σ g=true:=by unfold fJ;rw[hg]
 have sm:xN H (upd H p (.dT [])):=bM hp;have ok1:StOk Γ (upd H p (.dT [])) (σ.set g (some SG)) (σV.set g (some (.ref p))):=(ok.same sm).putOwn okP ⟨_,[],aO,⟨rfl,rfl⟩,.nil⟩ (cF5 ok hp) h0;have st1:Step σ σV H (σ.set g (some SG)) (σV.set g (some (.ref p))) (upd H p (.dT [])):=(Step.same sm).put okP .own (.inr ⟨rfl,λq e=>by cases e;exact hp⟩);have vg:(σV.set g (some (.ref p)))[g]? = some (some (.ref p)):=by rw[a1b gl]
 unfold uP bZ0;dsimp only;generalize σV.set g (some (.ref p))=f at ok1 st1 vg ⊢;refine⟨_,ok1,items,none,n,e1,λJ G P oka sta itd stay=>?_⟩;have mp:gP n f p:=⟨g,SG,O,rfl,vg⟩;have dta:DTa G p []:=by
  obtain⟨v,ev,rv⟩:=oka.rel g SG O;rw[vg]at ev;cases ev;obtain⟨_,q,u,ws,hu,du,_⟩:=rv;cases q;cases u with
  | dK kvs=>exact .inr ⟨by rw[hu,List.map_eq_nil_iff.mp du.1.symm],rfl⟩
  | dT kvs=>exact .inl (by rw[hu,List.map_eq_nil_iff.mp du.1.symm])
  | _=>exact du.elim
 have hid0:Hid Γ (n.set g none) f p:=⟨λ⟨i,s,h1,h2,h3⟩=>by
  rcases aX h1 with⟨z,I,_⟩ | ⟨z,I⟩;cases I;exact oka.dis g i SG s p (a1d z) O I rfl h2 vg h3,h0⟩
 have gl1:g < n.length:=(a0a.mp O).1;refine⟨λi m σV2 Q=>m=items.length-i/\i<=items.length/\∃ c a2 kvs ls,bT3 row rk ra (items.drop i) a2 c=some (acc,A)/\StOk Γ Q c σV2/\Step n f G (c.set g (some SG)) σV2 Q/\σV2[g]? = some (some (.ref p))/\DTa Q p kvs/\Grp Q i a2 kvs ls/\p∉ls/\(∀ q,q=p\/q∈ls->Hid Γ c σV2 q)/\(∀ q∈ls,G q=none)/\a2.length<=i,
  ⟨_,rfl,a3d _,n.set g none,[],[],[],by simpa using e2,oka.forget,by rw[List.set_set,bF5 O];exact .refl,vg,dta,.nil,by simp,λq hq=>by rcases hq with rfl | hq;exact hid0;simp at hq,by simp,a7a _⟩,?_⟩
 rintro i m σV2 Q ⟨rfl,hi,c,a2,kvs,ls,ef,ok2,st2,vg2,dt2,gr,pn,hq,hla,al⟩;have hP:P Q:=stay _ σV2 Q st2;by_cases R:i < items.length
 ·have ei:items[i]? = some items[i]:=a1a R;refine .inr ⟨itd.go Q i _ hP ei,λσV3 X=>∃ m',m' < items.length-i/\m'=items.length-(i+1)/\i+1<=items.length/\∃ c a2 kvs ls,bT3 row rk ra (items.drop (i+1)) a2 c=some (acc,A)/\StOk Γ X c σV3/\Step n f G (c.set g (some SG)) σV3 X/\σV3[g]? = some (some (.ref p))/\DTa X p kvs/\Grp X (i+1) a2 kvs ls/\p∉ls/\(∀ q,q=p\/q∈ls->Hid Γ c σV3 q)/\(∀ q∈ls,G q=none)/\a2.length<=i+1,λσ' H' q=>q,λy X hy=>?_⟩;obtain⟨S,ry⟩:=itd.yld Q i _ y X hP ei hy;rw[List.drop_eq_getElem_cons R]at ef;obtain⟨σ3,eg,ef1⟩:=aC ef;obtain⟨⟨xk,x⟩,ek,ef2⟩:=aC ef1;obtain⟨F,T,ef3⟩:=aC ef2;obtain⟨⟨ys,σ5⟩,ea,ef4⟩:=aC ef3;obtain⟨ds,evs,ef5⟩:=aC ef4;obtain⟨vd,Y,ef6⟩:=aC ef5;clear ef ef1 ef2 ef3 ef4 ef5;dsimp only at T ea evs ef6;unfold dgN at eg;split at eg
  case isFalse=>cases eg
  rename_i okr;cases eg;have okr':fJ (c.set g (some SG)) row=true:=by unfold fJ;rw[a2a (a1d hne)];exact okr
  have M:=(ok2.same S).put okr ry;have Z:=(st2.trans (.same S)).put (v:=y) (d:=items[i]) okr' .val (.inl rfl);rw[List.set_comm _ _ (a1d hne)]at Z;have B:(σV2.set row (some y))[g]? = some (some (.ref p)):=by rw[a2a hne];exact vg2
  have hq3:∀ q,q=p\/q∈ls->Hid Γ (c.set row (some ⟨.val,items[i]⟩)) (σV2.set row (some y)) q:=λq h=>⟨λ⟨j,s,h1,h2,h3⟩=>by
   rcases aX h1 with⟨z,I,_⟩ | ⟨z,I⟩;cases I;exact h2 rfl;exact(hq q h).nv ⟨j,s,I,h2,by rw[a2a (a1d z)]at h3;exact h3⟩,(hq q h).h0⟩
  have gl2:g < (c.set row (some ⟨.val,items[i]⟩)).length:=by rw[M.len];exact(a0a.mp B).1
  unfold bA7;dsimp only;generalize σV2.set row (some y)=σV3 at M Z B hq3 ⊢;generalize c.set row (some ⟨.val,items[i]⟩)=σ3 at M Z hq3 ek gl2;have gr3:Grp X i a2 kvs ls:=gr.keep (.same S) λl _ o e=>S l o e;have dt3:DTa X p kvs:=dt2.keep λo e=>S p o e;refine⟨.ref p,B,p,rfl,dt3.isD,σ3,M,xk,x,ek,λvk H4 U rk4 st4 f4=>⟨a3d _,λl N=>?_⟩⟩;have kp4:∀ q,q=p\/q∈ls->∀ o,X q=some o->H4 q=some o:=λq h o e=>((hq3 q h).step st4 e).2;have hq4:∀ q,q=p\/q∈ls->Hid Γ x σV3 q:=λq h=>by
   have:∃ o,X q=some o:=by
    rcases h with rfl | h;obtain⟨o,e,_⟩:=dt3.some;exact⟨o,e⟩;obtain⟨xs,e⟩:=gr3.soft q h;exact⟨_,e⟩
   obtain⟨o,e⟩:=this;exact((hq3 q h).step st4 e).1
  have st4':Step n f G (x.set g (some SG)) σV3 H4:=Z.trans (st4.wide gl2 (by rw[U.len,M.len]) B B);have ext4:=st4.ext M;have gr4:Grp H4 i a2 kvs ls:=gr3.keep ext4 λl N=>kp4 l (.inr N);have dt4:DTa H4 p kvs:=dt3.keep (kp4 p (.inl rfl));obtain⟨b,rfl,hb⟩:∃ b,vk=.ref b/\H4 b=some (.tup (F.map kV)):=by
   unfold cF4 at T;split at T
   ·have rk4:Rp H4 (.tup _) vk:=rk4;cases rk4 with
    | tup h r=>rw[sM T]at r;rw[xG r]at h;exact⟨_,rfl,h⟩
   ·cases T
  have lp:l≠p:=λz=>by obtain⟨o,e,_⟩:=dt4.some;rw[z,e]at N;cases N
  have lls:l∉ls:=λz=>by obtain⟨xs,e⟩:=gr4.soft l z;rw[e]at N;cases N
  have s5:xN H4 (upd H4 l (.lst [])):=bM N;have hidl:Hid Γ x σV3 l:=⟨cF5 U N,U.dom l N⟩;have hal:G l=none:=st4'.dom l N;have gr5:Grp (upd H4 l (.lst [])) i a2 kvs ls:=gr4.keep (.same s5) λq _ o e=>s5 q o e;have dt5:DTa (upd H4 l (.lst [])) p kvs:=dt4.keep λo e=>s5 p o e;have st5:Step n f G (x.set g (some SG)) σV3 (upd H4 l (.lst [])):=st4'.hid (.inl hal)
  -- behind setdefault
  have fin:∀ (H6:Hp) (a6:GA0) (w:List (List Key×V)) (C:List Addr) (v:V),StOk Γ H6 x σV3->Step n f G (x.set g (some SG)) σV3 H6->DTa H6 p w->Grp H6 i a6 w C->p∉C->(∀ q,q=p\/q∈C->Hid Γ x σV3 q)->(∀ q∈C,G q=none)->lV w F=some v->aB2 F vd a6=aB2 F vd a2->a6.length<=i+1 ->
    tyV K "list" v H6/\dTA Γ ra σV3 H6 λxs H7=>sW v xs H7 λ_ H8=>∃ m',m' < items.length-i/\m'=items.length-(i+1)/\i+1<=items.length/\∃ c a2 kvs ls,bT3 row rk ra (items.drop (i+1)) a2 c=some (acc,A)/\StOk Γ H8 c σV3/\Step n f G (c.set g (some SG)) σV3 H8/\σV3[g]? = some (some (.ref p))/\DTa H8 p kvs/\Grp H8 (i+1) a2 kvs ls/\p∉ls/\(∀ q,q=p\/q∈ls->Hid Γ c σV3 q)/\(∀ q∈ls,G q=none)/\a2.length<=i+1:=by
   intro H6 a6 w C v ok6 st6 dt6 gr6 pn6 hq6 hla6 hv eg6 al6;obtain⟨l6,xs6,rfl,m6,hl6,hx6,_⟩:=gr6.app (d:=vd) (y:=.non) hv;refine⟨.inl ⟨rfl,xs6,SqL.of hl6⟩,x,ok6,ys,σ5,ea,λus H7 ok7 r7 st7 f7=>?_⟩;have ry7:=kW r7 evs;obtain⟨y7,rfl,r1⟩:∃ y7,us=[y7]/\Rp H7 vd y7:=by
    unfold cP8 at Y;split at Y
    ·cases Y;cases ry7 with
     | cons a t=>cases t;exact⟨_,rfl,a⟩
    ·cases Y
   have kp7:∀ q,q=p\/q∈C->∀ o,H6 q=some o->H7 q=some o:=λq h o e=>((hq6 q h).step st7 e).2;have hq7:∀ q,q=p\/q∈C->Hid Γ σ5 σV3 q:=λq h=>by
    have:∃ o,H6 q=some o:=by
     rcases h with rfl | h;obtain⟨o,e,_⟩:=dt6.some;exact⟨o,e⟩;obtain⟨xs,e⟩:=gr6.soft q h;exact⟨_,e⟩
    obtain⟨o,e⟩:=this;exact((hq6 q h).step st7 e).1
   have gr7:Grp H7 i a6 w C:=gr6.keep (st7.ext ok6) λl N=>kp7 l (.inr N);have dt7:DTa H7 p w:=dt6.keep (kp7 p (.inl rfl));obtain⟨l7,xs7,q7,m7,hl7,hx7,app⟩:=gr7.app (d:=vd) (y:=y7) hv;cases q7;have sf:bK5 H7 l6:=.inr ⟨_,hl7,True.intro⟩;have lp7:l6≠p:=λz=>pn6 (z ▸ m7);have gl4:g < x.length:=by rw[ok6.len];exact(a0a.mp B).1
   refine⟨l6,xs7,y7,rfl,rfl,hl7,a8f hx7 (a0c (a4g R hz) (by decide)),_,by lia,rfl,R,σ5,aB2 F vd a6,w,C,?_,ok7.hid (hq7 l6 (.inr m7)) sf,(st6.trans (st7.wide gl4 (by rw[ok7.len,ok6.len]) B B)).hid (.inl (hla6 l6 m7)),B,dt7.keep λo e=>by rw[aL (a1d lp7)];exact e,app (r1.mono sf.ext) sf.ext,pn6,hq7,hla6,?_⟩;rw[eg6];exact ef6;have:=(app (r1.mono sf.ext) sf.ext).len;have:=gr7.len;lia
  refine⟨kvs,F,b,dt5,rfl,s5 b _ hb,?_,λv hv=>?_,λhv=>?_⟩;have:=gr4.len;exact a8f (by lia) (a0c (a4g R hz) (by decide));exact fin _ a2 kvs ls v (U.same s5) st5 dt5 gr5 pn hq4 hla hv rfl (by lia);have sp:bK5 (upd H4 l (.lst [])) p:=.inr dt5.some;have kl:∀ q∈ls++[l],q≠p:=λq h z=>by
   rcases a1c.mp h with h | h;exact pn (z ▸ h);exact lp (by rw[← a7b.mp h];exact z)
  refine fin _ (a2++[(F,[])]) (kvs++[(F,.ref l)]) (ls++[l]) (.ref l) ((U.same s5).hid (hq4 p (.inl rfl)) sp) (st5.hid (.inr mp)) (.inl aO) ((gr5.more aO lls).keep sp.ext λq h o e=>by rw[aL (kl q h)];exact e) (λz=>kl p z rfl) (λq h=>?_) (λq h=>?_) (aK9 hv) (zZ (by rw[← gr4.keys];exact aK8 hv)) (by rw[a9a];exact Nat.succ_le_succ al);rcases h with h | h;exact hq4 q (.inl h);rcases a1c.mp h with h | h;exact hq4 q (.inr h);cases a7b.mp h;exact hidl;rcases a1c.mp h with h | h;exact hla q h;cases a7b.mp h;exact hal
 ·have e0:i=items.length:=by lia
  subst e0;rw[List.drop_length]at ef;cases ef;refine .inl ⟨itd.stop Q hP,_,vg2,bK6 gr.soft gr.nodup λH' k1 k2=>?_⟩;have gL:∀ a,a∈ls->Hid Γ A σV2 a/\bK5 Q a:=λa h=>by obtain⟨xs,e⟩:=gr.soft a h;exact⟨hq a (.inr h),.inr ⟨_,e,True.intro⟩⟩
  have ex:=xF (L:=(· ∈ ls)) (λa h=>(gL a h).2) k1;have ok':StOk Γ H' (A.set g none) σV2:=(ok2.hids (L:=(· ∈ ls)) gL k1).forget;have st':Step n f G (A.set g (some SG)) σV2 H':=st2.hids (L:=(· ∈ ls)) (λa h=>⟨.inl (hla a h),by obtain⟨xs,e⟩:=gr.soft a h;obtain⟨o,e'⟩:=k2 a h xs e;rw[e'];exact λz=>nomatch z⟩) k1;have st'':Step σ σV H (A.set g none) σV2 H':=by
   have:=(st1.trans sta).trans st';rw[show A.set g (some SG)=(A.set g none).set g (some SG) by rw[List.set_set]]at this;refine this.drop hg λs z=>?_;rcases aX z with⟨_,I,_⟩ | ⟨z1,_⟩;cases I;exact z1 rfl
  refine k (.ref p) σV2 H' ok' ⟨p,rfl,?_,λ⟨j,s,h1,h2,h3⟩=>?_,h0⟩ st''
  ·have rp:=gr.rps ex k2;have dt':DTa H' p kvs:=dt2.keep λo e=>by rw[k1 p pn];exact e
   have kk:acc.map (λp=>Dv.D.tup (p.1.map uU))=kvs.map λkv=>Dv.D.tup (kv.1.map uU):=by
    have:=a2D (List.map λl:List Key=>Dv.D.tup (l.map uU)) gr.keys;simpa[List.map_map,Function.comp_def]using this.symm
   rcases dt' with e | ⟨e,rfl⟩;exact⟨_,_,e,⟨kk,rfl⟩,rp⟩;refine⟨_,[],e,⟨kk,rfl⟩,rp⟩
  ·rcases aX h1 with⟨_,I,_⟩ | ⟨_,I⟩;cases I;exact(hq p (.inl rfl)).nv ⟨j,s,I,h2,h3⟩
def bT4{X:Cx}{E:Ex}{K:W.Frag}{g row:Nat}{a b c:Stmt}{ri:DI}{e:DE}{f:DA}(d:row≠g)(i:PS X a (bM5 aS4 (uP g)))
  (j:∀ Γ,PS X b (bZ4 (dTI Γ ri) (uP row) (bA7 (tBM K "list" sW (cM9 (bA2 g) (dTE Γ e) (cK4 cK2)) (dTA Γ f))))) (k:PS X c (cJ4 (tFQ (bA2 g)))):GSs E X [a,b,c] (bW3 g row ri e f):=
 .mk λΓ=>cH9 (wE i (wE (j Γ) (aB6 k))) λD σV H h=>bF6 d h
end Dv
namespace PySem
open Sem (wp)
section
variable{prog:Program}{w:World}{A:Around}{E:Value->Shared->Prop}
end
section
variable{prog:Program}{w:World}{A:Around}{E:Value->Shared->Prop}{R:Result->Shared->Prop}{d I:Addr}{fp:List Addr}{n:Nat}{P:Nat->Value->Prop}{St:Nat->Heap->Prop}{κ:Type}[DecidableEq κ]{knd:KeyKind prog w κ}
end
section
variable{prog:Program}{w:World}{A:Around}{E:Value->Shared->Prop}{κ:Type}[DecidableEq κ]{knd:KeyKind prog w κ}
end
end PySem
namespace L2
open PySem PySem.Spec PyProof.Rows
end L2
namespace Dv
open PySem L2 Mr
end Dv
namespace L2
open PySem PySem.Spec PyProof.Rows
def RdT(H:Hp)(a:Addr)(kvs:List (List Key×V)):Prop:=Rd H a (.dT kvs)\/Rd H a (.dK [])/\kvs=[]
def bK7{P:Program}{w:World}{H:Hp}{h:Heap}{a:Addr}{kvs:List (List Key×V)}(ok:HOk P w H h)(e:RdT H a kvs):(a==sysModules)=false/\∃ xs,KT H kvs xs/\h.DictOfH (tupleKind (cF P w)) a xs:=by
 rcases e with e | ⟨e,rfl⟩;obtain⟨_,hd,xs,rel,c⟩:=bP2 ok e;exact⟨hd,xs,rel,c⟩;obtain⟨_,hd,vs,rel,c⟩:=bP1 ok e;cases rel;obtain⟨o,es,ep,d,f,b,k,g,hn⟩:=c;have i:es.toList=[]:=a7c g.length;exact⟨hd,[],.nil,o,es,ep,d,f,b,by rw[i];rfl,λx j=>by simp at j,.nil⟩
section
variable{X:Cx}{pins:List (Addr×Obj)}{σ:St}{H:Hp}{s:Shared}{a b:Addr}{z v:V}{r:Value}{kvs:List (List Key×V)}{k:List Key}{A:Around}{E:Value->Shared->Prop}
def cF6{Q:Value->Shared->Prop}(f:A.units+1 < cLine)(I:Inv X pins σ H s)(e:RdT H a kvs)(g:H b=some (.tup (k.map kV)))(i:eI z r)(h:∀ c s',Inv X pins σ H s'->eI ((lV kvs k).getD z) c->Q c s') :
  wpAny (model X.prog X.w) A (call (.builtin "dict.get") [.ref a,.ref b,r]) Q E s:=by
 obtain⟨hd,xs,rel,d⟩:=bK7 I.hok e;exact call_meetsIn F.slot_dict_get d.typeIs F.entry_dict_get (F.args_dict_get_3 _ _ _) (meetsH_dict_get_default (tupleKind (cF X.prog X.w)) a b hd r) ⟨tupleKind_room_in1 f,k,xs,aH9 I.hok g,d,h _ _ (I.tok _) ((rel.val k).getD i)⟩
def cN2{Q:Value->Shared->Prop}(c:A.units+1 < cLine)(I:Inv X pins σ H s)(e:RdT H a kvs)(d:H b=some (.tup (k.map kV)))(h:∀ s',Inv X pins σ H s'->Q (.bool (lV kvs k).isSome) s') :
  wpAny (model X.prog X.w) A (compareOp .In (.ref b) (.ref a)) Q E s:=by
 obtain⟨hd,xs,rel,f⟩:=bK7 I.hok e;refine wpAny_in_heap (tupleKind_room_in1 c) (aH9 I.hok d) hd f ?_;have q:=(rel.val k).isSome_eq;rw[Option.isSome_map]at q;rw[← q];exact h _ (I.tok _)
end
def cP9:R2:=λx y H Q=>∃ b k a kvs,x=.ref b/\H b=some (.tup (k.map kV))/\y=.ref a/\RdT H a kvs/\Q (.bl (lV kvs k).isSome) H
def cF7{X:Cx}(c:X.A.units+1 < cLine):OpR X (compareOp .In) cP9:=λpins s σ H x y u v Q I d e ⟨b,k,a,kvs,ex,f,g,h,q⟩=>by
 subst ex g;obtain rfl:u=Value.ref b:=d;obtain rfl:v=Value.ref a:=e;exact cN2 c I h f λj i=>⟨.bl (lV kvs k).isSome,H,i,rfl,q⟩
def cN3(d ty tx:TE):TE:=λσ H Q=>d σ H λx c=>∃ a,x=.ref a/\IsD c a/\ty σ c λy e=>tx σ e λz H3=>∃ kvs k b,RdT H3 a kvs/\y=.ref b/\H3 b=some (.tup (k.map kV))/\Q ((lV kvs k).getD z) H3
def bT5{X:Cx}{o e f:Expr}{apos cpos:Pos}{c ty tx:TE}(i:X.A.units+1 < cLine)(j:PE X o c)(l:PE X e ty)(n:PE X f tx)(m:M2 X o "get" apos e f cpos):PE X (.Call (.Attribute o "get" apos) [e,f] [] cpos) (cN3 c ty tx):=by
 intro pins s σ H Q I h;refine wpAny_Call_method m.base m.few m.line F.plainAttrs_dict F.slot_dict_get F.type_dict_get (thn (j pins s σ H _ I h) λu s1 Z0=>?_);obtain⟨x,p,g,q,a,ex,d,r⟩:=Z0;subst ex;obtain rfl:u=Value.ref a:=q;obtain⟨t,v,_⟩:=bI0 g d;refine⟨t,v,?_⟩;rw[m.trees];refine Calls.callWith_builtin rfl (Calls.evalArgs_plain (Calls.spliced_cons (thn (l pins s1 σ p _ g r) λw s2 ⟨y,B,C,D,E⟩=>Calls.spliced_cons (thn (n pins s2 σ B _ C E) λS T ⟨z,G,J,K,kvs,k,b,L,M,N,O⟩=>Calls.spliced_nil ?_))));subst M;obtain rfl:w=Value.ref b:=D;exact cF6 i J L N K λU V P R=>⟨_,G,P,R,O⟩
end L2
namespace Dv
open PySem L2
noncomputable def aF7:List D->List D->List Key->Option (Option D)
 | [],[],_=>some none
 | .tup l::ks,v::vs,k=>(mF l).bind λj=>if j=k then some (some v)else aF7 ks vs k
 | _,_,_=>none
theorem aL0{H:Hp}{k:List Key}{r:Option D}:∀ {kvs:List (List Key×V)} {vs:List D},Rps H vs (kvs.map (·.2))->aF7 (kvs.map λc=>D.tup (c.1.map uU)) vs k=some r ->
  (r=none/\lV kvs k=none)\/∃ d x,r=some d/\lV kvs k=some x/\Rp H d x
 | [],_,.nil,e=>by cases e;exact .inl ⟨rfl,rfl⟩
 | p::kvs,_,.cons a t,e=>by
   obtain⟨j,g,e⟩:=aC e;have i:p.1=j:=by
    have:=sM g;have inj:∀ {x y:List Key},x.map uU=y.map uU->x=y:=λ{x y} h=>by
     refine(List.map_inj_right (f:=uU) λa b h=>?_).mp h;cases a<;>cases b<;>cases h<;>rfl
    exact inj this
   subst i;split at e;rename_i h;cases e;exact .inr ⟨_,_,rfl,jT h,a⟩;rename_i h;rw[jU h];exact aL0 t e
noncomputable def inT:F2:=λd e=>match d,e with
 | .tup l,.dic ks vs=>(mF l).bind λk=>(aF7 ks vs k).bind λr=>some (.val (.bl r.isSome))
 | _,_=>none
def bK8{H:Hp}{ks vs:List D}{v:V}(h:Vw H (.dic ks vs) v):∃ a u ws,v=.ref a/\Rd H a u/\bP5 u ks ws/\Rps H vs ws:=by
 rcases h with h | ⟨p,rfl,u,ws,b,c,d⟩
 ·cases h with
  | dic b c d=>exact⟨_,_,_,rfl,.inr ⟨_,b⟩,c,d⟩
 ·exact⟨p,u,ws,rfl,.inl b,c,d⟩
def cF8{H:Hp}{ks vs:List D}{v:V}(h:Vw H (.dic ks vs) v):∃ a,v=.ref a/\IsD H a:=by
 obtain⟨a,u,ws,rfl,b,c,_⟩:=bK8 h;refine⟨a,rfl,?_⟩;cases u with
 | dK kvs=>exact .inl ⟨kvs,b⟩
 | dT kvs=>exact .inr ⟨kvs,b⟩
 | _=>exact c.elim
def aX6{H:Hp}{ks vs:List D}{v:V}{k:List Key}{r:Option D}(h:Vw H (.dic ks vs) v)(e:aF7 ks vs k=some r):∃ a kvs,v=.ref a/\RdT H a kvs/\((r=none/\lV kvs k=none)\/∃ d x,r=some d/\lV kvs k=some x/\Rp H d x):=by
 obtain⟨a,u,ws,rfl,f,b,c⟩:=bK8 h;cases u with
 | dT kvs=>
   obtain⟨rfl,rfl⟩:=b;exact⟨a,kvs,rfl,.inl f,aL0 c e⟩
 | dK kvs=>
   obtain⟨rfl,rfl⟩:=b;cases kvs with
   | nil=>cases c;cases e;exact⟨a,[],rfl,.inr ⟨f,rfl⟩,.inl ⟨rfl,rfl⟩⟩
   | cons p r=>
     obtain⟨j,_⟩:=p;cases c with
     | cons _ _=>cases j<;>cases e
 | _=>exact b.elim
def bK9{H:Hp}{l:List D}{v:V}{k:List Key}(h:Vw H (.tup l) v)(e:mF l=some k):∃ b,v=.ref b/\H b=some (.tup (k.map kV)):=by
 rcases h with h | ⟨p,rfl,h⟩
 ·cases h with
  | tup h r=>rw[sM e]at r;rw[xG r]at h;exact⟨_,rfl,h⟩
 ·exact h.elim
def bT6:xO cP9 inT:=by
 intro H d e v w Q res a b c k;unfold inT at c;split at c;obtain⟨j,f,c⟩:=aC c;obtain⟨r,g,c⟩:=aC c;cases c;obtain⟨p,rfl,i⟩:=bK9 a f;obtain⟨q,kvs,rfl,l,h⟩:=aX6 b g;refine⟨p,j,q,kvs,rfl,i,rfl,l,?_⟩;rcases h with⟨rfl,h⟩ | ⟨d,x,rfl,h,_⟩;rw[h];exact k _ _ (λ_ _ h=>h) (.bl _);rw[h];exact k _ _ (λ_ _ h=>h) (.bl _);cases c
noncomputable def bT7:D->Bool
 | .dic _ _=>true
 | _=>false
noncomputable def cI7:D->D->Option (Option D)
 | .dic ks vs,.tup l=>(mF l).bind λk=>aF7 ks vs k
 | _,_=>none
noncomputable def aX7(a b c:DE):DE:=λσ=>(a σ).bind λx=>(rd x.2 x.1).bind λf=>if bT7 f=true then(b x.2).bind λy=>(c y.2).bind λz=>(rd z.2 x.1).bind λd=>(rd z.2 y.1).bind λe=>(cI7 d e).bind λr=>some ((match r with | some v=>.val v | none=>z.1),z.2)else none
def bT8{X:Cx}{o e f:Expr}{E F G:DE}{apos cpos:Pos}(O:X.A.units+1 < cLine)(P:GE X o E)(R:GE X e F)(S:GE X f G)(m:M2 X o "get" apos e f cpos):GE X (.Call (.Attribute o "get" apos) [e,f] [] cpos) (aX7 E F G):=.mk λΓ=>peW (bT5 O (P.to Γ) (R.to Γ) (S.to Γ) m) λσV H Q ⟨σ,ok,res,σ',c,k⟩=>by
 obtain⟨⟨x,t⟩,T,c⟩:=aC c;obtain⟨U,I,c⟩:=aC c;dsimp only at I c;split at c
 case isFalse=>cases c
 rename_i hd;obtain⟨⟨y,B⟩,V,c⟩:=aC c;obtain⟨⟨z,D⟩,J,c⟩:=aC c;obtain⟨d,K,c⟩:=aC c;obtain⟨e',L,c⟩:=aC c;obtain⟨r,s,c⟩:=aC c;cases c;dsimp only at J K L k;refine⟨σ,ok,x,t,T,λv W i M C f1=>?_⟩;have Y:=M.vw i I;obtain⟨a,rfl,ha⟩:∃ a,v=.ref a/\IsD W a:=by
  cases U with
  | dic ks vs=>exact cF8 Y
  | _=>cases hd
 refine⟨a,rfl,ha,t,i,y,B,V,λw H2 l Z n f2=>⟨B,l,z,D,J,λu N g r3 p f3=>?_⟩⟩;have vx:=((M.step i n).step l p).vw g K;have vy:=(Z.step l p).vw g L;unfold cI7 at s;split at s;obtain⟨j,g1,s⟩:=aC s;obtain⟨b,rfl,hb⟩:=bK9 vy g1;obtain⟨a',kvs,q,hq,h⟩:=aX6 vx s;cases q;refine⟨kvs,j,b,hq,rfl,hb,?_⟩;have st:=(C.trans n).trans p;rcases h with⟨rfl,h⟩ | ⟨d,x,rfl,h,rp⟩;rw[h];exact k u N g r3 st (f3.back (C.trans n));rw[h];exact k x N g rp st eL;cases s
end Dv
namespace PySem.SeqAt
open PySem MeetsSeq MeetsSeq2 MeetsSeq3 SeqRoads2
def mG{M:Model}{A:Around}{E:Value->Shared->Prop}{s:Shared}{a:Type}(lo hi:Nat)(f:Nat->a->Sem (ForInStep a))(I:Nat->a->Shared->Prop)(Q:a->Shared->Prop)
  (turn:∀ i b s,lo<=i->i < hi->I i b s->wpAny M A (f i b) (λr s'=>match r with | .yield c=>I (i+1) c s' | .done c=>Q c s') E s)
  (fin:∀ b s,I (max lo hi) b s->Q b s) (b:a) (h:I lo b s):wpAny M A (forIn [lo:hi] b f) Q E s:=by
 rw[Std.Legacy.Range.forIn_eq_forIn_range'];refine wpAny_forIn_list f (λl b s=>∃ i,lo<=i/\i<=max lo hi/\l=List.range' i (max lo hi-i)/\I i b s) Q ?_ ?_ _ b ⟨lo,a7a _,by lia,?_,h⟩
 ·rintro x dG b s ⟨i,g,n,e,d⟩;cases j:max lo hi-i with
  | zero=>rw[j]at e;simp at e
  | succ m=>
    rw[j,List.range'_succ]at e;obtain⟨rfl,rfl⟩:=List.cons.inj e;refine L2.thn (turn x b s g (by lia) d) λr s' k=>?_;cases r with
    | yield c=>exact⟨x+1,by lia,by lia,by rw[show max lo hi-(x+1)=m by lia],k⟩
    | done c=>exact k
 ·rintro b s ⟨i,g,n,e,d⟩;have:i=max lo hi:=by
   have:=a2D List.length e;simp at this;lia
  subst this;exact fin b s d
 ·show List.range' lo ((hi-lo+1-1) / 1) 1=_;rw[Nat.div_one,show hi-lo+1-1=max lo hi-lo by lia]
def tuple_indexAt(l:Addr)(items:Array Value)(n:Nat)(k:Option Addr)(sl:Array (Option Value))(x:Value)(e:Value->Bool)(j:Nat)(hj:j < items.size)(hb:∀ m (q:m < items.size),m < j->e items[m]=false)(ha:e items[j]=true) :
  Meets (Builtin.«tuple.index» ⟨[.ref l,x],[]⟩)
   (λA R s=>s.heap.get? l=some {cls:=.type "tuple",dict:=k,data:=.seq items n,slots:=sl}/\(∀ y,y∈items->EqAt A.in1 s y x (e y))/\R (.ok (.ret (.int j s.toks))) {s with toks:=s.toks+1}):=
 .of_wp λprog w A R s h=>by
  obtain⟨o,g,d,tk,os⟩:=s;obtain⟨f,p,h⟩:=h
  wp_walk using a2C f,mG _ _ _ (λi (b:Option (PySem.Fin)×PUnit) s'=>s'=⟨o,g,d,tk,os⟩/\b=(none,⟨⟩)/\i<=j) _
  case turn=>
   rintro i b s' _ hi ⟨rfl,rfl,c⟩;have a:i < items.size:=by lia
   rw[a8b a];refine a1X (p _ (Array.getElem_mem a) prog w _ _ ?_);rcases Nat.lt_or_eq_of_le c with l | rfl
   ·rw[hb i a l]
    wp_walk
    exact⟨rfl,rfl,l⟩
   ·rw[ha]
    wp_walk
    exact⟨_,rfl,h⟩
  case fin=>
   rintro b s' ⟨_,_,f⟩;lia
  case h=>exact⟨rfl,rfl,a3d _⟩
end PySem.SeqAt
namespace L2
open PySem PySem.Spec PyProof.Rows Sx
def lO(a b:Value):argsOk "tuple.index" ⟨[a,b],[]⟩:=by
 unfold argsOk;rw[signature?_of (id:="tuple.index") (n:=['x','e','d','n','i']) (o:=['e','l','p','u','t']) (by kernel_rfl) F.owner_tuple];kernel_rfl
def bF7{b:List V}{us:List Value}(h:bS b us){i:Nat}{x:V}(e:b[i]? = some x):∃ u,us[i]? = some u/\eI x u:=by
 induction h generalizing i with
 | nil=>simp at e
 | cons a t c=>
   cases i with
   | zero=>simp at e;subst e;exact⟨_,rfl,a⟩
   | succ i=>exact c (by simpa using e)
def aX8:V->List V->Hp->VK->Prop:=λx vs H Q=>∃ (l:Addr) (a:List Str) (z:Str),x=.ref l/\vs=[.str z]/\H l=some (.tup (a.map V.str))/\z∈a/\Q (.int (a.idxOf z:Nat)) H
def aA0{X:Cx}:MtR X "tuple.index" aX8:=by
 intro pins s σ H x vs v us Q I D G h;obtain⟨l,a,z,rfl,rfl,J,K,q⟩:=h;cases D;obtain⟨u,rfl,L⟩:=G.one;obtain⟨t,rfl⟩:=L;obtain⟨_,its,r,⟨⟨oc,od,M,sl⟩,e,c,n,d⟩,_⟩:=(show dE X.prog X.w H s.heap l (.tup (a.map V.str))from I.hok l _ J);dsimp only at c d;subst c d;have hj:a.idxOf z < a.length:=List.idxOf_lt_length_iff.mpr K;have B:its.length=a.length:=by
  have:=r.length;simpa using this.symm
 have g:∀ m (j:m < its.toArray.size),∃ (b:m < a.length) (f:Tok),its.toArray[m]=.str a[m] f:=λm j=>by
  have k:m < its.length:=by simpa using j
  have b:m < a.length:=by lia
  obtain⟨u,C,N⟩:=bF7 (i:=m) r (by rw[a2c,a1a b];rfl);obtain⟨f,rfl⟩:=N;rw[a1a k]at C;exact⟨b,f,by simpa using a5a C⟩
 refine a2M F.slot_tuple_index ⟨_,e,rfl⟩ F.entry_tuple_index (lO _ _) (SeqAt.tuple_indexAt l its.toArray n od sl (.str z t) (isZ z) (a.idxOf z) (by simp;lia) (λm j o=>?_) ?_) ⟨e,λy O=>?_,?_⟩;obtain⟨b,f,A⟩:=g m j;rw[A];show(a[m]==z)=false;have h:=List.not_of_lt_findIdx (p:=(· == z)) (xs:=a) o;simpa using h;obtain⟨b,f,A⟩:=g (a.idxOf z) (by simp;lia);rw[A];show(a[a.idxOf z]==z)=true;simp;obtain⟨P,f,rfl⟩:=aS3 r y (by simpa using O);exact λprog w E Q h=>eqBool_str h;exact⟨.int _,H,I.tok _,⟨_,rfl⟩,q⟩
end L2
namespace Dv
open PySem L2 Mr Sx
noncomputable def cF9:FT:=λl e=>match e with
 | .str z=>(uX l).bind λa=>if z∈a then some (.int (a.idxOf z:Nat))else none
 | _=>none
def aL1:cP6 aX8 cF9:=by
 intro H l xs e p y Q d b r c a k;unfold cF9 at a;split at a;obtain⟨f,g,a⟩:=aC a;split at a;rename_i h;cases a;rw[kI c];rw[sI g]at r;rw[r.strs_inv]at b;exact⟨p,f,_,rfl,rfl,b,h,k _ (.int _)⟩;cases a;cases a
theorem uE{a:List Str}{z:Str}{K:D->Prop}:OK1 (cF9 (a.map D.str) (.str z)) K=(z∈a/\K (.int (a.idxOf z:Nat))):=by
 show OK1 ((uX (a.map D.str)).bind _) K=_;rw[tM];show OK1 (if _ then _ else none) K=_;rw[bA];rfl
open PySem.Spec PyProof.Rows
noncomputable def sS(a:List Str):List Str:=Classical.epsilon λl=>l.Perm a/\sortedS l=true
def cN4{a l:List Str}(h:l.Perm a)(s:sortedS l=true):sS a=l:=by
 have:=Classical.epsilon_spec (p:=λl:List Str=>l.Perm a/\sortedS l=true) ⟨l,h,s⟩;exact aN5 this.1 h this.2 s
def bT9{zs l:List Str}(h:l.Perm zs):sS l=sS zs:=by
 unfold sS;congr 1;funext x;exact propext ⟨λ⟨p,q⟩=>⟨p.trans h,q⟩,λ⟨p,q⟩=>⟨p.trans h.symm,q⟩⟩
noncomputable def aA1:FN:=λb=>match b with
 | [d]=>(bV7 d).bind λx=>(uX x.2).bind λa=>if a.length < 64 then some (.own (.lst ((sS a).map D.str)))else none
 | _=>none
def aA2:bP6 bH9 aA1:=by
 intro H n vs Q res vw e k;unfold aA1 at e;split at e
 ·obtain⟨⟨b,l⟩,h,e⟩:=aC e;obtain⟨ns,c,e⟩:=aC e;dsimp only at c;split at e
  ·rename_i i;cases e;cases vw with
   | cons a t=>
     cases t;obtain⟨p,xs,rfl,d,f⟩:=aS6 a h;rw[sI c]at f;rw[f.strs_inv]at d;refine⟨p,b,ns,rfl,d,i,λr j g m hs=>?_⟩;rw[cN4 m hs]at k;exact k _ _ (bM g) ⟨r,rfl,g,_,aO,aI0 _⟩
  ·cases e
 ·cases e
theorem aL2{a:List Str}{K:Res->Prop}:OK1 (aA1 [.tup (a.map D.str)]) K=(a.length < 64/\K (.own (.lst ((sS a).map D.str)))):=by
 show OK1 ((uX (a.map D.str)).bind _) K=_;rw[tM];show OK1 (if _ then _ else none) K=_;rw[bA];rfl
end Dv
namespace L2
open PySem PyProof PyProof.Rows
section
variable{prog:Program}{w:World}{A:Around}{E:Value->Shared->Prop}
def bU0{it:Addr}(P:List Value->Heap->Prop)
  (turn:∀ x r s (Q:Option Value->Shared->Prop),P (x::r) s.heap->(∀ h',P r h'->Q (some x) {s with heap:=h'})->wpAny (model prog w) A (pyNext (.ref it)) Q E s) :
  ∀ (xs:List Value) (s:Shared) (Q:List Value->Shared->Prop),P xs s.heap->(∀ h',P [] h'->Q xs {s with heap:=h'})->wpAny (model prog w) A (draw (.ref it) xs.length) Q E s:=by
 intro xs
 induction xs with
 | nil=>exact λs Q p q=>a1Y (q s.heap p)
 | cons x r a=>exact λs Q p q=>a1X (turn x r s _ p λe b=>a1X (a2m (a _ _ b λc d=>a1Y (q c d))))
def aF8{s:Shared}{t:Addr}{items:Array Value}{a:List (Bool×(Value->Sem Unit))}{Q:Unit->Shared->Prop}(y:A.handled=none)(f:s.heap.IsList t items)
  (hn:a.length=items.size) (c:a.findIdx? (·.1)=none)
  (h:∀ h',Heap.ExtBut s.heap.objs.size s.heap h'->wpAny (model prog w) A (assignInOrder (a.map (·.2)) items.toList) Q E {s with heap:=h'}) :
  wpAny (model prog w) A (unpack (.ref t) a) Q E s:=by
 have l:t≠s.heap.objs.size:=a2d (let ⟨_,z,_⟩:=f;a5b z);have B:a.length=items.toList.length:=by rw[hn,a0d]
 -- u is left to tell,and v all else g as it stood
 let P:List Value->Heap->Prop:=λr h'=>∃ i,h'.IsListIter s.heap.objs.size t i/\items.toList.drop i=r/\Heap.ExtBut s.heap.objs.size s.heap h'
 have lst:∀ {h'},Heap.ExtBut s.heap.objs.size s.heap h'->h'.IsList t items:=λe=>f.extBut e l;unfold unpack unpackItems notIterableAtAll;rw[B,c];refine a1X (a2m (a1X (a1X (a2J f.typeIs slot_list_iter.lookup (a1Y ?_)))));rw[a2k (by decide)];refine a1X (a2m (wpAny_pyIter_list f ?_));dsimp only;refine a1X (a2m (bU0 P (λx r s1 F ⟨i,m,k,d⟩ C=>?_) items.toList _ _ ⟨0,⟨_,a3b _ rfl,rfl,rfl⟩,rfl,λb o _ e=>a6a _ e⟩ λG ⟨i,m,k,d⟩=>?_))
 ·have n:items[i]? = some x:=by
   have:items.toList[i]? = (x::r)[0]?:=by rw[← k,List.getElem?_drop,Nat.add_zero]
   simpa using this
  exact wpAny_pyNext_list_item m (lst d) n λp q same=>C p ⟨i+1,q,by rw[← List.drop_drop (i:=1) (j:=i),k];rfl,λb o hb e=>same.extBut b o hb (d b o hb e)⟩
 ·rw[a2k (a2f _)];have n:items[i]? = none:=by
   have:items.toList.length<=i:=List.drop_eq_nil_iff.mp k;rw[Array.getElem?_eq_none];simpa using this
  exact a1X (a2m (wpAny_pyNext_list_end y m (lst d) n λp D=>a1Y (h p λb o hb e=>D b o hb (d b o hb e))))
end
def cG0(K:W.Frag)(n:Nat)(t:TGs):TG:=λv σ H Q=>∃ a xs,v=.ref a/\eW H a=some (true,xs)/\xs.length=n/\t xs σ H Q
def bU1{X:Cx}{pos:Pos}(K:W.Frag)(p:X.K=K){es:List Expr}{k:Nat}{t:TGs}{n:Nat}(g:X.calm=true)(h:PGs X es t)
  (hn:(assignEach es X.env).length=n:=by rfl) (c:(assignEach es X.env).findIdx? (·.1)=none:=by rfl):PG X (.Tuple es k pos) (cG0 K n t):=by
 intro pins s σ H v u Q I r d;obtain⟨a,xs,rfl,i,j,d⟩:=d;cases r;obtain⟨its,f,pl,q⟩:=I.list (gW i);rw[assign_Tuple];refine a1X (a2G (aF8 (I.ok.hd g) pl.isList (by simp[hn,← j,f.length]) c λh' l=>?_));have m:Inv X pins σ H {s with heap:=h'}:=I.kept (t':=s.toks) λb o e=>l b o (a2d (a5b e)) e;exact h pins _ σ H xs _ Q m (by simpa using f) d
end L2
namespace Dv
open PySem L2 Mr Sx
noncomputable def bU2(n:Nat)(a:DGs):DG:=λd σ=>match d with
 | .lst l=>if l.length=n then a l σ else none
 | _=>none
def cG1{own:List Nat}{K:W.Frag}{n:Nat}{i:TGs}{a:DGs}(h:aT4 own i a):aT3 own (cG0 K n i) (bU2 n a):=by
 intro Γ H f c m σ σV d v σ' Q ok st r e k;cases d with
 | lst l=>
   have g:(if l.length=n then a l σ else none)=some σ':=e;split at g;rename_i o;obtain⟨p,xs,rfl,q,j⟩:=aS6 (d:=.lst l) (b:=true) (l:=l) (.inl r) rfl;exact⟨p,xs,rfl,q,by rw[← j.length];exact o,h Γ H f c m σ σV l xs σ' Q ok st j g k⟩;cases g
 | _=>cases e
theorem aX9{n:Nat}{σ:Sg}{a:DGs}{l:List D}{K:Sg->Prop}:OK1 (bU2 n a (.lst l) σ) K=(l.length=n/\OK1 (a l σ) K):=by
 show OK1 (if l.length=n then a l σ else none) K=_;rw[bA]
end Dv
namespace Mr
open PySem L2 Dv
noncomputable def fX:DS:=(cG (dW 2 (aV kJ (aV aD8 (dC (.int 7919)) (aJ 1)) (dC (.int 11))))
 (cG (aD0 (kU (aV ltA (aJ 1) (dCB aD9 (aD (aJ 0) aN)))) (dW 2 (aV ixD (aJ 0) (aJ 1))) (aD0 (kU (aV gtI (dCB aD9 (aD (aJ 0) aN)) (dC (.int 0)))) (dW 2 (aV kJ (aJ 2) (aV aD8 (aV aQ1 (aV ixD (aJ 0) (aV aQ1 (aJ 1) (dCB aD9 (aD (aJ 0) aN)))) (dC (.int 2147483629))) (dC (.int 69623))))) lX))
 (cG (dW 3 (aV kJ (aV aQ1 (aV kJ (aV aD8 (aV aQ1 (aJ 2) (dC (.int 2147483629))) (dC (.int 48271))) (aV aD8 (dC (.int 40692)) (aJ 1))) (dC (.int 2147483629))) (dC (.int 1))))
 (mQ (wN (aD (dFz (aV aD8 (aJ 2) (dCB bW1 (aD (aV geI (aJ 2) (aV cL9 (dC (.int 10)) (dC (.int 18)))) aN)))) (aD (dFz (aJ 3)) aN)))))))
noncomputable def dA:Dv.Run:=wU 4 fX
noncomputable def eR:DS:=(cG (aD0 (kU (aV gtI (aV ixD (aJ 0) (dC (.int 0))) (dC (.int 0)))) (cG (dW 2 (aV aQ1 (aV ixD (aJ 0) (dC (.int 0))) (aJ 1)))
 (cG (bW2 0 (dC (.int 0)) (aV cI5 (aV ixD (aJ 0) (dC (.int 0))) (aJ 1)))
 (mQ (aJ 2)))) lX)
 (cG (dW 3 (aV aQ1 (aV aD8 (aV ixD (aJ 0) (dC (.int 1))) (dC (.int 69623))) (dC (.int 2147483647))))
 (cG (bW2 0 (dC (.int 1)) (aV kJ (aV aQ1 (aV kJ (aV aD8 (aJ 3) (dC (.int 48271))) (dC (.int 30103))) (dC (.int 2147483629))) (dC (.int 1))))
 (mQ (aV aQ1 (aV cI5 (aV kJ (aV aD8 (aJ 3) (dC (.int 2147483647))) (aV ixD (aJ 0) (dC (.int 1)))) (dC (.int 8191))) (aJ 1))))))
noncomputable def aI:Dv.Run:=wU 4 eR
noncomputable def dQ:DS:=(cG (dW 2 (dC (.str "abcdefghijklmnopqrstuvwxyz")))
 (cG (dW 3 (cI0 (aV1 "") (hZ [12] (bQ2 (aD (aT 2 aI (aD (aJ 0) (aD (dC (.int 5)) aN))) aN)) (dgN 12) wT (aV ixD (aJ 2) (aT 2 aI (aD (aJ 0) (aD (dC (.int 26)) aN)))))))
 (cG (dW 4 (aT 2 aI (aD (aJ 0) (aD (aV kJ (dCB aD9 (aD (aJ 3) aN)) (dC (.int 1))) aN))))
 (cG (dW 5 (aT 2 aI (aD (aJ 0) (aD (dC (.int 26)) aN))))
 (cG (dW 6 (aT 2 aI (aD (aJ 0) (aD (dC (.int 4)) aN))))
 (cG (aD0 (kU (aV (eqD false) (aJ 6) (dC (.int 2)))) (cG (cC3 (aT5 3 (hV (dgN 7) (hV (dgN 8) (hV (dgN 9) aN7)))) (dFz (dSl (dSl (aJ 2) (dP (aT 2 aI (aD (aJ 0) (aD (dC (.int 24)) aN)))) bA4) bA4 (dP (dC (.int 3))))))
 (cG (dW 10 (wN (aD (dFz (aJ 7)) (aD (dFz (aV kJ (aJ 7) (aJ 8))) (aD (dFz (aJ 8)) (aD (dFz (aV kJ (aJ 8) (aJ 9))) aN))))))
 (mQ (dSl (aV kJ (aJ 10) (wN (aD (dFz (aJ 9)) (aD (dFz (aV kJ (aJ 7) (aJ 9))) (aD (dFz (aV kJ (aV kJ (aJ 7) (aJ 8)) (aJ 9))) (aD (dFz (aV kJ (aJ 9) (aJ 8))) aN)))))) bA4 (dP (aJ 1)))))) lX)
 (cG (dW 11 (wN aN))
 (cG (aT7 (bQ2 (aD (aJ 1) aN)) (dgN 12)
 (cG (dW 13 (aV kJ (aV kJ (dSl (aJ 3) bA4 (dP (aJ 4))) (aV ixD (aJ 2) (aV aQ1 (aV kJ (aJ 5) (aV aD8 (dC (.int 5)) (aJ 12))) (dC (.int 26))))) (dSl (aJ 3) (dP (aJ 4)) bA4)))
 (wP (uV "list" 11 bI8 (aD (dFz (aV kJ (aJ 13) (aV aD8 (dC (.str "z")) (dCB bW1 (aD (aS7 (aV (eqD false) (aJ 6) (dC (.int 1))) (aV (eqD false) (aV aQ1 (aJ 12) (dC (.int 2))) (dC (.int 1)))) aN))))) aN)))))
 (cG (dW 14 (wN (aD (dC (.str "table")) (aD (dC (.str "tree")) (aD (dC (.str "none")) (aD (dC (.str "answer")) (aD (dC (.str "levels")) (aD (dC (.str "looks")) aN))))))))
 (cG (dW 14 (aV kJ (aJ 14) (wN (aD (dC (.str "at")) (aD (dC (.str "count")) (aD (dC (.str "ears")) (aD (dC (.str "cover")) (aD (dC (.str "place")) aN))))))))
 (cG (dW 13 (aV ixD (aJ 14) (aT 2 aI (aD (aJ 0) (aD (dC (.int 11)) aN)))))
 (cG (aD0 (cI1 (kU (aV (eqD false) (aT 2 aI (aD (aJ 0) (aD (dC (.int 4)) aN))) (dC (.int 0)))) (kU (aV (inD true) (aJ 13) (aJ 11)))) (bW2 11 (aT 2 aI (aD (aJ 0) (aD (aJ 1) aN))) (dFz (aJ 13))) lX)
 (mQ (aJ 11))))))))))))))
noncomputable def cT:Dv.Run:=wU 15 dQ
noncomputable def dS:DS:=(cG (dW 2 (dCB aU3 (aD (aJ 1) aN)))
 (cG (dW 3 (wN aN))
 (cG (aI6 (kU (aV gtI (dCB aD9 (aD (aJ 2) aN)) (dC (.int 0))))
 (wP (uV "list" 3 bI8 (aD (dFz (uV "list" 2 yK (aD (dFz (aT 2 aI (aD (aJ 0) (aD (dCB aD9 (aD (aJ 2) aN)) aN)))) aN))) aN))))
 (mQ (aJ 3)))))
noncomputable def cC:Dv.Run:=wU 4 dS
noncomputable def eS:DS:=(cG (dW 3 (aV ixD (wN (aD (dC (.int 2)) (aD (dC (.int 3)) (aD (dC (.int 10)) (aD (dC (.int 1000)) aN))))) (aT 2 aI (aD (aJ 0) (aD (dC (.int 4)) aN)))))
 (cG (dW 4 (aT 2 aI (aD (aJ 0) (aD (aV ixD (wN (aD (dFz (aV kJ (aJ 2) (dC (.int 1)))) (aD (dC (.int 6)) aN))) (aT 2 aI (aD (aJ 0) (aD (dC (.int 2)) aN)))) aN))))
 (mQ (dCB aI8 (aD (dCB fF (aD (hZ [5] (bQ2 (aD (aJ 4) aN)) (dgN 5) wT (dCB aI8 (aD (hZ [6] (dIt (aJ 1)) (dgN 6) wT (dFz (aT 2 aI (aD (aJ 0) (aD (aJ 3) aN))))) aN))) aN)) aN)))))
noncomputable def dU:Dv.Run:=wU 7 eS
noncomputable def bO:DS:=(mQ (hZ [2] (dIt (aV ixD (aJ 0) (dC (.int 0)))) (dgN 2) (kU (aV (inD false) (aJ 2) (aV ixD (aJ 1) (dC (.int 0))))) (dFz (aJ 2))))
noncomputable def bB:Dv.Run:=wU 3 bO
noncomputable def jN:DS:=(mQ (dCB aI8 (aD (hZ [2] (dIt (aJ 1)) (dgN 2) wT (aV ixD (aJ 0) (aJ 2))) aN)))
noncomputable def bL:Dv.Run:=wU 3 jN
noncomputable def bZ:DS:=(mQ (hZ [2] (dIt (aJ 1)) (dgN 2) wT (dFz (dMT cF9 (aJ 0) (aJ 2)))))
noncomputable def aQ:Dv.Run:=wU 3 bZ
noncomputable def fY:DS:=(cG (dW 3 (aT 2 aQ (aD (aV ixD (aJ 0) (dC (.int 0))) (aD (aJ 1) aN))))
 (cG (dW 4 (aT 2 aQ (aD (aV ixD (aJ 0) (dC (.int 0))) (aD (aJ 2) aN))))
 (bW3 5 6 (dIt (aV ixD (aJ 0) (dC (.int 1)))) (aT 2 bL (aD (aJ 6) (aD (aJ 3) aN))) (aD (dFz (aT 2 bL (aD (aJ 6) (aD (aJ 4) aN)))) aN))))
noncomputable def cP:Dv.Run:=wU 7 fY
noncomputable def eT:DS:=(mQ (kL (aD (dCB aI8 (aD (aJ 0) aN)) (aD (dCB aI8 (aD (dCB fF (aD (aJ 1) aN)) aN)) aN))))
noncomputable def cA:Dv.Run:=wU 2 eT
noncomputable def jO:DS:=(cG (dW 2 (aT 2 bB (aD (aJ 0) (aD (aJ 1) aN))))
 (cG (dW 3 (hZ [8] (dIt (aV ixD (aJ 1) (dC (.int 0)))) (dgN 8) (kU (aV (inD true) (aJ 8) (aV ixD (aJ 0) (dC (.int 0))))) (dFz (aJ 8))))
 (cG (dW 4 (aT 3 cP (aD (aJ 1) (aD (aJ 2) (aD (aJ 3) aN)))))
 (cG (dW 5 (aT 2 aQ (aD (aV ixD (aJ 0) (dC (.int 0))) (aD (aJ 2) aN))))
 (cG (dW 6 (wN aN))
 (cG (aT7 (dIt (aV ixD (aJ 0) (dC (.int 1)))) (dgN 7)
 (wP (aT1 "list" 6 cI3 (aD (hZ [9] (dIt (aX7 (aJ 4) (aT 2 bL (aD (aJ 7) (aD (aJ 5) aN))) (wN aN))) (dgN 9) wT (dFz (aV kJ (aJ 7) (aJ 9)))) aN))))
 (mQ (aT 2 cA (aD (aV kJ (aV ixD (aJ 0) (dC (.int 0))) (dCB aI8 (aD (aJ 3) aN))) (aD (aJ 6) aN))))))))))
noncomputable def aY:Dv.Run:=wU 10 jO
noncomputable def cU:DS:=(cG (dW 1 (wN aN))
 (cG (aT7 (dIt (wN (aD (kL (aD (dC (.int 0)) (aD (dC (.int 1)) (aD (dC (.int 2)) aN)))) (aD (kL (aD (dC (.int 0)) (aD (dC (.int 2)) (aD (dC (.int 1)) aN)))) (aD (kL (aD (dC (.int 1)) (aD (dC (.int 0)) (aD (dC (.int 2)) aN)))) (aD (kL (aD (dC (.int 1)) (aD (dC (.int 2)) (aD (dC (.int 0)) aN)))) (aD (kL (aD (dC (.int 2)) (aD (dC (.int 0)) (aD (dC (.int 1)) aN)))) (aD (kL (aD (dC (.int 2)) (aD (dC (.int 1)) (aD (dC (.int 0)) aN)))) aN)))))))) (aT5 3 (hV (dgN 2) (hV (dgN 3) (hV (dgN 4) aN7))))
 (cG (wP (uV "list" 1 bI8 (aD (dFz (aT 2 aY (aD (aT 2 aY (aD (aV ixD (aJ 0) (aJ 2)) (aD (aV ixD (aJ 0) (aJ 3)) aN))) (aD (aV ixD (aJ 0) (aJ 4)) aN)))) aN)))
 (wP (uV "list" 1 bI8 (aD (dFz (aT 2 aY (aD (aV ixD (aJ 0) (aJ 2)) (aD (aT 2 aY (aD (aV ixD (aJ 0) (aJ 3)) (aD (aV ixD (aJ 0) (aJ 4)) aN))) aN)))) aN)))))
 (mQ (aJ 1))))
noncomputable def cK:Dv.Run:=wU 5 cU
noncomputable def aA3:DS:=(cG (dW 2 (aT 2 aQ (aD (aV ixD (aJ 0) (dC (.int 0))) (aD (aJ 1) aN))))
 (mQ (aT 2 cA (aD (aJ 1) (aD (hZ [3] (dIt (aV ixD (aJ 0) (dC (.int 1)))) (dgN 3) wT (dFz (aT 2 bL (aD (aJ 3) (aD (aJ 2) aN))))) aN)))))
noncomputable def eU:Dv.Run:=wU 4 aA3
noncomputable def cV:DS:=(cG (dW 2 (aT 2 bB (aD (aJ 0) (aD (aJ 1) aN))))
 (cG (dW 3 (aT 3 cP (aD (aJ 1) (aD (aJ 2) (aD (wN aN) aN)))))
 (cG (dW 4 (aT 2 aQ (aD (aV ixD (aJ 0) (dC (.int 0))) (aD (aJ 2) aN))))
 (mQ (kL (aD (aV ixD (aJ 0) (dC (.int 0))) (aD (dCB aI8 (aD (hZ [5] (dIt (aV ixD (aJ 0) (dC (.int 1)))) (dgN 5) (kU (aV inT (aT 2 bL (aD (aJ 5) (aD (aJ 4) aN))) (aJ 3))) (dFz (aJ 5))) aN)) aN)))))))
noncomputable def aZ:Dv.Run:=wU 6 cV
noncomputable def uG:DS:=(cG (dW 3 (dMT cF9 (aV ixD (aJ 0) (dC (.int 0))) (aJ 1)))
 (mQ (kL (aD (aV ixD (aJ 0) (dC (.int 0))) (aD (dCB aI8 (aD (hZ [4] (dIt (aV ixD (aJ 0) (dC (.int 1)))) (dgN 4) (kU (aV (eqD false) (aV ixD (aJ 4) (aJ 3)) (aJ 2))) (dFz (aJ 4))) aN)) aN)))))
noncomputable def gJ:Dv.Run:=wU 5 uG
noncomputable def aA4:DS:=(cG (dW 1 (aT 2 dA (aD (aJ 0) (aD (dC (.int 0)) aN))))
 (cG (dW 2 (aT 2 cT (aD (aJ 1) (aD (dC (.int 6)) aN))))
 (cG (dW 3 (wN aN))
 (cG (aT7 (bQ2 (aD (dC (.int 3)) aN)) (dgN 4)
 (cG (dW 5 (dCB aI8 (aD (dSl (aT 2 cC (aD (aJ 1) (aD (aJ 2) aN))) bA4 (dP (aT 2 aI (aD (aJ 1) (aD (dC (.int 5)) aN))))) aN)))
 (wP (uV "list" 3 bI8 (aD (kL (aD (dFz (aJ 5)) (aD (dFz (aT 3 dU (aD (aT 2 dA (aD (aJ 0) (aD (aV kJ (dC (.int 1)) (aJ 4)) aN))) (aD (aJ 5) (aD (dC (.int 8)) aN))))) aN))) aN)))))
 (cG (cC3 (bU2 3 (hV (dgN 6) (hV (dgN 7) (hV (dgN 8) aN7)))) (dFz (aJ 3)))
 (cG (dW 9 (aT 1 cK (aD (aJ 3) aN)))
 (cG (dW 5 (aV ixD (aV ixD (aJ 9) (dC (.int 0))) (dC (.int 0))))
 (cG (aT7 (dIt (aJ 9)) (dgN 10)
 (aD0 (dOr (kU (aV (eqD true) (dCB aA1 (aD (aV ixD (aJ 10) (dC (.int 0))) aN)) (dCB aA1 (aD (aJ 5) aN)))) (kU (aV (eqD true) (aT 2 eU (aD (aJ 10) (aD (aJ 5) aN))) (aV ixD (aJ 9) (dC (.int 0)))))) (mQ (dC (.bl false))) lX))
 (cG (dW 11 (aT 2 aY (aD (aJ 6) (aD (aJ 7) aN))))
 (cG (aD0 (dOr (kU (aV (eqD true) (aT 2 aZ (aD (aJ 6) (aD (aJ 7) aN))) (aT 2 eU (aD (aJ 11) (aD (aV ixD (aJ 6) (dC (.int 0))) aN))))) (kU (aV (eqD true) (aT 2 aZ (aD (aJ 7) (aD (aJ 6) aN))) (aT 2 eU (aD (aJ 11) (aD (aV ixD (aJ 7) (dC (.int 0))) aN)))))) (mQ (dC (.bl false))) lX)
 (cG (aD0 (dOr (kU (aV (eqD true) (aT 2 aY (aD (aT 2 aZ (aD (aJ 6) (aD (aJ 7) aN))) (aD (aT 2 aZ (aD (aJ 7) (aD (aJ 6) aN))) aN))) (aJ 11))) (kU (aV (eqD true) (aT 2 aY (aD (aJ 11) (aD (aJ 6) aN))) (aJ 11)))) (mQ (dC (.bl false))) lX)
 (cG (aD0 (kU (aV gtI (dCB aD9 (aD (aV ixD (aJ 6) (dC (.int 0))) aN)) (dC (.int 0)))) (cG (dW 12 (aV ixD (aV ixD (aJ 6) (dC (.int 0))) (aT 2 aI (aD (aJ 1) (aD (dCB aD9 (aD (aV ixD (aJ 6) (dC (.int 0))) aN)) aN)))))
 (cG (dW 13 (aT 2 aI (aD (aJ 1) (aD (aV ixD (wN (aD (dC (.int 2)) (aD (dC (.int 3)) (aD (dC (.int 10)) (aD (dC (.int 1000)) aN))))) (aT 2 aI (aD (aJ 1) (aD (dC (.int 4)) aN)))) aN))))
 (aD0 (kU (aV (eqD true) (aT 2 aY (aD (aT 3 gJ (aD (aJ 6) (aD (aJ 12) (aD (aJ 13) aN)))) (aD (aJ 7) aN))) (aT 3 gJ (aD (aJ 11) (aD (aJ 12) (aD (aJ 13) aN)))))) (mQ (dC (.bl false))) lX))) lX)
 (cG (dW 14 (dCB aI8 (aD (dSl (aT 2 cC (aD (aJ 1) (aD (aJ 5) aN))) bA4 (dP (aT 2 aI (aD (aJ 1) (aD (aV kJ (dCB aD9 (aD (aJ 5) aN)) (dC (.int 1))) aN))))) aN)))
 (cG (dW 15 (dSl (aJ 14) bA4 (dP (aT 2 aI (aD (aJ 1) (aD (aV kJ (dCB aD9 (aD (aJ 14) aN)) (dC (.int 1))) aN))))))
 (cG (aD0 (kU (aV (eqD true) (aT 2 eU (aD (aT 2 eU (aD (aV ixD (aJ 9) (dC (.int 0))) (aD (aJ 14) aN))) (aD (aJ 15) aN))) (aT 2 eU (aD (aV ixD (aJ 9) (dC (.int 0))) (aD (aJ 15) aN))))) (mQ (dC (.bl false))) lX)
 (cG (aD0 (dOr (kU (aV (eqD true) (aT 2 aY (aD (aJ 6) (aD (kL (aD (kL aN) (aD (kL (aD (kL aN) aN)) aN))) aN))) (aJ 6))) (kU (aV (eqD true) (aT 2 aY (aD (kL (aD (kL aN) (aD (kL (aD (kL aN) aN)) aN))) (aD (aJ 6) aN))) (aJ 6)))) (mQ (dC (.bl false))) lX)
 (mQ (aS7 (aV (eqD false) (aT 2 aY (aD (aJ 6) (aD (kL (aD (kL aN) (aD (kL aN) aN))) aN))) (kL (aD (aV ixD (aJ 6) (dC (.int 0))) (aD (kL aN) aN)))) (aV (eqD false) (aT 2 aZ (aD (aJ 6) (aD (kL (aD (kL aN) (aD (kL aN) aN))) aN))) (kL (aD (aV ixD (aJ 6) (dC (.int 0))) (aD (kL aN) aN))))))))))))))))))))))
noncomputable def mH:Dv.Run:=wU 16 aA4
def bU3{X:Cx}{E:Ex}{own:List Nat}{tg iter:Expr}{a:List Stmt}{pos:Pos}{ri:DI}{g:TG}{c:DG}{b:DS}(d:PG X tg g)(e:aT3 own g c)(f:PassesOwn (model X.prog X.w) X.A X.env X.xe)(h:X.calm=true)(hi:GI X tg iter ri)(hb:GSs E X a b)
  (hs:∀ x,foldedSetIterable iter X.env x=pure x):GS E X (.For tg iter a [] pos) (aT7 ri c b):=yI e λΓ=>vD f h (gI hi Γ) d (gSs hb Γ) hs
section
variable{P:Program}{w:World}{K:W.Frag}{mg:Str->Option Value}{base:Heap}{a:Adr}
def aP6(T:Txt K mg a):FnOk P w K mg base CX0 1 a.a1B a.a1k ["_law_script","_law_k"] (dsp 2 dA):=by
 refine cH T.a1o vT (by decide) fX (λcdv A outer s H E b=>?_);have nd:=vT.nd;unfold fX;exact(aF (aM (i:=2) nd rfl (Or.inl rfl) (aP bC bD (aP fM fN ge_int (aB (pv 1))) ge_int))
  (aF (sC (cD (cE8 b.units0) bT1 (aB (pv 1)) (cY fO (λΓ=>cL cI (by rfl) T.a1z dB (gA (aA (aB (pv 0)) aE) Γ))) (bU _)) (aU (aM (i:=2) nd rfl (Or.inl rfl) (bE (aB (pv 0)) (aB (pv 1)) (λ_ _=>rfl)))) (aU (sC (cD bB1 wV (cY fO (λΓ=>cL cI (by rfl) T.a1z dB (gA (aA (aB (pv 0)) aE) Γ))) ge_int (bU _)) (aU (aM (i:=2) nd rfl (Or.inl rfl) (aP bC bD (aB (pv 2)) (aP fM fN (aP kH fL (bE (aB (pv 0)) (aP kH fL (aB (pv 1)) (cY fO (λΓ=>cL cI (by rfl) T.a1z dB (gA (aA (aB (pv 0)) aE) Γ)))) (λ_ _=>rfl)) ge_int) ge_int)))) eN)))
  (aF (aM (i:=3) nd rfl (Or.inl rfl) (aP bC bD (aP kH fL (aP bC bD (aP fM fN (aP kH fL (aB (pv 2)) ge_int) ge_int) (aP fM fN ge_int (aB (pv 1)))) ge_int) ge_int))
  (aU (bX (eB (aA (cQ (aP fM fN (aB (pv 2)) (cY aU2 (λΓ=>bN xT (by rfl) T.a1S aJ4 (gA (aA (yG cK0 bQ8 (aB (pv 2)) (aP bZ8 bQ7 ge_int ge_int) (bU _)) aE) Γ))))) (aA (cQ (aB (pv 3))) aE))))))))
def aF9(T:Txt K mg a):FnOk P w K mg base CX0 1 a.a0Q a.a0B ["_law_box_here","_law_many"] (dsp 2 aI):=by
 refine cH T.a0l tQ (by decide) eR (λcdv A outer s H E b=>?_);have nd:=tQ.nd;unfold eR;exact(aF (sC (cD bB1 wV (bE (aB (pv 0)) ge_int (λ_ _=>rfl)) ge_int (bU _)) (aF (aM (i:=2) nd rfl (Or.inl rfl) (aP kH fL (bE (aB (pv 0)) ge_int (λ_ _=>rfl)) (aB (pv 1))))
  (aF (aU5 (k:=0) (λΓ=>xR (gE (aP aI9 aU6 (bE (aB (pv 0)) ge_int (λ_ _=>rfl)) (aB (pv 1))) Γ) (aQ7 (pv 0) (gE ge_int Γ) wH)))
  (aU (bX (aB (pv 2)))))) eN)
  (aF (aM (i:=3) nd rfl (Or.inl rfl) (aP kH fL (aP fM fN (bE (aB (pv 0)) ge_int (λ_ _=>rfl)) ge_int) ge_int))
  (aF (aU5 (k:=0) (λΓ=>xR (gE (aP bC bD (aP kH fL (aP bC bD (aP fM fN (aB (pv 3)) ge_int) ge_int) ge_int) ge_int) Γ) (aQ7 (pv 0) (gE ge_int Γ) wH)))
  (aU (bX (aP kH fL (aP aI9 aU6 (aP bC bD (aP fM fN (aB (pv 3)) ge_int) (bE (aB (pv 0)) ge_int (λ_ _=>rfl))) ge_int) (aB (pv 1))))))))
def aA5(T:Txt K mg a)(b:FnOk P w K mg base CX0 1 a.a0Q a.a0B ["_law_box_here","_law_many"] (dsp 2 aI)):FnOk P w K mg base CX0 2 a.a1p a.a0L ["_law_box_here","_law_many"] (dsp 2 cT):=by
 refine cH T.a1n rS (by decide) dQ (λcdv A outer s H E c=>?_);have nd:=rS.nd;unfold dQ;exact(aF (aM (i:=2) nd rfl (Or.inr rfl) fS)
  (aF (aM (i:=3) nd rfl (Or.inl rfl) (bR6 (sep:="") K (λΓ=>kS K (by rfl) F.plainAttrs_str F.slot_str_join F.type_str_join (bE3 K (by rfl)) bG6 (gA (aA (fK (ow:=[12]) (bH (by decide)) (λΓ=>fH (csc [12] (by kernel_rfl)) (gI (wS (λΓ=>kP (by rfl) T.a1D (gA (aA (aH (λΓ=>aG b (c.mono (by decide)) (by rfl) T.a0n T.a0l.kp (aR T) .nil aW (gA (aA (aB (pv 0)) (aA ge_int aE)) Γ))) aE) Γ)) bI5) Γ) (λ_ _ _ _=>(bG (i:=12) nd rfl (Or.inl rfl) (.inr rfl))) (bV (by decide)) (λ_ _ _ _=>gC) (λ_ _ _ _=>gE (bE (aB (pv 2)) (aH (λΓ=>aG b (c.mono (by decide)) (by rfl) T.a0n T.a0l.kp (aR T) .nil aW (gA (aA (aB (pv 0)) (aA ge_int aE)) Γ))) (λ_ _=>rfl)) Γ))) aE) Γ))))
  (aF (aM (i:=4) nd rfl (Or.inl rfl) (aH (λΓ=>aG b (c.mono (by decide)) (by rfl) T.a0n T.a0l.kp (aR T) .nil aW (gA (aA (aB (pv 0)) (aA (aP bC bD (cY fO (λΓ=>cL cI (by rfl) T.a1z dB (gA (aA (aB (pv 3)) aE) Γ))) ge_int) aE)) Γ))))
  (aF (aM (i:=5) nd rfl (Or.inl rfl) (aH (λΓ=>aG b (c.mono (by decide)) (by rfl) T.a0n T.a0l.kp (aR T) .nil aW (gA (aA (aB (pv 0)) (aA ge_int aE)) Γ))))
  (aF (aM (i:=6) nd rfl (Or.inl rfl) (aH (λΓ=>aG b (c.mono (by decide)) (by rfl) T.a0n T.a0l.kp (aR T) .nil aW (gA (aA (aB (pv 0)) (aA ge_int aE)) Γ))))
  (aF (sC (cD (tJ c.units) (dL (neg:=false)) (aB (pv 6)) ge_int (bU _)) (aF (bI4 (own:=[7,8,9]) (bI3 (eG (bH (by decide)) (eG (bH (by decide)) (eG (bH (by decide)) aD1)))) (λΓ=>xR (gE (cQ (eX (eX (aB (pv 2)) (iD (aH (λΓ=>aG b (c.mono (by decide)) (by rfl) T.a0n T.a0l.kp (aR T) .nil aW (gA (aA (aB (pv 0)) (aA ge_int aE)) Γ)))) iC) iC (iD ge_int))) Γ) (aH8 (n:=3) K rfl rfl (eE (bG (i:=7) nd rfl (Or.inl rfl)) (eE (bG (i:=8) nd rfl (Or.inl rfl)) (eE (bG (i:=9) nd rfl (Or.inl rfl)) aB7))))))
  (aF (aM (i:=10) nd rfl (Or.inl rfl) (eB (aA (cQ (aB (pv 7))) (aA (cQ (aP bC bD (aB (pv 7)) (aB (pv 8)))) (aA (cQ (aB (pv 8))) (aA (cQ (aP bC bD (aB (pv 8)) (aB (pv 9)))) aE))))))
  (aU (bX (eX (aP bC bD (aB (pv 10)) (eB (aA (cQ (aB (pv 9))) (aA (cQ (aP bC bD (aB (pv 7)) (aB (pv 9)))) (aA (cQ (aP bC bD (aP bC bD (aB (pv 7)) (aB (pv 8))) (aB (pv 9)))) (aA (cQ (aP bC bD (aB (pv 9)) (aB (pv 8)))) aE)))))) iC (iD (aB (pv 1)))))))) eN)
  (aF (aM (i:=11) nd rfl (Or.inl rfl) (eB aE))
  (aF (yI (own:=[12]) (bH (by decide)) (λΓ=>vD a8h rfl (gI (wS (λΓ=>kP (by rfl) T.a1D (gA (aA (aB (pv 1)) aE) Γ)) bI5) Γ) (bG (i:=12) nd rfl (Or.inl rfl))
  (gSs (aF (aM (i:=13) nd rfl (Or.inl rfl) (aP bC bD (aP bC bD (eX (aB (pv 3)) iC (iD (aB (pv 4)))) (bE (aB (pv 2)) (aP kH fL (aP bC bD (aB (pv 5)) (aP fM fN ge_int (aB (pv 12)))) ge_int) (λ_ _=>rfl))) (eX (aB (pv 3)) (iD (aB (pv 4))) iC)))
  (aU (lY (lW tH (λΓ=>kS K (by rfl) a5e a0f a1f fR (pv 11) (gA (aA (cQ (aP bC bD (aB (pv 13)) (aP fM fN fS (cY aU2 (λΓ=>bN xT (by rfl) T.a1S aJ4 (gA (aA (bI2 (yG (tJ c.units) (dL (neg:=false)) (aB (pv 6)) ge_int (bU _)) (bI1 (yG (tJ c.units) (dL (neg:=false)) (aP kH fL (aB (pv 12)) ge_int) ge_int (bU _)))) aE) Γ)))))) aE) Γ)))))) Γ)))
  (aF (aM (i:=14) nd rfl (Or.inl rfl) (eB (aA fS (aA fS (aA fS (aA fS (aA fS (aA fS aE))))))))
  (aF (aM (i:=14) nd rfl (Or.inl rfl) (aP bC bD (aB (pv 14)) (eB (aA fS (aA fS (aA fS (aA fS (aA fS aE))))))))
  (aF (aM (i:=13) nd rfl (Or.inl rfl) (bE (aB (pv 14)) (aH (λΓ=>aG b (c.mono (by decide)) (by rfl) T.a0n T.a0l.kp (aR T) .nil aW (gA (aA (aB (pv 0)) (aA ge_int aE)) Γ))) (λ_ _=>rfl)))
  (aF (sC (GW.gt (cC0 (cD (tJ c.units) (dL (neg:=false)) (aH (λΓ=>aG b (c.mono (by decide)) (by rfl) T.a0n T.a0l.kp (aR T) .nil aW (gA (aA (aB (pv 0)) (aA ge_int aE)) Γ))) ge_int (bU _)) (bP8 (cD (yM c.units) (aU7 (neg:=true)) (aB (pv 13)) (aB (pv 11)) (by with_unfolding_all rfl))))) (aU (aU5 (k:=11) (λΓ=>xR (gE (cQ (aB (pv 13))) Γ) (aQ7 (pv 11) (gE (aH (λΓ=>aG b (c.mono (by decide)) (by rfl) T.a0n T.a0l.kp (aR T) .nil aW (gA (aA (aB (pv 0)) (aA (aB (pv 1)) aE)) Γ))) Γ) wH)))) eN)
  (aU (bX (aB (pv 11))))))))))))))))
def aA6(T:Txt K mg a)(b:FnOk P w K mg base CX0 1 a.a0Q a.a0B ["_law_box_here","_law_many"] (dsp 2 aI)):FnOk P w K mg base CX0 2 a.a1s a.a0M ["_law_box_here","_law_things"] (dsp 2 cC):=by
 refine cH T.a0U rT (by decide) dS (λcdv A outer s H E c=>?_);have nd:=rT.nd;unfold dS;exact(aF (aM (i:=2) nd rfl (Or.inl rfl) (cY bE0 (λΓ=>bN aN3 (by rfl) T.a1R aV2 (gA (aA (aB (pv 1)) aE) Γ))))
  (aF (aM (i:=3) nd rfl (Or.inl rfl) (eB aE))
  (aF (bD9 (λΓ=>bA8 a8h (gT (cD bB1 wV (cY fO (λΓ=>cL cI (by rfl) T.a1z dB (gA (aA (aB (pv 2)) aE) Γ))) ge_int (bU _)) Γ)
  (gSs (aU (lY (lW tH (λΓ=>kS K (by rfl) a5e a0f a1f fR (pv 3) (gA (aA (cQ (lW aU4 (λΓ=>kS K (by rfl) a5e F.slot_list_pop F.type_list_pop bB6 (pv 2) (gA (aA (cQ (aH (λΓ=>aG b (c.mono (by decide)) (by rfl) T.a0n T.a0l.kp (aR T) .nil aW (gA (aA (aB (pv 0)) (aA (cY fO (λΓ=>cL cI (by rfl) T.a1z dB (gA (aA (aB (pv 2)) aE) Γ))) aE)) Γ)))) aE) Γ)))) aE) Γ))))) Γ)))
  (aU (bX (aB (pv 3)))))))
def aG0(T:Txt K mg a)(b:FnOk P w K mg base CX0 1 a.a0Q a.a0B ["_law_box_here","_law_many"] (dsp 2 aI)):FnOk P w K mg base CX0 2 a.a1w a.a0S ["_law_box_here","_law_columns","_law_ceiling"] (dsp 3 dU):=by
 refine cH T.a1v tR (by decide) eS (λcdv A outer s H E c=>?_);have nd:=tR.nd;unfold eS;exact(aF (aM (i:=3) nd rfl (Or.inr rfl) (bE (eB (aA ge_int (aA ge_int (aA ge_int (aA ge_int aE))))) (aH (λΓ=>aG b (c.mono (by decide)) (by rfl) T.a0n T.a0l.kp (aR T) .nil aW (gA (aA (aB (pv 0)) (aA ge_int aE)) Γ))) (λ_ _=>rfl)))
  (aF (aM (i:=4) nd rfl (Or.inl rfl) (aH (λΓ=>aG b (c.mono (by decide)) (by rfl) T.a0n T.a0l.kp (aR T) .nil aW (gA (aA (aB (pv 0)) (aA (bE (eB (aA (cQ (aP bC bD (aB (pv 2)) ge_int)) (aA ge_int aE))) (aH (λΓ=>aG b (c.mono (by decide)) (by rfl) T.a0n T.a0l.kp (aR T) .nil aW (gA (aA (aB (pv 0)) (aA ge_int aE)) Γ))) (λ_ _=>rfl)) aE)) Γ))))
  (aU (bX (cY fP (λΓ=>bN cJ (by rfl) T.a0N bT (gA (aA (cY rZ (λΓ=>aK5 (id:="sorted") (U:="set") (lM rfl (bK4 c)) (by rfl) T.a1x gD (by rfl) T.a1T aJ5 (gA (aA (fK (ow:=[5]) (bH (by decide)) (λΓ=>fH (csc [5] (by kernel_rfl)) (gI (wS (λΓ=>kP (by rfl) T.a1D (gA (aA (aB (pv 4)) aE) Γ)) bI5) Γ) (λ_ _ _ _=>(bG (i:=5) nd rfl (Or.inl rfl) (.inr rfl))) (bV (by decide)) (λ_ _ _ _=>gC) (λ_ _ _ _=>gE (cY fP (λΓ=>bN cJ (by rfl) T.a0N bT (gA (aA (fK (ow:=[6]) (bH (by decide)) (λΓ=>fH (csc [6] (by kernel_rfl)) (gI (fU K (by rfl) (aB (pv 1))) Γ) (λ_ _ _ _=>(bG (i:=6) nd rfl (Or.inl rfl) (.inr rfl))) (bV (by decide)) (λ_ _ _ _=>gC) (λ_ _ _ _=>gE (cQ (aH (λΓ=>aG b (c.mono (by decide)) (by rfl) T.a0n T.a0l.kp (aR T) .nil aW (gA (aA (aB (pv 0)) (aA (aB (pv 3)) aE)) Γ)))) Γ))) aE) Γ))) Γ))) aE) Γ))) aE) Γ)))))))
def mI(T:Txt K mg a):FnOk P w K mg base CX0 1 a.a0m a.a0s ["one","other"] (dsp 2 bB):=by
 refine cH T.a0A fW (by decide) bO (λcdv A outer s H E b=>?_);have nd:=fW.nd;unfold bO;exact(aU (bX (fK (ow:=[2]) (bH (by decide)) (λΓ=>fH (csc [2] (by kernel_rfl)) (gI (fU K (by rfl) (bE (aB (pv 0)) ge_int (λ_ _=>rfl))) Γ) (λ_ _ _ _=>(bG (i:=2) nd rfl (Or.inl rfl) (.inr rfl))) (bV (by decide)) (λ_ _ _ _=>(sG (cD (cD0 b.units) (aU7 (neg:=false)) (aB (pv 2)) (bE (aB (pv 1)) ge_int (λ_ _=>rfl)) (by with_unfolding_all rfl)))) (λ_ _ _ _=>gE (cQ (aB (pv 2))) Γ)))))
def aY0(T:Txt K mg a):FnOk P w K mg base CX0 1 a.picked a.a0J ["row","places"] (dsp 2 bL):=by
 refine cH T.a0R zE (by decide) jN (λcdv A outer s H E b=>?_);have nd:=zE.nd;unfold jN;exact(aU (bX (cY fP (λΓ=>bN cJ (by rfl) T.a0N bT (gA (aA (fK (ow:=[2]) (bH (by decide)) (λΓ=>fH (csc [2] (by kernel_rfl)) (gI (fU K (by rfl) (aB (pv 1))) Γ) (λ_ _ _ _=>(bG (i:=2) nd rfl (Or.inl rfl) (.inr rfl))) (bV (by decide)) (λ_ _ _ _=>gC) (λ_ _ _ _=>gE (bE (aB (pv 0)) (aB (pv 2)) (λ_ _=>rfl)) Γ))) aE) Γ)))))
def aA7(T:Txt K mg a):FnOk P w K mg base CX0 1 a.a0p a.a0u ["columns","some"] (dsp 2 aQ):=by
 refine cH T.a0C rU (by decide) bZ (λcdv A outer s H E b=>?_);have nd:=rU.nd;unfold bZ;exact(aU (bX (fK (ow:=[2]) (bH (by decide)) (λΓ=>fH (csc [2] (by kernel_rfl)) (gI (fU K (by rfl) (aB (pv 1))) Γ) (λ_ _ _ _=>(bG (i:=2) nd rfl (Or.inl rfl) (.inr rfl))) (bV (by decide)) (λ_ _ _ _=>gC) (λ_ _ _ _=>gE (cQ (cE9 aL1 (λΓ=>bK2 F.slot_tuple_index F.type_tuple_index aA0 (gE (aB (pv 0)) Γ) (gA (aA (aB (pv 2)) aE) Γ)))) Γ)))))
def aP7(T:Txt K mg a)(b:FnOk P w K mg base CX0 1 a.picked a.a0J ["row","places"] (dsp 2 bL))(c:FnOk P w K mg base CX0 1 a.a0p a.a0u ["columns","some"] (dsp 2 aQ)):FnOk P w K mg base CX0 2 a.grouped a.a0O ["table","columns","others"] (dsp 3 cP):=by
 refine cH T.a1q vU (by decide) fY (λcdv A outer s H E d=>?_);have nd:=vU.nd;unfold fY;exact(aF (aM (i:=3) nd rfl (Or.inl rfl) (aH (λΓ=>aG c (d.mono (by decide)) (by rfl) T.a0K T.a0C.kp (eQ T) .nil aW (gA (aA (bE (aB (pv 0)) ge_int (λ_ _=>rfl)) (aA (aB (pv 1)) aE)) Γ))))
  (aF (aM (i:=4) nd rfl (Or.inl rfl) (aH (λΓ=>aG c (d.mono (by decide)) (by rfl) T.a0K T.a0C.kp (eQ T) .nil aW (gA (aA (bE (aB (pv 0)) ge_int (λ_ _=>rfl)) (aA (aB (pv 2)) aE)) Γ))))
  (bT4 (K:=K) (g:=5) (row:=6) (by decide) (bG8 (i:=5) nd rfl (Or.inl rfl) bD0) (λΓ=>vD a8h rfl (gI (fU K (by rfl) (bE (aB (pv 0)) ge_int (λ_ _=>rfl))) Γ) (bG (i:=6) nd rfl (Or.inl rfl)) (aB6 (aQ6 (kS K (by rfl) a5e a0f a1f fR (cF3 (bN9 d) (pv 5) (gE (aH (λΓ=>aG b (d.mono (by decide)) (by rfl) T.a1r T.a0R.kp (lE T) .nil aW (gA (aA (aB (pv 6)) (aA (aB (pv 3)) aE)) Γ))) Γ) (bH1 bH0) ⟨rfl,rfl,rfl,rfl⟩) (gA (aA (cQ (aH (λΓ=>aG b (d.mono (by decide)) (by rfl) T.a1r T.a0R.kp (lE T) .nil aW (gA (aA (aB (pv 6)) (aA (aB (pv 4)) aE)) Γ)))) aE) Γ))))) (bG7 (cN1 (pv 5))))))
def aG1(T:Txt K mg a):FnOk P w K mg base CX0 1 a.a0y a.a0I ["columns","rows"] (dsp 2 cA):=by
 refine cH T.a0Z tS (by decide) eT (λcdv A outer s H E b=>?_);have nd:=tS.nd;unfold eT;exact(aU (bX (bW (aA (cY fP (λΓ=>bN cJ (by rfl) T.a0N bT (gA (aA (aB (pv 0)) aE) Γ))) (aA (cY fP (λΓ=>bN cJ (by rfl) T.a0N bT (gA (aA (cY rZ (λΓ=>aK5 (id:="sorted") (U:="set") (lM rfl (bK4 b)) (by rfl) T.a1x gD (by rfl) T.a1T aJ5 (gA (aA (aB (pv 1)) aE) Γ))) aE) Γ))) aE)))))
def aY1(T:Txt K mg a)(c:FnOk P w K mg base CX0 1 a.a0m a.a0s ["one","other"] (dsp 2 bB))(d:FnOk P w K mg base CX0 2 a.grouped a.a0O ["table","columns","others"] (dsp 3 cP))(e:FnOk P w K mg base CX0 1 a.a0p a.a0u ["columns","some"] (dsp 2 aQ))(f:FnOk P w K mg base CX0 1 a.picked a.a0J ["row","places"] (dsp 2 bL))(g:FnOk P w K mg base CX0 1 a.a0y a.a0I ["columns","rows"] (dsp 2 cA)):FnOk P w K mg base CX0 3 a.joined a.a0W ["one","other"] (dsp 2 aY):=by
 refine cH T.a0z zF (by decide) jO (λcdv A outer s H E b=>?_);have nd:=zF.nd;unfold jO;exact(aF (aM (i:=2) nd rfl (Or.inl rfl) (aH (λΓ=>aG c (b.mono (by decide)) (by rfl) T.a0V T.a0A.kp (gN T) .nil aW (gA (aA (aB (pv 0)) (aA (aB (pv 1)) aE)) Γ))))
  (aF (aN9 (ow:=[8]) (i:=3) (bH (by decide)) (λΓ=>aN2 (i:=3) nd rfl rfl (csc [8] (by kernel_rfl)) (gI (fU K (by rfl) (bE (aB (pv 1)) ge_int (λ_ _=>rfl))) Γ) (λ_ _ _ _=>(bG (i:=8) nd rfl (Or.inl rfl) (.inr rfl))) (bV (by decide)) (λ_ _ _ _=>(sG (cD (yM b.units) (aU7 (neg:=true)) (aB (pv 8)) (bE (aB (pv 0)) ge_int (λ_ _=>rfl)) (by with_unfolding_all rfl)))) (λ_ _ _ _=>gE (cQ (aB (pv 8))) Γ) rfl))
  (aF (aM (i:=4) nd rfl (Or.inl rfl) (aH (λΓ=>aG d (b.mono (by decide)) (by rfl) T.a1H T.a1q.kp (zH T) .nil aW (gA (aA (aB (pv 1)) (aA (aB (pv 2)) (aA (aB (pv 3)) aE))) Γ))))
  (aF (aM (i:=5) nd rfl (Or.inl rfl) (aH (λΓ=>aG e (b.mono (by decide)) (by rfl) T.a0K T.a0C.kp (eQ T) .nil aW (gA (aA (bE (aB (pv 0)) ge_int (λ_ _=>rfl)) (aA (aB (pv 2)) aE)) Γ))))
  (aF (aM (i:=6) nd rfl (Or.inl rfl) (eB aE))
  (aF (yI (own:=[7]) (bH (by decide)) (λΓ=>vD a8h rfl (gI (fU K (by rfl) (bE (aB (pv 0)) ge_int (λ_ _=>rfl))) Γ) (bG (i:=7) nd rfl (Or.inr rfl))
  (gSs (aU (lY (bP9 bR1 (λΓ=>kS K (by rfl) a5e F.slot_list_extend F.type_list_extend bR0 (pv 6) (gA (aA (fK (ow:=[9]) (bH (by decide)) (λΓ=>fH (csc [9] (by kernel_rfl)) (gI (fU K (by rfl) (bT8 (bN9 b) (aB (pv 4)) (aH (λΓ=>aG f (b.mono (by decide)) (by rfl) T.a1r T.a0R.kp (lE T) .nil aW (gA (aA (aB (pv 7)) (aA (aB (pv 5)) aE)) Γ))) (eB aE) ⟨rfl,rfl,rfl,rfl⟩)) Γ) (λ_ _ _ _=>(bG (i:=9) nd rfl (Or.inl rfl) (.inr rfl))) (bV (by decide)) (λ_ _ _ _=>gC) (λ_ _ _ _=>gE (cQ (aP bC bD (aB (pv 7)) (aB (pv 9)))) Γ))) aE) Γ))))) Γ)))
  (aU (bX (aH (λΓ=>aG g (b.mono (by decide)) (by rfl) T.a1A T.a0Z.kp (vV T) .nil aW (gA (aA (aP bC bD (bE (aB (pv 0)) ge_int (λ_ _=>rfl)) (cY fP (λΓ=>bN cJ (by rfl) T.a0N bT (gA (aA (aB (pv 3)) aE) Γ)))) (aA (aB (pv 6)) aE)) Γ)))))))))))
def xH(T:Txt K mg a)(b:FnOk P w K mg base CX0 3 a.joined a.a0W ["one","other"] (dsp 2 aY)):FnOk P w K mg base CX0 4 a.a1l a.a0G ["_law_tables"] (dsp 1 cK):=by
 refine cH T.a0Y lC (by decide) cU (λcdv A outer s H E c=>?_);have nd:=lC.nd;unfold cU;refine aF (aM (i:=1) nd rfl (Or.inl rfl) (eB aE)) (aF ?_ ?_)
 ·refine bU3 (own:=[2,3,4]) (aH8 (n:=3) K rfl rfl (eE (bG (i:=2) nd rfl (Or.inl rfl)) (eE (bG (i:=3) nd rfl (Or.inl rfl)) (eE (bG (i:=4) nd rfl (Or.inl rfl)) aB7)))) (bI3 (eG (bH (by decide)) (eG (bH (by decide)) (eG (bH (by decide)) aD1)))) a8h rfl (fU K (by rfl) ?_) ?_ (λ_=>rfl)
  ·refine eB ?_
   repeat' first | exact aE | exact ge_int | refine bW ?_ | refine aA ?_ ?_
  ·exact(aF (lY (lW tH (λΓ=>kS K (by rfl) a5e a0f a1f fR (pv 1) (gA (aA (cQ (aH (λΓ=>aG b (c.mono (by decide)) (by rfl) T.a0D T.a0z.kp (cS T) .nil aW (gA (aA (aH (λΓ=>aG b (c.mono (by decide)) (by rfl) T.a0D T.a0z.kp (cS T) .nil aW (gA (aA (bE (aB (pv 0)) (aB (pv 2)) (λ_ _=>rfl)) (aA (bE (aB (pv 0)) (aB (pv 3)) (λ_ _=>rfl)) aE)) Γ))) (aA (bE (aB (pv 0)) (aB (pv 4)) (λ_ _=>rfl)) aE)) Γ)))) aE) Γ))))
  (aU (lY (lW tH (λΓ=>kS K (by rfl) a5e a0f a1f fR (pv 1) (gA (aA (cQ (aH (λΓ=>aG b (c.mono (by decide)) (by rfl) T.a0D T.a0z.kp (cS T) .nil aW (gA (aA (bE (aB (pv 0)) (aB (pv 2)) (λ_ _=>rfl)) (aA (aH (λΓ=>aG b (c.mono (by decide)) (by rfl) T.a0D T.a0z.kp (cS T) .nil aW (gA (aA (bE (aB (pv 0)) (aB (pv 3)) (λ_ _=>rfl)) (aA (bE (aB (pv 0)) (aB (pv 4)) (λ_ _=>rfl)) aE)) Γ))) aE)) Γ)))) aE) Γ))))))
 ·exact aU (bX (aB (pv 1)))
def cG2(T:Txt K mg a)(b:FnOk P w K mg base CX0 1 a.a0p a.a0u ["columns","some"] (dsp 2 aQ))(c:FnOk P w K mg base CX0 1 a.a0y a.a0I ["columns","rows"] (dsp 2 cA))(d:FnOk P w K mg base CX0 1 a.picked a.a0J ["row","places"] (dsp 2 bL)):FnOk P w K mg base CX0 2 a.cut a.a1K ["table","columns"] (dsp 2 eU):=by
 refine cH T.a1G bJ3 (by decide) aA3 (λcdv A outer s H E e=>?_);have nd:=bJ3.nd;unfold aA3;exact(aF (aM (i:=2) nd rfl (Or.inr rfl) (aH (λΓ=>aG b (e.mono (by decide)) (by rfl) T.a0K T.a0C.kp (eQ T) .nil aW (gA (aA (bE (aB (pv 0)) ge_int (λ_ _=>rfl)) (aA (aB (pv 1)) aE)) Γ))))
  (aU (bX (aH (λΓ=>aG c (e.mono (by decide)) (by rfl) T.a1A T.a0Z.kp (vV T) .nil aW (gA (aA (aB (pv 1)) (aA (fK (ow:=[3]) (bH (by decide)) (λΓ=>fH (csc [3] (by kernel_rfl)) (gI (fU K (by rfl) (bE (aB (pv 0)) ge_int (λ_ _=>rfl))) Γ) (λ_ _ _ _=>(bG (i:=3) nd rfl (Or.inl rfl) (.inr rfl))) (bV (by decide)) (λ_ _ _ _=>gC) (λ_ _ _ _=>gE (cQ (aH (λΓ=>aG d (e.mono (by decide)) (by rfl) T.a1r T.a0R.kp (lE T) .nil aW (gA (aA (aB (pv 3)) (aA (aB (pv 2)) aE)) Γ)))) Γ))) aE)) Γ))))))
def xI(T:Txt K mg a)(c:FnOk P w K mg base CX0 1 a.a0m a.a0s ["one","other"] (dsp 2 bB))(d:FnOk P w K mg base CX0 2 a.grouped a.a0O ["table","columns","others"] (dsp 3 cP))(e:FnOk P w K mg base CX0 1 a.a0p a.a0u ["columns","some"] (dsp 2 aQ))(f:FnOk P w K mg base CX0 1 a.picked a.a0J ["row","places"] (dsp 2 bL)):FnOk P w K mg base CX0 3 a.a0q a.a0F ["one","other"] (dsp 2 aZ):=by
 refine cH T.a0w lD (by decide) cV (λcdv A outer s H E b=>?_);have nd:=lD.nd;unfold cV;exact(aF (aM (i:=2) nd rfl (Or.inl rfl) (aH (λΓ=>aG c (b.mono (by decide)) (by rfl) T.a0V T.a0A.kp (gN T) .nil aW (gA (aA (aB (pv 0)) (aA (aB (pv 1)) aE)) Γ))))
  (aF (aM (i:=3) nd rfl (Or.inr rfl) (aH (λΓ=>aG d (b.mono (by decide)) (by rfl) T.a1H T.a1q.kp (zH T) .nil aW (gA (aA (aB (pv 1)) (aA (aB (pv 2)) (aA (eB aE) aE))) Γ))))
  (aF (aM (i:=4) nd rfl (Or.inr rfl) (aH (λΓ=>aG e (b.mono (by decide)) (by rfl) T.a0K T.a0C.kp (eQ T) .nil aW (gA (aA (bE (aB (pv 0)) ge_int (λ_ _=>rfl)) (aA (aB (pv 2)) aE)) Γ))))
  (aU (bX (bW (aA (bE (aB (pv 0)) ge_int (λ_ _=>rfl)) (aA (cY fP (λΓ=>bN cJ (by rfl) T.a0N bT (gA (aA (fK (ow:=[5]) (bH (by decide)) (λΓ=>fH (csc [5] (by kernel_rfl)) (gI (fU K (by rfl) (bE (aB (pv 0)) ge_int (λ_ _=>rfl))) Γ) (λ_ _ _ _=>(bG (i:=5) nd rfl (Or.inl rfl) (.inr rfl))) (bV (by decide)) (λ_ _ _ _=>(sG (cD (cF7 (bN9 b)) bT6 (aH (λΓ=>aG f (b.mono (by decide)) (by rfl) T.a1r T.a0R.kp (lE T) .nil aW (gA (aA (aB (pv 5)) (aA (aB (pv 4)) aE)) Γ))) (aB (pv 3)) (by with_unfolding_all rfl)))) (λ_ _ _ _=>gE (cQ (aB (pv 5))) Γ))) aE) Γ))) aE))))))))
def bU4(T:Txt K mg a):FnOk P w K mg base CX0 1 a.kept a.a1C ["table","column","value"] (dsp 3 gJ):=by
 refine cH T.a1M aV3 (by decide) uG (λcdv A outer s H E b=>?_);have nd:=aV3.nd;unfold uG;exact(aF (aM (i:=3) nd rfl (Or.inr rfl) (cE9 aL1 (λΓ=>bK2 F.slot_tuple_index F.type_tuple_index aA0 (gE (bE (aB (pv 0)) ge_int (λ_ _=>rfl)) Γ) (gA (aA (aB (pv 1)) aE) Γ))))
  (aU (bX (bW (aA (bE (aB (pv 0)) ge_int (λ_ _=>rfl)) (aA (cY fP (λΓ=>bN cJ (by rfl) T.a0N bT (gA (aA (fK (ow:=[4]) (bH (by decide)) (λΓ=>fH (csc [4] (by kernel_rfl)) (gI (fU K (by rfl) (bE (aB (pv 0)) ge_int (λ_ _=>rfl))) Γ) (λ_ _ _ _=>(bG (i:=4) nd rfl (Or.inl rfl) (.inr rfl))) (bV (by decide)) (λ_ _ _ _=>(sG (cD (tJ b.units) (dL (neg:=false)) (bE (aB (pv 4)) (aB (pv 3)) (λ_ _=>rfl)) (aB (pv 2)) (bU _)))) (λ_ _ _ _=>gE (cQ (aB (pv 4))) Γ))) aE) Γ))) aE))))))
def cG3(T:Txt K mg a)(g:FnOk P w K mg base CX0 1 a.a1B a.a1k ["_law_script","_law_k"] (dsp 2 dA))(k:FnOk P w K mg base CX0 2 a.a1p a.a0L ["_law_box_here","_law_many"] (dsp 2 cT))(h:FnOk P w K mg base CX0 2 a.a1s a.a0M ["_law_box_here","_law_things"] (dsp 2 cC))(d:FnOk P w K mg base CX0 1 a.a0Q a.a0B ["_law_box_here","_law_many"] (dsp 2 aI))(l:FnOk P w K mg base CX0 2 a.a1w a.a0S ["_law_box_here","_law_columns","_law_ceiling"] (dsp 3 dU))(m:FnOk P w K mg base CX0 4 a.a1l a.a0G ["_law_tables"] (dsp 1 cK))(e:FnOk P w K mg base CX0 2 a.cut a.a1K ["table","columns"] (dsp 2 eU))(c:FnOk P w K mg base CX0 3 a.joined a.a0W ["one","other"] (dsp 2 aY))(f:FnOk P w K mg base CX0 3 a.a0q a.a0F ["one","other"] (dsp 2 aZ))(j:FnOk P w K mg base CX0 1 a.kept a.a1C ["table","column","value"] (dsp 3 gJ)):FnOk P w K mg base CX0 5 a.law a.a1P ["_law_script"] (dsp 1 mH):=by
 refine cH T.a1V bJ4 (by decide) aA4 (λcdv A outer s H E b=>?_);have nd:=bJ4.nd;unfold aA4;exact(aF (aM (i:=1) nd rfl (Or.inl rfl) (aH (λΓ=>aG g (b.mono (by decide)) (by rfl) T.a1E T.a1o.kp (zG T) .nil aW (gA (aA (aB (pv 0)) (aA ge_int aE)) Γ))))
  (aF (aM (i:=2) nd rfl (Or.inl rfl) (aH (λΓ=>aG k (b.mono (by decide)) (by rfl) T.a1J T.a1n.kp (aE1 T) .nil aW (gA (aA (aB (pv 1)) (aA ge_int aE)) Γ))))
  (aF (aM (i:=3) nd rfl (Or.inl rfl) (eB aE))
  (aF (yI (own:=[4]) (bH (by decide)) (λΓ=>vD a8h rfl (gI (wS (λΓ=>kP (by rfl) T.a1D (gA (aA ge_int aE) Γ)) bI5) Γ) (bG (i:=4) nd rfl (Or.inl rfl))
  (gSs (aF (aM (i:=5) nd rfl (Or.inl rfl) (cY fP (λΓ=>bN cJ (by rfl) T.a0N bT (gA (aA (eX (aH (λΓ=>aG h (b.mono (by decide)) (by rfl) T.a1y T.a0U.kp (tT T) .nil aW (gA (aA (aB (pv 1)) (aA (aB (pv 2)) aE)) Γ))) iC (iD (aH (λΓ=>aG d (b.mono (by decide)) (by rfl) T.a0n T.a0l.kp (aR T) .nil aW (gA (aA (aB (pv 1)) (aA ge_int aE)) Γ))))) aE) Γ))))
  (aU (lY (lW tH (λΓ=>kS K (by rfl) a5e a0f a1f fR (pv 3) (gA (aA (bW (aA (cQ (aB (pv 5))) (aA (cQ (aH (λΓ=>aG l (b.mono (by decide)) (by rfl) T.a1N T.a1v.kp (aO2 T) .nil aW (gA (aA (aH (λΓ=>aG g (b.mono (by decide)) (by rfl) T.a1E T.a1o.kp (zG T) .nil aW (gA (aA (aB (pv 0)) (aA (aP bC bD ge_int (aB (pv 4))) aE)) Γ))) (aA (aB (pv 5)) (aA ge_int aE))) Γ)))) aE))) aE) Γ)))))) Γ)))
  (aF (bI4 (own:=[6,7,8]) (cG1 (eG (bH (by decide)) (eG (bH (by decide)) (eG (bH (by decide)) aD1)))) (λΓ=>xR (gE (cQ (aB (pv 3))) Γ) (bU1 (n:=3) K rfl rfl (eE (bG (i:=6) nd rfl (Or.inl rfl)) (eE (bG (i:=7) nd rfl (Or.inl rfl)) (eE (bG (i:=8) nd rfl (Or.inl rfl)) aB7))))))
  (aF (aM (i:=9) nd rfl (Or.inl rfl) (aH (λΓ=>aG m (b.mono (by decide)) (by rfl) T.a1I T.a0Y.kp (zI T) .nil aW (gA (aA (aB (pv 3)) aE) Γ))))
  (aF (aM (i:=5) nd rfl (Or.inl rfl) (bE (bE (aB (pv 9)) ge_int (λ_ _=>rfl)) ge_int (λ_ _=>rfl)))
  (aF (yI (own:=[10]) (bH (by decide)) (λΓ=>vD a8h rfl (gI (fU K (by rfl) (aB (pv 9))) Γ) (bG (i:=10) nd rfl (Or.inl rfl))
  (gSs (aU (sC (GW.gt (bD3 (cD (kK b.units) (dL (neg:=true)) (cY aA2 (λΓ=>cL vI (by rfl) T.a1x gD (gA (aA (bE (aB (pv 10)) ge_int (λ_ _=>rfl)) aE) Γ))) (cY aA2 (λΓ=>cL vI (by rfl) T.a1x gD (gA (aA (aB (pv 5)) aE) Γ))) (bU _)) (aI3 (cD (kK b.units) (dL (neg:=true)) (aH (λΓ=>aG e (b.mono (by decide)) (by rfl) T.a1O T.a1G.kp (aO3 T) .nil aW (gA (aA (aB (pv 10)) (aA (aB (pv 5)) aE)) Γ))) (bE (aB (pv 9)) ge_int (λ_ _=>rfl)) (bU _))))) (aU (bX aN6)) eN)) Γ)))
  (aF (aM (i:=11) nd rfl (Or.inl rfl) (aH (λΓ=>aG c (b.mono (by decide)) (by rfl) T.a0D T.a0z.kp (cS T) .nil aW (gA (aA (aB (pv 6)) (aA (aB (pv 7)) aE)) Γ))))
  (aF (sC (GW.gt (bD3 (cD (kK b.units) (dL (neg:=true)) (aH (λΓ=>aG f (b.mono (by decide)) (by rfl) T.a0E T.a0w.kp (dN T) .nil aW (gA (aA (aB (pv 6)) (aA (aB (pv 7)) aE)) Γ))) (aH (λΓ=>aG e (b.mono (by decide)) (by rfl) T.a1O T.a1G.kp (aO3 T) .nil aW (gA (aA (aB (pv 11)) (aA (bE (aB (pv 6)) ge_int (λ_ _=>rfl)) aE)) Γ))) (bU _)) (aI3 (cD (kK b.units) (dL (neg:=true)) (aH (λΓ=>aG f (b.mono (by decide)) (by rfl) T.a0E T.a0w.kp (dN T) .nil aW (gA (aA (aB (pv 7)) (aA (aB (pv 6)) aE)) Γ))) (aH (λΓ=>aG e (b.mono (by decide)) (by rfl) T.a1O T.a1G.kp (aO3 T) .nil aW (gA (aA (aB (pv 11)) (aA (bE (aB (pv 7)) ge_int (λ_ _=>rfl)) aE)) Γ))) (bU _))))) (aU (bX aN6)) eN)
  (aF (sC (GW.gt (bD3 (cD (kK b.units) (dL (neg:=true)) (aH (λΓ=>aG c (b.mono (by decide)) (by rfl) T.a0D T.a0z.kp (cS T) .nil aW (gA (aA (aH (λΓ=>aG f (b.mono (by decide)) (by rfl) T.a0E T.a0w.kp (dN T) .nil aW (gA (aA (aB (pv 6)) (aA (aB (pv 7)) aE)) Γ))) (aA (aH (λΓ=>aG f (b.mono (by decide)) (by rfl) T.a0E T.a0w.kp (dN T) .nil aW (gA (aA (aB (pv 7)) (aA (aB (pv 6)) aE)) Γ))) aE)) Γ))) (aB (pv 11)) (bU _)) (aI3 (cD (kK b.units) (dL (neg:=true)) (aH (λΓ=>aG c (b.mono (by decide)) (by rfl) T.a0D T.a0z.kp (cS T) .nil aW (gA (aA (aB (pv 11)) (aA (aB (pv 6)) aE)) Γ))) (aB (pv 11)) (bU _))))) (aU (bX aN6)) eN)
  (aF (sC (cD bB1 wV (cY fO (λΓ=>cL cI (by rfl) T.a1z dB (gA (aA (bE (aB (pv 6)) ge_int (λ_ _=>rfl)) aE) Γ))) ge_int (bU _)) (aF (aM (i:=12) nd rfl (Or.inl rfl) (bE (bE (aB (pv 6)) ge_int (λ_ _=>rfl)) (aH (λΓ=>aG d (b.mono (by decide)) (by rfl) T.a0n T.a0l.kp (aR T) .nil aW (gA (aA (aB (pv 1)) (aA (cY fO (λΓ=>cL cI (by rfl) T.a1z dB (gA (aA (bE (aB (pv 6)) ge_int (λ_ _=>rfl)) aE) Γ))) aE)) Γ))) (λ_ _=>rfl)))
  (aF (aM (i:=13) nd rfl (Or.inl rfl) (aH (λΓ=>aG d (b.mono (by decide)) (by rfl) T.a0n T.a0l.kp (aR T) .nil aW (gA (aA (aB (pv 1)) (aA (bE (eB (aA ge_int (aA ge_int (aA ge_int (aA ge_int aE))))) (aH (λΓ=>aG d (b.mono (by decide)) (by rfl) T.a0n T.a0l.kp (aR T) .nil aW (gA (aA (aB (pv 1)) (aA ge_int aE)) Γ))) (λ_ _=>rfl)) aE)) Γ))))
  (aU (sC (cD (kK b.units) (dL (neg:=true)) (aH (λΓ=>aG c (b.mono (by decide)) (by rfl) T.a0D T.a0z.kp (cS T) .nil aW (gA (aA (aH (λΓ=>aG j (b.mono (by decide)) (by rfl) T.a1Q T.a1M.kp (bJ5 T) .nil aW (gA (aA (aB (pv 6)) (aA (aB (pv 12)) (aA (aB (pv 13)) aE))) Γ))) (aA (aB (pv 7)) aE)) Γ))) (aH (λΓ=>aG j (b.mono (by decide)) (by rfl) T.a1Q T.a1M.kp (bJ5 T) .nil aW (gA (aA (aB (pv 11)) (aA (aB (pv 12)) (aA (aB (pv 13)) aE))) Γ))) (bU _)) (aU (bX aN6)) eN)))) eN)
  (aF (aM (i:=14) nd rfl (Or.inl rfl) (cY fP (λΓ=>bN cJ (by rfl) T.a0N bT (gA (aA (eX (aH (λΓ=>aG h (b.mono (by decide)) (by rfl) T.a1y T.a0U.kp (tT T) .nil aW (gA (aA (aB (pv 1)) (aA (aB (pv 5)) aE)) Γ))) iC (iD (aH (λΓ=>aG d (b.mono (by decide)) (by rfl) T.a0n T.a0l.kp (aR T) .nil aW (gA (aA (aB (pv 1)) (aA (aP bC bD (cY fO (λΓ=>cL cI (by rfl) T.a1z dB (gA (aA (aB (pv 5)) aE) Γ))) ge_int) aE)) Γ))))) aE) Γ))))
  (aF (aM (i:=15) nd rfl (Or.inl rfl) (eX (aB (pv 14)) iC (iD (aH (λΓ=>aG d (b.mono (by decide)) (by rfl) T.a0n T.a0l.kp (aR T) .nil aW (gA (aA (aB (pv 1)) (aA (aP bC bD (cY fO (λΓ=>cL cI (by rfl) T.a1z dB (gA (aA (aB (pv 14)) aE) Γ))) ge_int) aE)) Γ))))))
  (aF (sC (cD (kK b.units) (dL (neg:=true)) (aH (λΓ=>aG e (b.mono (by decide)) (by rfl) T.a1O T.a1G.kp (aO3 T) .nil aW (gA (aA (aH (λΓ=>aG e (b.mono (by decide)) (by rfl) T.a1O T.a1G.kp (aO3 T) .nil aW (gA (aA (bE (aB (pv 9)) ge_int (λ_ _=>rfl)) (aA (aB (pv 14)) aE)) Γ))) (aA (aB (pv 15)) aE)) Γ))) (aH (λΓ=>aG e (b.mono (by decide)) (by rfl) T.a1O T.a1G.kp (aO3 T) .nil aW (gA (aA (bE (aB (pv 9)) ge_int (λ_ _=>rfl)) (aA (aB (pv 15)) aE)) Γ))) (bU _)) (aU (bX aN6)) eN)
  (aF (sC (GW.gt (bD3 (cD (kK b.units) (dL (neg:=true)) (aH (λΓ=>aG c (b.mono (by decide)) (by rfl) T.a0D T.a0z.kp (cS T) .nil aW (gA (aA (aB (pv 6)) (aA (bW (aA (bW aE) (aA (bW (aA (bW aE) aE)) aE))) aE)) Γ))) (aB (pv 6)) (bU _)) (aI3 (cD (kK b.units) (dL (neg:=true)) (aH (λΓ=>aG c (b.mono (by decide)) (by rfl) T.a0D T.a0z.kp (cS T) .nil aW (gA (aA (bW (aA (bW aE) (aA (bW (aA (bW aE) aE)) aE))) (aA (aB (pv 6)) aE)) Γ))) (aB (pv 6)) (bU _))))) (aU (bX aN6)) eN)
  (aU (bX (bI2 (yG (tJ b.units) (dL (neg:=false)) (aH (λΓ=>aG c (b.mono (by decide)) (by rfl) T.a0D T.a0z.kp (cS T) .nil aW (gA (aA (aB (pv 6)) (aA (bW (aA (bW aE) (aA (bW aE) aE))) aE)) Γ))) (bW (aA (bE (aB (pv 6)) ge_int (λ_ _=>rfl)) (aA (bW aE) aE))) (bU _)) (bI1 (yG (tJ b.units) (dL (neg:=false)) (aH (λΓ=>aG f (b.mono (by decide)) (by rfl) T.a0E T.a0w.kp (dN T) .nil aW (gA (aA (aB (pv 6)) (aA (bW (aA (bW aE) (aA (bW aE) aE))) aE)) Γ))) (bW (aA (bE (aB (pv 6)) ge_int (λ_ _=>rfl)) (aA (bW aE) aE))) (bU _))))))))))))))))))))))
end
local macro_rules | `(tactic| walk_at "dx")=>do
 let l:=("bI9 mU mV mW mX mY mZ nA nB nD nE nF nG nH nJ nK nM yO iE iF nN nO iG iH iI nP nQ yP nU nV yQ nW nX nY nZ oA oB iJ iK oC oE oF oG oH iL oJ iM oK oM oN oO oP oQ oR oS iN iO oU oV oW oX oY oZ pA pB pC pD yR iP eZ iQ pE iR pR pS pT pU pV pW pX pY pZ jL yS qA jA fC dO rW gG zX rY fE rH rJ rK rL rM rN rO rP qB jB jC jD qC qD qE qF qG yT yU yV yW qH qJ qK jE jF qL jG qM qN jH fA qO jI yX qI qP qQ qR qS yZ qT bJ1 qU qV bF qW qX qY qZ rA pF pG pH pI pJ pK pL pM pN iS iT iU iV pO pP pQ reduceIte".splitOn " ").toArray.map fun s=>Lean.mkIdent s.toName
 let m:=("rB rC rD wY zA Int.reducePow Int.reduceNeg Int.reduceLT Int.reduceLE Nat.reducePow Nat.reduceLT Int.reduceToNat Nat.reduceLeDiff rG rE zB rF iW iX iY iZ List.set_cons_zero List.set_cons_succ cE aD5 List.length_cons List.length_nil Nat.reduceAdd Nat.zero_add true_and and_true and_self Bool.not_false Bool.not_true Bool.false_eq_true Bool.true_and Bool.and_true Bool.or_false decide_eq_true_eq".splitOn " ").toArray.map fun s=>Lean.mkIdent s.toName
 `(tactic| simp only[$[↓$l:ident],*,$[$m:ident],*])
def sl2:(2<=sizeLine):=by decide
def bP{a b m:Int}(h:0 < m)(c:m < 18446744073709551616){K:Res->List Sl->Prop}(k:∀ d e f,0<=d->d < m->K (.val (.int d)) [⟨.par,.lst [.int e,.int f]⟩,⟨.val,.int m⟩]):CK aI [⟨.par,.lst [.int a,.int b]⟩,⟨.val,.int m⟩] K:=by
 unfold aI;rw[dM];show RS eR [_,_,none,none] _;unfold eR;walk_at "dx";rw[wY h c];split;exact⟨h,True.intro,k _ _ _ (a1j _ (by lia)) (a4h _ h)⟩;exact⟨h,k _ _ _ (a1j _ (by lia)) (a4h _ h)⟩
def aY2{ns:List Int}{i:Int}(h0:0<=i)(a:i < (ns.length:Int)):∃ c,atI (ns.map D.int) i=some (.int c):=by
 obtain⟨c,b⟩:=aS2 (ys:=ns) h0 a;exact⟨c,by rw[aC5,b];rfl⟩
def bL0{ns:List Int}{n:Int}(h0:0<=n)(e:n < 1000){K:Res->List Sl->Prop}(k:∀ a b,K (.own (.lst [.int a,.int b])) [⟨.val,.lst (ns.map D.int)⟩,⟨.val,.int n⟩]):CK dA [⟨.val,.lst (ns.map D.int)⟩,⟨.val,.int n⟩] K:=by
 unfold dA;rw[dM];show RS fX [_,_,none,none] _;unfold fX;walk_at "dx";split;rename_i d;obtain⟨c,d⟩:=aY2 (ns:=ns) h0 (by simpa using d);rw[d];walk_at "dx";exact⟨sl2,k _ _⟩;split;rename_i d;refine⟨d,?_⟩;obtain⟨c,d⟩:=aY2 (ns:=ns) (i:=n % ((ns.map D.int).length:Int)) (a1j _ (by lia)) (by have:=a4h n d;simpa using this);rw[d];walk_at "dx";exact⟨sl2,k _ _⟩;exact⟨sl2,k _ _⟩
def sN{lo:Int}{n i:Nat}{d:D}(h:(aQ0 lo n)[i]? = some d):i < n/\d=.int (lo+i):=by
 unfold aQ0 at h;rw[a2c]at h;cases e:(List.range n)[i]? with
 | none=>rw[e]at h;cases h
 | some k=>
   rw[e]at h;obtain⟨hi,a⟩:=a0a.mp e;rw[List.length_range]at hi;rw[List.getElem_range]at a;subst a;exact⟨hi,(a5a h).symm⟩
def eV(lo:Int)(n:Nat):(aQ0 lo n).length=n:=by simp[aQ0]
def aY3{a:Type}{l:List a}{i:Int}{c:a}(h:atI l i=some c):c∈l:=by
 unfold atI at h;obtain⟨j,_,b⟩:=aC h;exact a4c b
def cG4{l:List D}{d:Int}(h0:0<=d)(a:d < (l.length:Int))(b:d < 9223372036854775808){K:D×D->Prop}(k:∀ y r,(y::r).Perm l->r.length+1=l.length->K (.lst r,y)):OK1 (yK (.lst l) [.int d]) K:=by
 obtain⟨n,rfl⟩:∃ n:Nat,d=n:=⟨d.toNat,by lia⟩;have hn:n < l.length:=by lia
 unfold yK;dsimp only;rw[a1Z ⟨by lia,by lia⟩];have e:ixN l.length (n:Int)=some n:=by
  unfold ixN;rw[a1Z (by lia),a1Z (by lia)];simp
 rw[e];show OK1 ((l[n]?).map _) K;rw[a1a hn];exact k _ _ (aF3 l n hn) (by rw[List.length_eraseIdx_of_lt hn];lia)
def aL3{a b:Int}{xs:List D}{m:Md}{t:D}(i:m=.par/\t=.lst xs\/m=.val/\t=.tup xs)(s:xs.length<=1000){K:Res->List Sl->Prop}(k:∀ ys e f,ys.Perm xs->K (.own (.lst ys)) [⟨.par,.lst [.int e,.int f]⟩,⟨m,t⟩]) :
  CK cC [⟨.par,.lst [.int a,.int b]⟩,⟨m,t⟩] K:=by
 unfold cC;rw[dM];show RS dS [_,_,none,none] _;unfold dS;rcases i with⟨rfl,rfl⟩ | ⟨rfl,rfl⟩
 all_goals
  walk_at "dx";refine⟨a3d _,?_⟩;refine aP0 (λm τ=>∃ e f left found,m=left.length/\left.length<=xs.length/\found.length+left.length=xs.length/\(found++left).Perm xs/\τ=[some ⟨.par,.lst [.int e,.int f]⟩,some _,some ⟨.own,.lst left⟩,some ⟨.own,.lst found⟩]) xs.length (by lia) ⟨a,b,xs,[],rfl,a7a _,by simp,.refl _,rfl⟩ ?_;rintro m τ ⟨e,f,left,found,rfl,j,l,h,rfl⟩;walk_at "dx";split;rename_i c;refine bP (by simpa using c) (by lia) λd n o p q=>?_;walk_at "dx";refine cG4 p (by simpa using q) (by lia) λy r g u=>?_;refine⟨a0c (by lia:found.length < 1001) (by decide),.inl ⟨_,r.length,.inl rfl,by lia,n,o,r,found++[y],rfl,by lia,by rw[a9a];simp only[List.length_cons,List.length_nil];lia,?_,rfl⟩⟩;rw[List.append_assoc];exact(List.Perm.append_left found g).trans h;rename_i c;have:left=[]:=a7c (by lia);subst this;exact k found e f (by simpa using h)
def Tx(z:Str):Prop:=z.length<=100/\∀ c∈z.cps.toList,c < 128
noncomputable def cT3(i j:Str):Bool:=!(Builtin.Str.occurrences j i 0 j.length 1).isEmpty
theorem uH{i j:Str}{K:Res->Prop}:OK1 (inD false (.str i) (.str j)) K=K (.val (.bl (cT3 i j))):=rfl
theorem uI{z:Str}{lo hi:Option Int}{K:Res->Prop}:SK (.str z) lo hi K=(z.length<=sizeLine/\K (.val (.str (Txt.slice z lo hi)))):=by
 show OK1 (if _ then _ else none) K=_;rw[bA];rfl
theorem kO{z:Str}{i:Int}{K:Res->Prop}:OK1 (aD8 (.str z) (.int i)) K=((z.length<=1000/\0<=i/\i<=1000)/\K (.val (.str (Txt.mul z i)))):=by
 unfold aD8;dsimp only;rw[bA];rfl
theorem aG2{i:Nat}{σ a:Sg}:kZ [i] σ a=a.set i (σ[i]?.getD none):=rfl
def aL4:(Str.ofString "abcdefghijklmnopqrstuvwxyz").cps.toList.length=26:=by decide
def lT(z:Str):z.length=z.cps.toList.length:=by show z.cps.size=_;simp
def uJ(x y:Str):(x++y).cps.toList=x.cps.toList++y.cps.toList:=by show(x.cps++y.cps).toList=_;simp
theorem uK(x y:Str):(x++y).length=x.length+y.length:=by rw[lT,lT,lT,uJ,a9a]
def As(z:Str):Prop:=∀ c∈z.cps.toList,c < 128
def aY4{x y:Str}(b:As x)(d:As y):As (x++y):=by
 intro c a;rw[uJ]at a;rcases a1c.mp a with h | h;exact b c h;exact d c h
def aL5{z:Str}(h:As z)(lo hi:Option Int):As (Txt.slice z lo hi):=by
 intro c a;unfold Txt.slice at a;split at a;exact h c a;simp only[List.mem_filterMap]at a;obtain⟨i,_,hi⟩:=a;exact h c (Array.mem_toList_iff.mpr (Array.mem_of_getElem? hi))
theorem slice_le(z:Str)(lo hi:Option Int):(Txt.slice z lo hi).length<=z.length:=Txt.slice_le z lo hi
def aG3{z:Str}(h:As z):eP (.str z)=true:=by
 unfold eP;rw[a7d];refine⟨?_,rfl⟩;show PyData.strOk z=true;unfold PyData.strOk;rw[← Array.all_toList,List.all_eq_true];intro c a;have:=h c a;simp;lia
def bF8(d:D)(l:List D):eP d=true->eP (.lst l)=true->(lB d).depth<=59->eP (.lst (d::l))=true:=by
 intro a b h;obtain⟨c,i⟩:=bY a;obtain⟨e,f⟩:=bY b;unfold eP;rw[a7d,a2n];have g:(lB (.lst (d::l))).canLay0=((lB d).canLay0&&(lB (.lst l)).canLay0):=by
  simp only[lB,toPys,PyData.canLay0,PyData.canLayAll0]
 refine⟨by rw[g,c,e];rfl,?_⟩;simp only[lB,toPys,PyData.depth,PyData.depthAll]at f ⊢;lia
theorem sO:∀ {a:List Str},(∀ z∈a,As z)->eP (.lst (a.map D.str))=true
 | [],_=>rfl
 | z::r,h=>bF8 _ _ (aG3 (h z a3a)) (sO λy b=>h y (a4a _ b)) (by show PyData.depth (.str z)<=59;simp[PyData.depth])
local macro_rules | `(tactic| walk_at "dx")=>do
 let l:=("bI9 mU mV mW mX mY mZ nA nB nD nE nF nG nH nJ nK nM yO iE iF nN nO iG iH iI nP nQ yP nU nV yQ nW nX nY nZ oA oB iJ iK oC oE oF oG oH iL oJ iM oK oM oN oO oP oQ oR oS iN iO oU oV oW oX oY oZ pA pB pC pD yR iP eZ iQ pE iR pR pS pT pU pV pW pX pY pZ jL yS qA jA fC dO rW gG zX rY fE rH rJ rK rL rM rN rO rP qB jB jC jD qC qD qE qF qG yT yU yV yW qH qJ qK jE jF qL jG qM qN jH fA qO jI yX qI qP qQ qR qS yZ qT bJ1 qU uI kO uH qV bF qW qX qY qZ rA pF pG pH pI pJ pK pL pM pN iS iT iU iV pO pP pQ reduceIte".splitOn " ").toArray.map fun s=>Lean.mkIdent s.toName
 let m:=("aG2 List.getElem?_cons_succ List.getElem?_cons_zero Option.getD_some rB rC rD wY zA Int.reducePow Int.reduceNeg Int.reduceLT Int.reduceLE Nat.reducePow Nat.reduceLT Int.reduceToNat Nat.reduceLeDiff rG rE zB rF iW iX iY iZ List.set_cons_zero List.set_cons_succ cE aD5 List.length_cons List.length_nil Nat.reduceAdd Nat.zero_add true_and and_true and_self Bool.not_false Bool.not_true Bool.false_eq_true Bool.true_and Bool.and_true Bool.or_false decide_eq_true_eq".splitOn " ").toArray.map fun s=>Lean.mkIdent s.toName
 `(tactic| simp only[$[↓$l:ident],*,$[$m:ident],*])
theorem aY5:∀ (a:List Str),(∀ z∈a,z.length<=1)->(a.map (·.length)).sum<=a.length
 | [],_=>by simp
 | z::r,h=>by
   have c:=h z a3a;have d:=aY5 r λy b=>h y (a4a _ b);simp only[List.map_cons,List.sum_cons,List.length_cons];lia
def bU5{e:Int}(b:0<=e)(d:e < 26):∃ c,atI (Str.ofString "abcdefghijklmnopqrstuvwxyz").cps.toList e=some c/\c < 128:=by
 obtain⟨c,a⟩:=aS2 (ys:=(Str.ofString "abcdefghijklmnopqrstuvwxyz").cps.toList) b (by rw[aL4];exact d);exact⟨c,a,bP4 c (aY3 a)⟩
def aL6{c:Nat}(h:c < 128):As ⟨#[c]⟩:=by
 intro x a;have:x=c:=by simpa using a
 subst this;exact h
def cN5:∀ n:Fin 24,((Str.ofString "abcdefghijklmnopqrstuvwxyz").cps.toList.drop n).take 3=[97+(n:Nat),98+(n:Nat),99+(n:Nat)]:=by decide
def cN6{k:Int}(h0:0<=k)(g:k < 24):∃ (z:Str) (p q r:Nat),Txt.slice (Txt.slice (Str.ofString "abcdefghijklmnopqrstuvwxyz") (some k) none) none (some 3)=z/\z.length=3/\hU z=[.str ⟨#[p]⟩,.str ⟨#[q]⟩,.str ⟨#[r]⟩]/\(p < 128/\q < 128/\r < 128)/\p < q/\q < r:=by
 have a:(Str.ofString "abcdefghijklmnopqrstuvwxyz").length=26:=by decide
 have c:=aN4 (x:=Str.ofString "abcdefghijklmnopqrstuvwxyz") h0 (by rw[a];lia);have e:(Txt.slice (Str.ofString "abcdefghijklmnopqrstuvwxyz") (some k) none).length=26-k.toNat:=by
  rw[lT,c,a0g,aL4]
 have d:=bC8 (x:=Txt.slice (Str.ofString "abcdefghijklmnopqrstuvwxyz") (some k) none) (j:=3) (by decide) (by rw[e];lia);rw[c]at d;have f:=cN5 ⟨k.toNat,by lia⟩;have b:(Txt.slice (Txt.slice (Str.ofString "abcdefghijklmnopqrstuvwxyz") (some k) none) none (some 3)).cps.toList=[97+k.toNat,98+k.toNat,99+k.toNat]:=d.trans f;generalize Txt.slice (Txt.slice (Str.ofString "abcdefghijklmnopqrstuvwxyz") (some k) none) none (some 3)=z at b;exact⟨z,_,_,_,rfl,by rw[lT,b];rfl,by unfold hU;rw[b];rfl,⟨by lia,by lia,by lia⟩,by lia,by lia⟩
def tx1{c:Nat}(h:c < 128):Tx ⟨#[c]⟩:=⟨by show 1<=100;decide,aL6 h⟩
def aL7{x y:Str}{m n:Nat}(a:x.length<=m/\As x)(b:y.length<=n/\As y):(x++y).length<=m+n/\As (x++y):=⟨by rw[uK];lia,aY4 a.2 b.2⟩
theorem bI5(c:Nat):Str.length ⟨#[c]⟩=1:=rfl
def bF9{e:Int}(h0:0<=e)(a:e < 11):∃ z:Str,atI ([D.str "table",D.str "tree",D.str "none",D.str "answer",D.str "levels",D.str "looks"]++[D.str "at",D.str "count",D.str "ears",D.str "cover",D.str "place"]) e=some (.str z)/\Tx z:=by
 have:e=0\/e=1\/e=2\/e=3\/e=4\/e=5\/e=6\/e=7\/e=8\/e=9\/e=10:=by lia
 rcases this with rfl | rfl | rfl | rfl | rfl | rfl | rfl | rfl | rfl | rfl | rfl<;>exact⟨_,rfl,by unfold Tx;decide⟩
def aG4(ys:List Str)(j:Nat)(z:Str):(ys.map D.str).set j (.str z)=(ys.set j z).map D.str:=by rw[List.map_set]
def cG5{n:Nat}{k:Int}(h0:0<=k)(a:k < n){K:Nat->Prop}(q:∀ j,j < n->K j):OK1 (ixN n k) K:=by
 obtain⟨m,rfl⟩:∃ m:Nat,k=m:=⟨k.toNat,by lia⟩;have e:ixN n (m:Int)=some m:=by
  unfold ixN;rw[a1Z (by lia),a1Z (by lia)];simp
 rw[e];exact q m (by lia)
def cG6{m:Int}(h:m=0\/m=1):(Txt.mul "z" m).length<=1/\As (Txt.mul "z" m):=by
 rcases h with rfl | rfl;exact⟨by decide,by unfold As;decide⟩;exact⟨by decide,by unfold As;decide⟩
def zm2(p:Prop)[Decidable p]:(if p then(1:Int)else 0)=0\/(if p then(1:Int)else 0)=1:=by
 split;exact .inr rfl;exact .inl rfl
def bU6{e:Int}(a:0<=e)(b:e < 26):atI (Str.ofString "abcdefghijklmnopqrstuvwxyz").cps.toList e=some (97+e.toNat):=by
 have h:∀ n:Fin 26,atI (Str.ofString "abcdefghijklmnopqrstuvwxyz").cps.toList ((n:Nat):Int)=some (97+(n:Nat)):=by decide
 have:=h ⟨e.toNat,by lia⟩;rwa[show((e.toNat:Nat):Int)=e by lia]at this
def bG0{ys:List Str}(h:∀ (i j:Nat) y,i < j->ys[i]? = some y->ys[j]? = some y->False):ys.Nodup:=by
 rw[a5f,List.pairwise_iff_getElem];intro i j hi hj a z;exact h i j ys[i] a (a1a hi) (by rw[z];exact a1a hj)
def cG7{neg:Bool}{z:Str}{a:List Str}(hz:As z)(h:∀ z∈a,As z){K:Res->Prop}(k:K (.val (.bl (if neg=true then !a.contains z else a.contains z)))):OK1 (inD neg (.str z) (.lst (a.map D.str))) K:=by
 show OK1 (if _ then _ else none) K;rw[bA];refine⟨⟨aG3 hz,sO h⟩,?_⟩;have e:((a.map D.str).any λy=>aE0 y (.str z))=a.contains z:=by
  rw[List.any_map,List.contains_eq_any_beq];congr 1;funext y;show(y==z)=(z==y);rw[a0j,a2l,a2l,eq_comm]
 rw[e];exact k
def aY6{b:Type}{l:List b}{j:Nat}{z:b}(h:l.Nodup)(hz:z∉l):(l.set j z).Nodup:=by
 rw[a5f,List.pairwise_iff_getElem]at h ⊢;intro i k hi c a;rw[a8e]at hi c;rw[List.getElem_set,List.getElem_set];split;split;lia;exact λe=>hz (e ▸ List.getElem_mem _);split;exact λe=>hz (e ▸ List.getElem_mem _);exact h i k hi c a
def bG1{a b:Int}{K:Res->List Sl->Prop}(k:∀ (zs:List Str) F G,zs.length=6->zs.Nodup->(∀ z∈zs,Tx z)->K (.own (.lst (zs.map D.str))) [⟨.par,.lst [.int F,.int G]⟩,⟨.val,.int 6⟩]) :
  CK cT [⟨.par,.lst [.int a,.int b]⟩,⟨.val,.int 6⟩] K:=by
 unfold cT;rw[dM];show RS dQ [_,_,none,none,none,none,none,none,none,none,none,none,none,none,none] _;unfold dQ;walk_at "dx";refine bP (by decide) (by decide) λn a1 b1 n0 n5=>?_;walk_at "dx";refine⟨by lia,by rw[eV];exact a0b (by lia:n.toNat<=5) (by decide),?_⟩;refine jM _ _ (λi acc τ=>i<=5/\∃ (zs:List Str) (F G:Int),acc=zs.map D.str/\zs.length=i/\(∀ z∈zs,z.length<=1/\As z)/\τ=[some ⟨.par,.lst [.int F,.int G]⟩,some ⟨.val,.int 6⟩,some ⟨.val,.str "abcdefghijklmnopqrstuvwxyz"⟩,none,none,none,none,none,none,none,none,none,none,none,none]) ⟨by lia,[],a1,b1,rfl,rfl,by simp,rfl⟩ ?_ ?_;rintro i d acc τ hd ⟨_,zs,F,G,rfl,hl,f,rfl⟩;obtain⟨hi,rfl⟩:=sN hd;walk_at "dx";refine bP (by decide) (by decide) λe a2 b2 e0 M=>?_;walk_at "dx";refine⟨by decide,?_⟩;obtain⟨c,N,O⟩:=bU5 e0 M;rw[N];walk_at "dx";refine⟨_,rfl,by lia,zs++[⟨#[c]⟩],a2,b2,by rw[a5d];rfl,by rw[a9a,hl];rfl,?_,rfl⟩;intro z P;rcases a1c.mp P with h | h;exact f z h;rw[a7b]at h;subst h;exact⟨a7a 1,aL6 O⟩;rintro acc τ ⟨h5,zs,F,G,rfl,hl,f,rfl⟩;have hs:=aY5 zs λz h=>(f z h).1;rw[bR7];refine⟨by simp only[show(Str.ofString "").length=0 by decide];lia,?_⟩;have J:=aC7 (m:=128) (sep:=Str.ofString "") (by decide) zs λz h=>(f z h).2;have u:(Txt.join (Str.ofString "") zs).length<=5:=by
  refine a0b (bO4 _ _) ?_;simp only[show(Str.ofString "").length=0 by decide];lia
 revert J u;generalize Txt.join (Str.ofString "") zs=x;intro J u;have Q:x.length<=sizeLine:=a0b u (by decide);walk_at "dx";rw[gG Q];walk_at "dx";refine bP (by lia) (by lia) λl a2 b2 k10 k11=>?_;walk_at "dx";refine bP (by lia) (by lia) λv a3 b3 k20 k21=>?_;walk_at "dx";refine bP (by lia) (by lia) λk3 a4 b4 k30 k31=>?_;walk_at "dx";split
 ·refine bP (by lia) (by lia) λk4 a5 b5 A B=>?_;walk_at "dx";obtain⟨z,p,q,r,e,R,es,⟨S,T,U⟩,pq,qr⟩:=cN6 A B;rw[e,es];refine⟨by decide,a0b (slice_le _ _ _) (by decide),R,?_⟩;walk_at "dx";simp only[uK,bI5];refine⟨by decide,by decide,by decide,by decide,by decide,by decide,by decide,by decide,by decide,?_⟩;have tp:=tx1 S;have tq:=tx1 T;have tr:=tx1 U;have C:∀ {c:Nat},c < 128->Str.length ⟨#[c]⟩<=1/\As ⟨#[c]⟩:=λh=>⟨a7a 1,aL6 h⟩;have L:∀ {x:Str} {n:Nat},n<=100->x.length<=n/\As x->Tx x:=λhn h=>⟨a0b h.1 hn,h.2⟩;refine k [⟨#[p]⟩,⟨#[p]⟩++⟨#[q]⟩,⟨#[q]⟩,⟨#[q]⟩++⟨#[r]⟩,⟨#[r]⟩,⟨#[p]⟩++⟨#[r]⟩] _ _ rfl ?_ ?_
  ·have E:∀ x y:Nat,(⟨#[x]⟩:Str)++⟨#[y]⟩=⟨#[x,y]⟩:=λ_ _=>rfl;have n1:p≠q:=by lia
   have n2:q≠r:=by lia
   have n3:p≠r:=by lia
   rw[E,E,E];simp[n1,n2,n3,Ne.symm n1,Ne.symm n2,Ne.symm n3]
  intro z f;simp only[List.mem_cons,List.not_mem_nil,or_false]at f;rcases f with rfl | rfl | rfl | rfl | rfl | rfl;exact tp;exact L (by decide) (aL7 (C S) (C T));exact tq;exact L (by decide) (aL7 (C T) (C U));exact tr;exact L (by decide) (aL7 (C S) (C U))
 ·refine⟨a3d _,?_⟩;refine tZ (λi τ=>i<=6/\∃ (ys:List Str) (H o2:Option Sl),((H=none/\o2=none)\/∃ d e,H=some ⟨.val,d⟩/\o2=some ⟨.val,e⟩)/\ys.length=i/\(∀ (j:Nat) y,ys[j]? = some y->Tx y/\∃ t,y.cps.toList=(Txt.slice x none (some l)).cps.toList++(97+((v+5*(j:Int)) % 26).toNat)::t)/\τ=[some ⟨.par,.lst [.int a4,.int b4]⟩,some ⟨.val,.int 6⟩,some ⟨.val,.str "abcdefghijklmnopqrstuvwxyz"⟩,some ⟨.val,.str x⟩,some ⟨.val,.int l⟩,some ⟨.val,.int v⟩,some ⟨.val,.int k3⟩,none,none,none,none,some ⟨.own,.lst (ys.map D.str)⟩,H,o2,none]) ⟨by lia,[],none,none,.inl ⟨rfl,rfl⟩,rfl,by simp,rfl⟩ ?_ ?_
  ·rintro i d τ hd ⟨_,ys,H,o2,V,o,g,rfl⟩;obtain⟨hi,rfl⟩:=sN hd;have N:=bU6 (e:=(v+5*(0+(i:Int))) % 26) (a1j _ (by decide)) (a4h _ (by decide));have O:97+((v+5*(0+(i:Int))) % 26).toNat < 128:=by
    have:=a4h (v+5*(0+(i:Int))) (b:=26) (by decide);lia
   have C:=slice_le x none (some l);have l2:=slice_le x (some l) none;have g1:=aL5 (z:=x) J none (some l);have g2:=aL5 (z:=x) J (some l) none;have sl:100<=sizeLine:=by decide
   have done:∀ (w:Str) (t:Str) ,(w.length<=20/\As w)->(t.length<=1/\As t)->Tx (w++t):=λw t W X=>by
    have:=aL7 W X;exact⟨by lia,this.2⟩
   have fin:∀ t:Str,(t.length<=1/\As t)->∀ (j:Nat) y,(ys++[Txt.slice x none (some l)++⟨#[97+((v+5*(0+(i:Int))) % 26).toNat]⟩++Txt.slice x (some l) none++t])[j]? = some y->Tx y/\∃ t,y.cps.toList=(Txt.slice x none (some l)).cps.toList++(97+((v+5*(j:Int)) % 26).toNat)::t:=λt X j y h=>by
    by_cases hj:j < ys.length;rw[a6c hj]at h;exact g j y h;have Y:j=i:=by
     have:=(a0a.mp h).1;rw[a9a,List.length_singleton]at this;lia
    subst Y;rw[a2b (by lia),o,Nat.sub_self]at h;obtain rfl:=a5a h;refine⟨done _ _ ⟨?_,aY4 (aY4 g1 (aL6 O)) g2⟩ X,(Txt.slice x (some l) none).cps.toList++t.cps.toList,?_⟩;rw[uK,uK,bI5];lia;rw[uJ,uJ,uJ,Int.zero_add];simp
   rcases V with⟨rfl,rfl⟩ | ⟨d,e,rfl,rfl⟩
   all_goals
    walk_at "dx";rw[N];walk_at "dx";have Z:=cG6 (zm2 ((0+(i:Int)) % 2=1));have z0:=cG6 (m:=0) (.inl rfl);have zi:=zm2 ((0+(i:Int)) % 2=1);simp only[uK,bI5];revert zi Z;generalize (if(0+(i:Int)) % 2=1 then(1:Int)else 0)=zz;intro Z zi;refine⟨by lia,by decide,by lia,by lia,by lia,?_⟩;have I:(List.map D.str ys).length < sizeLine:=by rw[a8a];lia
    split;exact⟨⟨by decide,by lia,by lia⟩,by lia,I,_,.inl rfl,by lia,ys++[_],_,_,.inr ⟨_,_,rfl,rfl⟩,by rw[a9a,o];rfl,fin _ Z,by rw[a5d];rfl⟩;exact⟨by decide,by lia,I,_,.inl rfl,by lia,ys++[_],_,_,.inr ⟨_,_,rfl,rfl⟩,by rw[a9a,o];rfl,fin _ z0,by rw[a5d];rfl⟩
  ·rintro τ ⟨_,ys,H,o2,V,o,g,rfl⟩;rw[eV]at o;have hn:ys.Nodup:=bG0 λi j y hij h1 h2=>by
    obtain⟨_,t1,M⟩:=g i y h1;obtain⟨_,L,E⟩:=g j y h2;rw[M]at E;have e3:=(List.cons.inj (List.append_cancel_left E)).1;have hj:=(a0a.mp h2).1;rw[o]at hj;have h6:j < 6:=by lia
    lia
   have s:∀ z∈ys,Tx z:=λz f=>by
    obtain⟨j,hj⟩:=List.mem_iff_getElem?.mp f;exact(g j z hj).1
   have hya:∀ z∈ys,As z:=λz h=>(s z h).2;rcases V with⟨rfl,rfl⟩ | ⟨d,e,rfl,rfl⟩
   all_goals
    walk_at "dx";refine⟨by decide,by decide,by decide,bP (by lia) (by lia) λk4 a5 b5 A B=>?_⟩;obtain⟨w,W,tw⟩:=bF9 A B;walk_at "dx";rw[W];walk_at "dx";refine bP (by lia) (by lia) λk5 a6 b6 k50 k51=>?_;walk_at "dx";split
    ·refine cG7 tw.2 hya ?_;walk_at "dx";split
     ·rename_i hnw;have nw:w∉ys:=by simpa using hnw
      refine bP (by lia) (by lia) λk6 a7 b7 k60 k61=>?_;walk_at "dx";refine cG5 k60 (by rw[a8a,o];lia) λj hj=>?_;rw[aG4];refine k _ _ _ (by rw[a8e,o]) (aY6 hn nw) λz f=>?_;rcases List.mem_or_eq_of_mem_set f with h | h;exact s z h;exact h ▸ tw
     ·exact k _ _ _ o hn s
    ·exact k _ _ _ o hn s
open Sx
def aG5{ks:List (List Int)}{n:Nat}(h:∀ k∈ks,k.length=n)(g:2<=(srt ks).length):∀ k∈ks,k≠[]:=by
 rintro k i rfl;have d:n=0:=(h [] i).symm;have f:=gH ks
 match e:srt ks,g with
 | a::b::r,_=>
   rw[e]at f;have c:=(a1e.mp f).1 b a3a;have ha:=h a ((dZ ks a).mp (by rw[e];simp));have hb:=h b ((dZ ks b).mp (by rw[e];simp));rw[a7c (ha.trans d),a7c (hb.trans d)]at c;cases c
def aY7{e:Int}(h0:0<=e)(a:e < 4):∃ m:Int,atI [D.int 2,D.int 3,D.int 10,D.int 1000] e=some (.int m)/\0 < m/\m<=1000:=by
 have:e=0\/e=1\/e=2\/e=3:=by lia
 rcases this with rfl | rfl | rfl | rfl<;>exact⟨_,rfl,by decide,by decide⟩
def cG8{a b e:Int}(h0:0<=e)(c:e < 2)(ha:0 < a/\a<=9)(hb:0 < b/\b<=9):∃ m:Int,atI [D.int a,D.int b] e=some (.int m)/\0 < m/\m<=9:=by
 have:e=0\/e=1:=by lia
 rcases this with rfl | rfl;exact⟨_,rfl,ha⟩;exact⟨_,rfl,hb⟩
theorem uL{l:List D}{K:List D->Prop}:OK1 (vL (.tup l)) K=K l:=rfl
theorem wA{l:List D}{K:List D->Prop}:OK1 (vL (.lst l)) K=K l:=rfl
def cN7{ks:List (List Int)}{K:Res->Prop}(h:ks.length < 4000/\(2<=(srt ks).length->∀ k∈ks,k≠[]))(k:K (.own (.lst ((srt ks).map tI)))):OK1 (fF [.lst (ks.map tI)]) K:=by rw[cF0];exact⟨h,k⟩
def cT4{ks:List (List Int)}{K:Res->Prop}(h:ks.length < 4000/\(2<=(srt ks).length->∀ k∈ks,k≠[]))(k:K (.own (.lst ((srt ks).map tI)))):OK1 (fF [.tup (ks.map tI)]) K:=by rw[cF1];exact⟨h,k⟩
def bU7{a b:Int}{l:List Str}(hz:l.length<=100){K:Res->List Sl->Prop}(k:∀ (ks:List (List Int)) f g,ks.length<=8->(∀ k∈ks,k.length=l.length)->aX2 ks->K (.val (.tup (ks.map tI))) [⟨.par,.lst [.int f,.int g]⟩,⟨.val,.tup (l.map D.str)⟩,⟨.val,.int 8⟩]) :
  CK dU [⟨.par,.lst [.int a,.int b]⟩,⟨.val,.tup (l.map D.str)⟩,⟨.val,.int 8⟩] K:=by
 unfold dU;rw[dM];show RS eS [_,_,_,none,none,none,none] _;unfold eS;walk_at "dx";refine⟨by decide,bP (by decide) (by decide) λn J L t u=>?_⟩;obtain⟨m,v,w,M⟩:=aY7 t u;walk_at "dx";rw[v];walk_at "dx";refine⟨by decide,bP (by decide) (by decide) λn2 N O q r=>?_⟩;obtain⟨c,x,z,P⟩:=cG8 (a:=9) (b:=6) q r (by decide) (by decide);walk_at "dx";rw[show(8:Int)+1=9 from rfl,x];walk_at "dx";refine bP z (by lia) λn3 A B C E=>?_;walk_at "dx";refine⟨by lia,by rw[eV];exact a0b (by lia:n3.toNat<=100) (by decide),?_⟩;refine jM _ _ (λi acc τ=>i<=9/\∃ (ks:List (List Int)) (f g:Int),acc=ks.map tI/\ks.length=i/\(∀ k∈ks,k.length=l.length)/\τ=[some ⟨.par,.lst [.int f,.int g]⟩,some ⟨.val,.tup (l.map D.str)⟩,some ⟨.val,.int 8⟩,some ⟨.val,.int m⟩,some ⟨.val,.int n3⟩,none,none]) ⟨by lia,[],A,B,rfl,rfl,by simp,rfl⟩ ?_ ?_;rintro i d acc τ hd ⟨_,ks,f,g,rfl,o,p,rfl⟩;obtain⟨hi,rfl⟩:=sN hd;walk_at "dx";rw[uL];refine⟨by rw[a8a];exact a0b hz (by decide),?_⟩;refine jM _ _ (λj acc τ=>∃ (vs:List Int) (f g:Int),acc=vs.map D.int/\vs.length=j/\τ=[some ⟨.par,.lst [.int f,.int g]⟩,some ⟨.val,.tup (l.map D.str)⟩,some ⟨.val,.int 8⟩,some ⟨.val,.int m⟩,some ⟨.val,.int n3⟩,some ⟨.val,.int (0+(i:Int))⟩,none]) ⟨[],f,g,rfl,rfl,rfl⟩ ?_ ?_;rintro j d acc τ hd ⟨vs,f,g,rfl,o,rfl⟩;walk_at "dx";refine bP w (by lia) λe F G Q R=>?_;walk_at "dx";exact⟨_,rfl,vs++[e],F,G,by rw[a5d];rfl,by rw[a9a,o];rfl,rfl⟩;rintro acc τ ⟨vs,f,g,rfl,H,rfl⟩;refine⟨_,rfl,by lia,ks++[vs],f,g,by rw[a5d];rfl,by rw[a9a,o];rfl,?_,rfl⟩;intro k s;rcases a1c.mp s with h | h;exact p k h;rw[a7b]at h;subst h;rw[H,a8a];rintro acc τ ⟨_,ks,f,g,rfl,o,p,rfl⟩;walk_at "dx";rw[eV]at o;have S:=uC ks;refine cN7 ⟨by lia,aG5 p⟩ ?_;walk_at "dx";exact k _ _ _ (by lia) (λy I=>p y ((dZ ks y).mp I)) (gH ks)
theorem wB{z:Str}{K:List D->Prop}:OK1 (vL (.str z)) K=K (hU z):=rfl
theorem wC{l:List D}{K:List D->Prop}:OK1 (cT2 (.tup l)) K=K l:=rfl
local macro_rules | `(tactic| walk_at "dx")=>do
 let l:=("bI9 mU mV mW mX mY mZ nA nB nD nE nF nG nH nJ nK nM yO iE iF nN nO iG iH iI nP nQ yP nU nV yQ nW nX nY nZ oA oB iJ iK oC oE oF oG oH iL oJ iM oK oM oN oO oP oQ oR oS iN iO oU oV oW oX oY oZ pA pB pC pD yR iP eZ iQ pE iR pR pS pT pU pV pW pX pY pZ jL yS qA jA fC dO rW gG zX rY fE rH rJ rK rL rM rN rO rP qB jB jC jD qC qD qE qF qG yT yU yV yW qH qJ qK jE jF qL jG qM qN jH fA qO jI yX qI qP qQ qR qS yZ qT bJ1 qU uI kO uH uL wA wB wC qV bF qW qX qY qZ rA pF pG pH pI pJ pK pL pM pN iS iT iU iV pO pP pQ reduceIte".splitOn " ").toArray.map fun s=>Lean.mkIdent s.toName
 let m:=("aG2 List.getElem?_cons_succ List.getElem?_cons_zero Option.getD_some rB rC rD wY zA Int.reducePow Int.reduceNeg Int.reduceLT Int.reduceLE Nat.reducePow Nat.reduceLT Int.reduceToNat Nat.reduceLeDiff rG rE zB rF iW iX iY iZ List.set_cons_zero List.set_cons_succ cE aD5 List.length_cons List.length_nil Nat.reduceAdd Nat.zero_add true_and and_true and_self Bool.not_false Bool.not_true Bool.false_eq_true Bool.true_and Bool.and_true Bool.or_false decide_eq_true_eq".splitOn " ").toArray.map fun s=>Lean.mkIdent s.toName
 `(tactic| simp only[$[↓$l:ident],*,$[$m:ident],*])
def aY8{r:DT}{σ:Sg}{Q a:Bool->Sg->Prop}(h:RT r σ Q)(w:∀ b c,Q b c->a b c):RT r σ a:=cZ h λx=>w x.1 x.2
def aY9{r:DE}{σ:Sg}{Q a:Res->Sg->Prop}(h:RE r σ Q)(w:∀ b c,Q b c->a b c):RE r σ a:=cZ h λx=>w x.1 x.2
def jP{m:Type}{g:D->Sg->Option Sg}{ow:List Nat}{t:DT}{e:DE}{K:List D×Sg->Prop}(f:m->D)(u:m->D)(xs:List m){a:Sg}(l:Sg)(q:a=l)
  (hs:∀ x∈xs,OK1 (g (u x) l) λc=>RT t c λb h=>b=true/\RE e h λr j=>r=.val (f x)/\bK ow j=l) (k:K (xs.map f,l)):OK1 (aO9 ow g t e (xs.map u) a) K:=by
 subst q;refine jM _ _ (λi acc τ'=>acc=(xs.take i).map f/\τ'=a) ⟨rfl,rfl⟩ ?_ ?_;rintro i d acc τ' hd ⟨rfl,rfl⟩;rw[a2c]at hd;obtain⟨x,o,rfl⟩:=a9c.mp hd;refine cZ (hs x (a4c o)) λc s=>aY8 s λb h n=>?_;obtain⟨rfl,n⟩:=n;rw[a1Z rfl];refine aY9 n λr j p=>?_;exact⟨_,p.1,by rw[a6i,o,a5d];rfl,p.2⟩;rintro acc τ' ⟨rfl,rfl⟩;rw[a8a,List.take_length];exact k
def fG{n:Type}{g:D->Sg->Option Sg}{ow:List Nat}{t:DT}{e:DE}{K:List D×Sg->Prop}(p:n->Bool)(f:n->D)(u:n->D)(xs:List n){a:Sg}(j:Sg)(o:a=j)
  (hs:∀ x∈xs,OK1 (g (u x) j) λl=>RT t l λb c=>b=p x/\bK ow c=j/\RE e c λr m=>r=.val (f x)/\bK ow m=j) (k:K ((xs.filter p).map f,j)):OK1 (aO9 ow g t e (xs.map u) a) K:=by
 subst o;refine jM _ _ (λi acc τ'=>acc=((xs.take i).filter p).map f/\τ'=a) ⟨rfl,rfl⟩ ?_ ?_
 ·rintro i d acc τ' hd ⟨rfl,rfl⟩;rw[a2c]at hd;obtain⟨x,v,rfl⟩:=a9c.mp hd;refine cZ (hs x (a4c v)) λl y=>aY8 y λb c s=>?_;obtain⟨rfl,s,z⟩:=s;have o:(xs.take (i+1)).filter p=(xs.take i).filter p++(if p x=true then[x]else[]):=by
   rw[a6i,v,List.filter_append];cases h:p x<;>simp[h]
  by_cases q:p x=true;rw[a1Z q];refine aY9 z λr m w=>?_;exact⟨_,w.1,by rw[o,a1Z q,a5d];rfl,w.2⟩;rw[a2k q];exact⟨by rw[o,a2k q,a3f],s⟩
 ·rintro acc τ' ⟨rfl,rfl⟩;rw[a8a,List.take_length];exact k
local macro_rules | `(tactic| walk_at "dx")=>do
 let l:=("uE bI9 mU mV mW mX mY mZ nA nB nD nE nF nG nH nJ nK nM yO iE iF nN nO iG iH iI nP nQ yP nU nV yQ nW nX nY nZ oA oB iJ iK oC oE oF oG oH iL oJ iM oK oM oN oO oP oQ oR oS iN iO oU oV oW oX oY oZ pA pB pC pD yR iP eZ iQ pE iR pR pS pT pU pV pW pX pY pZ jL yS qA jA fC dO rW gG zX rY fE rH rJ rK rL rM rN rO rP qB jB jC jD qC qD qE qF qG yT yU yV yW qH qJ qK jE jF qL jG qM qN jH fA qO jI yX qI qP qQ qR qS yZ qT bJ1 qU uI kO uH uL wA wB wC qV bF qW qX qY qZ rA pF pG pH pI pJ pK pL pM pN iS iT iU iV pO pP pQ reduceIte".splitOn " ").toArray.map fun s=>Lean.mkIdent s.toName
 let m:=("aG2 List.getElem?_cons_succ List.getElem?_cons_zero Option.getD_some rB rC rD wY zA Int.reducePow Int.reduceNeg Int.reduceLT Int.reduceLE Nat.reducePow Nat.reduceLT Int.reduceToNat Nat.reduceLeDiff rG rE zB rF iW iX iY iZ List.set_cons_zero List.set_cons_succ cE aD5 List.length_cons List.length_nil Nat.reduceAdd Nat.zero_add true_and and_true and_self Bool.not_false Bool.not_true Bool.false_eq_true Bool.true_and Bool.and_true Bool.or_false decide_eq_true_eq".splitOn " ").toArray.map fun s=>Lean.mkIdent s.toName
 `(tactic| simp only[$[↓$l:ident],*,$[$m:ident],*])
noncomputable def pk(cs so:List Str)(row:List Int):List Int:=so.map λz=>row.getD (cs.idxOf z) 0
def bL1{row:List Int}{n:Nat}(h:n < row.length):atI (row.map D.int) (n:Int)=some (.int (row.getD n 0)):=by
 rw[aC5];unfold atI ixN;rw[a1Z (by lia),a1Z (by lia)];simp[h]
def aA8{a:Type}{l:List a}(h:l.length<=100):l.length<=sizeLine:=a0b h (by decide)
def zK{cs:List Str}{z:Str}(h:z∈cs):cs.idxOf z < cs.length:=List.idxOf_lt_length_of_mem h
def cN8(cs so:List Str)(row:List Int):tI (pk cs so row)=.tup (so.map λz=>.int (row.getD (cs.idxOf z) 0)):=by
 unfold tI pk;rw[List.map_map];rfl
def aZ0{cs so:List Str}(hs:∀ z∈so,z∈cs)(b:so.length<=100){K:Res->List Sl->Prop}(k:K (.own (.lst (so.map λz=>.int (cs.idxOf z:Nat)))) [⟨.val,.tup (cs.map D.str)⟩,⟨.val,.tup (so.map D.str)⟩]) :
  CK aQ [⟨.val,.tup (cs.map D.str)⟩,⟨.val,.tup (so.map D.str)⟩] K:=by
 unfold aQ;rw[dM];show RS bZ [_,_,none] _;unfold bZ;walk_at "dx";refine⟨aA8 (by rwa[a8a]),jP (λz=>.int (cs.idxOf z:Nat)) D.str so [_,_,none] rfl (λz a=>?_) k⟩;walk_at "dx";exact⟨hs z a,rfl⟩
def bL2{cs:List Str}{ks:List (List Int)}{r:D}{m:Md}(a:(m=.par\/m=.val)/\r=.lst (ks.map tI)\/m=.val/\r=.tup (ks.map tI))(h:ks.length < 4000/\(2<=(srt ks).length->∀ k∈ks,k≠[]))
  {K:Res->List Sl->Prop} (k:K (.val (.tup [.tup (cs.map D.str),.tup ((srt ks).map tI)])) [⟨.val,.tup (cs.map D.str)⟩,⟨m,r⟩]):CK cA [⟨.val,.tup (cs.map D.str)⟩,⟨m,r⟩] K:=by
 unfold cA;rw[dM];show RS eT [_,_] _;unfold eT;rcases a with⟨rfl | rfl,rfl⟩ | ⟨rfl,rfl⟩;walk_at "dx";refine cN7 h ?_;walk_at "dx";exact⟨sl2,k⟩;walk_at "dx";refine cN7 h ?_;walk_at "dx";exact⟨sl2,k⟩;walk_at "dx";refine cT4 h ?_;walk_at "dx";exact⟨sl2,k⟩
def jQ{cs so:List Str}{row:List Int}(a:row.length=cs.length)(hs:∀ z∈so,z∈cs)(c:so.length<=100){K:Res->List Sl->Prop}(k:K (.val (tI (pk cs so row))) [⟨.val,tI row⟩,⟨.par,.lst (so.map λz=>.int (cs.idxOf z:Nat))⟩]) :
  CK bL [⟨.val,tI row⟩,⟨.par,.lst (so.map λz=>.int (cs.idxOf z:Nat))⟩] K:=by
 unfold bL;rw[dM];show RS jN [_,_,none] _;unfold jN;walk_at "dx";refine⟨aA8 (by rwa[a8a]),jP (λz=>.int (row.getD (cs.idxOf z) 0)) (λz=>.int (cs.idxOf z:Nat)) so [_,_,none] rfl (λz b=>?_) ?_⟩;walk_at "dx";rw[bL1 (by rw[a];exact zK (hs z b))];exact⟨rfl,rfl⟩;walk_at "dx";rw[cN8]at k;exact k
noncomputable def ov(b:Bool)(d:D):Option Sl:=if b=true then some ⟨.val,d⟩else none
theorem aL8{b:Bool}{d:D}{r:Sg}{s:Sl}{K:Sg->Prop}:Dv.PK 0 (ov b d::r) s K=K (some s::r):=by cases b<;>rfl
def xJ{neg:Bool}{d:D}(h:eP d=true){K:Res->Prop}(k:K (.val (.bl (!neg)))):OK1 (eqD neg d d) K:=by
 have e:aE0 d d=true:=SeqAt.eqv_refl _ (bY h).1;show OK1 (if _ then _ else none) K;rw[bA,e];refine⟨⟨h,h⟩,?_⟩;cases neg<;>exact k
theorem aL9{l:List D}{K:Res->Prop}:OK1 (cI2 "tuple" (.tup l)) K=K (.val (.bl true)):=rfl
theorem aM0{l:List D}{K:Res->Prop}:OK1 (cI2 "list" (.lst l)) K=K (.val (.bl true)):=rfl
local macro_rules | `(tactic| walk_at "dx")=>do
 let l:=("aL9 aM0 aL8 uE bI9 mU mV mW mX mY mZ nA nB nD nE nF nG nH nJ nK nM yO iE iF nN nO iG iH iI nP nQ yP nU nV yQ nW nX nY nZ oA oB iJ iK oC oE oF oG oH iL oJ iM oK oM oN oO oP oQ oR oS iN iO oU oV oW oX oY oZ pA pB pC pD yR iP eZ iQ pE iR pR pS pT pU pV pW pX pY pZ jL yS qA jA fC dO rW gG zX rY fE rH rJ rK rL rM rN rO rP qB jB jC jD qC qD qE qF qG yT yU yV yW qH qJ qK jE jF qL jG qM qN jH fA qO jI yX qI qP qQ qR qS yZ qT bJ1 qU uI kO uH uL wA wB wC qV bF qW qX qY qZ rA pF pG pH pI pJ pK pL pM pN iS iT iU iV pO pP pQ reduceIte".splitOn " ").toArray.map fun s=>Lean.mkIdent s.toName
 let m:=("aG2 List.getElem?_cons_succ List.getElem?_cons_zero Option.getD_some rB rC rD wY zA Int.reducePow Int.reduceNeg Int.reduceLT Int.reduceLE Nat.reducePow Nat.reduceLT Int.reduceToNat Nat.reduceLeDiff rG rE zB rF iW iX iY iZ List.set_cons_zero List.set_cons_succ cE aD5 List.length_cons List.length_nil Nat.reduceAdd Nat.zero_add true_and and_true and_self Bool.not_false Bool.not_true Bool.false_eq_true Bool.true_and Bool.and_true Bool.or_false decide_eq_true_eq".splitOn " ").toArray.map fun s=>Lean.mkIdent s.toName
 `(tactic| simp only[$[↓$l:ident],*,$[$m:ident],*])
def aZ1{a:Type}{o:Option a}{x:a}{K:a->Prop}(e:o=some x)(k:K x):OK1 o K:=eC.mpr ⟨x,e,k⟩
def bU8{g row:Nat}{ri:DI}{a:DE}{b:DA}{σ:Sg}{Q:Out->Prop}(h0:σ[g]? = some none)(h:RI ri (σ.set g (some SG)) λitems l σ1=>l=none/\σ1[g]? = some (some SG)/\items.length < 4000/\OK1 (bT3 row a b items [] (σ1.set g none)) λy=>Q (.rt (.own (bF4 y.1)) (y.2.set g none))):RS (bW3 g row ri a b) σ Q:=by
 obtain⟨x,e,c,d,f,i⟩:=eC.mp h;obtain⟨y,j,q⟩:=eC.mp i;refine aZ1 (x:=.rt (.own (bF4 y.1)) (y.2.set g none)) ?_ q;unfold bW3;rw[a1Z h0,e];exact(a1Z ⟨c,d,f⟩).trans (by rw[j];rfl)
theorem aM1{h:Type}{row:Nat}{i:DE}{j:DA}{K:GA0×Sg->Prop}(u:h->D)(f:h->List Key)(v:h->D)(P:Sg->Prop):∀ (xs:List h) (acc:GA0) (b:Sg),P b ->
  (∀ x∈xs,∀ b,P b->OK1 (dgN row (u x) b) λc=>RE i c λr d=>cF4 r=some (f x)/\RA j d λrs g=>vals rs=some [v x]/\P g)->(∀ b,P b->K (xs.foldl (λa x=>aB2 (f x) (v x) a) acc,b))->OK1 (bT3 row i j (xs.map u) acc b) K
 | [],acc,b,l,_,k=>aZ1 rfl (k b l)
 | x::xs,acc,b,l,hs,k=>by
   obtain⟨c,m,n⟩:=eC.mp (hs x a3a b l);obtain⟨⟨r,d⟩,o,p,s⟩:=eC.mp n;obtain⟨⟨rs,g⟩,t,w,A⟩:=eC.mp s;obtain⟨z,e,q⟩:=eC.mp (aM1 (K:=K) u f v P xs (aB2 (f x) (v x) acc) g A (λy B=>hs y (a4a _ B)) k);refine aZ1 (x:=z) ?_ q;show(dgN row (u x) b).bind _=some z;rw[m];show(i c).bind _=some z;rw[o];show(cF4 r).bind _=some z;rw[p];show(j d).bind _=some z;rw[t];show(vals rs).bind _=some z;rw[w];exact e
noncomputable def lk:GA0->List Key->Option (List D)
 | [],_=>none
 | p::r,k=>if p.1=k then some p.2 else lk r k
theorem jR:∀ k:List Key,mF (k.map uU)=some k
 | []=>rfl
 | x::r=>by
   show(cN0 (uU x)).bind _=_;have e:cN0 (uU x)=some x:=by cases x<;>rfl
   rw[e];show(mF (r.map uU)).bind _=_;rw[jR r];rfl
theorem xK(k:List Key):∀ acc:GA0,aF7 (acc.map λp=>.tup (p.1.map uU)) (acc.map λp=>.lst p.2) k=some ((lk acc k).map .lst)
 | []=>rfl
 | p::r=>by
   show(mF (p.1.map uU)).bind _=some ((if p.1=k then some p.2 else lk r k).map D.lst);rw[jR];show(if p.1=k then _ else _)=_;by_cases e:p.1=k;rw[a1Z e,a1Z e];rfl;rw[a2k e,a2k e];exact xK k r
theorem bL3(k j:List Key)(v:D):∀ acc:GA0,lk (aB2 k v acc) j=if k=j then some ((lk acc k).getD []++[v])else lk acc j
 | []=>by show(if k=j then _ else _)=_;rfl
 | p::r=>by
   show lk (if p.1=k then _ else _) j=_;by_cases e:p.1=k;rw[a1Z e];show(if p.1=j then _ else _)=_;by_cases z:k=j;rw[a1Z (e.trans z),a1Z z];show _=some ((if p.1=k then some p.2 else _).getD []++[v]);rw[a1Z e];rfl;rw[a2k (λq=>z (e.symm.trans q)),a2k z];show _=(if p.1=j then _ else _);rw[a2k (λq=>z (e.symm.trans q))]
   ·rw[a2k e];show(if p.1=j then _ else _)=_;rw[bL3 k j v r];show _=if k=j then some ((if p.1=k then some p.2 else lk r k).getD []++[v])else(if p.1=j then _ else _)
    rw[a2k e];by_cases z:k=j;rw[a1Z z,a2k (λq=>e (q.trans z.symm)),a1Z z];rw[a2k z,a2k z]
theorem aZ2{b:Type}(f:b->List Key)(v:b->D)(k:List Key):∀ (xs:List b) (acc:GA0),((lk (xs.foldl (λa x=>aB2 (f x) (v x) a) acc) k).getD []=(lk acc k).getD []++(xs.filter λx=>decide (f x=k)).map v) /\
  ((lk (xs.foldl (λa x=>aB2 (f x) (v x) a) acc) k).isSome=((lk acc k).isSome||xs.any λx=>decide (f x=k)))
 | [],acc=>by simp
 | x::xs,acc=>by
   obtain⟨c,d⟩:=aZ2 f v k xs (aB2 (f x) (v x) acc);rw[List.foldl_cons,c,d,bL3];by_cases e:f x=k;simp[e];simp[e]
noncomputable abbrev tD(cs:List Str)(ks:List (List Int)):D:=.tup [.tup (cs.map D.str),.tup (ks.map tI)]
def bL4{neg:Bool}{z:Str}{a:List Str}(hz:As z)(h:∀ z∈a,As z){K:Res->Prop}(k:K (.val (.bl (if neg=true then !a.contains z else a.contains z)))):OK1 (inD neg (.str z) (.tup (a.map D.str))) K:=by
 show OK1 (if _ then _ else none) K;rw[bA];refine⟨⟨aG3 hz,sO h⟩,?_⟩;have e:((a.map D.str).any λy=>aE0 y (.str z))=a.contains z:=by
  rw[List.any_map,List.contains_eq_any_beq];congr 1;funext y;show(y==z)=(z==y);rw[a0j,a2l,a2l,eq_comm]
 rw[e];exact k
def jY{cs so:List Str}(hs:∀ z∈so,z∈cs)(b:so.length<=100){K:Res->List Sl->Prop}(k:K (.own (.lst (so.map λz=>.int (cs.idxOf z:Nat)))) [⟨.val,.tup (cs.map D.str)⟩,⟨.par,.lst (so.map D.str)⟩]) :
  CK aQ [⟨.val,.tup (cs.map D.str)⟩,⟨.par,.lst (so.map D.str)⟩] K:=by
 unfold aQ;rw[dM];show RS bZ [_,_,none] _;unfold bZ;walk_at "dx";refine⟨aA8 (by rwa[a8a]),jP (λz=>.int (cs.idxOf z:Nat)) D.str so [_,_,none] rfl (λz a=>?_) ?_⟩;walk_at "dx";exact⟨hs z a,rfl⟩;walk_at "dx";exact k
noncomputable def cmn(cs ds:List Str):List Str:=cs.filter λz=>ds.contains z
noncomputable def mor(cs ds:List Str):List Str:=ds.filter λz=>!cs.contains z
def aG6{cs ds:List Str}:∀ z∈cmn cs ds,z∈cs:=λz h=>(List.mem_filter.mp h).1
def aZ3{cs ds:List Str}:∀ z∈cmn cs ds,z∈ds:=λz h=>by simpa using(List.mem_filter.mp h).2
def bU9{cs ds:List Str}:∀ z∈mor cs ds,z∈ds:=λz h=>(List.mem_filter.mp h).1
def aA9{cs ds:List Str}{ks a:List (List Int)}(e:cs.length<=20)(b:∀ z∈cs,Tx z)(c:∀ z∈ds,Tx z){K:Res->List Sl->Prop}(k:K (.own (.lst ((cmn cs ds).map D.str))) [⟨.val,tD cs ks⟩,⟨.val,tD ds a⟩]) :
  CK bB [⟨.val,tD cs ks⟩,⟨.val,tD ds a⟩] K:=by
 unfold bB;rw[dM];show RS bO [_,_,none] _;unfold bO;walk_at "dx";refine⟨aA8 (by rw[a8a];lia),fG (λz=>ds.contains z) D.str D.str cs [_,_,none] rfl (λz d=>?_) k⟩;walk_at "dx";refine bL4 (b z d).2 (λz h=>(c z h).2) ?_;walk_at "dx";rfl
def bV0(l:List Int):cF4 (.val (tI l))=some (l.map Sum.inl):=by
 show mF (l.map D.int)=_;have:l.map D.int=(l.map (Sum.inl:Int->Key)).map uU:=by rw[List.map_map];rfl
 rw[this,jR]
noncomputable def grs(cs so mo:List Str)(ks:List (List Int)):GA0:=ks.foldl (λa x=>aB2 ((pk cs so x).map Sum.inl) (tI (pk cs mo x)) a) []
def wD{cs so mo:List Str}{ks:List (List Int)}(c:∀ y∈ks,y.length=cs.length)(h:ks.length<=600)(hs:∀ z∈so,z∈cs)(e:∀ z∈mo,z∈cs)(sl:so.length<=100)(f:mo.length<=100){K:Res->List Sl->Prop}
  (k:K (.own (bF4 (grs cs so mo ks))) [⟨.val,tD cs ks⟩,⟨.par,.lst (so.map D.str)⟩,⟨.par,.lst (mo.map D.str)⟩]) :
  CK cP [⟨.val,tD cs ks⟩,⟨.par,.lst (so.map D.str)⟩,⟨.par,.lst (mo.map D.str)⟩] K:=by
 unfold cP;rw[dM];show RS fY [_,_,_,none,none,none,none] _;unfold fY;walk_at "dx";refine jY hs sl ?_;walk_at "dx";refine jY e f ?_;walk_at "dx";refine bU8 rfl ?_;walk_at "dx";refine⟨by rw[a8a];lia,aM1 tI (λx=>(pk cs so x).map Sum.inl) (λx=>tI (pk cs mo x)) (λa=>∃ b d,a=[_,_,_,_,_,none,ov b d]) ks [] _ ⟨false,.non,rfl⟩ ?_ ?_⟩;rintro x g a ⟨b,d,rfl⟩;walk_at "dx";refine jQ (c x g) hs sl ?_;walk_at "dx";refine⟨bV0 _,jQ (c x g) e f ?_⟩;walk_at "dx";exact⟨rfl,true,_,rfl⟩;rintro a ⟨b,d,rfl⟩;walk_at "dx";exact k
end Mr
namespace Dv
open PySem L2 Mr
mutual
def smp:D->Bool
 | .non=>true
 | .int _=>true
 | .str z=>PyData.strOk z
 | .tup l=>smps l
 | .lst l=>smps l
 | _=>false
def smps:List D->Bool
 | []=>true
 | d::r=>smp d&&smps r
end
mutual
theorem aZ4:∀ {d:D},smp d=true->(lB d).canLay0=true
 | .non,_=>rfl
 | .int _,_=>rfl
 | .str z,h=>h
 | .tup l,h=>smps_lay (l:=l) h
 | .lst l,h=>smps_lay (l:=l) h
 | .bl _,h=>nomatch h
 | .dic _ _,h=>nomatch h
theorem smps_lay:∀ {l:List D},smps l=true->PyData.canLayAll0 (toPys l)=true
 | [],_=>rfl
 | d::r,h=>by
   have h':smp d=true/\smps r=true:=by simpa[smps]using h
   show((lB d).canLay0&&PyData.canLayAll0 (toPys r))=true;rw[aZ4 h'.1,smps_lay h'.2];rfl
end
structure Ok(n:Nat)(d:D):Prop where
 smp:Dv.smp d=true
 dep:(lB d).depth<=n
theorem aZ5:∀ {l:List D},(∀ d∈l,smp d=true)->smps l=true
 | [],_=>rfl
 | d::r,h=>by
   show(smp d&&smps r)=true;rw[h d a3a,aZ5 λx a=>h x (a4a _ a)];rfl
theorem aZ6{n:Nat}:∀ {l:List D},(∀ d∈l,(lB d).depth<=n)->PyData.depthAll (toPys l)<=n
 | [],_=>a3d _
 | d::r,h=>Nat.max_le.mpr ⟨h d a3a,aZ6 λx a=>h x (a4a _ a)⟩
theorem Ok.tup{n:Nat}{l:List D}(h:∀ d∈l,Ok n d):Ok (n+1) (.tup l):=⟨aZ5 λd hd=>(h d hd).smp,Nat.succ_le_succ (aZ6 λd hd=>(h d hd).dep)⟩
theorem Ok.int{n:Nat}{i:Int}:Ok n (.int i):=⟨rfl,a3d _⟩
theorem Ok.str{n:Nat}{z:Str}(h:∀ c∈z.cps.toList,c < 128):Ok n (.str z):=by
 refine⟨?_,a3d _⟩;show PyData.strOk z=true;unfold PyData.strOk;rw[← Array.all_toList,List.all_eq_true];intro c a;have:=h c a;simp;lia
def Ok.cmp{n:Nat}{d:D}(h:Ok n d)(hn:n<=60):eP d=true:=by
 unfold eP;rw[aZ4 h.smp,a2q (a0b h.dep hn)];rfl
end Dv
namespace Mr
open PySem L2 Dv Sx
theorem aG7{l m:List D}{K:D×D->Prop}:OK1 (cI3 (.lst l) [.lst m]) K=(l.length+m.length<=sizeLine/\K (.lst (l++m),.non)):=by
 show OK1 (if _ then _ else none) K=_;rw[bA];rfl
theorem aZ7{σ:Sg}{d:D}{K:D->Prop}:RD σ (.val d) K=K d:=rfl
local macro_rules | `(tactic| walk_at "dx")=>do
 let l:=("aG7 aZ7 aL9 aM0 aL8 uE bI9 mU mV mW mX mY mZ nA nB nD nE nF nG nH nJ nK nM yO iE iF nN nO iG iH iI nP nQ yP nU nV yQ nW nX nY nZ oA oB iJ iK oC oE oF oG oH iL oJ iM oK oM oN oO oP oQ oR oS iN iO oU oV oW oX oY oZ pA pB pC pD yR iP eZ iQ pE iR pR pS pT pU pV pW pX pY pZ jL yS qA jA fC dO rW gG zX rY fE rH rJ rK rL rM rN rO rP qB jB jC jD qC qD qE qF qG yT yU yV yW qH qJ qK jE jF qL jG qM qN jH fA qO jI yX qI qP qQ qR qS yZ qT bJ1 qU uI kO uH uL wA wB wC qV bF qW qX qY qZ rA pF pG pH pI pJ pK pL pM pN iS iT iU iV pO pP pQ reduceIte".splitOn " ").toArray.map fun s=>Lean.mkIdent s.toName
 let m:=("aG2 List.getElem?_cons_succ List.getElem?_cons_zero Option.getD_some rB rC rD wY zA Int.reducePow Int.reduceNeg Int.reduceLT Int.reduceLE Nat.reducePow Nat.reduceLT Int.reduceToNat Nat.reduceLeDiff rG rE zB rF iW iX iY iZ List.set_cons_zero List.set_cons_succ cE aD5 List.length_cons List.length_nil Nat.reduceAdd Nat.zero_add true_and and_true and_self Bool.not_false Bool.not_true Bool.false_eq_true Bool.true_and Bool.and_true Bool.or_false decide_eq_true_eq".splitOn " ").toArray.map fun s=>Lean.mkIdent s.toName
 `(tactic| simp only[$[↓$l:ident],*,$[$m:ident],*])
def okI(l:List Int):Ok 1 (tI l):=Ok.tup λd h=>by obtain⟨i,_,rfl⟩:=a7f.mp h;exact Ok.int
noncomputable def sD(cs ds:List Str)(a:List (List Int))(row:List Int):List (List Int):=(a.filter λf=>decide (pk ds (cmn cs ds) f=pk cs (cmn cs ds) row)).map λf=>row++pk ds (mor cs ds) f
noncomputable def jn(cs ds:List Str)(ks a:List (List Int)):List (List Int):=ks.flatMap (sD cs ds a)
def aB0{cs ds:List Str}{a:List (List Int)}{row:List Int}:(sD cs ds a row).length<=a.length:=by
 unfold sD;rw[a8a];exact List.length_filter_le _ _
theorem xL{a b:Type}{f:a->List b}{n:Nat}(h:∀ x,(f x).length<=n):∀ l:List a,(l.flatMap f).length<=l.length*n
 | []=>by simp
 | x::l=>by
   have:=xL h l;have:=h x;rw[List.flatMap_cons,a9a,a3h,Nat.succ_mul];lia
def bL5{cs ds:List Str}{ks a:List (List Int)}(h:ks.length*a.length<=3600):(jn cs ds ks a).length<=ks.length*a.length:=xL (f:=sD cs ds a) (λx=>aB0) ks
def bL6{cs ds:List Str}{ks b:List (List Int)}(c:∀ y∈ks,y.length=cs.length):∀ y∈jn cs ds ks b,y.length=cs.length+(mor cs ds).length:=λy d=>by
 obtain⟨a,e,g⟩:=List.mem_flatMap.mp d;obtain⟨f,_,rfl⟩:=a7f.mp g;rw[a9a,c a e];simp[pk]
def cG9{cs ds:List Str}{ks a:List (List Int)}(h:ks.length*a.length<=3600)(b:∀ y∈ks,y.length=cs.length):(jn cs ds ks a).length < 4000/\(2<=(srt (jn cs ds ks a)).length->∀ k∈jn cs ds ks a,k≠[]):=
 ⟨by have:=bL5 (cs:=cs) (ds:=ds) h;lia,aG5 (bL6 b)⟩
def aG8{a:Type}{l:List a}(h:l.length<=1000):l.length<=sizeLine:=a0b h (by decide)
def cH0{g i f:DE}{σ:Sg}{Q:Res->Sg->Prop}(acc:GA0)(h:RE g σ λx b=>RD b x λj=>bT7 j=true/\RE i b λy c=>RE f c λz a=>z=.own (.lst [])/\RD a x λd=>RD a y λe=>∃ l,d=bF4 acc/\e=tI l/\∀ v,(v=.val (.lst ((lk acc (l.map Sum.inl)).getD []))\/v=.own (.lst ((lk acc (l.map Sum.inl)).getD [])))->Q v a):RE (aX7 g i f) σ Q:=by
 obtain⟨⟨x,b⟩,s,h⟩:=eC.mp h;obtain⟨j,m,h0,h⟩:=eC.mp h;obtain⟨⟨y,c⟩,n,h⟩:=eC.mp h;obtain⟨⟨z,a⟩,o,p,h⟩:=eC.mp h;obtain⟨d,q,h⟩:=eC.mp h;obtain⟨e,r,l,rfl,rfl,k⟩:=eC.mp h;dsimp only at m n o q r p k;have t:cI7 (bF4 acc) (tI l)=some ((lk acc (l.map Sum.inl)).map D.lst):=by
  show(mF (l.map D.int)).bind _=_;have:l.map D.int=(l.map (Sum.inl:Int->Key)).map uU:=by rw[List.map_map];rfl
  rw[this,jR];exact xK _ acc
 have u:aX7 g i f σ=some ((match (lk acc (l.map Sum.inl)).map D.lst with | some v=>.val v | none=>z),a):=by
  unfold aX7;rw[s];show(rd b x).bind _=_;rw[m];show(if bT7 j=true then _ else none)=_;rw[a1Z h0,n];show(f c).bind _=_;rw[o];show(rd a x).bind _=_;rw[q];show(rd a y).bind _=_;rw[r];show(cI7 (bF4 acc) (tI l)).bind _=_;rw[t];rfl
 refine aZ1 u (k _ ?_);subst p;cases w:lk acc (l.map Sum.inl)with
 | none=>exact .inr rfl
 | some v=>exact .inl rfl
def bL7{a b:List Int}:a.map (Sum.inl:Int->Key)=b.map Sum.inl↔a=b:=List.map_inj_right λx y h=>by injection h
def bV1{cs ds:List Str}{a:List (List Int)}{row:List Int}:((lk (grs ds (cmn cs ds) (mor cs ds) a) ((pk cs (cmn cs ds) row).map Sum.inl)).getD [])=(a.filter λf=>decide (pk ds (cmn cs ds) f=pk cs (cmn cs ds) row)).map λf=>tI (pk ds (mor cs ds) f):=by
 have:=(aZ2 (λx=>(pk ds (cmn cs ds) x).map Sum.inl) (λx=>tI (pk ds (mor cs ds) x)) ((pk cs (cmn cs ds) row).map Sum.inl) a []).1;rw[show lk [] ((pk cs (cmn cs ds) row).map Sum.inl)=none from rfl]at this;refine this.trans ?_;simp only[Option.getD_none,List.nil_append];congr 1;exact List.filter_congr λf _=>by rw[a0j,a2n,a2n,bL7]
def cH1{cs ds so mo:List Str}{a:List (List Int)}{k:List Int}:(lk (grs ds so mo a) (k.map Sum.inl)).isSome=a.any λf=>decide (pk ds so f=k):=by
 have:=(aZ2 (λx=>(pk ds so x).map Sum.inl) (λx=>tI (pk ds mo x)) (k.map Sum.inl) a []).2;refine this.trans ?_;show(false||_)=_;rw[Bool.false_or];congr 1;funext f;rw[a0j,a2n,a2n,bL7]
def aZ8{cs ds:List Str}{ks a:List (List Int)}(e:cs.length<=20)(hd:ds.length<=20)(g:∀ z∈cs,Tx z)(j:∀ z∈ds,Tx z)(r:ks.length<=600)(hj:a.length<=600)(p:ks.length*a.length<=3600)(c:∀ y∈ks,y.length=cs.length)(hs:∀ y∈a,y.length=ds.length){K:Res->List Sl->Prop}
  (k:K (.val (tD (cs++mor cs ds) (srt (jn cs ds ks a)))) [⟨.val,tD cs ks⟩,⟨.val,tD ds a⟩]) :
  CK aY [⟨.val,tD cs ks⟩,⟨.val,tD ds a⟩] K:=by
 have s:(cmn cs ds).length<=20:=a0b (List.length_filter_le _ _) e;have t:(mor cs ds).length<=20:=a0b (List.length_filter_le _ _) hd;have sl:10000<=sizeLine:=by decide
 unfold aY;rw[dM];show RS jO [_,_,none,none,none,none,none,none,none,none] _;unfold jO;walk_at "dx";refine aA9 e g j ?_;walk_at "dx";refine⟨aA8 (by rw[a8a];lia),fG (λz=>!cs.contains z) D.str D.str ds [_,_,_,none,none,none,none,none,none,none] rfl (λz q=>?_) ?_⟩;walk_at "dx";refine bL4 (j z q).2 (λz h=>(g z h).2) ?_;walk_at "dx";rfl
 walk_at "dx";refine⟨by decide,wD (so:=cmn cs ds) (mo:=mor cs ds) hs hj aZ3 bU9 (by lia) (by lia) ?_⟩;walk_at "dx";refine jY (so:=cmn cs ds) aG6 (by lia) ?_;walk_at "dx";refine⟨a3d _,tZ (λi l=>∃ b d,l=[_,_,some ⟨.own,.lst ((cmn cs ds).map D.str)⟩,some ⟨.own,.lst ((mor cs ds).map D.str)⟩,some ⟨.own,bF4 (grs ds (cmn cs ds) (mor cs ds) a)⟩,some ⟨.own,.lst ((cmn cs ds).map λz=>.int (cs.idxOf z:Nat))⟩,some ⟨.own,.lst (((ks.take i).flatMap (sD cs ds a)).map tI)⟩,ov b d,none,none]) ⟨false,.non,rfl⟩ ?_ ?_⟩
 ·rintro i d l hd ⟨b,d',rfl⟩;rw[a2c]at hd;obtain⟨row,m,rfl⟩:=a9c.mp hd;have n:=a4c m;have u:((ks.take i).flatMap (sD cs ds a)).length<=3600:=by
   have w:=xL (f:=sD cs ds a) (λx=>aB0) (ks.take i);have A:(ks.take i).length*a.length<=ks.length*a.length:=Nat.mul_le_mul_right _ (List.length_take_le' _ _);lia
  have tk:(ks.take (i+1)).flatMap (sD cs ds a)=(ks.take i).flatMap (sD cs ds a)++sD cs ds a row:=by rw[a6i,m,List.flatMap_append];simp
  walk_at "dx";refine cH0 (grs ds (cmn cs ds) (mor cs ds) a) ?_;walk_at "dx";refine⟨rfl,jQ (c row n) aG6 (by lia) ?_⟩;walk_at "dx";refine⟨a3d _,_,rfl,λv o=>?_⟩;rw[bV1]at o;have B:=List.length_filter_le (λf=>decide (pk ds (cmn cs ds) f=pk cs (cmn cs ds) row)) a;rcases o with rfl | rfl
  all_goals
   walk_at "dx";refine⟨by rw[a8a];lia,jP (λf=>tI (row++pk ds (mor cs ds) f)) (λf=>tI (pk ds (mor cs ds) f)) _ [_,_,_,_,_,_,_,_,none,none] rfl (λf C=>?_) ?_⟩;walk_at "dx";refine⟨?_,by rw[← a5d],rfl⟩;rw[a8a,a8a,c row n];simp[pk];lia;walk_at "dx";refine⟨by rw[a8a,a8a];lia,_,.inl rfl,true,tI row,?_⟩;rw[tk,a5d];unfold sD;rw[List.map_map];rfl
 ·rintro σ' ⟨b,d,rfl⟩;rw[a8a,List.take_length];walk_at "dx";refine⟨by rw[a8a,a8a];lia,?_⟩;rw[← a5d];refine bL2 (.inl ⟨.inl rfl,rfl⟩) (cG9 p c) ?_;walk_at "dx";exact k
noncomputable def thn(cs ds:List Str)(ks b:List (List Int)):List (List Int):=ks.filter λa=>b.any λf=>decide (pk ds (cmn cs ds) f=pk cs (cmn cs ds) a)
def bV2{cs ds:List Str}{a:List (List Int)}{l:List Int}{so mo:List Str}{K:Res->Prop}(k:K (.val (.bl (a.any λf=>decide (pk ds so f=l))))):OK1 (inT (tI l) (bF4 (grs ds so mo a))) K:=by
 refine aZ1 (x:=.val (.bl (lk (grs ds so mo a) (l.map Sum.inl)).isSome)) ?_ (by rw[cH1 (cs:=cs)];exact k);show(mF (l.map D.int)).bind _=_;have:l.map D.int=(l.map (Sum.inl:Int->Key)).map uU:=by rw[List.map_map];rfl
 rw[this,jR];show(aF7 _ _ _).bind _=_;rw[xK];show some _=_;rw[Option.isSome_map]
def aP8{cs ds:List Str}{ks b:List (List Int)}(c:cs.length<=20)(d:∀ z∈cs,Tx z)(e:∀ z∈ds,Tx z)(i:ks.length<=600)(hj:b.length<=600)(g:∀ y∈ks,y.length=cs.length)(hs:∀ y∈b,y.length=ds.length){K:Res->List Sl->Prop}
  (k:K (.val (tD cs (thn cs ds ks b))) [⟨.val,tD cs ks⟩,⟨.val,tD ds b⟩]) :
  CK aZ [⟨.val,tD cs ks⟩,⟨.val,tD ds b⟩] K:=by
 have j:(cmn cs ds).length<=20:=a0b (List.length_filter_le _ _) c;unfold aZ;rw[dM];show RS cV [_,_,none,none,none,none] _;unfold cV;walk_at "dx";refine aA9 c d e ?_;walk_at "dx";refine⟨a3d _,wD (so:=cmn cs ds) (mo:=[]) hs hj aZ3 (by simp) (by lia) (by simp) ?_⟩;walk_at "dx";refine jY (so:=cmn cs ds) aG6 (by lia) ?_;walk_at "dx";refine⟨aG8 (by rw[a8a];lia),fG (λa=>b.any λf=>decide (pk ds (cmn cs ds) f=pk cs (cmn cs ds) a)) tI tI ks [_,_,_,_,_,none] rfl (λa h=>?_) ?_⟩;walk_at "dx";refine jQ (g a h) aG6 (by lia) ?_;walk_at "dx";refine bV2 (cs:=cs) ?_;walk_at "dx";rfl;walk_at "dx";exact⟨by decide,k⟩
def cH2{cs so:List Str}{ks:List (List Int)}(c:∀ y∈ks,y.length=cs.length)(hs:∀ z∈so,z∈cs)(b:so.length<=100)(d:ks.length<=600)
  {K:Res->List Sl->Prop} (k:K (.val (tD so (srt (ks.map (pk cs so))))) [⟨.val,tD cs ks⟩,⟨.val,.tup (so.map D.str)⟩]) :
  CK eU [⟨.val,tD cs ks⟩,⟨.val,.tup (so.map D.str)⟩] K:=by
 unfold eU;rw[dM];show RS aA3 [_,_,none,none] _;unfold aA3;walk_at "dx";refine aZ0 hs b ?_;walk_at "dx";refine⟨aG8 (by rw[a8a];lia),jP (λy=>tI (pk cs so y)) tI ks [_,_,_,none] rfl (λy a=>?_) ?_⟩;walk_at "dx";refine jQ (c y a) hs b ?_;walk_at "dx";exact rfl;refine bL2 (ks:=ks.map (pk cs so)) (.inl ⟨.inl rfl,by rw[List.map_map];rfl⟩) ⟨by rw[a8a];lia,aG5 (n:=so.length) λy a=>?_⟩ ?_;obtain⟨x,_,rfl⟩:=a7f.mp a;exact a8a ..;walk_at "dx";exact k
def bV3{cs:List Str}{z:Str}{ks:List (List Int)}{v:Int}(a:∀ y∈ks,y.length=cs.length)(hz:z∈cs)(c:ks.length<=600)
  {K:Res->List Sl->Prop} (k:K (.val (tD cs (ks.filter λy=>decide (y.getD (cs.idxOf z) 0=v)))) [⟨.val,tD cs ks⟩,⟨.val,.str z⟩,⟨.val,.int v⟩]):CK gJ [⟨.val,tD cs ks⟩,⟨.val,.str z⟩,⟨.val,.int v⟩] K:=by
 unfold gJ;rw[dM];show RS uG [_,_,_,none,none] _;unfold uG;walk_at "dx";refine⟨hz,aG8 (by rw[a8a];lia),fG (λy=>decide (y.getD (cs.idxOf z) 0=v)) tI tI ks [_,_,_,_,none] rfl (λy b=>?_) ?_⟩;walk_at "dx";rw[bL1 (by rw[a y b];exact zK hz)];walk_at "dx";exact rfl;walk_at "dx";exact⟨sl2,k⟩
noncomputable def gt(cs:List Str)(row:List Int)(z:Str):Int:=row.getD (cs.idxOf z) 0
def aP9(cs so:List Str)(row:List Int):pk cs so row=so.map (gt cs row):=rfl
def lP{cs:List Str}{f:Str->Int}{z:Str}(h:z∈cs):gt cs (cs.map f) z=f z:=by
 unfold gt;have a:=zK h;rw[a1h,a2c,a1a a];simp
def sA{cs:List Str}{row:List Int}(nd:cs.Nodup)(a:row.length=cs.length):cs.map (gt cs row)=row:=by
 refine List.ext_getElem (by simp[a]) λi c b=>?_;rw[List.getElem_map];unfold gt;have hi:i < cs.length:=by lia
 rw[List.Nodup.idxOf_getElem nd i hi,a1h,a1a b];rfl
def jZ{so:List Str}{f g:Str->Int}(h:∀ z∈so,f z=g z):so.map f=so.map g:=List.map_congr_left h
def sP{so:List Str}{f g:Str->Int}(h:so.map f=so.map g):∀ z∈so,f z=g z:=List.map_inj_left.mp h
structure Tb where
 cs:List Str
 ks:List (List Int)
 nd:cs.Nodup
 tx:∀ z∈cs,Tx z
 ln:∀ y∈ks,y.length=cs.length
 ri:aX2 ks
namespace Tb
noncomputable def d(A:Tb):D:=tD A.cs A.ks
def sm(A:Tb)(f:Str->Int):Prop:=A.cs.map f∈A.ks
def xM{A:Tb}{f g:Str->Int}(h:∀ z∈A.cs,f z=g z):A.sm f↔A.sm g:=by unfold sm;rw[jZ h]
def ext{cs:List Str}{ks ls:List (List Int)}(nd:cs.Nodup)(b:∀ y∈ks,y.length=cs.length)(c:∀ y∈ls,y.length=cs.length)(d:aX2 ks)(e:aX2 ls)(h:∀ f:Str->Int,cs.map f∈ks↔cs.map f∈ls):ks=ls:=by
 refine aK4 d e λx=>⟨λa=>?_,λa=>?_⟩;have:=(h (gt cs x)).mp (by rw[sA nd (b x a)];exact a);rwa[sA nd (b x a)]at this;have:=(h (gt cs x)).mpr (by rw[sA nd (c x a)];exact a);rwa[sA nd (c x a)]at this
def same{A B:Tb}(a:A.cs=B.cs)(h:∀ f,A.sm f↔B.sm f):A=B:=by
 cases A;cases B;cases a;have:=ext (by assumption) (by assumption) (by assumption) (by assumption) (by assumption) h;cases this;rfl
noncomputable def J(A B:Tb):Tb where
 cs:=A.cs++mor A.cs B.cs
 ks:=srt (jn A.cs B.cs A.ks B.ks)
 nd:=List.nodup_append.mpr ⟨A.nd,B.nd.sublist List.filter_sublist,λx b y a e=>by
  have:=(List.mem_filter.mp a).2;simp at this;exact this (e ▸ b)⟩
 tx:=λz h=>(a1c.mp h).elim (A.tx z) λh=>B.tx z (bU9 z h)
 ln:=λy a=>by rw[bL6 A.ln y ((dZ _ y).mp a),a9a]
 ri:=gH _
theorem J_mem{A B:Tb}{z:Str}:z∈(J A B).cs↔z∈A.cs\/z∈B.cs:=by
 show z∈A.cs++mor A.cs B.cs↔_;unfold mor;rw[a1c,List.mem_filter];by_cases h:z∈A.cs<;>simp[h]
theorem J_sm{A B:Tb}{f:Str->Int}:(J A B).sm f↔A.sm f/\B.sm f:=by
 show(A.cs++mor A.cs B.cs).map f∈srt (jn A.cs B.cs A.ks B.ks)↔_;rw[dZ,a5d];unfold jn sD;rw[List.mem_flatMap];constructor
 ·rintro⟨row,b,c⟩;obtain⟨g,j,k⟩:=a7f.mp c;obtain⟨h,d⟩:=List.mem_filter.mp j;have d:=of_decide_eq_true d;have l:row.length=(A.cs.map f).length:=by rw[A.ln row b,a8a]
  obtain⟨i,m⟩:=List.append_inj k l;refine⟨show A.cs.map f∈A.ks from i ▸ b,?_⟩;have n:=sA B.nd (B.ln g h);show B.cs.map f∈B.ks;rw[show B.cs.map f=B.cs.map (gt B.cs g)from jZ λz a=>?_,n];exact h;by_cases e:z∈A.cs;have o:z∈cmn A.cs B.cs:=List.mem_filter.mpr ⟨e,by simpa using a⟩;have:=sP d z o;rw[i]at this;exact(this.trans (lP e)).symm;have p:z∈mor A.cs B.cs:=List.mem_filter.mpr ⟨a,by simpa using e⟩;exact(sP m z p).symm
 ·rintro⟨b,c⟩;refine⟨A.cs.map f,b,a7f.mpr ⟨B.cs.map f,List.mem_filter.mpr ⟨c,a2q ?_⟩,?_⟩⟩
  ·rw[aP9,aP9];exact jZ λz a=>by rw[lP (aZ3 z a),lP (aG6 z a)]
  ·rw[aP9];congr 1;exact jZ λz a=>lP (bU9 z a)
noncomputable def C(A:Tb)(so:List Str)(nd:so.Nodup)(hs:∀ z∈so,z∈A.cs):Tb where
 cs:=so
 ks:=srt (A.ks.map (pk A.cs so))
 nd:=nd
 tx:=λz h=>A.tx z (hs z h)
 ln:=λy a=>by
  obtain⟨x,_,rfl⟩:=a7f.mp ((dZ _ y).mp a);exact a8a ..
 ri:=gH _
def bL8{A:Tb}{so:List Str}{nd:so.Nodup}{hs:∀ z∈so,z∈A.cs}{f:Str->Int}:(C A so nd hs).sm f↔∃ g,A.sm g/\∀ z∈so,g z=f z:=by
 show so.map f∈srt (A.ks.map (pk A.cs so))↔_;rw[dZ,a7f];constructor;rintro⟨x,a,b⟩;refine⟨gt A.cs x,?_,sP b⟩;show A.cs.map _∈A.ks;rw[sA A.nd (A.ln x a)];exact a;rintro⟨g,a,b⟩;refine⟨A.cs.map g,a,?_⟩;rw[aP9];exact jZ λz c=>(lP (hs z c)).trans (b z c)
noncomputable def T(A B:Tb):Tb where
 cs:=A.cs
 ks:=thn A.cs B.cs A.ks B.ks
 nd:=A.nd
 tx:=A.tx
 ln:=λy a=>A.ln y (List.mem_filter.mp a).1
 ri:=A.ri.sublist List.filter_sublist
def cN9{A B:Tb}{f:Str->Int}:(T A B).sm f↔A.sm f/\∃ g,B.sm g/\∀ z∈A.cs,z∈B.cs->g z=f z:=by
 show A.cs.map f∈thn A.cs B.cs A.ks B.ks↔_;unfold thn;rw[List.mem_filter,List.any_eq_true];refine and_congr Iff.rfl ⟨?_,?_⟩;rintro⟨x,b,a⟩;have a:=of_decide_eq_true a;refine⟨gt B.cs x,?_,λz d e=>?_⟩;show B.cs.map _∈B.ks;rw[sA B.nd (B.ln x b)];exact b;have:=sP a z (List.mem_filter.mpr ⟨d,by simpa using e⟩);exact this.trans (lP d);rintro⟨g,b,a⟩;refine⟨B.cs.map g,b,a2q ?_⟩;rw[aP9,aP9];exact jZ λz c=>by rw[lP (aZ3 z c),lP (aG6 z c)];exact a z (aG6 z c) (aZ3 z c)
noncomputable def Kp(A:Tb)(z:Str)(v:Int):Tb where
 cs:=A.cs
 ks:=A.ks.filter λy=>decide (y.getD (A.cs.idxOf z) 0=v)
 nd:=A.nd
 tx:=A.tx
 ln:=λy a=>A.ln y (List.mem_filter.mp a).1
 ri:=A.ri.sublist List.filter_sublist
def cH3{A:Tb}{z:Str}{v:Int}(hz:z∈A.cs){f:Str->Int}:(Kp A z v).sm f↔A.sm f/\f z=v:=by
 show A.cs.map f∈A.ks.filter _↔_;rw[List.mem_filter];refine and_congr Iff.rfl ?_;rw[a2n];show gt A.cs (A.cs.map f) z=v↔_;rw[lP hz]
noncomputable def U(b:Bool):Tb where
 cs:=[]
 ks:=if b=true then[[]]else[]
 nd:=.nil
 tx:=λ_ h=>nomatch h
 ln:=λy a=>by
  cases b;cases a;rw[a7b.mp a];rfl
 ri:=by cases b<;>simp[aX2]
def cO0{b:Bool}{f:Str->Int}:(U b).sm f↔b=true:=by
 show[]∈(if b=true then[[]]else([]:List (List Int)))↔_;cases b<;>simp
def cut_all{A B:Tb}(a:∀ z,z∈A.cs↔z∈B.cs)(hs:∀ f,A.sm f↔B.sm f):C A B.cs B.nd (λz h=>(a z).mpr h)=B:=same rfl λf=>by
 rw[bL8,← hs f];exact⟨λ⟨g,b,c⟩=>(xM λz d=>c z ((a z).mp d)).mp b,λh=>⟨f,h,λ_ _=>rfl⟩⟩
def thin_cut{A B:Tb}{hs}:C (J A B) A.cs A.nd hs=T A B:=same rfl λf=>by
 rw[bL8,cN9];constructor;rintro⟨g,b,c⟩;rw[J_sm]at b;exact⟨(xM c).mp b.1,g,b.2,λz a _=>c z a⟩;rintro⟨b,g,c,d⟩;refine⟨λz=>if z∈A.cs then f z else g z,J_sm.mpr ⟨(xM λz a=>?_).mpr b,(xM λz a=>?_).mpr c⟩,λz a=>a1Z a⟩;exact a1Z a;by_cases h:z∈A.cs;rw[a1Z h];exact(d z h a).symm;exact a2k h
def thin_cut2{A B:Tb}{hs}:C (J A B) B.cs B.nd hs=T B A:=same rfl λf=>by
 have:=@thin_cut B A (λz h=>J_mem.mpr (.inl h));rw[← this,bL8,bL8];exact exists_congr λg=>by rw[J_sm,J_sm,and_comm (a:=A.sm g)]
def thin_both{A B:Tb}:J (T A B) (T B A)=J A B:=same rfl λf=>by
 rw[J_sm,J_sm,cN9,cN9];exact⟨λh=>⟨h.1.1,h.2.1⟩,λh=>⟨⟨h.1,f,h.2,λ_ _ _=>rfl⟩,h.2,f,h.1,λ_ _ _=>rfl⟩⟩
def bV4{A B:List Str}(h:∀ z∈B,z∈A):mor A B=[]:=List.filter_eq_nil_iff.mpr λz a=>by simp[h z a]
def again{A B:Tb}:J (J A B) A=J A B:=same (by
  show(J A B).cs++mor (J A B).cs A.cs=(J A B).cs;rw[bV4 λz h=>J_mem.mpr (.inl h),a3f]) λf=>by
 rw[J_sm,J_sm];exact⟨λh=>h.1,λh=>⟨h,h.1⟩⟩
def kept_both{A B:Tb}{z:Str}{v:Int}(hz:z∈A.cs):J (Kp A z v) B=Kp (J A B) z v:=same rfl λf=>by
 rw[J_sm,cH3 hz,cH3 (J_mem.mpr (.inl hz)),J_sm];exact⟨λh=>⟨⟨h.1.1,h.2⟩,h.1.2⟩,λh=>⟨⟨h.1.1,h.2⟩,h.1.2⟩⟩
def cut_cut{A:Tb}{so a:List Str}{n1 n2 e i j}(k:∀ z∈a,z∈so):C (C A so n1 e) a n2 i=C A a n2 j:=same rfl λf=>by
 rw[bL8,bL8];constructor;rintro⟨g,b,c⟩;obtain⟨h,l,m⟩:=bL8.mp b;exact⟨h,l,λz d=>(m z (k z d)).trans (c z d)⟩;rintro⟨g,b,c⟩;exact⟨g,bL8.mpr ⟨g,b,λ_ _=>rfl⟩,c⟩
def unit_r{A:Tb}:J A (U true)=A:=same (by show A.cs++mor A.cs []=_;simp[mor]) λf=>by
 rw[J_sm,cO0];simp
def unit_l{A:Tb}:J (U true) A=A:=same (by show[]++mor [] A.cs=_;simp[mor]) λf=>by
 rw[J_sm,cO0];simp
def no_r{A:Tb}:(J A (U false)).cs=A.cs/\(J A (U false)).ks=[]:=by
 refine⟨by show A.cs++mor A.cs []=_;simp[mor],?_⟩;refine List.eq_nil_iff_forall_not_mem.mpr λx a=>?_;have:=(J_sm (A:=A) (B:=U false) (f:=gt (J A (U false)).cs x)).mp (by
  show(J A (U false)).cs.map _∈_;rw[sA (J A (U false)).nd ((J A (U false)).ln x a)];exact a)
 exact absurd (cO0.mp this.2) (by decide)
def no_t{A:Tb}:(T A (U false)).ks=[]:=List.eq_nil_iff_forall_not_mem.mpr λx a=>by
 have:=(List.mem_filter.mp a).2;exact absurd this (by simp[U])
def J_le{A B:Tb}(h:A.ks.length*B.ks.length<=3600):(J A B).ks.length<=A.ks.length*B.ks.length:=a0b (uC _) (bL5 h)
def J_cs{A B:Tb}:(J A B).cs.length<=A.cs.length+B.cs.length:=by
 show(A.cs++mor A.cs B.cs).length<=_;rw[a9a];have:=List.length_filter_le (λz=>!A.cs.contains z) B.cs;show _+(mor A.cs B.cs).length<=_;unfold mor;lia
end Tb
theorem cH4{A:Tb}{K:Res->Prop}:OK1 (ixD A.d (.int 0)) K=K (.val (.tup (A.cs.map D.str))):=rfl
local macro_rules | `(tactic| walk_at "dx")=>do
 let l:=("aX9 cH4 aL2 aG7 aZ7 aL9 aM0 aL8 uE bI9 mU mV mW mX mY mZ nA nB nD nE nF nG nH nJ nK nM yO iE iF nN nO iG iH iI nP nQ yP nU nV yQ nW nX nY nZ oA oB iJ iK oC oE oF oG oH iL oJ iM oK oM oN oO oP oQ oR oS iN iO oU oV oW oX oY oZ pA pB pC pD yR iP eZ iQ pE iR pR pS pT pU pV pW pX pY pZ jL yS qA jA fC dO rW gG zX rY fE rH rJ rK rL rM rN rO rP qB jB jC jD qC qD qE qF qG yT yU yV yW qH qJ qK jE jF qL jG qM qN jH fA qO jI yX qI qP qQ qR qS yZ qT bJ1 qU uI kO uH uL wA wB wC qV bF qW qX qY qZ rA pF pG pH pI pJ pK pL pM pN iS iT iU iV pO pP pQ reduceIte".splitOn " ").toArray.map fun s=>Lean.mkIdent s.toName
 let m:=("aG2 List.getElem?_cons_succ List.getElem?_cons_zero Option.getD_some rB rC rD wY zA Int.reducePow Int.reduceNeg Int.reduceLT Int.reduceLE Nat.reducePow Nat.reduceLT Int.reduceToNat Nat.reduceLeDiff rG rE zB rF iW iX iY iZ List.set_cons_zero List.set_cons_succ cE aD5 List.length_cons List.length_nil Nat.reduceAdd Nat.zero_add true_and and_true and_self Bool.not_false Bool.not_true Bool.false_eq_true Bool.true_and Bool.and_true Bool.or_false decide_eq_true_eq".splitOn " ").toArray.map fun s=>Lean.mkIdent s.toName
 `(tactic| simp only[$[↓$l:ident],*,$[$m:ident],*])
def sz(A:Tb)(m n:Nat):Prop:=A.cs.length<=m/\A.ks.length<=n
def szJ{A B:Tb}{m n p q:Nat}(a:sz A m n)(b:sz B p q)(h:n*q<=3600):sz (A.J B) (m+p) (n*q):=by
 have c:A.ks.length*B.ks.length<=n*q:=Nat.mul_le_mul a.2 b.2;have d:=Tb.J_le (A:=A) (B:=B) (by lia);have e:=Tb.J_cs (A:=A) (B:=B);exact⟨by have:=a.1;have:=b.1;lia,by lia⟩
def uM{A B:Tb}(m n p q:Nat)(a:sz A m n)(b:sz B p q)(h:m<=20/\p<=20/\n<=600/\q<=600/\n*q<=3600){K:Res->List Sl->Prop}(k:K (.val (A.J B).d) [⟨.val,A.d⟩,⟨.val,B.d⟩]):CK aY [⟨.val,A.d⟩,⟨.val,B.d⟩] K:=
 aZ8 (a0b a.1 h.1) (a0b b.1 h.2.1) A.tx B.tx (a0b a.2 h.2.2.1) (a0b b.2 h.2.2.2.1) (a0b (Nat.mul_le_mul a.2 b.2) h.2.2.2.2) A.ln B.ln k
def sz2{A B:Tb}(a:sz A 6 8)(b:sz B 6 8):sz (A.J B) 12 64:=szJ a b (by decide)
noncomputable def bV5(A B C:Tb):List Tb:=[(A.J B).J C,A.J (B.J C),(A.J C).J B,A.J (C.J B),(B.J A).J C,B.J (A.J C),(B.J C).J A,B.J (C.J A),(C.J A).J B,C.J (A.J B),(C.J B).J A,C.J (B.J A)]
def aZ9{A B C:Tb}(m:sz A 6 8)(n:sz B 6 8)(o:sz C 6 8){K:Res->List Sl->Prop}(k:K (.own (.lst ((bV5 A B C).map Tb.d))) [⟨.val,.lst [A.d,B.d,C.d]⟩]):CK cK [⟨.val,.lst [A.d,B.d,C.d]⟩] K:=by
 have j:∀ z:Nat,z<=100->z < sizeLine:=λz h=>a8f h (by decide);unfold cK;rw[dM];show RS cU [_,none,none,none,none] _;unfold cU;walk_at "dx";refine⟨by decide,by decide,by decide,by decide,by decide,by decide,by decide,by decide,?_⟩;refine tZ (λi l=>∃ a b c e f g,l=[some ⟨.val,.lst [A.d,B.d,C.d]⟩,some ⟨.own,.lst (((bV5 A B C).take (2*i)).map Tb.d)⟩,ov a b,ov c e,ov f g]) ⟨false,.non,false,.non,false,.non,rfl⟩ ?_ ?_
 ·rintro i d l hd ⟨a,b,c,e,f,g,rfl⟩;have hi:i < 6:=(a0a.mp hd).1;rcases(by lia:i=0\/i=1\/i=2\/i=3\/i=4\/i=5)with rfl | rfl | rfl | rfl | rfl | rfl
  all_goals
   cases hd;walk_at "dx";refine uM 6 8 6 8 (by assumption) (by assumption) (by decide) ?_;walk_at "dx";refine uM 12 64 6 8 (sz2 (by assumption) (by assumption)) (by assumption) (by decide) ?_;walk_at "dx";refine⟨j _ (Nat.le_of_ble_eq_true rfl),?_⟩;refine uM 6 8 6 8 (by assumption) (by assumption) (by decide) ?_;walk_at "dx";refine uM 6 8 12 64 (by assumption) (sz2 (by assumption) (by assumption)) (by decide) ?_;walk_at "dx";exact⟨j _ (Nat.le_of_ble_eq_true rfl),_,.inl rfl,true,_,true,_,true,_,rfl⟩
 ·rintro σ' ⟨a,b,c,e,f,g,rfl⟩;walk_at "dx";exact k
open PySem.Spec PyProof.Rows
def aM2{c k:Type}(f:c->k){ys m:List k}(h:ys.Perm m):∀ l:List c,m=l.map f->∃ l':List c,ys=l'.map f/\l'.Perm l:=by
 induction h with
 | nil=>intro l e;exact⟨l,e,.refl _⟩
 | cons x _ n=>
   intro l e;cases l with
   | nil=>cases e
   | cons a r=>
     obtain⟨d,g⟩:=List.cons.inj e;obtain⟨l',i,j⟩:=n r g;exact⟨a::l',by rw[d,i];rfl,j.cons a⟩
 | swap x y _=>
   intro l e;cases l with
   | nil=>cases e
   | cons a r=>
     cases r with
     | nil=>cases e
     | cons b s=>
       obtain⟨d,g⟩:=List.cons.inj e;obtain⟨o,p⟩:=List.cons.inj g;exact⟨b::a::s,by rw[d,o,p];rfl,.swap a b s⟩
 | trans _ _ i1 i2=>
   intro l e;obtain⟨q,i,j⟩:=i2 l e;obtain⟨t,u,v⟩:=i1 q i;exact⟨t,u,v.trans j⟩
def cH5{a:Type}(f:a->D){l:List a}{i:Int}(h0:0<=i)(d:i < (l.length:Int)):∃ c,atI (l.map f) i=some (f c)/\c∈l:=by
 obtain⟨c,b⟩:=aS2 (ys:=l) h0 d;exact⟨c,by rw[aC5,b];rfl,aY3 b⟩
def aG9{a:Type}(f:a->D)(l:List a)(lo hi:Option Int):∃ l':List a,Dv.bI7 (l.map f) lo hi=l'.map f/\l'.Sublist l:=
 ⟨(l.drop (HT.sIx (l.map f).length 0 lo)).take (HT.sIx (l.map f).length (l.map f).length hi-HT.sIx (l.map f).length 0 lo),by unfold Dv.bI7;rw[List.map_take,List.map_drop],(List.take_sublist _ _).trans (List.drop_sublist _ _)⟩
theorem uN:∀ (p:Str) (l:List Str),((p::l).Pairwise λa b=>¬ b.cps.toList < a.cps.toList)->risingS p l=true
 | p,[],_=>rfl
 | p,x::r,h=>by
   obtain⟨c,d⟩:=a1e.mp h;show(!ltCps x.cps.toList p.cps.toList&&risingS x r)=true;rw[a7d,Bool.not_eq_true',ltCps_eq];exact⟨a2o (c x a3a),uN x r d⟩
def cO1(zs:List Str):(sS zs).Perm zs:=by
 have h:∃ l:List Str,l.Perm zs/\sortedS l=true:=by
  refine⟨zs.mergeSort λa b=>decide (¬ b.cps.toList < a.cps.toList),List.mergeSort_perm ..,?_⟩;have:=List.pairwise_mergeSort (le:=λa b:Str=>decide (¬ b.cps.toList < a.cps.toList)) (λa b c d e=>by
   have d:a.cps.toList<=b.cps.toList:=of_decide_eq_true d;have e:b.cps.toList<=c.cps.toList:=of_decide_eq_true e;exact a2q (List.le_trans d e)) (λa b=>by
   rcases List.le_total a.cps.toList b.cps.toList with h | h;rw[Bool.or_eq_true];exact .inl (a2q h);rw[Bool.or_eq_true];exact .inr (a2q h)) zs
  have:=this.imp (S:=λa b:Str=>¬ b.cps.toList < a.cps.toList) λh=>of_decide_eq_true h;generalize (zs.mergeSort λa b=>decide (¬ b.cps.toList < a.cps.toList))=l at this;cases l with
  | nil=>rfl
  | cons x r=>exact uN x r this
 exact(Classical.epsilon_spec h).1
theorem cT5{d:D}{r:Sg}:lendO (some 0) (some ⟨.own,d⟩::r)=some ⟨.lent,d⟩::r:=rfl
theorem cT6{d:D}{r:Sg}:lendO (some 0) (some ⟨.par,d⟩::r)=some ⟨.lent,d⟩::r:=rfl
theorem cT7{d:D}{r:Sg}:lendO (some 0) (some ⟨.val,d⟩::r)=some ⟨.val,d⟩::r:=rfl
theorem cT8{d:D}{r:Sg}:lendO (some 0) (some ⟨.lent,d⟩::r)=some ⟨.lent,d⟩::r:=rfl
theorem cT9{i:Nat}{o:Option Sl}{r:Sg}:lendO (some (i+1)) (o::r)=o::lendO (some i) r:=by
 show lend (i+1) (o::r)=o::lend i r;unfold lend;rw[a5c];generalize r[i]? = x
 match x with
 | none=>rfl
 | some none=>rfl
 | some (some ⟨.own,_⟩)=>rfl
 | some (some ⟨.par,_⟩)=>rfl
 | some (some ⟨.val,_⟩)=>rfl
 | some (some ⟨.lent,_⟩)=>rfl
theorem cU0{d e:D}{m:Md}{a r:Sg}:vK (some 0) (some ⟨.own,e⟩::a) (some ⟨m,d⟩::r)=some ⟨.own,d⟩::r:=rfl
theorem cU1{d e:D}{m:Md}{a r:Sg}:vK (some 0) (some ⟨.par,e⟩::a) (some ⟨m,d⟩::r)=some ⟨.par,d⟩::r:=rfl
theorem cU2{d e:D}{m:Md}{a r:Sg}:vK (some 0) (some ⟨.val,e⟩::a) (some ⟨m,d⟩::r)=some ⟨m,d⟩::r:=rfl
theorem cU3{d e:D}{m:Md}{a r:Sg}:vK (some 0) (some ⟨.lent,e⟩::a) (some ⟨m,d⟩::r)=some ⟨m,d⟩::r:=rfl
theorem cU4{i:Nat}{o o':Option Sl}{a r:Sg}:vK (some (i+1)) (o::a) (o'::r)=o'::vK (some i) a r:=by
 show unl (i+1) (o::a) (o'::r)=o'::unl i a r;unfold unl;rw[a5c,a5c];generalize a[i]? = x;generalize r[i]? = y
 match x,y with
 | none,_=>rfl
 | some none,_=>rfl
 | some (some _),none=>rfl
 | some (some _),some none=>rfl
 | some (some ⟨.own,_⟩),some (some _)=>rfl
 | some (some ⟨.par,_⟩),some (some _)=>rfl
 | some (some ⟨.val,_⟩),some (some _)=>rfl
 | some (some ⟨.lent,_⟩),some (some _)=>rfl
theorem cU5{i:Nat}{σ a:Sg}:vM (some i) σ (.nx a)=.nx (vK (some i) σ a):=rfl
theorem cU6{i:Nat}{σ a:Sg}{x:Res}:vM (some i) σ (.rt x a)=.rt x (vK (some i) σ a):=rfl
structure Gd(A B C X:Tb):Prop where
 m:∀ z,z∈X.cs↔z∈A.cs\/z∈B.cs\/z∈C.cs
 s:∀ f,X.sm f↔A.sm f/\B.sm f/\C.sm f
 z:sz X 18 512
def bL9{A B C X:Tb}(e:sz A 6 8)(g:sz B 6 8)(i:sz C 6 8)(h:X∈bV5 A B C):Gd A B C X:=by
 unfold bV5 at h;simp only[List.mem_cons,List.not_mem_nil,or_false]at h;have a:∀ {P Q R:Tb},sz P 6 8->sz Q 6 8->sz R 6 8->sz ((P.J Q).J R) 18 512/\sz (P.J (Q.J R)) 18 512:=λb c d=>⟨szJ (sz2 b c) d (by decide),szJ b (sz2 c d) (by decide)⟩;rcases h with rfl | rfl | rfl | rfl | rfl | rfl | rfl | rfl | rfl | rfl | rfl | rfl
 all_goals
  refine⟨λz=>?_,λf=>?_,?_⟩;simp only[Tb.J_mem,or_comm,or_left_comm,or_assoc];simp only[Tb.J_sm,and_comm,and_left_comm,and_assoc]
  ·first | exact(a (by assumption) (by assumption) (by assumption)).1 | exact(a (by assumption) (by assumption) (by assumption)).2
def Gd.perm{A B C X Y:Tb}(h:Gd A B C X)(k:Gd A B C Y):X.cs.Perm Y.cs:=(List.perm_ext_iff_of_nodup X.nd Y.nd).mpr λz=>(h.m z).trans (k.m z).symm
def Gd.cut{A B C X Y:Tb}(h:Gd A B C X)(k:Gd A B C Y):X.C Y.cs Y.nd (λz hz=>(h.m z).mpr ((k.m z).mp hz))=Y:=Tb.cut_all (λz=>(h.m z).trans (k.m z).symm) λf=>(h.s f).trans (k.s f).symm
def bA0{A B:Tb}(a:A.cs.length<=20)(b:A.ks.length<=600)(c:B.ks.length<=600){K:Res->List Sl->Prop}(k:K (.val (A.T B).d) [⟨.val,A.d⟩,⟨.val,B.d⟩]):CK aZ [⟨.val,A.d⟩,⟨.val,B.d⟩] K:=
 aP8 a A.tx B.tx b c A.ln B.ln k
def bW4{A:Tb}{so:List Str}(nd:so.Nodup)(hs:∀ z∈so,z∈A.cs)(a:so.length<=100)(b:A.ks.length<=600){K:Res->List Sl->Prop}(k:K (.val (A.C so nd hs).d) [⟨.val,A.d⟩,⟨.val,.tup (so.map D.str)⟩]):CK eU [⟨.val,A.d⟩,⟨.val,.tup (so.map D.str)⟩] K:=
 cH2 A.ln hs a b k
def cH6{A:Tb}{z:Str}{v:Int}(hz:z∈A.cs)(a:A.ks.length<=600){K:Res->List Sl->Prop}(k:K (.val (A.Kp z v).d) [⟨.val,A.d⟩,⟨.val,.str z⟩,⟨.val,.int v⟩]):CK gJ [⟨.val,A.d⟩,⟨.val,.str z⟩,⟨.val,.int v⟩] K:=
 bV3 A.ln hz a k
def bA1{cs:List Str}{ks:List (List Int)}(b:∀ z∈cs,Tx z):eP (tD cs ks)=true:=by
 refine(Ok.tup (n:=3) λd h=>?_).cmp (by decide);rcases a9b.mp h with rfl | h;exact⟨(Ok.tup (n:=2) λd h=>by obtain⟨z,a,rfl⟩:=a7f.mp h;exact Ok.str (b z a).2).smp,(Ok.tup (n:=2) λd h=>by obtain⟨z,a,rfl⟩:=a7f.mp h;exact Ok.str (b z a).2).dep⟩;rw[a7b]at h;subst h;have:Ok 2 (.tup (ks.map tI)):=Ok.tup λd h=>by obtain⟨z,a,rfl⟩:=a7f.mp h;exact okI z
 exact⟨this.smp,a0b this.dep (by decide)⟩
def eqT{neg:Bool}{A B:Tb}(h:A=B){K:Res->Prop}(k:K (.val (.bl (!neg)))):OK1 (eqD neg A.d B.d) K:=by
 subst h;exact xJ (bA1 A.tx) k
def eqS{neg:Bool}{l m:List Str}(h:l.Perm m)(a:∀ z∈m,Tx z){K:Res->Prop}(k:K (.val (.bl (!neg)))):OK1 (eqD neg (.lst ((sS l).map D.str)) (.lst ((sS m).map D.str))) K:=by
 rw[bT9 h];exact xJ (sO λz b=>(a z ((cO1 m).mem_iff.mp b)).2) k
end Mr
namespace Mr
open PySem L2 Dv Sx
local macro_rules | `(tactic| walk_at "dx")=>do
 let l:=("aX9 cH4 aL2 aG7 aZ7 aL9 aM0 aL8 uE bI9 mU mV mW mX mY mZ nA nB nD nE nF nG nH nJ nK nM yO iE iF nN nO iG iH iI nP nQ yP nU nV yQ nW nX nY nZ oA oB iJ iK oC oE oF oG oH iL oJ iM oK oM oN oO oP oQ oR oS iN iO oU oV oW oX oY oZ pA pB pC pD yR iP eZ iQ pE iR pR pS pT pU pV pW pX pY pZ jL yS qA jA fC dO rW gG zX rY fE rH rJ rK rL rM rN rO rP qB jB jC jD qC qD qE qF qG yT yU yV yW qH qJ qK jE jF qL jG qM qN jH fA qO jI yX qI qP qQ qR qS yZ qT bJ1 qU uI kO uH uL wA wB wC qV bF qW qX qY qZ rA pF pG pH pI pJ pK pL pM pN iS iT iU iV pO pP pQ reduceIte".splitOn " ").toArray.map fun s=>Lean.mkIdent s.toName
 let m:=("aG2 List.getElem?_cons_succ List.getElem?_cons_zero Option.getD_some rB rC rD wY zA Int.reducePow Int.reduceNeg Int.reduceLT Int.reduceLE Nat.reducePow Nat.reduceLT Int.reduceToNat Nat.reduceLeDiff rG cT5 cT6 cT7 cT8 cT9 cU0 cU1 cU2 cU3 cU4 cU5 cU6 rE zB rF iW iX iY iZ List.set_cons_zero List.set_cons_succ cE aD5 List.length_cons List.length_nil Nat.reduceAdd Nat.zero_add true_and and_true and_self Bool.not_false Bool.not_true Bool.false_eq_true Bool.true_and Bool.and_true Bool.or_false decide_eq_true_eq".splitOn " ").toArray.map fun s=>Lean.mkIdent s.toName
 `(tactic| simp only[$[↓$l:ident],*,$[$m:ident],*])
def bG2(ns:List Int)(hn:ns.length<=63):∃ as',mH [⟨.val,.lst (ns.map D.int)⟩]=some (.val (.bl true),as'):=by
 suffices CK mH [⟨.val,.lst (ns.map D.int)⟩] λr as'=>r=.val (.bl true) by
  obtain⟨⟨r,as'⟩,e,rfl⟩:=eC.mp this;exact⟨as',e⟩
 unfold mH;rw[dM];show RS aA4 [_,none,none,none,none,none,none,none,none,none,none,none,none,none,none,none] _;unfold aA4;walk_at "dx";refine bL0 (by decide) (by decide) λa b=>?_;walk_at "dx";refine bG1 λx u y z1 z0 z2=>?_;walk_at "dx";refine⟨by decide,?_⟩;refine tZ (λi τ=>∃ (g:List Tb) (a b:Int) (E K:Bool) (F L:D),g.length=i/\(∀ T∈g,sz T 6 8)/\τ=[some ⟨.val,.lst (ns.map D.int)⟩,some ⟨.own,.lst [.int a,.int b]⟩,some ⟨.own,.lst (x.map D.str)⟩,some ⟨.own,.lst (g.map Tb.d)⟩,ov E F,ov K L,none,none,none,none,none,none,none,none,none,none]) ⟨[],_,_,false,false,.non,.non,rfl,by simp,rfl⟩ ?_ ?_
 ·rintro i d τ hd ⟨g,a,b,E,K,F,L,G,k,rfl⟩;obtain⟨hi,rfl⟩:=sN hd;walk_at "dx";refine⟨by decide,aL3 (xs:=x.map D.str) (.inl ⟨rfl,rfl⟩) (by rw[a8a];lia) λys o v t=>?_⟩;obtain⟨l,rfl,pl⟩:=aM2 D.str t x rfl;walk_at "dx";refine bP (by decide) (by decide) λe a3 b3 e0 e1=>?_;walk_at "dx";obtain⟨cs,ec,sc⟩:=aG9 D.str l none (some e);rw[ec];have M:cs.Nodup:=(pl.nodup_iff.mpr z0).sublist sc;have N:∀ z∈cs,Tx z:=λz h=>z2 z (pl.mem_iff.mp (sc.subset h));have O:cs.length<=6:=by have:=sc.length_le;have:=pl.length_eq;lia
  refine bL0 (n:=1+(0+(i:Int))) (by lia) (by lia) λa4 b4'=>?_;walk_at "dx";refine bU7 (by lia) λks a5 b5' k1 k2 k3=>?_;walk_at "dx";have tl:(List.map Tb.d g).length < sizeLine:=by rw[a8a];exact a8f (by lia:g.length<=100) (by decide)
  refine⟨by decide,tl,_,.inl rfl,g++[⟨cs,ks,M,N,k2,k3⟩],_,_,true,true,_,_,by rw[a9a,G];rfl,λT hT=>?_,by rw[a5d];rfl⟩;rcases a1c.mp hT with h | h;exact k T h;rw[a7b]at h;subst h;exact⟨O,k1⟩
 ·rintro σ' ⟨g,a,b0,E,K,F,L,G,k,rfl⟩;rw[eV]at G;obtain⟨A,B,C,rfl⟩:∃ A B C,g=[A,B,C]:=by
   match g,G with
   | [A,B,C],_=>exact⟨A,B,C,rfl⟩
  have f:=k A (by simp);have j:=k B (by simp);have P:=k C (by simp);rw[show[A,B,C].map Tb.d=[A.d,B.d,C.d]from rfl];walk_at "dx";refine aZ9 f j P ?_;walk_at "dx";have H:Gd A B C ((A.J B).J C):=bL9 f j P (by unfold bV5;simp);have at0:atI (List.map Tb.d (bV5 A B C)) 0=some ((A.J B).J C).d:=rfl;rw[at0];walk_at "dx";have ex:sz ((A.J B).J C) 18 512:=H.z;have Jt:=((A.J B).J C).tx;refine tZ (λi τ=>∃ b d,τ=[some ⟨.val,.lst (ns.map D.int)⟩,some ⟨.own,.lst [.int a,.int b0]⟩,some ⟨.own,.lst (x.map D.str)⟩,some ⟨.val,.lst [A.d,B.d,C.d]⟩,ov E F,some ⟨.val,.tup (((A.J B).J C).cs.map D.str)⟩,some ⟨.val,A.d⟩,some ⟨.val,B.d⟩,some ⟨.val,C.d⟩,some ⟨.lent,.lst ((bV5 A B C).map Tb.d)⟩,ov b d,none,none,none,none,none]) ⟨false,.non,rfl⟩ ?_ ?_;rintro i d τ hd ⟨b,d',rfl⟩;rw[a2c]at hd;obtain⟨X,hX,rfl⟩:=a9c.mp hd;have I:=bL9 f j P (a4c hX);have xl:=I.z;walk_at "dx";refine⟨a8f xl.1 (by decide),a8f ex.1 (by decide),?_⟩;refine eqS (I.perm H) Jt ?_;walk_at "dx";refine bW4 ((A.J B).J C).nd (λz k=>(I.m z).mpr ((H.m z).mp k)) (a0b ex.1 (by decide)) (a0b xl.2 (by decide)) ?_;walk_at "dx";rw[at0];walk_at "dx";refine eqT (I.cut H) ?_;walk_at "dx";exact⟨_,.inl rfl,true,_,rfl⟩;rintro σ' ⟨bq,dq,rfl⟩;walk_at "dx";have s2:=sz2 f j;have u:A.cs.length<=20:=a0b f.1 (by decide);have y:B.cs.length<=20:=a0b j.1 (by decide);have o:A.ks.length<=600:=a0b f.2 (by decide);have v:B.ks.length<=600:=a0b j.2 (by decide);have Q:(A.J B).ks.length<=600:=a0b s2.2 (by decide);have R:((A.J B).J C).ks.length<=600:=a0b ex.2 (by decide);have tA:sz (A.T B) 6 8:=⟨f.1,a0b (List.length_filter_le _ _) f.2⟩;have tB:sz (B.T A) 6 8:=⟨j.1,a0b (List.length_filter_le _ _) j.2⟩;refine uM 6 8 6 8 f j (by decide) ?_;walk_at "dx";refine bA0 u o v ?_;walk_at "dx";refine bW4 A.nd (λz h=>Tb.J_mem.mpr (.inl h)) (a0b u (by decide)) Q ?_;walk_at "dx";refine eqT Tb.thin_cut.symm ?_;walk_at "dx";refine bA0 y v o ?_;walk_at "dx";refine bW4 B.nd (λz h=>Tb.J_mem.mpr (.inr h)) (a0b y (by decide)) Q ?_;walk_at "dx";refine eqT Tb.thin_cut2.symm ?_;walk_at "dx";refine bA0 u o v ?_;walk_at "dx";refine bA0 y v o ?_;walk_at "dx";refine uM 6 8 6 8 tA tB (by decide) ?_;walk_at "dx";refine eqT Tb.thin_both ?_;walk_at "dx";refine uM 12 64 6 8 s2 f (by decide) ?_;walk_at "dx";refine eqT Tb.again ?_;walk_at "dx";split
  case' isTrue t=>
   rw[a8a]at t ⊢;refine bP t (by lia) λe1 a6 b6 S V=>?_;obtain⟨c,hc,W⟩:=cH5 D.str (l:=A.cs) S V;walk_at "dx";rw[hc];walk_at "dx";refine⟨by decide,bP (by decide) (by decide) λe3 a7 b7 Y Z=>?_⟩;obtain⟨m,hm,m0,m1⟩:=aY7 Y Z;walk_at "dx";rw[hm];walk_at "dx";refine bP m0 (by lia) λe4 a8 b8 e40 e41=>?_;walk_at "dx";refine cH6 W o ?_;walk_at "dx";have kA:sz (A.Kp c e4) 6 8:=⟨f.1,a0b (List.length_filter_le _ _) f.2⟩;refine uM 6 8 6 8 kA j (by decide) ?_;walk_at "dx";refine cH6 (Tb.J_mem.mpr (.inl W)) Q ?_;walk_at "dx";refine eqT (Tb.kept_both W) ?_;walk_at "dx"
  all_goals
   refine aL3 (xs:=((A.J B).J C).cs.map D.str) (.inr ⟨rfl,rfl⟩) (by rw[a8a];exact a0b ex.1 (by decide)) λys a9 b9 t=>?_;obtain⟨l,rfl,pl⟩:=aM2 D.str t ((A.J B).J C).cs rfl;walk_at "dx";rw[a8a];have el:=ex.1;refine bP (by lia) (by lia) λf1 a10 b10 f10 f11=>?_;walk_at "dx";obtain⟨so,es,ss⟩:=aG9 D.str l none (some f1);rw[es];have p:so.Nodup:=(pl.nodup_iff.mpr ((A.J B).J C).nd).sublist ss;have q:∀ z∈so,z∈((A.J B).J C).cs:=λz h=>pl.mem_iff.mp (ss.subset h);have lso:so.length<=18:=by have:=ss.length_le;have:=pl.length_eq;lia
   rw[a8a];refine bP (by lia) (by lia) λf2 a11 b11 f20 f21=>?_;walk_at "dx";obtain⟨fe,ef,sf⟩:=aG9 D.str so none (some f2);rw[ef];have w:fe.Nodup:=p.sublist sf;have s:∀ z∈fe,z∈so:=λz h=>sf.subset h;have lfe:fe.length<=18:=by have:=sf.length_le;lia
   rw[at0];walk_at "dx";refine bW4 p q (by lia) R ?_;walk_at "dx";have c2:(((A.J B).J C).C so p q).ks.length<=600:=a0b (uC _) (by rw[a8a];exact R);refine bW4 w s (by lia) c2 ?_;walk_at "dx";rw[at0];walk_at "dx";refine bW4 w (λz h=>q z (s z h)) (by lia) R ?_;walk_at "dx";refine eqT (Tb.cut_cut s) ?_;walk_at "dx";have uT:sz (Tb.U true) 0 1:=⟨a7a _,a7a _⟩;have uF:sz (Tb.U false) 0 0:=⟨a7a _,a7a _⟩;have dT:D.tup [D.tup [],D.tup [D.tup []]]=(Tb.U true).d:=rfl;have dF:D.tup [D.tup [],D.tup []]=(Tb.U false).d:=rfl;have nR:(A.J (Tb.U false)).d=tD A.cs []:=by unfold Tb.d;rw[Tb.no_r.1,Tb.no_r.2]
   have nT:(A.T (Tb.U false)).d=tD A.cs []:=by unfold Tb.d;rw[Tb.no_t];rfl
   rw[dT];refine⟨by decide,by decide,by decide,by decide,uM 6 8 0 1 f uT (by decide) ?_⟩;walk_at "dx";refine eqT Tb.unit_r ?_;walk_at "dx";refine⟨by decide,by decide,by decide,by decide,uM 0 1 6 8 uT f (by decide) ?_⟩;walk_at "dx";refine eqT Tb.unit_l ?_;walk_at "dx";rw[dF];refine⟨by decide,by decide,by decide,uM 6 8 0 0 f uF (by decide) ?_⟩;walk_at "dx";rw[nR];refine⟨by decide,by decide,xJ (d:=tD A.cs []) (bA1 A.tx) ?_⟩;walk_at "dx";refine⟨by decide,by decide,by decide,bA0 u o (a3d _) ?_⟩;walk_at "dx";rw[nT];refine⟨by decide,by decide,xJ (d:=tD A.cs []) (bA1 A.tx) ?_⟩;walk_at "dx"
end Mr
namespace Mr
open PySem L2 Dv
noncomputable def adr:Adr:=⟨70,Hd.bX4,77,Hd.bX5,89,Hd.bX7,84,Hd.bX6,94,Hd.bX8,46,Hd.bX0,31,Hd.bW7,26,Hd.bW6,53,Hd.bX1,21,Hd.bW5,58,Hd.bX2,108,Hd.bG4,36,Hd.bW8,63,Hd.bX3,41,Hd.bW9,115,Hd.aH0⟩
def aB3{K:W.Frag}{x q:Str}{s:Stmt}{f:Addr}{fd:FuncData}(m:Value)(c:Addr)(e:fd=W.fnOf x q (aC2 s) (lQ s) (aS s) .none .none .none m none (.ref c) .none)(l:K.lookup f=some ⟨.type "function",none,.func fd,#[]⟩)(d:W.codeIn K (.ref c) q=true)(k:W.keepIn K (.ref f)=true):Fun K x q s f fd:=⟨⟨_,_,_,_,_,_,_,_,_,e,l,d⟩,k⟩
def txt{P:Params}{h:Heap}{mg:Str->Option Value}(X:(Hd.KF P).In h)(G:h.Ns mainGlobals mg):Txt (Hd.KF P) mg adr:=⟨a6e X G (by kernel_rfl),
aB3 (.str "law_mostrows_k16_whole_joins_of_three" 252) 69 (by kernel_rfl) (by kernel_rfl) (by kernel_rfl) (by kernel_rfl),
a6e X G (by kernel_rfl),
aB3 (.str "law_mostrows_k16_whole_joins_of_three" 252) 76 (by kernel_rfl) (by kernel_rfl) (by kernel_rfl) (by kernel_rfl),
a6e X G (by kernel_rfl),
aB3 (.str "law_mostrows_k16_whole_joins_of_three" 252) 88 (by kernel_rfl) (by kernel_rfl) (by kernel_rfl) (by kernel_rfl),
a6e X G (by kernel_rfl),
aB3 (.str "law_mostrows_k16_whole_joins_of_three" 252) 83 (by kernel_rfl) (by kernel_rfl) (by kernel_rfl) (by kernel_rfl),
a6e X G (by kernel_rfl),
aB3 (.str "law_mostrows_k16_whole_joins_of_three" 252) 93 (by kernel_rfl) (by kernel_rfl) (by kernel_rfl) (by kernel_rfl),
a6e X G (by kernel_rfl),
aB3 (.str "mostrows.tables" 187) 45 (by kernel_rfl) (by kernel_rfl) (by kernel_rfl) (by kernel_rfl),
a6e X G (by kernel_rfl),
aB3 (.str "mostrows.tables" 187) 30 (by kernel_rfl) (by kernel_rfl) (by kernel_rfl) (by kernel_rfl),
a6e X G (by kernel_rfl),
aB3 (.str "mostrows.tables" 187) 25 (by kernel_rfl) (by kernel_rfl) (by kernel_rfl) (by kernel_rfl),
a6e X G (by kernel_rfl),
aB3 (.str "mostrows.tables" 187) 52 (by kernel_rfl) (by kernel_rfl) (by kernel_rfl) (by kernel_rfl),
a6e X G (by kernel_rfl),
aB3 (.str "mostrows.tables" 187) 20 (by kernel_rfl) (by kernel_rfl) (by kernel_rfl) (by kernel_rfl),
a6e X G (by kernel_rfl),
aB3 (.str "mostrows.tables" 187) 57 (by kernel_rfl) (by kernel_rfl) (by kernel_rfl) (by kernel_rfl),
a6e X G (by kernel_rfl),
aB3 (.str "law_mostrows_k16_whole_joins_of_three" 252) 107 (by kernel_rfl) (by kernel_rfl) (by kernel_rfl) (by kernel_rfl),
a6e X G (by kernel_rfl),
aB3 (.str "mostrows.tables" 187) 35 (by kernel_rfl) (by kernel_rfl) (by kernel_rfl) (by kernel_rfl),
a6e X G (by kernel_rfl),
aB3 (.str "mostrows.tables" 187) 62 (by kernel_rfl) (by kernel_rfl) (by kernel_rfl) (by kernel_rfl),
a6e X G (by kernel_rfl),
aB3 (.str "mostrows.tables" 187) 40 (by kernel_rfl) (by kernel_rfl) (by kernel_rfl) (by kernel_rfl),
a6e X G (by kernel_rfl),
aB3 (.str "law_mostrows_k16_whole_joins_of_three" 252) 114 (by kernel_rfl) (by kernel_rfl) (by kernel_rfl) (by kernel_rfl),
a9f X G (by kernel_rfl),
a9f X G (by kernel_rfl),
a9f X G (by kernel_rfl),
a9f X G (by kernel_rfl),
a9f X G (by kernel_rfl),
a9f X G (by kernel_rfl),
a9f X G (by kernel_rfl)⟩
def cH7{P:Program}{w:World}{mg:Str->Option Value}{base:Heap}(T:Txt (Hd.KF w.params) mg adr):FnOk P w (Hd.KF w.params) mg base CX0 5 115 Hd.aH0 ["_law_script"] (dsp 1 mH):=by
 have h:=aP6 (P:=P) (w:=w) (base:=base) T;have a:=aF9 (P:=P) (w:=w) (base:=base) T;have i:=aA5 (P:=P) (w:=w) (base:=base) T a;have j:=aA6 (P:=P) (w:=w) (base:=base) T a;have k:=aG0 (P:=P) (w:=w) (base:=base) T a;have d:=mI (P:=P) (w:=w) (base:=base) T;have b:=aY0 (P:=P) (w:=w) (base:=base) T;have c:=aA7 (P:=P) (w:=w) (base:=base) T;have e:=aP7 (P:=P) (w:=w) (base:=base) T b c;have f:=aG1 (P:=P) (w:=w) (base:=base) T;have g:=aY1 (P:=P) (w:=w) (base:=base) T d e c b f;have l:=xH (P:=P) (w:=w) (base:=base) T g;have m:=cG2 (P:=P) (w:=w) (base:=base) T c f b;have n:=xI (P:=P) (w:=w) (base:=base) T d e c b;have o:=bU4 (P:=P) (w:=w) (base:=base) T;have p:=cG3 (P:=P) (w:=w) (base:=base) T h i j a k l m g n o;exact p
def bG3:W.WalkO Hd.Vw [] (W.XL Hd.Vw []) (W.InK Hd.KF) PySem.Challenge.rw_mostrows_k16_whole_joins_of_three.row.toRowW Hd.cI8 [] (λf vs=>PySem.call f vs):=by
 refine L2.bN8 (l:=PySem.Challenge.rw_mostrows_k16_whole_joins_of_three) (K:=Hd.KF) (n:=63) (k:=5) (x:="_law_script") (CX:=λ_=>CX0) (sp:=λw=>dsp 1 mH) rfl (by decide) (by kernel_rfl) ⟨rfl,by decide,by decide⟩ (λw h Y=>Y) (λw mg i h X G e=>?_) (λw _ a ns b c d=>aU9 (by kernel_rfl) c d (bG2 ns b)) λ_ _ _ _ _ z=>z;have T:=txt X G;have g:=T.a1W.symm.trans e;cases g;exact⟨Hd.aH0,λs v=>.of_eq (by kernel_rfl),λbase _ _=>cH7 T⟩
end Mr
open PySem PySem.W PyProof.Rows
theorem PySem.Challenge.cw_mostrows_k16_whole_joins_of_three_holds : PySem.Challenge.rw_mostrows_k16_whole_joins_of_three.Holds :=
 Hd.cQ1 Mr.bG3
#print axioms PySem.Challenge.cw_mostrows_k16_whole_joins_of_three_holds
