import PyProof.Rows.All
import Wide.All
import OpenK.AllK
import Wide.FinOn
import Lean
import PyProof.EqAt
import PyProof.EqKinds
import PyProof.TupleCall
import PyProof.StationsW
import PyProof.RulesAs
import PyProof.ExcClass2
import PyProof.Rows.Exc
import OpenK.KMake
import PyProof.InstStoreFacts
import OpenK.KCls
import PyProof.ExcArgsOwn
import PyProof.ExcAttrAll.ValueError
import PyProof.FitsInt
import PyProof.FString
import PyProof.FString4
import PyProof.StrLawsRepr
import PyProof.NsDelKeeps
import PyProof.NoPylong
import PyProof.FitsBits
import PyProof.Rows.RuleM_int
import PyProof.P3In
import PyProof.NeData
import PyProof.Draws
import PyProof.ZipIter
import PyProof.EnumMake
import PySem.SetOps
import PyProof.SetScanFacts
import PyProof.WalksMore
import PyProof.SetNew
import PyProof.SetKind
import PyProof.Rows.SetFrom
import PyProof.TupleKey
import PyProof.IsRules
import PyProof.SetRoads
import PyProof.ListMulRoad
import PyProof.Rows.ListMulArg
import PySem.Challenge.RW_mostrows_k50_tables_that_agree
set_option Elab.async false
set_option linter.all false
set_option maxRecDepth 100000
set_option maxHeartbeats 4000000
namespace Hd
open PySem PySem.W
def top(i:Nat):Stmt:=PySem.Challenge.pw_mostrows_k50_tables_that_agree.main.body.getD i (.Pass ⟨0,0,0,0⟩)
def kG(x q:Str)(s:Stmt)(m:Value)(c:Addr):FuncData:=match s with
 | .FunctionDef _ a b _ _ _ e _ _ _=>fnOf x q a b e .none .none .none m none (.ref c) .none
 | _=>default
def dB4:DefRec:=match top 29 with
 | .FunctionDef n a b _ _ _ e _ _ p=>⟨n,a,b,e,p⟩
 | _=>⟨"",default,[],default,default⟩
noncomputable def kE(P:Params)(x:Str)(t:Tok)(v:Value):DictEntry:=⟨PyData.keyHash P x,.str x t,v⟩
noncomputable def kT(l:List Value):Obj:=⟨.type "tuple",none,.seq l.toArray 0,#[]⟩
noncomputable def kF(f:FuncData):Obj:=⟨.type "function",none,.func f,#[]⟩
noncomputable def cL8:=kG "table_of" "table_of" (top 1) (.str "mostrows.tables" 187) 20
noncomputable def cL9:=kG "places_of" "places_of" (top 2) (.str "mostrows.tables" 187) 25
noncomputable def cM0:=kG "picked" "picked" (top 3) (.str "mostrows.tables" 187) 30
noncomputable def cM1:=kG "cut" "cut" (top 4) (.str "mostrows.tables" 187) 35
noncomputable def cM2:=kG "common_columns" "common_columns" (top 5) (.str "mostrows.tables" 187) 40
noncomputable def cM3:=kG "tables_of" "tables_of" (top 7) (.str "mostrows.houses" 221) 45
noncomputable def cM4:=kG "agree_both" "agree_both" (top 9) (.str "mostrows.agreeing" 229) 52
noncomputable def cM5:=kG "agree" "agree" (top 10) (.str "mostrows.agreeing" 229) 57
noncomputable def cM6:=kG "_law_box" "_law_box" (top 12) (.str "law_mostrows_k50_tables_that_agree" 246) 64
noncomputable def cM7:=kG "_law_take" "_law_take" (top 13) (.str "law_mostrows_k50_tables_that_agree" 246) 71
noncomputable def cM8:=kG "_law_names" "_law_names" (top 14) (.str "law_mostrows_k50_tables_that_agree" 246) 76
noncomputable def cM9:=kG "_law_shuffled" "_law_shuffled" (top 15) (.str "law_mostrows_k50_tables_that_agree" 246) 83
noncomputable def cN0:=kG "_law_some" "_law_some" (top 16) (.str "law_mostrows_k50_tables_that_agree" 246) 90
noncomputable def cN1:=kG "_law_plain_sets" "_law_plain_sets" (top 17) (.str "law_mostrows_k50_tables_that_agree" 246) 95
noncomputable def bS5:=kG "_law_round_sets" "_law_round_sets" (top 18) (.str "law_mostrows_k50_tables_that_agree" 246) 100
noncomputable def bS6:=kG "_law_question" "_law_question" (top 19) (.str "law_mostrows_k50_tables_that_agree" 246) 105
noncomputable def bS7:=kG "_law_columns" "_law_columns" (top 20) (.str "law_mostrows_k50_tables_that_agree" 246) 110
noncomputable def bS8:=kG "_law_cut" "_law_cut" (top 22) (.str "law_mostrows_k50_tables_that_agree" 246) 120
noncomputable def bS9:=kG "_law_agree" "_law_agree" (top 23) (.str "law_mostrows_k50_tables_that_agree" 246) 125
noncomputable def bT0:=kG "_law_value" "_law_value" (top 24) (.str "law_mostrows_k50_tables_that_agree" 246) 132
noncomputable def bT1:=kG "_law_rows_over" "_law_rows_over" (top 25) (.str "law_mostrows_k50_tables_that_agree" 246) 137
noncomputable def bT2:=kG "_law_house" "_law_house" (top 26) (.str "law_mostrows_k50_tables_that_agree" 246) 144
noncomputable def bT3:=kG "_law_changed" "_law_changed" (top 27) (.str "law_mostrows_k50_tables_that_agree" 246) 151
noncomputable def bT4:=kG "_law_truth" "_law_truth" (top 28) (.str "law_mostrows_k50_tables_that_agree" 246) 158
noncomputable def zY:=kG "law" "law" (top 29) (.str "law_mostrows_k50_tables_that_agree" 246) 165
noncomputable def kC(x:Str)(a:Tok)(q:Str)(b c:Tok)(d e f:Int)(g:Addr)(h:Int)(i j k l:Addr)(m n:Int)(o:Tok):Obj:=⟨.type "code",none,.fields #[.str x a,.str q b,.str "/claim/cut.py" c,.int d 0,.int e 0,.int 0 0,.int 0 0,.int f 0,.ref g,.bool true,.int h 0,.ref i,.none,.ref j,.ref k,.ref l,.int m 0,.int n 0,.str "/claim/cut.py" o],#[]⟩
noncomputable def KF(P:Params):PySem.W.Frag:=[
(2,⟨.none,none,(.dict #[] 0),#[]⟩),
(3,⟨(.type "dict"),none,(.dict #[kE P "__name__" 165 (.str "law_mostrows_k50_tables_that_agree" 246),kE P "__doc__" 166 .none,kE P "__package__" 167 .none,kE P "__loader__" 168 (.builtin "__main__.__loader__#opaque"),kE P "__spec__" 169 .none,kE P "__annotations__" 170 (.ref 6),kE P "__builtins__" 171 (.ref 4),kE P "__file__" 173 (.str "/claim/cut.py" 172),kE P "__cached__" 174 .none,kE P "table_of" 196 (.ref 21),kE P "places_of" 202 (.ref 26),kE P "picked" 208 (.ref 31),kE P "cut" 214 (.ref 36),kE P "common_columns" 220 (.ref 41),kE P "tables_of" 228 (.ref 46),kE P "agree_both" 239 (.ref 53),kE P "agree" 245 (.ref 58),kE P "_law_box" 257 (.ref 65),kE P "_law_take" 267 (.ref 72),kE P "_law_names" 273 (.ref 77),kE P "_law_shuffled" 283 (.ref 84),kE P "_law_some" 291 (.ref 91),kE P "_law_plain_sets" 297 (.ref 96),kE P "_law_round_sets" 303 (.ref 101),kE P "_law_question" 309 (.ref 106),kE P "_law_columns" 315 (.ref 111),kE P "_law_holders" 321 (.ref 116),kE P "_law_cut" 327 (.ref 121),kE P "_law_agree" 333 (.ref 126),kE P "_law_value" 342 (.ref 133),kE P "_law_rows_over" 348 (.ref 138),kE P "_law_house" 362 (.ref 145),kE P "_law_changed" 377 (.ref 152),kE P "_law_truth" 385 (.ref 159),kE P "law" 399 (.ref 166)] 35),#[]⟩),
(15,kT []),
(17,kT [(.str "columns" 192),(.str "rows" 193)]),
(18,kT []),
(20,kC "table_of" 189 "table_of" 190 191 2 2 3 15 181 16 17 18 19 194 2 195),
(21,kF cL8),
(22,kT []),
(25,⟨(.type "code"),none,(.fields #[(.str "places_of" 197),(.str "places_of" 198),(.str "/claim/cut.py" 199),(.int 4 0),(.int 2 0),(.int 0 0),(.int 0 0),(.int 3 0),(.ref 22),(.bool true),(.int 181 0),(.ref 23),.none,.none,.none,(.ref 24),(.int 200 0),(.int 4 0),(.str "/claim/cut.py" 201)]),#[]⟩),
(26,kF cL9),
(27,kT []),
(30,⟨(.type "code"),none,(.fields #[(.str "picked" 203),(.str "picked" 204),(.str "/claim/cut.py" 205),(.int 6 0),(.int 2 0),(.int 0 0),(.int 0 0),(.int 3 0),(.ref 27),(.bool true),(.int 181 0),(.ref 28),.none,.none,.none,(.ref 29),(.int 206 0),(.int 6 0),(.str "/claim/cut.py" 207)]),#[]⟩),
(31,kF cM0),
(32,kT []),
(35,⟨(.type "code"),none,(.fields #[(.str "cut" 209),(.str "cut" 210),(.str "/claim/cut.py" 211),(.int 8 0),(.int 2 0),(.int 0 0),(.int 0 0),(.int 3 0),(.ref 32),(.bool true),(.int 181 0),(.ref 33),.none,.none,.none,(.ref 34),(.int 212 0),(.int 8 0),(.str "/claim/cut.py" 213)]),#[]⟩),
(36,kF cM1),
(37,kT []),
(40,⟨(.type "code"),none,(.fields #[(.str "common_columns" 215),(.str "common_columns" 216),(.str "/claim/cut.py" 217),(.int 11 0),(.int 2 0),(.int 0 0),(.int 0 0),(.int 3 0),(.ref 37),(.bool true),(.int 181 0),(.ref 38),.none,.none,.none,(.ref 39),(.int 218 0),(.int 11 0),(.str "/claim/cut.py" 219)]),#[]⟩),
(41,kF cM2),
(42,kT []),
(45,⟨(.type "code"),none,(.fields #[(.str "tables_of" 223),(.str "tables_of" 224),(.str "/claim/cut.py" 225),(.int 14 0),(.int 2 0),(.int 0 0),(.int 0 0),(.int 3 0),(.ref 42),(.bool true),(.int 181 0),(.ref 43),.none,.none,.none,(.ref 44),(.int 226 0),(.int 14 0),(.str "/claim/cut.py" 227)]),#[]⟩),
(46,kF cM3),
(47,kT []),
(49,kT [(.str "one" 234),(.str "other" 235),(.str "common" 236)]),
(50,kT []),
(52,kC "agree_both" 231 "agree_both" 232 233 17 2 3 47 181 48 49 50 51 237 17 238),
(53,kF cM4),
(54,kT []),
(57,⟨(.type "code"),none,(.fields #[(.str "agree" 240),(.str "agree" 241),(.str "/claim/cut.py" 242),(.int 20 0),(.int 2 0),(.int 0 0),(.int 0 0),(.int 3 0),(.ref 54),(.bool true),(.int 181 0),(.ref 55),.none,.none,.none,(.ref 56),(.int 243 0),(.int 20 0),(.str "/claim/cut.py" 244)]),#[]⟩),
(58,kF cM5),
(59,kT []),
(61,kT [(.str "_law_script" 251),(.str "_law_k" 252),(.str "_law_cell" 253),(.str "_law_seed" 254)]),
(62,kT []),
(64,kC "_law_box" 248 "_law_box" 249 250 27 2 3 59 181 60 61 62 63 255 27 256),
(65,kF cM6),
(66,kT []),
(68,kT [(.str "_law_box_here" 261),(.str "_law_many" 262),(.str "_law_digit" 263),(.str "_law_one" 264)]),
(69,kT []),
(71,kC "_law_take" 258 "_law_take" 259 260 35 2 3 66 181 67 68 69 70 265 35 266),
(72,kF cM7),
(73,kT []),
(76,⟨(.type "code"),none,(.fields #[(.str "_law_names" 268),(.str "_law_names" 269),(.str "/claim/cut.py" 270),(.int 43 0),(.int 2 0),(.int 0 0),(.int 0 0),(.int 3 0),(.ref 73),(.bool true),(.int 181 0),(.ref 74),.none,.none,.none,(.ref 75),(.int 271 0),(.int 43 0),(.str "/claim/cut.py" 272)]),#[]⟩),
(77,kF cM8),
(78,kT []),
(80,kT [(.str "_law_box_here" 277),(.str "_law_things" 278),(.str "_law_left" 279),(.str "_law_found" 280)]),
(81,kT []),
(83,kC "_law_shuffled" 274 "_law_shuffled" 275 276 57 2 3 78 181 79 80 81 82 281 57 282),
(84,kF cM9),
(85,kT []),
(87,kT [(.str "_law_box_here" 287),(.str "_law_things" 288)]),
(88,kT []),
(90,kC "_law_some" 284 "_law_some" 285 286 63 2 3 85 181 86 87 88 89 289 63 290),
(91,kF cN0),
(92,kT []),
(95,⟨(.type "code"),none,(.fields #[(.str "_law_plain_sets" 292),(.str "_law_plain_sets" 293),(.str "/claim/cut.py" 294),(.int 65 0),(.int 1 0),(.int 0 0),(.int 0 0),(.int 3 0),(.ref 92),(.bool true),(.int 181 0),(.ref 93),.none,.none,.none,(.ref 94),(.int 295 0),(.int 65 0),(.str "/claim/cut.py" 296)]),#[]⟩),
(96,kF cN1),
(97,kT []),
(100,⟨(.type "code"),none,(.fields #[(.str "_law_round_sets" 298),(.str "_law_round_sets" 299),(.str "/claim/cut.py" 300),(.int 81 0),(.int 1 0),(.int 0 0),(.int 0 0),(.int 3 0),(.ref 97),(.bool true),(.int 181 0),(.ref 98),.none,.none,.none,(.ref 99),(.int 301 0),(.int 81 0),(.str "/claim/cut.py" 302)]),#[]⟩),
(101,kF bS5),
(102,kT []),
(105,⟨(.type "code"),none,(.fields #[(.str "_law_question" 304),(.str "_law_question" 305),(.str "/claim/cut.py" 306),(.int 95 0),(.int 1 0),(.int 0 0),(.int 0 0),(.int 3 0),(.ref 102),(.bool true),(.int 181 0),(.ref 103),.none,.none,.none,(.ref 104),(.int 307 0),(.int 95 0),(.str "/claim/cut.py" 308)]),#[]⟩),
(106,kF bS6),
(107,kT []),
(110,⟨(.type "code"),none,(.fields #[(.str "_law_columns" 310),(.str "_law_columns" 311),(.str "/claim/cut.py" 312),(.int 109 0),(.int 1 0),(.int 0 0),(.int 0 0),(.int 3 0),(.ref 107),(.bool true),(.int 181 0),(.ref 108),.none,.none,.none,(.ref 109),(.int 313 0),(.int 109 0),(.str "/claim/cut.py" 314)]),#[]⟩),
(111,kF bS7),
(117,kT []),
(120,⟨(.type "code"),none,(.fields #[(.str "_law_cut" 322),(.str "_law_cut" 323),(.str "/claim/cut.py" 324),(.int 119 0),(.int 3 0),(.int 0 0),(.int 0 0),(.int 3 0),(.ref 117),(.bool true),(.int 181 0),(.ref 118),.none,.none,.none,(.ref 119),(.int 325 0),(.int 119 0),(.str "/claim/cut.py" 326)]),#[]⟩),
(121,kF bS8),
(122,kT []),
(125,⟨(.type "code"),none,(.fields #[(.str "_law_agree" 328),(.str "_law_agree" 329),(.str "/claim/cut.py" 330),(.int 122 0),(.int 2 0),(.int 0 0),(.int 0 0),(.int 3 0),(.ref 122),(.bool true),(.int 181 0),(.ref 123),.none,.none,.none,(.ref 124),(.int 331 0),(.int 122 0),(.str "/claim/cut.py" 332)]),#[]⟩),
(126,kF bS9),
(127,kT []),
(129,kT [(.str "_law_box_here" 337),(.str "_law_span" 338),(.str "_law_value_here" 339)]),
(130,kT []),
(132,kC "_law_value" 334 "_law_value" 335 336 130 2 3 127 181 128 129 130 131 340 130 341),
(133,kF bT0),
(134,kT []),
(137,⟨(.type "code"),none,(.fields #[(.str "_law_rows_over" 343),(.str "_law_rows_over" 344),(.str "/claim/cut.py" 345),(.int 135 0),(.int 2 0),(.int 0 0),(.int 0 0),(.int 3 0),(.ref 134),(.bool true),(.int 181 0),(.ref 135),.none,.none,.none,(.ref 136),(.int 346 0),(.int 135 0),(.str "/claim/cut.py" 347)]),#[]⟩),
(138,kF bT1),
(139,kT []),
(141,kT [(.str "_law_box_here" 352),(.str "_law_question_here" 353),(.str "_law_columns_here" 354),(.str "_law_rows" 355),(.str "_law_own" 356),(.str "_law_found" 357),(.str "_law_kt" 358),(.str "_law_some_here" 359)]),
(142,kT []),
(144,kC "_law_house" 349 "_law_house" 350 351 139 2 3 139 181 140 141 142 143 360 139 361),
(145,kF bT2),
(146,kT []),
(148,kT [(.str "_law_box_here" 366),(.str "_law_question_here" 367),(.str "_law_house_here" 368),(.str "_law_k" 369),(.str "_law_rows" 370),(.str "_law_way" 371),(.str "_law_at" 372),(.str "_law_fresh" 373),(.str "_law_spot" 374)]),
(149,kT []),
(151,kC "_law_changed" 363 "_law_changed" 364 365 149 3 3 146 181 147 148 149 150 375 149 376),
(152,kF bT3),
(153,kT []),
(155,kT [(.str "_law_found" 381),(.str "_law_due" 382)]),
(156,kT []),
(158,kC "_law_truth" 378 "_law_truth" 379 380 166 2 3 153 181 154 155 156 157 383 166 384),
(159,kF bT4),
(160,kT []),
(162,kT [(.str "_law_script" 389),(.str "_law_question_here" 390),(.str "_law_good" 391),(.str "_law_houses" 392),(.str "_law_k" 393),(.str "_law_box_here" 394),(.str "_law_other" 395),(.str "_law_house_here" 396)]),
(163,kT []),
(165,kC "law" 386 "law" 387 388 168 1 3 160 181 161 162 163 164 397 168 398),
(166,kF zY)]
noncomputable def Vw:Program:=view PySem.Challenge.pw_mostrows_k50_tables_that_agree [1,2,3,4,5,7,9,10,12,13,14,15,16,17,18,19,20,21,22,23,24,25,26,27,28,29]
theorem dJ6:PySem.Challenge.rw_mostrows_k50_tables_that_agree.wellSaid=true:=by kernel_rfl
theorem nY:LeftO PySem.Challenge.rw_mostrows_k50_tables_that_agree.row.prog Vw [] (fun s=>xlAt Vw [] s&&recOk (RowW.records PySem.Challenge.rw_mostrows_k50_tables_that_agree.row.toRowW) s) (fun s=>[2,3,15,17,18,20,21,22,25,26,27,30,31,32,35,36,37,40,41,42,45,46,47,49,50,52,53,54,57,58,59,61,62,64,65,66,68,69,71,72,73,76,77,78,80,81,83,84,85,87,88,90,91,92,95,96,97,100,101,102,105,106,107,110,111,117,120,121,122,125,126,127,129,130,132,133,134,137,138,139,141,142,144,145,146,148,149,151,152,153,155,156,158,159,160,162,163,165,166].map s.heap.get?) (fun w=>(KF w.params).map fun p=>some p.2) 1692:=fun w=>by kernel_rfl
theorem dJ7(h:WalkO Vw [] (XL Vw []) (InK KF) PySem.Challenge.rw_mostrows_k50_tables_that_agree.row.toRowW dB4 [] (fun f vs=>PySem.call f vs)):PySem.Challenge.rw_mostrows_k50_tables_that_agree.Holds:=
 holds_law dJ6 fun e=>holds_open (d:=dB4) (kwd:=[]) nY (InK.of fun _=>by kernel_rfl) InK.keeps (fun s e=>xl_of s (Bool.and_eq_true_iff.mp e).1) XL.keeps (by kernel_rfl) (by kernel_rfl) (by kernel_rfl) (fun s e=>recFacts_of (Bool.and_eq_true_iff.mp e).2) (by kernel_rfl) e (by kernel_rfl) ⟨rfl,rfl,rfl,rfl,rfl,by decide +kernel⟩ (by w_witness2) h
end Hd
namespace L2
open PySem PySem.Spec PyProof.Rows
abbrev Key:=Sum Int Str
def cN2:Key->Value->Bool
 | .inl k,v=>Value.isInt k v
 | .inr x,v=>Value.isStrOf x v
def dJ8(w:World):Key->Int
 | .inl k=>hashInt k
 | .inr x=>hashStr w x
theorem cR:∀ {k:Key} {v:Value},cN2 k v=true->(∃ i t,k=Sum.inl i/\v=Value.int i t)\/(∃ x t,k=Sum.inr x/\v=Value.str x t)
 | .inl i,v,h=>by
   obtain⟨t,e⟩:=Value.isInt_shape (k:=i) (v:=v) h
   exact .inl ⟨i,t,rfl,e⟩
 | .inr x,v,h=>by
   obtain⟨t,e⟩:=Value.isStrOf_shape (x:=x) (v:=v) h
   exact .inr ⟨x,t,rfl,e⟩
theorem cN3(a b:Int):decide ((Sum.inl a:Key)=Sum.inl b)=(a==b):=by
 by_cases e:a=b
 ·subst e;simp
 ·have h:¬ (Sum.inl a:Key)=Sum.inl b:=fun q=>e (Sum.inl.inj q)
  rw[decide_eq_false h]
  exact(beq_eq_false_iff_ne.mpr e).symm
theorem cN4(a b:Str):decide ((Sum.inr a:Key)=Sum.inr b)=decide (a=b):=by
 by_cases e:a=b
 ·subst e;simp
 ·have h:¬ (Sum.inr a:Key)=Sum.inr b:=fun q=>e (Sum.inr.inj q)
  rw[decide_eq_false h,decide_eq_false e]
theorem cN5(a:Int)(b:Str):decide ((Sum.inl a:Key)=Sum.inr b)=false:=decide_eq_false (fun q=>nomatch q)
theorem cN6(a:Str)(b:Int):decide ((Sum.inr a:Key)=Sum.inl b)=false:=decide_eq_false (fun q=>nomatch q)
def xV(prog:Program)(w:World):PySem.KeyKind prog w Key where
 is:=cN2
 hash:=dJ8 w
 inj:=fun v a b ha hb=>by
  rcases cR ha with⟨i,t,rfl,rfl⟩ | ⟨x,t,rfl,rfl⟩
  ·rcases cR hb with⟨j,u,rfl,e⟩ | ⟨y,u,rfl,e⟩
   ·injection e with e1 _;rw[e1]
   ·exact nomatch e
  ·rcases cR hb with⟨j,u,rfl,e⟩ | ⟨y,u,rfl,e⟩
   ·exact nomatch e
   ·injection e with e1 _;rw[e1]
 byValue:=fun k v h=>by
  rcases cR h with⟨i,t,rfl,rfl⟩ | ⟨x,t,rfl,rfl⟩<;>rfl
 pyHash:=fun hv h=>by
  rcases cR hv with⟨i,t,rfl,rfl⟩ | ⟨x,t,rfl,rfl⟩
  ·exact wpAny_pyHash_int h
  ·exact wpAny_pyHash_str h
 eqBool:=fun hu hv h=>by
  rcases cR hu with⟨i,t,rfl,rfl⟩ | ⟨x,t,rfl,rfl⟩
  ·rcases cR hv with⟨j,u,rfl,rfl⟩ | ⟨y,u,rfl,rfl⟩
   ·rw[cN3]at h;exact wpAny_eqBool_int h
   ·rw[cN5]at h;exact SeqAt.EqAt.int_str i t y u _ _ _ _ h
  ·rcases cR hv with⟨j,u,rfl,rfl⟩ | ⟨y,u,rfl,rfl⟩
   ·rw[cN6]at h;exact SeqAt.EqAt.str_int x t j u _ _ _ _ h
   ·rw[cN4]at h;exact wpAny_eqBool_str h
 «strs»:=fun k x t v h=>by
  rcases cR h with⟨i,u,rfl,e⟩ | ⟨y,u,rfl,e⟩
  ·exact nomatch e
  ·injection e with e1 _
   subst e1
   cases v<;>rfl
inductive V where
 | non | bl (b:Bool) | int (i:Int) | str (x:Str) | byt (b:Array UInt8) | flt (b:UInt64) | ref (a:Addr) | ty (n:String)
 deriving DecidableEq
def eO:V->Value->Prop
 | .non,u=>u=Value.none
 | .bl b,u=>u=Value.bool b
 | .int i,u=>∃ t,u=Value.int i t
 | .str x,u=>∃ t,u=Value.str x t
 | .byt b,u=>∃ t,u=Value.bytes b t
 | .flt b,u=>∃ t,u=Value.float b t
 | .ref a,u=>u=Value.ref a
 | .ty n,u=>u=Value.type n
abbrev cE:List V->List Value->Prop:=Paired eO
theorem cE.length{xs:List V}{us:List Value}(r:cE xs us):xs.length=us.length:=Paired.length r
theorem cE.get:∀ {xs:List V} {us:List Value} {i:Nat} {x:V},cE xs us->xs[i]? = some x->∃ u,us[i]? = some u/\eO x u
 | _,_,_,_,.nil,e=>by simp at e
 | _,_,0,_,.cons r _,e=>by simp at e;subst e;exact⟨_,rfl,r⟩
 | _,_,i+1,x,.cons _ t,e=>by
   obtain⟨u,h1,h2⟩:=cE.get (i:=i) (x:=x) t (by simpa using e)
   exact⟨u,by simpa using h1,h2⟩
theorem cE.set{x:V}{u:Value}(r:eO x u):∀ {xs:List V} {us:List Value} (i:Nat),cE xs us->cE (xs.set i x) (us.set i u)
 | _,_,_,.nil=>.nil
 | _,_,0,.cons _ t=>.cons r t
 | _,_,i+1,.cons q t=>.cons q (cE.set r i t)
theorem cE.append:∀ {xs ys:List V} {us ws:List Value},cE xs us->cE ys ws->cE (xs++ys) (us++ws)
 | _,_,_,_,.nil,s=>s
 | _,_,_,_,.cons r t,s=>.cons r (cE.append t s)
theorem cE.take:∀ {xs:List V} {us:List Value} (n:Nat),cE xs us->cE (xs.take n) (us.take n)
 | _,_,0,_=>.nil
 | _,_,_+1,.nil=>.nil
 | _,_,n+1,.cons r t=>.cons r (cE.take n t)
theorem cE.drop:∀ {xs:List V} {us:List Value} (n:Nat),cE xs us->cE (xs.drop n) (us.drop n)
 | _,_,0,r=>r
 | _,_,_+1,.nil=>.nil
 | _,_,n+1,.cons _ t=>cE.drop n t
def dB5:Option V->Option Value->Prop
 | some v,some u=>eO v u
 | none,none=>True
 | _,_=>False
def KV{κ:Type}:List (κ×V)->List (κ×Value)->Prop:=Paired fun(p:κ×V) (q:κ×Value)=>p.1=q.1/\eO p.2 q.2
def kV:Key->V
 | .inl i=>.int i
 | .inr x=>.str x
inductive HO where
 | lst (xs:List V)
 | tup (xs:List V)
 | dK (kvs:List (Key×V)) | dT (kvs:List (List Key×V))
 | set (S:Int->Bool) (n:Nat)
 | ins (C dx:Addr) (fs:List (Str×V))
 | own (x:Addr)
 | xd (fs:List (Str×V))
 | met (f x:Addr)
 | rng (lo hi:Int)
 | frz (o:Obj) (u:HO)
 | tbl (ps:Array Value)
 | ext (φ:Heap->Prop)
abbrev Hp:=Addr->Option HO
def upd(H:Hp)(a:Addr)(o:HO):Hp:=fun b=>if b=a then some o else H b
theorem aR{H:Hp}{a:Addr}{o:HO}:upd H a o a=some o:=by unfold upd;rw[if_pos rfl]
theorem aL{H:Hp}{a b:Addr}{o:HO}(h:b≠a):upd H a o b=H b:=by unfold upd;rw[if_neg h]
theorem aV{H:Hp}{a b:Addr}{o:HO}(h:H a=some o)(h':H b=none):a≠b:=by
 intro e;subst e;rw[h]at h';cases h'
def dJ9(h:Heap)(a:Addr):Prop:=∃ o,h.get? a=some o/\o.dict=none
section
variable(P:Program)(w:World)
def eB(H:Hp)(h:Heap)(a:Addr):HO->Prop
 | .lst xs=>xs.length<=sizeLine/\∃ (its:List Value) (n:Nat),cE xs its/\h.get? a=some {cls:=.type "list",data:=.seq its.toArray n}
 | .tup xs=>xs.length<=sizeLine/\∃ its:List Value,cE xs its/\IsTup h a its.toArray/\dJ9 h a
 | .dK kvs=>kvs.length<=sizeLine/\(a==sysModules)=false/\∃ vs,KV kvs vs/\h.DictOf (xV P w) a vs
 | .dT kvs=>kvs.length<=sizeLine/\(a==sysModules)=false/\∃ xs:List (List Key×Addr×Value),
   Paired (fun(p:List Key×V) (q:List Key×Addr×Value)=>p.1=q.1/\H q.2.1=some (.tup (p.1.map kV))/\eO p.2 q.2.2) kvs xs /\
   ∃ o es ep,h.get? a=some o/\o.ExactDict/\o.data=.dict es ep/\es.toList=xs.map (entryOfKey (tupleKind (xV P w)))/\(xs.map (·.1)).Nodup
 | .set S n=>h.SetOf (intKind P w) a S n
 | .ins C dx fs=>H dx=some (.own a)/\fs.length<=1000/\dx≠a/\h.get? a=some (PySem.W.instObj C dx) /\
   ∃ mA,h.Ns1 dx mA/\(∀ f,dB5 (fs.lookup f) (mA f))/\PySem.Within mA (fs.map (·.1))
 | .own _=>∃ o,h.get? a=some o
 | .xd fs=>∃ mA,h.Ns1 a mA/\∀ f,dB5 (fs.lookup f) (mA f)
 | .rng lo hi=>∃ t u v,h.get? a=some {cls:=.type "range",data:=.fields #[.int lo t,.int hi u,.int 1 v]}
 | .frz o u=>h.get? a=some o/\eB H h a u
 | .tbl ps=>h.get? a=some {cls:=.none,data:=.fields ps}
 | .met f x=>h.get? a=some (PySem.W.methodObj (.ref f) (.ref x))
 | .ext φ=>φ h/\(∃ o,h.get? a=some o)/\∀ h1 h2:Heap,φ h1->(∀ o,h1.get? a=some o->h2.get? a=some o)->φ h2
def HOk(H:Hp)(h:Heap):Prop:=∀ a o,H a=some o->eB P w H h a o
end
section
variable{P:Program}{w:World}{H H':Hp}{h h':Heap}{a:Addr}{o:HO}
theorem eB.lt(x:eB P w H h a o):a < h.objs.size:=by
 cases o with
 | lst xs=>obtain⟨_,_,_,_,e⟩:=x;exact Heap.lt_size e
 | tup xs=>obtain⟨_,_,_,p,_⟩:=x;exact p.lt
 | dK kvs=>obtain⟨_,_,_,_,o,_,_,e,_⟩:=x;exact Heap.lt_size e
 | dT kvs=>obtain⟨_,_,_,_,o,_,_,e,_⟩:=x;exact Heap.lt_size e
 | set S n=>obtain⟨o,_,_,_,e,_⟩:=x;exact Heap.lt_size e
 | ins C dx fs=>obtain⟨_,_,_,e,_⟩:=x;exact Heap.lt_size e
 | own y=>obtain⟨_,e⟩:=x;exact Heap.lt_size e
 | xd fs=>obtain⟨_,⟨_,_,_,e,_⟩,_⟩:=x;exact Heap.lt_size e
 | rng lo hi=>obtain⟨_,_,_,e⟩:=x;exact Heap.lt_size e
 | frz ob u=>obtain⟨e,_⟩:=x;exact Heap.lt_size e
 | tbl ps=>exact Heap.lt_size (show h.get? a=some _ from x)
 | met f y=>exact Heap.lt_size (show h.get? a=some _ from x)
 | ext φ=>obtain⟨_,⟨_,e⟩,_⟩:=x;exact Heap.lt_size e
theorem Paired.mapP{α β:Type}{F G:α->β->Prop}:∀ {l₁:List α} {l₂:List β},Paired F l₁ l₂->(∀ a b,F a b->G a b)->Paired G l₁ l₂
 | _,_,.nil,_=>.nil
 | _,_,.cons r t,f=>.cons (f _ _ r) (Paired.mapP t f)
theorem eB.stay(x:eB P w H h a o)(k:∀ b u,(b=a\/H b=some (.own a))->h.get? b=some u->h'.get? b=some u)
  (ho:∀ b,H b=some (.own a)->H' b=some (.own a)) (ht:∀ b xs,H b=some (.tup xs)->H' b=some (.tup xs)):eB P w H' h' a o:=by
 induction o with
 | lst xs=>obtain⟨z,its,n,r,e⟩:=x;exact⟨z,its,n,r,k _ _ (.inl rfl) e⟩
 | tup xs=>obtain⟨z,its,r,⟨ob,e,c⟩,⟨ob2,e2,c2⟩⟩:=x;exact⟨z,its,r,⟨ob,k _ _ (.inl rfl) e,c⟩,⟨ob2,k _ _ (.inl rfl) e2,c2⟩⟩
 | dK kvs=>obtain⟨z,y,vs,r,ob,es,ep,e,c⟩:=x;exact⟨z,y,vs,r,ob,es,ep,k _ _ (.inl rfl) e,c⟩
 | dT kvs=>
   obtain⟨z,y,xs,r,ob,es,ep,e,c⟩:=x
   exact⟨z,y,xs,Paired.mapP r fun p q z=>⟨z.1,ht _ _ z.2.1,z.2.2⟩,ob,es,ep,k _ _ (.inl rfl) e,c⟩
 | set S n=>obtain⟨ob,es,ep,t,e,c⟩:=x;exact⟨ob,es,ep,t,k _ _ (.inl rfl) e,c⟩
 | ins C dx fs=>
   obtain⟨d,z,ne,e,mA,⟨od,es,ep,e2,c⟩,r⟩:=x
   exact⟨ho _ d,z,ne,k _ _ (.inl rfl) e,mA,⟨od,es,ep,k _ _ (.inr d) e2,c⟩,r⟩
 | own y=>obtain⟨ob,e⟩:=x;exact⟨ob,k _ _ (.inl rfl) e⟩
 | xd fs=>obtain⟨mA,⟨od,es,ep,e,c⟩,r⟩:=x;exact⟨mA,⟨od,es,ep,k _ _ (.inl rfl) e,c⟩,r⟩
 | rng lo hi=>obtain⟨t,u,v,e⟩:=x;exact⟨t,u,v,k _ _ (.inl rfl) e⟩
 | frz ob u ih=>obtain⟨e,q⟩:=x;exact⟨k _ _ (.inl rfl) e,ih q⟩
 | tbl ps=>
   have e:h.get? a=some {cls:=.none,data:=.fields ps}:=x
   show h'.get? a=some {cls:=.none,data:=.fields ps}
   exact k a _ (.inl rfl) e
 | met f y=>
   have e:h.get? a=some (PySem.W.methodObj (.ref f) (.ref y)):=x
   show h'.get? a=some (PySem.W.methodObj (.ref f) (.ref y))
   exact k a _ (.inl rfl) e
 | ext φ=>obtain⟨p,⟨o,e⟩,st⟩:=x;exact⟨st _ _ p fun o q=>k _ _ (.inl rfl) q,⟨o,k _ _ (.inl rfl) e⟩,st⟩
theorem HOk.lt(x:HOk P w H h)(e:H a=some o):a < h.objs.size:=(x a o e).lt
theorem HOk.fresh(x:HOk P w H h)(e:h.objs.size<=a):H a=none:=by
 cases q:H a with
 | none=>rfl
 | some u=>exact absurd (Nat.lt_of_lt_of_le (x.lt q) e) (Nat.lt_irrefl _)
theorem HOk.kept(x:HOk P w H h)(k:∀ b u,h.get? b=some u->h'.get? b=some u):HOk P w H h':=fun a o e=>
 (x a o e).stay (fun b u _ q=>k b u q) (fun _ q=>q) fun _ _ q=>q
theorem HOk.laid(x:HOk P w H h)(k:∀ b u,h.get? b=some u->h'.get? b=some u)(hp:h.objs.size<=a)(new:eB P w (upd H a o) h' a o):HOk P w (upd H a o) h':=fun b u e=>by
 have hn:=x.fresh hp
 by_cases hb:b=a
 ·subst hb;rw[aR]at e;cases e;exact new
 ·rw[aL hb]at e
  exact(x b u e).stay (fun c v _ q=>k c v q) (fun c q=>by rw[aL (aV q hn)];exact q) fun c xs q=>by rw[aL (aV q hn)];exact q
end
def Rd(H:Hp)(a:Addr)(u:HO):Prop:=H a=some u\/∃ o,H a=some (.frz o u)
theorem Rd.ok{P:Program}{w:World}{H:Hp}{h:Heap}{a:Addr}{u:HO}(r:Rd H a u)(x:HOk P w H h):eB P w H h a u:=by
 rcases r with r | ⟨o,r⟩
 ·exact x a u r
 ·obtain⟨_,q⟩:=x a _ r
  exact q
def Mut:Option HO->Prop
 | some (.lst _)=>True
 | some (.dK _)=>True
 | some (.dT _)=>True
 | some (.set _ _)=>True
 | some (.ins _ _ _)=>True
 | some (.ext _)=>True
 | _=>False
section
variable{P:Program}{w:World}{H:Hp}{h h':Heap}{x e:Addr}{o':HO}
theorem HOk.write(ok:HOk P w H h)(mu:Mut (H x))(he:e=x\/H e=some (.own x))(k:∀ b u,b≠e->h.get? b=some u->h'.get? b=some u)(heo:∃ u,h'.get? e=some u)
  (new:eB P w (upd H x o') h' x o'):HOk P w (upd H x o') h':=fun b u q=>by
 have nown:∀ c y,H c=some (.own y)->c≠x:=fun c y r z=>by subst z;rw[r]at mu;exact mu
 have ntup:∀ c xs,H c=some (.tup xs)->c≠x:=fun c xs r z=>by subst z;rw[r]at mu;exact mu
 by_cases hb:b=x
 ·subst hb;rw[aR]at q;cases q;exact new
 ·rw[aL hb]at q
  by_cases hbe:b=e
  ·have q':H b=some (.own x):=by
    rcases he with z | z
    ·exact absurd (hbe.trans z) hb
    ·rw[hbe];exact z
   rw[q]at q';cases q'
   obtain⟨v,hv⟩:=heo
   exact⟨v,by rw[hbe];exact hv⟩
  ·refine(ok b u q).stay (fun c v hc r=>k c v ?_ r) (fun c r=>by rw[aL (nown c b r)];exact r) fun c xs r=>by rw[aL (ntup c xs r)];exact r
   rcases hc with rfl | hc
   ·exact hbe
   ·rintro rfl
    rcases he with z | z
    ·exact nown c b hc z
    ·rw[hc]at z;cases z;exact hb rfl
end
structure Un(fs ex:List Addr)(H H':Hp)(h h':Heap):Prop where
 keep:∀ b o,h.get? b=some o->H b=none->b∉fs->b∉ex->h'.get? b=some o
 slot:∀ b o,h.get? b=some o->H b=none->b∈fs->b∉ex->∃ sl,h'.get? b=some {o with slots:=sl}
 free:∀ b o,h.get? b=some o->H b=none->b∉ex->H' b=none
 there:∀ b o,h.get? b=some o->b∉ex->∃ o',h'.get? b=some o'
 tups:∀ b xs,H b=some (.tup xs)->H' b=some (.tup xs)
 frzs:∀ b o u,H b=some (.frz o u)->H' b=some (.frz o u)
 tbls:∀ b ps,H b=some (.tbl ps)->∃ more,H' b=some (.tbl (ps++more))
section
variable{fs fs' ex ex':List Addr}{H H1 H2:Hp}{h h1 h2 h':Heap}{a x e:Addr}{o:HO}
theorem Un.any(u:Un fs ex H H1 h h1){b:Addr}{ob:Obj}(q:h.get? b=some ob)(n:H b=none)(hx:b∉ex):∃ sl,h1.get? b=some {ob with slots:=sl}:=by
 by_cases hb:b∈fs
 ·exact u.slot b ob q n hb hx
 ·exact⟨ob.slots,u.keep b ob q n hb hx⟩
theorem Un.kept(k:∀ b u,h.get? b=some u->h'.get? b=some u):Un fs ex H H h h':=
 ⟨fun b ob q _ _ _=>k b ob q,fun b ob q _ _ _=>⟨ob.slots,k b ob q⟩,fun _ _ _ n _=>n,fun b ob q _=>⟨ob,k b ob q⟩,fun _ _ q=>q,fun _ _ _ q=>q,fun _ ps q=>⟨#[],by rw[q];simp⟩⟩
theorem Un.refl:Un fs ex H H h h:=Un.kept fun _ _ q=>q
theorem Un.laid(k:∀ b u,h.get? b=some u->h'.get? b=some u)(hp:h.objs.size<=a)(hn:H a=none):Un fs ex H (upd H a o) h h' where
 keep:=fun b u q _ _ _=>k b u q
 slot:=fun b u q _ _ _=>⟨u.slots,k b u q⟩
 free:=fun b u q n _=>by rw[aL (Nat.ne_of_lt (Nat.lt_of_lt_of_le (Heap.lt_size q) hp))];exact n
 there:=fun b u q _=>⟨u,k b u q⟩
 tups:=fun b xs q=>by rw[aL (aV q hn)];exact q
 frzs:=fun b u xs q=>by rw[aL (aV q hn)];exact q
 tbls:=fun b ps q=>⟨#[],by rw[aL (aV q hn),q];simp⟩
theorem Un.write(mu:Mut (H x))(he:e=x\/H e=some (.own x))(k:∀ b u,b≠e->h.get? b=some u->h'.get? b=some u)(heo:∃ u,h'.get? e=some u):Un fs ex H (upd H x o) h h':=by
 have hx:∀ b,H b=none->b≠x:=fun b n z=>by subst z;rw[n]at mu;exact mu
 have hb:∀ b,H b=none->b≠e:=fun b n z=>by
  subst z
  rcases he with r | r
  ·exact hx b n r
  ·rw[n]at r;cases r
 have hm:∀ b u,H b=some u->¬ Mut (some u)->b≠x:=fun b u q nm z=>by subst z;rw[q]at mu;exact nm mu
 refine⟨fun b u q n _ _=>k b u (hb b n) q,fun b u q n _ _=>⟨u.slots,k b u (hb b n) q⟩,fun b u q n _=>by rw[aL (hx b n)];exact n,fun b u q _=>?_,
  fun b xs q=>by rw[aL (hm b _ q fun z=>z)];exact q,fun b u xs q=>by rw[aL (hm b _ q fun z=>z)];exact q,fun b ps q=>⟨#[],by rw[aL (hm b _ q fun z=>z),q];simp⟩⟩
 by_cases hbe:b=e
 ·subst hbe;exact heo
 ·exact⟨u,k b u hbe q⟩
end
def trk(h:Heap)(H:Hp):List Addr:=(List.range h.objs.size).filter fun a=>(H a).isSome
def bK1(h:Heap)(H:Hp):Heap:=PySem.W.hideAll h (trk h H)
theorem aU6(h:Heap)(H:Hp):(bK1 h H).objs.size=h.objs.size:=PySem.W.hideAll_size _ _
theorem bK2{h:Heap}{H:Hp}{b:Addr}{o:Obj}(e:h.get? b=some o)(n:H b=none):(bK1 h H).get? b=some o:=
 PySem.W.hideAll_get _ e fun hm=>by
  have q:(H b).isSome=true:=(List.mem_filter.mp hm).2
  rw[n]at q;simp at q
theorem bZ9{h:Heap}{H:Hp}{b:Addr}{o:Obj}(e:(bK1 h H).get? b=some o):h.get? b=some o/\H b=none:=by
 have e':h.get? b=some o:=PySem.W.of_hideAll (trk h H) e
 refine⟨e',?_⟩
 cases q:H b with
 | none=>rfl
 | some x=>
   have hm:b∈trk h H:=List.mem_filter.mpr ⟨List.mem_range.mpr (Heap.lt_size e'),by simp[q]⟩
   have z:(bK1 h H).get? b=none:=PySem.W.hideAll_none (trk h H) hm
   rw[z]at e;cases e
def cA0(g h:Heap)(L:Addr):List (Addr×Obj):=(List.range h.objs.size).filterMap fun a=>if a=L\/(g.get? a).isSome=true then none else(h.get? a).map fun o=>(a,o)
def gF(g h:Heap)(L d:Addr):List (Addr×Obj):=(cA0 g h L).filter fun p=>decide (p.1≠d)
structure Mod(K:PySem.W.Frag)(mg:Str->Option Value)(base:Heap):Prop where
 kin:K.In base
 glob:base.Ns mainGlobals mg
 blt:∃ mb,base.Ns builtinsNs mb/\∀ x:Str,x≠"__name__"->mb x=bootBuiltins x
 nolimit:base.NoLimit
structure Cx where
 prog:Program
 w:World
 K:PySem.W.Frag
 mg:Str->Option Value
 base:Heap
 A:Around
 N:List Str
 s₀:Shared
 H₀:Hp
 env:Env
 outer:List Env
 stack:List Env
 ex:List Addr
 fn:Str->Bool
 calm:Bool
 pn:List (Addr×Obj)
 xe:Value->Shared->Prop
def frs(l:List Env):List Addr:=l.filterMap (·.frame)
abbrev Cx.fs(X:Cx):List Addr:=frs X.outer
def Vis(sc:Scope)(x:Str):Prop:=sc.names.lookup x=some .local\/sc.names.lookup x=some .cell\/sc.names.lookup x=some .free
def Loc(sc:Scope)(x:Str):Prop:=sc.names.lookup x=some .local\/sc.names.lookup x=some .cell
def dK0(env:Env)(h:Heap)(m:Str->Option Value)(x:Str)(u:Value):Prop:=
 (env.kindOf x=some .local/\m x=some u)\/((env.kindOf x=some .cell\/env.kindOf x=some .free)/\∃ c,env.cells.lookup x=some c/\h.IsCell c (some u))
structure Cx.Ok(X:Cx):Prop where
 mod:Mod X.K X.mg X.base
 kind:X.env.scope.kind=.function
 glob:X.env.globals=mainGlobals
 blt:X.env.builtins=builtinsNs
 above:X.s₀.heap.objs.size<=X.env.locals
 inj:∀ x y c,X.env.cells.lookup x=some c->X.env.cells.lookup y=some c->x=y
 has:∀ x,(X.env.kindOf x=some .cell\/X.env.kindOf x=some .free)->∃ c,X.env.cells.lookup x=some c
 cab:∀ x c,X.fn x=true->X.env.cells.lookup x=some c->X.s₀.heap.objs.size<=c
 hd:X.calm=true->X.A.handled=none
 frames:X.A.frames=some X.stack
 stk:X.stack=X.outer\/(X.stack=X.env::X.outer/\X.env.frame=some X.env.locals)
 exf:∀ b∈X.ex,b≠X.env.locals/\∀ x c,X.env.cells.lookup x=some c->c≠b
 bs:∀ b o,X.base.get? b=some o->X.s₀.heap.get? b=some o/\X.H₀ b=none
 bsz:X.base.objs.size<=X.s₀.heap.objs.size
 noex:∀ b o,X.base.get? b=some o->b∉X.ex
 exfs:∀ b∈X.ex,b∉X.fs
 funs:X.s₀.heap.FunFrames X.base X.outer
 frf:∀ b∈X.fs,X.H₀ b=none
structure Inv(X:Cx)(pins:List (Addr×Obj))(σ:List (Option V))(H:Hp)(s:Shared):Prop where
 ok:X.Ok
 os:s.os=X.s₀.os
 bare:AllBare s.gens
 base:Un X.fs X.ex X.H₀ H X.s₀.heap s.heap
 loc:∃ m,s.heap.Ns X.env.locals m/\∀ (i:Nat) (x:Str) (v:V),X.N[i]? = some x->σ[i]? = some (some v)->Vis X.env.scope x->∃ u,eO v u/\dK0 X.env s.heap m x u
 cell:∀ x c,X.env.cells.lookup x=some c->∃ v,s.heap.IsCell c v
 free:H X.env.locals=none
 freeC:∀ x c,X.env.cells.lookup x=some c->H c=none
 pin:∀ p∈X.pn++pins,s.heap.get? p.1=some p.2/\H p.1=none/\p.1≠X.env.locals/\p.1∉X.fs/\∀ v,p.2.data≠.cell v
 hok:HOk X.prog X.w H s.heap
 len:σ.length=X.N.length
section
variable{X:Cx}{pins:List (Addr×Obj)}{σ:List (Option V)}{H H':Hp}{s:Shared}{h':Heap}
theorem Cx.Ok.nofr(ok:X.Ok){b:Addr}{o:Obj}(e:X.base.get? b=some o):b∉X.fs:=fun hb=>by
 have:=(ok.funs.mem hb).1
 rw[e]at this;cases this
theorem Inv.bs(I:Inv X pins σ H s):∀ b o,X.base.get? b=some o->s.heap.get? b=some o/\H b=none:=fun b o e=>
 ⟨I.base.keep b o (I.ok.bs b o e).1 (I.ok.bs b o e).2 (I.ok.nofr e) (I.ok.noex b o e),I.base.free b o (I.ok.bs b o e).1 (I.ok.bs b o e).2 (I.ok.noex b o e)⟩
theorem Inv.bk(I:Inv X pins σ H s):∀ b o,X.base.get? b=some o->s.heap.get? b=some o:=fun b o e=>(I.bs b o e).1
theorem Inv.mod(I:Inv X pins σ H s):Mod X.K X.mg X.base:=I.ok.mod
theorem Inv.kIn(I:Inv X pins σ H s):X.K.In s.heap:=I.ok.mod.kin.keeps I.bk
theorem Inv.lt(I:Inv X pins σ H s):X.env.locals < s.heap.objs.size:=let ⟨_,hn,_⟩:=I.loc;hn.lt
theorem Inv.sz(I:Inv X pins σ H s):X.s₀.heap.objs.size<=s.heap.objs.size:=Nat.le_trans I.ok.above (Nat.le_of_lt I.lt)
theorem Inv.nofs(I:Inv X pins σ H s){a:Addr}(h:s.heap.objs.size<=a):a∉X.fs:=fun hb=>by
 obtain⟨_,o,ho,_⟩:=I.ok.funs.mem hb
 exact absurd (Nat.lt_of_lt_of_le (Heap.lt_size ho) (Nat.le_trans I.sz h)) (Nat.lt_irrefl _)
theorem Inv.cne(I:Inv X pins σ H s):∀ x c,X.env.cells.lookup x=some c->c≠X.env.locals:=fun x c e z=>by
 obtain⟨v,o,ho,hd⟩:=I.cell x c e
 obtain⟨m,⟨o',es,ep,ho',hd',_⟩,_⟩:=I.loc
 rw[z,ho']at ho;cases ho;rw[hd']at hd;cases hd
theorem Inv.funs(I:Inv X pins σ H s):s.heap.FunFrames X.base X.outer:=by
 have all:∀ (l:List Env),(∀ b∈frs l,b∈X.fs)->X.s₀.heap.FunFrames X.base l->s.heap.FunFrames X.base l:=by
  intro l
  induction l with
  | nil=>intro _ _;trivial
  | cons env r ih=>
    intro hs hl
    obtain⟨hk,⟨L,o,hf,hn,ho,hd⟩,hr⟩:=hl
    have hL:L∈X.fs:=hs L (by unfold frs;rw[List.filterMap_cons,hf];exact List.mem_cons_self)
    obtain⟨sl,e⟩:=I.base.slot L o ho (I.ok.frf L hL) hL fun z=>I.ok.exfs L z hL
    exact⟨hk,⟨L,_,hf,hn,e,hd⟩,ih (fun b hb=>hs b (by unfold frs;rw[List.filterMap_cons,hf];exact List.mem_cons_of_mem _ hb)) hr⟩
 exact all X.outer (fun _ hb=>hb) I.ok.funs
theorem Inv.stack(I:Inv X pins σ H s):s.heap.FunFrames X.base X.stack:=by
 rcases I.ok.stk with e | ⟨e,hf⟩
 ·rw[e];exact I.funs
 ·rw[e]
  obtain⟨m,hn,_⟩:=I.loc
  refine .cons (by rw[I.ok.kind];decide) hf hn ?_ I.funs
  exact Heap.get?_none_of_le (Nat.le_trans I.ok.bsz I.ok.above)
theorem Inv.stkSub(I:Inv X pins σ H s):∀ b∈frs X.stack,b∈X.env.locals::X.fs:=fun b hb=>by
 rcases I.ok.stk with e | ⟨e,hf⟩
 ·rw[e]at hb;exact List.mem_cons_of_mem _ hb
 ·rw[e]at hb
  unfold frs at hb
  rw[List.filterMap_cons,hf]at hb
  exact hb
theorem Inv.stkFree(I:Inv X pins σ H s):∀ b∈frs X.stack,H b=none:=fun b hb=>by
 rcases List.mem_cons.mp (I.stkSub b hb)with e | hb
 ·rw[e];exact I.free
 ·obtain⟨_,o,ho,_⟩:=I.ok.funs.mem hb
  exact I.base.free b o ho (I.ok.frf b hb) fun z=>I.ok.exfs b z hb
theorem Inv.step{g':Array GenState}{t':Nat}{d':Drawn}{ch:List Addr}(I:Inv X pins σ H s)
  (hch:∀ b∈ch,(b∈X.ex\/X.s₀.heap.objs.size<=b)/\b≠X.env.locals/\(∀ x c,X.env.cells.lookup x=some c->c≠b)/\∀ p∈X.pn++pins,p.1≠b)
  (keep:∀ b o,b≠X.env.locals->b∉X.fs->b∉ch->s.heap.get? b=some o->H b=none->h'.get? b=some o)
  (slot:∀ b o,b≠X.env.locals->b∈X.fs->b∉ch->s.heap.get? b=some o->H b=none->∃ sl,h'.get? b=some {o with slots:=sl}) (free:∀ b o,b∉ch->s.heap.get? b=some o->H b=none->H' b=none)
  (there:∀ b o,b∉ch->s.heap.get? b=some o->∃ o',h'.get? b=some o')
  (tups:∀ b xs,H b=some (.tup xs)->H' b=some (.tup xs)) (frzs:∀ b o u,H b=some (.frz o u)->H' b=some (.frz o u)) (tbls:∀ b ps,H b=some (.tbl ps)->∃ more,H' b=some (.tbl (ps++more)))
  (ns:∀ m,s.heap.Ns X.env.locals m->h'.Ns X.env.locals m) (hok:HOk X.prog X.w H' h') (hg:AllBare g') :
  Inv X pins σ H' {s with heap:=h',gens:=g',drawn:=d',toks:=t'}:=by
 have neL:∀ b o,X.s₀.heap.get? b=some o->b≠X.env.locals:=fun b o e=>Nat.ne_of_lt (Nat.lt_of_lt_of_le (Heap.lt_size e) I.ok.above)
 have neC:∀ b o,X.s₀.heap.get? b=some o->b∉X.ex->b∉ch:=fun b o e hx hb=>by
  rcases(hch b hb).1 with z | z
  ·exact hx z
  ·exact absurd (Nat.lt_of_lt_of_le (Heap.lt_size e) z) (Nat.lt_irrefl _)
 have cellK:∀ x c,X.env.cells.lookup x=some c->∀ v,s.heap.IsCell c v->h'.IsCell c v:=fun x c e v ⟨o,ho,hd⟩=>by
  have nch:c∉ch:=fun z=>(hch c z).2.2.1 x c e rfl
  by_cases hc:c∈X.fs
  ·obtain⟨sl,q⟩:=slot c o (I.cne x c e) hc nch ho (I.freeC x c e)
   exact⟨_,q,hd⟩
  ·exact⟨o,keep c o (I.cne x c e) hc nch ho (I.freeC x c e),hd⟩
 refine⟨I.ok,I.os,hg,⟨fun b o e n hb hx=>?_,fun b o e n hb hx=>?_,fun b o e n hx=>?_,fun b o e hx=>?_,fun b xs e=>tups b xs (I.base.tups b xs e),fun b o xs e=>frzs b o xs (I.base.frzs b o xs e),fun b ps e=>?_⟩,?_,fun x c e=>?_,?_,fun x c e=>?_,fun p hp=>?_,hok,I.len⟩
 ·exact keep b o (neL b o e) hb (neC b o e hx) (I.base.keep b o e n hb hx) (I.base.free b o e n hx)
 ·obtain⟨sl,e1⟩:=I.base.slot b o e n hb hx
  obtain⟨sl',e2⟩:=slot b _ (neL b o e) hb (neC b o e hx) e1 (I.base.free b o e n hx)
  exact⟨sl',e2⟩
 ·obtain⟨o',e1⟩:=I.base.there b o e hx
  exact free b o' (neC b o e hx) e1 (I.base.free b o e n hx)
 ·obtain⟨o',e1⟩:=I.base.there b o e hx
  exact there b o' (neC b o e hx) e1
 ·obtain⟨m1,e1⟩:=I.base.tbls b ps e
  obtain⟨m2,e2⟩:=tbls b _ e1
  exact⟨m1++m2,by rw[e2,Array.append_assoc]⟩
 ·obtain⟨m,hn,hl⟩:=I.loc
  refine⟨m,ns m hn,fun i x v e1 e2 e3=>?_⟩
  obtain⟨u,r,l⟩:=hl i x v e1 e2 e3
  refine⟨u,r,?_⟩
  rcases l with l | ⟨k,c,e,z⟩
  ·exact .inl l
  ·exact .inr ⟨k,c,e,cellK x c e _ z⟩
 ·obtain⟨v,z⟩:=I.cell x c e
  exact⟨v,cellK x c e v z⟩
 ·obtain⟨m,⟨o,_,_,ho,_⟩,_⟩:=I.loc
  exact free _ o (fun z=>(hch _ z).2.1 rfl) ho I.free
 ·obtain⟨v,o,ho,hd⟩:=I.cell x c e
  exact free c o (fun z=>(hch c z).2.2.1 x c e rfl) ho (I.freeC x c e)
 ·obtain⟨e,n,ne,nf,d⟩:=I.pin p hp
  have nch:p.1∉ch:=fun z=>(hch p.1 z).2.2.2 p hp rfl
  exact⟨keep p.1 p.2 ne nf nch e n,free p.1 p.2 nch e n,ne,nf,d⟩
theorem Inv.un{t':Nat}(I:Inv X pins σ H s)(u:Un X.fs [] H H' s.heap h')(hok:HOk X.prog X.w H' h'):Inv X pins σ H' {s with heap:=h',toks:=t'}:=by
 obtain⟨m,⟨o,es,ep,ho,r⟩,_⟩:=id I.loc
 obtain⟨sl,hL⟩:=u.any ho I.free (by simp)
 exact I.step (g':=s.gens) (d':=s.drawn) (ch:=[]) (fun _ z=>nomatch z) (fun b o _ hb _ e n=>u.keep b o e n hb (by simp)) (fun b o _ hb _ e n=>u.slot b o e n hb (by simp)) (fun b o _ e n=>u.free b o e n (by simp)) (fun b o _ e=>u.there b o e (by simp)) u.tups u.frzs u.tbls (fun m' hm=>by
  obtain⟨o',es',ep',ho',r'⟩:=hm
  rw[ho]at ho';cases ho'
  exact⟨_,es',ep',hL,r'⟩) hok I.bare
theorem Inv.call{g':Array GenState}{t':Nat}{d':Drawn}{ch:List Addr}(I:Inv X pins σ H s)(u:Un (frs X.stack) ch H H' s.heap h')(hok:HOk X.prog X.w H' h')(hg:AllBare g')
  (hch:∀ b∈ch,(b∈X.ex\/X.s₀.heap.objs.size<=b)/\b≠X.env.locals/\(∀ x c,X.env.cells.lookup x=some c->c≠b)/\∀ p∈X.pn++pins,p.1≠b) :
  Inv X pins σ H' {s with heap:=h',gens:=g',drawn:=d',toks:=t'}:=by
 obtain⟨m,⟨o,es,ep,ho,r⟩,_⟩:=id I.loc
 obtain⟨sl,hL⟩:=u.any ho I.free fun z=>(hch _ z).2.1 rfl
 exact I.step (ch:=ch) hch (fun b o hL hb hc e n=>u.keep b o e n (fun z=>(List.mem_cons.mp (I.stkSub b z)).elim hL hb) hc) (fun b o _ _ hc e n=>u.any e n hc) (fun b o hc e n=>u.free b o e n hc) (fun b o hc e=>u.there b o e hc) u.tups u.frzs u.tbls (fun m' hm=>by
  obtain⟨o',es',ep',ho',r'⟩:=hm
  rw[ho]at ho';cases ho'
  exact⟨_,es',ep',hL,r'⟩) hok hg
theorem Inv.turned{t':Nat}{it:Addr}(I:Inv X pins σ H s)(k:∀ b o,b≠it->s.heap.get? b=some o->h'.get? b=some o)(hn:H it=none)(hL:it≠X.env.locals)
  (h1:it∈X.ex\/X.s₀.heap.objs.size<=it) (h2:∀ x c,X.env.cells.lookup x=some c->c≠it) (h3:∀ p∈X.pn++pins,p.1≠it):Inv X pins σ H {s with heap:=h',toks:=t'}:=by
 have nit:∀ b u,H b=some u->b≠it:=fun b u e z=>by rw[z,hn]at e;cases e
 refine I.step (g':=s.gens) (d':=s.drawn) (ch:=[it]) (fun b hb=>?_) (fun b o _ _ hc e _=>k b o (fun z=>hc (by simp[z])) e) (fun b o _ _ hc e _=>⟨o.slots,k b o (fun z=>hc (by simp[z])) e⟩) (fun _ _ _ _ n=>n)
  (fun b o hc e=>⟨o,k b o (fun z=>hc (by simp[z])) e⟩) (fun _ _ e=>e) (fun _ _ _ e=>e) (fun b ps e=>⟨#[],by rw[e];simp⟩) (fun m hm=>?_) (fun b u e=>?_) I.bare
 ·have e:b=it:=by simpa using hb
  subst e
  exact⟨h1,hL,h2,h3⟩
 ·obtain⟨o,es,ep,ho,r⟩:=hm
  exact⟨o,es,ep,k _ o (Ne.symm hL) ho,r⟩
 ·refine(I.hok b u e).stay (fun c v hc q=>k c v ?_ q) (fun _ q=>q) fun _ _ q=>q
  rcases hc with z | z
  ·rw[z];exact nit b u e
  ·exact nit c _ z
theorem Inv.tok(I:Inv X pins σ H s)(t:Nat):Inv X pins σ H {s with toks:=t}:=I.un (h':=s.heap) (t':=t) Un.refl I.hok
theorem Inv.kept{t':Nat}(I:Inv X pins σ H s)(k:∀ b u,s.heap.get? b=some u->h'.get? b=some u):Inv X pins σ H {s with heap:=h',toks:=t'}:=I.un (Un.kept k) (I.hok.kept k)
theorem Inv.laid{a:Addr}{o:HO}{t':Nat}(I:Inv X pins σ H s)(k:∀ b u,s.heap.get? b=some u->h'.get? b=some u)(hp:s.heap.objs.size<=a)(new:eB X.prog X.w (upd H a o) h' a o) :
  Inv X pins σ (upd H a o) {s with heap:=h',toks:=t'}:=I.un (Un.laid k hp (I.hok.fresh hp)) (I.hok.laid k hp new)
theorem Inv.write{x e:Addr}{o:HO}{t':Nat}(I:Inv X pins σ H s)(mu:Mut (H x))(he:e=x\/H e=some (.own x))(k:∀ b u,b≠e->s.heap.get? b=some u->h'.get? b=some u)(heo:∃ u,h'.get? e=some u)
  (new:eB X.prog X.w (upd H x o) h' x o):Inv X pins σ (upd H x o) {s with heap:=h',toks:=t'}:=I.un (Un.write mu he k heo) (I.hok.write mu he k heo new)
theorem Inv.weak{σ':List (Option V)}(I:Inv X pins σ H s)(hl:σ'.length=σ.length)(w:∀ (i:Nat) v,σ'[i]? = some (some v)->σ[i]? = some (some v)):Inv X pins σ' H s:=
 ⟨I.ok,I.os,I.bare,I.base,let ⟨m,hn,hl'⟩:=I.loc;⟨m,hn,fun i x v e1 e2 e3=>hl' i x v e1 (w i v e2) e3⟩,I.cell,I.free,I.freeC,I.pin,I.hok,hl.trans I.len⟩
theorem Inv.pins_of{pins':List (Addr×Obj)}(I:Inv X pins σ H s)(h:∀ p∈pins',s.heap.get? p.1=some p.2/\H p.1=none/\p.1≠X.env.locals/\p.1∉X.fs/\∀ v,p.2.data≠.cell v):Inv X pins' σ H s:=
 ⟨I.ok,I.os,I.bare,I.base,I.loc,I.cell,I.free,I.freeC,fun p hp=>(List.mem_append.mp hp).elim (fun z=>I.pin p (List.mem_append_left _ z)) (h p),I.hok,I.len⟩
theorem zZ{N:List Str}(hN:N.Nodup){i j:Nat}{x:Str}(a:N[i]? = some x)(b:N[j]? = some x):i=j:=by
 obtain⟨h1,e1⟩:=List.getElem?_eq_some_iff.mp a
 obtain⟨h2,e2⟩:=List.getElem?_eq_some_iff.mp b
 exact(List.getElem_inj hN).mp (e1.trans e2.symm)
theorem vE{M:Model}{A:Around}{E:Value->Shared->Prop}{i:Nat}{x:Str}{v:V}{u:Value}{Q:Unit->Shared->Prop}(I:Inv X pins σ H s)(hN:X.N.Nodup)(hi:X.N[i]? = some x)(hx:Loc X.env.scope x)(r:eO v u)
  (h:∀ s',Inv X pins (σ.set i (some v)) H s'->(∃ a,Heap.SameBut a s.heap s'.heap/\(a=X.env.locals\/X.env.cells.lookup x=some a))->Q () s') (hf:X.fn x=true\/X.env.scope.names.lookup x=some .local:=by first | exact .inl rfl | exact .inr rfl | assumption):wpAny M A (storeName X.env x u) Q E s:=by
 obtain⟨m,hn,hl⟩:=id I.loc
 have hcls:(X.env.scope.kind==.class||(X.env.scope.kind==.module&&X.env.locals != X.env.globals))=false:=by rw[I.ok.kind];rfl
 have hiσ:i < σ.length:=by rw[I.len];exact(List.getElem?_eq_some_iff.mp hi).1
 have cne:=I.cne
 have tracked:∀ {a:Addr} {h':Heap},(∃ o,s.heap.get? a=some o/\H a=none)->Heap.SameBut a s.heap h'->HOk X.prog X.w H h':=fun{a h'} ha hs b ob e=>by
  obtain⟨_,_,hfree⟩:=ha
  refine(I.hok b ob e).stay (fun c w' hc q=>(hs.2 c ?_).trans q) (fun _ q=>q) fun _ _ q=>q
  rintro rfl
  rcases hc with rfl | hc
  ·rw[hfree]at e;cases e
  ·rw[hfree]at hc;cases hc
 rcases hx with hk | hk
 ·refine wpAny_storeName_local hk hn (fun h' hn' hs=>?_) hcls
  obtain⟨oL,_,_,hoL,_⟩:=id hn
  refine h _ ⟨I.ok,I.os,I.bare,⟨fun b o e n hb hx=>?_,fun b o e n hb hx=>?_,I.base.free,fun b o e hx=>?_,I.base.tups,I.base.frzs,I.base.tbls⟩,⟨_,hn',fun j y v' e1 e2 e3=>?_⟩,fun y c e=>?_,I.free,I.freeC,fun p hp=>?_,tracked ⟨oL,hoL,I.free⟩ hs,by simpa using I.len⟩ ⟨_,hs,.inl rfl⟩
  ·exact(hs.2 b (Nat.ne_of_lt (Nat.lt_of_lt_of_le (Heap.lt_size e) I.ok.above))).trans (I.base.keep b o e n hb hx)
  ·obtain⟨sl,e1⟩:=I.base.slot b o e n hb hx
   exact⟨sl,(hs.2 b (Nat.ne_of_lt (Nat.lt_of_lt_of_le (Heap.lt_size e) I.ok.above))).trans e1⟩
  ·obtain⟨o',e1⟩:=I.base.there b o e hx
   exact⟨o',(hs.2 b (Nat.ne_of_lt (Nat.lt_of_lt_of_le (Heap.lt_size e) I.ok.above))).trans e1⟩
  ·by_cases hj:j=i
   ·subst hj
    rw[hi]at e1;cases e1
    rw[List.getElem?_set_self hiσ]at e2
    cases e2
    exact⟨u,r,.inl ⟨hk,by simp⟩⟩
   ·rw[List.getElem?_set_ne (Ne.symm hj)]at e2
    obtain⟨u',r',q⟩:=hl j y v' e1 e2 e3
    refine⟨u',r',?_⟩
    rcases q with⟨k,e⟩ | ⟨k,c,e,z⟩
    ·refine .inl ⟨k,?_⟩
     have:y≠x:=fun e=>hj (zZ hN e1 (e ▸ hi))
     simp[this,e]
    ·exact .inr ⟨k,c,e,z.sameBut hs (cne y c e)⟩
  ·obtain⟨w',z⟩:=I.cell y c e
   exact⟨w',z.sameBut hs (cne y c e)⟩
  ·obtain⟨e,n,ne,nf,d⟩:=I.pin p hp
   exact⟨(hs.2 p.1 ne).trans e,n,ne,nf,d⟩
 ·have hfn:X.fn x=true:=by
   rcases hf with z | z
   ·exact z
   ·rw[z]at hk;cases hk
  obtain⟨c,hc⟩:=I.ok.has x (.inl hk)
  obtain⟨w',z⟩:=I.cell x c hc
  refine wpAny_storeName_cell I.ok.kind hk hc z (fun h' hc' hs=>?_)
  obtain⟨oc,hoc,hocd⟩:=id z
  refine h {s with heap:=h'} ⟨I.ok,I.os,I.bare,⟨fun b o e n hb hx=>?_,fun b o e n hb hx=>?_,I.base.free,fun b o e hx=>?_,I.base.tups,I.base.frzs,I.base.tbls⟩,⟨m,hn.sameBut hs (Ne.symm (cne x c hc)),fun j y v' e1 e2 e3=>?_⟩,fun y c' e=>?_,I.free,I.freeC,fun p hp=>?_,tracked ⟨oc,hoc,I.freeC x c hc⟩ hs,by simpa using I.len⟩ ⟨c,hs,.inr hc⟩
  ·exact(hs.2 b (Nat.ne_of_lt (Nat.lt_of_lt_of_le (Heap.lt_size e) (I.ok.cab x c hfn hc)))).trans (I.base.keep b o e n hb hx)
  ·obtain⟨sl,e1⟩:=I.base.slot b o e n hb hx
   exact⟨sl,(hs.2 b (Nat.ne_of_lt (Nat.lt_of_lt_of_le (Heap.lt_size e) (I.ok.cab x c hfn hc)))).trans e1⟩
  ·obtain⟨o',e1⟩:=I.base.there b o e hx
   exact⟨o',(hs.2 b (Nat.ne_of_lt (Nat.lt_of_lt_of_le (Heap.lt_size e) (I.ok.cab x c hfn hc)))).trans e1⟩
  ·by_cases hj:j=i
   ·subst hj
    rw[hi]at e1;cases e1
    rw[List.getElem?_set_self hiσ]at e2
    cases e2
    exact⟨u,r,.inr ⟨.inl hk,c,hc,hc'⟩⟩
   ·rw[List.getElem?_set_ne (Ne.symm hj)]at e2
    obtain⟨u',r',q⟩:=hl j y v' e1 e2 e3
    refine⟨u',r',?_⟩
    rcases q with q | ⟨k,c',e,z'⟩
    ·exact .inl q
    ·refine .inr ⟨k,c',e,z'.sameBut hs ?_⟩
     rintro rfl
     exact hj (zZ hN e1 (I.ok.inj _ _ _ e hc ▸ hi))
  ·by_cases hcc:c'=c
   ·subst hcc;exact⟨_,hc'⟩
   ·obtain⟨w2,z2⟩:=I.cell y c' e
    exact⟨w2,z2.sameBut hs hcc⟩
  ·obtain⟨e,n,ne,nf,d⟩:=I.pin p hp
   refine⟨(hs.2 p.1 ?_).trans e,n,ne,nf,d⟩
   intro q
   rw[q,hoc]at e
   have q':oc=p.2:=Option.some.inj e
   exact d w' (by rw[← q'];exact hocd)
theorem nZ{M:Model}{A:Around}{E:Value->Shared->Prop}{i:Nat}{x:Str}{v:V}{u:Value}{Q:Unit->Shared->Prop}(I:Inv X pins σ H s)(hN:X.N.Nodup)(hi:X.N[i]? = some x)(hx:Loc X.env.scope x)(r:eO v u)
  (h:∀ s',Inv X pins (σ.set i (some v)) H s'->Q () s') (hf:X.fn x=true\/X.env.scope.names.lookup x=some .local:=by first | exact .inl rfl | exact .inr rfl | assumption):wpAny M A (storeName X.env x u) Q E s:=
 vE I hN hi hx r (fun s' I' _=>h s' I') hf
theorem Inv.call'{s':Shared}{ch:List Addr}(I:Inv X pins σ H s)(ho:s'.os=s.os)(u:Un (frs X.stack) ch H H' s.heap s'.heap)(hok:HOk X.prog X.w H' s'.heap)(hg:AllBare s'.gens)
  (hch:∀ b∈ch,(b∈X.ex\/X.s₀.heap.objs.size<=b)/\b≠X.env.locals/\(∀ x c,X.env.cells.lookup x=some c->c≠b)/\∀ p∈X.pn++pins,p.1≠b):Inv X pins σ H' s':=by
 obtain⟨h',g',d',t',o'⟩:=s'
 have e:o'=s.os:=ho
 subst e
 exact I.call (g':=g') (t':=t') (d':=d') u hok hg hch
end
abbrev XK:=Value->Option Addr->Hp->Prop
abbrev St:=List (Option V)
abbrev VK:=V->Hp->Prop
abbrev TE:=St->Hp->VK->Prop
abbrev TT:=St->Hp->(Bool->Hp->Prop)->Prop
abbrev TA:=St->Hp->(List V->Hp->Prop)->Prop
structure Ends where
 nx:St->Hp->Prop
 rt:VK
 bk:St->Hp->Prop:=fun _ _=>False
 ct:St->Hp->Prop:=fun _ _=>False
abbrev TS:=Ends->St->Hp->Prop
def EP(X:Cx)(pins:List (Addr×Obj))(σ:St)(Q:VK)(u:Value)(s':Shared):Prop:=∃ v H',Inv X pins σ H' s'/\eO v u/\Q v H'
def TP(X:Cx)(pins:List (Addr×Obj))(σ:St)(Q:Bool->Hp->Prop)(b:Bool)(s':Shared):Prop:=∃ H',Inv X pins σ H' s'/\Q b H'
def AP(X:Cx)(pins:List (Addr×Obj))(σ:St)(Q:List V->Hp->Prop)(us:List Value)(s':Shared):Prop:=∃ vs H',Inv X pins σ H' s'/\cE vs us/\Q vs H'
def SP(X:Cx)(pins:List (Addr×Obj))(D:Ends)(f:Flow)(s':Shared):Prop:=
 match f with
 | .next=>∃ σ' H',Inv X pins σ' H' s'/\D.nx σ' H'
 | .brk=>∃ σ' H',Inv X pins σ' H' s'/\D.bk σ' H'
 | .cont=>∃ σ' H',Inv X pins σ' H' s'/\D.ct σ' H'
 | .ret u=>∃ v σ' H',Inv X pins σ' H' s'/\eO v u/\D.rt v H'
def PE(X:Cx)(e:Expr)(t:TE):Prop:=
 ∀ (pins:List (Addr×Obj)) (s:Shared) (σ:St) (H:Hp) (Q:VK),Inv X pins σ H s->t σ H Q->wpAny (model X.prog X.w) X.A (eval e X.env) (EP X pins σ Q) X.xe s
def PT(X:Cx)(e:Expr)(t:TT):Prop:=
 ∀ (pins:List (Addr×Obj)) (s:Shared) (σ:St) (H:Hp) (Q:Bool->Hp->Prop),Inv X pins σ H s->t σ H Q->wpAny (model X.prog X.w) X.A (isTrue e X.env (eval e X.env)) (TP X pins σ Q) X.xe s
def PW(X:Cx)(e:Expr)(t:TT):Prop:=
 ∀ (whole:Sem Value) (pins:List (Addr×Obj)) (s:Shared) (σ:St) (H:Hp) (Q:Bool->Hp->Prop),Inv X pins σ H s->t σ H Q->wpAny (model X.prog X.w) X.A (isTrue e X.env whole) (TP X pins σ Q) X.xe s
theorem PW.pt{X:Cx}{e:Expr}{t:TT}(h:PW X e t):PT X e t:=h _
def PA(X:Cx)(es:List Expr)(t:TA):Prop:=
 ∀ (pos:Pos) (pins:List (Addr×Obj)) (s:Shared) (σ:St) (H:Hp) (Q:List V->Hp->Prop),Inv X pins σ H s->t σ H Q->wpAny (model X.prog X.w) X.A (spliced (backTo pos (starEach es X.env))) (AP X pins σ Q) X.xe s
def PS(X:Cx)(st:Stmt)(t:TS):Prop:=
 ∀ (pins:List (Addr×Obj)) (s:Shared) (σ:St) (H:Hp) (D:Ends),Inv X pins σ H s->t D σ H->wpAny (model X.prog X.w) X.A (exec st X.env) (SP X pins D) X.xe s
def PSs(X:Cx)(st:List Stmt)(t:TS):Prop:=
 ∀ (pins:List (Addr×Obj)) (s:Shared) (σ:St) (H:Hp) (D:Ends),Inv X pins σ H s->t D σ H->wpAny (model X.prog X.w) X.A (execs st X.env) (SP X pins D) X.xe s
theorem thn{α:Type}{t:Sem α}{Q Q':α->Shared->Prop}{M:Model}{A:Around}{E:Value->Shared->Prop}{s:Shared}(h:wpAny M A t Q E s)(hQ:∀ a s,Q a s->Q' a s):wpAny M A t Q' E s:=wpAny_mono h hQ fun _ _ x=>x
section
variable{X:Cx}
def bK3(i:Nat):TE:=fun σ H Q=>∃ v,σ[i]? = some (some v)/\Q v H
def tC(v:V):TE:=fun _ H Q=>Q v H
theorem cN7{i:Nat}{x:Str}{pos:Pos}(hN:X.N[i]? = some x)(hv:Vis X.env.scope x)(hd:(x==("__debug__":Str))=false:=by decide)(hcd:(x==("__classdict__":Str))=false:=by decide):PE X (.Name x pos) (bK3 i):=by
 intro pins s σ H Q I h
 obtain⟨v,e,h⟩:=h
 obtain⟨m,hn,hl⟩:=I.loc
 obtain⟨u,r,l⟩:=hl i x v hN e hv
 have fin:EP X pins σ Q u s:=⟨v,H,I,r,h⟩
 rcases l with⟨hk,hm⟩ | ⟨hk,c,hc,hcell⟩
 ·exact wpAny_Name (wpAny_loadName_local I.ok.kind hk hn hm fin) hd
 ·rcases hk with hk | hk
  ·exact wpAny_Name (wpAny_loadName_cell I.ok.kind hk hc hcell fin) hd
  ·exact wpAny_Name (wpAny_loadName_free I.ok.kind hk hc hcell fin hcd) hd
theorem eM{i j pos}:PE X (.Constant (.int i) j pos) (tC (.int i)):=fun _ _ _ H _ I h=>wpAny_Constant_int ⟨.int i,H,I.tok _,⟨_,rfl⟩,h⟩
theorem dB6{b j pos}:PE X (.Constant (.bool b) j pos) (tC (.bl b)):=fun _ _ _ H _ I h=>Constant_bool ⟨.bl b,H,I,rfl,h⟩
theorem bT5{x j pos}:PE X (.Constant (.str x) j pos) (tC (.str x)):=fun _ _ _ H _ I h=>Calls.Constant_str ⟨.str x,H,I.tok _,⟨_,rfl⟩,h⟩
def Gl(X:Cx)(x:Str):Prop:=X.env.kindOf x=some .globalImplicit
theorem cA1{E:Value->Shared->Prop}{pins:List (Addr×Obj)}{s:Shared}{σ:St}{H:Hp}{x:Str}{u:Value}{pos:Pos}{Q:Value->Shared->Prop}(I:Inv X pins σ H s)(hg:Gl X x)(hm:X.mg x=some u)(h:Q u s)
  (hd:(x==("__debug__":Str))=false:=by decide):wpAny (model X.prog X.w) X.A (eval (.Name x pos) X.env) Q E s:=
 Calls.Name_function_global I.ok.kind hg (Calls.loadGlobal_global (by rw[I.ok.glob];exact I.mod.glob.keeps I.bk) hm h) hd
theorem iV{E:Value->Shared->Prop}{pins:List (Addr×Obj)}{s:Shared}{σ:St}{H:Hp}{x:Str}{u:Value}{pos:Pos}{Q:Value->Shared->Prop}(I:Inv X pins σ H s)(hg:Gl X x)(hm:X.mg x=none)(hv:bootBuiltins x=some u)(h:Q u s)
  (hn:x≠"__name__":=by decide) (hd:(x==("__debug__":Str))=false:=by decide):wpAny (model X.prog X.w) X.A (eval (.Name x pos) X.env) Q E s:=by
 obtain⟨mb,h1,h2⟩:=I.mod.blt
 exact Calls.Name_function_global I.ok.kind hg (Calls.loadGlobal_builtin (by rw[I.ok.glob];exact I.mod.glob.keeps I.bk) hm (by rw[I.ok.blt];exact h1.keeps I.bk) ((h2 x hn).trans hv) h) hd
theorem cA2{x:Str}{v:V}{u:Value}{pos:Pos}(hg:Gl X x)(hm:X.mg x=none)(hv:bootBuiltins x=some u)(r:eO v u)(hn:x≠"__name__":=by decide)(hd:(x==("__debug__":Str))=false:=by decide):PE X (.Name x pos) (tC v):=
 fun _ _ _ H _ I h=>iV I hg hm hv ⟨v,H,I,r,h⟩ hn hd
variable{a b:Expr}{ta tb:TE}{pos:Pos}
def tB(t:TE):TT:=fun σ H Q=>t σ H fun x H1=>∃ c,x=.bl c/\Q c H1
theorem cN8{e:Expr}{t:TE}(h:PE X e t)(he:∀ whole,isTrue e X.env whole=(do let v ← whole;standAt e.pos;holding [v] (truthy v)):=by intro _;rfl):PT X e (tB t):=by
 intro pins s σ H Q I hw
 refine isTrue_plain (thn (h pins s σ H _ I hw) fun v s1 ⟨x,H1,I1,r1,q1⟩=>?_) (he _)
 obtain⟨d,rfl,q⟩:=q1
 cases r1
 exact wpAny_truthy_bool ⟨H1,I1,q⟩
variable{tA tB':TT}{gF:List Expr}
def dG2(t u:TT):TT:=fun σ H Q=>t σ H fun c H1=>if c=true then u σ H1 Q else Q false H1
def tOr(t u:TT):TT:=fun σ H Q=>t σ H fun c H1=>if c=true then Q true H1 else u σ H1 Q
def dG3(t:TT):TT:=fun σ H Q=>t σ H fun c H1=>Q (!c) H1
theorem aU7(ha:PT X a tA):PW X (.BoolOp .And [a] pos) tA:=by
 intro wh pins s σ H Q I h
 refine isTrue_and (thn (ha pins s σ H Q I h) fun c s1 e=>?_)
 cases c with
 | true=>exact isTrue_and_nil e
 | false=>exact e
theorem aU8(ha:PT X a tA)(hb:PW X (.BoolOp .And (b::gF) pos) tB'):PW X (.BoolOp .And (a::b::gF) pos) (dG2 tA tB'):=by
 intro wh pins s σ H Q I h
 refine isTrue_and (thn (ha pins s σ H _ I h) fun c s1 ⟨H1,I1,q1⟩=>?_)
 cases c with
 | true=>exact hb wh pins s1 σ H1 Q I1 q1
 | false=>exact⟨H1,I1,q1⟩
theorem cN9(ha:PT X a tA):PT X (.UnaryOp .Not a pos) (dG3 tA):=by
 intro pins s σ H Q I h
 exact isTrue_not (ha pins s σ H (fun c H1=>Q (!c) H1) I h)
def cO0(ta tb:TE):TE:=fun σ H Q=>ta σ H fun x H1=>∃ c,x=.bl c/\if c=true then tb σ H1 Q else Q (.bl false) H1
def dK1(ta tb:TE):TE:=fun σ H Q=>ta σ H fun x H1=>∃ c,x=.bl c/\if c=true then Q (.bl true) H1 else tb σ H1 Q
def dB7(ta:TE):TE:=fun σ H Q=>ta σ H fun x H1=>∃ c,x=.bl c/\Q (.bl (!c)) H1
theorem cO1{op}{t:TE}(h:PE X a t):PE X (.BoolOp op [a] pos) t:=fun pins s σ H Q I hw=>BoolOp_one (h pins s σ H Q I hw)
theorem cO2(ha:PE X a ta)(hb:PE X (.BoolOp .And (b::gF) pos) tb):PE X (.BoolOp .And (a::b::gF) pos) (cO0 ta tb):=by
 intro pins s σ H Q I h
 refine BoolOp_and (thn (ha pins s σ H _ I h) fun v s1 ⟨x,H1,I1,r1,q1⟩=>?_)
 obtain⟨c,rfl,q1⟩:=q1
 cases r1
 refine wpAny_truthy_bool ?_
 cases c with
 | true=>exact hb pins s1 σ H1 Q I1 q1
 | false=>exact⟨.bl false,H1,I1,rfl,q1⟩
def tIf(t:TT)(ta tb:TE):TE:=fun σ H Q=>t σ H fun c H1=>if c=true then ta σ H1 Q else tb σ H1 Q
end
def SqL(K:PySem.W.Frag)(H:Hp)(a:Addr)(xs:List V):Prop:=
 Rd H a (.lst xs) \/
  ∃ (o:Obj) (its:Array Value) (n:Nat),K.lookup a=some o/\o.cls=.type "list"/\o.dict=none/\o.data=.seq its n/\its.size<=sizeLine/\cE xs its.toList
def SqT(K:PySem.W.Frag)(H:Hp)(a:Addr)(xs:List V):Prop:=
 Rd H a (.tup xs) \/
  ∃ (o:Obj) (its:Array Value) (n:Nat),K.lookup a=some o/\o.cls=.type "tuple"/\o.data=.seq its n/\its.size<=sizeLine/\cE xs its.toList
def dK2:Value->Option V
 | .none=>some .non
 | .bool b=>some (.bl b)
 | .int i _=>some (.int i)
 | .str x _=>some (.str x)
 | .bytes b _=>some (.byt b)
 | .float b _=>some (.flt b)
 | .ref a=>some (.ref a)
 | .type n=>some (.ty n)
 | _=>none
theorem eO.abs{x:V}{u:Value}(r:eO x u):dK2 u=some x:=by
 cases x with
 | non=>cases r;rfl
 | bl _=>cases r;rfl
 | int _=>obtain⟨t,rfl⟩:=r;rfl
 | str _=>obtain⟨t,rfl⟩:=r;rfl
 | byt _=>obtain⟨t,rfl⟩:=r;rfl
 | flt _=>obtain⟨t,rfl⟩:=r;rfl
 | ref _=>cases r;rfl
 | ty _=>cases r;rfl
theorem eO.inj{x y:V}{u:Value}(r:eO x u)(q:eO y u):x=y:=Option.some.inj (r.abs.symm.trans q.abs)
theorem cE.inj:∀ {xs ys:List V} {us:List Value},cE xs us->cE ys us->xs=ys
 | _,_,_,.nil,.nil=>rfl
 | _,_,_,.cons r t,.cons r' t'=>by rw[r.inj r',cE.inj t t']
section
variable{X:Cx}{pins:List (Addr×Obj)}{σ:St}{H:Hp}{s:Shared}{a:Addr}{xs ys:List V}
theorem SqL.of{K:PySem.W.Frag}(h:H a=some (.lst xs)):SqL K H a xs:=.inl (.inl h)
theorem SqT.of{K:PySem.W.Frag}(h:H a=some (.tup xs)):SqT K H a xs:=.inl (.inl h)
theorem Inv.list(I:Inv X pins σ H s)(h:SqL X.K H a xs):∃ its:List Value,cE xs its/\PlainL s.heap a its.toArray/\xs.length<=sizeLine:=by
 rcases h with h | ⟨o,its,n,hk,hc,hd,hs,hz,r⟩
 ·obtain⟨z,its,n,r,e⟩:=h.ok I.hok
  exact⟨its,r,⟨_,n,e,rfl,rfl,rfl⟩,z⟩
 ·refine⟨its.toList,r,⟨o,n,I.kIn a o hk,hc,hd,by simpa using hs⟩,?_⟩
  have e:=r.length
  simp only[Array.length_toList]at e
  omega
theorem Inv.tuple(I:Inv X pins σ H s)(h:SqT X.K H a xs):∃ its:List Value,cE xs its/\IsTup s.heap a its.toArray/\xs.length<=sizeLine:=by
 rcases h with h | ⟨o,its,n,hk,hc,hs,hz,r⟩
 ·obtain⟨z,its,r,p,_⟩:=h.ok I.hok
  exact⟨its,r,p,z⟩
 ·refine⟨its.toList,r,⟨o,I.kIn a o hk,hc,n,by simpa using hs⟩,?_⟩
  have e:=r.length
  simp only[Array.length_toList]at e
  omega
theorem Inv.list_inj(I:Inv X pins σ H s)(h:SqL X.K H a xs)(h':SqL X.K H a ys):xs=ys:=by
 obtain⟨its,r,⟨o,n,e,_,_,d⟩,_⟩:=I.list h
 obtain⟨its',r',⟨o',n',e',_,_,d'⟩,_⟩:=I.list h'
 rw[e]at e';cases e'
 rw[d]at d'
 injection d' with d1 _
 have:its=its':=by simpa using congrArg Array.toList d1
 subst this
 exact r.inj r'
theorem Inv.tuple_inj(I:Inv X pins σ H s)(h:SqT X.K H a xs)(h':SqT X.K H a ys):xs=ys:=by
 obtain⟨its,r,⟨o,e,_,n,d⟩,_⟩:=I.tuple h
 obtain⟨its',r',⟨o',e',_,n',d'⟩,_⟩:=I.tuple h'
 rw[e]at e';cases e'
 rw[d]at d'
 injection d' with d1 _
 have:its=its':=by simpa using congrArg Array.toList d1
 subst this
 exact r.inj r'
end
abbrev Cx.wish(X:Cx)(E:Value->Shared->Prop):Cx:={X with xe:=E}
abbrev Cx.nox(X:Cx):Cx:=X.wish fun _ _=>False
theorem Cx.Ok.wish{X:Cx}(ok:X.Ok)(E:Value->Shared->Prop):(X.wish E).Ok:=
 ⟨ok.mod,ok.kind,ok.glob,ok.blt,ok.above,ok.inj,ok.has,ok.cab,ok.hd,ok.frames,ok.stk,ok.exf,ok.bs,ok.bsz,ok.noex,ok.exfs,ok.funs,ok.frf⟩
theorem Cx.Ok.unwish{X:Cx}{E:Value->Shared->Prop}(ok:(X.wish E).Ok):X.Ok:=
 ⟨ok.mod,ok.kind,ok.glob,ok.blt,ok.above,ok.inj,ok.has,ok.cab,ok.hd,ok.frames,ok.stk,ok.exf,ok.bs,ok.bsz,ok.noex,ok.exfs,ok.funs,ok.frf⟩
section
variable{X:Cx}{pins:List (Addr×Obj)}{σ:St}{H:Hp}{s:Shared}{E:Value->Shared->Prop}
theorem Inv.wish(I:Inv X pins σ H s)(E:Value->Shared->Prop):Inv (X.wish E) pins σ H s:=⟨I.ok.wish E,I.os,I.bare,I.base,I.loc,I.cell,I.free,I.freeC,I.pin,I.hok,I.len⟩
theorem Inv.unwish(I:Inv (X.wish E) pins σ H s):Inv X pins σ H s:=⟨I.ok.unwish,I.os,I.bare,I.base,I.loc,I.cell,I.free,I.freeC,I.pin,I.hok,I.len⟩
theorem SP.unwish{D:Ends}{f:Flow}{s':Shared}(h:SP (X.wish E) pins D f s'):SP X pins D f s':=by
 cases f with
 | next=>obtain⟨σ',H',I,q⟩:=h;exact⟨σ',H',I.unwish,q⟩
 | brk=>obtain⟨σ',H',I,q⟩:=h;exact⟨σ',H',I.unwish,q⟩
 | cont=>obtain⟨σ',H',I,q⟩:=h;exact⟨σ',H',I.unwish,q⟩
 | ret u=>obtain⟨v,σ',H',I,r,q⟩:=h;exact⟨v,σ',H',I.unwish,r,q⟩
theorem PSs.nox{st:List Stmt}{t:TS}(h:PSs X.nox st t):PSs X st t:=fun pins s σ H D I hw=>
 wpAny_mono (h pins s σ H D (I.wish _) hw) (fun _ _ q=>q.unwish) fun _ _ z=>False.elim z
end
section
variable{X:Cx}{st:Stmt}{gF:List Stmt}{t u:TS}{e:Expr}{te:TE}{pos:Pos}
def cO3:TS:=fun D σ H=>D.nx σ H
def cZ8(t u:TS):TS:=fun D σ H=>t {D with nx:=u D} σ H
theorem oN:PSs X [] cO3:=fun _ _ σ H _ I h=>wpAny_execs_nil ⟨σ,H,I,h⟩
theorem fP(h1:PS X st t)(h2:PSs X gF u):PSs X (st::gF) (cZ8 t u):=by
 intro pins s σ H D I h
 refine wpAny_execs_cons (thn (h1 pins s σ H {D with nx:=u D} I h) fun f s1 q=>?_)
 cases f with
 | next=>
   obtain⟨σ',H',I',q⟩:=q
   exact h2 pins s1 σ' H' D I' q
 | ret v=>exact q
 | brk=>exact q
 | cont=>exact q
theorem iW(h1:PS X st t):PSs X [st] t:=by
 intro pins s σ H D I h
 refine wpAny_execs_cons (thn (h1 pins s σ H D I h) fun f s1 q=>?_)
 cases f with
 | next=>exact wpAny_execs_nil q
 | ret v=>exact q
 | brk=>exact q
 | cont=>exact q
theorem Inv.quiet{pins:List (Addr×Obj)}{σ:St}{H:Hp}{s:Shared}(I:Inv X pins σ H s):interactive X.env=false:=by simp[interactive,I.ok.kind]
def cO4(te:TE):TS:=fun D σ H=>te σ H fun _ H1=>D.nx σ H1
theorem sJ(he:PE X e te)(hs:swapsWith e none pos.line X.env=pure false:=by rfl):PS X (.Expr e pos) (cO4 te):=by
 intro pins s σ H D I h
 exact wpAny_Expr_any (thn (he pins s σ H _ I h) fun v s1 ⟨x,H1,I1,r1,q1⟩=>⟨σ,H1,I1,q1⟩) I.quiet hs
def dG4(te:TE):TS:=fun D σ H=>te σ H D.rt
theorem bT6(he:PE X e te):PS X (.Return (some e) pos) (dG4 te):=by
 intro pins s σ H D I h
 exact wpAny_Return_some (thn (he pins s σ H _ I h) fun v s1 ⟨x,H1,I1,r1,q1⟩=>⟨x,σ,H1,I1,r1,q1⟩)
def dB8:TS:=fun D _ H=>D.rt .non H
def dG5(c:TT)(t u:TS):TS:=fun D σ H=>c σ H fun b H1=>if b=true then t D σ H1 else u D σ H1
theorem aP9{c:Expr}{a b:List Stmt}{tc:TT}(hc:PT X c tc)(ha:PSs X a t)(hb:PSs X b u):PS X (.If c a b pos) (dG5 tc t u):=by
 intro pins s σ H D I h
 refine wpAny_If (thn (hc pins s σ H _ I h) fun d s1 ⟨H1,I1,q1⟩=>?_)
 cases d with
 | true=>exact ha pins s1 σ H1 D I1 q1
 | false=>exact hb pins s1 σ H1 D I1 q1
end
abbrev TG:=V->St->Hp->(St->Hp->Prop)->Prop
abbrev TGs:=List V->St->Hp->(St->Hp->Prop)->Prop
def PG(X:Cx)(target:Expr)(t:TG):Prop:=
 ∀ (pins:List (Addr×Obj)) (s:Shared) (σ:St) (H:Hp) (v:V) (u:Value) (Q:St->Hp->Prop),Inv X pins σ H s->eO v u->t v σ H Q ->
   wpAny (model X.prog X.w) X.A (assign target X.env u) (fun _ s'=>∃ σ' H',Inv X pins σ' H' s'/\Q σ' H') X.xe s
def PGs(X:Cx)(ts:List Expr)(t:TGs):Prop:=
 ∀ (pins:List (Addr×Obj)) (s:Shared) (σ:St) (H:Hp) (vs:List V) (us:List Value) (Q:St->Hp->Prop),Inv X pins σ H s->cE vs us->t vs σ H Q ->
   wpAny (model X.prog X.w) X.A (assignInOrder ((assignEach ts X.env).map (·.2)) us) (fun _ s'=>∃ σ' H',Inv X pins σ' H' s'/\Q σ' H') X.xe s
abbrev lY:=V->V->V->Hp->(Hp->Prop)->Prop
def dG6(X:Cx)(t:lY):Prop:=
 ∀ (pins:List (Addr×Obj)) (s:Shared) (σ:St) (H:Hp) (o i v:V) (ov iv u:Value) (Q:Hp->Prop),Inv X pins σ H s->eO o ov->eO i iv->eO v u->t o i v H Q ->
   wpAny (model X.prog X.w) X.A (setItem ov iv u) (fun _ s'=>∃ H',Inv X pins σ H' s'/\Q H') X.xe s
section
variable{X:Cx}{pos:Pos}
def sK(i:Nat):TG:=fun v σ H Q=>Q (σ.set i (some v)) H
theorem aX{i:Nat}{x:Str}(hN:X.N.Nodup)(hi:X.N[i]? = some x)(hx:Loc X.env.scope x)(hf:X.fn x=true\/X.env.scope.names.lookup x=some .local:=by first | exact .inl rfl | exact .inr rfl | assumption):PG X (.Name x pos) (sK i):=by
 intro pins s σ H v u Q I r h
 exact wpAny_assign_Name (nZ I hN hi hx r (fun s' I'=>⟨_,H,I',h⟩) hf)
def dB9:TGs:=fun vs σ H Q=>vs=[]/\Q σ H
def cA3(t:TG)(u:TGs):TGs:=fun vs σ H Q=>∃ v r,vs=v::r/\t v σ H fun σ' H'=>u r σ' H' Q
theorem lZ:PGs X [] dB9:=by
 intro pins s σ H vs us Q I r h
 obtain⟨e,h⟩:=h
 subst e
 cases r
 exact assignInOrder_nil ⟨σ,H,I,h⟩
theorem dR{e:Expr}{es:List Expr}{t:TG}{u:TGs}(h1:PG X e t)(h2:PGs X es u)
  (hs:(assignEach (e::es) X.env).map (·.2)=assign e X.env::(assignEach es X.env).map (·.2):=by rfl):PGs X (e::es) (cA3 t u):=by
 intro pins s σ H vs us Q I r h
 obtain⟨v,vr,e1,h⟩:=h
 subst e1
 cases r with
 | cons r rr=>
   rw[hs]
   refine assignInOrder_cons (thn (h1 pins s σ H _ _ _ I r h) fun _ s1 ⟨σ1,H1,I1,q1⟩=>?_)
   exact h2 pins s1 σ1 H1 _ _ Q I1 rr q1
def dK3(K:PySem.W.Frag)(n:Nat)(t:TGs):TG:=fun v σ H Q=>∃ a xs,v=.ref a/\SqT K H a xs/\xs.length=n/\t xs σ H Q
theorem cO5{es:List Expr}{k:Nat}{t:TGs}{n:Nat}(hc:X.calm=true)(h:PGs X es t)
  (hn:(assignEach es X.env).length=n:=by rfl) (hst:(assignEach es X.env).findIdx? (·.1)=none:=by rfl):PG X (.Tuple es k pos) (dK3 X.K n t):=by
 intro pins s σ H v u Q I r hw
 obtain⟨a,xs,e1,hq,hl,hw⟩:=hw
 subst e1
 cases r
 obtain⟨its,rv,ht,hz⟩:=I.tuple hq
 refine assign_Tuple_tuple (I.ok.hd hc) ht (by simp[hn,← hl,rv.length]) hst fun h' hx=>?_
 have I1:Inv X pins σ H {s with heap:=h'}:=I.kept (t':=s.toks) fun b o e=>hx b o (Nat.ne_of_lt (Heap.lt_size e)) e
 exact h pins _ σ H xs _ Q I1 (by simpa using rv) hw
def dC0(to ti:TE)(t:lY):TG:=fun v σ H Q=>to σ H fun o H1=>ti σ H1 fun i H2=>t o i v H2 fun H3=>Q σ H3
theorem aU9{o i:Expr}{to ti:TE}{t:lY}(ho:PE X o to)(hi:PE X i ti)(hs:dG6 X t)
  (ha:∀ v,assign (.Subscript o i pos) X.env v=(do
   let ov ← holding [v] (eval o X.env)
   let iv ← holding [v,ov] (eval i X.env)
   standAt pos
   holding [v,ov,iv] (setItem ov iv v)
   release [v,ov,iv] []):=by intro _;rfl):PG X (.Subscript o i pos) (dC0 to ti t):=by
 intro pins s σ H v u Q I r h
 rw[ha]
 refine wpAny_bind (wpAny_holding (thn (ho pins s σ H _ I h) fun ov s1 ⟨x,H1,I1,r1,q1⟩=>?_))
 refine wpAny_bind (wpAny_holding (thn (hi pins s1 σ H1 _ I1 q1) fun iv s2 ⟨y,H2,I2,r2,q2⟩=>?_))
 refine wpAny_bind (wpAny_standAt (wpAny_bind (wpAny_holding (thn (hs pins s2 σ H2 x y v ov iv u _ I2 r1 r2 r q2) fun _ s3 ⟨H3,I3,q3⟩=>?_))))
 exact wpAny_release ⟨σ,H3,I3,q3⟩
def cA4(te:TE)(g:TG):TS:=fun D σ H=>te σ H fun x H1=>g x σ H1 D.nx
theorem aA0{tg e:Expr}{te:TE}{g:TG}(he:PE X e te)(hg:PG X tg g)(hs:swapsWithSole [tg] e pos.line X.env=pure false:=by rfl)(hw:swappedStores [tg] e X.env=pure none:=by rfl)
  (h1:(assignEach [tg] X.env).map (·.2)=[assign tg X.env]:=by rfl):PS X (.Assign [tg] e pos) (cA4 te g):=by
 intro pins s σ H D I h
 refine wpAny_Assign_stores (thn (he pins s σ H _ I h) fun v s1 ⟨x,H1,I1,r1,q1⟩=>?_) hs hw
 rw[h1]
 exact thn (hg pins s1 σ H1 x v _ I1 r1 q1) fun _ s2 q=>q
theorem vF{i:Nat}{x:Str}{e:Expr}{te:TE}{pos':Pos}(hN:X.N.Nodup)(hi:X.N[i]? = some x)(hx:Loc X.env.scope x)(he:PE X e te)(hs:swapsWith e (some (.Name x pos')) pos.line X.env=pure false:=by rfl)(hf:X.fn x=true\/X.env.scope.names.lookup x=some .local:=by first | exact .inl rfl | exact .inr rfl | assumption) :
  PS X (.Assign [.Name x pos'] e pos) (cA4 te (sK i)):=by
 intro pins s σ H D I h
 refine wpAny_Assign_Name (thn (he pins s σ H _ I h) fun v s1 ⟨y,H1,I1,r1,q1⟩=>?_) hs
 exact nZ I1 hN hi hx r1 (fun s2 I2=>⟨_,H1,I2,q1⟩) hf
def dC1(i j:Nat)(ta:TA):TS:=fun D σ H=>ta σ H fun vs H1=>∃ v w,vs=[v,w]/\D.nx ((σ.set i (some v)).set j (some w)) H1
theorem cO6{i j:Nat}{x y:Str}{a b:Expr}{ta:TA}{px py pt:Pos}{kt k2 pt2}(hc:X.calm=true)(hN:X.N.Nodup)(hi:X.N[i]? = some x)(hj:X.N[j]? = some y)(hij:i≠j)
  (hx:X.env.scope.names.lookup x=some .local) (hy:X.env.scope.names.lookup y=some .local) (ha:PA X [a,b] ta)
  (hw:swappedStores [.Tuple [.Name x px,.Name y py] kt pt] (.Tuple [a,b] k2 pt2) X.env=pure (some [x,y]))
  (hs:swapsWithSole [.Tuple [.Name x px,.Name y py] kt pt] (.Tuple [a,b] k2 pt2) pos.line X.env=pure false:=by rfl) :
  PS X (.Assign [.Tuple [.Name x px,.Name y py] kt pt] (.Tuple [a,b] k2 pt2) pos) (dC1 i j ta):=by
 intro pins s σ H D I h
 rw[exec_Assign_arm]
 refine wpAny_bind (wpAny_standAt ?_)
 rw[hs]
 refine wpAny_bind (wpAny_pure ?_)
 rw[if_neg (by decide)]
 refine wpAny_bind (Tuple_ (thn (ha _ pins s σ H _ I h) fun us s1 ⟨vs,H1,I1,r1,q1⟩=>?_))
 obtain⟨v,w,e1,q1⟩:=q1
 subst e1
 obtain⟨u1,u2,rfl,rv,rw'⟩:∃ u1 u2,us=[u1,u2]/\eO v u1/\eO w u2:=by
  cases r1 with
  | cons p q=>
    cases q with
    | cons p' q'=>
      cases q'
      exact⟨_,_,rfl,p,p'⟩
 refine wpAny_newObj_type ?_ (by show 2<=sizeLine;decide)
 have I2:Inv X pins σ H1 {s1 with heap:=s1.heap.push {cls:=.type "tuple",data:=.seq [u1,u2].toArray}}:=I1.kept (t':=s1.toks) fun b o e=>Heap.get?_push_of_some _ e
 rw[hw]
 refine wpAny_bind (wpAny_pure ?_)
 show wpAny (model X.prog X.w) X.A (do rule "assign.swapped-stores";let items ← unpackItems (.ref s1.heap.objs.size) 2 none;assignInOrder [fun v=>bindName X.env y v,fun v=>bindName X.env x v] items.reverse;pure Flow.next) _ _ _
 refine wpAny_bind (wpAny_rule (wpAny_bind (unpackItems_tuple (items:=#[u1,u2]) (I.ok.hd hc) (IsTup.new s1.heap _) fun h' hx'=>?_)))
 have I3:=I2.kept (h':=h') (t':=s1.toks) fun b o e=>hx' b o (Nat.ne_of_lt (Heap.lt_size e)) e
 show wpAny _ _ (assignInOrder [fun v=>bindName X.env y v,fun v=>bindName X.env x v] [u2,u1] >>= fun _=>pure Flow.next) _ _ _
 refine wpAny_bind (assignInOrder_cons (wpAny_bindName (nZ I3 hN hj (.inl hy) rw' (fun s2 I4=>?_) (.inr hy))))
 refine assignInOrder_cons (wpAny_bindName (nZ I4 hN hi (.inl hx) rv (fun s3 I5=>assignInOrder_nil (wpAny_pure ?_)) (.inr hx)))
 rw[List.set_comm _ _ (Ne.symm hij)]at I5
 exact⟨_,H1,I5,q1⟩
end
section
variable{X:Cx}{pos:Pos}
def aV0(c:TT)(tb:TS):TS:=fun D σ H=>∃ W:Nat->St->Hp->Prop,(∃ m,W m σ H)/\∀ m σ H,W m σ H ->
 c σ H fun b H1=>if b=true then ∃ N:St->Hp->Prop,(∀ σ' H',N σ' H'->∃ m',m' < m/\W m' σ' H')/\tb {D with nx:=N,ct:=N,bk:=D.nx} σ H1 else D.nx σ H1
theorem bK4{c:Expr}{body:List Stmt}{tc:TT}{tb:TS}(hp:PassesOwn (model X.prog X.w) X.A X.env X.xe)(hc:PT X c tc)(hb:PSs X body tb):PS X (.While c body [] pos) (aV0 tc tb):=by
 intro pins s σ H D I h
 obtain⟨W,⟨m0,w0⟩,turn⟩:=h
 refine wpAny_While (codeAny_whileLoop (fun n s'=>∃ σ' H',Inv X pins σ' H' s'/\W n σ' H') ?_ m0 ⟨σ,H,I,w0⟩)
 rintro n s1 ⟨σ1,H1,I1,w1⟩
 refine wpAny_passesOwn hp (thn (hc pins s1 σ1 H1 _ I1 (turn n σ1 H1 w1)) fun b s2 ⟨H2,I2,q2⟩=>?_)
 cases b with
 | true=>
   obtain⟨N,hN,q2⟩:=q2
   rw[if_pos rfl]
   refine wpAny_passesOwn hp (thn (hb pins s2 σ1 H2 _ I2 q2) fun f s3 q3=>?_)
   cases f with
   | next=>
     obtain⟨σ3,H3,I3,n3⟩:=q3
     obtain⟨m',hm,w3⟩:=hN σ3 H3 n3
     exact⟨m',hm,σ3,H3,I3,w3⟩
   | cont=>
     obtain⟨σ3,H3,I3,n3⟩:=q3
     obtain⟨m',hm,w3⟩:=hN σ3 H3 n3
     exact⟨m',hm,σ3,H3,I3,w3⟩
   | brk=>exact q3
   | ret v=>exact q3
 | false=>
   rw[if_neg Bool.false_ne_true]
   exact wpAny_execs_nil ⟨σ1,H2,I2,q2⟩
end
structure It where
 go:Nat->Hp->Prop
 yld:Nat->Hp->V->Hp->Prop
 stop:Nat->Hp->Prop
def aV1(X:Cx)(pins:List (Addr×Obj))(H:Hp)(b:Addr):Prop:=
 H b=none/\b≠X.env.locals/\b∉X.fs/\(b∈X.ex\/X.s₀.heap.objs.size<=b)/\(∀ x c,X.env.cells.lookup x=some c->c≠b)/\∀ p∈X.pn++pins,p.1≠b
theorem Inv.fpOk{X:Cx}{pins:List (Addr×Obj)}{σ:St}{H H':Hp}{s:Shared}{b:Addr}(I:Inv X pins σ H s)(hb:s.heap.objs.size<=b)(hn:H' b=none):aV1 X pins H' b:=by
 refine⟨hn,Nat.ne_of_gt (Nat.lt_of_lt_of_le I.lt hb),I.nofs hb,.inr (Nat.le_trans I.sz hb),fun x c e z=>?_,fun p hp z=>?_⟩
 ·obtain⟨v,q⟩:=I.cell x c e
  exact absurd (Nat.lt_of_lt_of_le q.lt (by rw[z];exact hb)) (Nat.lt_irrefl _)
 ·exact absurd (Nat.lt_of_lt_of_le (Heap.lt_size (I.pin p hp).1) (by rw[z];exact hb)) (Nat.lt_irrefl _)
structure Turn(P:Program)(w:World)(K:PySem.W.Frag)(tg:Expr)(J:It)(fp:List Addr)(it:Addr)(tn:Nat->Heap->Prop):Prop where
 mem:it∈fp
 obj:∀ i h,tn i h->∀ b∈fp,∃ o,h.get? b=some o/\∀ v,o.data≠.cell v
 keep:∀ i h h',tn i h->(∀ b∈fp,∀ o,h.get? b=some o->h'.get? b=some o)->tn i h'
 item:∀ (X:Cx),X.prog=P->X.w=w->X.K=K->X.calm=true->∀ (i:Nat) (pins:List (Addr×Obj)) (s:Shared) (σ:St) (H:Hp) (E:Value->Shared->Prop),Inv X pins σ H s->(∀ b∈fp,aV1 X pins H b)->tn i s.heap->J.go i H ->
  wpAny (model P w) X.A (pyNext (.ref it)) (fun r s1=>∃ u,r=some u /\
   wpAny (model P w) X.A (letOwnedTupleGo tg (.ref it) u) (fun _ s2=>∃ x H',Inv X pins σ H' s2/\eO x u/\J.yld i H x H'/\tn (i+1) s2.heap/\∀ b∈fp,H' b=none) E s1) E s
 done:∀ (X:Cx),X.prog=P->X.w=w->X.K=K->X.calm=true->∀ (i:Nat) (pins:List (Addr×Obj)) (s:Shared) (σ:St) (H:Hp) (E:Value->Shared->Prop),Inv X pins σ H s->(∀ b∈fp,aV1 X pins H b)->tn i s.heap->J.stop i H ->
  wpAny (model P w) X.A (pyNext (.ref it)) (fun r s1=>r=none/\Inv X pins σ H s1) E s
 self:∀ (A:Around) (i:Nat) (s:Shared) (Q:Value->Shared->Prop) (E:Value->Shared->Prop),tn i s.heap->Q (.ref it) s->wpAny (model P w) A (pyIter (.ref it)) Q E s
abbrev TI:=St->Hp->(It->Hp->Prop)->Prop
def PIE(X:Cx)(pins:List (Addr×Obj))(σ:St)(tg:Expr)(R:It->Hp->Prop)(itv:Value)(s2:Shared):Prop:=
 ∃ (it:Addr) (fp:List Addr) (tn:Nat->Heap->Prop) (J:It) (H':Hp),itv=.ref it/\Inv X pins σ H' s2/\Turn X.prog X.w X.K tg J fp it tn/\tn 0 s2.heap/\(∀ b∈fp,aV1 X pins H' b)/\R J H'
def PI(X:Cx)(tg iter:Expr)(wi:TI):Prop:=
 ∀ (pins:List (Addr×Obj)) (s:Shared) (σ:St) (H:Hp) (R:It->Hp->Prop),Inv X pins σ H s->wi σ H R ->
   wpAny (model X.prog X.w) X.A (eval iter X.env) (fun v s1=>wpAny (model X.prog X.w) X.A (pyIter v) (PIE X pins σ tg R) X.xe s1) X.xe s
theorem aV2{M:Model}{A:Around}{E:Value->Shared->Prop}{s:Shared}{tg:Expr}{it:Addr}{u:Value}{o:Obj}{n:String}{vs:Array Value}{Q:Unit->Shared->Prop}(ho:s.heap.get? it=some o)(hc:o.cls=.type n)(hd:o.data=.fields vs)
  (hn:["enumerate","zip","dict_itemiterator","dict_reverseitemiterator","odict_iterator","itertools.zip_longest","itertools.pairwise"].contains n=false) (hQ:Q () s):wpAny M A (letOwnedTupleGo tg (.ref it) u) Q E s:=by
 unfold letOwnedTupleGo
 cases tg<;>first
  | exact wpAny_pure hQ
  | (cases u<;>first
    | exact wpAny_pure hQ
    | (refine wpAny_bind (wpAny_load ho ?_)
       rw[hc,hd]
       show wpAny M A (if(["enumerate","zip","dict_itemiterator","dict_reverseitemiterator","odict_iterator","itertools.zip_longest","itertools.pairwise"].contains n&&vs[0]? == some (rawInt _))=true then _ else _) Q E s
       rw[if_neg (by intro h;rw[hn,Bool.false_and]at h;cases h)]
       exact wpAny_pure hQ))
def Itl(K:PySem.W.Frag)(a:Addr):It:=
 ⟨fun i H=>∃ xs x,SqL K H a xs/\xs[i]? = some x,fun i H x H'=>H'=H/\∀ xs,SqL K H a xs->xs[i]? = some x,fun i H=>∃ xs,SqL K H a xs/\xs.length<=i⟩
def Itt(K:PySem.W.Frag)(a:Addr):It:=
 ⟨fun i H=>∃ xs x,SqT K H a xs/\xs[i]? = some x,fun i H x H'=>H'=H/\∀ xs,SqT K H a xs->xs[i]? = some x,fun i H=>∃ xs,SqT K H a xs/\xs.length<=i⟩
def Itr(lo:Int)(n:Nat):It:=⟨fun i _=>i < n,fun i H x H'=>H'=H/\x=.int (lo+i),fun i _=>n<=i⟩
theorem aV3{P:Program}{w:World}{K:PySem.W.Frag}{tg:Expr}(a it:Addr):Turn P w K tg (Itl K a) [it] it (fun i h=>h.IsListIter it a i) where
 mem:=by simp
 obj:=fun i h st b hb=>by
  have e:b=it:=by simpa using hb
  subst e
  obtain⟨o,e,c,d⟩:=st
  exact⟨o,e,fun v z=>by rw[d]at z;cases z⟩
 keep:=fun i h h' st k=>st.at fun o e=>k it (by simp) o e
 item:=by
  intro X hP hw hK hc i pins s σ H E I hf st hg
  subst hP hw hK
  obtain⟨xs,x,hq,hx⟩:=hg
  obtain⟨its,rv,p,hz⟩:=I.list hq
  obtain⟨u,hu,ru⟩:=rv.get hx
  obtain⟨f0,f1,f2,f3,f4,f5⟩:=hf it (by simp)
  refine wpAny_pyNext_list_item st p.isList (x:=u) (by simpa using hu) fun h' st' sb=>?_
  have I1:Inv X pins σ H {s with heap:=h'}:=I.turned (t':=s.toks) (fun b o hb e=>(sb.2 b hb).trans e) f0 f1 f3 f4 f5
  obtain⟨o,e,c,d⟩:=id st'
  exact⟨u,rfl,aV2 (s:={s with heap:=h'}) e c d (by decide) ⟨x,H,I1,ru,⟨rfl,fun ys hy=>by rw[I.list_inj hy hq];exact hx⟩,st',fun b hb=>(hf b hb).1⟩⟩
 done:=by
  intro X hP hw hK hc i pins s σ H E I hf st hg
  subst hP hw hK
  obtain⟨xs,hq,hx⟩:=hg
  obtain⟨its,rv,p,hz⟩:=I.list hq
  obtain⟨f0,f1,f2,f3,f4,f5⟩:=hf it (by simp)
  have hl:=rv.length
  exact wpAny_pyNext_list_end (I.ok.hd hc) st p.isList (by simp;omega) fun h' eb=>⟨rfl,I.turned (t':=s.toks) (fun b o hb e=>eb b o hb e) f0 f1 f3 f4 f5⟩
 self:=fun _ _ _ _ _ st h=>wpAny_pyIter_listiter st h
theorem aQ0{P:Program}{w:World}{K:PySem.W.Frag}{tg:Expr}(a it:Addr):Turn P w K tg (Itt K a) [it] it (fun i h=>h.IsTupleIter it a i) where
 mem:=by simp
 obj:=fun i h st b hb=>by
  have e:b=it:=by simpa using hb
  subst e
  obtain⟨o,e,c,d⟩:=st
  exact⟨o,e,fun v z=>by rw[d]at z;cases z⟩
 keep:=fun i h h' st k=>st.at fun o e=>k it (by simp) o e
 item:=by
  intro X hP hw hK hc i pins s σ H E I hf st hg
  subst hP hw hK
  obtain⟨xs,x,hq,hx⟩:=hg
  obtain⟨its,rv,p,hz⟩:=I.tuple hq
  obtain⟨u,hu,ru⟩:=rv.get hx
  obtain⟨f0,f1,f2,f3,f4,f5⟩:=hf it (by simp)
  refine wpAny_pyNext_tuple_item st (show s.heap.IsTuple a its.toArray from p) (x:=u) (by simpa using hu) fun h' st' sb=>?_
  have I1:Inv X pins σ H {s with heap:=h'}:=I.turned (t':=s.toks) (fun b o hb e=>(sb.2 b hb).trans e) f0 f1 f3 f4 f5
  obtain⟨o,e,c,d⟩:=id st'
  exact⟨u,rfl,aV2 (s:={s with heap:=h'}) e c d (by decide) ⟨x,H,I1,ru,⟨rfl,fun ys hy=>by rw[I.tuple_inj hy hq];exact hx⟩,st',fun b hb=>(hf b hb).1⟩⟩
 done:=by
  intro X hP hw hK hc i pins s σ H E I hf st hg
  subst hP hw hK
  obtain⟨xs,hq,hx⟩:=hg
  obtain⟨its,rv,p,hz⟩:=I.tuple hq
  obtain⟨f0,f1,f2,f3,f4,f5⟩:=hf it (by simp)
  have hl:=rv.length
  exact wpAny_pyNext_tuple_end (I.ok.hd hc) st (show s.heap.IsTuple a its.toArray from p) (by simp;omega) fun h' eb=>⟨rfl,I.turned (t':=s.toks) (fun b o hb e=>eb b o hb e) f0 f1 f3 f4 f5⟩
 self:=fun _ _ _ _ _ st h=>wpAny_pyIter_tupleiter st h
theorem aQ1{P:Program}{w:World}{K:PySem.W.Frag}{tg:Expr}(it:Addr)(lo:Int)(n:Nat):Turn P w K tg (Itr lo n) [it] it (fun i h=>IsRangeIter h it (lo+(i:Nat)*1) ((n:Int)-(i:Nat)) 1) where
 mem:=by simp
 obj:=fun i h st b hb=>by
  have e:b=it:=by simpa using hb
  subst e
  exact⟨_,st,fun v z=>by
   have z':Data.fields _=Data.cell v:=z
   cases z'⟩
 keep:=fun i h h' st k=>k it (by simp) _ st
 item:=by
  intro X hP hw hK hc i pins s σ H E I hf st hg
  subst hP hw hK
  obtain⟨f0,f1,f2,f3,f4,f5⟩:=hf it (by simp)
  have W:=Walks.range (prog:=X.prog) (w:=X.w) (I.ok.hd hc) it lo 1 n
  refine W.item i s _ _ hg st fun v h' tk hv st' kk=>?_
  obtain⟨t,rfl⟩:=hv
  have I1:Inv X pins σ H {s with heap:=h',toks:=tk}:=I.turned (fun b o hb e=>kk b o (by simpa using hb) e) f0 f1 f3 f4 f5
  refine⟨_,rfl,aV2 (s:={s with heap:=h',toks:=tk}) (n:="range_iterator") st' rfl rfl (by decide) ⟨.int (lo+i),H,I1,⟨t,?_⟩,⟨rfl,rfl⟩,st',fun b hb=>(hf b hb).1⟩⟩
  rw[Int.mul_one]
 done:=by
  intro X hP hw hK hc i pins s σ H E I hf st hg
  subst hP hw hK
  obtain⟨f0,f1,f2,f3,f4,f5⟩:=hf it (by simp)
  exact wpAny_pyNext_range_end (I.ok.hd hc) st (by have:n<=i:=hg;omega) fun h' eb=>⟨rfl,I.turned (t':=s.toks) (fun b o hb e=>eb b o hb e) f0 f1 f3 f4 f5⟩
 self:=fun _ _ _ _ _ st h=>wpAny_pyIter_rangeiter st h
section
variable{X:Cx}{tg:Expr}
theorem aA1{pins:List (Addr×Obj)}{σ:St}{H:Hp}{s:Shared}{R:It->Hp->Prop}{E:Value->Shared->Prop}{lo hi:Int}{t u v:Tok}{tk:Nat}(I:Inv X pins σ H s)(h1:-(2 ^ 62)<=lo)(h2:lo < 2 ^ 62)(h3:-(2 ^ 62)<=hi)(h4:hi < 2 ^ 62)
  (q:R (Itr lo (hi-lo).toNat) H):wpAny (model X.prog X.w) X.A (pyIter (.ref s.heap.objs.size)) (PIE X pins σ tg R) E {s with heap:=s.heap.push {cls:=.type "range",data:=.fields #[.int lo t,.int hi u,.int 1 v]},toks:=tk}:=by
 refine wpAny_pyIter_range (IsRange.new ..) (small_one h1 h2 h3 h4) ?_
 have I1:Inv X pins σ H {s with heap:=s.heap.push {cls:=.type "range",data:=.fields #[.int lo t,.int hi u,.int 1 v]},toks:=tk}:=I.kept fun b o e=>Heap.get?_push_of_some _ e
 refine⟨(s.heap.push {cls:=.type "range",data:=.fields #[.int lo t,.int hi u,.int 1 v]}).objs.size,[(s.heap.push {cls:=.type "range",data:=.fields #[.int lo t,.int hi u,.int 1 v]}).objs.size],_,_,H,rfl,
  I1.kept (t':=tk) fun b o e=>Heap.get?_push_of_some _ e,aQ1 _ lo (hi-lo).toNat,?_,fun b hb=>?_,q⟩
 ·have e1:lo+((0:Nat):Int)*1=lo:=by simp
  have e2:(((hi-lo).toNat:Nat):Int)-((0:Nat):Int)=Builtin.Range.rangeSize lo hi 1:=by rw[rangeSize_one];split<;>omega
  show IsRangeIter _ _ (lo+((0:Nat):Int)*1) ((((hi-lo).toNat:Nat):Int)-((0:Nat):Int)) 1
  rw[e1,e2]
  exact Heap.get?_push_size _ rfl
 ·have e:b=(s.heap.push {cls:=.type "range",data:=.fields #[.int lo t,.int hi u,.int 1 v]}).objs.size:=by simpa using hb
  subst e
  exact I1.fpOk (Nat.le_refl _) (I1.hok.fresh (Nat.le_refl _))
def cA5(ta:TA):TI:=fun σ H R=>ta σ H fun vs H1=>∃ j:Int,vs=[.int j] /\ -(2 ^ 62)<=j/\j < 2 ^ 62/\R (Itr 0 j.toNat) H1
def cA6(ta:TA):TI:=fun σ H R=>ta σ H fun vs H1=>∃ i j:Int,vs=[.int i,.int j]/\(-(2 ^ 62)<=i/\i < 2 ^ 62 /\ -(2 ^ 62)<=j/\j < 2 ^ 62)/\R (Itr i (j-i).toNat) H1
theorem cU{a:Expr}{ta:TA}{p pos:Pos}(hg:Gl X "range")(hm:X.mg "range"=none)(ha:PA X [a] ta)(hs:starEach [a] X.env=[(false,eval a X.env)]:=by rfl):PI X tg (.Call (.Name "range" p) [a] [] pos) (cA5 ta):=by
 intro pins s σ H R I h
 refine Call_ (iV I hg hm boot_range (PyProof.Rows.callWith_type1 (thn (ha pos pins s σ H _ I h) fun us s1 ⟨vs,H1,I1,r1,q1⟩=>?_) hs rfl))
 obtain⟨j,e,q1,q2,q⟩:=q1
 subst e
 cases r1 with
 | cons r rr=>
   cases rr
   obtain⟨t,rfl⟩:=r
   exact call_range_1 (aA1 I1 (by omega) (by omega) q1 q2 (by simpa using q))
theorem aV4{a b:Expr}{ta:TA}{p pos:Pos}(hg:Gl X "range")(hm:X.mg "range"=none)(ha:PA X [a,b] ta)(hs:starEach [a,b] X.env=[(false,eval a X.env),(false,eval b X.env)]:=by rfl)(hs2:starEach [b] X.env=[(false,eval b X.env)]:=by rfl) :
  PI X tg (.Call (.Name "range" p) [a,b] [] pos) (cA6 ta):=by
 intro pins s σ H R I h
 refine Call_ (iV I hg hm boot_range (PyProof.Rows.callWith_type1 (thn (ha pos pins s σ H _ I h) fun us s1 ⟨vs,H1,I1,r1,q1⟩=>?_) (by rw[hs,hs2]) (by rw[hs2];rfl)))
 obtain⟨i,j,e,⟨q1,q2,q3,q4⟩,q⟩:=q1
 subst e
 cases r1 with
 | cons r rr=>
   cases rr with
   | cons r' rr=>
     cases rr
     obtain⟨t,rfl⟩:=r
     obtain⟨t',rfl⟩:=r'
     exact call_range_2 (aA1 I1 q1 q2 q3 q4 q)
def cZ9(wi:TI)(g:TG)(tb:TS):TS:=fun D σ H=>wi σ H fun J H1=>∃ W:Nat->Nat->St->Hp->Prop,(∃ m,W 0 m σ H1)/\∀ i m σ H,W i m σ H ->
 (J.stop i H/\D.nx σ H)\/(J.go i H/\∃ N:St->Hp->Prop,(∀ σ' H',N σ' H'->∃ m',m' < m/\W (i+1) m' σ' H')/\∀ x H',J.yld i H x H'->g x σ H' fun σ2 H2=>tb {D with nx:=N,ct:=N,bk:=D.nx} σ2 H2)
def oO(fp:List Addr)(h:Heap):List (Addr×Obj):=fp.filterMap fun b=>(h.get? b).map fun o=>(b,o)
theorem jP{fp:List Addr}{h:Heap}{b:Addr}{o:Obj}(hb:b∈fp)(e:h.get? b=some o):(b,o)∈oO fp h:=List.mem_filterMap.mpr ⟨b,hb,by rw[e];rfl⟩
theorem aV5{fp:List Addr}{h:Heap}{p:Addr×Obj}(hp:p∈oO fp h):p.1∈fp/\h.get? p.1=some p.2:=by
 obtain⟨b,hb,e⟩:=List.mem_filterMap.mp hp
 cases q:h.get? b with
 | none=>rw[q]at e;cases e
 | some o=>
   rw[q]at e
   have e':(b,o)=p:=Option.some.inj e
   subst e'
   exact⟨hb,q⟩
theorem Inv.pinned{pins:List (Addr×Obj)}{σ:St}{H:Hp}{s:Shared}{fp:List Addr}(I:Inv X pins σ H s)(hf:∀ b∈fp,aV1 X pins H b)(ho:∀ b∈fp,∃ o,s.heap.get? b=some o/\∀ v,o.data≠.cell v):Inv X (pins++oO fp s.heap) σ H s:=
 I.pins_of fun p hp=>(List.mem_append.mp hp).elim (fun z=>I.pin p (List.mem_append_right _ z)) fun z=>by
  obtain⟨hb,e⟩:=aV5 z
  obtain⟨f0,f1,f2,_⟩:=hf p.1 hb
  obtain⟨o,e',d⟩:=ho p.1 hb
  rw[e]at e';cases e'
  exact⟨e,f0,f1,f2,d⟩
theorem Inv.unpinned{pins pl:List (Addr×Obj)}{σ:St}{H:Hp}{s:Shared}(I:Inv X (pins++pl) σ H s):Inv X pins σ H s:=I.pins_of fun p hp=>I.pin p (List.mem_append_right _ (List.mem_append_left _ hp))
theorem iX{iter:Expr}{body:List Stmt}{wi:TI}{g:TG}{tb:TS}{pos:Pos}(hp:PassesOwn (model X.prog X.w) X.A X.env X.xe)(hc:X.calm=true)(hi:PI X tg iter wi)(hg:PG X tg g)(hb:PSs X body tb)
  (hs:∀ x,foldedSetIterable iter X.env x=pure x:=by intro _;rfl):PS X (.For tg iter body [] pos) (cZ9 wi g tb):=by
 intro pins s σ H D I h
 refine wpAny_For (thn (hi pins s σ H _ I h) fun v s1 h1=>thn h1 fun itv s2 h2=>?_) hs
 obtain⟨it,fp,tn,J,H2,e,I2,T,st2,f2,W,⟨m0,w0⟩,turn⟩:=h2
 subst e
 -- what stays true of the iterator's objects through the loop
 have stat:∀ {H':Hp},(∀ b∈fp,H' b=none)->∀ b∈fp,aV1 X pins H' b:=fun hn b hb=>⟨hn b hb,(f2 b hb).2⟩
 refine codeAny_forLoop_any (fun n s'=>∃ i σ' H',Inv X pins σ' H' s'/\tn i s'.heap/\(∀ b∈fp,H' b=none)/\W i n σ' H') ?_ m0 ⟨0,σ,H2,I2,st2,fun b hb=>(f2 b hb).1,w0⟩
 rintro n s3 ⟨i,σ3,H3,I3,st3,fr3,w3⟩
 rcases turn i n σ3 H3 w3 with⟨stop,qn⟩ | ⟨go,N,hN,step⟩
 ·refine wpAny_passesOwn hp (thn (T.done X rfl rfl rfl hc i pins s3 σ3 H3 X.xe I3 (stat fr3) st3 stop) fun r s4 ⟨hr,I4⟩=>?_)
  subst hr
  exact wpAny_execs_nil ⟨σ3,H3,I4,qn⟩
 ·refine wpAny_passesOwn hp (thn (T.item X rfl rfl rfl hc i pins s3 σ3 H3 X.xe I3 (stat fr3) st3 go) fun r s4 ⟨u,hr,h4⟩=>?_)
  subst hr
  refine wpAny_passesOwn hp (thn h4 fun _ s5 ⟨x,H5,I5,r5,y5,st5,fr5⟩=>?_)
  have I5':=I5.pinned (stat fr5) (T.obj _ _ st5)
  refine wpAny_passesOwn hp (thn (hg _ s5 σ3 H5 x u _ I5' r5 (step x H5 y5)) fun _ s6 ⟨σ6,H6,I6,q6⟩=>?_)
  refine wpAny_passesOwn hp (thn (hb _ s6 σ6 H6 _ I6 q6) fun f s7 q7=>?_)
  have again:∀ {σ7:St} {H7:Hp},Inv X (pins++oO fp s5.heap) σ7 H7 s7->N σ7 H7->∃ m,m < n/\∃ i σ' H',Inv X pins σ' H' s7/\tn i s7.heap/\(∀ b∈fp,H' b=none)/\W i m σ' H':=fun{σ7 H7} I7 n7=>by
   obtain⟨m',hm,w7⟩:=hN σ7 H7 n7
   refine⟨m',hm,i+1,σ7,H7,I7.unpinned,T.keep _ _ _ st5 fun b hb o e=>(I7.pin (b,o) (List.mem_append_right _ (List.mem_append_right _ (jP hb e)))).1,fun b hb=>?_,w7⟩
   obtain⟨o,e,d⟩:=T.obj _ _ st5 b hb
   exact(I7.pin (b,o) (List.mem_append_right _ (List.mem_append_right _ (jP hb e)))).2.1
  cases f with
  | next=>obtain⟨σ7,H7,I7,n7⟩:=q7;exact again I7 n7
  | cont=>obtain⟨σ7,H7,I7,n7⟩:=q7;exact again I7 n7
  | brk=>obtain⟨σ7,H7,I7,q7⟩:=q7;exact⟨σ7,H7,I7.unpinned,q7⟩
  | ret v=>obtain⟨x7,σ7,H7,I7,r7,q7⟩:=q7;exact⟨x7,σ7,H7,I7.unpinned,r7,q7⟩
end
abbrev R2:=V->V->Hp->VK->Prop
def OpR(X:Cx)(f:Value->Value->Sem Value)(r:R2):Prop:=
 ∀ (pins:List (Addr×Obj)) (s:Shared) (σ:St) (H:Hp) (x y:V) (v u:Value) (Q:VK),Inv X pins σ H s->eO x v->eO y u->r x y H Q ->
   wpAny (model X.prog X.w) X.A (f v u) (EP X pins σ Q) X.xe s
def UnR(X:Cx)(f:Value->Sem Value)(r:V->Hp->VK->Prop):Prop:=
 ∀ (pins:List (Addr×Obj)) (s:Shared) (σ:St) (H:Hp) (x:V) (v:Value) (Q:VK),Inv X pins σ H s->eO x v->r x H Q ->
   wpAny (model X.prog X.w) X.A (f v) (EP X pins σ Q) X.xe s
def jW(X:Cx)(f:Value)(r:List V->Hp->VK->Prop):Prop:=
 ∀ (pins:List (Addr×Obj)) (s:Shared) (σ:St) (H:Hp) (xs:List V) (us:List Value) (Q:VK),Inv X pins σ H s->cE xs us->r xs H Q ->
   wpAny (model X.prog X.w) X.A (call f us) (EP X pins σ Q) X.xe s
def dK4(X:Cx)(r:V->Hp->(Bool->Hp->Prop)->Prop):Prop:=
 ∀ (pins:List (Addr×Obj)) (s:Shared) (σ:St) (H:Hp) (x:V) (v:Value) (Q:Bool->Hp->Prop),Inv X pins σ H s->eO x v->r x H Q ->
   wpAny (model X.prog X.w) X.A (truthy v) (TP X pins σ Q) X.xe s
def tOp(r:R2)(ta tb:TE):TE:=fun σ H Q=>ta σ H fun x H1=>tb σ H1 fun y H2=>r x y H2 Q
def tUn(r:V->Hp->VK->Prop)(ta:TE):TE:=fun σ H Q=>ta σ H fun x H1=>r x H1 Q
def rI(C:Int->Int->Prop)(g:Int->Int->V):R2:=fun x y H Q=>∃ i j,x=.int i/\y=.int j/\C i j/\Q (g i j) H
def rI0(g:Int->Int->V):R2:=fun x y H Q=>∃ i j,x=.int i/\y=.int j/\Q (g i j) H
def rU(g:Int->V):V->Hp->VK->Prop:=fun x H Q=>∃ i,x=.int i/\Q (g i) H
section
variable{X:Cx}{a b c:Expr}{ta tb tc:TE}{pos:Pos}
theorem dC2(ha:PE X a ta)(hb:PE X b tb){pins:List (Addr×Obj)}{s:Shared}{σ:St}{H:Hp}{R:V->V->Hp->Prop}(I:Inv X pins σ H s)
  (h:ta σ H fun x H1=>tb σ H1 fun y H2=>R x y H2) {Q:Value->Shared->Prop} {f:Value->Value->Sem Value}
  (hf:∀ v u s2 x y H2,Inv X pins σ H2 s2->eO x v->eO y u->R x y H2->wpAny (model X.prog X.w) X.A (f v u) Q X.xe s2) :
  wpAny (model X.prog X.w) X.A (eval a X.env) (fun v s₁=>wpAny (model X.prog X.w) X.A (eval b X.env) (fun u s₂=>wpAny (model X.prog X.w) X.A (f v u) Q X.xe s₂) X.xe s₁) X.xe s:=by
 refine thn (ha pins s σ H _ I h) fun v s1 ⟨x,H1,I1,r1,q1⟩=>?_
 refine thn (hb pins s1 σ H1 _ I1 q1) fun u s2 ⟨y,H2,I2,r2,q2⟩=>?_
 exact hf v u s2 x y H2 I2 r1 r2 q2
theorem aQ2{op:Operator}{r:R2}(ho:OpR X (binaryOp op) r)(ha:PE X a ta)(hb:PE X b tb):PE X (.BinOp a op b pos) (tOp r ta tb):=by
 intro pins s σ H Q I h
 exact wpAny_BinOp (dC2 ha hb I h fun v u s2 x y H2 I2 rx ry q=>ho pins s2 σ H2 x y v u Q I2 rx ry q)
theorem dC3{op:UnaryOp}{r:V->Hp->VK->Prop}(ho:UnR X (unaryOp op) r)(ha:PE X a ta):PE X (.UnaryOp op a pos) (tUn r ta):=by
 intro pins s σ H Q I h
 exact UnaryOp_ (thn (ha pins s σ H _ I h) fun v s1 ⟨x,H1,I1,r1,q1⟩=>ho pins s1 σ H1 x v Q I1 r1 q1)
theorem opI{f:Value->Value->Sem Value}{C:Int->Int->Prop}{g:Int->Int->Int}
  (rule:∀ (i j:Int) (t u:Tok) (s:Shared) (Q:Value->Shared->Prop) (E:Value->Shared->Prop),C i j->Q (.int (g i j) s.toks) {s with toks:=s.toks+1}->wpAny (model X.prog X.w) X.A (f (.int i t) (.int j u)) Q E s) :
  OpR X f (rI C fun i j=>.int (g i j)):=by
 intro pins s σ H x y v u Q I rx ry h
 obtain⟨i,j,rfl,rfl,hc,q⟩:=h
 obtain⟨t,rfl⟩:=rx
 obtain⟨t',rfl⟩:=ry
 exact rule i j t t' s _ _ hc ⟨.int (g i j),H,I.tok _,⟨_,rfl⟩,q⟩
theorem dG7{f:Value->Value->Sem Value}{g:Int->Int->Int}
  (rule:∀ (i j:Int) (t u:Tok) (s:Shared) (Q:Value->Shared->Prop) (E:Value->Shared->Prop),Q (.int (g i j) s.toks) {s with toks:=s.toks+1}->wpAny (model X.prog X.w) X.A (f (.int i t) (.int j u)) Q E s) :
  OpR X f (rI0 fun i j=>.int (g i j)):=by
 intro pins s σ H x y v u Q I rx ry h
 obtain⟨i,j,rfl,rfl,q⟩:=h
 obtain⟨t,rfl⟩:=rx
 obtain⟨t',rfl⟩:=ry
 exact rule i j t t' s _ _ ⟨.int (g i j),H,I.tok _,⟨_,rfl⟩,q⟩
theorem dC4{f:Value->Value->Sem Value}{g:Int->Int->Bool}
  (rule:∀ (i j:Int) (t u:Tok) (s:Shared) (Q:Value->Shared->Prop) (E:Value->Shared->Prop),Q (.bool (g i j)) s->wpAny (model X.prog X.w) X.A (f (.int i t) (.int j u)) Q E s) :
  OpR X f (rI0 fun i j=>.bl (g i j)):=by
 intro pins s σ H x y v u Q I rx ry h
 obtain⟨i,j,rfl,rfl,q⟩:=h
 obtain⟨t,rfl⟩:=rx
 obtain⟨t',rfl⟩:=ry
 exact rule i j t t' s _ _ ⟨.bl (g i j),H,I,rfl,q⟩
def cK9(i j:Int):Prop:=0<=j/\j<=1000000/\i.natAbs < 2 ^ 64
def cO7(i j:Int):Prop:=(-(2 ^ 64) < i/\i < 2 ^ 64)\/(-(2 ^ 64) < j/\j < 2 ^ 64)
theorem cO7.ok{i j:Int}(h:cO7 i j):IntMulOk i j:=by
 rcases h with⟨h1,h2⟩ | ⟨h1,h2⟩
 ·exact .of_left (intBits_le_64 h1 h2)
 ·exact .of_right (intBits_le_64 h1 h2)
theorem cO8:OpR X (binaryOp .Add) (rI0 fun i j=>.int (i+j)):=dG7 fun _ _ _ _ _ _ _ q=>add_int q
theorem bT7:OpR X (binaryOp .Sub) (rI0 fun i j=>.int (i-j)):=dG7 fun _ _ _ _ _ _ _ q=>sub_int q
theorem cO9:OpR X (binaryOp .Mult) (rI cO7 fun i j=>.int (i*j)):=opI fun _ _ _ _ _ _ _ hc q=>mul_int q hc.ok
theorem iY:OpR X (binaryOp .Mod) (rI (fun _ j=>0 < j) fun i j=>.int (i % j)):=opI fun i j _ _ _ _ _ hc q=>by
 have h1:(0:Int) < j:=hc
 exact mod_int' (by omega) (by rw[Int.fmod_eq_emod_of_nonneg i (by omega)];exact q)
theorem cP0:OpR X (binaryOp .Pow) (rI cK9 fun i j=>.int (i ^ j.toNat)):=opI fun _ _ _ _ _ _ _ hc q=>pow_int_small hc.1 hc.2.1 hc.2.2 q
theorem unI{f:Value->Sem Value}{g:Int->Int}
  (rule:∀ (i:Int) (t:Tok) (s:Shared) (Q:Value->Shared->Prop) (E:Value->Shared->Prop),Q (.int (g i) s.toks) {s with toks:=s.toks+1}->wpAny (model X.prog X.w) X.A (f (.int i t)) Q E s) :
  UnR X f (rU fun i=>.int (g i)):=by
 intro pins s σ H x v Q I rx h
 obtain⟨i,rfl,q⟩:=h
 obtain⟨t,rfl⟩:=rx
 exact rule i t s _ _ ⟨.int (g i),H,I.tok _,⟨_,rfl⟩,q⟩
theorem cP1:UnR X (unaryOp .USub) (rU fun i=>.int (-i)):=unI fun _ _ _ _ _ q=>neg_int q
end
def cA7:V->V->Bool
 | .non,.non=>true | .non,.int _=>true | .int _,.non=>true | .non,.bl _=>true | .bl _,.non=>true | .non,.str _=>true | .str _,.non=>true
 | .int _,.int _=>true | .bl _,.bl _=>true | .str _,.str _=>true | .byt _,.byt _=>true
 | .int _,.str _=>true | .str _,.int _=>true | .bl _,.str _=>true | .str _,.bl _=>true
 | _,_=>false
def rEq:R2:=fun x y H Q=>cA7 x y=true/\Q (.bl (decide (x=y))) H
def rNe:R2:=fun x y H Q=>cA7 x y=true/\Q (.bl (!decide (x=y))) H
theorem aV6{i j:Int}:decide (V.int i=V.int j)=(i==j):=by
 rw[Bool.eq_iff_iff]
 simp
theorem bT8{i j:Bool}:decide (V.bl i=V.bl j)=(i==j):=by
 rw[Bool.eq_iff_iff]
 simp
theorem aV7{i j:Str}:decide (V.str i=V.str j)=(i==j):=by
 rw[Bool.eq_iff_iff]
 simp
theorem aV8{i j:Array UInt8}:decide (V.byt i=V.byt j)=(i.toList==j.toList):=by
 rw[Bool.eq_iff_iff]
 cases i
 cases j
 simp
section
variable{X:Cx}{a b c:Expr}{ta tb tc:TE}{pos:Pos}
theorem bK{pins:List (Addr×Obj)}{σ:St}{H:Hp}{s:Shared}{Q:VK}{k k':Bool}(I:Inv X pins σ H s)(q:Q (.bl k) H)(e:k=k'):EP X pins σ Q (.bool k') s:=by
 subst e
 exact⟨.bl k,H,I,rfl,q⟩
theorem dC5:OpR X (compareOp .Eq) rEq:=by
 intro pins s σ H x y v u Q I rx ry h
 obtain⟨hs,q⟩:=h
 cases x with
 | non=>
   cases rx
   cases y with
   | non=>cases ry;exact PySem.EqNone.eq_none_none (bK I q (by simp))
   | bl j=>cases ry;exact PySem.EqNone.eq_none_bool (bK I q (by simp))
   | int j=>obtain⟨t',rfl⟩:=ry;exact PySem.EqNone.eq_none_int (bK I q (by simp))
   | str j=>obtain⟨t',rfl⟩:=ry;exact PySem.EqNone.eq_none_str (bK I q (by simp))
   | _=>exact absurd (show false=true from hs) Bool.false_ne_true
 | bl i=>
   cases rx
   cases y with
   | non=>cases ry;exact PySem.EqNone.eq_bool_none (bK I q (by simp))
   | bl j=>cases ry;exact eq_bool (bK I q bT8)
   | str j=>obtain⟨t',rfl⟩:=ry;exact PySem.EqMixed.eq_bool_str (bK I q (by simp))
   | _=>exact absurd (show false=true from hs) Bool.false_ne_true
 | int i=>
   obtain⟨t,rfl⟩:=rx
   cases y with
   | non=>cases ry;exact PySem.EqNone.eq_int_none (bK I q (by simp))
   | int j=>obtain⟨t',rfl⟩:=ry;exact eq_int (bK I q aV6)
   | str j=>obtain⟨t',rfl⟩:=ry;exact PySem.EqMixed.eq_int_str (bK I q (by simp))
   | _=>exact absurd (show false=true from hs) Bool.false_ne_true
 | str i=>
   obtain⟨t,rfl⟩:=rx
   cases y with
   | non=>cases ry;exact PySem.EqNone.eq_str_none (bK I q (by simp))
   | bl j=>cases ry;exact PySem.EqMixed.eq_str_bool (bK I q (by simp))
   | int j=>obtain⟨t',rfl⟩:=ry;exact PySem.EqMixed.eq_str_int (bK I q (by simp))
   | str j=>obtain⟨t',rfl⟩:=ry;exact eq_str (bK I q aV7)
   | _=>exact absurd (show false=true from hs) Bool.false_ne_true
 | byt i=>
   obtain⟨t,rfl⟩:=rx
   cases y with
   | byt j=>obtain⟨t',rfl⟩:=ry;exact PySem.W.eq_bytes (bK I q aV8)
   | _=>exact absurd (show false=true from hs) Bool.false_ne_true
 | _=>cases y<;>exact absurd (show false=true from hs) Bool.false_ne_true
theorem dC6:OpR X (compareOp .NotEq) rNe:=by
 intro pins s σ H x y v u Q I rx ry h
 obtain⟨hs,q⟩:=h
 cases x with
 | non=>
   cases rx
   cases y with
   | non=>cases ry;exact PySem.EqNone.ne_none_none (bK I q (by simp))
   | bl j=>cases ry;exact PySem.EqNone.ne_none_bool (bK I q (by simp))
   | int j=>obtain⟨t',rfl⟩:=ry;exact PySem.EqNone.ne_none_int (bK I q (by simp))
   | str j=>obtain⟨t',rfl⟩:=ry;exact PySem.EqNone.ne_none_str (bK I q (by simp))
   | _=>exact absurd (show false=true from hs) Bool.false_ne_true
 | bl i=>
   cases rx
   cases y with
   | non=>cases ry;exact PySem.EqNone.ne_bool_none (bK I q (by simp))
   | bl j=>cases ry;exact ne_bool (bK I q (congrArg not bT8))
   | str j=>obtain⟨t',rfl⟩:=ry;exact PySem.EqMixed.ne_bool_str (bK I q (by simp))
   | _=>exact absurd (show false=true from hs) Bool.false_ne_true
 | int i=>
   obtain⟨t,rfl⟩:=rx
   cases y with
   | non=>cases ry;exact PySem.EqNone.ne_int_none (bK I q (by simp))
   | int j=>obtain⟨t',rfl⟩:=ry;exact ne_int (bK I q (congrArg not aV6))
   | str j=>obtain⟨t',rfl⟩:=ry;exact PySem.EqMixed.ne_int_str (bK I q (by simp))
   | _=>exact absurd (show false=true from hs) Bool.false_ne_true
 | str i=>
   obtain⟨t,rfl⟩:=rx
   cases y with
   | non=>cases ry;exact PySem.EqNone.ne_str_none (bK I q (by simp))
   | bl j=>cases ry;exact PySem.EqMixed.ne_str_bool (bK I q (by simp))
   | int j=>obtain⟨t',rfl⟩:=ry;exact PySem.EqMixed.ne_str_int (bK I q (by simp))
   | str j=>obtain⟨t',rfl⟩:=ry;exact ne_str (bK I q (congrArg not aV7))
   | _=>exact absurd (show false=true from hs) Bool.false_ne_true
 | byt i=>
   obtain⟨t,rfl⟩:=rx
   cases y with
   | byt j=>obtain⟨t',rfl⟩:=ry;exact PySem.W.ne_bytes (bK I q (congrArg not aV8))
   | _=>exact absurd (show false=true from hs) Bool.false_ne_true
 | _=>cases y<;>exact absurd (show false=true from hs) Bool.false_ne_true
theorem aQ3:OpR X (compareOp .Lt) (rI0 fun i j=>.bl (decide (i < j))):=dC4 fun _ _ _ _ _ _ _ q=>lt_int q
theorem bK5:OpR X (compareOp .Gt) (rI0 fun i j=>.bl (decide (j < i))):=dC4 fun _ _ _ _ _ _ _ q=>gt_int q
theorem dC7:OpR X (compareOp .GtE) (rI0 fun i j=>.bl (decide (j<=i))):=dC4 fun _ _ _ _ _ _ _ q=>ge_int q
theorem aV9:OpR X (compareOp .In) (fun x y H Q=>∃ i j,x=.str i/\y=.str j/\Q (.bl (!(Builtin.Str.occurrences j i 0 j.length 1).isEmpty)) H):=by
 intro pins s σ H x y v u Q I rx ry h
 obtain⟨i,j,rfl,rfl,q⟩:=h
 obtain⟨t,rfl⟩:=rx
 obtain⟨t',rfl⟩:=ry
 exact in_str (bK I q rfl)
theorem vG:OpR X (compareOp .NotIn) (fun x y H Q=>∃ i j,x=.str i/\y=.str j/\Q (.bl (!(!(Builtin.Str.occurrences j i 0 j.length 1).isEmpty))) H):=by
 intro pins s σ H x y v u Q I rx ry h
 obtain⟨i,j,rfl,rfl,q⟩:=h
 obtain⟨t,rfl⟩:=rx
 obtain⟨t',rfl⟩:=ry
 exact notIn_str (bK I q rfl)
theorem OpR.or{f:Value->Value->Sem Value}{r r':R2}(h:OpR X f r)(h':OpR X f r'):OpR X f (fun x y H Q=>r x y H Q\/r' x y H Q):=by
 intro pins s σ H x y v u Q I rx ry q
 rcases q with q | q
 ·exact h pins s σ H x y v u Q I rx ry q
 ·exact h' pins s σ H x y v u Q I rx ry q
theorem cF(b:Expr){op:CmpOp}(h:op≠.In:=by decide)(h2:op≠.NotIn:=by decide):behindInMarks op b=false:=by
 have e1:(op==CmpOp.In)=false:=by cases op<;>first | rfl | exact absurd rfl h
 have e2:(op==CmpOp.NotIn)=false:=by cases op<;>first | rfl | exact absurd rfl h2
 cases b<;>simp[behindInMarks,e1,e2]
theorem cA8{op:CmpOp}{r:R2}(ho:OpR X (compareOp op) r)(ha:PE X a ta)(hb:PE X b tb)(hm:behindInMarks op b=false):PE X (.Compare a [op] [b] pos) (tOp r ta tb):=by
 intro pins s σ H Q I h
 exact wpAny_Compare1 (dC2 ha hb I h fun v u s2 x y H2 I2 rx ry q=>ho pins s2 σ H2 x y v u Q I2 rx ry q) hm
def cP2(t:TE):TT:=fun σ H Q=>t σ H fun x H'=>∃ k,x=.bl k/\Q k H'
theorem iE{op:CmpOp}{r:R2}(ho:OpR X (compareOp op) r)(ha:PE X a ta)(hb:PE X b tb)(hm:behindInMarks op b=false):PT X (.Compare a [op] [b] pos) (cP2 (tOp r ta tb)):=by
 intro pins s σ H Q I h
 refine wpAny_isTrue_Compare1 (thn (ha pins s σ H _ I h) fun v s1 ⟨x,H1,I1,r1,q1⟩=>thn (hb pins s1 σ H1 _ I1 q1) fun u s2 ⟨y,H2,I2,r2,q2⟩=>
  thn (ho pins s2 σ H2 x y v u _ I2 r1 r2 q2) fun c s3 ⟨z,H3,I3,r3,k,e,q3⟩=>?_) hm
 subst e
 cases r3
 exact wpAny_truthy_bool ⟨H3,I3,q3⟩
def cP3(r r':R2)(ta tb tc:TE):TE:=fun σ H Q=>ta σ H fun x H1=>tb σ H1 fun y H2=>r x y H2 fun z H3=>∃ k,z=.bl k /\
 (if k=true then tc σ H3 fun w' H4=>r' y w' H4 Q else Q (.bl false) H3)
def dG8(K:PySem.W.Frag)(x:V)(H:Hp)(k:Bool):Prop:=
 match x with
 | .non=>k=false
 | .bl b=>k=b
 | .int i=>k=(i != 0)
 | .str y=>y.length<=sizeLine/\k=((y.length:Int) != 0)
 | .byt y=>y.size<=sizeLine/\k=((y.size:Int) != 0)
 | .ref p=>(∃ xs,SqL K H p xs/\k = !xs.isEmpty)\/(∃ xs,SqT K H p xs/\k = !xs.isEmpty)\/∃ kvs,H p=some (.dK kvs)/\k = !kvs.isEmpty
 | _=>False
theorem aQ4{κ:Type}{kvs:List (κ×V)}{vs:List (κ×Value)}(r:KV kvs vs):(!vs.isEmpty) = !kvs.isEmpty:=by
 cases r<;>rfl
theorem rB{xs:List V}{its:List Value}(r:cE xs its):(!its.toArray.isEmpty) = !xs.isEmpty:=by
 cases r<;>simp
theorem oP:(sizeLine:Nat) < 2 ^ 63:=by rw[sizeLine_eq];decide
theorem cP4:dK4 X (fun x H Q=>∃ k,dG8 X.K x H k/\Q k H):=by
 intro pins s σ H x v Q I rx h
 obtain⟨k,e,q⟩:=h
 have hl:=oP
 have hs:sizeLine=16777216:=sizeLine_eq
 cases x with
 | non=>
   cases rx
   have e':k=false:=e
   subst e'
   exact truthy_none ⟨H,I,q⟩
 | bl b=>
   cases rx
   have e':k=b:=e
   subst e'
   exact wpAny_truthy_bool ⟨H,I,q⟩
 | int i=>
   obtain⟨t,rfl⟩:=rx
   have e':k=(i != 0):=e
   subst e'
   exact PySem.P.truthy_int ⟨H,I,q⟩
 | str y=>
   obtain⟨t,rfl⟩:=rx
   obtain⟨hy,e'⟩:y.length<=sizeLine/\k=((y.length:Int) != 0):=e
   subst e'
   exact PySem.P.truthy_str (by omega) ⟨H,I.tok _,q⟩
 | byt y=>
   obtain⟨t,rfl⟩:=rx
   obtain⟨hy,e'⟩:y.size<=sizeLine/\k=((y.size:Int) != 0):=e
   subst e'
   exact PySem.W.truthy_bytes (by omega) ⟨H,I.tok _,q⟩
 | ref p=>
   cases rx
   have e':(∃ xs,SqL X.K H p xs/\k = !xs.isEmpty)\/(∃ xs,SqT X.K H p xs/\k = !xs.isEmpty)\/∃ kvs,H p=some (.dK kvs)/\k = !kvs.isEmpty:=e
   rcases e' with⟨xs,hx,e'⟩ | ⟨xs,hx,e'⟩ | ⟨kvs,hx,e'⟩
   ·subst e'
    obtain⟨its,r,pl,hz⟩:=I.list hx
    have hlen:=r.length
    exact wpAny_truthy_list pl.isList (by simp only[List.size_toArray];omega) ⟨H,I.tok _,by rw[rB r];exact q⟩
   ·subst e'
    obtain⟨its,r,pl,hz⟩:=I.tuple hx
    have hlen:=r.length
    exact truthy_tuple pl (by simp only[List.size_toArray];omega) ⟨H,I.tok _,by rw[rB r];exact q⟩
   ·subst e'
    obtain⟨hz,hS,vs,r,m⟩:kvs.length<=sizeLine/\(p==sysModules)=false/\∃ vs,KV kvs vs/\s.heap.DictOf (xV X.prog X.w) p vs:=I.hok p _ hx
    have hlen:kvs.length=vs.length:=Paired.length r
    exact wpAny_truthy_dict hS m (by omega) ⟨H,I.tok _,by rw[aQ4 r];exact q⟩
 | _=>exact(show False from e).elim
theorem bK6(ha:PE X a ta)(he:∀ whole,isTrue a X.env whole=(do let v ← whole;standAt a.pos;holding [v] (truthy v))) :
  PT X a (fun σ H Q=>ta σ H fun x H'=>∃ k,dG8 X.K x H' k/\Q k H'):=by
 intro pins s σ H Q I h
 exact isTrue_plain (thn (ha pins s σ H _ I h) fun v s1 ⟨x,H1,I1,r1,q1⟩=>cP4 pins s1 σ H1 x v Q I1 r1 q1) (he _)
theorem aQ5:OpR X (binaryOp .Add) (fun x y H Q=>∃ i j,x=.str i/\y=.str j/\i.length+j.length<=sizeLine/\Q (.str (i++j)) H):=by
 intro pins s σ H x y v u Q I rx ry h
 obtain⟨i,j,rfl,rfl,hz,q⟩:=h
 obtain⟨t,rfl⟩:=rx
 obtain⟨t',rfl⟩:=ry
 exact add_str (fun t' tk=>⟨.str (i++j),H,I.tok _,⟨_,rfl⟩,q⟩) hz
theorem xW{x:V}{us:List Value}(r:cE [x] us):∃ u,us=[u]/\eO x u:=by
 cases r with
 | cons r1 r2=>cases r2;exact⟨_,rfl,r1⟩
theorem cA9{x y:V}{us:List Value}(r:cE [x,y] us):∃ u w',us=[u,w']/\eO x u/\eO y w':=by
 cases r with
 | cons r1 r2=>
   cases r2 with
   | cons r3 r4=>cases r4;exact⟨_,_,rfl,r1,r3⟩
theorem aW0(hc:X.calm=true):jW X (.builtin "max") (fun xs H Q=>∃ i j,xs=[.int i,.int j]/\Q (.int (if j > i then j else i)) H):=by
 intro pins s σ H xs us Q I r h
 obtain⟨i,j,rfl,q⟩:=h
 obtain⟨u,w',rfl,⟨t,rfl⟩,⟨t',rfl⟩⟩:=cA9 r
 refine max_two_ints (I.ok.hd hc) fun h' tk k=>⟨_,H,I.kept k,?_,q⟩
 by_cases hj:j > i
 ·rw[if_pos hj,if_pos hj];exact⟨_,rfl⟩
 ·rw[if_neg hj,if_neg hj];exact⟨_,rfl⟩
theorem oQ(hc:X.calm=true):jW X (.builtin "min") (fun xs H Q=>∃ i j,xs=[.int i,.int j]/\Q (.int (if j < i then j else i)) H):=by
 intro pins s σ H xs us Q I r h
 obtain⟨i,j,rfl,q⟩:=h
 obtain⟨u,w',rfl,⟨t,rfl⟩,⟨t',rfl⟩⟩:=cA9 r
 refine min_two_ints (I.ok.hd hc) fun h' tk k=>⟨_,H,I.kept k,?_,q⟩
 by_cases hj:j < i
 ·rw[if_pos hj,if_pos hj];exact⟨_,rfl⟩
 ·rw[if_neg hj,if_neg hj];exact⟨_,rfl⟩
theorem vH:jW X (.type "int") (fun xs H Q=>(∃ i,xs=[.int i]/\Q (.int i) H)\/∃ k,xs=[.bl k]/\Q (.int (if k then 1 else 0)) H):=by
 intro pins s σ H xs us Q I r h
 rcases h with⟨i,rfl,q⟩ | ⟨k,rfl,q⟩
 ·obtain⟨u,rfl,t,rfl⟩:=xW r
  exact call_int_int ⟨.int i,H,I,⟨_,rfl⟩,q⟩
 ·obtain⟨u,rfl,r1⟩:=xW r
  cases r1
  exact call_int_bool ⟨.int (if k then 1 else 0),H,I.tok _,⟨_,rfl⟩,q⟩
end
structure ObjM(h:Heap)(x dx C:Addr)(mA:Str->Option Value):Prop where
 obj:h.get? x=some (PySem.W.instObj C dx)
 ns:h.Ns1 dx mA
 ne:dx≠x
theorem aW1{h:Heap}{dx:Addr}{mA:Str->Option Value}(n:h.Ns1 dx mA):∃ od,h.get? dx=some od/\∀ name,PySem.W.lookIn name od=some (mA name):=by
 obtain⟨o,es,ep,ho,hd,hk,_,hm⟩:=n
 refine⟨o,ho,fun name=>?_⟩
 have e:=hm name
 unfold nsFind findBy at e
 rw[← Array.find?_toList]at e
 unfold PySem.W.lookIn
 rw[hd]
 dsimp only
 split
 ·rename_i y q
  rw[q]at e
  exact congrArg some e
 ·rename_i q
  rw[q]at e
  have a:es.toList.any (·.refKey)=false:=by
   rw[List.any_eq_false]
   intro y hy
   obtain⟨z,t,hkey⟩:=hk y (Array.mem_toList_iff.mp hy)
   simp[DictEntry.refKey,hkey]
  have a':¬ es.toList.any (·.refKey)=true:=by rw[a];exact Bool.false_ne_true
  rw[if_neg a']
  exact congrArg some e
theorem ObjM.look{h:Heap}{x dx C:Addr}{mA:Str->Option Value}(I:ObjM h x dx C mA):∃ od,PySem.W.InstAt h x (PySem.W.instObj C dx) C (some od)/\∀ name,PySem.W.lookIn name od=some (mA name):=
 let ⟨od,ho,hl⟩:=aW1 I.ns
 ⟨od,⟨I.obj,rfl,rfl,ho⟩,hl⟩
section
variable{prog:Program}{w:World}{A:Around}{E:Value->Shared->Prop}{s:Shared}{K:PySem.W.Frag}{x dx C f:Addr}{mA:Str->Option Value}{name:Str}{v:Value}
end
section
variable{P:Program}{w:World}{H H':Hp}{h h':Heap}{a C dx:Addr}{fs fs':List (Str×V)}
theorem gM(hok:HOk P w H h)(e:H a=some (.ins C dx fs)):∃ mA,ObjM h a dx C mA/\(∀ f,dB5 (fs.lookup f) (mA f))/\PySem.Within mA (fs.map (·.1))/\fs.length<=1000/\H dx=some (.own a):=by
 obtain⟨d,z,ne,ob,mA,n,r,q⟩:=(show eB P w H h a (.ins C dx fs)from hok a _ e)
 exact⟨mA,⟨ob,n,ne⟩,r,q,z,d⟩
end
structure Cls(K:PySem.W.Frag)(C:Addr):Prop where
 pg:PySem.W.plainGet K C Str.empty=true
 hd:PySem.W.hasDictIn K C=true
 po:PySem.W.plainOver K C=true
 sa:PySem.W.findIn K (.ref C) "__setattr__"=some (some (.builtin "object.__setattr__"))
theorem Cls.get{K:PySem.W.Frag}{C:Addr}(c:Cls K C)(f:Str):PySem.W.plainGet K C f=true:=c.pg
section
variable{X:Cx}{pins:List (Addr×Obj)}{σ:St}{H:Hp}{s:Shared}{a C dx:Addr}{fs:List (Str×V)}{f:Str}{v:V}{A:Around}{E:Value->Shared->Prop}
end
section
variable{X:Cx}{o e value:Expr}{f:Str}{pos pos' tpos:Pos}{ta tv:TE}
end
section
variable{X:Cx}{pins:List (Addr×Obj)}{σ:St}{H:Hp}{s:Shared}{A:Around}{E:Value->Shared->Prop}{Q:Value->Shared->Prop}{c:Value}{b:Bool}
inductive TyOf(K:PySem.W.Frag)(H:Hp):V->Value->Prop where
 | non:TyOf K H .non (.type "NoneType")
 | bl (x:Bool):TyOf K H (.bl x) (.type "bool")
 | int (i:Int):TyOf K H (.int i) (.type "int")
 | str (x:Str):TyOf K H (.str x) (.type "str")
 | flt (x:UInt64):TyOf K H (.flt x) (.type "float")
 | lst {a:Addr} {xs:List V} (e:H a=some (.lst xs)):TyOf K H (.ref a) (.type "list")
 | frz {a:Addr} {o:Obj} {xs:List V} (e:H a=some (.frz o (.lst xs))):TyOf K H (.ref a) (.type "list")
 | tup {a:Addr} {xs:List V} (e:H a=some (.tup xs)):TyOf K H (.ref a) (.type "tuple")
 | dK {a:Addr} {kvs:List (Key×V)} (e:H a=some (.dK kvs)):TyOf K H (.ref a) (.type "dict")
 | dT {a:Addr} {kvs:List (List Key×V)} (e:H a=some (.dT kvs)):TyOf K H (.ref a) (.type "dict")
 | ins {a C dx:Addr} {fs:List (Str×V)} (e:H a=some (.ins C dx fs)) (cl:Cls K C) (ha:PySem.W.findIn K (.ref C) "__class__"=some (some (.builtin "object.__class__")))
   (hn:PySem.W.specialIn K (.builtin "object.__class__") "__get__"=some (some (.builtin "getset_descriptor.__get__"))) (htk:PySem.W.takesIn K (.builtin "object.__class__")=some true)
   (hm:PySem.W.mroIn K C (.type "object")=some true):TyOf K H (.ref a) (.ref C)
theorem aW2{x:V}{u t:Value}(I:Inv X pins σ H s)(rx:eO x u)(ty:TyOf X.K H x t)(e:PySem.W.kitOne X.K t c=some b)(h:∀ tk,Q (.bool b) {s with toks:=tk}) :
  wpAny (model X.prog X.w) A (call (.builtin "isinstance") [u,c]) Q E s:=by
 cases ty with
 | non=>cases (show u=Value.none from rx);exact PySem.W.kia_one PySem.W.kitx_none I.kIn True.intro e (fun z=>nomatch z) h
 | bl y=>cases (show u=Value.bool y from rx);exact PySem.W.kia_one PySem.W.kitx_bool I.kIn True.intro e (fun z=>nomatch z) h
 | int i=>obtain⟨t,q⟩:=(show ∃ t,u=Value.int i t from rx);cases q;exact PySem.W.kia_one PySem.W.kitx_int I.kIn True.intro e (fun z=>nomatch z) h
 | str y=>obtain⟨t,q⟩:=(show ∃ t,u=Value.str y t from rx);cases q;exact PySem.W.kia_one PySem.W.kitx_str I.kIn True.intro e (fun z=>nomatch z) h
 | flt y=>obtain⟨t,q⟩:=(show ∃ t,u=Value.float y t from rx);cases q;exact PySem.W.kia_one PySem.W.kitx_float I.kIn True.intro e (fun z=>nomatch z) h
 | @lst a xs ea=>
   cases (show u=Value.ref a from rx)
   obtain⟨_,_,n,_,h1⟩:=(show eB X.prog X.w H s.heap a (.lst xs)from I.hok a _ ea)
   exact PySem.W.kia_one PySem.W.kitx_list I.kIn ⟨_,h1,rfl⟩ e (fun z=>nomatch z) h
 | @frz a ob xs ea=>
   cases (show u=Value.ref a from rx)
   obtain⟨_,_,_,n,_,h1⟩:=(show eB X.prog X.w H s.heap a (.frz ob (.lst xs))from I.hok a _ ea)
   exact PySem.W.kia_one PySem.W.kitx_list I.kIn ⟨_,h1,rfl⟩ e (fun z=>nomatch z) h
 | @tup a xs ea=>
   cases (show u=Value.ref a from rx)
   obtain⟨_,_,_,p,_⟩:=(show eB X.prog X.w H s.heap a (.tup xs)from I.hok a _ ea)
   obtain⟨o,h1,h2,_⟩:=p
   exact PySem.W.kia_one PySem.W.kitx_tuple I.kIn ⟨o,h1,h2⟩ e (fun z=>nomatch z) h
 | @dK a kvs ea=>
   cases (show u=Value.ref a from rx)
   obtain⟨_,_,vs,_,p⟩:=(show eB X.prog X.w H s.heap a (.dK kvs)from I.hok a _ ea)
   obtain⟨o,es,ep,h1,h2,_⟩:=p
   exact PySem.W.kia_one PySem.W.kitx_dict I.kIn ⟨o,h1,h2.1⟩ e (fun z=>nomatch z) h
 | @dT a kvs ea=>
   cases (show u=Value.ref a from rx)
   obtain⟨_,_,xs,_,o,es,ep,h1,h2,_⟩:=(show eB X.prog X.w H s.heap a (.dT kvs)from I.hok a _ ea)
   exact PySem.W.kia_one PySem.W.kitx_dict I.kIn ⟨o,h1,h2.1⟩ e (fun z=>nomatch z) h
 | @ins a C dx fs ea cl ha hn htk hm=>
   cases (show u=Value.ref a from rx)
   obtain⟨mA,O,_⟩:=gM I.hok ea
   obtain⟨od,J,_⟩:=O.look
   exact PySem.W.kia_one (PySem.W.kitx_own (cl.get _) cl.hd ha hn htk hm) I.kIn J e (fun z=>nomatch z) h
end
structure Room(k:Nat)(A:Around):Prop where
 hd:A.handled=none
 dp:A.depth+3*k+5 < recursionLimit
 un:A.units+16*k+200 < cLine
theorem Room.mono{j k:Nat}{A:Around}(r:Room k A)(h:j<=k):Room j A:=⟨r.hd,by have:=r.dp;omega,by have:=r.un;omega⟩
theorem Room.deeper{k:Nat}{A:Around}(r:Room (k+1) A)(env:Env):Room k (A.deeper env):=
 ⟨r.hd,by have:=r.dp;show A.depth+1+3*k+5 < _;omega,by have:=r.un;show A.units+3+16*k+200 < _;omega⟩
theorem Room.depth{k:Nat}{A:Around}(r:Room k A):A.depth < recursionLimit:=by have:=r.dp;omega
theorem Room.units{k:Nat}{A:Around}(r:Room k A):A.units+64 < cLine:=by have:=r.un;omega
def dC8:TA:=fun _ H Q=>Q [] H
def bK7(ta:TE)(tr:TA):TA:=fun σ H Q=>ta σ H fun x H1=>tr σ H1 fun xs H2=>Q (x::xs) H2
section
variable{X:Cx}{e:Expr}{es:List Expr}{te:TE}{t:TA}{pos:Pos}
theorem eD:PA X [] dC8:=fun _ _ _ _ H Q I h=>Calls.spliced_nil ⟨[],H,I,.nil,h⟩
theorem bI(ha:PE X e te)(hr:PA X es t)(hs:starEach (e::es) X.env=(false,eval e X.env)::starEach es X.env:=by rfl):PA X (e::es) (bK7 te t):=by
 intro pos pins s σ H Q I h
 rw[hs]
 show wpAny _ _ (spliced ((false,eval e X.env)::backTo pos (starEach es X.env))) _ _ s
 refine Calls.spliced_cons (thn (ha pins s σ H _ I h) fun u s1 ⟨x,H1,I1,r1,q1⟩=>?_)
 exact thn (hr pos pins s1 σ H1 _ I1 q1) fun us s2 ⟨xs,H2,I2,r2,q2⟩=>⟨x::xs,H2,I2,.cons r1 r2,q2⟩
def dG9(t:TA):TE:=fun σ H Q=>t σ H fun xs H1=>xs.length<=sizeLine/\∀ p,H1 p=none->Q (.ref p) (upd H1 p (.tup xs))
def dH0(t:TA):TE:=fun σ H Q=>t σ H fun xs H1=>xs.length<=sizeLine/\∀ p,H1 p=none->Q (.ref p) (upd H1 p (.lst xs))
theorem cP5{x1}(h:PA X es t):PE X (.Tuple es x1 pos) (dG9 t):=by
 intro pins s σ H Q I hq
 refine wpAny_Tuple_spliced (thn (h pos pins s σ H _ I hq) fun us s1 ⟨xs,H1,I1,r,z,q⟩=>⟨by rw[← r.length];exact z,?_⟩)
 have hf:H1 s1.heap.objs.size=none:=I1.hok.fresh (Nat.le_refl _)
 refine⟨.ref s1.heap.objs.size,upd H1 s1.heap.objs.size (.tup xs),I1.laid (t':=s1.toks) (fun b u e=>Heap.get?_push_of_some _ e) (Nat.le_refl _) ?_,rfl,q _ hf⟩
 exact⟨z,us,r,⟨_,Heap.get?_push_size _ rfl,rfl,_,rfl⟩,⟨_,Heap.get?_push_size _ rfl,rfl⟩⟩
theorem bT9(h:PA X es t):PE X (.List es pos) (dH0 t):=by
 intro pins s σ H Q I hq
 refine wpAny_List_spliced (thn (h pos pins s σ H _ I hq) fun us s1 ⟨xs,H1,I1,r,z,q⟩=>⟨by rw[← r.length];exact z,?_⟩)
 have hf:H1 s1.heap.objs.size=none:=I1.hok.fresh (Nat.le_refl _)
 refine⟨.ref s1.heap.objs.size,upd H1 s1.heap.objs.size (.lst xs),I1.laid (t':=s1.toks) (fun b u e=>Heap.get?_push_of_some _ e) (Nat.le_refl _) ?_,rfl,q _ hf⟩
 exact⟨z,us,0,r,Heap.get?_push_size _ rfl⟩
end
abbrev Sp:=List V->Hp->VK->XK->Prop
abbrev CXT:=List Env->Hp->Shared->XK->Value->Shared->Prop
structure Env0(P:Program)(w:World)(K:PySem.W.Frag)(mg:Str->Option Value)(base:Heap)(A:Around)(outer:List Env)(s:Shared)(H:Hp):Prop where
 frames:A.frames=some outer
 mod:Mod K mg base
 bs:∀ b o,base.get? b=some o->s.heap.get? b=some o/\H b=none
 bsz:base.objs.size<=s.heap.objs.size
 funs:s.heap.FunFrames base outer
 frf:∀ b∈frs outer,H b=none
 hok:HOk P w H s.heap
 bare:AllBare s.gens
def CE(outer:List Env)(P:Program)(w:World)(H:Hp)(s:Shared)(Q:VK)(u:Value)(s':Shared):Prop:=
 ∃ v H',s'.os=s.os/\AllBare s'.gens/\Un (frs outer) [] H H' s.heap s'.heap/\HOk P w H' s'.heap/\eO v u/\Q v H'
def CR(CX:CXT)(outer:List Env)(P:Program)(w:World)(H:Hp)(s:Shared)(Q:VK)(E:XK)(r:Result)(s':Shared):Prop:=
 match r with
 | .ok (.ret u)=>CE outer P w H s Q u s'
 | .ok _=>False
 | .error e=>CX outer H s E e s'
structure FnOk(P:Program)(w:World)(K:PySem.W.Frag)(mg:Str->Option Value)(base:Heap)(CX:CXT)(k:Nat)(f:Addr)(fd:FuncData)(ps:List Str)(sp:Sp):Prop where
 len:∀ vs H Q E,sp vs H Q E->vs.length=ps.length
 run:∀ (A:Around) (outer:List Env) (s:Shared) (H:Hp) (args:Args) (us:List Value) (vs:List V) (Q:VK) (E:XK),Room k A->Env0 P w K mg base A outer s H->BindsTo s fd args (ps.zip us)->cE vs us->sp vs H Q E ->
  codeAny (model P w) A (.call (.ref f) args) (CR CX outer P w H s Q E) s
theorem FnOk.imp{P:Program}{w:World}{K:PySem.W.Frag}{mg:Str->Option Value}{base:Heap}{CX:CXT}{k:Nat}{f:Addr}{fd:FuncData}{ps:List Str}{sp sp':Sp}(F:FnOk P w K mg base CX k f fd ps sp)
  (h:∀ vs H Q E,sp' vs H Q E->sp vs H Q E):FnOk P w K mg base CX k f fd ps sp':=
 ⟨fun vs H Q E q=>F.len vs H Q E (h _ _ _ _ q),fun A outer s H args us vs Q E hr he hb hv hs=>F.run A outer s H args us vs Q E hr he hb hv (h _ _ _ _ hs)⟩
section
variable{X:Cx}{pins:List (Addr×Obj)}{σ:St}{H:Hp}{s s':Shared}
theorem Inv.env0(I:Inv X pins σ H s):Env0 X.prog X.w X.K X.mg X.base X.A X.stack s H:=
 ⟨I.ok.frames,I.ok.mod,I.bs,Nat.le_trans I.ok.bsz I.sz,I.stack,I.stkFree,I.hok,I.bare⟩
theorem Inv.after{Q:VK}{u:Value}(I:Inv X pins σ H s)(h:CE X.stack X.prog X.w H s Q u s'):EP X pins σ Q u s':=by
 obtain⟨v,H',os,bare,un,hok,r,q⟩:=h
 obtain⟨hh,g,d,t,os'⟩:=s'
 obtain rfl:os'=s.os:=os
 exact⟨v,H',I.call (h':=hh) (g':=g) (d':=d) (t':=t) (ch:=[]) un hok bare (fun b z=>absurd z (by simp)),r,q⟩
end
def aQ6(sp:Sp)(dvs:List V)(E:XK)(t:TA):TE:=fun σ H Q=>t σ H fun vs H1=>sp (vs++dvs) H1 Q E
def eE(K:PySem.W.Frag)(fd:FuncData)(ps:List Str)(ds:List Value):Prop:=
 ∀ (s:Shared) (us:List Value),K.In s.heap->(us++ds).length=ps.length->BindsTo s fd ⟨us,[]⟩ (ps.zip (us++ds))
theorem eE.all{K:PySem.W.Frag}{fd:FuncData}{ps:List Str}(h:∀ us:List Value,us.length=ps.length->bindArgs fd ⟨us,[]⟩=pure (ps.zip us)):eE K fd ps []:=fun s us _ hl=>by
 rw[List.append_nil]at hl ⊢
 exact .of_eq (h us hl)
def aW3(CX:CXT)(X:Cx)(E:XK):Prop:=∀ (pins:List (Addr×Obj)) (σ:St) (H:Hp) (s:Shared) (e:Value) (s':Shared),Inv X pins σ H s->CX X.stack H s E e s'->X.xe e s'
section
variable{X:Cx}{CX:CXT}{k:Nat}{f C:Addr}{fd:FuncData}{ps:List Str}{sp:Sp}{dvs:List V}{ds:List Value}{E:XK}{x m:Str}{p pos apos:Pos}{e o:Expr}{es:List Expr}{ta:TE}{t:TA}
theorem cP6{pins:List (Addr×Obj)}{σ:St}{H:Hp}{s:Shared}{Q:VK}{us:List Value}{vs:List V}(F:FnOk X.prog X.w X.K X.mg X.base CX k f fd ps sp)(hr:Room k X.A)(hb:eE X.K fd ps ds)(hd:cE dvs ds)(hx:aW3 CX X E)
  (I:Inv X pins σ H s) (r:cE vs us) (h:sp (vs++dvs) H Q E):wpAny (model X.prog X.w) X.A (call (.ref f) us) (EP X pins σ Q) X.xe s:=by
 have r2:cE (vs++dvs) (us++ds):=r.append hd
 have hl:(us++ds).length=ps.length:=by rw[← r2.length];exact F.len _ _ _ _ h
 refine wpAny_call (codeAny_mono (F.run X.A X.stack s H ⟨us,[]⟩ (us++ds) (vs++dvs) Q E hr I.env0 (hb s us I.kIn hl) r2 h) fun r s' hq=>?_)
 cases r with
 | error e=>exact hx pins σ H s e s' I hq
 | ok fl=>
   cases fl with
   | ret u=>exact I.after hq
   | next=>exact False.elim hq
   | brk=>exact False.elim hq
   | cont=>exact False.elim hq
theorem aI(F:FnOk X.prog X.w X.K X.mg X.base CX k f fd ps sp)(hr:Room k X.A)(hg:Gl X x)(hm:X.mg x=some (.ref f))(hk:PySem.W.keepIn X.K (.ref f)=true)(hb:eE X.K fd ps ds)(hd:cE dvs ds)(hx:aW3 CX X E)
  (ha:PA X (e::es) t) (hdb:(x==("__debug__":Str))=false:=by decide) (he:starEach (e::es) X.env=(false,eval e X.env)::starEach es X.env:=by rfl) (hpl:(backTo pos (starEach es X.env)).any (·.1)=false:=by rfl) :
  PE X (.Call (.Name x p) (e::es) [] pos) (aQ6 sp dvs E t):=by
 intro pins s σ H Q I h
 refine wpAny_Call_Name_kw (cA1 I hg hm ?_ hdb)
 refine PySem.W.callWith_K (h₀:=X.base) I.ok.mod.kin hk (thn (ha pos pins s σ H _ I h) fun us s1 ⟨vs,H1,I1,r,q⟩=>⟨I1.kIn,?_⟩) he hpl
 exact cP6 F hr hb hd hx I1 r q
end
def PK(X:Cx)(kws:List Keyword)(t:TA):Prop:=
 ∀ (pos:Pos) (pins:List (Addr×Obj)) (s:Shared) (σ:St) (H:Hp) (Q:List V->Hp->Prop),Inv X pins σ H s->t σ H Q->wpAny (model X.prog X.w) X.A (evalAll ((backToKw pos (keywordEach kws X.env)).map (·.2))) (AP X pins σ Q) X.xe s
section
variable{X:Cx}{CX:CXT}{k:Nat}{f C:Addr}{fd:FuncData}{ps ks:List Str}{sp:Sp}{E:XK}{x m:Str}{p pos apos kpos:Pos}{e o:Expr}{es:List Expr}{kws:List Keyword}{te ta:TE}{t tk:TA}{nm:Option Str}
variable{g:List Value->List Value->List Value}{gV:List V->List V->List V}
end
structure FnScope(N P:List Str)(sc:Scope):Prop where
 kind:sc.kind=.function
 co:sc.isCoroutine=false
 gen:sc.isGenerator=false
 nd:N.Nodup
 pre:N.take P.length=P
 par:∀ x∈P,sc.names.lookup x=some .local\/sc.names.lookup x=some .cell
 nofree:∀ y∈sc.names,y.2≠.free
theorem vI{kindOf:Str->Option NameKind}{x:Str}:∀ {binds:List (Str×Value)} {m:Str->Option Value},(∀ v,(x,v)∉binds)->bindL kindOf binds m x=m x
 | [],_,_=>rfl
 | (n,v)::r,m,h=>by
   unfold bindL
   rw[vI fun w hw=>h w (List.mem_cons_of_mem _ hw)]
   split
   ·have:x≠n:=by rintro rfl;exact h v List.mem_cons_self
    simp[this]
   ·rfl
theorem vJ{kindOf:Str->Option NameKind}{x:Str}:∀ {binds:List (Str×Value)} {m:Str->Option Value},(∀ v,(x,v)∉binds)->bindC kindOf binds m x=m x
 | [],_,_=>rfl
 | (n,v)::r,m,h=>by
   unfold bindC
   rw[vJ fun w hw=>h w (List.mem_cons_of_mem _ hw)]
   split
   ·rfl
   ·have:x≠n:=by rintro rfl;exact h v List.mem_cons_self
    simp[this]
theorem vK{kindOf:Str->Option NameKind}{x:Str}{v:Value}:∀ {P:List Str} {vs:List Value} {i:Nat} {m:Str->Option Value},P.Nodup->P[i]? = some x->vs[i]? = some v->kindOf x=some .local ->
  bindL kindOf (P.zip vs) m x=some v
 | [],_,_,_,_,h,_,_=>by simp at h
 | _::_,[],_,_,_,_,h,_=>by simp at h
 | p::P,w::vs,0,m,nd,h1,h2,hk=>by
   simp at h1 h2;subst h1;subst h2
   show bindL kindOf ((p,w)::P.zip vs) m p=_
   unfold bindL
   rw[vI fun v hv=>(List.nodup_cons.mp nd).1 (List.of_mem_zip hv).1,if_pos hk]
   simp
 | p::P,w::vs,i+1,m,nd,h1,h2,hk=>by
   show bindL kindOf ((p,w)::P.zip vs) m x=_
   unfold bindL
   exact vK (i:=i) (List.nodup_cons.mp nd).2 (by simpa using h1) (by simpa using h2) hk
theorem vL{kindOf:Str->Option NameKind}{x:Str}{v:Value}:∀ {P:List Str} {vs:List Value} {i:Nat} {m:Str->Option Value},P.Nodup->P[i]? = some x->vs[i]? = some v->kindOf x≠some .local ->
  bindC kindOf (P.zip vs) m x=some v
 | [],_,_,_,_,h,_,_=>by simp at h
 | _::_,[],_,_,_,_,h,_=>by simp at h
 | p::P,w::vs,0,m,nd,h1,h2,hk=>by
   simp at h1 h2;subst h1;subst h2
   show bindC kindOf ((p,w)::P.zip vs) m p=_
   unfold bindC
   rw[vJ fun v hv=>(List.nodup_cons.mp nd).1 (List.of_mem_zip hv).1,if_neg hk]
   simp
 | p::P,w::vs,i+1,m,nd,h1,h2,hk=>by
   show bindC kindOf ((p,w)::P.zip vs) m x=_
   unfold bindC
   exact vL (i:=i) (List.nodup_cons.mp nd).2 (by simpa using h1) (by simpa using h2) hk
def iF(N:List Str)(vs:List V):St:=vs.map some++List.replicate (N.length-vs.length) none
def bU0(CX:CXT)(P:Program)(w:World)(K:PySem.W.Frag)(mg:Str->Option Value)(base:Heap)(N:List Str)(qual:Str)(scope:Scope)(f:Addr)(cd:Value)(A:Around)(outer:List Env)(s:Shared)(H:Hp)(E:XK):Cx where
 prog:=P
 w:=w
 K:=K
 mg:=mg
 base:=base
 A:=A.deeper (envOfC qual scope s.heap.objs.size f cd)
 N:=N
 s₀:=s
 H₀:=H
 env:=envOfC qual scope s.heap.objs.size f cd
 outer:=outer
 stack:=envOfC qual scope s.heap.objs.size f cd::outer
 ex:=[]
 calm:=true
 fn:=fun _=>true
 pn:=[]
 xe:=fun e s'=>wpAny (model P w) (A.deeper (envOfC qual scope s.heap.objs.size f cd)) (leaving (envOfC qual scope s.heap.objs.size f cd) e) (fun _ s''=>CX outer H s E e s'') (fun e' s''=>CX outer H s E e' s'') s'
theorem aA2{sc:Scope}{n:Nat}{x:Str}(h:sc.names.lookup x=some .cell):∃ c,(cellsFrom n sc.names []).lookup x=some c:=by
 have q:=PySem.W.cellsFrom_some sc.names n [] (.inl h)
 exact Option.isSome_iff_exists.mp q
theorem aW4{CX:CXT}{P:Program}{w:World}{K:PySem.W.Frag}{mg:Str->Option Value}{base:Heap}{N ps:List Str}{qual:Str}{scope:Scope}{f:Addr}{cd:Value}{A:Around}{outer:List Env}{s s1:Shared}{H:Hp}{E:XK}{us:List Value}{vs:List V}
  (S:FnScope N ps scope) (hd:A.handled=none) (e0:Env0 P w K mg base A outer s H) (hl:vs.length=ps.length) (r:cE vs us)
  (x:InCallC s s.heap.objs.size (bindL (envOfC qual scope s.heap.objs.size f cd).kindOf (ps.zip us) fun _=>none) (cellsFrom (s.heap.objs.size+1) scope.names []) (bindC (envOfC qual scope s.heap.objs.size f cd).kindOf (ps.zip us) fun _=>none) s1) :
  Inv (bU0 CX P w K mg base N qual scope f cd A outer s H E) [] (iF N vs) H s1:=by
 have hpl:ps.length<=N.length:=by have:=congrArg List.length S.pre;rw[List.length_take]at this;omega
 obtain⟨h1,tk,rfl,hk⟩:=x.done
 have noA:∀ b:Addr,b∉(bU0 CX P w K mg base N qual scope f cd A outer s H E).ex:=fun b z=>absurd (show b∈([]:List Addr)from z) (by simp)
 refine⟨⟨e0.mod,S.kind,rfl,rfl,Nat.le_refl _,fun y z c h1 h2=>?_,fun y hy=>?_,fun y c _ h=>?_,fun _=>hd,Around.frames_deeper e0.frames,.inr ⟨rfl,rfl⟩,fun b z=>absurd z (noA b),e0.bs,e0.bsz,fun b _ _=>noA b,fun b z=>absurd z (noA b),e0.funs,e0.frf⟩,
  rfl,e0.bare,Un.kept hk,⟨_,x.toInCall.ns,fun i y v h1 h2 h3=>?_⟩,fun y c h=>⟨_,x.cell y c h⟩,e0.hok.fresh (Nat.le_refl _),fun y c h=>?_,fun p hp=>absurd (show p∈([]:List (Addr×Obj))from hp) (by simp),e0.hok.kept hk,?_⟩
 ·exact name_of_addr x.apart (PySem.mem_of_lookup h1) (PySem.mem_of_lookup h2)
 ·have hy:scope.names.lookup y=some .cell\/scope.names.lookup y=some .free:=hy
  rcases hy with hy | hy
  ·exact aA2 hy
  ·exact absurd rfl (S.nofree _ (PySem.mem_of_lookup hy))
 ·exact Nat.le_of_lt (x.above y c (PySem.mem_of_lookup h))
 ·have hi:i < vs.length:=by
   unfold iF at h2
   by_cases hi:i < vs.length
   ·exact hi
   ·rw[List.getElem?_append_right (by simpa using hi)]at h2
    rw[List.getElem?_replicate]at h2
    split at h2<;>cases h2
  have ha:vs[i]? = some v:=by
   unfold iF at h2
   rw[List.getElem?_append_left (by simpa using hi),List.getElem?_map]at h2
   cases e:vs[i]? with
   | none=>rw[e]at h2;cases h2
   | some a=>rw[e]at h2;cases h2;rfl
  obtain⟨u,hu,rv⟩:=r.get ha
  have hp:ps[i]? = some y:=by
   rw[← S.pre,List.getElem?_take_of_lt (by omega)];exact h1
  have ndP:ps.Nodup:=by rw[← S.pre];exact S.nd.sublist (List.take_sublist _ _)
  refine⟨u,rv,?_⟩
  rcases S.par y (List.mem_of_getElem? hp)with k | k
  ·exact .inl ⟨k,vK ndP hp hu k⟩
  ·obtain⟨c,e⟩:=aA2 (n:=s.heap.objs.size+1) k
   refine .inr ⟨.inl k,c,e,?_⟩
   have q:=x.cell y c e
   rw[vL ndP hp hu (by show scope.names.lookup y≠_;rw[k];decide)]at q
   exact q
 ·exact e0.hok.fresh (Nat.le_of_lt (x.above y c (PySem.mem_of_lookup h)))
 ·unfold iF
  show _=N.length
  rw[List.length_append,List.length_map,List.length_replicate]
  omega
theorem dC9{CX:CXT}{P:Program}{w:World}{K:PySem.W.Frag}{mg:Str->Option Value}{base:Heap}{k:Nat}{f:Addr}{name qual:Str}{params:Arguments}{body:List Stmt}{scope:Scope}{dV kV doc pm cdv ct oc:Value}{an od:Option Addr}
  {osl:Array (Option Value)} {N ps:List Str} {sp:Sp} (lk:K.lookup f=some ⟨oc,od,.func (PySem.W.fnOf name qual params body scope dV kV doc pm an cdv ct),osl⟩) (hcd:PySem.W.codeIn K cdv qual=true) (S:FnScope N ps scope)
  (len:∀ vs H Q E,sp vs H Q E->vs.length=ps.length)
  (hbody:∀ (A:Around) (outer:List Env) (s:Shared) (H:Hp) (vs:List V) (Q:VK) (E:XK),Room k (A.deeper (envOfC qual scope s.heap.objs.size f cdv))->sp vs H Q E ->
   ∃ t,PSs (bU0 CX P w K mg base N qual scope f cdv A outer s H E) body t/\t {nx:=fun _ H'=>Q .non H',rt:=Q} (iF N vs) H) :
  FnOk P w K mg base CX (k+1) f (PySem.W.fnOf name qual params body scope dV kV doc pm an cdv ct) ps sp:=by
 refine⟨len,fun A outer s H args us vs Q E hr e0 hb r hsp=>?_⟩
 have hl:=len _ _ _ _ hsp
 have KX:K.In s.heap:=e0.mod.kin.keeps fun b o e=>(e0.bs b o e).1
 have lim:s.heap.NoLimit:=e0.mod.nolimit.keeps fun b o e=>(e0.bs b o e).1
 have hkind:∀ y∈ps.zip us,scope.names.lookup y.1=some .local\/(scope.names.lookup y.1=some .cell/\((cellsFrom (s.heap.objs.size+1) scope.names []).lookup y.1).isSome=true):=fun⟨n,v⟩ hy=>by
  rcases S.par n (List.of_mem_zip hy).1 with q | q
  ·exact .inl q
  ·exact .inr ⟨q,PySem.W.cellsFrom_some _ _ _ (.inl q)⟩
 refine codeAny_call_function hr.depth (KX _ _ lk) rfl S.co S.gen rfl (PySem.W.codeRec_of KX hcd) (hb _ _ _ _ ?_)
 refine wpAny_newFunctionEnv_cells S.kind hkind fun env he s1 x=>?_
 subst he
 refine⟨lim.keeps x.toInCall.keep,codeAny_func ?_⟩
 obtain⟨t,ht,hq⟩:=hbody A outer s H vs Q E (hr.deeper _) hsp
 have I:Inv (bU0 CX P w K mg base N qual scope f cdv A outer s H E) [] (iF N vs) H s1:=aW4 S hr.hd e0 hl r x
 refine wpAny_mono (ht [] s1 (iF N vs) H _ I hq) (fun fl s' hs=>?_) fun e s' hs=>hs
 have fin:∀ {σ':St} {H':Hp} {v:V} {u:Value},Inv (bU0 CX P w K mg base N qual scope f cdv A outer s H E) [] σ' H' s'->eO v u->Q v H'->CE outer P w H s Q u s':=
  fun{σ' H' v u} J rv q=>⟨v,H',J.os,J.bare,J.base,J.hok,rv,q⟩
 cases fl with
 | ret u=>
   obtain⟨v,σ',H',J,rv,q⟩:=hs
   exact fin J rv q
 | next=>
   obtain⟨σ',H',J,q⟩:=hs
   exact fin (v:=V.non) (u:=Value.none) J rfl q
 | brk=>
   obtain⟨_,_,_,q⟩:=hs
   exact False.elim q
 | cont=>
   obtain⟨_,_,_,q⟩:=hs
   exact False.elim q
section
variable{X:Cx}{x:Str}{p pos:Pos}{e:Expr}{es:List Expr}{t:TA}{id T:String}{r:List V->Hp->VK->Prop}
def tCB(r:List V->Hp->VK->Prop)(t:TA):TE:=fun σ H Q=>t σ H fun vs H1=>r vs H1 Q
theorem bE(hc:jW X (.builtin id) r)(hg:Gl X x)(hm:X.mg x=none)(hv:bootBuiltins x=some (.builtin id))(ha:PA X (e::es) t)(hn:x≠"__name__":=by decide)(hdb:(x==("__debug__":Str))=false:=by decide)
  (he:starEach (e::es) X.env=(false,eval e X.env)::starEach es X.env:=by rfl) (hpl:(backTo pos (starEach es X.env)).any (·.1)=false:=by rfl):PE X (.Call (.Name x p) (e::es) [] pos) (tCB r t):=by
 intro pins s σ H Q I h
 refine wpAny_Call_Name_kw (iV I hg hm hv ?_ hn hdb)
 exact PyProof.Rows.callWith_builtin1 (thn (ha pos pins s σ H _ I h) fun us s1 ⟨vs,H1,I1,r1,q1⟩=>hc pins s1 σ H1 vs us Q I1 r1 q1) he hpl
theorem bN(hc:jW X (.type T) r)(hg:Gl X x)(hm:X.mg x=none)(hv:bootBuiltins x=some (.type T))(ha:PA X (e::es) t)(hn:x≠"__name__":=by decide)(hdb:(x==("__debug__":Str))=false:=by decide)
  (he:starEach (e::es) X.env=(false,eval e X.env)::starEach es X.env:=by rfl) (hpl:(backTo pos (starEach es X.env)).any (·.1)=false:=by rfl):PE X (.Call (.Name x p) (e::es) [] pos) (tCB r t):=by
 intro pins s σ H Q I h
 refine wpAny_Call_Name_kw (iV I hg hm hv ?_ hn hdb)
 exact PyProof.Rows.callWith_type1 (thn (ha pos pins s σ H _ I h) fun us s1 ⟨vs,H1,I1,r1,q1⟩=>hc pins s1 σ H1 vs us Q I1 r1 q1) he hpl
end
end L2
namespace HT
open PySem PyProof.Rows
section
open PySem.SeqAt
open PySem.AutoSeq1 (wpAny_loadPart')
open PySem.MeetsSeq PySem.MeetsSeq2 PySem.MeetsSeq3
end
section
variable{prog:Program}{w:World}{A:Around}{E:Value->Shared->Prop}{s:Shared}
theorem cat_tup{t b:Addr}{vs ws:List Value}{Q:Value->Shared->Prop}(ht:IsTup s.heap t vs.toArray)(hb:IsTup s.heap b ws.toArray)(hv:vs≠[])
  (h1:ws=[]->Q (.ref t) s) (h2:ws≠[]->Q (.ref s.heap.objs.size) {s with heap:=s.heap.push {cls:=.type "tuple",data:=.seq (vs++ws).toArray}})
  (hsz:vs.length+ws.length<=sizeLine):wpAny (model prog w) A (binaryOp .Add (.ref t) (.ref b)) Q E s:=by
 obtain⟨⟨cls,dd,data,sl⟩,ho,hc,n,hd⟩:=id ht
 obtain⟨⟨cls2,dd2,data2,sl2⟩,ho2,hc2,n2,hd2⟩:=id hb
 simp only at hc hd hc2 hd2
 subst hc hd hc2 hd2
 have e:vs.toArray++ws.toArray=(vs++ws).toArray:=by simp
 by_cases hw:ws=[]
 ·exact concat_meets ⟨_,ho,rfl⟩ ⟨_,ho2,rfl⟩ noFill_tuple_add seq_tuple_add PySem.F.slot_tuple_add PySem.F.entry_tuple_add (PySem.F.args_tuple_add_2 _ _)
   (tuple_addW1 t b vs.toArray ws.toArray n n2 dd dd2 sl sl2 (by simpa using hv) (by simp[hw])) ⟨ho,ho2,h1 hw⟩
 ·refine concat_meets ⟨_,ho,rfl⟩ ⟨_,ho2,rfl⟩ noFill_tuple_add seq_tuple_add PySem.F.slot_tuple_add PySem.F.entry_tuple_add (PySem.F.args_tuple_add_2 _ _)
   (tuple_addW2 t b vs.toArray ws.toArray n n2 dd dd2 sl sl2 (by simpa using hv) (by simpa using hw) (by rw[List.size_toArray,List.size_toArray];exact hsz)) ⟨ho,ho2,?_⟩
  rw[e]
  exact h2 hw
def sIx(n d:Nat):Option Int->Nat
 | none=>d
 | some v=>if v < 0 then(v+(n:Int)).toNat else min v.toNat n
theorem sIx_none(n d:Nat):sIx n d none=d:=rfl
theorem sIx_nat(n d k:Nat):sIx n d (some (k:Int))=min k n:=by
 show(if(k:Int) < 0 then((k:Int)+(n:Int)).toNat else min (k:Int).toNat n)=min k n
 rw[if_neg (by omega),Int.toNat_natCast]
theorem cP7(n d:Nat)(hd:d<=n)(o:Option Int):sIx n d o<=n:=by
 cases o with
 | none=>exact hd
 | some v=>
   show(if v < 0 then(v+(n:Int)).toNat else min v.toNat n)<=n
   by_cases hv:v < 0
   ·rw[if_pos hv];omega
   ·rw[if_neg hv];exact Nat.min_le_right _ _
theorem aW5(v:Int)(n d:Nat):(if v < 0 then max (v+(n:Int)) 0 else min v (n:Int))=((sIx n d (some v):Nat):Int):=by
 show(if v < 0 then max (v+(n:Int)) 0 else min v (n:Int))=(((if v < 0 then(v+(n:Int)).toNat else min v.toNat n):Nat):Int)
 by_cases hv:v < 0
 ·simp only[if_pos hv];omega
 ·simp only[if_neg hv];omega
theorem aQ7(lo hi:Option Int)(n:Nat):Builtin.Slice.sliceAdjust lo hi 1 (n:Int)=(((sIx n 0 lo:Nat):Int),((sIx n n hi:Nat):Int)):=by
 have h1:¬ ((1:Int) < 0):=by omega
 unfold Builtin.Slice.sliceAdjust
 simp only[h1,if_false]
 refine Prod.ext ?_ ?_
 ·cases lo with
  | none=>rfl
  | some v=>exact aW5 v n 0
 ·cases hi with
  | none=>rfl
  | some v=>exact aW5 v n n
theorem aQ8(i j:Nat):Builtin.Slice.slicePlaces (i:Int) (j:Int) 1=j-i:=by
 unfold Builtin.Slice.slicePlaces
 have h1:(1:Int) > 0:=by omega
 simp only[h1,if_true,Int.ediv_one]
 split<;>omega
theorem rC{v:Value}{o:Option Int}{Q:Option Int->Shared->Prop}(p:IsPart v o)(h:Q o s):wpAny (model prog w) A (Builtin.Slice.slicePartIndex v) Q E s:=by
 cases p with
 | none=>exact slicePart_none h
 | int i t=>exact slicePart_int h
theorem iL{sl:Addr}{vl vu:Value}{lo hi:Option Int}{n:Nat}{Q:Int×Int×Nat->Shared->Prop}(hs:s.heap.IsSliceOf sl vl vu .none)(pl:IsPart vl lo)(pu:IsPart vu hi)
  (h:Q (((sIx n 0 lo:Nat):Int),1,sIx n n hi-sIx n 0 lo) s):wpAny (model prog w) A (Builtin.Slice.sliceApplied (.ref sl) (pure (n:Int))) Q E s:=by
 obtain⟨os,hos,hcs,hds⟩:=id hs
 unfold Builtin.Slice.sliceApplied Builtin.Slice.sliceFields
 refine wpAny_bind (wpAny_bind (wpAny_field hos hds (x:=vl) rfl (wpAny_bind (wpAny_field hos hds (x:=vu) rfl (wpAny_bind (wpAny_field hos hds (x:=.none) rfl (wpAny_pure ?_)))))))
 refine wpAny_bind (slicePart_none ?_)
 show wpAny _ _ (if((1:Int)==0)=true then _ else _) _ _ s
 rw[if_neg (by decide)]
 refine wpAny_bind (rC pl (wpAny_bind (rC pu (wpAny_bind (wpAny_pure ?_)))))
 show wpAny _ _ (match Builtin.Slice.sliceAdjust lo hi 1 (n:Int)with | (lo,hi)=>pure (lo,(1:Int),Builtin.Slice.slicePlaces lo hi 1)) _ _ s
 rw[aQ7 lo hi n]
 show wpAny _ _ (pure (((sIx n 0 lo:Nat):Int),(1:Int),Builtin.Slice.slicePlaces ((sIx n 0 lo:Nat):Int) ((sIx n n hi:Nat):Int) 1)) _ _ s
 rw[aQ8]
 exact wpAny_pure h
theorem bK8(xs:Array Value)(i k:Nat):((List.range k).filterMap fun(m:Nat)=>xs[((i:Int)+(m:Int)*1).toNat]?).toArray=((xs.toList.drop i).take k).toArray:=by
 have e:(fun(m:Nat)=>xs[((i:Int)+(m:Int)*1).toNat]?)=fun m=>xs[i+m]?:=by
  funext m
  have:((i:Int)+(m:Int)*1).toNat=i+m:=by omega
  rw[this]
 rw[e]
 have:=pick_run xs i k
 rw[List.filterMap_map]at this
 have e2:((fun x=>xs[x]?) ∘ fun x=>i+x)=fun m=>xs[i+m]?:=rfl
 rw[e2]at this
 rw[this]
theorem getItem_tuple_cut{t sl:Addr}{items:Array Value}{vl vu:Value}{lo hi:Option Int}{Q:Value->Shared->Prop}(ht:IsTup s.heap t items)(hs:s.heap.IsSliceOf sl vl vu .none)(pl:IsPart vl lo)(pu:IsPart vu hi)
  (hw:¬ (sIx items.size 0 lo=0/\sIx items.size items.size hi=items.size))
  (h:Q (.ref s.heap.objs.size) {s with heap:=s.heap.push {cls:=.type "tuple",data:=.seq ((items.toList.drop (sIx items.size 0 lo)).take (sIx items.size items.size hi-sIx items.size 0 lo)).toArray}})
  (hsz:items.size<=sizeLine):wpAny (model prog w) A (getItem (.ref t) (.ref sl)) Q E s:=by
 have htake:sizeOk (.seq ((items.toList.drop (sIx items.size 0 lo)).take (sIx items.size items.size hi-sIx items.size 0 lo)).toArray):=by
  show((items.toList.drop (sIx items.size 0 lo)).take (sIx items.size items.size hi-sIx items.size 0 lo)).toArray.size<=sizeLine
  rw[List.size_toArray,List.length_take,List.length_drop,Array.length_toList]
  omega
 have hj:sIx items.size items.size hi<=items.size:=cP7 _ _ (Nat.le_refl _) hi
 obtain⟨os,hos,hcs,hds⟩:=id hs
 have hTs:s.TypeIs (.ref sl) "slice":=⟨os,hos,hcs⟩
 unfold getItem
 try with_reducible refine wpAny_holding ?_
 first | refine wpAny_bind (wpAny_pure ?_) | skip
 refine wpAny_bind (wpAny_sequenceKey ht.typeIs (by decide) ?_)
 refine wpAny_bind (wpAny_callSpecial?_slot (name:=Str.ofString "__getitem__") ht.typeIs PyProof.Rows.slot_tuple_getitem
  (wpAny_call_entry PyProof.Rows.slot_tuple_getitem ht.typeIs entry_tuple_getitem ?_ (args_tuple_getitem _ _)))
 show wpAny _ _ (Builtin.Tuple.tupleItemsOf (.ref t) >>= _) _ _ s
 refine wpAny_bind (tupleItemsOf_ ht ?_)
 refine wpAny_bind (wpAny_typeOf hTs ?_)
 rw[if_pos (by decide)]
 refine wpAny_bind (iL hs pl pu ?_)
 have hno:¬ ((((sIx items.size 0 lo:Nat):Int)==0&&(1:Int)==1&&(sIx items.size items.size hi-sIx items.size 0 lo)==items.size)=true):=by
  intro q
  rw[Bool.and_eq_true,Bool.and_eq_true]at q
  have q1:((sIx items.size 0 lo:Nat):Int)=0:=eq_of_beq q.1.1
  have q2:sIx items.size items.size hi-sIx items.size 0 lo=items.size:=eq_of_beq q.2
  exact hw ⟨by omega,by omega⟩
 show wpAny _ _ (if(((sIx items.size 0 lo:Nat):Int)==0&&(1:Int)==1&&(sIx items.size items.size hi-sIx items.size 0 lo)==items.size)=true then _ else _) _ _ s
 rw[if_neg hno,bK8]
 first
  | exact wpAny_bind (m:=Builtin.Tuple.tupleExact _) (wpAny_newObj_type (wpAny_pure ⟨_,rfl,wpAny_pure h⟩) htake)
  | exact wpAny_bind (m:=Builtin.Tuple.tupleExact _) (wpAny_newObj_type (wpAny_bind (wpAny_pure (wpAny_pure ⟨_,rfl,wpAny_pure h⟩))) htake)
  | exact wpAny_bind (wpAny_bind (m:=Builtin.Tuple.tupleExact _) (wpAny_newObj_type (wpAny_pure (wpAny_pure ⟨_,rfl,wpAny_pure h⟩)) htake))
  | exact wpAny_bind (wpAny_bind (m:=Builtin.Tuple.tupleExact _) (wpAny_newObj_type (wpAny_pure ⟨_,rfl,wpAny_pure h⟩) htake))
end
end HT
namespace L2
open PySem PySem.Spec PyProof.Rows
abbrev TO:=St->Hp->(Option Int->Hp->Prop)->Prop
def PO(X:Cx)(e:Option Expr)(t:TO):Prop:=
 ∀ (pins:List (Addr×Obj)) (s:Shared) (σ:St) (H:Hp) (Q:Option Int->Hp->Prop),Inv X pins σ H s->t σ H Q ->
   wpAny (model X.prog X.w) X.A (evalPart e X.env) (fun u s'=>∃ o H',Inv X pins σ H' s'/\IsPart u o/\Q o H') X.xe s
def aW6:TO:=fun _ H Q=>Q none H
def cP8(t:TE):TO:=fun σ H Q=>t σ H fun x H1=>∃ i,x=.int i/\Q (some i) H1
section
variable{X:Cx}{e:Expr}{te:TE}{lo hi:Option Expr}{tl th:TO}{pos p2:Pos}
theorem cB0:PO X none aW6:=by
 intro pins s σ H Q I h
 rw[evalPart_none]
 exact wpAny_pure ⟨none,H,I,.none,h⟩
theorem cB1(h:PE X e te):PO X (some e) (cP8 te):=by
 intro pins s σ H Q I hw
 rw[evalPart_some]
 refine thn (h pins s σ H _ I hw) fun u s1 ⟨x,H1,I1,r1,q1⟩=>?_
 obtain⟨i,rfl,q⟩:=q1
 obtain⟨t,rfl⟩:=r1
 exact⟨some i,H1,I1,.int i t,q⟩
def SlR(X:Cx)(r:V->Option Int->Option Int->Hp->VK->Prop):Prop:=
 ∀ (pins:List (Addr×Obj)) (s:Shared) (σ:St) (H:Hp) (x:V) (v vl vu:Value) (lo hi:Option Int) (sl:Addr) (Q:VK),Inv X pins σ H s->eO x v->s.heap.IsSliceOf sl vl vu .none->IsPart vl lo->IsPart vu hi->r x lo hi H Q ->
   ∃ T id,typeLookup (.type T) "__getitem__"=pure (some (.builtin id))/\s.TypeIs v T/\wpAny (model X.prog X.w) X.A (getItem v (.ref sl)) (EP X pins σ Q) X.xe s
def tSl(r:V->Option Int->Option Int->Hp->VK->Prop)(te:TE)(tl th:TO):TE:=fun σ H Q=>te σ H fun x H1=>tl σ H1 fun l H2=>th σ H2 fun u H3=>r x l u H3 Q
theorem bK9{r:V->Option Int->Option Int->Hp->VK->Prop}(hr:SlR X r)(he:PE X e te)(hl:PO X lo tl)(hu:PO X hi th):PE X (.Subscript e (.Slice lo hi none p2) pos) (tSl r te tl th):=by
 intro pins s σ H Q I h
 refine Subscript_ (thn (he pins s σ H _ I h) fun v s1 ⟨x,H1,I1,r1,q1⟩=>?_)
 refine wpAny_Slice (thn (hl pins s1 σ H1 _ I1 q1) fun vl s2 ⟨l,H2,I2,pl,q2⟩=>thn (hu pins s2 σ H2 _ I2 q2) fun vu s3 ⟨u,H3,I3,pu,q3⟩=>?_)
 rw[evalPart_none]
 refine wpAny_pure ?_
 have I4:Inv X pins σ H3 {s3 with heap:=s3.heap.push {cls:=.type "slice",data:=.fields #[vl,vu,.none]}}:=I3.kept (t':=s3.toks) fun b ob q=>Heap.get?_push_of_some _ q
 obtain⟨T,id,hT,ht,hg⟩:=hr pins {s3 with heap:=s3.heap.push {cls:=.type "slice",data:=.fields #[vl,vu,.none]}} σ H3 x v vl vu l u s3.heap.objs.size Q I4 r1 (Heap.IsSliceOf.new ..) pl pu q3
 show wpAny (model X.prog X.w) X.A (subscriptTail e (.Slice lo hi none p2) v (.ref s3.heap.objs.size)) (EP X pins σ Q) X.xe {s3 with heap:=s3.heap.push {cls:=.type "slice",data:=.fields #[vl,vu,.none]}}
 exact tail_any (ops:=[.ref s3.heap.objs.size,v]) ht hT hg (by with_unfolding_all rfl)
def xX(xs:List V)(lo hi:Option Int):List V:=(xs.drop (HT.sIx xs.length 0 lo)).take (HT.sIx xs.length xs.length hi-HT.sIx xs.length 0 lo)
theorem oR(xs:List V)(lo hi:Option Int):(xX xs lo hi).length<=xs.length:=by
 unfold xX
 rw[List.length_take,List.length_drop]
 omega
def dK5(K:PySem.W.Frag):V->Option Int->Option Int->Hp->VK->Prop:=fun x lo hi H Q=>∃ a xs,x=.ref a/\SqT K H a xs /\
 ¬ (HT.sIx xs.length 0 lo=0/\HT.sIx xs.length xs.length hi=xs.length)/\∀ p,H p=none->Q (.ref p) (upd H p (.tup (xX xs lo hi)))
theorem cP9:SlR X (dK5 X.K):=by
 intro pins s σ H x v vl vu lo hi sl Q I rx hs pl pu h
 obtain⟨a,xs,rfl,hx,hw,q⟩:=h
 cases rx
 obtain⟨its,r,ht,hz⟩:=I.tuple hx
 have hlen:its.toArray.size=xs.length:=by rw[List.size_toArray];exact r.length.symm
 refine⟨"tuple",_,PyProof.Rows.slot_tuple_getitem.lookup,ht.typeIs,?_⟩
 refine HT.getItem_tuple_cut ht hs pl pu (by rw[hlen];exact hw) ?_ (by rw[hlen];exact hz)
 rw[hlen]
 refine⟨.ref s.heap.objs.size,_,I.laid (t':=s.toks) (o:=.tup (xX xs lo hi)) (fun b ob q=>Heap.get?_push_of_some _ q) (Nat.le_refl _) ?_,rfl,q _ (I.hok.fresh (Nat.le_refl _))⟩
 exact⟨Nat.le_trans (oR xs lo hi) hz,_,(r.drop (HT.sIx xs.length 0 lo)).take (HT.sIx xs.length xs.length hi-HT.sIx xs.length 0 lo),IsTup.new _ _,⟨_,Heap.get?_push_size _ rfl,rfl⟩⟩
def dD0(K:PySem.W.Frag):R2:=fun x y H Q=>∃ a b xs ys,x=.ref a/\y=.ref b/\SqT K H a xs/\SqT K H b ys/\xs≠[]/\xs.length+ys.length<=sizeLine /\
 (ys=[]->Q (.ref a) H)/\(ys≠[]->∀ p,H p=none->Q (.ref p) (upd H p (.tup (xs++ys))))
theorem cE.nil_iff{xs:List V}{us:List Value}(r:cE xs us):us=[]↔xs=[]:=by
 cases r with
 | nil=>simp
 | cons _ _=>simp
theorem cB2:OpR X (binaryOp .Add) (dD0 X.K):=by
 intro pins s σ H x y v u Q I rx ry h
 obtain⟨a,b,xs,ys,rfl,rfl,ha,hb,hx,hz,q1,q2⟩:=h
 cases rx
 cases ry
 obtain⟨its,r1,p1,_⟩:=I.tuple ha
 obtain⟨its2,r2,p2,_⟩:=I.tuple hb
 refine HT.cat_tup p1 p2 (fun z=>hx (r1.nil_iff.mp z)) (fun z=>⟨.ref a,H,I,rfl,q1 (r2.nil_iff.mp z)⟩) (fun z=>?_) (by rw[← r1.length,← r2.length];exact hz)
 refine⟨.ref s.heap.objs.size,_,I.laid (t':=s.toks) (o:=.tup (xs++ys)) (fun b ob q=>Heap.get?_push_of_some _ q) (Nat.le_refl _) ?_,rfl,q2 (fun w=>z (r2.nil_iff.mpr w)) _ (I.hok.fresh (Nat.le_refl _))⟩
 exact⟨by rw[List.length_append];exact hz,_,r1.append r2,IsTup.new _ _,⟨_,Heap.get?_push_size _ rfl,rfl⟩⟩
end
def ixN(n:Nat)(i:Int):Option Nat:=if 0<=i then(if i < n then some i.toNat else none)else if -(n:Int)<=i then some (i+n).toNat else none
def atI{α:Type}(xs:List α)(i:Int):Option α:=(ixN xs.length i).bind fun j=>xs[j]?
theorem xY{n:Nat}{i:Int}{j:Nat}(h:ixN n i=some j):seqIndex? i n=some j/\j < n /\ -(n:Int)<=i/\i < n:=by
 unfold ixN at h
 by_cases h0:0<=i
 ·rw[if_pos h0]at h
  by_cases h1:i < n
  ·rw[if_pos h1]at h
   have e:i.toNat=j:=Option.some.inj h
   exact⟨by rw[seqIndex_of h0 h1,e],by omega,by omega,h1⟩
  ·rw[if_neg h1]at h;cases h
 ·rw[if_neg h0]at h
  by_cases h1:-(n:Int)<=i
  ·rw[if_pos h1]at h
   have e:(i+n).toNat=j:=Option.some.inj h
   exact⟨by rw[seqIndex_neg (by omega) h1,e],by omega,h1,by omega⟩
  ·rw[if_neg h1]at h;cases h
theorem xZ{α:Type}{xs:List α}{i:Int}{v:α}(h:atI xs i=some v):∃ j,seqIndex? i xs.length=some j/\xs[j]? = some v/\j < xs.length /\ -(xs.length:Int)<=i/\i < xs.length:=by
 unfold atI at h
 cases e:ixN xs.length i with
 | none=>rw[e]at h;cases h
 | some j=>
   rw[e]at h
   obtain⟨h1,h2,h3,h4⟩:=xY e
   exact⟨j,h1,h,h2,h3,h4⟩
theorem cB3{α:Type}{xs:List α}{j:Nat}{v:α}(h:xs[j]? = some v):atI xs (j:Int)=some v:=by
 have hj:j < xs.length:=(List.getElem?_eq_some_iff.mp h).1
 have e:ixN xs.length (j:Int)=some j:=by
  unfold ixN
  rw[if_pos (by omega),if_pos (by omega)];simp
 unfold atI;rw[e];exact h
def aW7(b:Expr):Prop:=∀ o i,subscripted b false o i=operate [o,i] (getItem o i)
def IxR(X:Cx)(r:R2):Prop:=
 ∀ (value slice:Expr) (pins:List (Addr×Obj)) (s:Shared) (σ:St) (H:Hp) (x y:V) (v u:Value) (Q:VK),Inv X pins σ H s->eO x v->eO y u->r x y H Q ->
   subscripted slice false v u=operate [v,u] (getItem v u)->wpAny (model X.prog X.w) X.A (subscriptTail value slice v u) (EP X pins σ Q) X.xe s
def MtR(X:Cx)(id:String)(r:V->List V->Hp->VK->Prop):Prop:=
 ∀ (pins:List (Addr×Obj)) (s:Shared) (σ:St) (H:Hp) (x:V) (xs:List V) (v:Value) (us:List Value) (Q:VK),Inv X pins σ H s->eO x v->cE xs us->r x xs H Q ->
   wpAny (model X.prog X.w) X.A (call (.builtin id) (v::us)) (EP X pins σ Q) X.xe s
section
variable{X:Cx}{a b:Expr}{ta tb:TE}{pos:Pos}
theorem dD1{r:R2}(hr:IxR X r)(ha:PE X a ta)(hb:PE X b tb)(hs:aW7 b):PE X (.Subscript a b pos) (tOp r ta tb):=by
 intro pins s σ H Q I h
 exact Subscript_ (dC2 ha hb I h fun v u s2 x y H2 I2 rx ry q=>hr a b pins s2 σ H2 x y v u Q I2 rx ry q (hs _ _))
def dK6(K:PySem.W.Frag):R2:=fun x y H Q=>∃ p xs i v,x=.ref p/\y=.int i/\SqL K H p xs/\atI xs i=some v/\Q v H
def dK7(K:PySem.W.Frag):R2:=fun x y H Q=>∃ p xs i v,x=.ref p/\y=.int i/\SqT K H p xs/\atI xs i=some v/\Q v H
def dK8:R2:=fun x y H Q=>∃ z i c,x=.str z/\y=.int i/\z.length<=sizeLine/\atI z.cps.toList i=some c/\Q (.str ⟨#[c]⟩) H
theorem cB4:IxR X (dK6 X.K):=by
 intro value slice pins s σ H x y v u Q I rx ry h hs
 obtain⟨p,xs,i,z,rfl,rfl,hq,he,q⟩:=h
 cases rx
 obtain⟨t,rfl⟩:=ry
 obtain⟨its,r,pl,hz⟩:=I.list hq
 obtain⟨j,h1,h2,h3,h4,h5⟩:=xZ he
 obtain⟨w,ew,rw'⟩:=r.get h2
 have hl:=r.length
 have hn:=oP
 have fin:EP X pins σ Q w s:=⟨z,H,I,rw',q⟩
 by_cases h0:0<=i
 ·have hj:i.toNat=j:=by
   rw[seqIndex_of h0 h5]at h1
   exact Option.some.inj h1
  exact item_listR pl.isList h0 (by omega) (by rw[hj];simpa using ew) fin hs
 ·have hj:(i+(its.toArray.size:Int)).toNat=j:=by
   rw[seqIndex_neg (by omega) h4]at h1
   rw[List.size_toArray,← hl]
   exact Option.some.inj h1
  exact subscriptTail_builtinR (x:=w) pl.isList.typeIs slot_list_getitem.lookup
   (wpAny_getItem_list_neg (Q:=fun r s'=>r=w/\EP X pins σ Q r s') pl.isList (by omega) (by rw[List.size_toArray]<;>omega) (by omega) (by rw[hj];simpa using ew) ⟨rfl,fin⟩) hs
theorem cQ0:IxR X (dK7 X.K):=by
 intro value slice pins s σ H x y v u Q I rx ry h hs
 obtain⟨p,xs,i,z,rfl,rfl,hq,he,q⟩:=h
 cases rx
 obtain⟨t,rfl⟩:=ry
 obtain⟨its,r,pl,hz⟩:=I.tuple hq
 obtain⟨j,h1,h2,h3,h4,h5⟩:=xZ he
 obtain⟨w,ew,rw'⟩:=r.get h2
 have hl:=r.length
 have hn:=oP
 have fin:EP X pins σ Q w s:=⟨z,H,I,rw',q⟩
 exact subscriptTail_builtinR (x:=w) pl.typeIs slot_tuple_getitem.lookup
  (getItem_tuple (j:=j) (Q:=fun r s'=>r=w/\EP X pins σ Q r s') pl (by omega) (by omega) (by rw[List.size_toArray,← hl];exact h1) (by simpa using ew) ⟨rfl,fin⟩) hs
theorem cQ1:IxR X dK8:=by
 intro value slice pins s σ H x y v u Q I rx ry h hs
 obtain⟨z,i,c,rfl,rfl,hz,he,q⟩:=h
 obtain⟨t,rfl⟩:=rx
 obtain⟨t',rfl⟩:=ry
 obtain⟨j,h1,h2,h3,h4,h5⟩:=xZ he
 have hl:z.cps.toList.length=z.length:=by simp[Str.length]
 rw[hl]at h1 h4 h5
 have hn:=oP
 exact tail_any (typeIs_str s z t) slot_str_getitem.lookup (getItem_str (c:=c) (by
  have e1:decide (i < -(2 ^ 63:Int))=false:=decide_eq_false (by omega)
  have e2:decide (i ≥ 2 ^ 63)=false:=decide_eq_false (by omega)
  rw[e1,e2,Bool.or_false]) (by rw[h1];simpa using h2) ⟨.str ⟨#[c]⟩,H,I.tok _,⟨_,rfl⟩,q⟩) hs
theorem aQ9(its:List Value)(n j:Nat)(u:Value):Obj.mapSeq (·.setIfInBounds j u) {cls:=.type "list",data:=.seq its.toArray n}={cls:=.type "list",data:=.seq (its.set j u).toArray n}:=by
 simp[Obj.mapSeq]
theorem Inv.lst{pins:List (Addr×Obj)}{σ:St}{H:Hp}{s:Shared}{p:Addr}{xs:List V}(I:Inv X pins σ H s)(h:H p=some (.lst xs)) :
  ∃ (its:List Value) (n:Nat),cE xs its/\s.heap.get? p=some {cls:=.type "list",data:=.seq its.toArray n}/\xs.length<=sizeLine:=by
 obtain⟨z,its,n,r,e⟩:=I.hok p _ h
 exact⟨its,n,r,e,z⟩
theorem Inv.lstUpd{pins:List (Addr×Obj)}{σ:St}{H:Hp}{s:Shared}{p:Addr}{xs ys:List V}{its its':List Value}{n n':Nat}{f:Obj->Obj}(I:Inv X pins σ H s)(h:H p=some (.lst xs))
  (ho:s.heap.get? p=some {cls:=.type "list",data:=.seq its.toArray n}) (hf:f {cls:=.type "list",data:=.seq its.toArray n}={cls:=.type "list",data:=.seq its'.toArray n'}) (r:cE ys its') (hz:ys.length<=sizeLine) (t:Nat) :
  Inv X pins σ (upd H p (.lst ys)) {s with heap:=s.heap.update p f,toks:=t}:=by
 have e:(s.heap.update p f).get? p=some {cls:=.type "list",data:=.seq its'.toArray n'}:=by
  rw[Heap.get?_update_self f ho (by rw[hf]<;>rfl),hf]
 refine I.write (x:=p) (e:=p) (by rw[h];trivial) (.inl rfl) (fun b u hb q=>(Heap.get?_update_other _ _ (Ne.symm hb)).trans q) ⟨_,e⟩ ?_
 exact⟨hz,its',n',r,e⟩
def cQ2:V->V->V->Hp->(Hp->Prop)->Prop:=fun o i v H Q=>∃ p xs k j,o=.ref p/\i=.int k/\H p=some (.lst xs)/\ixN xs.length k=some j/\Q (upd H p (.lst (xs.set j v)))
theorem sL:dG6 X cQ2:=by
 intro pins s σ H o i v ov iv u Q I ro ri rv h
 obtain⟨p,xs,k,j,rfl,rfl,hp,hj,q⟩:=h
 cases ro
 obtain⟨t,rfl⟩:=ri
 obtain⟨its,n,r,ho,hz⟩:=I.lst hp
 obtain⟨h1,h2,h3,h4⟩:=xY hj
 have hl:=r.length
 have hn:=oP
 have I':Inv X pins σ (upd H p (.lst (xs.set j v))) {s with heap:=s.heap.update p (Obj.mapSeq (·.setIfInBounds j u))}:=
  I.lstUpd hp ho (aQ9 its n j u) (r.set rv j) (by rw[List.length_set];exact hz) s.toks
 by_cases h0:0<=k
 ·have hk:k.toNat=j:=by
   rw[seqIndex_of h0 h4]at h1
   exact Option.some.inj h1
  exact PySem.W.ki_setAt ho h0 (by omega) (by rw[List.size_toArray,← hl];exact h4) (by rw[hk];exact⟨_,I',q⟩)
 ·have hk:(k+(its.toArray.size:Int)).toNat=j:=by
   rw[seqIndex_neg (by omega) h3]at h1
   rw[List.size_toArray,← hl]
   exact Option.some.inj h1
  exact PySem.W.ki_setBack ho (by omega) (by rw[List.size_toArray,← hl];exact h3) (by omega) (by rw[hk];exact⟨_,I',q⟩)
theorem vM(lo hi:Option Int)(n:Nat):(sliceBounds lo hi none n).1=((HT.sIx n 0 lo:Nat):Int)/\(sliceBounds lo hi none n).2.1=((HT.sIx n n hi:Nat):Int)/\(sliceBounds lo hi none n).2.2=1:=by
 refine⟨?_,?_,rfl⟩
 ·cases lo with
  | none=>simp[sliceBounds,HT.sIx]
  | some i=>
    simp only[sliceBounds,HT.sIx,Option.getD_none,show(1:Int) > 0 by decide,if_true]
    by_cases h:i < 0
    ·simp only[h,if_true]<;>omega
    ·simp only[h,if_false]<;>omega
 ·cases hi with
  | none=>simp[sliceBounds,HT.sIx]
  | some i=>
    simp only[sliceBounds,HT.sIx,Option.getD_none,show(1:Int) > 0 by decide,if_true]
    by_cases h:i < 0
    ·simp only[h,if_true]<;>omega
    ·simp only[h,if_false]<;>omega
theorem sM(its:List Value)(lo hi:Option Int):slicePick its.toArray lo hi none=((its.drop (HT.sIx its.length 0 lo)).take (HT.sIx its.length its.length hi-HT.sIx its.length 0 lo)).toArray:=by
 obtain⟨h1,h2,h3⟩:=vM lo hi its.toArray.size
 unfold slicePick
 rw[h1,h2,h3]
 simp only[sliceRange_one,pick_run,List.size_toArray]<;>rfl
def dK9(K:PySem.W.Frag):V->Option Int->Option Int->Hp->VK->Prop:=fun x lo hi H Q=>∃ a xs,x=.ref a/\SqL K H a xs/\∀ p,H p=none->Q (.ref p) (upd H p (.lst (xX xs lo hi)))
theorem cB5:SlR X (dK9 X.K):=by
 intro pins s σ H x v vl vu lo hi sl Q I rx hs pl pu h
 obtain⟨a,xs,rfl,hx,q⟩:=h
 cases rx
 obtain⟨its,r,ht,hz⟩:=I.list hx
 have hlen:=r.length
 refine⟨"list",_,slot_list_getitem.lookup,ht.isList.typeIs,?_⟩
 refine wpAny_getItem_list_slice ht.isList hs pl pu .none (by simp) ?_ (by rw[List.size_toArray]<;>omega)
 rw[sM,← hlen]
 refine⟨.ref s.heap.objs.size,_,I.laid (t':=s.toks) (o:=.lst (xX xs lo hi)) (fun b ob q=>Heap.get?_push_of_some _ q) (Nat.le_refl _) ?_,rfl,q _ (I.hok.fresh (Nat.le_refl _))⟩
 exact⟨Nat.le_trans (oR xs lo hi) hz,_,0,(r.drop (HT.sIx xs.length 0 lo)).take (HT.sIx xs.length xs.length hi-HT.sIx xs.length 0 lo),Heap.get?_push_size _ rfl⟩
theorem mU:jW X (.builtin "len") (fun xs H Q=>∃ p ys,xs=[.ref p]/\(SqL X.K H p ys\/SqT X.K H p ys)/\Q (.int ys.length) H):=by
 intro pins s σ H xs us Q I r h
 obtain⟨p,ys,rfl,hq,q⟩:=h
 obtain⟨u,rfl,rx⟩:=xW r
 cases rx
 have hn:=oP
 rcases hq with hq | hq
 ·obtain⟨its,r',pl,hz⟩:=I.list hq
  have hlen:=r'.length
  exact Calls.call_len_list pl.isList (by simp only[List.size_toArray]<;>omega) ⟨.int ys.length,H,I.tok _,⟨s.toks+1,by rw[List.size_toArray,hlen]⟩,q⟩
 ·obtain⟨its,r',pl,hz⟩:=I.tuple hq
  have hlen:=r'.length
  exact len_tuple pl (by simp only[List.size_toArray]<;>omega) ⟨.int ys.length,H,I.tok _,⟨s.toks+1,by rw[List.size_toArray,hlen]⟩,q⟩
theorem vN:jW X (.builtin "len") (fun xs H Q=>∃ z,xs=[.str z]/\z.length<=sizeLine/\Q (.int z.length) H):=by
 intro pins s σ H xs us Q I r h
 obtain⟨z,rfl,hz,q⟩:=h
 obtain⟨u,rfl,t,rfl⟩:=xW r
 have hn:=oP
 exact len_str (by omega) ⟨.int z.length,H,I.tok _,⟨_,rfl⟩,q⟩
theorem mV:jW X (.type "list") (fun xs H Q=>∃ p ys,xs=[.ref p]/\(SqL X.K H p ys\/SqT X.K H p ys)/\∀ l,H l=none->Q (.ref l) (upd H l (.lst ys))):=by
 intro pins s σ H xs us Q I r h
 obtain⟨p,ys,rfl,hq,q⟩:=h
 obtain⟨u,rfl,rx⟩:=xW r
 cases rx
 have fin:∀ (its:List Value),cE ys its->ys.length<=sizeLine->∀ (h':Heap) (c':Nat),(∀ b o',s.heap.get? b=some o'->h'.get? b=some o') ->
   h'.get? s.heap.objs.size=some {cls:=.type "list",dict:=none,data:=.seq its.toArray c',slots:=#[]}->EP X pins σ Q (.ref s.heap.objs.size) {s with heap:=h'}:=fun its r' hz h' c' kp e=>
  ⟨.ref s.heap.objs.size,_,I.laid (t':=s.toks) kp (Nat.le_refl _) (show eB X.prog X.w _ h' _ (.lst ys)from⟨hz,its,c',r',e⟩),rfl,q _ (I.hok.fresh (Nat.le_refl _))⟩
 rcases hq with hq | hq
 ·obtain⟨its,r',pl,hz⟩:=I.list hq
  have hlen:=r'.length
  obtain⟨o,ho,hc,n,hd⟩:=pl.isList
  exact call_list_seq p (.inl rfl) ho hc hd (fun h' c' kp e=>fin its r' hz h' c' kp e) (by simp only[List.size_toArray]<;>omega)
 ·obtain⟨its,r',pl,hz⟩:=I.tuple hq
  have hlen:=r'.length
  obtain⟨o,ho,hc,n,hd⟩:=pl
  exact call_list_seq p (.inr rfl) ho hc hd (fun h' c' kp e=>fin its r' hz h' c' kp e) (by simp only[List.size_toArray]<;>omega)
theorem kZ:jW X (.type "tuple") (fun xs H Q=>∃ p ys,xs=[.ref p]/\((SqL X.K H p ys/\∀ l,H l=none->Q (.ref l) (upd H l (.tup ys)))\/(SqT X.K H p ys/\Q (.ref p) H))):=by
 intro pins s σ H xs us Q I r h
 obtain⟨p,ys,rfl,h⟩:=h
 obtain⟨u,rfl,rx⟩:=xW r
 cases rx
 rcases h with⟨hq,q⟩ | ⟨hq,q⟩
 ·obtain⟨its,r',pl,hz⟩:=I.list hq
  have hlen:=r'.length
  refine call_tuple_list pl.isList (fun h' kp=>?_) (by simp only[List.size_toArray]<;>omega)
  have I1:Inv X pins σ H {s with heap:=h'}:=I.kept (t':=s.toks) kp
  have I2:Inv X pins σ (upd H h'.objs.size (.tup ys)) {s with heap:=h'.push {cls:=.type "tuple",data:=.seq its.toArray}}:=
   I1.laid (t':=s.toks) (fun b o e=>Heap.get?_push_of_some _ e) (Nat.le_refl _) (show eB X.prog X.w _ _ _ (.tup ys)from⟨hz,its,r',IsTup.new _ _,⟨_,Heap.get?_push_size _ rfl,rfl⟩⟩)
  exact⟨.ref h'.objs.size,_,I2,rfl,q _ (I1.hok.fresh (Nat.le_refl _))⟩
 ·obtain⟨its,r',pl,hz⟩:=I.tuple hq
  exact call_tuple_same pl ⟨.ref p,H,I,rfl,q⟩
def tyV(K:PySem.W.Frag)(T:String)(x:V)(H:Hp):Prop:=match x with
 | .str _=>T="str"
 | .int _=>T="int"
 | .ref p=>(T="list"/\∃ xs,SqL K H p xs)\/(T="tuple"/\∃ o,K.lookup p=some o/\o.cls=.type "tuple"/\o.dict=none) \/
   (T="dict"/\((∃ kvs,H p=some (.dK kvs))\/∃ kvs,H p=some (.dT kvs)))\/(T="set"/\∃ S n,H p=some (.set S n))
 | _=>False
theorem bU1{pins:List (Addr×Obj)}{σ:St}{H:Hp}{s:Shared}{T:String}{x:V}{v:Value}(I:Inv X pins σ H s)(r:eO x v)(ty:tyV X.K T x H) :
  s.TypeIs v T/\∀ a,v=.ref a->∃ ob,s.heap.get? a=some ob/\ob.dict=none:=by
 cases x with
 | str z=>
   obtain⟨t,rfl⟩:=r
   cases (show T="str" from ty)
   exact⟨typeIs_str s z t,fun _ e=>nomatch e⟩
 | int i=>
   obtain⟨t,rfl⟩:=r
   cases (show T="int" from ty)
   exact⟨typeIs_int s i t,fun _ e=>nomatch e⟩
 | ref p=>
   cases r
   rcases ty with⟨rfl,xs,hq⟩ | ⟨rfl,o,hk,hc,hd⟩ | ⟨rfl,hk⟩ | ⟨rfl,S,n,hk⟩
   ·obtain⟨its,_,pl,_⟩:=I.list hq
    refine⟨pl.isList.typeIs,fun a e=>?_⟩
    cases e
    obtain⟨o,n,e,c,hd,_⟩:=pl
    exact⟨o,e,hd⟩
   ·refine⟨⟨o,I.kIn p o hk,hc⟩,fun a e=>?_⟩
    cases e
    exact⟨o,I.kIn _ o hk,hd⟩
   ·have z:∃ o,s.heap.get? p=some o/\o.ExactDict:=by
     rcases hk with⟨kvs,hk⟩ | ⟨kvs,hk⟩
     ·obtain⟨_,_,_,_,o,_,_,e,ex,_⟩:=I.hok p _ hk
      exact⟨o,e,ex⟩
     ·obtain⟨_,_,_,_,o,_,_,e,ex,_⟩:=I.hok p _ hk
      exact⟨o,e,ex⟩
    obtain⟨o,e,ex⟩:=z
    refine⟨⟨o,e,ex.1⟩,fun a e2=>?_⟩
    cases e2
    exact⟨o,e,ex.2.1⟩
   ·obtain⟨o,_,_,_,e,ex,_⟩:=I.hok p _ hk
    refine⟨⟨o,e,ex.1⟩,fun a e2=>?_⟩
    cases e2
    exact⟨o,e,ex.2.1⟩
 | _=>exact False.elim ty
def dD2(K:PySem.W.Frag)(T:String)(r:V->List V->Hp->VK->Prop)(to:TE):TE:=fun σ H Q=>to σ H fun x H1=>tyV K T x H1/\r x [] H1 Q
def tBM(K:PySem.W.Frag)(T:String)(r:V->List V->Hp->VK->Prop)(to:TE)(t:TA):TE:=fun σ H Q=>to σ H fun x H1=>tyV K T x H1/\t σ H1 fun xs H2=>r x xs H2 Q
variable{o e:Expr}{es:List Expr}{to:TE}{t:TA}{name:Str}{apos cpos:Pos}{T id:String}{r:V->List V->Hp->VK->Prop}
theorem cQ3(pa:PlainAttrs T)(slot:Slot T name id)(hty:typeOf (.builtin id)=pure (.type "method_descriptor"))(hm:MtR X id r)(ho:PE X o to)
  (hbase:attributeBase o name X.env (eval o X.env)=eval o X.env:=by rfl) (hline:(apos.endLine==cpos.line)=true:=by rfl):PE X (.Call (.Attribute o name apos) [] [] cpos) (dD2 X.K T r to):=by
 intro pins s σ H Q I h
 refine wpAny_Call_method0_late hbase hline (thn (ho pins s σ H _ I h) fun v s1 ⟨x,H1,I1,r1,ty,q1⟩=>?_)
 obtain⟨h1,h2⟩:=bU1 I1 r1 ty
 exact⟨T,id,pa,slot,hty,h1,h2,Calls.callWith_builtin rfl (PySem.evalArgs_none (hm pins s1 σ H1 x [] v [] Q I1 r1 .nil q1))⟩
theorem dD3(pa:PlainAttrs T)(slot:Slot T name id)(hty:typeOf (.builtin id)=pure (.type "method_descriptor"))(hm:MtR X id r)(ho:PE X o to)(ha:PA X (e::es) t)
  (hbase:attributeBase o name X.env (eval o X.env)=eval o X.env:=by rfl)
  (hfew:((backTo cpos (starEach (e::es) X.env)).all (fun x=>!x.1)&&(backToKw cpos (keywordEach [] X.env)).all (fun x=>x.1.isSome)
   && decide ((e::es).length+([]:List Keyword).length+(if([]:List Keyword).isEmpty then 0 else 1) < 30))=true:=by rfl)
  (hline:(apos.endLine==cpos.line)=true:=by rfl) (hs:starEach (e::es) X.env=(false,eval e X.env)::starEach es X.env:=by rfl) (hplain:(backTo cpos (starEach es X.env)).any (·.1)=false:=by rfl) :
  PE X (.Call (.Attribute o name apos) (e::es) [] cpos) (tBM X.K T r to t):=by
 intro pins s σ H Q I h
 refine wpAny_Call_method_late hbase hfew hline rfl (thn (ho pins s σ H _ I h) fun v s1 ⟨x,H1,I1,r1,ty,q1⟩=>?_)
 obtain⟨h1,h2⟩:=bU1 I1 r1 ty
 refine⟨T,id,pa,slot,hty,h1,h2,?_⟩
 have hA:=ha cpos pins s1 σ H1 _ I1 q1
 rw[hs]at hA ⊢
 refine Calls.callWith_builtin (by show(false||(backTo cpos (starEach es X.env)).any (·.1))=false;rw[hplain]<;>rfl) (Calls.evalArgs_plain ?_)
 exact thn hA fun us s2 ⟨vs,H2,I2,r2,q2⟩=>hm pins s2 σ H2 x vs v us Q I2 r1 r2 q2
end
def MtM(X:Cx)(id:String)(r:V->List V->Hp->VK->Prop):Prop:=
 ∀ (pins:List (Addr×Obj)) (s:Shared) (σ:St) (H:Hp) (x:V) (xs:List V) (v:Value) (us:List Value) (Q:VK),Inv X pins σ H s->eO x v->cE xs us->r x xs H Q ->
   wpAny (model X.prog X.w) X.A (call (.builtin id) (v::us)) (EP X pins σ Q) X.xe s
theorem cE.one:∀ {x:V} {us:List Value},cE [x] us->∃ u,us=[u]/\eO x u
 | _,_,.cons r .nil=>⟨_,rfl,r⟩
theorem cE.two:∀ {x y:V} {us:List Value},cE [x,y] us->∃ u v,us=[u,v]/\eO x u/\eO y v
 | _,_,_,.cons r (.cons q .nil)=>⟨_,_,rfl,r,q⟩
theorem cE.zero:∀ {us:List Value},cE [] us->us=[]
 | _,.nil=>rfl
theorem cE.dropLast{xs:List V}{us:List Value}(h:cE xs us):cE xs.dropLast us.dropLast:=by
 induction h with
 | nil=>exact .nil
 | cons r t ih=>
   cases t with
   | nil=>exact .nil
   | cons q t'=>exact .cons r ih
theorem cE.eraseIdx:∀ {xs:List V} {us:List Value} (i:Nat),cE xs us->cE (xs.eraseIdx i) (us.eraseIdx i)
 | _,_,_,.nil=>.nil
 | _,_,0,.cons _ t=>t
 | _,_,i+1,.cons r t=>.cons r (cE.eraseIdx i t)
theorem aR0{α:Type}(l:List α):l.eraseIdx (l.length-1)=l.dropLast:=by
 induction l with
 | nil=>rfl
 | cons a r ih=>
   cases r with
   | nil=>rfl
   | cons b r=>
     have e:(a::b::r).length-1=((b::r).length-1)+1:=by
      have h1:(a::b::r).length=r.length+2:=rfl
      have h2:(b::r).length=r.length+1:=rfl
      omega
     rw[e,List.eraseIdx_cons_succ,ih]
     all_goals rfl
theorem vO{α:Type}:∀ (l:List α) (i:Nat),(l.eraseIdx i).length<=l.length
 | [],_=>Nat.le_refl _
 | _::_,0=>Nat.le_succ _
 | _::r,i+1=>Nat.succ_le_succ (vO r i)
section
variable{X:Cx}{pins:List (Addr×Obj)}{σ:St}{H:Hp}{s:Shared}{l b:Addr}{xs ys zs:List V}
theorem Inv.lset{its its':List Value}{n:Nat}{f:Array Value->Array Value}{t':Nat}(I:Inv X pins σ H s)(hH:H l=some (.lst xs))
  (e:s.heap.get? l=some {cls:=.type "list",data:=.seq its.toArray n}) (hf:f its.toArray=its'.toArray) (hv:cE ys its') (hz:ys.length<=sizeLine) :
  Inv X pins σ (upd H l (.lst ys)) {s with heap:=s.heap.update l (Obj.mapSeq f),toks:=t'}:=by
 have q:=PySem.IsL.update e f
 rw[hf]at q
 refine I.write (x:=l) (e:=l) (by rw[hH];exact trivial) (.inl rfl) (fun b' u hb hu=>(Heap.get?_update_other s.heap (Obj.mapSeq f) (Ne.symm hb)).trans hu) ⟨_,q⟩ ?_
 exact⟨hz,its',_,hv,q⟩
theorem Inv.lnew{its:List Value}{t':Nat}(I:Inv X pins σ H s)(hv:cE ys its)(hz:ys.length<=sizeLine) :
  Inv X pins σ (upd H s.heap.objs.size (.lst ys)) {s with heap:=s.heap.push {cls:=.type "list",data:=.seq its.toArray},toks:=t'}:=
 I.laid (fun _ _ q=>Heap.get?_push_of_some _ q) (Nat.le_refl _) ⟨hz,its,0,hv,Heap.get?_push_size _ rfl⟩
theorem Inv.fresh(I:Inv X pins σ H s):H s.heap.objs.size=none:=I.hok.fresh (Nat.le_refl _)
theorem Inv.lstM(I:Inv X pins σ H s)(hH:H l=some (.lst xs)):xs.length<=sizeLine/\∃ (its:List Value) (n:Nat),cE xs its/\xs.length=its.length/\s.heap.get? l=some {cls:=.type "list",data:=.seq its.toArray n}:=by
 obtain⟨z,its,n,r,e⟩:=I.hok l _ hH
 exact⟨z,its,n,r,r.length,e⟩
theorem aA3{n:Nat}(h:n<=sizeLine):Builtin.List.listTooLong n=false:=by
 unfold Builtin.List.listTooLong
 exact decide_eq_false (by omega)
end
section
variable{X:Cx}
def aW8:V->List V->Hp->VK->Prop:=fun x vs H Q=>∃ l xs y,x=.ref l/\vs=[y]/\H l=some (.lst xs)/\xs.length < sizeLine/\Q .non (upd H l (.lst (xs++[y])))
theorem eR:MtM X "list.append" aW8:=by
 intro pins s σ H x vs v us Q I rx rv h
 obtain⟨l,xs,y,rfl,rfl,hH,hz,q⟩:=h
 cases rx
 obtain⟨u,rfl,ru⟩:=rv.one
 obtain⟨z,its,n,r,hl,e⟩:=I.lstM hH
 refine call_meets F.slot_list_append ⟨_,e,rfl⟩ F.entry_list_append (F.args_list_append_2 _ _) (PySem.list_append l its.toArray n u (by rw[List.size_toArray];omega)) ⟨e,?_⟩
 refine⟨.non,_,I.lset (its':=its++[u]) hH e (by simp) (r.append (.cons ru .nil)) ?_,rfl,q⟩
 rw[List.length_append,List.length_singleton]
 omega
def cB6:V->List V->Hp->VK->Prop:=fun x vs H Q=>∃ l b xs zs,x=.ref l/\vs=[.ref b]/\H l=some (.lst xs)/\H b=some (.lst zs)/\xs.length+zs.length<=sizeLine/\Q .non (upd H l (.lst (xs++zs)))
theorem cQ4:MtM X "list.extend" cB6:=by
 intro pins s σ H x vs v us Q I rx rv h
 obtain⟨l,b,xs,zs,rfl,rfl,hH,hB,hz,q⟩:=h
 cases rx
 obtain⟨u,rfl,ru⟩:=rv.one
 cases ru
 obtain⟨z,its,n,r,hl,e⟩:=I.lstM hH
 obtain⟨z2,its2,n2,r2,hl2,e2⟩:=I.lstM hB
 have hsz:its.toArray.size+its2.toArray.size<=sizeLine:=by rw[List.size_toArray,List.size_toArray];omega
 have hlong:¬ (!its.toArray.isEmpty&&Builtin.List.listTooLong (its.toArray.size+its2.toArray.size))=true:=by
  rw[aA3 hsz,Bool.and_false]
  exact Bool.false_ne_true
 refine call_meets F.slot_list_extend ⟨_,e,rfl⟩ F.entry_list_extend (F.args_list_extend_2 _ _)
  (AutoSeq1.list_extend_list_list_0 l its.toArray n b its2.toArray n2 hlong (by rw[List.size_toArray];omega) (by omega)) ⟨e,e2,?_⟩
 refine⟨.non,_,I.lset (its':=its++its2) hH e (by simp) (r.append r2) ?_,rfl,q⟩
 rw[List.length_append]
 omega
def dL0:V->List V->Hp->VK->Prop:=fun x vs H Q=>∃ l xs y,x=.ref l/\vs=[]/\H l=some (.lst xs)/\xs[xs.length-1]? = some y/\Q y (upd H l (.lst xs.dropLast))
theorem cQ5:MtM X "list.pop" dL0:=by
 intro pins s σ H x vs v us Q I rx rv h
 obtain⟨l,xs,y,rfl,rfl,hH,hy,q⟩:=h
 cases rx
 have hus:=rv.zero
 subst hus
 obtain⟨z,its,n,r,hl,e⟩:=I.lstM hH
 obtain⟨u,hu,ru⟩:=r.get hy
 have hy':its.toArray[its.toArray.size-1]? = some u:=by
  show its.toArray[its.length-1]? = some u
  rw[← Array.getElem?_toList,← hl]
  exact hu
 refine call_meets F.slot_list_pop ⟨_,e,rfl⟩ F.entry_list_pop (F.args_list_pop_1 _) (MeetsSeq.list_pop_last l its.toArray n u hy' (by rw[List.size_toArray];omega)) ⟨e,?_⟩
 refine⟨y,_,I.lset (its':=its.dropLast) hH e ?_ r.dropLast ?_,ru,q⟩
 ·show its.toArray.eraseIdxIfInBounds (its.toArray.size-1)=its.dropLast.toArray
  rw[List.size_toArray,List.eraseIdxIfInBounds_toArray,aR0]
 ·rw[List.length_dropLast]
  omega
def bU2:V->List V->Hp->VK->Prop:=fun x vs H Q=>∃ l xs i k y,x=.ref l/\vs=[.int i]/\H l=some (.lst xs) /\ -(2 ^ 63)<=i/\i < 2 ^ 63/\seqIndex? i xs.length=some k/\xs[k]? = some y/\Q y (upd H l (.lst (xs.eraseIdx k)))
theorem bL0:MtM X "list.pop" bU2:=by
 intro pins s σ H x vs v us Q I rx rv h
 obtain⟨l,xs,i,k,y,rfl,rfl,hH,h1,h2,hk,hy,q⟩:=h
 cases rx
 obtain⟨u,rfl,ru⟩:=rv.one
 obtain⟨t,rfl⟩:=ru
 obtain⟨z,its,n,r,hl,e⟩:=I.lstM hH
 obtain⟨w,hw,rw'⟩:=r.get hy
 refine call_meets F.slot_list_pop ⟨_,e,rfl⟩ F.entry_list_pop (F.args_list_pop_2 _ _)
  (MeetsSeq.list_pop_at l its.toArray n i t k w (fitsIndex_both h1 h2) (by rw[List.size_toArray,← hl];exact hk) (by rw[← Array.getElem?_toList];exact hw) (by rw[List.size_toArray];omega)) ⟨e,?_⟩
 refine⟨y,_,I.lset (its':=its.eraseIdx k) hH e ?_ (r.eraseIdx k) ?_,rw',q⟩
 ·show its.toArray.eraseIdxIfInBounds k=(its.eraseIdx k).toArray
  rw[List.eraseIdxIfInBounds_toArray]
 ·have:=vO xs k
  omega
def dL1:R2:=fun x y H Q=>∃ l b xs zs,x=.ref l/\y=.ref b/\H l=some (.lst xs)/\H b=some (.lst zs)/\xs.length+zs.length<=sizeLine/\∀ p,H p=none->Q (.ref p) (upd H p (.lst (xs++zs)))
theorem cQ6:OpR X (binaryOp .Add) dL1:=by
 intro pins s σ H x y v u Q I rx ry h
 obtain⟨l,b,xs,zs,rfl,rfl,hH,hB,hz,q⟩:=h
 cases rx
 cases ry
 obtain⟨z,its,n,r,hl,e⟩:=I.lstM hH
 obtain⟨z2,its2,n2,r2,hl2,e2⟩:=I.lstM hB
 refine PySem.P.add_list e e2 ?_ (by rw[List.size_toArray,List.size_toArray];omega)
 have ea:its.toArray++its2.toArray=(its++its2).toArray:=by simp
 rw[ea]
 exact⟨.ref _,_,I.lnew (t':=s.toks) (r.append r2) (by rw[List.length_append];omega),rfl,q _ I.fresh⟩
end
section
variable{prog:Program}{w:World}{A:Around}{E:Value->Shared->Prop}{s:Shared}
set_option maxRecDepth 100000 in
end
section
variable{X:Cx}
end
end L2
namespace Att
open PySem PySem.W PySem.Calls PyProof.Rows
theorem oS{P:Params}{h:Heap}:∀ (ns:List Int) (vs:List Value),WellAll P h vs (ns.map WData.int)->IntsAre vs ns:=by
 intro ns
 induction ns with
 | nil=>
   intro vs w
   rw[List.map_nil]at w
   cases w
   exact .nil
 | cons n ns ih=>
   intro vs w
   rw[List.map_cons]at w
   cases w with
   | cons a b=>
     cases a
     exact .cons _ _ (ih _ b)
theorem aW9{l:OpenLaw}{n:Nat}(hn:l.most=some n){P:Params}{h:Heap}{args:List WData}{vals:List Value}
  (hpre:l.row.toRowW.claim.pre args=true) (hwl:WellAll P h vals args) :
  ∃ a vs ns,vals=[Value.ref a]/\args=[WData.list (ns.map WData.int)]/\h.get? a=some {cls:=.type "list",data:=.seq vs.toArray}/\IntsAre vs ns/\ns.length<=n:=by
 have hsh:WShape.hasAll [] args [.list .int]=true:=(pre_splitW hpre).1
 have hc:l.pre.holds [] {args:=args}=true:=(pre_splitW hpre).2
 obtain⟨d,r,rfl,h1,h2⟩:=hasAllW_cons hsh
 obtain rfl:=hasAllW_nil h2
 obtain⟨xs,rfl,h3⟩:=hasW_list h1
 obtain⟨ns,rfl⟩:=items_int h3
 have hlen:ns.length<=n:=by
  unfold OpenLaw.pre at hc
  have h4:(WTm.not (.lt (.lit (.int (n:Int))) (.len (.arg 0)))).holds [] {args:=[.list (ns.map .int)]}=true:=by
   have h4:=(holds_andW hc).1
   rw[hn]at h4
   exact h4
  have h5:=condW_of h4 (w_not (w_lt w_lit (w_len_list (w_arg rfl))))
  rw[List.length_map]at h5
  refine Nat.le_of_not_lt fun q=>?_
  have q':(n:Int) < ((ns.length:Nat):Int):=by omega
  first
   | (rw[decide_eq_true q']at h5;exact absurd h5 (by decide))
   | (simp at h5;omega)
 cases hwl with
 | cons w1 w2=>
   cases w2
   cases w1 with
   | list ho hall=>exact⟨_,_,ns,rfl,rfl,ho,oS ns _ hall,hlen⟩
theorem aX0(l:OpenLaw)(args:List WData):l.row.toRowW.claim.post args (.bool true) args=true:=
 postW_of (r:=l.row.toRowW) (X:=(true==true))
  (show WShape.has [] (.bool true) .bool=true by first | rfl | decide | simp[WShape.has,WShape.arms,WShape.armsAll])
  (show(WTm.eq .res (.lit (.bool true))).value [] {args:=args,res:=some (.bool true),after:=args}=some (.bool (true==true))from w_eq_bool (w_res rfl) w_lit) rfl
theorem attach_call{l:OpenLaw}{n:Nat}{q:Program}{loose:List Str}{XP:(Str->Option Value)->Heap->Prop}{YP:World->Heap->Prop}{d:DefRec}
  (hn:l.most=some n) (hdf:d.params.defaults=[])
  (call:∀ (w:World) (s₀ s₁:Shared) (mg mb:Str->Option Value) (fa:Addr) (o:Obj) (pm cd doc:Value) (a:Addr) (vs:List Value) (ns:List Int),
   Ground q loose [] XP w s₀ mg mb s₁.heap->YP w s₁.heap ->
   s₁.heap.get? fa=some o->o.data=.func (docDef d.name d.params d.body d.scope pm cd doc)->s₁.heap.CodeRec cd d.name->mg d.name=some (.ref fa) ->
   s₁.heap.get? a=some {cls:=.type "list",data:=.seq vs.toArray}->IntsAre vs ns->ns.length<=n->s₁.gens=#[] ->
   codeAny (model l.prog w) callerA (.call (.ref fa) ⟨[.ref a],[]⟩) (fun r s'=>r=.ok (.ret (.bool true))/\OldK s₁.heap s'.heap/\s'.os=s₁.os/\AllBare s'.gens) s₁) :
  WalkO q loose XP YP l.row.toRowW d [] (fun f vs=>PySem.call f vs):=by
 intro w s₀ s₁ mg mb G Y fa o pm cd doc dV kV ho hd hcd hD hmg hg args vals as hpre hlay hrd hwl hlo
 obtain rfl:dV=.none:=Dflts.none hD hdf
 obtain rfl:kV=.none:=Dflts.noKw hD
 obtain⟨a,vs,ns,rfl,rfl,hobj,hints,hlen⟩:=aW9 hn hpre hwl
 refine enter_call (codeAny_mono (call w s₀ s₁ mg mb fa o pm cd doc a vs ns G Y ho (fd_plain hd) hcd hmg hobj hints hlen hg) fun r s' hq=>?_)
 obtain⟨rfl,h2,h3,h4⟩:=hq
 exact⟨.inl ⟨.bool true,.bool true,[],rfl,fun _=>rfl,.bool true,aX0 l _,fun _=>⟨List.Pairwise.nil,fun _ hm=>(nomatch hm)⟩⟩,h2,h3,h4⟩
section
variable{prog:Program}{w:World}{A:Around}{E:Value->Shared->Prop}{s:Shared}{K:Frag}
end
end Att
namespace L2
open PySem PySem.Spec PyProof.Rows
theorem vP:∀ {vs:List Value} {ns:List Int},IntsAre vs ns->cE (ns.map V.int) vs
 | _,_,.nil=>.nil
 | _,_,.cons n t h=>.cons ⟨t,rfl⟩ (vP h)
def cQ7(H:Hp):Prop:=∀ b,H b=none\/∃ o xs,H b=some (.frz o (.lst xs))
theorem bL1{P:Program}{w:World}{K:PySem.W.Frag}{mg mb:Str->Option Value}{CX:CXT}{k:Nat}{fa a:Addr}{fd:FuncData}{x:Str}{sp:Sp}{s₁:Shared}{vs:List Value}{ns:List Int}
  (KX:K.In s₁.heap) (hns:s₁.heap.Ns mainGlobals mg) (hb:s₁.heap.Ns builtinsNs mb) (hbb:∀ x:Str,x≠"__name__"->mb x=bootBuiltins x) (hlim:s₁.heap.NoLimit) (hg:s₁.gens=#[])
  (ha:s₁.heap.get? a=some {cls:=.type "list",data:=.seq vs.toArray}) (hi:IntsAre vs ns) (hl:ns.length<=sizeLine) (hr:Room k callerA)
  (F:∀ base:Heap,K.In base->base.Ns mainGlobals mg->FnOk P w K mg base CX k fa fd [x] sp) (hbind:∀ (s:Shared) (u:Value),BindsTo s fd ⟨[u],[]⟩ [(x,u)])
  (hsp:∀ H:Hp,cQ7 H->SqL K H a (ns.map V.int)->sp [.ref a] H (fun v _=>v=.bl true) fun _ _ _=>False)
  (hCX:∀ H e s',CX [] H s₁ (fun _ _ _=>False) e s'->False) :
  codeAny (model P w) callerA (.call (.ref fa) ⟨[.ref a],[]⟩) (fun r s'=>r=.ok (.ret (.bool true))/\OldK s₁.heap s'.heap/\s'.os=s₁.os/\AllBare s'.gens) s₁:=by
 have rv:=vP hi
 have lenV:=hi.length
 -- from an abstract heap in which nothing but the script may be tracked
 have core:∀ H:Hp,cQ7 H->SqL K H a (ns.map V.int)->HOk P w H s₁.heap->(∀ b,H b≠none->b=a)->(H a≠none->K.lookup a=none) ->
   codeAny (model P w) callerA (.call (.ref fa) ⟨[.ref a],[]⟩) (fun r s'=>r=.ok (.ret (.bool true))/\OldK s₁.heap s'.heap/\s'.os=s₁.os/\AllBare s'.gens) s₁:=by
  intro H hO hS hok hA hK
  have base_of:∀ {b:Addr} {o:Obj},s₁.heap.get? b=some o->H b=none->(bK1 s₁.heap H).get? b=some o:=fun e n=>bK2 e n
  have noA:∀ {b:Addr} {o:Obj} {es:Array DictEntry} {ep:Nat},s₁.heap.get? b=some o->o.data=.dict es ep->H b=none:=fun{b o es ep} e d=>by
   cases q:H b with
   | none=>rfl
   | some u=>
     have e':b=a:=hA b (by rw[q];simp)
     subst e'
     rw[ha]at e;cases e
     have d':Data.seq vs.toArray _=Data.dict es ep:=d
     cases d'
  have nsK:∀ {b:Addr} {m:Str->Option Value},s₁.heap.Ns b m->(bK1 s₁.heap H).Ns b m:=fun{b m} ⟨o,es,ep,e,d,r⟩=>⟨o,es,ep,base_of e (noA e d),d,r⟩
  have hKb:K.In (bK1 s₁.heap H):=fun b o e=>base_of (KX b o e) (by
   cases q:H b with
   | none=>rfl
   | some u=>
     have e':b=a:=hA b (by rw[q];simp)
     subst e'
     rw[hK (by rw[q];simp)]at e;cases e)
  have hM:Mod K mg (bK1 s₁.heap H):=⟨hKb,nsK hns,⟨mb,nsK hb,hbb⟩,let ⟨mc,h1,h2⟩:=hlim;⟨mc,nsK h1,h2⟩⟩
  have e0:Env0 P w K mg (bK1 s₁.heap H) callerA [] s₁ H:=⟨rfl,hM,fun b o e=>bZ9 e,Nat.le_of_eq (aU6 _ _),trivial,fun b hb=>absurd (show b∈([]:List Addr)from hb) (by simp),hok,.of_eq hg⟩
  refine codeAny_mono ((F _ hKb (nsK hns)).run callerA [] s₁ H ⟨[.ref a],[]⟩ [.ref a] [.ref a] _ _ hr e0 (hbind s₁ (.ref a)) (.cons rfl .nil) (hsp H hO hS)) fun r s' h=>?_
  cases r with
  | error e=>exact(hCX H e s' h).elim
  | ok fl=>
    cases fl with
    | next=>exact False.elim h
    | brk=>exact False.elim h
    | cont=>exact False.elim h
    | ret u=>
      obtain⟨v,H',os,bare,un,hok',r',q⟩:=h
      have q':v=.bl true:=q
      subst q'
      obtain rfl:u=Value.bool true:=r'
      refine⟨rfl,OldK.of_keep fun b o e=>?_,os,bare⟩
      cases q:H b with
      | none=>exact un.keep b o e q (by intro z;exact absurd (show b∈([]:List Addr)from z) (by simp)) (by simp)
      | some u=>
        rcases hO b with z | ⟨ob,xs,z⟩
        ·rw[q]at z;cases z
        ·have z2:=un.frzs b ob _ z
         obtain⟨e1,_⟩:=hok b _ z
         obtain⟨e2,_⟩:=hok' b _ z2
         rw[e]at e1;cases e1
         exact e2
 cases hk:K.lookup a with
 | some o=>
   -- the script is one of the module's own objects
   have e:=KX a o hk
   rw[ha]at e
   cases e
   refine core (fun _=>none) (fun _=>.inl rfl) (.inr ⟨_,vs.toArray,_,hk,rfl,rfl,rfl,by rw[List.size_toArray,lenV];exact hl,by simpa using rv⟩) (fun b u z=>by have z':(none:Option HO)=some u:=z;cases z') (fun b z=>absurd rfl z) fun z=>absurd rfl z
 | none=>
   refine core (fun b=>if b=a then some (.frz {cls:=.type "list",data:=.seq vs.toArray} (.lst (ns.map V.int)))else none) (fun b=>?_) (.inl (.inr ⟨{cls:=.type "list",data:=.seq vs.toArray},if_pos rfl⟩)) (fun b u z=>?_) (fun b z=>?_) fun _=>hk
   ·by_cases hb:b=a
    ·exact .inr ⟨_,_,if_pos hb⟩
    ·exact .inl (if_neg hb)
   ·by_cases hb:b=a
    ·have z':=(if_pos hb).symm.trans z
     cases z'
     subst hb
     exact⟨ha,by rw[List.length_map];exact hl,vs,_,rv,ha⟩
    ·have z':=(if_neg hb).symm.trans z
     cases z'
   ·by_cases hb:b=a
    ·exact hb
    ·exact absurd (if_neg hb) z
theorem cB7{l:PySem.W.OpenLaw}{n k:Nat}{q:Program}{loose:List Str}{XP:(Str->Option Value)->Heap->Prop}{YP:World->Heap->Prop}{d:DefRec}{K:Params->PySem.W.Frag}{CX:World->CXT}{sp:World->Sp}{x:Str}
  (hn:l.most=some n) (hn2:n<=sizeLine) (hdf:d.params.defaults=[]) (hr:Room k callerA)
  (hY:∀ (w:World) (h:Heap),YP w h->(K w.params).In h)
  (F:∀ (w:World) (mg:Str->Option Value) (fa:Addr) (h:Heap),(K w.params).In h->h.Ns mainGlobals mg->mg d.name=some (.ref fa) ->
   ∃ fd:FuncData,(∀ (s:Shared) (u:Value),BindsTo s fd ⟨[u],[]⟩ [(x,u)]) /\
     ∀ base:Heap,(K w.params).In base->base.Ns mainGlobals mg->FnOk l.prog w (K w.params) mg base (CX w) k fa fd [x] (sp w))
  (hsp:∀ (w:World) (H:Hp) (a:Addr) (ns:List Int),ns.length<=n->cQ7 H->SqL (K w.params) H a (ns.map V.int)->sp w [.ref a] H (fun v _=>v=.bl true) fun _ _ _=>False)
  (hCX:∀ (w:World) (H:Hp) (s:Shared) (e:Value) (s':Shared),CX w [] H s (fun _ _ _=>False) e s'->False) :
  PySem.W.WalkO q loose XP YP l.row.toRowW d [] (fun f vs=>PySem.call f vs):=by
 refine Att.attach_call hn hdf fun w s₀ s₁ mg mb fa o pm cd doc a vs ns G Y ho hd hcd hmg hobj hints hlen hg=>?_
 have KX:=hY w _ Y
 obtain⟨fd,hb,hF⟩:=F w mg fa _ KX G.T.g hmg
 exact bL1 KX G.T.g G.T.b G.T.builtins G.T.nolimit hg hobj hints (Nat.le_trans hlen hn2) hr hF hb (fun H hO hS=>hsp w H a ns hlen hO hS) fun H e s'=>hCX w H s₁ e s'
def yA(s:Stmt):Arguments:=match s with
 | .FunctionDef _ a _ _ _ _ _ _ _ _=>a
 | _=>{posonlyargs:=[],args:=[],vararg:=none,kwonlyargs:=[],kw_defaults:=[],kwarg:=none,defaults:=[]}
def mB(s:Stmt):List Stmt:=match s with
 | .FunctionDef _ _ b _ _ _ _ _ _ _=>b
 | _=>[]
def aS(s:Stmt):Scope:=match s with
 | .FunctionDef _ _ _ _ _ _ sc _ _ _=>sc
 | _=>{kind:=.function,names:=[],isGenerator:=false,isCoroutine:=false}
abbrev CX0:CXT:=fun _ _ _ _ _ _=>False
abbrev E0:XK:=fun _ _ _=>False
theorem aY{X:Cx}:aW3 CX0 X E0:=fun _ _ _ _ _ _ _ h=>h.elim
structure Fun(K:PySem.W.Frag)(x qual:Str)(st:Stmt)(f:Addr)(fd:FuncData):Prop where
 ex:∃ (oc:Value) (od:Option Addr) (kV doc pm:Value) (an:Option Addr) (cdv ct:Value) (osl:Array (Option Value)),
  fd=PySem.W.fnOf x qual (yA st) (mB st) (aS st) .none kV doc pm an cdv ct/\K.lookup f=some ⟨oc,od,.func fd,osl⟩/\PySem.W.codeIn K cdv qual=true
 kp:PySem.W.keepIn K (.ref f)=true
section
variable{P:Program}{w:World}{K:PySem.W.Frag}{mg:Str->Option Value}{base:Heap}
theorem Fun.ok{x qual:Str}{st:Stmt}{f:Addr}{fd:FuncData}{N ps:List Str}{k:Nat}{sp:Sp}(F:Fun K x qual st f fd)(S:FnScope N ps (aS st))(len:∀ vs H Q E,sp vs H Q E->vs.length=ps.length)
  (hbody:∀ (cdv:Value) (A:Around) (outer:List Env) (s:Shared) (H:Hp) (vs:List V) (Q:VK) (E:XK),Room k (A.deeper (envOfC qual (aS st) s.heap.objs.size f cdv))->sp vs H Q E ->
   ∃ t,PSs (bU0 CX0 P w K mg base N qual (aS st) f cdv A outer s H E).nox (mB st) t/\t {nx:=fun _ H'=>Q .non H',rt:=Q} (iF N vs) H):FnOk P w K mg base CX0 (k+1) f fd ps sp:=by
 obtain⟨oc,od,kV,doc,pm,an,cdv,ct,osl,rfl,lk,hcd⟩:=F.ex
 refine dC9 lk hcd S len fun A outer s H vs Q E hr hsp=>?_
 obtain⟨t,h,q⟩:=hbody cdv A outer s H vs Q E hr hsp
 exact⟨t,h.nox,q⟩
theorem Fun.binds{x qual:Str}{st:Stmt}{f:Addr}{fd:FuncData}{ps:List Str}(F:Fun K x qual st f fd)
  (h:∀ (kV doc pm:Value) (an:Option Addr) (cdv ct:Value) (us:List Value),us.length=ps.length->bindArgs (PySem.W.fnOf x qual (yA st) (mB st) (aS st) .none kV doc pm an cdv ct) ⟨us,[]⟩=pure (ps.zip us)):eE K fd ps []:=by
 obtain⟨oc,od,kV,doc,pm,an,cdv,ct,osl,rfl,lk,hcd⟩:=F.ex
 exact .all (h kV doc pm an cdv ct)
end
section
variable{X:Cx}
theorem pv(i:Nat){x:Str}{pos:Pos}(hN:X.N[i]? = some x:=by rfl)(hv:Vis X.env.scope x:=by first | exact Or.inl rfl | exact Or.inr (Or.inl rfl) | exact Or.inr (Or.inr rfl))(hd:(x==("__debug__":Str))=false:=by decide)
  (hcd:(x==("__classdict__":Str))=false:=by decide):PE X (.Name x pos) (bK3 i):=cN7 hN hv hd hcd
end
theorem dD4{A B:Prop}(h:B):if false=true then A else B:=by
 rw[if_neg Bool.false_ne_true]
 exact h
theorem bU3{c A B:Prop}[Decidable c](h1:c->A)(h2:¬ c->B):if c then A else B:=by
 by_cases h:c
 ·rw[if_pos h]
  exact h1 h
 ·rw[if_neg h]
  exact h2 h
def xS(H H':Hp):Prop:=∀ b o,H b=some o->H' b=some o
theorem xS.refl(H:Hp):xS H H:=fun _ _ h=>h
theorem aR1{scope:Scope}{env:Env}(h:∀ y∈scope.names,y.2=.free->∃ c,env.cells.lookup y.1=some c) :
  ∃ cl:List (Str×Addr),closureFor scope env=pure cl/\(∀ x c,cl.lookup x=some c->env.cells.lookup x=some c)/\∀ y∈scope.names,y.2=.free->∃ c,cl.lookup y.1=some c:=by
 have key:∀ (l:List (Str×NameKind)) (acc:List (Str×Addr)),(∀ y∈l,y.2=.free->∃ c,env.cells.lookup y.1=some c)->(∀ x c,acc.lookup x=some c->env.cells.lookup x=some c) ->
   ∃ cl:List (Str×Addr),((forIn l acc fun(x:Str×NameKind) (r:List (Str×Addr))=>if(x.2==NameKind.free)=true then do let a ← cellOf env x.1;pure (ForInStep.yield ((x.1,a)::r))else pure (ForInStep.yield r)):Sem (List (Str×Addr)))=pure cl /\
     (∀ x c,cl.lookup x=some c->env.cells.lookup x=some c)/\(∀ x c,acc.lookup x=some c->∃ d,cl.lookup x=some d)/\∀ y∈l,y.2=.free->∃ c,cl.lookup y.1=some c:=by
  intro l
  induction l with
  | nil=>intro acc _ ha;exact⟨acc,rfl,ha,fun x c e=>⟨c,e⟩,fun _ hy=>nomatch hy⟩
  | cons y r ih=>
    intro acc hl ha
    obtain⟨n,k⟩:=y
    rw[List.forIn_cons]
    by_cases hk:(k==NameKind.free)=true
    ·have hk':k=.free:=by simpa using hk
     obtain⟨c,hc⟩:=hl (n,k) List.mem_cons_self hk'
     have e1:cellOf env n=pure c:=by unfold cellOf;rw[hc]
     obtain⟨cl,e,p1,p2,p3⟩:=ih ((n,c)::acc) (fun y hy=>hl y (List.mem_cons_of_mem _ hy)) (fun x d e=>by
      rw[List.lookup_cons]at e
      split at e
      ·rename_i hx
       have:x=n:=by simpa using hx
       cases e;rw[this];exact hc
      ·exact ha x d e)
     have has:∃ d,cl.lookup n=some d:=p2 n c (by rw[List.lookup_cons];simp)
     refine⟨cl,?_,p1,fun x d e=>?_,fun y hy hf=>?_⟩
     ·simp only[hk,if_true,e1]
      exact e
     ·by_cases hx:x=n
      ·subst hx;exact has
      ·exact p2 x d (by rw[List.lookup_cons];have:(x==n)=false:=by simpa using hx
                        rw[this];exact e)
     ·rcases List.mem_cons.mp hy with rfl | hy
      ·exact has
      ·exact p3 y hy hf
    ·obtain⟨cl,e,p1,p2,p3⟩:=ih acc (fun y hy=>hl y (List.mem_cons_of_mem _ hy)) ha
     refine⟨cl,?_,p1,p2,fun y hy hf=>?_⟩
     ·simp only[hk]
      exact e
     ·rcases List.mem_cons.mp hy with rfl | hy
      ·exact absurd (by simpa using hf) hk
      ·exact p3 y hy hf
 obtain⟨cl,e,p1,_,p3⟩:=key scope.names [] h (fun x c e=>nomatch e)
 refine⟨cl,?_,p1,p3⟩
 unfold closureFor
 simp only[bind_pure]
 exact e
theorem iZ{α:Type}{x n:Str}{v:α}{r:List (Str×α)}(h:(x==n)=true):List.lookup x ((n,v)::r)=some v:=by rw[List.lookup_cons,h]
theorem eS{α:Type}{x n:Str}{v:α}{r:List (Str×α)}(h:(x==n)=false):List.lookup x ((n,v)::r)=List.lookup x r:=by rw[List.lookup_cons,h]
theorem bU4{scope:Scope}{env:Env}{x:Str}(h:(relabel scope env).names.lookup x=some .cell\/(relabel scope env).names.lookup x=some .free)(hc:∀ y∈scope.names,y.2≠.cell) :
  (x,NameKind.free)∈scope.names:=by
 unfold relabel at h
 dsimp only at h
 revert h hc
 generalize scope.names=l
 intro h hc
 induction l with
 | nil=>rcases h with h | h<;>cases h
 | cons y r ih=>
   obtain⟨n,k⟩:=y
   rw[List.map_cons]at h
   dsimp only at h
   have ih':=fun h=>ih h fun y hy=>hc y (List.mem_cons_of_mem _ hy)
   have hkc:k≠.cell:=hc (n,k) List.mem_cons_self
   by_cases hk:(k==NameKind.free&&env.scope.kind==.function&&env.kindOf n==some .cell)=true
   ·have hkf:k=.free:=by
     simp only[Bool.and_eq_true,beq_iff_eq]at hk
     exact hk.1.1
    rw[if_pos hk]at h
    cases hx:x==n with
    | true=>
      have hxn:x=n:=by simpa using hx
      subst hxn hkf
      exact List.mem_cons_self
    | false=>
      rw[eS hx]at h
      exact List.mem_cons_of_mem _ (ih' h)
   ·rw[if_neg hk]at h
    cases hx:x==n with
    | true=>
      have hxn:x=n:=by simpa using hx
      rw[iZ hx]at h
      subst hxn
      rcases h with h | h
      ·exact absurd (Option.some.inj h) hkc
      ·rw[Option.some.inj h];exact List.mem_cons_self
    | false=>
      rw[eS hx]at h
      exact List.mem_cons_of_mem _ (ih' h)
theorem lA{scope:Scope}{env:Env}{x:Str}(h:(relabel scope env).names.lookup x=some .cell\/(relabel scope env).names.lookup x=some .free) :
  (x,NameKind.free)∈scope.names\/scope.names.lookup x=some .cell:=by
 unfold relabel at h
 dsimp only at h
 revert h
 generalize scope.names=l
 intro h
 induction l with
 | nil=>rcases h with h | h<;>cases h
 | cons y r ih=>
   obtain⟨n,k⟩:=y
   rw[List.map_cons]at h
   dsimp only at h
   by_cases hk:(k==NameKind.free&&env.scope.kind==.function&&env.kindOf n==some .cell)=true
   ·have hkf:k=.free:=by
     simp only[Bool.and_eq_true,beq_iff_eq]at hk
     exact hk.1.1
    rw[if_pos hk]at h
    cases hx:x==n with
    | true=>
      have hxn:x=n:=by simpa using hx
      subst hxn hkf
      exact .inl List.mem_cons_self
    | false=>
      rw[eS hx]at h
      rcases ih h with z | z
      ·exact .inl (List.mem_cons_of_mem _ z)
      ·exact .inr (by rw[eS hx];exact z)
   ·rw[if_neg hk]at h
    cases hx:x==n with
    | true=>
      have hxn:x=n:=by simpa using hx
      rw[iZ hx]at h
      subst hxn
      rcases h with h | h
      ·exact .inr (by rw[iZ hx];exact h)
      ·rw[Option.some.inj h];exact .inl List.mem_cons_self
    | false=>
      rw[eS hx]at h
      rcases ih h with z | z
      ·exact .inl (List.mem_cons_of_mem _ z)
      ·exact .inr (by rw[eS hx];exact z)
theorem dE:∀ (names:List (Str×NameKind)) (n:Nat) (acc:List (Str×Addr)),cellsFrom n names acc=cellsFrom n names []++acc
 | [],n,acc=>rfl
 | (x,k)::r,n,acc=>by
   unfold cellsFrom
   split
   ·rw[dE r (n+1) ((x,n)::acc),dE r (n+1) [(x,n)],List.append_assoc];rfl
   ·exact dE r n acc
theorem iG:∀ (names:List (Str×NameKind)) (n:Nat) (x:Str) (c:Addr),(x,c)∈cellsFrom n names []->(x,NameKind.cell)∈names
 | [],n,x,c,h=>nomatch h
 | (y,k)::r,n,x,c,h=>by
   unfold cellsFrom at h
   split at h
   ·rename_i hk
    have hk':k=.cell:=by simpa using hk
    rw[dE]at h
    rcases List.mem_append.mp h with z | z
    ·exact List.mem_cons_of_mem _ (iG r _ x c z)
    ·have e:=List.mem_singleton.mp z
     cases e;rw[hk'];exact List.mem_cons_self
   ·exact List.mem_cons_of_mem _ (iG r _ x c h)
theorem eF:∀ (names:List (Str×NameKind)) (n:Nat) (x:Str),(x,NameKind.cell)∈names->∃ c,(cellsFrom n names []).lookup x=some c
 | [],n,x,h=>nomatch h
 | (y,k)::r,n,x,h=>by
   have key:∀ m,(x,NameKind.cell)∈r->∃ c,(cellsFrom m r []).lookup x=some c:=fun m hm=>eF r m x hm
   unfold cellsFrom
   split
   ·rename_i hk
    rw[dE,List.lookup_append]
    rcases List.mem_cons.mp h with z | z
    ·cases z
     cases e:(cellsFrom (n+1) r []).lookup y with
     | some c=>exact⟨c,rfl⟩
     | none=>exact⟨n,by simp⟩
    ·obtain⟨c,hc⟩:=key (n+1) z
     exact⟨c,by rw[hc];rfl⟩
   ·rename_i hk
    rcases List.mem_cons.mp h with z | z
    ·cases z;exact absurd rfl hk
    ·exact key n z
theorem cB8{M:Model}{A:Around}{E:Value->Shared->Prop}{s:Shared}{scope:Scope}{globals:Addr}{cl:List (Str×Addr)}{qual:Str}{env:Env}{Q:Env->Shared->Prop}
  (hQ:Q (newEnv scope s.heap.objs.size globals (cellsFrom (s.heap.objs.size+1) scope.names cl) qual none .none (some env) builtinsNs) {s with heap:=pushCells (s.heap.push {cls:=.type "dict",data:=.dict #[]}) scope.names}) :
  wpAny M A (newFunctionEnv scope globals cl [] qual none .none (some env)) Q E s:=by
 simp only[newFunctionEnv,Option.isSome_some,if_true]
 refine wpAny_bind (wpAny_alloc ?_)
 refine wpAny_bind (wpAny_layCells _ (fun name kind cells=>by cases hkc:kind==NameKind.cell<;>simp[hkc]) _ _ _ _ ?_)
 rw[show({s with heap:=s.heap.push {cls:=.type "dict",data:=.dict #[]}}:Shared).heap.objs.size=s.heap.objs.size+1 from Heap.size_push ..]
 refine wpAny_bind ?_
 rw[List.forIn_nil]
 exact wpAny_pure (wpAny_pure hQ)
theorem sN{scope:Scope}{env:Env}{x:Str}(h:(relabel scope env).names.lookup x=some .local):scope.names.lookup x=some .local:=by
 unfold relabel at h
 dsimp only at h
 revert h
 generalize scope.names=l
 intro h
 induction l with
 | nil=>cases h
 | cons y r ih=>
   obtain⟨n,k⟩:=y
   rw[List.map_cons]at h
   dsimp only at h
   by_cases hk:(k==NameKind.free&&env.scope.kind==.function&&env.kindOf n==some .cell)=true
   ·rw[if_pos hk]at h
    cases hx:x==n with
    | true=>rw[iZ hx]at h;cases h
    | false=>rw[eS hx]at h ⊢;exact ih h
   ·rw[if_neg hk]at h
    cases hx:x==n with
    | true=>rw[iZ hx]at h ⊢;exact h
    | false=>rw[eS hx]at h ⊢;exact ih h
theorem Inv.adopt{X:Cx}{pins:List (Addr×Obj)}{σ:St}{H:Hp}{s:Shared}{a:Addr}{o:HO}(I:Inv X pins σ H s)(hn:H a=none)(h1:X.s₀.heap.objs.size<=a)(h2:a≠X.env.locals)
  (h3:∀ x c,X.env.cells.lookup x=some c->c≠a) (h4:∀ p∈X.pn++pins,p.1≠a) (new:eB X.prog X.w (upd H a o) s.heap a o):Inv X pins σ (upd H a o) s:=by
 have ne:∀ b u,H b=some u->b≠a:=fun b u e=>aV e hn
 refine⟨I.ok,I.os,I.bare,⟨I.base.keep,I.base.slot,fun b ob q n hx=>?_,I.base.there,fun b xs q=>?_,fun b ob u q=>?_,fun b ps q=>?_⟩,I.loc,I.cell,?_,fun x c e=>?_,fun p hp=>?_,fun b u e=>?_,I.len⟩
 ·rw[aL (Nat.ne_of_lt (Nat.lt_of_lt_of_le (Heap.lt_size q) h1))];exact I.base.free b ob q n hx
 ·have:=I.base.tups b xs q;rw[aL (ne b _ this)];exact this
 ·have:=I.base.frzs b ob u q;rw[aL (ne b _ this)];exact this
 ·obtain⟨m,this⟩:=I.base.tbls b ps q;exact⟨m,by rw[aL (ne b _ this)];exact this⟩
 ·rw[aL (Ne.symm h2)];exact I.free
 ·rw[aL (h3 x c e)];exact I.freeC x c e
 ·obtain⟨e,n,r⟩:=I.pin p hp
  exact⟨e,by rw[aL (h4 p hp)];exact n,r⟩
 ·by_cases hb:b=a
  ·subst hb;rw[aR]at e;cases e;exact new
  ·rw[aL hb]at e
   exact(I.hok b u e).stay (fun c v _ q=>q) (fun c q=>by rw[aL (ne c _ q)];exact q) fun c xs q=>by rw[aL (ne c _ q)];exact q
theorem yB{prog:Program}{w:World}{A:Around}{R:Result->Shared->Prop}{s:Shared}{elt target iter:Expr}{ifs:List Expr}{scope:Scope}{pos:Pos}{it acc:Value}{env:Env}(I:Nat->Shared->Prop)
  (turn:∀ n s,I n s->wpAny (model prog w) A (pyNext it) (fun r s₁=>match r with
   | none=>R (.ok .next) s₁
   | some v=>wpAny (model prog w) A (letOwnedTupleGo target it v) (fun _ s₁'=>wpAny (model prog w) A (assign target env v) (fun _ s₂=>
     wpAny (model prog w) A (forIn ifs true fun c r=>if r=true then do let ok ← isTrue c env (eval c env);pure (ForInStep.yield ok)else pure (ForInStep.yield r)) (fun ok s₃=>
      if ok=true then wpAny (model prog w) A (eval elt env) (fun x s₄=>
       wpAny (model prog w) A (call (.builtin "list.append") [acc,x]) (fun _ s₅=>∃ m,m < n/\I m s₅) (fun _ _=>False) s₄) (fun _ _=>False) s₃
      else ∃ m,m < n/\I m s₃) (fun _ _=>False) s₂) (fun _ _=>False) s₁') (fun _ _=>False) s₁) (fun _ _=>False) s)
  (n:Nat) (h:I n s) :
  codeAny (model prog w) A (.compLoop (.ListComp elt [⟨target,iter,ifs,0⟩] scope pos) 0 it acc env) R s:=by
 refine codeAny_loop rfl I (fun n s hI=>?_) n h
 show wpAny _ A ((compTurn (.ListComp elt [⟨target,iter,ifs,0⟩] scope pos) 0 it acc env).onRaise (fun x=>do noteFrame x env;theTreesLotGoes x)) _ _ s
 refine wpAny_noted ?_
 rw[compTurn_list]
 refine wpAny_bind (wpAny_standAt (wpAny_bind (wpAny_mono (turn n s hI) (fun r s₁ h₁=>?_) fun _ _ h'=>h'.elim)))
 cases r with
 | none=>exact wpAny_pure h₁
 | some v=>
   refine wpAny_bind (wpAny_mono h₁ (fun _ s₁' h₁=>?_) fun _ _ h'=>h'.elim)
   refine wpAny_bind (wpAny_mono h₁ (fun _ s₂ h₂=>wpAny_bind (wpAny_mono h₂ (fun ok s₃ h₃=>?_) fun _ _ h'=>h'.elim)) fun _ _ h'=>h'.elim)
   cases ok with
   | true=>
     simp only[if_true]at h₃ ⊢
     refine wpAny_bind (wpAny_bind (wpAny_mono h₃ (fun x s₄ h₄=>wpAny_bind (wpAny_mono h₄ (fun _ s₅ h₅=>wpAny_pure (wpAny_pure ⟨rfl,h₅⟩)) fun _ _ h'=>h'.elim)) fun _ _ h'=>h'.elim))
   | false=>
     simp only[Bool.false_eq_true,if_false]at h₃ ⊢
     first
      | exact wpAny_bind (wpAny_pure (wpAny_pure ⟨rfl,h₃⟩))
      | exact wpAny_pure ⟨rfl,h₃⟩
abbrev cxC(X:Cx)(scope:Scope)(cl:List (Str×Addr))(ex:List Addr)(s:Shared)(H:Hp):Cx:=
 {X with s₀:=s,H₀:=H,env:=compEnvC scope cl s.heap.objs.size X.env,outer:=X.stack,ex:=ex,fn:=fun x=>scope.names.lookup x==some .cell,xe:=fun _ _=>False}
def blank(own:List Nat)(σ:St):St:=own.foldl (fun σ i=>σ.set i none) σ
theorem mW:∀ (own:List Nat) (σ:St),(blank own σ).length=σ.length
 | [],_=>rfl
 | i::r,σ=>(mW r (σ.set i none)).trans (by simp)
theorem mD:∀ (own:List Nat) (σ:St) (i:Nat) (v:V),(blank own σ)[i]? = some (some v)->i∉own/\σ[i]? = some (some v)
 | [],_,_,_,h=>⟨by simp,h⟩
 | j::r,σ,i,v,h=>by
   obtain⟨h1,h2⟩:=mD r (σ.set j none) i v h
   by_cases e:i=j
   ·subst e
    rw[List.getElem?_set]at h2
    simp at h2
   ·rw[List.getElem?_set_ne (Ne.symm e)]at h2
    exact⟨by simp[e,h1],h2⟩
def cB9(own:List Nat)(g:TG):Prop:=∀ x σ H Q,g x σ H Q->g x σ H fun σ' H'=>Q σ' H'/\σ'.length=σ.length/\∀ i,i∉own->σ'[i]? = σ[i]?
def bL2(own:List Nat)(g:TGs):Prop:=∀ x σ H Q,g x σ H Q->g x σ H fun σ' H'=>Q σ' H'/\σ'.length=σ.length/\∀ i,i∉own->σ'[i]? = σ[i]?
theorem bC{own:List Nat}{i:Nat}(h:i∈own):cB9 own (sK i):=fun x σ H Q q=>
 ⟨q,by simp,fun j hj=>List.getElem?_set_ne (fun e:i=j=>hj (by rw[← e];exact h))⟩
theorem aX1{own:List Nat}:bL2 own dB9:=fun x σ H Q q=>⟨q.1,q.2,rfl,fun _ _=>rfl⟩
theorem rE{own:List Nat}{t:TG}{u:TGs}(ht:cB9 own t)(hu:bL2 own u)(mt:∀ x σ H Q Q',(∀ a b,Q a b->Q' a b)->t x σ H Q->t x σ H Q'):bL2 own (cA3 t u):=by
 intro x σ H Q q
 obtain⟨v,r,e,q⟩:=q
 refine⟨v,r,e,mt _ _ _ _ _ (fun σ1 H1 q1=>?_) (ht _ _ _ _ q)⟩
 obtain⟨q1,l1,p1⟩:=q1
 have:=hu _ _ _ _ q1
 revert this
 exact fun this=>by
  have hu2:u r σ1 H1 (fun σ' H'=>Q σ' H'/\σ'.length=σ1.length/\∀ i,i∉own->σ'[i]? = σ1[i]?):=this
  rw[l1]at hu2
  have e2:(fun(σ':St) H'=>Q σ' H'/\σ'.length=σ.length/\∀ i,i∉own->σ'[i]? = σ1[i]?)=(fun(σ':St) H'=>Q σ' H'/\σ'.length=σ.length/\∀ i,i∉own->σ'[i]? = σ[i]?):=by
   funext σ' H'
   apply propext
   constructor
   ·rintro⟨a,b,c⟩;exact⟨a,b,fun i hi=>(c i hi).trans (p1 i hi)⟩
   ·rintro⟨a,b,c⟩;exact⟨a,b,fun i hi=>(c i hi).trans (p1 i hi).symm⟩
  rw[← e2];exact hu2
theorem rF{i:Nat}:∀ x σ H (Q Q':St->Hp->Prop),(∀ a b,Q a b->Q' a b)->sK i x σ H Q->sK i x σ H Q':=fun _ _ _ _ _ f q=>f _ _ q
def bU5(X:Cx)(ifs:List Expr)(t:TT):Prop:=
 ∀ (pins:List (Addr×Obj)) (s:Shared) (σ:St) (H:Hp) (Q:Bool->Hp->Prop),Inv X pins σ H s->t σ H Q ->
   wpAny (model X.prog X.w) X.A (forIn ifs true fun c r=>if r=true then do let ok ← isTrue c X.env (eval c X.env);pure (ForInStep.yield ok)else pure (ForInStep.yield r)) (TP X pins σ Q) X.xe s
def cQ8:TT:=fun _ H Q=>Q true H
theorem sO{X:Cx}:bU5 X [] cQ8:=fun _ _ _ H _ I h=>wpAny_tests_nil ⟨H,I,h⟩
theorem aA4{X:Cx}{c:Expr}{t:TT}(h:PT X c t):bU5 X [c] t:=fun pins s σ H Q I q=>wpAny_tests_one (h pins s σ H Q I q)
structure CompScope(X:Cx)(scope:Scope)(own:List Nat):Prop where
 kind:scope.kind=.function
 cells:∀ y∈scope.names,y.2=.cell->scope.names.lookup y.1=some .cell
 names:∀ y∈scope.names,y.2=.local->scope.names.lookup y.1=some .local
 free:∀ y∈scope.names,y.2=.free->X.env.kindOf y.1=some .cell\/X.env.kindOf y.1=some .free
 own:∀ i x,X.N[i]? = some x->(scope.names.lookup x=some .local\/scope.names.lookup x=some .cell)->i∈own
 calm:X.calm=true
def bU6(own:List Nat)(wi:TI)(g:TG)(tt:TT)(te:TE)(σ:St)(H:Hp)(F:List V->Hp->Prop):Prop:=
 wi σ H fun J H1=>∃ W:Nat->Nat->List V->Hp->Prop,(∃ m,W 0 m [] H1)/\∀ i m ys H,W i m ys H->ys.length<=sizeLine /\
  ((J.stop i H/\F ys H)\/(J.go i H/\∀ x H',J.yld i H x H'->g x (blank own σ) H' fun σ2 H2=>tt σ2 H2 fun b H3=>
    if b=true then te σ2 H3 fun v H4=>∃ m',m' < m/\W (i+1) m' (ys++[v]) H4 else ∃ m',m' < m/\W (i+1) m' ys H3))
def aR2(own:List Nat)(wi:TI)(g:TG)(tt:TT)(te:TE):TE:=fun σ H Q=>bU6 own wi g tt te σ H fun ys H'=>∀ p,H' p=none->Q (.ref p) (upd H' p (.lst ys))
structure Stray(X:Cx)(pins:List (Addr×Obj))(H:Hp)(b:Addr):Prop where
 un:H b=none
 loc:b≠X.env.locals
 young:X.s₀.heap.objs.size<=b
 cell:∀ x c,X.env.cells.lookup x=some c->c≠b
 pin:∀ p∈X.pn++pins,p.1≠b
theorem Inv.stray{X:Cx}{pins:List (Addr×Obj)}{σ:St}{H H':Hp}{s:Shared}{b:Addr}(I:Inv X pins σ H s)(hb:s.heap.objs.size<=b)(hn:H' b=none):Stray X pins H' b:=by
 obtain⟨h1,h2,h3,h4,h5,h6⟩:=I.fpOk hb hn
 exact⟨h1,h2,Nat.le_trans I.sz hb,h5,h6⟩
set_option maxHeartbeats 8000000 in
theorem aR3{X:Cx}{tg iter elt:Expr}{ifs:List Expr}{scope:Scope}{pos:Pos}{own:List Nat}{g:TG}{tt:TT}{te:TE}{use:Option (Value->Sem Unit)}{Qf:Value->Shared->Prop}
  (S:CompScope X scope own) (hg:∀ cl ex s H,PG (cxC X scope cl ex s H) tg g) (hG:cB9 own g)
  (ht:∀ cl ex s H,bU5 (cxC X scope cl ex s H) ifs tt) (he:∀ cl ex s H,PE (cxC X scope cl ex s H) elt te)
  {pins:List (Addr×Obj)} {s₃:Shared} {σ:St} {H2:Hp} {F:List V->Hp->Prop} {cl:List (Str×Addr)} {J:It} {fp:List Addr} {it D:Addr} {tn:Nat->Heap->Prop} {h₁:Heap} {mC:Str->Option Value} {tk m0:Nat} {W:Nat->Nat->List V->Hp->Prop}
  (I3:Inv X pins σ H2 s₃) (T:Turn X.prog X.w X.K tg J fp it tn) (cl1:∀ x c,cl.lookup x=some c->(X.env.cells.lookup x=some c/\scope.names.lookup x≠some .cell)\/(s₃.heap.objs.size < c/\scope.names.lookup x=some .cell/\h₁.IsCell c none)) (cl2:∀ y∈scope.names,y.2=.free\/y.2=.cell->∃ c,cl.lookup y.1=some c)
  (cl3:∀ x y c,cl.lookup x=some c->cl.lookup y=some c->x=y)
  (f2:∀ b∈fp,aV1 X pins H2 b) (hfpD:∀ b∈fp,b < D) (hDlt:D < s₃.heap.objs.size) (stack_ne:∀ b,b∈frs X.stack->b < D) (hbase:∀ b o,X.base.get? b=some o->b < D) (strD:Stray X pins H2 D)
  (hD3:s₃.heap.get? D=some {cls:=.type "list",data:=.seq ([]:List Value).toArray}) (st3:tn 0 s₃.heap) (hns₁:h₁.Ns s₃.heap.objs.size mC) (old4:∀ b o,s₃.heap.get? b=some o->h₁.get? b=some o)
  (w0:W 0 m0 [] H2) (turn:∀ i m ys H,W i m ys H->ys.length<=sizeLine /\
  ((J.stop i H/\F ys H)\/(J.go i H/\∀ x H',J.yld i H x H'->g x (blank own σ) H' fun σ2 H2=>tt σ2 H2 fun b H3=>
    if b=true then te σ2 H3 fun v H4=>∃ m',m' < m/\W (i+1) m' (ys++[v]) H4 else ∃ m',m' < m/\W (i+1) m' ys H3)))
  (fin:∀ D C ys H' s' m,Inv X pins σ (upd H' D (.lst ys)) s'->H' D=none->s'.heap.Ns C m->Stray X pins (upd H' D (.lst ys)) C->F ys H' ->
   compPost (model X.prog X.w) X.A X.xe use Qf (.ref D) C (.ok .next) s') :
  codeAny (model X.prog X.w) X.A (.compLoop (.ListComp elt [⟨tg,iter,ifs,0⟩] scope pos) 0 (.ref it) (.ref D) (compEnvC scope cl s₃.heap.objs.size X.env))
   (compPost (model X.prog X.w) X.A X.xe use Qf (.ref D) s₃.heap.objs.size) {s₃ with heap:=h₁,toks:=tk}:=by
 have cneD:∀ x c,cl.lookup x=some c->c≠D:=fun x c q=>by
  rcases cl1 x c q with z | z
  ·exact strD.cell x c z.1
  ·exact(Nat.ne_of_lt (Nat.lt_trans hDlt z.1)).symm
 have cneF:∀ b∈fp,∀ x c,cl.lookup x=some c->c≠b:=fun b hb x c q=>by
  rcases cl1 x c q with z | z
  ·exact(f2 b hb).2.2.2.2.1 x c z.1
  ·exact(Nat.ne_of_lt (Nat.lt_trans (Nat.lt_trans (hfpD b hb) hDlt) z.1)).symm
 have okY:(cxC X scope cl (D::fp) s₃ H2).Ok:=by
  refine⟨I3.ok.mod,S.kind,I3.ok.glob,I3.ok.blt,Nat.le_refl _,cl3,fun x hk=>?_,fun x c hf q=>?_,I3.ok.hd,I3.ok.frames,.inl rfl,fun b hb=>?_,fun b o q=>?_,?_,fun b o q hb=>?_,fun b hb hfs=>?_,I3.stack,I3.stkFree⟩
  ·rcases lA hk with z | z
   ·exact cl2 _ z (.inl rfl)
   ·exact cl2 _ (mem_of_lookup z) (.inr rfl)
  ·rcases cl1 x c q with z | z
   ·have hf':scope.names.lookup x=some .cell:=by simpa using hf
    exact absurd hf' z.2
   ·exact Nat.le_of_lt z.1
  ·constructor
   ·show b≠s₃.heap.objs.size
    rcases List.mem_cons.mp hb with z | z
    ·rw[z];exact Nat.ne_of_lt hDlt
    ·exact Nat.ne_of_lt (Nat.lt_trans (hfpD b z) hDlt)
   ·intro x c q
    rcases List.mem_cons.mp hb with z | z
    ·rw[z];exact cneD x c q
    ·exact cneF b z x c q
  ·exact I3.bs b o q
  ·exact Nat.le_trans I3.ok.bsz I3.sz
  ·rcases List.mem_cons.mp hb with z | z
   ·have:=hbase b o q
    rw[z]at this
    exact Nat.lt_irrefl _ this
   ·rcases(f2 b z).2.2.2.1 with y | y
    ·exact I3.ok.noex b o q y
    ·exact Nat.lt_irrefl _ (Nat.lt_of_lt_of_le (Heap.lt_size q) (Nat.le_trans I3.ok.bsz y))
  ·rcases List.mem_cons.mp hb with z | z
   ·have:=stack_ne b hfs
    rw[z]at this
    exact Nat.lt_irrefl _ this
   ·rcases List.mem_cons.mp (I3.stkSub b hfs)with y | y
    ·exact(f2 b z).2.1 y
    ·exact(f2 b z).2.2.1 y
 have IY:Inv (cxC X scope cl (D::fp) s₃ H2) pins (blank own σ) H2 {s₃ with heap:=h₁,toks:=tk}:=by
  refine⟨okY,rfl,I3.bare,Un.kept old4,⟨_,hns₁,fun i x v e1 e2 e3=>?_⟩,fun x c q=>?_,I3.hok.fresh (Nat.le_refl _),fun x c q=>by
   rcases cl1 x c q with z | z
   ·exact I3.freeC x c z.1
   ·exact I3.hok.fresh (Nat.le_of_lt z.1),fun p hp=>?_,I3.hok.kept old4,(mW own σ).trans I3.len⟩
  ·obtain⟨hno,e2'⟩:=mD own σ i v e2
   have hnl:¬ (relabel scope X.env).names.lookup x=some .local:=fun z=>hno (S.own i x e1 (.inl (sN z)))
   have hnc:¬ scope.names.lookup x=some .cell:=fun z=>hno (S.own i x e1 (.inr z))
   have hcf:(relabel scope X.env).names.lookup x=some .cell\/(relabel scope X.env).names.lookup x=some .free:=by
    rcases e3 with z | z | z
    ·exact absurd z hnl
    ·exact .inl z
    ·exact .inr z
   have hmem:=(lA hcf).resolve_right hnc
   have hkX:=S.free _ hmem rfl
   obtain⟨m,hm,hl⟩:=I3.loc
   obtain⟨u,r,lk⟩:=hl i x v e1 e2' (by rcases hkX with z | z;exact .inr (.inl z);exact .inr (.inr z))
   obtain⟨c,hc⟩:=cl2 _ hmem (.inl rfl)
   refine⟨u,r,.inr ⟨hcf,c,hc,?_⟩⟩
   rcases lk with⟨z,_⟩ | ⟨_,c',hc',ic⟩
   ·dsimp only at hkX
    rw[z]at hkX
    rcases hkX with y | y<;>cases y
   ·have:=((cl1 _ c hc).resolve_right fun z=>hnc z.2.1).1
    dsimp only at this
    rw[hc']at this
    cases this
    obtain⟨o,ho,hd⟩:=ic
    exact⟨o,old4 _ _ ho,hd⟩
  ·rcases cl1 x c q with z | z
   ·obtain⟨v,o,ho,hd⟩:=I3.cell x c z.1
    exact⟨v,o,old4 _ _ ho,hd⟩
   ·exact⟨_,z.2.2⟩
  ·obtain⟨q,n,ne,nf,d⟩:=I3.pin p hp
   refine⟨old4 _ _ q,n,Nat.ne_of_lt (Heap.lt_size q),fun hb=>?_,d⟩
   rcases List.mem_cons.mp (I3.stkSub _ hb)with y | y
   ·exact ne y
   ·exact nf y
 have DY:D≠s₃.heap.objs.size:=Nat.ne_of_lt hDlt
 have statY:∀ {H':Hp},(∀ b∈fp,H' b=none)->∀ b∈fp,aV1 (cxC X scope cl (D::fp) s₃ H2) pins H' b:=fun hn b hb=>by
  refine⟨hn b hb,?_,?_,.inl (List.mem_cons_of_mem _ hb),cneF b hb,(f2 b hb).2.2.2.2.2⟩
  ·show b≠s₃.heap.objs.size
   exact Nat.ne_of_lt (Nat.lt_trans (hfpD b hb) hDlt)
  ·intro hfs
   rcases List.mem_cons.mp (I3.stkSub b hfs)with y | y
   ·exact(f2 b hb).2.1 y
   ·exact(f2 b hb).2.2.1 y
 have hDfp:D∉fp:=fun z=>Nat.lt_irrefl _ (hfpD D z)
 have hDstk:D∉frs X.stack:=fun z=>Nat.lt_irrefl _ (stack_ne D z)
 have stat2:∀ {H':Hp} {o:Obj},(∀ b∈fp,H' b=none)->∀ b∈fp,aV1 (cxC X scope cl (D::fp) s₃ H2) (pins++[(D,o)]) H' b:=fun{H' o} fr b hb=>by
  obtain⟨a1,a2,a3,a4,a5,a6⟩:=statY fr b hb
  refine⟨a1,a2,a3,a4,a5,fun p hp z=>?_⟩
  rcases List.mem_append.mp hp with y | y
  ·exact a6 p (List.mem_append_left _ y) z
  ·rcases List.mem_append.mp y with y | y
   ·exact a6 p (List.mem_append_right _ y) z
   ·have e:p=(D,o):=List.mem_singleton.mp y
    rw[e]at z
    have z':D=b:=z
    exact hDfp (by rw[z'];exact hb)
 have pin2:∀ {H':Hp} {s':Shared} {its:Array Value} {k:Nat},Inv (cxC X scope cl (D::fp) s₃ H2) pins (blank own σ) H' s'->H' D=none->s'.heap.get? D=some {cls:=.type "list",data:=.seq its k} ->
   Inv (cxC X scope cl (D::fp) s₃ H2) (pins++[(D,{cls:=.type "list",data:=.seq its k})]) (blank own σ) H' s':=fun{H' s' its k} I4 D4 o4=>I4.pins_of fun p hp=>by
  rcases List.mem_append.mp hp with z | z
  ·exact I4.pin p (List.mem_append_right _ z)
  ·have e:p=(D,{cls:=.type "list",data:=.seq its k}):=List.mem_singleton.mp z
   subst e
   exact⟨o4,D4,DY,hDstk,fun v z=>by cases z⟩
 refine yB (fun n s'=>∃ i ys H' its k,Inv (cxC X scope cl (D::fp) s₃ H2) pins (blank own σ) H' s'/\tn i s'.heap/\(∀ b∈fp,H' b=none)/\H' D=none /\
  s'.heap.get? D=some {cls:=.type "list",data:=.seq its k}/\cE ys its.toList/\W i n ys H') ?_ m0
  ⟨0,[],H2,#[],_,IY,T.keep _ _ _ st3 fun b hb o q=>old4 b o q,fun b hb=>(f2 b hb).1,strD.un,old4 _ _ hD3,.nil,w0⟩
 rintro n s4 ⟨i,ys,H4,its,k,I4,st4,fr4,D4,o4,v4,w4⟩
 obtain⟨hz,step⟩:=turn i n ys H4 w4
 rcases step with⟨stop,qn⟩ | ⟨go,step⟩
 ·refine thn (T.done (cxC X scope cl (D::fp) s₃ H2) rfl rfl rfl S.calm i _ s4 (blank own σ) H4 (fun _ _=>False) (pin2 I4 D4 o4) (stat2 fr4) st4 stop) fun r s5 ⟨hr,I5⟩=>?_
  subst hr
  have oD:s5.heap.get? D=some {cls:=.type "list",data:=.seq its k}:=(I5.pin (D,_) (List.mem_append_right _ (List.mem_append_right _ List.mem_cons_self))).1
  have I5':Inv (cxC X scope cl (D::fp) s₃ H2) pins (blank own σ) H4 s5:=I5.unpinned
  have IX:Inv X pins σ H4 s5:=by
   refine I3.call' (ch:=D::fp) I5'.os I5'.base I5'.hok I5'.bare fun b hb=>?_
   rcases List.mem_cons.mp hb with z | z
   ·rw[z];exact⟨.inr strD.young,strD.loc,strD.cell,strD.pin⟩
   ·obtain⟨a1,a2,a3,a4,a5,a6⟩:=f2 b z
    exact⟨a4,a2,a5,a6⟩
  obtain⟨m5,hm5,_⟩:=I5'.loc
  have nC:H4 s₃.heap.objs.size=none:=I5'.free
  have IX':Inv X pins σ (upd H4 D (.lst ys)) s5:=by
   refine IX.adopt D4 strD.young strD.loc strD.cell strD.pin ⟨hz,its.toList,k,v4,?_⟩
   rw[oD]
  have strC:Stray X pins (upd H4 D (.lst ys)) s₃.heap.objs.size:=I3.stray (Nat.le_refl _) (by rw[aL (Ne.symm DY)];exact nC)
  exact fin D _ ys H4 s5 m5 IX' D4 hm5 strC qn
 ·refine thn (T.item (cxC X scope cl (D::fp) s₃ H2) rfl rfl rfl S.calm i _ s4 (blank own σ) H4 (fun _ _=>False) (pin2 I4 D4 o4) (stat2 fr4) st4 go) fun r s5 ⟨u,hr,h5⟩=>?_
  subst hr
  refine thn h5 fun _ s6 ⟨x,H6,I6,r6,y6,st6,fr6⟩=>?_
  have I6':=I6.pinned (stat2 fr6) (T.obj _ _ st6)
  refine thn (hg cl (D::fp) s₃ H2 _ s6 (blank own σ) H6 x u _ I6' r6 (hG _ _ _ _ (step x H6 y6))) fun _ s7 ⟨σ7,H7,I7,⟨q7,l7,p7⟩⟩=>?_
  refine thn (ht cl (D::fp) s₃ H2 _ s7 σ7 H7 _ I7 q7) fun b s8 ⟨H8,I8,q8⟩=>?_
  have weak:∀ {H9:Hp} {s9:Shared},Inv (cxC X scope cl (D::fp) s₃ H2) ((pins++[(D,{cls:=.type "list",data:=.seq its k})])++oO fp s6.heap) σ7 H9 s9 ->
    Inv (cxC X scope cl (D::fp) s₃ H2) ((pins++[(D,{cls:=.type "list",data:=.seq its k})])++oO fp s6.heap) (blank own σ) H9 s9:=fun I9=>
   I9.weak l7.symm fun j v e=>by rw[p7 j (mD own σ j v e).1];exact e
  have tn9:∀ {H9:Hp} {s9:Shared},Inv (cxC X scope cl (D::fp) s₃ H2) ((pins++[(D,{cls:=.type "list",data:=.seq its k})])++oO fp s6.heap) (blank own σ) H9 s9->tn (i+1) s9.heap/\∀ b∈fp,H9 b=none:=fun I9=>
   ⟨T.keep _ _ _ st6 fun b hb o q=>(I9.pin (b,o) (List.mem_append_right _ (List.mem_append_right _ (jP hb q)))).1,fun b hb=>by
    obtain⟨o,q,d⟩:=T.obj _ _ st6 b hb
    exact(I9.pin (b,o) (List.mem_append_right _ (List.mem_append_right _ (jP hb q)))).2.1⟩
  cases b with
  | true=>
    rw[if_pos rfl]at q8 ⊢
    refine thn (he cl (D::fp) s₃ H2 _ s8 σ7 H8 _ I8 q8) fun y s9 ⟨v9,H9,I9,r9,m',hm',w9⟩=>?_
    have I9':=weak I9
    obtain⟨t9,f9⟩:=tn9 I9'
    have p9:=I9'.pin (D,_) (List.mem_append_right _ (List.mem_append_left _ (List.mem_append_right _ List.mem_cons_self)))
    have hlen:=v4.length
    have hz':its.size<=sizeLine:=by rw[← Array.length_toList];omega
    refine append_at (hsz:=hz') p9.1 fun h' hs' hD'=>?_
    have I9u:Inv (cxC X scope cl (D::fp) s₃ H2) pins (blank own σ) H9 s9:=I9'.unpinned.unpinned
    have I10:Inv (cxC X scope cl (D::fp) s₃ H2) pins (blank own σ) H9 {s9 with heap:=h'}:=
     I9u.turned (it:=D) (t':=s9.toks) (fun b o hb q=>(hs'.2 b hb).trans q) p9.2.1 DY (.inl List.mem_cons_self) cneD strD.pin
    refine⟨m',hm',i+1,ys++[v9],H9,its.push y,k+1,I10,T.keep _ _ _ t9 fun b hb o q=>(hs'.2 b fun z=>hDfp (by rw[← z];exact hb)).trans q,f9,p9.2.1,hD',?_,w9⟩
    rw[Array.toList_push]
    exact v4.append (.cons r9 .nil)
  | false=>
    rw[if_neg Bool.false_ne_true]at q8 ⊢
    obtain⟨m',hm',w9⟩:=q8
    have I9':=weak I8
    obtain⟨t9,f9⟩:=tn9 I9'
    have p9:=I9'.pin (D,_) (List.mem_append_right _ (List.mem_append_left _ (List.mem_append_right _ List.mem_cons_self)))
    exact⟨m',hm',i+1,ys,H8,its,k,I9'.unpinned.unpinned,t9,f9,p9.2.1,p9.1,v4,w9⟩
set_option maxHeartbeats 8000000 in
theorem vQ{X:Cx}{tg iter elt:Expr}{ifs:List Expr}{scope:Scope}{pos pos':Pos}{own:List Nat}{wi:TI}{g:TG}{tt:TT}{te:TE}{use:Option (Value->Sem Unit)}{Qf:Value->Shared->Prop}
  (S:CompScope X scope own) (hi:PI X tg iter wi) (hg:∀ cl ex s H,PG (cxC X scope cl ex s H) tg g) (hG:cB9 own g)
  (ht:∀ cl ex s H,bU5 (cxC X scope cl ex s H) ifs tt) (he:∀ cl ex s H,PE (cxC X scope cl ex s H) elt te)
  {pins:List (Addr×Obj)} {s:Shared} {σ:St} {H:Hp} {F:List V->Hp->Prop} (I:Inv X pins σ H s) (hw:bU6 own wi g tt te σ H F)
  (hs:∀ x,foldedSetIterable iter X.env x=pure x)
  (fin:∀ D C ys H' s' m,Inv X pins σ (upd H' D (.lst ys)) s'->H' D=none->s'.heap.Ns C m->Stray X pins (upd H' D (.lst ys)) C->F ys H' ->
   compPost (model X.prog X.w) X.A X.xe use Qf (.ref D) C (.ok .next) s') :
  wpAny (model X.prog X.w) X.A (comprehension (.ListComp elt [⟨tg,iter,ifs,0⟩] scope pos) scope X.env pos' (newList []) false (eval iter X.env) use) Qf X.xe s:=by
 obtain⟨cl,hcl,cl1,cl2⟩:=aR1 (scope:=scope) (env:=X.env) fun y hy hf=>I.ok.has y.1 (S.free y hy hf)
 refine wpAny_comprehension_free (use:=use) rfl hs hcl S.kind S.names (thn (hi pins s σ H _ I hw) fun v s₁ h₁=>thn h₁ fun itv s₂ h₂=>?_)
 obtain⟨it,fp,tn,J,H2,e,I2,T,st2,f2,W,⟨m0,w0⟩,turn⟩:=h₂
 subst e
 refine wpAny_newObj_type (cB8 ?_)
 dsimp only
 have hsz:(s₂.heap.push {cls:=.type "list",dict:=none,data:=.seq ([]:List Value).toArray}).objs.size=s₂.heap.objs.size+1:=Heap.size_push ..
 have old3:∀ b o,s₂.heap.get? b=some o->(s₂.heap.push {cls:=.type "list",dict:=none,data:=.seq ([]:List Value).toArray}).get? b=some o:=fun b o q=>Heap.get?_push_of_some _ q
 have hD3:(s₂.heap.push {cls:=.type "list",dict:=none,data:=.seq ([]:List Value).toArray}).get? s₂.heap.objs.size=some {cls:=.type "list",dict:=none,data:=.seq ([]:List Value).toArray}:=Heap.get?_push_size _ rfl
 generalize hG3:s₂.heap.push {cls:=.type "list",dict:=none,data:=.seq ([]:List Value).toArray}=G3 at hsz old3 hD3 ⊢
 have hsz4:(G3.push {cls:=.type "dict",data:=.dict #[]}).objs.size=G3.objs.size+1:=Heap.size_push ..
 have hns₁:(pushCells (G3.push {cls:=.type "dict",data:=.dict #[]}) scope.names).Ns G3.objs.size (fun _=>none):=(Heap.Ns.new G3 (.type "dict")).keeps (pushCells_keeps _ _)
 have old4:∀ b o,G3.get? b=some o->(pushCells (G3.push {cls:=.type "dict",data:=.dict #[]}) scope.names).get? b=some o:=fun b o q=>pushCells_keeps _ _ b o (Heap.get?_push_of_some _ q)
 have ok:=cellsFrom_ok scope.names (G3.push {cls:=.type "dict",data:=.dict #[]}) (G3.objs.size+1) [] ⟨fun _ _ hm=>(nomatch hm),List.Pairwise.nil⟩ (by rw[hsz4];exact Nat.le_refl _)
 rw[hsz4]at ok
 generalize pushCells (G3.push {cls:=.type "dict",data:=.dict #[]}) scope.names=h₁ at hns₁ old4 ok ⊢
 have I3:Inv X pins σ H2 {s₂ with heap:=G3}:=I2.kept (t':=s₂.toks) old3
 have look:∀ x,(cellsFrom (G3.objs.size+1) scope.names cl).lookup x=((cellsFrom (G3.objs.size+1) scope.names []).lookup x).or (cl.lookup x):=fun x=>by rw[dE,List.lookup_append]
 have newc:∀ x c,(cellsFrom (G3.objs.size+1) scope.names []).lookup x=some c->G3.objs.size < c/\scope.names.lookup x=some .cell/\h₁.IsCell c none:=fun x c q=>
  ⟨(ok.empty x c (mem_of_lookup q)).2,S.cells _ (iG _ _ x c (mem_of_lookup q)) rfl,(ok.empty x c (mem_of_lookup q)).1⟩
 have cl1':∀ x c,(cellsFrom (G3.objs.size+1) scope.names cl).lookup x=some c->(X.env.cells.lookup x=some c/\scope.names.lookup x≠some .cell)\/(G3.objs.size < c/\scope.names.lookup x=some .cell/\h₁.IsCell c none):=fun x c q=>by
  rw[look]at q
  cases e:(cellsFrom (G3.objs.size+1) scope.names []).lookup x with
  | some c'=>rw[e]at q;cases q;exact .inr (newc x _ e)
  | none=>
    rw[e]at q
    refine .inl ⟨cl1 x c q,fun z=>?_⟩
    obtain⟨c',hc'⟩:=eF scope.names (G3.objs.size+1) x (mem_of_lookup z)
    rw[e]at hc';cases hc'
 have oldlt:∀ x c,X.env.cells.lookup x=some c->c < G3.objs.size:=fun x c q=>by
  obtain⟨v,o,ho,hd⟩:=I3.cell x c q
  exact Heap.lt_size ho
 have loop:=aR3 (iter:=iter) (elt:=elt) (pos:=pos) (use:=use) (Qf:=Qf) (tk:=s₂.toks) (h₁:=h₁) S hg hG ht he I3 T cl1' (fun y hy hk=>by
   rw[look]
   rcases hk with z | z
   ·obtain⟨c,hc⟩:=cl2 y hy z
    cases e:(cellsFrom (G3.objs.size+1) scope.names []).lookup y.1 with
    | some c'=>exact⟨c',rfl⟩
    | none=>exact⟨c,hc⟩
   ·obtain⟨c,hc⟩:=eF scope.names (G3.objs.size+1) y.1 (by rw[← z];exact hy)
    exact⟨c,by rw[hc];rfl⟩) (fun x y c q1 q2=>by
   rcases cl1' x c q1 with z1 | z1
   ·rcases cl1' y c q2 with z2 | z2
    ·exact I3.ok.inj x y c z1.1 z2.1
    ·exact absurd z2.1 (Nat.not_lt.mpr (Nat.le_of_lt (oldlt x c z1.1)))
   ·rcases cl1' y c q2 with z2 | z2
    ·exact absurd z1.1 (Nat.not_lt.mpr (Nat.le_of_lt (oldlt y c z2.1)))
    ·have m1:(cellsFrom (G3.objs.size+1) scope.names []).lookup x=some c:=by
      obtain⟨c',hc'⟩:=eF scope.names (G3.objs.size+1) x (mem_of_lookup z1.2.1)
      rw[look,hc']at q1;cases q1;exact hc'
     have m2:(cellsFrom (G3.objs.size+1) scope.names []).lookup y=some c:=by
      obtain⟨c',hc'⟩:=eF scope.names (G3.objs.size+1) y (mem_of_lookup z2.2.1)
      rw[look,hc']at q2;cases q2;exact hc'
     exact name_of_addr ok.apart (mem_of_lookup m1) (mem_of_lookup m2)) f2 (fun b hb=>by obtain⟨o,q,_⟩:=T.obj _ _ st2 b hb;exact Heap.lt_size q)
  (by show s₂.heap.objs.size < G3.objs.size;omega) (fun b hb=>by
   rcases List.mem_cons.mp (I2.stkSub b hb)with z | z
   ·rw[z];exact I2.lt
   ·exact Nat.lt_of_not_le fun hle=>I2.nofs hle z)
  (fun b o q=>Heap.lt_size (I2.bs b o q).1) (I2.stray (Nat.le_refl _) (I2.hok.fresh (Nat.le_refl _))) hD3 (T.keep _ _ _ st2 fun b hb o q=>old3 b o q) hns₁ old4 w0 turn fin
 exact codeAny_compStart_list loop (T.self _ 0 _ _ _ (T.keep _ _ _ st2 fun b hb o q=>old4 b o (old3 b o q)) loop)
theorem cZ{X:Cx}{tg iter elt:Expr}{ifs:List Expr}{scope:Scope}{pos:Pos}{own:List Nat}{wi:TI}{g:TG}{tt:TT}{te:TE}
  (S:CompScope X scope own) (hi:PI X tg iter wi) (hg:∀ cl ex s H,PG (cxC X scope cl ex s H) tg g) (hG:cB9 own g)
  (ht:∀ cl ex s H,bU5 (cxC X scope cl ex s H) ifs tt) (he:∀ cl ex s H,PE (cxC X scope cl ex s H) elt te)
  (hs:∀ x,foldedSetIterable iter X.env x=pure x:=by intro _;rfl):PE X (.ListComp elt [⟨tg,iter,ifs,0⟩] scope pos) (aR2 own wi g tt te):=by
 intro pins s σ H Q I hw
 rw[eval_ListComp]
 refine vQ (use:=none) S hi hg hG ht he I hw hs fun D C ys H' s' m IX hD hm str q=>?_
 refine⟨m,hm,fun h' hs'=>⟨.ref D,upd H' D (.lst ys),?_,rfl,q D hD⟩⟩
 exact IX.turned (it:=C) (t':=s'.toks) (fun b o hb e=>(hs'.2 b hb).trans e) str.un str.loc (.inr str.young) str.cell str.pin
theorem jQ{X:Cx}{i:Nat}{x:Str}{tg iter elt:Expr}{ifs:List Expr}{scope:Scope}{pos pos' spos:Pos}{own:List Nat}{wi:TI}{g:TG}{tt:TT}{te:TE}
  (hN:X.N.Nodup) (hin:X.N[i]? = some x) (hx:X.env.scope.names.lookup x=some .local)
  (S:CompScope X scope own) (hi:PI X tg iter wi) (hg:∀ cl ex s H,PG (cxC X scope cl ex s H) tg g) (hG:cB9 own g)
  (ht:∀ cl ex s H,bU5 (cxC X scope cl ex s H) ifs tt) (he:∀ cl ex s H,PE (cxC X scope cl ex s H) elt te)
  (hsw:swapsWith (.ListComp elt [⟨tg,iter,ifs,0⟩] scope pos) (some (.Name x pos')) spos.line X.env=pure true)
  (hs:∀ x,foldedSetIterable iter X.env x=pure x:=by intro _;rfl) :
  PS X (.Assign [.Name x pos'] (.ListComp elt [⟨tg,iter,ifs,0⟩] scope pos) spos) (fun D σ H=>aR2 own wi g tt te σ H fun v H1=>D.nx (σ.set i (some v)) H1):=by
 intro pins s σ H D0 I hw
 rw[exec_Assign_Name_used _ _ _ _ hsw]
 refine wpAny_bind (wpAny_standAt (wpAny_bind ?_))
 show wpAny _ _ (do let _ ← comprehension (.ListComp elt [⟨tg,iter,ifs,0⟩] scope pos) scope X.env _ (newList []) false (eval iter X.env) (some (assign (.Name x pos') X.env))) _ _ s
 refine wpAny_bind (thn (vQ (use:=some (assign (.Name x pos') X.env)) (Qf:=fun _ s'=>SP X pins D0 .next s') S hi hg hG ht he I hw hs fun D C ys H' s' m IX hD hm str q=>?_) fun _ s' hq=>wpAny_pure (wpAny_pure hq))
 show wpAny _ _ (assign (.Name x pos') X.env (.ref D)) _ _ s'
 refine wpAny_assign_Name (vE (v:=.ref D) IX hN hin (.inl hx) (show eO (.ref D) (Value.ref D)from rfl) (fun s'' I'' hch=>?_) (.inr hx))
 obtain⟨a,hsame,ha⟩:=hch
 have hCa:C≠a:=by
  rcases ha with z | z
  ·rw[z];exact str.loc
  ·exact Ne.symm (str.cell x a z)
 refine⟨m,hm.sameBut hsame hCa,fun h' hs'=>⟨_,_,?_,q D hD⟩⟩
 exact I''.turned (it:=C) (t':=s''.toks) (fun b o hb e=>(hs'.2 b hb).trans e) str.un str.loc (.inr str.young) str.cell str.pin
section
variable{X:Cx}
theorem bL3(hc:X.calm=true):jW X (.builtin "all") (fun xs H Q=>∃ (a:Addr) (bs:List Bool),xs=[.ref a]/\SqL X.K H a (bs.map V.bl)/\Q (.bl (bs.all id)) H):=by
 intro pins s σ H xs us Q I r h
 obtain⟨a,bs,rfl,ha,q⟩:=h
 obtain⟨u,rfl,ru⟩:=xW r
 cases ru
 obtain⟨its,rv,p,hz⟩:=I.list ha
 have hlt:a < s.heap.objs.size:=by obtain⟨_,e,_⟩:=p.isList;exact Heap.lt_size e
 have hh:X.A.in1.handled=none:=I.ok.hd hc
 refine call_all_walk (wpAny_pyIter_list p.isList ?_)
 refine⟨s.heap.objs.size,[s.heap.objs.size,a],[s.heap.objs.size],its.toArray.size,_,_,fun i=>(bs[i]?).getD true,rfl,Walks.list (A:=X.A.in1) hh _ a (Nat.ne_of_lt hlt) its.toArray,
  ⟨⟨_,Heap.get?_push_size _ rfl,rfl,rfl⟩,p.isList.push _⟩,fun i v s' Q' E' hP hQ=>?_,fun h' tk hk=>?_⟩
 ·have hi:its[i]? = some v:=by simpa using hP
  have hlen:=rv.length
  have hilt:i < its.length:=(List.getElem?_eq_some_iff.mp hi).1
  have hb:i < bs.length:=by rw[List.length_map]at hlen;omega
  obtain⟨u,hu,r2⟩:=rv.get (i:=i) (x:=V.bl bs[i]) (by rw[List.getElem?_map,List.getElem?_eq_getElem hb];rfl)
  rw[hi]at hu;cases hu
  have e:v=Value.bool bs[i]:=r2
  subst e
  simp only[List.getElem?_eq_getElem hb,Option.getD_some]at hQ
  exact wpAny_truthy_bool hQ
 ·have e:((List.range its.toArray.size).all fun i=>(bs[i]?).getD true)=bs.all id:=by
   have hlen:=rv.length
   rw[List.length_map]at hlen
   rw[List.size_toArray,← hlen]
   rw[Bool.eq_iff_iff,List.all_eq_true,List.all_eq_true]
   constructor
   ·intro h1 b hb
    obtain⟨i,hi,rfl⟩:=List.getElem_of_mem hb
    have:=h1 i (List.mem_range.mpr hi)
    simp only[List.getElem?_eq_getElem hi,Option.getD_some]at this
    exact this
   ·intro h1 i hi
    have hi':=List.mem_range.mp hi
    simp only[List.getElem?_eq_getElem hi',Option.getD_some]
    exact h1 _ (List.getElem_mem hi')
  rw[e]
  exact⟨.bl _,H,I.kept (t':=tk) fun b o q=>hk b o (fun hm=>by
   have z:b=s.heap.objs.size:=by simpa using hm
   rw[z]at q;exact Nat.lt_irrefl _ (Heap.lt_size q)) (Heap.get?_push_of_some _ q),rfl,q⟩
def Its(x:Str):It:=⟨fun i _=>∃ c,x.cps[i]? = some c,fun i H v H'=>H'=H/\∃ c,x.cps[i]? = some c/\v=.str ⟨#[c]⟩,fun i _=>x.cps[i]? = none⟩
theorem aA5{P:Program}{w:World}{K:PySem.W.Frag}{tg:Expr}(x:Str)(t:Tok)(it:Addr)(ty:String)(hty:ty="str_ascii_iterator"\/ty="str_iterator"):Turn P w K tg (Its x) [it] it (fun i h=>h.IsStrIter it ty x t i) where
 mem:=by simp
 obj:=fun i h st b hb=>by
  have e:b=it:=by simpa using hb
  subst e
  obtain⟨o,e,c,d⟩:=st
  exact⟨o,e,fun v z=>by rw[d]at z;cases z⟩
 keep:=fun i h h' st k=>by
  obtain⟨o,e,c,d⟩:=st
  exact⟨o,k it (by simp) o e,c,d⟩
 item:=by
  intro X hP hw hK hc i pins s σ H E I hf st hg
  subst hP hw hK
  obtain⟨c,hx⟩:=hg
  obtain⟨f0,f1,f2,f3,f4,f5⟩:=hf it (by simp)
  rcases hty with rfl | rfl
  ·refine wpAny_pyNext_ascii_item st hx fun h' st' sb=>?_
   have I1:Inv X pins σ H {s with heap:=h',toks:=s.toks+1}:=I.turned (t':=s.toks+1) (fun b o hb e=>(sb.2 b hb).trans e) f0 f1 f3 f4 f5
   obtain⟨o,e,c',d⟩:=id st'
   exact⟨_,rfl,aV2 (s:={s with heap:=h',toks:=s.toks+1}) e c' d (by decide) ⟨.str ⟨#[c]⟩,H,I1,⟨_,rfl⟩,⟨rfl,c,hx,rfl⟩,st',fun b hb=>(hf b hb).1⟩⟩
  ·refine wpAny_pyNext_wide_item st hx fun h' st' sb=>?_
   have I1:Inv X pins σ H {s with heap:=h',toks:=s.toks+1}:=I.turned (t':=s.toks+1) (fun b o hb e=>(sb.2 b hb).trans e) f0 f1 f3 f4 f5
   obtain⟨o,e,c',d⟩:=id st'
   exact⟨_,rfl,aV2 (s:={s with heap:=h',toks:=s.toks+1}) e c' d (by decide) ⟨.str ⟨#[c]⟩,H,I1,⟨_,rfl⟩,⟨rfl,c,hx,rfl⟩,st',fun b hb=>(hf b hb).1⟩⟩
 done:=by
  intro X hP hw hK hc i pins s σ H E I hf st hg
  subst hP hw hK
  have hx:x.cps[i]? = none:=hg
  obtain⟨f0,f1,f2,f3,f4,f5⟩:=hf it (by simp)
  rcases hty with rfl | rfl
  ·exact wpAny_pyNext_ascii_end (I.ok.hd hc) st hx fun h' eb=>⟨rfl,I.turned (t':=s.toks) (fun b o hb e=>eb b o hb e) f0 f1 f3 f4 f5⟩
  ·exact wpAny_pyNext_wide_end (I.ok.hd hc) st hx fun h' eb=>⟨rfl,I.turned (t':=s.toks) (fun b o hb e=>eb b o hb e) f0 f1 f3 f4 f5⟩
 self:=fun _ _ _ _ _ st h=>by
  rcases hty with rfl | rfl
  ·exact wpAny_pyIter_striter_ascii st h
  ·exact wpAny_pyIter_striter_wide st h
def dL2:V->Option Int->Option Int->Hp->VK->Prop:=fun x lo hi H Q=>∃ z,x=.str z/\z.length<=sizeLine/\Q (.str (PySem.Txt.slice z lo hi)) H
theorem cQ9:SlR X dL2:=by
 intro pins s σ H x v vl vu lo hi sl Q I rx hs pl pu h
 obtain⟨z,rfl,hz,q⟩:=h
 obtain⟨t,rfl⟩:=rx
 refine⟨"str",_,F.slot_str_getitem.lookup,typeIs_str _ _ _,?_⟩
 have fin:∀ t' k,EP X pins σ Q (.str (PySem.Txt.slice z lo hi) t') {s with toks:=k}:=fun t' k=>⟨.str _,H,I.tok k,⟨t',rfl⟩,q⟩
 have hle:(PySem.Txt.slice z lo hi).length<=sizeLine:=Nat.le_trans (PySem.Txt.slice_le z lo hi) hz
 cases pl with
 | none=>
   cases pu with
   | none=>exact wpAny_getItem_str_slice (l:=none) (u:=none) (st:=none) hs rfl (post_val_or_str ⟨hle,fin⟩)
   | int j t2=>exact wpAny_getItem_str_slice (l:=none) (u:=some (j,t2)) (st:=none) hs rfl (post_val_or_str ⟨hle,fin⟩)
 | int i t1=>
   cases pu with
   | none=>exact wpAny_getItem_str_slice (l:=some (i,t1)) (u:=none) (st:=none) hs rfl (post_val_or_str ⟨hle,fin⟩)
   | int j t2=>exact wpAny_getItem_str_slice (l:=some (i,t1)) (u:=some (j,t2)) (st:=none) hs rfl (post_val_or_str ⟨hle,fin⟩)
theorem aR4{ys:List Str}:∀ {us:List Value},cE (ys.map V.str) us->StrsAre us ys:=by
 induction ys with
 | nil=>intro us r;cases r;exact .nil
 | cons y r ih=>
   intro us h
   cases h with
   | cons h1 h2=>
     obtain⟨t,rfl⟩:=h1
     exact .cons y t (ih h2)
def bL4(K:PySem.W.Frag):V->List V->Hp->VK->Prop:=fun x vs H Q=>∃ sep a ys,x=.str sep/\vs=[.ref a]/\SqL K H a (ys.map V.str)/\(ys.map (·.length)).sum+ys.length*sep.length<=16777216/\Q (.str (PySem.Txt.join sep ys)) H
theorem cC0:MtR X "str.join" (bL4 X.K):=by
 intro pins s σ H x vs v us Q I rx rv h
 obtain⟨sep,a,ys,rfl,rfl,ha,hz,q⟩:=h
 obtain⟨t,rfl⟩:=rx
 obtain⟨u,rfl,ru⟩:=rv.one
 cases ru
 obtain⟨its,r,p,_⟩:=I.list ha
 exact join_list p.isList (by simpa using aR4 r) hz fun t' k=>⟨.str _,H,I.tok k,⟨t',rfl⟩,q⟩
theorem yC:jW X (.builtin "isinstance") (fun xs H Q=>∃ x c t b,xs=[x,.ty c]/\TyOf X.K H x t/\PySem.W.kitOne X.K t (.type c)=some b/\Q (.bl b) H):=by
 intro pins s σ H xs us Q I r h
 obtain⟨x,c,t,b,rfl,ty,e,q⟩:=h
 obtain⟨u,w',rfl,ru,rw'⟩:=cA9 r
 cases (show w'=Value.type c from rw')
 exact aW2 I ru ty e fun tk=>⟨.bl b,H,I.tok tk,rfl,q⟩
end
structure Tag(Q:VK):Type where mk ::
def Ask(sp:Sp)(vs:List V)(H:Hp)(E:XK)(Q:VK)(_:Tag Q):Prop:=sp vs H Q E
section
variable{σ:St}{H:Hp}{Q:VK}{v x y:V}{n:Nat}{i j:Int}{a b:Bool}{D:Ends}
theorem aX2{r:St}:bK3 0 (some v::r) H Q=Q v H:=propext ⟨fun⟨_,e,q⟩=>by cases e;exact q,fun q=>⟨_,rfl,q⟩⟩
theorem aX3{o:Option V}{r:St}:bK3 (n+1) (o::r) H Q=bK3 n r H Q:=rfl
theorem dH1:tC v σ H Q=Q v H:=rfl
theorem cR0{r:R2}{ta tb:TE}:tOp r ta tb σ H Q=ta σ H fun x H1=>tb σ H1 fun y H2=>r x y H2 Q:=rfl
theorem cR1{r:V->Hp->VK->Prop}{ta:TE}:tUn r ta σ H Q=ta σ H fun x H1=>r x H1 Q:=rfl
theorem bU7{g:Int->Int->V}:rI0 g (.int i) (.int j) H Q=Q (g i j) H:=propext ⟨fun⟨_,_,e,e',q⟩=>by cases e;cases e';exact q,fun q=>⟨_,_,rfl,rfl,q⟩⟩
theorem cC1{C:Int->Int->Prop}{g:Int->Int->V}(h:C i j):rI C g (.int i) (.int j) H Q=Q (g i j) H:=propext ⟨fun⟨_,_,e,e',_,q⟩=>by cases e;cases e';exact q,fun q=>⟨_,_,rfl,rfl,h,q⟩⟩
theorem cR2{R:Bool->Prop}:(∃ k,V.bl a=V.bl k/\R k)=R a:=propext ⟨fun⟨_,e,q⟩=>by cases e;exact q,fun q=>⟨_,rfl,q⟩⟩
theorem aX4{t:TE}{R:Bool->Hp->Prop}:cP2 t σ H R=t σ H fun x H'=>∃ k,x=.bl k/\R k H':=rfl
theorem cR3{t:TE}{R:Bool->Hp->Prop}:tB t σ H R=t σ H fun x H'=>∃ k,x=.bl k/\R k H':=rfl
theorem bU8{t u:TT}{R:Bool->Hp->Prop}:dG2 t u σ H R=t σ H fun c H1=>if c=true then u σ H1 R else R false H1:=rfl
theorem cR4{t u:TT}{R:Bool->Hp->Prop}:tOr t u σ H R=t σ H fun c H1=>if c=true then R true H1 else u σ H1 R:=rfl
theorem bU9{t:TT}{R:Bool->Hp->Prop}:dG3 t σ H R=t σ H fun c H1=>R (!c) H1:=rfl
theorem aX5{t u:TE}:cO0 t u σ H Q=t σ H fun x H1=>∃ c,x=.bl c/\if c=true then u σ H1 Q else Q (.bl false) H1:=rfl
theorem bV0{t u:TE}:dK1 t u σ H Q=t σ H fun x H1=>∃ c,x=.bl c/\if c=true then Q (.bl true) H1 else u σ H1 Q:=rfl
theorem aX6{t:TE}:dB7 t σ H Q=t σ H fun x H1=>∃ c,x=.bl c/\Q (.bl (!c)) H1:=rfl
theorem aA6{r r':R2}{ta tb tc:TE}:cP3 r r' ta tb tc σ H Q=ta σ H fun x H1=>tb σ H1 fun y H2=>r x y H2 fun z H3=>∃ k,z=.bl k/\if k=true then tc σ H3 (fun u H4=>r' y u H4 Q)else Q (.bl false) H3:=rfl
theorem bV1{t:TT}{ta tb:TE}:tIf t ta tb σ H Q=t σ H fun c H1=>if c=true then ta σ H1 Q else tb σ H1 Q:=rfl
theorem bV2{t u:TS}:cZ8 t u D σ H=t {D with nx:=u D} σ H:=rfl
theorem aX7:cO3 D σ H=D.nx σ H:=rfl
theorem aX8{te:TE}:cO4 te D σ H=te σ H fun _ H1=>D.nx σ H1:=rfl
theorem bV3{te:TE}:dG4 te D σ H=te σ H D.rt:=rfl
theorem aX9:dB8 D σ H=D.rt .non H:=rfl
theorem bV4{c:TT}{t u:TS}:dG5 c t u D σ H=c σ H fun b H1=>if b=true then t D σ H1 else u D σ H1:=rfl
theorem bV5{te:TE}{g:TG}:cA4 te g D σ H=te σ H fun x H1=>g x σ H1 D.nx:=rfl
theorem aA7{R:St->Hp->Prop}:sK n v σ H R=R (σ.set n (some v)) H:=rfl
theorem aY0{to ti:TE}{t:lY}{R:St->Hp->Prop}:dC0 to ti t v σ H R=to σ H fun o H1=>ti σ H1 fun i H2=>t o i v H2 fun H3=>R σ H3:=rfl
theorem bV6{R:List V->Hp->Prop}:dC8 σ H R=R [] H:=rfl
theorem aY1{ta:TE}{tr:TA}{R:List V->Hp->Prop}:bK7 ta tr σ H R=ta σ H fun x H1=>tr σ H1 fun xs H2=>R (x::xs) H2:=rfl
theorem aY2{sp:Sp}{E:XK}{t:TA}:aQ6 sp [] E t σ H Q=t σ H fun vs H1=>Ask sp vs H1 E Q ⟨⟩:=by
 unfold aQ6 Ask;simp only[List.append_nil]
theorem cR5{r:List V->Hp->VK->Prop}{t:TA}:tCB r t σ H Q=t σ H fun vs H1=>r vs H1 Q:=rfl
theorem cR6{r:V->Option Int->Option Int->Hp->VK->Prop}{te:TE}{tl th:TO}:tSl r te tl th σ H Q=te σ H fun x H1=>tl σ H1 fun l H2=>th σ H2 fun u H3=>r x l u H3 Q:=rfl
theorem vR{R:Option Int->Hp->Prop}:aW6 σ H R=R none H:=rfl
theorem aY3{t:TE}{R:Option Int->Hp->Prop}:cP8 t σ H R=t σ H fun x H1=>∃ i,x=.int i/\R (some i) H1:=rfl
theorem aY4{R:Bool->Hp->Prop}:cQ8 σ H R=R true H:=rfl
end
def eT(H:Hp)(p:Addr):Option (Bool×List V):=match H p with
 | some (.lst xs)=>some (true,xs)
 | some (.tup xs)=>some (false,xs)
 | some (.frz _ (.lst xs))=>some (true,xs)
 | _=>none
theorem oA{H:Hp}{p:Addr}{xs:List V}(h:H p=some (.lst xs)):eT H p=some (true,xs):=by unfold eT;rw[h]
theorem bU{H:Hp}{p:Addr}{xs:List V}(h:H p=some (.tup xs)):eT H p=some (false,xs):=by unfold eT;rw[h]
theorem bL5{H:Hp}{p:Addr}{o:Obj}{xs:List V}(h:H p=some (.frz o (.lst xs))):eT H p=some (true,xs):=by unfold eT;rw[h]
theorem eU{K:PySem.W.Frag}{H:Hp}{p:Addr}{xs:List V}(h:eT H p=some (true,xs)):SqL K H p xs:=by
 unfold eT at h
 split at h
 ·rename_i e;cases h;exact .inl (.inl e)
 ·cases h
 ·rename_i o ys e;cases h;exact .inl (.inr ⟨o,e⟩)
 ·cases h
theorem cY{K:PySem.W.Frag}{H:Hp}{p:Addr}{xs:List V}(h:eT H p=some (false,xs)):SqT K H p xs:=by
 unfold eT at h
 split at h
 ·cases h
 ·rename_i e;cases h;exact .inl (.inl e)
 ·cases h
 ·cases h
def ixF(H:Hp)(x y:V):Option V:=match x,y with
 | .ref p,.int i=>(eT H p).bind fun q=>atI q.2 i
 | .str z,.int i=>if z.length<=sizeLine then(atI z.cps.toList i).map fun c=>.str ⟨#[c]⟩else none
 | _,_=>none
def cR7(H:Hp)(x:V):Option Nat:=match x with
 | .ref p=>(eT H p).map (·.2.length)
 | .str z=>if z.length<=sizeLine then some z.length else none
 | _=>none
def dH2:R2:=fun x y H Q=>∃ v,ixF H x y=some v/\Q v H
section
variable{X:Cx}
theorem dL3:IxR X dH2:=by
 intro value slice pins s σ H x y v u Q I rx ry h hs
 obtain⟨z,e,q⟩:=h
 unfold ixF at e
 split at e
 ·rename_i p i
  cases hq:eT H p with
  | none=>rw[hq]at e;cases e
  | some w=>
    obtain⟨b,xs⟩:=w
    rw[hq]at e
    cases b with
    | true=>exact cB4 value slice pins s σ H _ _ v u Q I rx ry ⟨p,xs,i,z,rfl,rfl,eU hq,e,q⟩ hs
    | false=>exact cQ0 value slice pins s σ H _ _ v u Q I rx ry ⟨p,xs,i,z,rfl,rfl,cY hq,e,q⟩ hs
 ·rename_i t i
  split at e
  ·rename_i hz
   cases hc:atI t.cps.toList i with
   | none=>rw[hc]at e;cases e
   | some c=>
     rw[hc]at e
     cases e
     exact cQ1 value slice pins s σ H _ _ v u Q I rx ry ⟨t,i,c,rfl,rfl,hz,hc,q⟩ hs
  ·cases e
 ·cases e
def bL6:List V->Hp->VK->Prop:=fun xs H Q=>∃ x n,xs=[x]/\cR7 H x=some n/\Q (.int n) H
theorem bJ:jW X (.builtin "len") bL6:=by
 intro pins s σ H xs us Q I r h
 obtain⟨x,n,rfl,e,q⟩:=h
 unfold cR7 at e
 split at e
 ·rename_i p
  cases hq:eT H p with
  | none=>rw[hq]at e;cases e
  | some w=>
    obtain⟨b,xs⟩:=w
    rw[hq]at e
    cases e
    cases b with
    | true=>exact mU pins s σ H _ us Q I r ⟨p,xs,rfl,.inl (eU hq),q⟩
    | false=>exact mU pins s σ H _ us Q I r ⟨p,xs,rfl,.inr (cY hq),q⟩
 ·rename_i z
  split at e
  ·rename_i hz
   cases e
   exact vN pins s σ H _ us Q I r ⟨z,rfl,hz,q⟩
  ·cases e
 ·cases e
def dH3:V->Option Int->Option Int->Hp->VK->Prop:=fun x lo hi H Q=>match x with
 | .str z=>z.length<=sizeLine/\Q (.str (PySem.Txt.slice z lo hi)) H
 | .ref p=>(∃ xs,eT H p=some (true,xs)/\∀ r,H r=none->Q (.ref r) (upd H r (.lst (xX xs lo hi)))) \/
   ∃ xs,eT H p=some (false,xs)/\¬ (HT.sIx xs.length 0 lo=0/\HT.sIx xs.length xs.length hi=xs.length)/\∀ r,H r=none->Q (.ref r) (upd H r (.tup (xX xs lo hi)))
 | _=>False
theorem dD5:SlR X dH3:=by
 intro pins s σ H x v vl vu lo hi sl Q I rx hs pl pu h
 unfold dH3 at h
 split at h
 ·rename_i z
  exact cQ9 pins s σ H _ v vl vu lo hi sl Q I rx hs pl pu ⟨z,rfl,h.1,h.2⟩
 ·rename_i p
  rcases h with⟨xs,hq,q⟩ | ⟨xs,hq,hw,q⟩
  ·exact cB5 pins s σ H _ v vl vu lo hi sl Q I rx hs pl pu ⟨p,xs,rfl,eU hq,q⟩
  ·exact cP9 pins s σ H _ v vl vu lo hi sl Q I rx hs pl pu ⟨p,xs,rfl,cY hq,hw,q⟩
 ·exact h.elim
def dD6(K:PySem.W.Frag)(tl:TE):TI:=fun σ H R=>tl σ H fun x H1=>match x with
 | .str z=>R (Its z) H1
 | .ref p=>(∃ xs,eT H1 p=some (true,xs)/\R (Itl K p) H1)\/∃ xs,eT H1 p=some (false,xs)/\R (Itt K p) H1
 | _=>False
theorem cR8{tg l:Expr}{tl:TE}(hl:PE X l tl):PI X tg l (dD6 X.K tl):=by
 intro pins s σ H R I h
 refine thn (hl pins s σ H _ I h) fun v s1 ⟨x,H1,I1,r1,q1⟩=>?_
 dsimp only at q1
 split at q1
 ·rename_i x
  obtain⟨t,rfl⟩:=r1
  cases ha:x.cps.all (· < 128)with
  | true=>
    refine wpAny_pyIter_ascii ha ?_
    refine⟨s1.heap.objs.size,[s1.heap.objs.size],_,_,H1,rfl,I1.kept (t':=s1.toks) fun b o e=>Heap.get?_push_of_some _ e,aA5 x t _ _ (.inl rfl),⟨_,Heap.get?_push_size _ rfl,rfl,rfl⟩,fun b hb=>?_,q1⟩
    have e:b=s1.heap.objs.size:=by simpa using hb
    subst e
    exact I1.fpOk (Nat.le_refl _) (I1.hok.fresh (Nat.le_refl _))
  | false=>
    refine wpAny_pyIter_wide ha ?_
    refine⟨s1.heap.objs.size,[s1.heap.objs.size],_,_,H1,rfl,I1.kept (t':=s1.toks) fun b o e=>Heap.get?_push_of_some _ e,aA5 x t _ _ (.inr rfl),⟨_,Heap.get?_push_size _ rfl,rfl,rfl⟩,fun b hb=>?_,q1⟩
    have e:b=s1.heap.objs.size:=by simpa using hb
    subst e
    exact I1.fpOk (Nat.le_refl _) (I1.hok.fresh (Nat.le_refl _))
 ·rename_i a
  cases r1
  rcases q1 with⟨xs,hq,q⟩ | ⟨xs,hq,q⟩
  ·obtain⟨its,rv,p,hz⟩:=I1.list (eU hq)
   refine wpAny_pyIter_list p.isList ?_
   refine⟨s1.heap.objs.size,[s1.heap.objs.size],_,_,H1,rfl,I1.kept (t':=s1.toks) fun b o e=>Heap.get?_push_of_some _ e,aV3 a _,⟨_,Heap.get?_push_size _ rfl,rfl,rfl⟩,fun b hb=>?_,q⟩
   have e:b=s1.heap.objs.size:=by simpa using hb
   subst e
   exact I1.fpOk (Nat.le_refl _) (I1.hok.fresh (Nat.le_refl _))
  ·obtain⟨its,rv,p,hz⟩:=I1.tuple (cY hq)
   refine wpAny_pyIter_tuple (show s1.heap.IsTuple a its.toArray from p) ?_
   refine⟨s1.heap.objs.size,[s1.heap.objs.size],_,_,H1,rfl,I1.kept (t':=s1.toks) fun b o e=>Heap.get?_push_of_some _ e,aQ0 a _,⟨_,Heap.get?_push_size _ rfl,rfl,rfl⟩,fun b hb=>?_,q⟩
   have e:b=s1.heap.objs.size:=by simpa using hb
   subst e
   exact I1.fpOk (Nat.le_refl _) (I1.hok.fresh (Nat.le_refl _))
 ·exact q1.elim
def bV7(N:List Str)(sc scope:Scope)(own:List Nat):Bool:=
 (match scope.kind with | .function=>true | _=>false) &&
 scope.names.all (fun y=>match y.2 with
  | .cell=>(match scope.names.lookup y.1 with | some .cell=>true | _=>false)
  | .local=>(match scope.names.lookup y.1 with | some .local=>true | _=>false)
  | .free=>(match sc.names.lookup y.1 with | some .cell=>true | some .free=>true | _=>false)
  | _=>true) &&
 (List.range N.length).all fun i=>match N[i]? with
  | some x=>(match scope.names.lookup x with | some .local=>own.contains i | some .cell=>own.contains i | _=>true)
  | none=>true
theorem csc{scope:Scope}(own:List Nat)(h:bV7 X.N X.env.scope scope own=true)(hc:X.calm=true:=by rfl):CompScope X scope own:=by
 unfold bV7 at h
 rw[Bool.and_eq_true,Bool.and_eq_true]at h
 obtain⟨⟨h1,h2⟩,h3⟩:=h
 rw[List.all_eq_true]at h2 h3
 refine⟨?_,fun y hy e=>?_,fun y hy e=>?_,fun y hy e=>?_,fun i x e1 e2=>?_,hc⟩
 ·revert h1;cases scope.kind<;>simp
 ·have:=h2 y hy;rw[e]at this
  dsimp only at this
  split at this
  ·assumption
  ·cases this
 ·have:=h2 y hy;rw[e]at this
  dsimp only at this
  split at this
  ·assumption
  ·cases this
 ·have:=h2 y hy;rw[e]at this
  dsimp only at this
  show X.env.scope.names.lookup y.1=some .cell\/X.env.scope.names.lookup y.1=some .free
  split at this
  ·rename_i q;exact .inl q
  ·rename_i q;exact .inr q
  ·cases this
 ·have hi:i < X.N.length:=(List.getElem?_eq_some_iff.mp e1).1
  have:=h3 i (List.mem_range.mpr hi)
  rw[e1]at this
  dsimp only at this
  rcases e2 with e2 | e2<;>rw[e2]at this<;>simpa using this
end
structure ItIs(J:It)(xs:List V)(P:Hp->Prop):Prop where
 go:∀ H i x,P H->xs[i]? = some x->J.go i H
 yld:∀ H i x y H',P H->xs[i]? = some x->J.yld i H y H'->H'=H/\y=x
 stop:∀ H i,P H->xs[i]? = none->J.stop i H
theorem vS{K:PySem.W.Frag}{a:Addr}{xs:List V}:ItIs (Itl K a) xs (fun H=>SqL K H a xs) where
 go:=fun H i x h e=>⟨xs,x,h,e⟩
 yld:=fun H i x y H' h e ⟨e1,e2⟩=>⟨e1,by have:=e2 xs h;rw[e]at this;exact(Option.some.inj this).symm⟩
 stop:=fun H i h e=>⟨xs,h,List.getElem?_eq_none_iff.mp e⟩
theorem bL7{K:PySem.W.Frag}{a:Addr}{xs:List V}:ItIs (Itt K a) xs (fun H=>SqT K H a xs) where
 go:=fun H i x h e=>⟨xs,x,h,e⟩
 yld:=fun H i x y H' h e ⟨e1,e2⟩=>⟨e1,by have:=e2 xs h;rw[e]at this;exact(Option.some.inj this).symm⟩
 stop:=fun H i h e=>⟨xs,h,List.getElem?_eq_none_iff.mp e⟩
def cC2(lo:Int)(n:Nat):List V:=(List.range n).map fun(i:Nat)=>V.int (lo+(i:Int))
theorem lB{lo:Int}{n i:Nat}{x:V}(h:(cC2 lo n)[i]? = some x):i < n/\x=.int (lo+i):=by
 unfold cC2 at h
 rw[List.getElem?_map]at h
 cases e:(List.range n)[i]? with
 | none=>rw[e]at h;cases h
 | some k=>
   rw[e]at h
   obtain⟨hi,hk⟩:=List.getElem?_eq_some_iff.mp e
   rw[List.length_range]at hi
   rw[List.getElem_range]at hk
   subst hk
   exact⟨hi,(Option.some.inj h).symm⟩
theorem dW(lo:Int)(n:Nat):(cC2 lo n).length=n:=by simp[cC2]
theorem lC{lo:Int}{n:Nat}{P:Hp->Prop}:ItIs (Itr lo n) (cC2 lo n) P where
 go:=fun H i x _ e=>(lB e).1
 yld:=fun H i x y H' _ e ⟨e1,e2⟩=>⟨e1,by rw[(lB e).2];exact e2⟩
 stop:=fun H i _ e=>by
  have:=List.getElem?_eq_none_iff.mp e
  rw[dW]at this
  exact this
def eV(x:Str):List V:=x.cps.toList.map fun c=>.str ⟨#[c]⟩
theorem fQ(x:Str):(eV x).length=x.length:=by simp[eV,Str.length]
theorem bL8{x:Str}{P:Hp->Prop}:ItIs (Its x) (eV x) P where
 go:=fun H i v _ e=>by
  unfold eV at e
  rw[List.getElem?_map]at e
  cases q:x.cps.toList[i]? with
  | none=>rw[q]at e;cases e
  | some c=>exact⟨c,by simpa using q⟩
 yld:=fun H i v y H' _ e ⟨e1,c,e2,e3⟩=>⟨e1,by
  unfold eV at e
  rw[List.getElem?_map]at e
  have q:x.cps.toList[i]? = some c:=by simpa using e2
  rw[q]at e
  cases e
  exact e3⟩
 stop:=fun H i _ e=>by
  have h1:=List.getElem?_eq_none_iff.mp e
  rw[fQ]at h1
  show x.cps[i]? = none
  rw[Array.getElem?_eq_none_iff]
  exact h1
theorem yD{J:It}{xs:List V}{P:Hp->Prop}(w:ItIs J xs P){own:List Nat}{g:TG}{tt:TT}{te:TE}{σ:St}{H1:Hp}{F:List V->Hp->Prop}(Pv:Nat->List V->Hp->Prop)(h0:Pv 0 [] H1)
  (hP:∀ i ys H,Pv i ys H->P H/\ys.length<=i) (hn:xs.length<=sizeLine)
  (step:∀ i x ys H (N:List V->Hp->Prop),xs[i]? = some x->Pv i ys H->(∀ ys' H',Pv (i+1) ys' H'->N ys' H')->g x (blank own σ) H fun σ2 H2=>tt σ2 H2 fun b H3=>if b=true then te σ2 H3 fun v H4=>N (ys++[v]) H4 else N ys H3)
  (fin:∀ ys H,Pv xs.length ys H->F ys H) :
  ∃ W:Nat->Nat->List V->Hp->Prop,(∃ m,W 0 m [] H1)/\∀ i m ys H,W i m ys H->ys.length<=sizeLine /\
  ((J.stop i H/\F ys H)\/(J.go i H/\∀ x H',J.yld i H x H'->g x (blank own σ) H' fun σ2 H2=>tt σ2 H2 fun b H3=>
    if b=true then te σ2 H3 fun v H4=>∃ m',m' < m/\W (i+1) m' (ys++[v]) H4 else ∃ m',m' < m/\W (i+1) m' ys H3)):=by
 refine⟨fun i m ys H=>m=xs.length-i/\i<=xs.length/\Pv i ys H,⟨xs.length,by simp,Nat.zero_le _,h0⟩,?_⟩
 rintro i m ys H ⟨rfl,hi,p⟩
 obtain⟨hp,hl⟩:=hP i ys H p
 refine⟨by omega,?_⟩
 by_cases hlt:i < xs.length
 ·have e:xs[i]? = some xs[i]:=List.getElem?_eq_getElem hlt
  refine .inr ⟨w.go H i _ hp e,fun x H' y=>?_⟩
  obtain⟨rfl,rfl⟩:=w.yld H i _ x H' hp e y
  exact step i _ ys H' (fun ys' H4=>∃ m',m' < xs.length-i/\m'=xs.length-(i+1)/\i+1<=xs.length/\Pv (i+1) ys' H4) e p fun ys' H4 q=>⟨xs.length-(i+1),by omega,rfl,hlt,q⟩
 ·have e:i=xs.length:=by omega
  subst e
  exact .inl ⟨w.stop H _ hp (List.getElem?_eq_none_iff.mpr (Nat.le_refl _)),fin ys H p⟩
theorem cR9{J:It}{xs:List V}{P:Hp->Prop}(w:ItIs J xs P){g:TG}{tb:TS}{D:Ends}{σ:St}{H:Hp}(Pv:Nat->St->Hp->Prop)(h0:Pv 0 σ H)(hP:∀ i σ H,Pv i σ H->P H)
  (hs:∀ i x σ H,xs[i]? = some x->Pv i σ H->g x σ H fun σ2 H2=>tb {D with nx:=Pv (i+1),ct:=Pv (i+1),bk:=D.nx} σ2 H2) (hd:∀ σ H,Pv xs.length σ H->D.nx σ H) :
  ∃ W:Nat->Nat->St->Hp->Prop,(∃ m,W 0 m σ H)/\∀ i m σ H,W i m σ H ->
    (J.stop i H/\D.nx σ H)\/(J.go i H/\∃ N:St->Hp->Prop,(∀ σ' H',N σ' H'->∃ m',m' < m/\W (i+1) m' σ' H')/\∀ x H',J.yld i H x H'->g x σ H' fun σ2 H2=>tb {D with nx:=N,ct:=N,bk:=D.nx} σ2 H2):=by
 refine⟨fun i m σ H=>m=xs.length-i/\i<=xs.length/\Pv i σ H,⟨xs.length,by simp,Nat.zero_le _,h0⟩,?_⟩
 rintro i m σ H ⟨rfl,hi,p⟩
 have q:=hP i σ H p
 by_cases hlt:i < xs.length
 ·have e:xs[i]? = some xs[i]:=List.getElem?_eq_getElem hlt
  refine .inr ⟨w.go H i _ q e,Pv (i+1),fun σ' H' p'=>⟨xs.length-(i+1),by omega,rfl,hlt,p'⟩,fun x H' y=>?_⟩
  obtain⟨rfl,rfl⟩:=w.yld H i _ x H' q e y
  exact hs i _ σ _ e p
 ·have e:i=xs.length:=by omega
  subst e
  exact .inl ⟨w.stop H _ q (List.getElem?_eq_none_iff.mpr (Nat.le_refl _)),hd σ H p⟩
section
variable{σ:St}{H:Hp}{Q:VK}{z:Str}{p q:Addr}{xs ys:List V}{i j:Int}{b:Bool}{v x y:V}
theorem bL9(h:z.length<=sizeLine):cR7 H (.str z)=some z.length:=by show(if z.length<=sizeLine then some z.length else none)=_;rw[if_pos h]
theorem sP(h:eT H p=some (b,xs)):cR7 H (.ref p)=some xs.length:=by show(eT H p).map (·.2.length)=_;rw[h];rfl
theorem cS0{n:Nat}(h:cR7 H x=some n):bL6 [x] H Q=Q (.int n) H:=
 propext ⟨fun⟨x',n',e,f,q⟩=>by cases e;rw[h]at f;cases f;exact q,fun q=>⟨_,n,rfl,h,q⟩⟩
theorem rG(h:eT H p=some (b,xs)):bL6 [.ref p] H Q=Q (.int xs.length) H:=cS0 (sP h)
theorem aY5(h:eT H p=some (b,xs))(e:atI xs i=some v):ixF H (.ref p) (.int i)=some v:=by show(eT H p).bind (fun q=>atI q.2 i)=_;rw[h];exact e
theorem cC3{c:Nat}(h:z.length<=sizeLine)(e:atI z.cps.toList i=some c):ixF H (.str z) (.int i)=some (.str ⟨#[c]⟩):=by
 show(if z.length<=sizeLine then(atI z.cps.toList i).map fun c=>V.str ⟨#[c]⟩else none)=_;rw[if_pos h,e];rfl
end
section
variable{σ:St}{H:Hp}{Q:VK}{p:Addr}{xs:List V}{k:Int}{j:Nat}{v:V}
theorem cC4{sp:Sp}{vs:List V}{E:XK}{t:Tag Q}(h:sp vs H Q E):Ask sp vs H E Q t:=h
theorem aY6{α:Type}{ys:List α}{i:Int}(h0:0<=i)(h1:i < ys.length):∃ c,atI ys i=some c:=by
 obtain⟨n,rfl⟩:=Int.eq_ofNat_of_zero_le h0
 have hn:n < ys.length:=by omega
 exact⟨ys[n],cB3 (List.getElem?_eq_getElem hn)⟩
end
end L2
namespace L2
open PySem
theorem cS1{i j:Int}{g:Int->Int->V}{H:Hp}{Q:VK}(h:0 < j):rI (fun _ j=>0 < j) g (.int i) (.int j) H Q=Q (g i j) H:=cC1 h
theorem bV8{t:TA}{σ:St}{H:Hp}{Q:VK}:dH0 t σ H Q=t σ H fun xs H1=>xs.length<=sizeLine/\∀ p,H1 p=none->Q (.ref p) (upd H1 p (.lst xs)):=rfl
theorem bV9{t:TA}{σ:St}{H:Hp}{Q:VK}:dG9 t σ H Q=t σ H fun xs H1=>xs.length<=sizeLine/\∀ p,H1 p=none->Q (.ref p) (upd H1 p (.tup xs)):=rfl
theorem cS2{K:PySem.W.Frag}{T:String}{r:V->List V->Hp->VK->Prop}{to:TE}{t:TA}{σ:St}{H:Hp}{Q:VK}:tBM K T r to t σ H Q=to σ H fun x H1=>tyV K T x H1/\t σ H1 fun xs H2=>r x xs H2 Q:=rfl
theorem yE{α β:Type}{f:α->β}{ys:List α}{i:Int}:atI (ys.map f) i=(atI ys i).map f:=by
 unfold atI
 rw[List.length_map]
 cases ixN ys.length i with
 | none=>rfl
 | some j=>simp
theorem bH{H:Hp}{p:Addr}{o:HO}(h:H p=none):xS H (upd H p o):=fun b u e=>by rw[aL (aV e h)];exact e
def dD7(own:List Nat)(g:TG)(tt:TT)(te:TE)(σ:St)(J:It)(H1:Hp)(F:List V->Hp->Prop):Prop:=
 ∃ W:Nat->Nat->List V->Hp->Prop,(∃ m,W 0 m [] H1)/\∀ i m ys H,W i m ys H->ys.length<=sizeLine /\
   ((J.stop i H/\F ys H)\/(J.go i H/\∀ x H',J.yld i H x H'->g x (blank own σ) H' fun σ2 H2=>tt σ2 H2 fun b H3=>
     if b=true then te σ2 H3 fun v H4=>∃ m',m' < m/\W (i+1) m' (ys++[v]) H4 else ∃ m',m' < m/\W (i+1) m' ys H3))
def dL4(g:TG)(tb:TS)(D:Ends)(σ:St)(J:It)(H1:Hp):Prop:=∃ W:Nat->Nat->St->Hp->Prop,(∃ m,W 0 m σ H1)/\∀ i m σ H,W i m σ H ->
 (J.stop i H/\D.nx σ H)\/(J.go i H/\∃ N:St->Hp->Prop,(∀ σ' H',N σ' H'->∃ m',m' < m/\W (i+1) m' σ' H')/\∀ x H',J.yld i H x H'->g x σ H' fun σ2 H2=>tb {D with nx:=N,ct:=N,bk:=D.nx} σ2 H2)
theorem aY7{own:List Nat}{wi:TI}{g:TG}{tt:TT}{te:TE}{σ:St}{H:Hp}{Q:VK}:aR2 own wi g tt te σ H Q=wi σ H fun J H1=>dD7 own g tt te σ J H1 fun ys H'=>∀ p,H' p=none->Q (.ref p) (upd H' p (.lst ys)):=rfl
theorem bW0{wi:TI}{g:TG}{tb:TS}{D:Ends}{σ:St}{H:Hp}:cZ9 wi g tb D σ H=wi σ H fun J H1=>dL4 g tb D σ J H1:=rfl
def cC5(K:PySem.W.Frag)(x:V)(H1:Hp)(R:It->Hp->Prop):Prop:=match x with
 | .str z=>R (Its z) H1
 | .ref p=>(∃ xs,eT H1 p=some (true,xs)/\R (Itl K p) H1)\/∃ xs,eT H1 p=some (false,xs)/\R (Itt K p) H1
 | _=>False
theorem aY8{K:PySem.W.Frag}{tl:TE}{σ:St}{H:Hp}{R:It->Hp->Prop}:dD6 K tl σ H R=tl σ H fun x H1=>cC5 K x H1 R:=rfl
theorem aA8{K:PySem.W.Frag}{z:Str}{H:Hp}{R:It->Hp->Prop}:cC5 K (.str z) H R=R (Its z) H:=rfl
theorem bM0{K:PySem.W.Frag}{p:Addr}{xs:List V}{H:Hp}{R:It->Hp->Prop}(h:eT H p=some (true,xs)):cC5 K (.ref p) H R=R (Itl K p) H:=
 propext ⟨fun q=>by
  rcases q with⟨_,_,q⟩ | ⟨_,e,_⟩
  ·exact q
  ·rw[h]at e
   exact(nomatch e),fun q=>.inl ⟨xs,h,q⟩⟩
theorem aY9{ta:TA}{σ:St}{H:Hp}{R:It->Hp->Prop}:cA5 ta σ H R=ta σ H fun vs H1=>∃ j:Int,vs=[.int j] /\ -(2 ^ 62)<=j/\j < 2 ^ 62/\R (Itr 0 j.toNat) H1:=rfl
theorem aZ0{ta:TA}{σ:St}{H:Hp}{R:It->Hp->Prop}:cA6 ta σ H R=ta σ H fun vs H1=>∃ i j:Int,vs=[.int i,.int j]/\(-(2 ^ 62)<=i/\i < 2 ^ 62 /\ -(2 ^ 62)<=j/\j < 2 ^ 62)/\R (Itr i (j-i).toNat) H1:=rfl
theorem vT{σ:St}:blank [] σ=σ:=rfl
theorem vU{i:Nat}{r:List Nat}{σ:St}:blank (i::r) σ=blank r (σ.set i none):=rfl
theorem aA9{i j:Int}:decide (V.int i=V.int j)=decide (i=j):=by
 by_cases h:i=j
 ·subst h;simp
 ·rw[decide_eq_false h,decide_eq_false fun e=>h (V.int.inj e)]
theorem cC6(sep:Str)(ys:List Str):(PySem.Txt.join sep ys).length<=(ys.map (·.length)).sum+ys.length*sep.length:=by
 show(PySem.Builtin.Str.glued sep ys).length<=_
 rw[StrLaws.glued_eq_join]
 exact StrLaws.join_length_le sep ys
end L2
namespace L2
theorem up{p q:Prop}(h:p=q)(hq:q):p:=by rw[h];exact hq
theorem bM1{K:PySem.W.Frag}{t:String}:PySem.W.kitOne K (.type t) (.type t)=some true:=by
 unfold PySem.W.kitOne
 rw[if_pos (by simp)]
open PySem PySem.Spec PyProof.Rows
section
variable{prog:Program}{w:World}{A:Around}{E:Value->Shared->Prop}
theorem oU{it:Addr}{x:Str}{t:Tok}{ty:String}(hty:ty="str_ascii_iterator"\/ty="str_iterator"):∀ (n i:Nat) (s:Shared) (Q:List Value->Shared->Prop),s.heap.IsStrIter it ty x t i->i+n<=x.length ->
  (∀ h' tk us,h'.IsStrIter it ty x t (i+n)->Heap.SameBut it s.heap h'->cE (((eV x).drop i).take n) us->Q us {s with heap:=h',toks:=tk})->wpAny (model prog w) A (draw (.ref it) n) Q E s
 | 0,i,s,Q,hit,_,hQ=>by
   show wpAny _ _ (pure []) Q E s
   exact wpAny_pure (by simpa using hQ s.heap s.toks [] hit (Heap.SameBut.refl ..) (by simpa using(.nil:cE [] [])))
 | n+1,i,s,Q,hit,hle,hQ=>by
   have hlt:i < x.cps.size:=by have:x.length=x.cps.size:=rfl;omega
   have hx:x.cps[i]? = some x.cps[i]:=by simp[hlt]
   have hd:(eV x).drop i=V.str ⟨#[x.cps[i]]⟩::(eV x).drop (i+1):=by
    rw[List.drop_eq_getElem_cons (by rw[fQ];exact hlt)]
    congr 1
    simp[eV]
   show wpAny _ _ (pyNext (.ref it) >>= _) Q E s
   have go:∀ h₁,h₁.IsStrIter it ty x t (i+1)->Heap.SameBut it s.heap h₁ ->
     wpAny (model prog w) A (match (some (Value.str ⟨#[x.cps[i]]⟩ s.toks))with | none=>pure [] | some v=>do return v::(← holding [v] (draw (.ref it) n))) Q E {s with heap:=h₁,toks:=s.toks+1}:=fun h₁ hit₁ hs₁=>by
    refine wpAny_bind (wpAny_holding (oU hty n (i+1) _ _ hit₁ (by omega) fun h₂ tk us hit₂ hs₂ hv=>wpAny_pure ?_))
    refine hQ h₂ tk _ (by rw[show i+(n+1)=i+1+n by omega];exact hit₂) (hs₁.trans hs₂) ?_
    rw[hd,List.take_succ_cons]
    exact .cons ⟨_,rfl⟩ hv
   rcases hty with rfl | rfl
   ·exact wpAny_bind (wpAny_pyNext_ascii_item hit hx fun h₁ hit₁ hs₁=>go h₁ hit₁ hs₁)
   ·exact wpAny_bind (wpAny_pyNext_wide_item hit hx fun h₁ hit₁ hs₁=>go h₁ hit₁ hs₁)
theorem sQ{s:Shared}{x:Str}{t:Tok}{targets:List (Bool×(Value->Sem Unit))}{Q:Unit->Shared->Prop}(hh:A.handled=none)
  (hn:targets.length=x.length) (hstar:targets.findIdx? (·.1)=none)
  (h:∀ h' tk us,Heap.ExtBut s.heap.objs.size s.heap h'->cE (eV x) us->wpAny (model prog w) A (assignInOrder (targets.map (·.2)) us) Q E {s with heap:=h',toks:=tk}) :
  wpAny (model prog w) A (unpack (.str x t) targets) Q E s:=by
 unfold unpack
 rw[hn,hstar]
 refine wpAny_bind (wpAny_holding ?_)
 unfold unpackItems
 refine wpAny_bind ?_
 unfold notIterableAtAll
 refine wpAny_bind (wpAny_specialOf (typeIs_str _ _ _) PySem.F.slot_str_iter.lookup ?_)
 refine wpAny_pure ?_
 simp only[Bool.false_eq_true,if_false]
 have go:∀ ty,(ty="str_ascii_iterator"\/ty="str_iterator")->wpAny (model prog w) A (do
   let items ← holding [Value.ref s.heap.objs.size] (draw (.ref s.heap.objs.size) x.length)
   if items.length < x.length then
    rule "unpack.too-few";raiseError "ValueError" s!"not enough values to unpack (expected {x.length}, got {items.length})"
   if(← holding items (pyNext (.ref s.heap.objs.size))).isSome then
    rule "unpack.too-many";raiseError "ValueError" s!"too many values to unpack (expected {x.length})"
   return items:Sem (List Value)) (fun us s'=>wpAny (model prog w) A (assignInOrder (targets.map (·.2)) us) Q E s') E {s with heap:=s.heap.push {cls:=.type ty,data:=.fields #[.str x t,.int 0 0]}}:=by
  intro ty hty
  refine wpAny_bind (wpAny_holding (oU (it:=s.heap.objs.size) (x:=x) (t:=t) hty x.length 0 _ _ ⟨_,Heap.get?_push_size _ rfl,rfl,rfl⟩ (by omega) fun h₁ tk us hit₁ hs₁ hv=>?_))
  have hv':cE (eV x) us:=by
   have e:((eV x).drop 0).take x.length=eV x:=by
    rw[List.drop_zero];exact List.take_of_length_le (by rw[fQ];exact Nat.le_refl _)
   rw[e]at hv
   exact hv
  have hl:us.length=x.length:=by rw[← hv'.length,fQ]
  rw[if_neg (by omega)]
  have hend:x.cps[x.length]? = none:=by simp[Str.length]
  rw[Nat.zero_add]at hit₁
  have fin:∀ h₂,Heap.ExtBut s.heap.objs.size h₁ h₂->wpAny (model prog w) A (do
    if(none:Option Value).isSome then
     rule "unpack.too-many";raiseError "ValueError" s!"too many values to unpack (expected {x.length})"
    return us:Sem (List Value)) (fun us s'=>wpAny (model prog w) A (assignInOrder (targets.map (·.2)) us) Q E s') E {s with heap:=h₂,toks:=tk}:=by
   intro h₂ he₂
   simp only[Option.isSome_none,Bool.false_eq_true,if_false]
   exact wpAny_pure (h h₂ tk us (fun b o hb e=>he₂ b o hb (hs₁.extBut b o hb (Heap.get?_push_of_some _ e))) hv')
  rcases hty with rfl | rfl
  ·exact wpAny_bind (wpAny_holding (wpAny_pyNext_ascii_end hh hit₁ hend fun h₂ he₂=>fin h₂ he₂))
  ·exact wpAny_bind (wpAny_holding (wpAny_pyNext_wide_end hh hit₁ hend fun h₂ he₂=>fin h₂ he₂))
 cases ha:x.cps.all (· < 128)with
 | true=>exact wpAny_bind (wpAny_holding (wpAny_pyIter_ascii ha (go _ (.inl rfl))))
 | false=>exact wpAny_bind (wpAny_holding (wpAny_pyIter_wide ha (go _ (.inr rfl))))
end
section
variable{X:Cx}{pos:Pos}
def aR5(K:PySem.W.Frag)(n:Nat)(t:TGs):TG:=fun v σ H Q=>match v with
 | .str z=>z.length=n/\t (eV z) σ H Q
 | .ref a=>∃ xs,eT H a=some (false,xs)/\xs.length=n/\t xs σ H Q
 | _=>False
theorem cC7{es:List Expr}{k:Nat}{t:TGs}{n:Nat}(hc:X.calm=true)(h:PGs X es t)
  (hn:(assignEach es X.env).length=n:=by rfl) (hst:(assignEach es X.env).findIdx? (·.1)=none:=by rfl):PG X (.Tuple es k pos) (aR5 X.K n t):=by
 intro pins s σ H v u Q I r hw
 unfold aR5 at hw
 split at hw
 ·rename_i z
  obtain⟨hl,hw⟩:=hw
  obtain⟨tk,rfl⟩:=r
  rw[assign_Tuple]
  refine wpAny_bind (wpAny_standAt (sQ (I.ok.hd hc) (hn.trans hl.symm) hst fun h' tk us hx hv=>?_))
  have I1:Inv X pins σ H {s with heap:=h',toks:=tk}:=I.kept fun b o e=>hx b o (Nat.ne_of_lt (Heap.lt_size e)) e
  exact h pins _ σ H _ _ Q I1 hv hw
 ·rename_i a
  obtain⟨xs,hq,hl,hw⟩:=hw
  exact cO5 (k:=k) (pos:=pos) hc h hn hst pins s σ H _ u Q I r ⟨a,xs,rfl,cY hq,hl,hw⟩
 ·exact hw.elim
end
section
variable{X:Cx}
def bW1:List V->Hp->VK->Prop:=fun xs H Q=>∃ p b ys,xs=[.ref p]/\eT H p=some (b,ys)/\∀ l,H l=none->Q (.ref l) (upd H l (.lst ys))
theorem jR:jW X (.type "list") bW1:=by
 intro pins s σ H xs us Q I r h
 obtain⟨p,b,ys,rfl,hq,q⟩:=h
 cases b with
 | true=>exact mV pins s σ H _ us Q I r ⟨p,ys,rfl,.inl (eU hq),q⟩
 | false=>exact mV pins s σ H _ us Q I r ⟨p,ys,rfl,.inr (cY hq),q⟩
def cS3:List V->Hp->VK->Prop:=fun xs H Q=>∃ p b ys,xs=[.ref p]/\eT H p=some (b,ys)/\if b=true then ∀ l,H l=none->Q (.ref l) (upd H l (.tup ys))else Q (.ref p) H
theorem cV:jW X (.type "tuple") cS3:=by
 intro pins s σ H xs us Q I r h
 obtain⟨p,b,ys,rfl,hq,q⟩:=h
 cases b with
 | true=>exact kZ pins s σ H _ us Q I r ⟨p,ys,rfl,.inl ⟨eU hq,by simpa using q⟩⟩
 | false=>exact kZ pins s σ H _ us Q I r ⟨p,ys,rfl,.inr ⟨cY hq,by simpa using q⟩⟩
def cC8:R2:=fun x y H Q=>match x,y with
 | .int i,.int j=>cO7 i j/\Q (.int (i*j)) H
 | .str z,.int i=>z.length<=1000/\0<=i/\i<=1000/\∀ y:Str,y.length<=z.length*i.toNat->y=PySem.Txt.mul z i->Q (.str y) H
 | _,_=>False
theorem cC9(z:Str)(i:Int)(h0:0<=i):(PySem.Txt.mul z i).length<=z.length*i.toNat:=by
 unfold PySem.Txt.mul
 by_cases h1:i < 1
 ·rw[if_pos h1];exact Nat.zero_le _
 ·rw[if_neg h1]
  by_cases h2:(i==1||z.length==0)=true
  ·rw[if_pos h2]
   have:1<=i.toNat:=by omega
   calc z.length=z.length*1:=by rw[Nat.mul_one]
    _<=z.length*i.toNat:=Nat.mul_le_mul_left _ this
  ·rw[if_neg h2]
   have key:∀ (k:Nat) (acc:Array Nat),((List.replicate k z.cps).foldl (· ++ ·) acc).size=acc.size+k*z.cps.size:=by
    intro k
    induction k with
    | zero=>intro acc;simp
    | succ k ih=>
      intro acc
      rw[List.replicate_succ,List.foldl_cons,ih,Array.size_append,Nat.succ_mul]
      omega
   show((List.replicate i.toNat z.cps).foldl (· ++ ·) #[]).size<=_
   rw[key]
   show 0+_<=_
   rw[Nat.zero_add,Nat.mul_comm]
   exact Nat.le_refl _
theorem cS4:OpR X (binaryOp .Mult) cC8:=by
 intro pins s σ H x y v u Q I rx ry h
 unfold cC8 at h
 split at h
 ·exact cO9 pins s σ H _ _ v u Q I rx ry ⟨_,_,rfl,rfl,h.1,h.2⟩
 ·rename_i z i
  obtain⟨h1,h2,h3,q⟩:=h
  obtain⟨t,rfl⟩:=rx
  obtain⟨t',rfl⟩:=ry
  have hle:z.length*i.toNat<=1000*1000:=Nat.mul_le_mul h1 (by omega)
  refine SB.mul ⟨?_,fun ha hb=>?_,fun ha hb=>?_⟩ fun t' k=>⟨.str _,H,I.tok k,⟨t',rfl⟩,q _ (cC9 z i h2) rfl⟩
  ·rw[decide_eq_false (by omega),decide_eq_false (by omega)];rfl
  ·have h4:(1000:Int)<=(2 ^ 63-1) / i:=by
    rw[Int.le_ediv_iff_mul_le (by omega)]
    omega
   omega
  ·unfold PySem.Builtin.Str.tooLong
   exact decide_eq_false (by rw[sizeLine_eq];omega)
 ·exact h.elim
end
section
variable{H:Hp}{Q:VK}{i j:Int}{p:Addr}{b:Bool}{xs:List V}
theorem tyL{K:PySem.W.Frag}(h:H p=some (.lst xs)):tyV K "list" (.ref p) H:=.inl ⟨rfl,_,SqL.of h⟩
end
end L2
namespace L2
theorem rH{α:Type}:∀ (l:List α) (i:Nat) (h:i < l.length),(l[i]::l.eraseIdx i).Perm l
 | [],i,h=>absurd h (Nat.not_lt_zero _)
 | x::r,0,_=>by simpa using List.Perm.refl _
 | x::r,i+1,h=>by
   have ih:=rH r i (by simpa using h)
   simp only[List.getElem_cons_succ,List.eraseIdx_cons_succ]
   exact(List.Perm.swap x _ _).trans (ih.cons x)
open PySem
theorem sR(x:Str):x.length=x.cps.toList.length:=by simp[Str.length]
open PySem.Spec PyProof.Rows
inductive Dt where
 | non | int (i:Int) | str (x:Str) | tup (l:List Dt)
noncomputable instance:DecidableEq Dt:=fun _ _=>Classical.propDecidable _
mutual
inductive Rep(H:Hp):Dt->V->Prop
 | non:Rep H .non .non
 | int (i:Int):Rep H (.int i) (.int i)
 | str (x:Str):Rep H (.str x) (.str x)
 | tup {l:List Dt} {p:Addr} {xs:List V}:H p=some (.tup xs)->Reps H l xs->Rep H (.tup l) (.ref p)
inductive Reps(H:Hp):List Dt->List V->Prop
 | nil:Reps H [] []
 | cons {d:Dt} {r:List Dt} {x:V} {xs:List V}:Rep H d x->Reps H r xs->Reps H (d::r) (x::xs)
end
mutual
theorem Rep.inj{H:Hp}:∀ {d e:Dt} {x:V},Rep H d x->Rep H e x->d=e
 | _,_,_,.non,h=>by cases h;rfl
 | _,_,_,.int i,h=>by cases h;rfl
 | _,_,_,.str x,h=>by cases h;rfl
 | _,_,_,.tup h r,h'=>by
   cases h' with
   | tup h2 r2=>
     rw[h]at h2
     cases h2
     rw[Reps.inj r r2]
theorem Reps.inj{H:Hp}:∀ {l m:List Dt} {xs:List V},Reps H l xs->Reps H m xs->l=m
 | _,_,_,.nil,h=>by cases h;rfl
 | _,_,_,.cons a r,h=>by
   cases h with
   | cons a2 r2=>rw[Rep.inj a a2,Reps.inj r r2]
end
theorem Reps.length{H:Hp}:∀ {l:List Dt} {xs:List V},Reps H l xs->l.length=xs.length
 | _,_,.nil=>rfl
 | _,_,.cons _ r=>by simp[Reps.length r]
theorem Reps.get{H:Hp}:∀ {l:List Dt} {xs:List V} {i:Nat} {d:Dt},Reps H l xs->l[i]? = some d->∃ x,xs[i]? = some x/\Rep H d x
 | _,_,_,_,.nil,h=>by simp at h
 | _,_,0,_,.cons a r,h=>by simp at h;subst h;exact⟨_,rfl,a⟩
 | _,_,i+1,_,.cons a r,h=>by
   obtain⟨x,e,q⟩:=Reps.get (i:=i) r (by simpa using h)
   exact⟨x,by simpa using e,q⟩
mutual
def Dt.dep:Dt->Nat
 | .tup l=>Dt.deps l+1
 | _=>0
def Dt.deps:List Dt->Nat
 | []=>0
 | d::r=>max d.dep (Dt.deps r)
end
theorem sS:∀ {l:List Dt} {i:Nat} {d:Dt},l[i]? = some d->d.dep<=Dt.deps l
 | [],_,_,h=>by simp at h
 | e::r,0,d,h=>by
   simp at h;subst h
   unfold Dt.deps
   exact Nat.le_max_left _ _
 | e::r,i+1,d,h=>by
   have:=sS (l:=r) (i:=i) (d:=d) (by simpa using h)
   unfold Dt.deps
   exact Nat.le_trans this (Nat.le_max_right _ _)
theorem iH(l m:List Dt):((List.range (min l.length m.length)).all (fun j=>decide (l[j]? = m[j]?))&&l.length==m.length)=decide (l=m):=by
 rw[Bool.eq_iff_iff,Bool.and_eq_true,List.all_eq_true,decide_eq_true_eq,beq_iff_eq]
 constructor
 ·rintro⟨h1,h2⟩
  apply List.ext_getElem?
  intro j
  by_cases hj:j < l.length
  ·have:=h1 j (List.mem_range.mpr (by omega))
   exact of_decide_eq_true this
  ·rw[List.getElem?_eq_none_iff.mpr (by omega),List.getElem?_eq_none_iff.mpr (by omega)]
 ·rintro rfl
  exact⟨fun j _=>decide_eq_true rfl,rfl⟩
section
variable{X:Cx}{pins:List (Addr×Obj)}{σ:St}{H:Hp}{s:Shared}
theorem bM2(I:Inv X pins σ H s):∀ (n:Nat) {A:Around} {d1 d2:Dt} {x y:V} {u v:Value},A.units+n < cLine->d1.dep<=n->Rep H d1 x->Rep H d2 y->eO x u->eO y v->SeqAt.EqAt A s u v (decide (d1=d2)):=by
 intro n
 induction n with
 | zero=>
   intro A d1 d2 x y u v hu hd r1 r2 ru rv
   have hu':A.units < cLine:=by omega
   cases r1 with
   | non=>
     cases ru
     cases r2 with
     | non=>cases rv;rw[decide_eq_true rfl];exact SeqAt.EqAt.same _
     | int i=>obtain⟨t,rfl⟩:=rv;rw[decide_eq_false (fun z=>nomatch z)];exact SeqAt.EqAt.none_int _ _
     | str i=>obtain⟨t,rfl⟩:=rv;rw[decide_eq_false (fun z=>nomatch z)];exact SeqAt.EqAt.none_str _ _
     | tup h r=>
       cases rv;rw[decide_eq_false (fun z=>nomatch z)]
       obtain⟨its,_,ht,_⟩:=I.tuple (SqT.of h)
       exact SeqAt.EqAt.none_tuple ht hu'
   | int i=>
     obtain⟨t,rfl⟩:=ru
     cases r2 with
     | non=>cases rv;rw[decide_eq_false (fun z=>nomatch z)];exact SeqAt.EqAt.int_none _ _
     | int j=>
       obtain⟨t',rfl⟩:=rv
       have e:decide (Dt.int i=Dt.int j)=(i==j):=by
        rw[Bool.eq_iff_iff,decide_eq_true_eq,beq_iff_eq]
        exact⟨fun z=>by cases z;rfl,fun z=>by rw[z]⟩
       rw[e];exact SeqAt.EqAt.int_int _ _ _ _
     | str j=>obtain⟨t',rfl⟩:=rv;rw[decide_eq_false (fun z=>nomatch z)];exact SeqAt.EqAt.int_str _ _ _ _
     | tup h r=>
       cases rv;rw[decide_eq_false (fun z=>nomatch z)]
       obtain⟨its,_,ht,_⟩:=I.tuple (SqT.of h)
       exact SeqAt.EqAt.int_tuple _ _ ht hu'
   | str i=>
     obtain⟨t,rfl⟩:=ru
     cases r2 with
     | non=>cases rv;rw[decide_eq_false (fun z=>nomatch z)];exact SeqAt.EqAt.str_none _ _
     | int j=>obtain⟨t',rfl⟩:=rv;rw[decide_eq_false (fun z=>nomatch z)];exact SeqAt.EqAt.str_int _ _ _ _
     | str j=>
       obtain⟨t',rfl⟩:=rv
       have e:decide (Dt.str i=Dt.str j)=(i==j):=by
        rw[Bool.eq_iff_iff,decide_eq_true_eq,beq_iff_eq]
        exact⟨fun z=>by cases z;rfl,fun z=>by rw[z]⟩
       rw[e];exact SeqAt.EqAt.str_str _ _ _ _
     | tup h r=>
       cases rv;rw[decide_eq_false (fun z=>nomatch z)]
       obtain⟨its,_,ht,_⟩:=I.tuple (SqT.of h)
       exact SeqAt.EqAt.str_tuple _ _ ht hu'
   | tup h r=>unfold Dt.dep at hd;omega
 | succ n ih=>
   intro A d1 d2 x y u v hu hd r1 r2 ru rv
   have hu':A.units < cLine:=by omega
   cases r1 with
   | non=>exact ih (by omega) (Nat.zero_le _) .non r2 ru rv
   | int i=>exact ih (by omega) (Nat.zero_le _) (.int i) r2 ru rv
   | str i=>exact ih (by omega) (Nat.zero_le _) (.str i) r2 ru rv
   | @tup l p xs h r=>
     cases ru
     obtain⟨its,vr,ht,_⟩:=I.tuple (SqT.of h)
     cases r2 with
     | non=>cases rv;rw[decide_eq_false (fun z=>nomatch z)];exact SeqAt.EqAt.tuple_none ht hu'
     | int j=>obtain⟨t',rfl⟩:=rv;rw[decide_eq_false (fun z=>nomatch z)];exact SeqAt.EqAt.tuple_int _ _ ht hu'
     | str j=>obtain⟨t',rfl⟩:=rv;rw[decide_eq_false (fun z=>nomatch z)];exact SeqAt.EqAt.tuple_str _ _ ht hu'
     | @tup m q ys h2 r2=>
       cases rv
       obtain⟨its2,vr2,ht2,_⟩:=I.tuple (SqT.of h2)
       by_cases hpq:p=q
       ·subst hpq
        rw[h]at h2;cases h2
        rw[Reps.inj r r2,decide_eq_true rfl]
        exact SeqAt.EqAt.same _
       ·have hdl:Dt.deps l<=n:=by unfold Dt.dep at hd;omega
        have e1:its.length=l.length:=by rw[← vr.length,r.length]
        have e2:its2.length=m.length:=by rw[← vr2.length,r2.length]
        have key:=SeqAt.RcAt.tuples (A:=A) (e:=fun j=>decide (l[j]? = m[j]?)) ht ht2 hu' fun j h1 h2'=>by
         have hj1:j < its.length:=by simpa using h1
         have hj2:j < its2.length:=by simpa using h2'
         have hl:l[j]? = some l[j]:=List.getElem?_eq_getElem (by omega)
         have hm:m[j]? = some m[j]:=List.getElem?_eq_getElem (by omega)
         obtain⟨x',ex,rx⟩:=r.get hl
         obtain⟨y',ey,ry⟩:=r2.get hm
         obtain⟨u',eu,ru'⟩:=vr.get ex
         obtain⟨v',ev,rv'⟩:=vr2.get ey
         have:=ih (A:=A.in1) (by show A.units+1+n < cLine;omega) (Nat.le_trans (sS hl) hdl) rx ry ru' rv'
         have g1:its.toArray[j]=u':=by
          rw[List.getElem?_eq_getElem hj1]at eu
          simpa using eu
         have g2:its2.toArray[j]=v':=by
          rw[List.getElem?_eq_getElem hj2]at ev
          simpa using ev
         rw[g1,g2]
         have e3:decide (l[j]? = m[j]?)=decide (l[j]=m[j]):=by rw[hl,hm];simp
         rw[e3]
         exact this
        have e4:((List.range (min its.toArray.size its2.toArray.size)).all (fun j=>decide (l[j]? = m[j]?))&&its.toArray.size==its2.toArray.size)=decide (Dt.tup l=Dt.tup m):=by
         rw[List.size_toArray,List.size_toArray,e1,e2,iH]
         rw[Bool.eq_iff_iff,decide_eq_true_eq,decide_eq_true_eq]
         exact⟨fun z=>by rw[z],fun z=>by cases z;rfl⟩
        rw[e4]at key
        exact SeqAt.EqAt.of_refs hpq key
end
section
variable{X:Cx}{pins:List (Addr×Obj)}{σ:St}{H:Hp}{s:Shared}
theorem lD(I:Inv X pins σ H s){A:Around}{l m:List Dt}{xs ys:List V}{its its2:List Value}(hu:A.units+64 < cLine)(hd:Dt.deps l<=60)(r1:Reps H l xs)(r2:Reps H m ys)(v1:cE xs its)(v2:cE ys its2) :
  ∀ j (h1:j < its.toArray.size) (h2:j < its2.toArray.size),SeqAt.EqAt A.in1 s its.toArray[j] its2.toArray[j] (decide (l[j]? = m[j]?)):=by
 intro j h1 h2
 have e1:its.length=l.length:=by rw[← v1.length,r1.length]
 have e2:its2.length=m.length:=by rw[← v2.length,r2.length]
 have hj1:j < its.length:=by simpa using h1
 have hj2:j < its2.length:=by simpa using h2
 have hl:l[j]? = some l[j]:=List.getElem?_eq_getElem (by omega)
 have hm:m[j]? = some m[j]:=List.getElem?_eq_getElem (by omega)
 obtain⟨x',ex,rx⟩:=r1.get hl
 obtain⟨y',ey,ry⟩:=r2.get hm
 obtain⟨u',eu,ru'⟩:=v1.get ex
 obtain⟨v',ev,rv'⟩:=v2.get ey
 have key:=bM2 I 60 (A:=A.in1) (by show A.units+1+60 < cLine;omega) (Nat.le_trans (sS hl) hd) rx ry ru' rv'
 have g1:its.toArray[j]=u':=by
  rw[List.getElem?_eq_getElem hj1]at eu
  simpa using eu
 have g2:its2.toArray[j]=v':=by
  rw[List.getElem?_eq_getElem hj2]at ev
  simpa using ev
 rw[g1,g2]
 have e3:decide (l[j]? = m[j]?)=decide (l[j]=m[j]):=by rw[hl,hm];simp
 rw[e3]
 exact key
def cL0(neg:Bool):R2:=fun x y H Q=>match x,y with
 | .ref p,.ref q=>∃ b xs ys l m,eT H p=some (b,xs)/\eT H q=some (b,ys)/\Reps H l xs/\Reps H m ys/\Dt.deps l<=60/\Q (.bl (if neg then !decide (l=m)else decide (l=m))) H
 | _,_=>cA7 x y=true/\Q (.bl (if neg then !decide (x=y)else decide (x=y))) H
theorem aB0{l m:List Dt}(h:l.length=m.length):(List.range l.length).all (fun j=>decide (l[j]? = m[j]?))=decide (l=m):=by
 have:=iH l m
 rw[h,Nat.min_self]at this
 rw[h,← this]
 simp
theorem aB1(hu:X.A.units+64 < cLine):OpR X (compareOp .Eq) (cL0 false):=by
 intro pins s σ H x y v u Q I rx ry h
 unfold cL0 at h
 split at h
 ·rename_i p q
  obtain⟨b,xs,ys,l,m,hp,hq,r1,r2,hd,q⟩:=h
  cases rx
  cases ry
  have q':Q (.bl (decide (l=m))) H:=by simpa using q
  cases b with
  | true=>
    obtain⟨its,v1,p1,_⟩:=I.list (eU hp)
    obtain⟨its2,v2,p2,_⟩:=I.list (eU hq)
    have e1:its.length=l.length:=by rw[← v1.length,r1.length]
    have e2:its2.length=m.length:=by rw[← v2.length,r2.length]
    by_cases hs:l.length=m.length
    ·refine SeqAt.eq_listAt p1.isList p2.isList (by simp only[List.size_toArray];omega) (by omega) (lD I hu hd r1 r2 v1 v2) (bK I q' ?_)
     rw[List.size_toArray,e1,aB0 hs]
    ·refine SeqAt.eq_list_lengthsAt p1.isList p2.isList (by simp only[List.size_toArray,bne_iff_ne];omega) (by omega) (bK I q' ?_)
     exact decide_eq_false fun z=>hs (by rw[z])
  | false=>
    obtain⟨its,v1,p1,_⟩:=I.tuple (cY hp)
    obtain⟨its2,v2,p2,_⟩:=I.tuple (cY hq)
    have e1:its.length=l.length:=by rw[← v1.length,r1.length]
    have e2:its2.length=m.length:=by rw[← v2.length,r2.length]
    refine SeqAt.eq_tupleAt p1 p2 (by omega) (lD I hu hd r1 r2 v1 v2) (bK I q' ?_)
    rw[List.size_toArray,List.size_toArray,e1,e2,iH]
 ·exact dC5 pins s σ H _ _ v u Q I rx ry ⟨h.1,by simpa using h.2⟩
theorem cS5(hu:X.A.units+64 < cLine):OpR X (compareOp .NotEq) (cL0 true):=by
 intro pins s σ H x y v u Q I rx ry h
 unfold cL0 at h
 split at h
 ·rename_i p q
  obtain⟨b,xs,ys,l,m,hp,hq,r1,r2,hd,q⟩:=h
  cases rx
  cases ry
  have q':Q (.bl (!decide (l=m))) H:=by simpa using q
  cases b with
  | true=>
    obtain⟨its,v1,p1,_⟩:=I.list (eU hp)
    obtain⟨its2,v2,p2,_⟩:=I.list (eU hq)
    have e1:its.length=l.length:=by rw[← v1.length,r1.length]
    have e2:its2.length=m.length:=by rw[← v2.length,r2.length]
    by_cases hs:l.length=m.length
    ·refine SeqAt.RcNeAt.lists p1.isList p2.isList (by simp only[List.size_toArray];omega) (by omega) (lD I hu hd r1 r2 v1 v2) _ _ _ _ (bK I q' ?_)
     rw[List.size_toArray,e1,aB0 hs]
    ·refine SeqAt.RcNeAt.lists_lengths p1.isList p2.isList (by simp only[List.size_toArray,bne_iff_ne];omega) (by omega) _ _ _ _ (bK I q' ?_)
     rw[decide_eq_false fun z=>hs (by rw[z])];rfl
  | false=>
    obtain⟨its,v1,p1,_⟩:=I.tuple (cY hp)
    obtain⟨its2,v2,p2,_⟩:=I.tuple (cY hq)
    have e1:its.length=l.length:=by rw[← v1.length,r1.length]
    have e2:its2.length=m.length:=by rw[← v2.length,r2.length]
    refine SeqAt.RcNeAt.tuples p1 p2 (by omega) (lD I hu hd r1 r2 v1 v2) _ _ _ _ (bK I q' ?_)
    rw[List.size_toArray,List.size_toArray,e1,e2,iH]
 ·exact dC6 pins s σ H _ _ v u Q I rx ry ⟨h.1,by simpa using h.2⟩
theorem aZ1{i j:Int}{Q:VK}:cL0 false (.int i) (.int j) H Q=Q (.bl (decide (i=j))) H:=by
 show(cA7 _ _=true/\_)=_;rw[show cA7 (.int i) (.int j)=true from rfl,← aA9];simp
theorem aZ2{i j:Int}{Q:VK}:cL0 true (.int i) (.int j) H Q=Q (.bl (!decide (i=j))) H:=by
 show(cA7 _ _=true/\_)=_;rw[show cA7 (.int i) (.int j)=true from rfl,← aA9];simp
end
section
variable{X:Cx}
theorem cD0{prog:Program}{w:World}{A:Around}{E:Value->Shared->Prop}{s:Shared}{t b:Addr}{ws:List Value}{Q:Value->Shared->Prop}(ht:IsTup s.heap t ([]:List Value).toArray)(hb:IsTup s.heap b ws.toArray)
  (h1:Q (.ref b) s):wpAny (model prog w) A (binaryOp .Add (.ref t) (.ref b)) Q E s:=by
 obtain⟨⟨cls,dd,data,sl⟩,ho,hc,n,hd⟩:=id ht
 obtain⟨⟨cls2,dd2,data2,sl2⟩,ho2,hc2,n2,hd2⟩:=id hb
 simp only at hc hd hc2 hd2
 subst hc hd hc2 hd2
 exact concat_meets ⟨_,ho,rfl⟩ ⟨_,ho2,rfl⟩ noFill_tuple_add seq_tuple_add PySem.F.slot_tuple_add PySem.F.entry_tuple_add (PySem.F.args_tuple_add_2 _ _)
   (tuple_addW0 t b ([]:List Value).toArray ws.toArray n n2 dd dd2 sl sl2 (by simp)) ⟨ho,ho2,h1⟩
def bM3:R2:=fun x y H Q=>match x,y with
 | .int i,.int j=>Q (.int (i+j)) H
 | .str a,.str b=>a.length+b.length<=sizeLine/\Q (.str (a++b)) H
 | .ref p,.ref q=>(∃ xs ys,H p=some (.lst xs)/\H q=some (.lst ys)/\xs.length+ys.length<=sizeLine/\∀ r,H r=none->Q (.ref r) (upd H r (.lst (xs++ys)))) \/
   ∃ xs ys,eT H p=some (false,xs)/\eT H q=some (false,ys)/\xs.length+ys.length<=sizeLine/\(xs=[]->Q (.ref q) H)/\(xs≠[]->ys=[]->Q (.ref p) H)/\(xs≠[]->ys≠[]->∀ r,H r=none->Q (.ref r) (upd H r (.tup (xs++ys))))
 | _,_=>False
theorem aB2:OpR X (binaryOp .Add) bM3:=by
 intro pins s σ H x y v u Q I rx ry h
 unfold bM3 at h
 split at h
 ·exact cO8 pins s σ H _ _ v u Q I rx ry ⟨_,_,rfl,rfl,h⟩
 ·exact aQ5 pins s σ H _ _ v u Q I rx ry ⟨_,_,rfl,rfl,h.1,h.2⟩
 ·rename_i p q
  rcases h with⟨xs,ys,h1,h2,h3,q⟩ | ⟨xs,ys,h1,h2,h3,q1,q2,q3⟩
  ·exact cQ6 pins s σ H _ _ v u Q I rx ry ⟨_,_,xs,ys,rfl,rfl,h1,h2,h3,q⟩
  ·by_cases hx:xs=[]
   ·cases rx
    cases ry
    obtain⟨its,r1,p1,_⟩:=I.tuple (cY h1)
    obtain⟨its2,r2,p2,_⟩:=I.tuple (cY h2)
    have e:its=[]:=r1.nil_iff.mpr hx
    subst e
    exact cD0 p1 p2 ⟨.ref q,H,I,rfl,q1 hx⟩
   ·exact cB2 pins s σ H _ _ v u Q I rx ry ⟨p,q,xs,ys,rfl,rfl,cY h1,cY h2,hx,h3,q2 hx,q3 hx⟩
 ·exact h.elim
theorem aB3{i j:Int}{H:Hp}{Q:VK}:bM3 (.int i) (.int j) H Q=Q (.int (i+j)) H:=rfl
def dA0(neg:Bool):R2:=fun x y H Q=>match y with
 | .non=>Q (.bl (if neg then !decide (x=.non)else decide (x=.non))) H
 | .bl b=>(match x with | .bl a=>Q (.bl (if neg then !decide (a=b)else decide (a=b))) H | _=>False)
 | _=>False
end
section
variable{X:Cx}
theorem aZ3{a b:Bool}{H:Hp}{Q:VK}:dA0 false (.bl a) (.bl b) H Q=Q (.bl (decide (a=b))) H:=rfl
theorem aB4{a b:Bool}{H:Hp}{Q:VK}:dA0 true (.bl a) (.bl b) H Q=Q (.bl (!decide (a=b))) H:=rfl
theorem aZ4{x:V}{H:Hp}{Q:VK}:dA0 false x .non H Q=Q (.bl (decide (x=.non))) H:=rfl
theorem aB5{x:V}{H:Hp}{Q:VK}:dA0 true x .non H Q=Q (.bl (!decide (x=.non))) H:=rfl
theorem aZ5:∀ {zs:List Str} {us:List Value},cE (zs.map V.str) us->∀ u∈us,∃ z t,u=.str z t
 | [],_,.nil=>fun u hu=>nomatch hu
 | z::r,_,.cons h1 h2=>fun u hu=>by
   rcases List.mem_cons.mp hu with e | e
   ·obtain⟨t,q⟩:=h1
    exact⟨z,t,e.trans q⟩
   ·exact aZ5 h2 u e
def isZ(z:Str):Value->Bool
 | .str y _=>y==z
 | _=>false
end
section
variable{prog:Program}{w:World}{A:Around}{E:Value->Shared->Prop}{s:Shared}
end
abbrev lX(acc:Array Value)(c:Nat):Obj:={cls:=.type "list",dict:=none,data:=.seq acc c,slots:=#[]}
structure LoopJ(prog:Program)(w:World)(A:Around)(I S:Addr)(n:Nat)(J:Nat->Array Value->Heap->Prop)(K:Array Value->Heap->Prop):Prop where
 item:∀ i acc (s:Shared) (c:Nat) (Q:Option Value->Shared->Prop) (E:Value->Shared->Prop),i < n->J i acc s.heap->s.heap.get? S=some (lX acc c) ->
  (∀ v h' tk,J (i+1) (acc.push v) h'->h'.get? S=some (lX acc c)->Q (some v) {s with heap:=h',toks:=tk})->wpAny (model prog w) A (pyNext (.ref I)) Q E s
 done:∀ acc (s:Shared) (c:Nat) (Q:Option Value->Shared->Prop) (E:Value->Shared->Prop),J n acc s.heap->s.heap.get? S=some (lX acc c) ->
  (∀ h' tk,K acc h'->h'.get? S=some (lX acc c)->Q none {s with heap:=h',toks:=tk})->wpAny (model prog w) A (pyNext (.ref I)) Q E s
 frame:∀ i acc h h',J i acc h->h'.objs.size=h.objs.size->(∀ b o,b≠S->h.get? b=some o->h'.get? b=some o)->J i acc h'
section
variable{prog:Program}{w:World}{A:Around}{E:Value->Shared->Prop}{I S:Addr}{n:Nat}{J:Nat->Array Value->Heap->Prop}{K:Array Value->Heap->Prop}{R:Result->Shared->Prop}
theorem cS6(L:LoopJ prog w A.in1 I S n J K)(hn:n<=sizeLine)(res:Value):∀ (k i:Nat) (s:Shared) (acc:Array Value) (c:Nat),n-i=k->i<=n->J i acc s.heap->acc.size=i->s.heap.get? S=some (lX acc c) ->
  (∀ h' tk acc' c',K acc' h'->acc'.size=n->h'.get? S=some (lX acc' c')->R (.ok (.ret res)) {s with heap:=h',toks:=tk})->codeAny (model prog w) A (.builtin "list.extend.loop" ⟨[.ref S,.ref I,res],[]⟩) R s:=by
 intro k
 induction k with
 | zero=>
   intro i s acc c hk hi hJ ha hS hR
   obtain rfl:i=n:=by omega
   (refine codeAny_builtin F.entry_extend_loop ?_;rw[Around.under_plainId F.plain_extend_loop _])
   (show wpAny _ A.in1 (pyNext (.ref I) >>= _) _ _ s;refine wpAny_bind (L.done acc s c _ _ hJ hS fun h' tk hK hS'=>?_))
   exact wpAny_pure (hR h' tk acc c hK ha hS')
 | succ k ih=>
   intro i s acc c hk hi hJ ha hS hR
   have hlt:i < n:=by omega
   (refine codeAny_builtin F.entry_extend_loop ?_;rw[Around.under_plainId F.plain_extend_loop _])
   (show wpAny _ A.in1 (pyNext (.ref I) >>= _) _ _ s;refine wpAny_bind (L.item i acc s c _ _ hlt hJ hS fun v h' tk hJ' hS'=>?_))
   (show wpAny _ A.in1 (updateSeq S (·.push v) >>= _) _ _ _;refine wpAny_bind ?_)
   refine wpAny_updateSeq hS' rfl (wpAny_pure ⟨plainId_quiet F.plain_extend_loop _,ih (i+1) _ (acc.push v) (c+1) (by omega) hlt ?_ (by rw[Array.size_push,ha]) ?_ ?_⟩) (by rw[ha];omega) (by show(acc.push v).size<=sizeLine+1;rw[Array.size_push,ha];omega)
   ·exact L.frame _ _ _ _ hJ' (Heap.size_update ..) fun b o hb e=>(Heap.get?_update_other _ _ (Ne.symm hb)).trans e
   ·rw[Heap.get?_update_self _ hS' rfl]
    simp[Obj.mapSeq]
   ·intro h'' tk'' acc' c' hK hsz hS''
    exact hR h'' tk'' acc' c' hK hsz hS''
end
section
variable{prog:Program}{w:World}{A:Around}{E:Value->Shared->Prop}{s:Shared}{I:Addr}{Q:Bool->Shared->Prop}
end
theorem yF{X:Cx}{T U:String}{x y:Str}{p p' pos pos':Pos}{e:Expr}{es:List Expr}{t:TA}{r:List V->Hp->VK->Prop}
  (hc:∀ pins s σ H vs us Q,Inv X pins σ H s->cE vs us->r vs H Q->wpAny (model X.prog X.w) X.A (call (.type U) us) (fun u s1=>wpAny (model X.prog X.w) X.A (call (.type T) [u]) (EP X pins σ Q) X.xe s1) X.xe s)
  (hg:Gl X x) (hm:X.mg x=none) (hv:bootBuiltins x=some (.type T)) (hg':Gl X y) (hm':X.mg y=none) (hv':bootBuiltins y=some (.type U)) (ha:PA X (e::es) t)
  (hn:x≠"__name__":=by decide) (hdb:(x==("__debug__":Str))=false:=by decide) (hn':y≠"__name__":=by decide) (hdb':(y==("__debug__":Str))=false:=by decide)
  (he:starEach (e::es) X.env=(false,eval e X.env)::starEach es X.env:=by rfl) (hpl:(backTo pos' (starEach es X.env)).any (·.1)=false:=by rfl)
  (hs:starEach [.Call (.Name y p') (e::es) [] pos'] X.env=(false,eval (.Call (.Name y p') (e::es) [] pos') X.env)::starEach [] X.env:=by rfl) :
  PE X (.Call (.Name x p) [.Call (.Name y p') (e::es) [] pos'] [] pos) (tCB r t):=by
 intro pins s σ H Q I h
 refine wpAny_Call_Name_kw (iV I hg hm hv ?_ hn hdb)
 refine PyProof.Rows.callWith_type1 ?_ hs (by rfl)
 rw[hs]
 (show wpAny _ _ (spliced ((false,eval (.Call (.Name y p') (e::es) [] pos') X.env)::backTo pos (starEach [] X.env))) _ _ s;refine Calls.spliced_cons ?_)
 refine wpAny_Call_Name_kw (iV I hg' hm' hv' ?_ hn' hdb')
 refine PyProof.Rows.callWith_type1 ?_ he hpl
 exact thn (ha pos' pins s σ H _ I h) fun us s1 ⟨vs,H1,I1,r1,q1⟩=>thn (hc pins s1 σ H1 vs us Q I1 r1 q1) fun u s2 h2=>Calls.spliced_nil h2
section
variable{prog:Program}{w:World}{A:Around}{E:Value->Shared->Prop}{s:Shared}
end
section
variable{X:Cx}
end
structure ZK(h0:Heap)(xs ys:Array Value)(acc:Array Value)(h:Heap):Prop where
 keep:∀ b o,h0.get? b=some o->h.get? b=some o
 got:∀ j,j < min xs.size ys.size->∃ T x y,acc[j]? = some (.ref T)/\xs[j]? = some x/\ys[j]? = some y/\IsPair h T x y/\h0.objs.size+6<=T
 nd:acc.toList.Nodup
section
variable{prog:Program}{w:World}{A:Around}{E:Value->Shared->Prop}{s:Shared}
end
section
variable{prog:Program}{w:World}{A:Around}{E:Value->Shared->Prop}{s:Shared}
end
section
variable{X:Cx}
end
theorem aZ6{own:List Nat}{K:PySem.W.Frag}{n:Nat}{t:TGs}(ht:bL2 own t):cB9 own (aR5 K n t):=fun x σ H Q q=>by
 unfold aR5 at q ⊢
 split at q
 ·exact⟨q.1,ht _ _ _ _ q.2⟩
 ·obtain⟨xs,h1,h2,h3⟩:=q
  exact⟨xs,h1,h2,ht _ _ _ _ h3⟩
 ·exact q.elim
def oV(t c:String):Bool:=t==c||(t=="bool"&&c=="int")
theorem bM4{K:PySem.W.Frag}{t c:String}(ht:t="NoneType"\/t="int"\/t="bool"\/t="str"\/t="list"\/t="tuple")(hc:c="int"\/c="bool"\/c="str"\/c="list"\/c="tuple"):PySem.W.kitOne K (.type t) (.type c)=some (oV t c):=by
 rcases ht with rfl | rfl | rfl | rfl | rfl | rfl<;>rcases hc with rfl | rfl | rfl | rfl | rfl<;>first | exact bM1 | rfl | (unfold PySem.W.kitOne;decide +kernel) | (unfold PySem.W.kitOne;rfl)
end L2
namespace Mr
open PySem L2 PyProof.Rows
abbrev Sps:=PySem.W.Frag->Sp
def eW(H:Hp)(p:Addr):Prop:=∃ i j:Int,H p=some (.lst [.int i,.int j])
def SameBut(p:Addr)(H H':Hp):Prop:=∀ b o,b≠p->H b=some o->H' b=some o
theorem eW.upd{H:Hp}{p q:Addr}{o:HO}(h:eW H p)(hq:H q=none):eW (L2.upd H q o) p:=by
 obtain⟨i,j,e⟩:=h
 exact⟨i,j,by rw[aL (aV e hq)];exact e⟩
theorem eW.put{H:Hp}{p q:Addr}{o:HO}(h:eW H p)(hq:q≠p):eW (L2.upd H q o) p:=by
 obtain⟨i,j,e⟩:=h
 exact⟨i,j,by rw[aL hq.symm];exact e⟩
theorem SameBut.upd{H H2:Hp}{p q:Addr}{o:HO}(h:SameBut p H H2)(hq:H2 q=none):SameBut p H (L2.upd H2 q o):=fun b u hb e=>by
 have:=h b u hb e
 rw[aL (aV this hq)];exact this
theorem SameBut.put{H H2:Hp}{p q:Addr}{o:HO}(h:SameBut p H H2)(hq:H q=none):SameBut p H (L2.upd H2 q o):=fun b u hb e=>by
 rw[aL (aV e hq)];exact h b u hb e
theorem SameBut.trans{p:Addr}{H H1 H2:Hp}(h:SameBut p H H1)(h':SameBut p H1 H2):SameBut p H H2:=fun b u hb e=>h' b u hb (h b u hb e)
theorem SameBut.refl{p:Addr}{H:Hp}:SameBut p H H:=fun _ _ _ e=>e
theorem SameBut.none{p q:Addr}{H H':Hp}(h:SameBut p H H')(hb:eW H' p)(hq:H' q=Option.none):H q=Option.none:=by
 cases e:H q with
 | none=>rfl
 | some o=>
   by_cases z:q=p
   ·subst z
    obtain⟨i,j,e'⟩:=hb
    rw[e']at hq;cases hq
   ·rw[h q o z e]at hq;cases hq
def oW:Sps:=fun _ vs H Q _=>∃ (p:Addr) (m:Int),vs=[.ref p,.int m]/\eW H p/\0 < m/\m < 1073741824 /\
 ∀ (d:Int) H',0<=d->d < m->eW H' p->SameBut p H H'->Q (.int d) H'
inductive Tr where
 | leaf (z:Str) | node (l r:Tr)
end Mr
namespace L2
open PySem PyProof.Rows
theorem dH4{i j:Int}:(if j < i then j else i)=min i j:=by
 by_cases h:j < i
 ·rw[if_pos h];omega
 ·rw[if_neg h];omega
theorem cS7{i j:Int}{R:Int->Int->Prop}:(∃ a b,[V.int i,V.int j]=[V.int a,V.int b]/\R a b)=R i j:=
 propext ⟨fun⟨a,b,e,q⟩=>by cases e;exact q,fun q=>⟨i,j,rfl,q⟩⟩
end L2
namespace L2
open PySem
theorem vV{t u:TS}{D:Ends}{σ:St}{H:Hp}(M:St->Hp->Prop)(h2:∀ σ' H',M σ' H'->u D σ' H')(h1:∀ C:St->Hp->Prop,(∀ σ' H',M σ' H'->C σ' H')->t {D with nx:=C} σ H):cZ8 t u D σ H:=h1 (u D) h2
end L2
namespace L2
theorem bW2{K:PySem.W.Frag}{T:String}{r:V->List V->Hp->VK->Prop}{to:TE}{σ:St}{H:Hp}{Q:VK}:dD2 K T r to σ H Q=to σ H fun x H1=>tyV K T x H1/\r x [] H1 Q:=rfl
end L2
namespace Mr
open PySem L2
end Mr
namespace L2
open PySem
theorem aZ7{X:Cx}(K:PySem.W.Frag)(hK:X.K=K){tg l:Expr}{tl:TE}(hl:PE X l tl):PI X tg l (dD6 K tl):=by rw[← hK];exact cR8 hl
theorem jS{X:Cx}{pos:Pos}(K:PySem.W.Frag)(hK:X.K=K){es:List Expr}{k:Nat}{t:TGs}{n:Nat}(hc:X.calm=true)(h:PGs X es t)
  (hn:(assignEach es X.env).length=n:=by rfl) (hst:(assignEach es X.env).findIdx? (·.1)=none:=by rfl):PG X (.Tuple es k pos) (aR5 K n t):=by rw[← hK];exact cC7 hc h hn hst
section
variable{X:Cx}{o e:Expr}{es:List Expr}{to:TE}{t:TA}{name:Str}{apos cpos:Pos}{T id:String}{r:V->List V->Hp->VK->Prop}
theorem cD1(K:PySem.W.Frag)(hK:X.K=K)(pa:PlainAttrs T)(slot:Slot T name id)(hty:typeOf (.builtin id)=pure (.type "method_descriptor"))(hm:MtR X id r)(ho:PE X o to)
  (hbase:attributeBase o name X.env (eval o X.env)=eval o X.env:=by rfl) (hline:(apos.endLine==cpos.line)=true:=by rfl):PE X (.Call (.Attribute o name apos) [] [] cpos) (dD2 K T r to):=by rw[← hK];exact cQ3 pa slot hty hm ho hbase hline
theorem iM(K:PySem.W.Frag)(hK:X.K=K)(pa:PlainAttrs T)(slot:Slot T name id)(hty:typeOf (.builtin id)=pure (.type "method_descriptor"))(hm:MtR X id r)(ho:PE X o to)(ha:PA X (e::es) t)
  (hbase:attributeBase o name X.env (eval o X.env)=eval o X.env:=by rfl)
  (hfew:((backTo cpos (starEach (e::es) X.env)).all (fun x=>!x.1)&&(backToKw cpos (keywordEach [] X.env)).all (fun x=>x.1.isSome)&&decide ((e::es).length+([]:List Keyword).length+(if([]:List Keyword).isEmpty then 0 else 1) < 30))=true:=by rfl)
  (hline:(apos.endLine==cpos.line)=true:=by rfl) (hs:starEach (e::es) X.env=(false,eval e X.env)::starEach es X.env:=by rfl) (hplain:(backTo cpos (starEach es X.env)).any (·.1)=false:=by rfl) :
  PE X (.Call (.Attribute o name apos) (e::es) [] cpos) (tBM K T r to t):=by rw[← hK];exact dD3 pa slot hty hm ho ha hbase hfew hline hs hplain
end
theorem bW3{i j:Nat}{ta:TA}{D:Ends}{σ:St}{H:Hp}:dC1 i j ta D σ H=ta σ H fun vs H1=>∃ v w,vs=[v,w]/\D.nx ((σ.set i (some v)).set j (some w)) H1:=rfl
end L2
namespace Mr
open PySem L2
end Mr
namespace L2
open PySem
section
variable{H:Hp}{Q:VK}{p q:Addr}{xs:List V}
end
end L2
namespace L2
end L2
namespace Mr
open PySem L2
open PyProof.Rows
section
variable{p q f l sp:Addr}{t:Tr}{v:V}{es ls:List V}{zs:List Str}{H0 H H':Hp}{fs:List V}
end
end Mr
namespace L2
open PySem
section
variable{M:Model}{A:Around}{E:Value->Shared->Prop}{s:Shared}
end
open PySem.Spec PyProof.Rows
section
variable{P:Program}{w:World}{H:Hp}{h:Heap}{e:Addr}{C:Value}{d:Option Addr}{tb:Value}
end
section
variable{X:Cx}{pins:List (Addr×Obj)}{σ:St}{H:Hp}{s:Shared}
end
section
variable{P:Program}{w:World}{K:PySem.W.Frag}{mg:Str->Option Value}{base:Heap}{N:List Str}{qual:Str}{scope:Scope}{f:Addr}{cd:Value}{A:Around}{outer:List Env}{s:Shared}{H:Hp}{E:XK}
end
end L2
namespace PySem
section
variable{prog:Program}{w:World}{E:Value->Shared->Prop}{A:Around}{os:OsState}{h:Heap}{t:Nat}{g:Array GenState}{d:Drawn}{gF:List Value}{fI:Addr}{oI:Obj}{mN:Str->Option Value}
 {nm q:Str} {B newId initId:String} {C N:Addr} {bs bm bmB sub:List Value} {hdct ab:Bool} {sn:List Str} {col:Option Bool} {dd:Option Addr} {k0 k1 k2 k3 k5:Option Value}
end
end PySem
namespace L2
open PySem PySem.Spec PyProof.Rows
section
variable{P:Program}{w:World}{H:Hp}{h:Heap}{a:Addr}{o:HO}
end
section
variable{X:Cx}{pins:List (Addr×Obj)}{σ:St}{H:Hp}{s:Shared}
end
section
variable{X:Cx}{CX:CXT}{k:Nat}{f C:Addr}{fd:FuncData}{ps:List Str}{sp:Sp}{E:XK}{x:Str}{p pos:Pos}{e:Expr}{es:List Expr}{t:TA}{B newId initId:String}{bmB:List Value}
end
end L2
namespace L2
open PySem
section
variable{M:Model}{A:Around}{E:Value->Shared->Prop}{env:Env}
variable{nm q:Str}{C N:Addr}{bs bm:List Value}{hdct:Bool}{sn:List Str}{sub:List Value}{ab:Bool}{col:Option Bool}{dd:Option Addr}{k0 k1 k2 k3 k5:Option Value}{newId:String}
end
open PyProof.Rows
section
variable{prog:Program}{w:World}{A:Around}{E:Value->Shared->Prop}{h:Heap}{g:Array GenState}{d:Drawn}{t:Nat}{os:OsState}
variable{nm q:Str}{C N:Addr}{bs bm bmB:List Value}{hdct:Bool}{sn:List Str}{sub:List Value}{ab:Bool}{col:Option Bool}{dd:Option Addr}{k0 k1 k2 k3 k5:Option Value}{B newId initId:String}
end
open PySem.W PySem.Spec PySem.Builtin PySem.Builtin.ObjectAttr
section
variable{prog:Program}{w:World}{A:Around}{E:Value->Shared->Prop}{s:Shared}{K:Frag}{x C:Addr}{ox:Obj}{name:Str}{v:Value}{cd:ClassData}{bmB:List Value}{B:String}{Q:Unit->Shared->Prop}{R:Result->Shared->Prop}
end
end L2
namespace L2
open PySem PySem.W PySem.Spec PyProof.Rows
section
variable{prog:Program}{w:World}{A:Around}{E:Value->Shared->Prop}{s:Shared}{K:Frag}{x C:Addr}{ox:Obj}{od:Option Obj}{name:Str}{expr:Bool}{v:Value}{Q:Value->Shared->Prop}{B:String}
end
section
variable{M:Model}{A:Around}{E:Value->Shared->Prop}{s:Shared}
variable{K:Frag}{e C D:Addr}{oe:Obj}{Q:Bool->Shared->Prop}
end
section
variable{prog:Program}{w:World}{A:Around}{E:Value->Shared->Prop}{s:Shared}{K:Frag}{x C:Addr}{ox:Obj}{od:Option Obj}{B:String}
end
end L2
namespace L2
open PySem PySem.Spec PyProof.Rows
section
variable{X:Cx}{o e value:Expr}{to te tv:TE}{f:Str}{pos pos' apos:Pos}
end
section
variable{P:Program}{w:World}{K:PySem.W.Frag}{mg:Str->Option Value}{base:Heap}{N:List Str}{qual:Str}{scope:Scope}{f:Addr}{cd:Value}{A:Around}{outer:List Env}{s:Shared}{H:Hp}{E:XK}{x:Expr}{te:TE}{pos:Pos}
end
section
variable{X:Cx}{C:Addr}{x:Str}{p pos:Pos}{e:Expr}{es:List Expr}{t:TA}
end
section
variable{X:Cx}{R:Str}{CR:Addr}{rp apos pos:Pos}{a:Expr}{as:List Expr}{t:TA}
end
section
variable{X:Cx}{e:Expr}{te:TE}{z1:Str}{j:Nat}{p p' pos:Pos}
end
section
variable{X:Cx}{pins pins':List (Addr×Obj)}{σ:St}{H:Hp}{s:Shared}{E:Value->Shared->Prop}{e:Value}
end
section
variable{X:Cx}{CX:CXT}{k:Nat}{f:Addr}{fd:FuncData}{ps:List Str}{sp:Sp}{E:St->XK}{x:Str}{p pos:Pos}{e:Expr}{es:List Expr}{t:TA}{pins0:List (Addr×Obj)}
end
section
variable{X:Cx}{pins:List (Addr×Obj)}{σ:St}{H:Hp}{s:Shared}{T:Addr}{oT:Obj}
end
abbrev TH:=Addr->Addr->Option Addr->Addr->TS
section
variable{X:Cx}{t:Expr}{tt:TE}{n:Str}{i:Nat}{b0:Stmt}{body:List Stmt}{ts:TS}{pos:Pos}{gF:List ExceptHandler}{th:TH}
end
section
variable{κ:Type}[DecidableEq κ]
end
section
variable{P:Program}{w:World}{H:Hp}{h:Heap}{a:Addr}
end
section
variable{X:Cx}{pins:List (Addr×Obj)}{σ:St}{H:Hp}{s:Shared}{a:Addr}{y v:V}{u r:Value}{o:Option V}{A:Around}{E:Value->Shared->Prop}
end
section
variable{X:Cx}{pins:List (Addr×Obj)}{σ:St}{H:Hp}{s:Shared}{a:Addr}{kvs:List (Key×V)}{k:Key}{u:Value}{A:Around}{E:Value->Shared->Prop}
end
section
variable{X:Cx}{o i e value:Expr}{pos pos' tpos:Pos}{td ty tv:TE}
end
section
variable{X:Cx}{pos:Pos}
end
section
variable{X:Cx}{pins:List (Addr×Obj)}{σ:St}{H:Hp}{s:Shared}{a:Addr}{y d:V}{u r:Value}{o:Option V}{A:Around}{E:Value->Shared->Prop}
end
section
variable{X:Cx}{o e f:Expr}{apos cpos:Pos}{td ty tx:TE}
end
section
variable{X:Cx}{pins:List (Addr×Obj)}{σ:St}{H:Hp}{s:Shared}{a:Addr}{kvs:List (Key×V)}{A:Around}{E:Value->Shared->Prop}
end
section
variable{X:Cx}{pins:List (Addr×Obj)}{σ:St}{H:Hp}{s:Shared}{a:Addr}{y:V}{u:Value}{A:Around}{E:Value->Shared->Prop}
end
section
variable{X:Cx}
end
section
variable{K:PySem.W.Frag}{t:TA}{te to tv:TE}{f:Str}{σ:St}{H:Hp}{Q:VK}{D:Ends}{sp:Sp}{C:Addr}{E:XK}{Ex:St->XK}{tb:(St->XK)->TS}{th:TH}{i:Nat}{ts:TS}
end
end L2
namespace Mr
open PySem L2 PyProof.Rows
end Mr
namespace Mr
open PySem L2
section
variable{K:PySem.W.Frag}{H:Hp}{C t D0 D1 D2 D3:Addr}{b0 b1 b2 b3:Bool}
end
end Mr
namespace L2
open PySem PySem.Spec PyProof.Rows
theorem aZ8:∀ {xs:List V} {us:List Value},xs.length=us.length->(∀ (j:Nat) (x:V) (y:Value),xs[j]? = some x->us[j]? = some y->eO x y)->cE xs us
 | [],[],_,_=>.nil
 | [],_::_,h,_=>by simp at h
 | _::_,[],h,_=>by simp at h
 | x::xs,u::us,h,k=>.cons (k 0 x u rfl rfl) (aZ8 (by simpa using h) fun j a b ha hb=>k (j+1) a b (by simpa using ha) (by simpa using hb))
section
variable{X:Cx}
def aB6:List V->Hp->VK->Prop:=fun vs H Q=>∃ n:Int,vs=[.int n]/\0<=n/\n<=1000/\∀ r,H r=none->Q (.ref r) (upd H r (.lst ((List.range n.toNat).map fun(i:Nat)=>V.int (i:Int))))
theorem sT(hc:X.calm=true):∀ pins s σ H vs us Q,Inv X pins σ H s->cE vs us->aB6 vs H Q ->
  wpAny (model X.prog X.w) X.A (call (.type "range") us) (fun u s1=>wpAny (model X.prog X.w) X.A (call (.type "list") [u]) (EP X pins σ Q) X.xe s1) X.xe s:=by
 intro pins s σ H vs us Q I rv h
 obtain⟨n,rfl,h0,h1,q⟩:=h
 obtain⟨u,rfl,ru⟩:=rv.one
 obtain⟨t,rfl⟩:=ru
 refine call_range_1 ?_
 have hsz:Builtin.Range.rangeSize 0 n 1=((n.toNat:Nat):Int):=by rw[rangeSize_one];split<;>omega
 refine call_list_range (s:={s with heap:=s.heap.push {cls:=.type "range",data:=.fields #[.int 0 s.toks,.int n t,.int 1 (s.toks+1)]},toks:=s.toks+1+1}) (I.ok.hd hc) (IsRange.new ..) (small_one (by omega) (by omega) (by omega) (by omega)) hsz (by omega) fun h' tk acc c hk hS hacc=>?_
 have hpz:(s.heap.push {cls:=.type "range",data:=.fields #[.int 0 s.toks,.int n t,.int 1 (s.toks+1)]}).objs.size=s.heap.objs.size+1:=Heap.size_push ..
 have hv:cE ((List.range n.toNat).map fun(i:Nat)=>V.int (i:Int)) acc.toList:=by
  obtain⟨hl,hat⟩:=hacc
  refine aZ8 (by rw[List.length_map,List.length_range,Array.length_toList,hl]) fun j x y hx hy=>?_
  rw[Array.getElem?_toList]at hy
  obtain⟨t',rfl⟩:=hat j y hy
  rw[List.getElem?_map]at hx
  obtain⟨i,hi,rfl⟩:=Option.map_eq_some_iff.mp hx
  obtain⟨_,e⟩:=List.getElem?_eq_some_iff.mp hi
  rw[List.getElem_range]at e
  subst e
  refine⟨t',?_⟩
  simp
 refine⟨.ref (s.heap.objs.size+1),upd H (s.heap.objs.size+1) _,?_,by show Value.ref _=_;rw[hpz],q _ (I.hok.fresh (Nat.le_succ _))⟩
 refine I.laid (t':=tk) (fun b o q'=>hk b o (Heap.get?_push_of_some _ q')) (Nat.le_succ _) ⟨by rw[List.length_map,List.length_range];exact Nat.le_trans (by omega:n.toNat<=1000) (by decide),acc.toList,c,hv,?_⟩
 have h3:h'.get? (s.heap.objs.size+1)=some (lX acc c):=by rw[← hpz];exact hS
 rw[h3,Array.toArray_toList]
end
section
variable{t tk tv td ty tx:TE}{r:List (TE×TE)}{σ:St}{H:Hp}{Q:VK}{R:List (V×V)->Hp->Prop}
end
end L2
namespace Mr
open PySem L2 PyProof.Rows
theorem rJ{m:Nat}{sep:Str}(hs:∀ c∈sep.cps.toList,c < m):∀ zs:List Str,(∀ z∈zs,∀ c∈z.cps.toList,c < m)->∀ c∈(Str.join sep zs).cps.toList,c < m
 | [],_=>fun c hc=>by simp[Str.join,Str.empty]at hc
 | [x],h=>fun c hc=>h x List.mem_cons_self c hc
 | x::y::r,h=>fun c hc=>by
   have ih:=rJ hs (y::r) fun z hz=>h z (List.mem_cons_of_mem _ hz)
   have e:(Str.join sep (x::y::r)).cps.toList=x.cps.toList++sep.cps.toList++(Str.join sep (y::r)).cps.toList:=by
    show(x++sep++Str.join sep (y::r)).cps.toList=_
    rw[Str.cps_append,Str.cps_append,Array.toList_append,Array.toList_append]
   rw[e]at hc
   rcases List.mem_append.mp hc with hc | hc
   ·rcases List.mem_append.mp hc with hc | hc
    ·exact h x List.mem_cons_self c hc
    ·exact hs c hc
   ·exact ih c hc
theorem yG{m:Nat}{sep:Str}(hs:∀ c∈sep.cps.toList,c < m)(zs:List Str)(h:∀ z∈zs,∀ c∈z.cps.toList,c < m):∀ c∈(PySem.Txt.join sep zs).cps.toList,c < m:=by
 show ∀ c∈(PySem.Builtin.Str.glued sep zs).cps.toList,c < m
 rw[StrLaws.glued_eq_join]
 exact rJ hs zs h
theorem cD2:∀ c∈(Str.ofString "abcdefghijklmnopqrstuvwxyz").cps.toList,c < 128:=by decide
end Mr
namespace Dv
open PySem L2
inductive D where
 | non | bl (b:Bool) | int (i:Int) | str (x:Str) | tup (l:List D) | lst (l:List D) | dic (ks vs:List D)
noncomputable instance:DecidableEq D:=fun _ _=>Classical.propDecidable _
instance:Inhabited D:=⟨.non⟩
def dH5:Key->D
 | .inl i=>.int i
 | .inr x=>.str x
def cS8:HO->List D->List V->Prop
 | .dK kvs,ks,ws=>ks=kvs.map (fun kv=>dH5 kv.1)/\ws=kvs.map (·.2)
 | .dT kvs,ks,ws=>ks=kvs.map (fun kv=>D.tup (kv.1.map dH5))/\ws=kvs.map (·.2)
 | _,_,_=>False
mutual
inductive Rp(H:Hp):D->V->Prop
 | non:Rp H .non .non
 | bl (b:Bool):Rp H (.bl b) (.bl b)
 | int (i:Int):Rp H (.int i) (.int i)
 | str (x:Str):Rp H (.str x) (.str x)
 | tup {l:List D} {p:Addr} {xs:List V}:H p=some (.tup xs)->Rps H l xs->Rp H (.tup l) (.ref p)
 | lst {l:List D} {p:Addr} {xs:List V} {o:Obj}:H p=some (.frz o (.lst xs))->Rps H l xs->Rp H (.lst l) (.ref p)
 | dic {ks vs:List D} {p:Addr} {o:Obj} {u:HO} {ws:List V}:H p=some (.frz o u)->cS8 u ks ws->Rps H vs ws->Rp H (.dic ks vs) (.ref p)
inductive Rps(H:Hp):List D->List V->Prop
 | nil:Rps H [] []
 | cons {d:D} {r:List D} {x:V} {xs:List V}:Rp H d x->Rps H r xs->Rps H (d::r) (x::xs)
end
structure Ext(H H':Hp):Prop where
 tup:∀ p xs,H p=some (.tup xs)->H' p=some (.tup xs)
 frz:∀ p o u,H p=some (.frz o u)->H' p=some (.frz o u)
theorem Ext.same{H H':Hp}(h:xS H H'):Ext H H':=⟨fun p xs e=>h p _ e,fun p o u e=>h p _ e⟩
mutual
theorem Rp.mono{H H':Hp}(he:Ext H H'):∀ {d:D} {x:V},Rp H d x->Rp H' d x
 | _,_,.non=>.non
 | _,_,.bl b=>.bl b
 | _,_,.int i=>.int i
 | _,_,.str x=>.str x
 | _,_,.tup h r=>.tup (he.tup _ _ h) (Rps.mono he r)
 | _,_,.lst h r=>.lst (he.frz _ _ _ h) (Rps.mono he r)
 | _,_,.dic h k r=>.dic (he.frz _ _ _ h) k (Rps.mono he r)
theorem Rps.mono{H H':Hp}(he:Ext H H'):∀ {l:List D} {xs:List V},Rps H l xs->Rps H' l xs
 | _,_,.nil=>.nil
 | _,_,.cons a r=>.cons (Rp.mono he a) (Rps.mono he r)
end
section
variable{H:Hp}
theorem Rps.length:∀ {l:List D} {xs:List V},Rps H l xs->l.length=xs.length
 | _,_,.nil=>rfl
 | _,_,.cons _ r=>by simp[Rps.length r]
theorem Rps.get:∀ {l:List D} {xs:List V} {i:Nat} {d:D},Rps H l xs->l[i]? = some d->∃ x,xs[i]? = some x/\Rp H d x
 | _,_,_,_,.nil,h=>by simp at h
 | _,_,0,_,.cons a r,h=>by simp at h;subst h;exact⟨_,rfl,a⟩
 | _,_,i+1,_,.cons a r,h=>by
   obtain⟨x,e,q⟩:=Rps.get (i:=i) r (by simpa using h)
   exact⟨x,by simpa using e,q⟩
theorem Rps.append:∀ {l m:List D} {xs ys:List V},Rps H l xs->Rps H m ys->Rps H (l++m) (xs++ys)
 | _,_,_,_,.nil,h=>h
 | _,_,_,_,.cons a r,h=>.cons a (Rps.append r h)
theorem Rps.take:∀ {l:List D} {xs:List V} (n:Nat),Rps H l xs->Rps H (l.take n) (xs.take n)
 | _,_,0,_=>.nil
 | _,_,_+1,.nil=>.nil
 | _,_,n+1,.cons a r=>.cons a (Rps.take n r)
theorem Rps.drop:∀ {l:List D} {xs:List V} (n:Nat),Rps H l xs->Rps H (l.drop n) (xs.drop n)
 | _,_,0,r=>r
 | _,_,_+1,.nil=>.nil
 | _,_,n+1,.cons _ r=>Rps.drop n r
theorem Rps.set:∀ {l:List D} {xs:List V} {d:D} {x:V} (i:Nat),Rps H l xs->Rp H d x->Rps H (l.set i d) (xs.set i x)
 | _,_,_,_,_,.nil,_=>.nil
 | _,_,_,_,0,.cons _ r,q=>.cons q r
 | _,_,_,_,i+1,.cons a r,q=>.cons a (Rps.set i r q)
theorem Rps.eraseIdx:∀ {l:List D} {xs:List V} (i:Nat),Rps H l xs->Rps H (l.eraseIdx i) (xs.eraseIdx i)
 | _,_,_,.nil=>.nil
 | _,_,0,.cons _ r=>r
 | _,_,i+1,.cons a r=>.cons a (Rps.eraseIdx i r)
theorem gG:∀ ns:List Int,Rps H (ns.map D.int) (ns.map V.int)
 | []=>.nil
 | n::r=>.cons (.int n) (gG r)
theorem Rps.ints_inv:∀ {ns:List Int} {xs:List V},Rps H (ns.map D.int) xs->xs=ns.map V.int
 | [],_,h=>by cases h;rfl
 | n::r,_,h=>by
   rw[List.map_cons]at h
   cases h with
   | cons a t=>cases a;rw[Rps.ints_inv t];rfl
theorem Rps.strs_inv:∀ {ns:List Str} {xs:List V},Rps H (ns.map D.str) xs->xs=ns.map V.str
 | [],_,h=>by cases h;rfl
 | n::r,_,h=>by
   rw[List.map_cons]at h
   cases h with
   | cons a t=>cases a;rw[Rps.strs_inv t];rfl
theorem Rps.bls_inv:∀ {ns:List Bool} {xs:List V},Rps H (ns.map D.bl) xs->xs=ns.map V.bl
 | [],_,h=>by cases h;rfl
 | n::r,_,h=>by
   rw[List.map_cons]at h
   cases h with
   | cons a t=>cases a;rw[Rps.bls_inv t];rfl
end
inductive Md where
 | val | own | par | lent
 deriving DecidableEq
def Md.mt:Md->Bool
 | .own=>true
 | .par=>true
 | _=>false
structure Sl where
 m:Md
 d:D
abbrev Sg:=List (Option Sl)
def dX(H:Hp)(d:D)(p:Addr):Prop:=match d with
 | .lst l=>∃ xs,H p=some (.lst xs)/\Rps H l xs
 | .dic ks vs=>∃ u ws,H p=some u/\cS8 u ks ws/\Rps H vs ws
 | _=>False
theorem dX.mono{H H':Hp}{d:D}{p:Addr}(h:dX H d p)(e:Ext H H')(hp:∀ o,H p=some o->H' p=some o):dX H' d p:=by
 unfold dX at h ⊢
 split at h
 ·obtain⟨xs,h1,h2⟩:=h;exact⟨xs,hp _ h1,h2.mono e⟩
 ·obtain⟨u,ws,h1,h2,h3⟩:=h;exact⟨u,ws,hp _ h1,h2,h3.mono e⟩
 ·exact h.elim
theorem dX.obj{H:Hp}{d:D}{p:Addr}(h:dX H d p):∃ o,H p=some o/\(∀ xs,o≠.tup xs)/\∀ ob u,o≠.frz ob u:=by
 unfold dX at h
 split at h
 ·obtain⟨xs,h1,h2⟩:=h;exact⟨_,h1,⟨fun _ z=>(by cases z),fun _ _ z=>(by cases z)⟩⟩
 ·obtain⟨u,ws,h1,h2,h3⟩:=h
  refine⟨_,h1,fun _ z=>?_,fun _ _ z=>?_⟩<;>(subst z;exact h2)
 ·exact h.elim
def bM5(H:Hp)(s:Sl)(v:V):Prop:=match s.m with
 | .val=>Rp H s.d v
 | _=>∃ p,v=.ref p/\dX H s.d p
theorem cS{H:Hp}{s:Sl}{v:V}(h:s.m≠.val):bM5 H s v↔∃ p,v=.ref p/\dX H s.d p:=by
 obtain⟨m,d⟩:=s
 cases m with
 | val=>exact absurd rfl h
 | own=>exact Iff.rfl
 | par=>exact Iff.rfl
 | lent=>exact Iff.rfl
def Vw(H:Hp)(d:D)(v:V):Prop:=Rp H d v\/∃ p,v=.ref p/\dX H d p
theorem bM5.vw{H:Hp}{s:Sl}{v:V}(h:bM5 H s v):Vw H s.d v:=by
 by_cases e:s.m=.val
 ·obtain⟨m,d⟩:=s;cases e;exact .inl h
 ·exact .inr ((cS e).mp h)
inductive Vws(H:Hp):List D->List V->Prop
 | nil:Vws H [] []
 | cons {d:D} {r:List D} {x:V} {xs:List V}:Vw H d x->Vws H r xs->Vws H (d::r) (x::xs)
def nO(σ:Sg)(σV:St)(a:Addr):Prop:=∃ (i:Nat) (s:Sl),σ[i]? = some (some s)/\s.m.mt=true/\σV[i]? = some (some (.ref a))
def bJ5(σ:Sg)(σV:St)(a:Addr):Prop:=∃ (i:Nat) (s:Sl),σ[i]? = some (some s)/\s.m≠.val/\σV[i]? = some (some (.ref a))
theorem nO.nv{σ:Sg}{σV:St}{a:Addr}(h:nO σ σV a):bJ5 σ σV a:=by
 obtain⟨i,s,h1,h2,h3⟩:=h
 exact⟨i,s,h1,fun z=>(by rw[z]at h2;cases h2),h3⟩
structure Gm where
 H₀:Hp
 pr:Addr->Prop
structure StOk(Γ:Gm)(H:Hp)(σ:Sg)(σV:St):Prop where
 rel:∀ (i:Nat) s,σ[i]? = some (some s)->∃ v,σV[i]? = some (some v)/\bM5 H s v
 dis:∀ (i j:Nat) s t p,i≠j->σ[i]? = some (some s)->σ[j]? = some (some t)->s.m.mt=true->t.m≠.val->σV[i]? = some (some (.ref p))->σV[j]? = some (some (.ref p))->False
 own:∀ (i:Nat) s p,σ[i]? = some (some s)->s.m=.own->σV[i]? = some (some (.ref p))->Γ.H₀ p=none
 par:∀ (i:Nat) s p,σ[i]? = some (some s)->s.m=.par->σV[i]? = some (some (.ref p))->Γ.pr p
 keep:∀ a o,Γ.H₀ a=some o->¬ Γ.pr a->H a=some o
 dom:∀ a,H a=none->Γ.H₀ a=none
 len:σ.length=σV.length
structure Step(σ:Sg)(σV:St)(H:Hp)(σ':Sg)(σV':St)(H':Hp):Prop where
 fr:∀ a o,H a=some o->¬ nO σ σV a->H' a=some o
 dom:∀ a,H' a=none->H a=none
 mu:∀ a,nO σ' σV' a->nO σ σV a\/H a=none
 nv:∀ a,bJ5 σ' σV' a->bJ5 σ σV a\/H a=none
 kp:∀ (i:Nat) s,σ[i]? = some (some s)->∃ s',σ'[i]? = some (some s')
 fix:∀ (i:Nat) s,σ[i]? = some (some s)->(s.m=.par\/s.m=.lent)->∃ s',σ'[i]? = some (some s')/\s'.m=s.m/\(s.m=.lent->s'.d=s.d)/\σV'[i]? = σV[i]?
 lt:∀ (i:Nat) s',σ'[i]? = some (some s')->s'.m=.lent->∃ s,σ[i]? = some (some s)/\s.m=.lent
section
variable{σ σ1 σ2:Sg}{σV σV1 σV2:St}{H H1 H2:Hp}{Γ:Gm}
theorem Step.refl:Step σ σV H σ σV H:=⟨fun _ _ h _=>h,fun _ h=>h,fun _ h=>.inl h,fun _ h=>.inl h,fun i s h=>⟨s,h⟩,fun i s h _=>⟨s,h,rfl,fun _=>rfl,rfl⟩,fun i s h m=>⟨s,h,m⟩⟩
theorem Step.trans(a:Step σ σV H σ1 σV1 H1)(b:Step σ1 σV1 H1 σ2 σV2 H2):Step σ σV H σ2 σV2 H2 where
 fr:=fun c o h n=>b.fr c o (a.fr c o h n) fun z=>by
  rcases a.mu c z with q | q
  ·exact n q
  ·rw[h]at q;cases q
 dom:=fun c h=>a.dom c (b.dom c h)
 mu:=fun c h=>by
  rcases b.mu c h with q | q
  ·exact a.mu c q
  ·exact .inr (a.dom c q)
 nv:=fun c h=>by
  rcases b.nv c h with q | q
  ·exact a.nv c q
  ·exact .inr (a.dom c q)
 kp:=fun i s h=>by
  obtain⟨s1,h1⟩:=a.kp i s h
  exact b.kp i s1 h1
 fix:=fun i s h hm=>by
  obtain⟨s1,h1,m1,d1,v1⟩:=a.fix i s h hm
  obtain⟨s2,h2,m2,d2,v2⟩:=b.fix i s1 h1 (by rw[m1];exact hm)
  exact⟨s2,h2,m2.trans m1,fun z=>(d2 (m1.trans z)).trans (d1 z),v2.trans v1⟩
 lt:=fun i s h m=>by
  obtain⟨s1,h1,m1⟩:=b.lt i s h m
  exact a.lt i s1 h1 m1
theorem StOk.mutObj(ok:StOk Γ H σ σV){a:Addr}(h:bJ5 σ σV a):∃ o,H a=some o/\(∀ xs,o≠.tup xs)/\∀ ob u,o≠.frz ob u:=by
 obtain⟨i,s,h1,h2,h3⟩:=h
 obtain⟨v,e,r⟩:=ok.rel i s h1
 rw[h3]at e;cases e
 obtain⟨p,e,q⟩:=(cS h2).mp r
 cases e
 exact q.obj
theorem Step.ext(st:Step σ σV H σ1 σV1 H1)(ok:StOk Γ H σ σV):Ext H H1:=by
 refine⟨fun p xs h=>st.fr p _ h fun z=>?_,fun p o u h=>st.fr p _ h fun z=>?_⟩
 ·obtain⟨o,e,n,_⟩:=ok.mutObj z.nv;rw[h]at e;cases e;exact n _ rfl
 ·obtain⟨o,e,_,n⟩:=ok.mutObj z.nv;rw[h]at e;cases e;exact n _ _ rfl
theorem bM5.mono{s:Sl}{v:V}(r:bM5 H s v)(e:Ext H H1)(hp:∀ p o,v=.ref p->s.m≠.val->H p=some o->H1 p=some o):bM5 H1 s v:=by
 by_cases q:s.m=.val
 ·obtain⟨m,d⟩:=s;cases q;exact Rp.mono e r
 ·obtain⟨p,e1,r1⟩:=(cS q).mp r
  exact(cS q).mpr ⟨p,e1,r1.mono e fun o=>hp p o e1 q⟩
theorem StOk.same(ok:StOk Γ H σ σV)(h:xS H H1):StOk Γ H1 σ σV:=
 ⟨fun i s e=>by
  obtain⟨v,e1,r⟩:=ok.rel i s e
  exact⟨v,e1,r.mono (.same h) fun p o _ _ q=>h p o q⟩,ok.dis,ok.own,ok.par,fun a o e n=>h a o (ok.keep a o e n),fun a e=>ok.dom a (by
  cases q:H a with
  | none=>rfl
  | some o=>rw[h a o q]at e;cases e),ok.len⟩
theorem aZ9(h:xS H H1){a:Addr}(e:H1 a=none):H a=none:=by
 cases q:H a with
 | none=>rfl
 | some o=>rw[h a o q]at e;cases e
theorem Step.same(h:xS H H1):Step σ σV H σ σV H1:=⟨fun a o e _=>h a o e,fun a e=>aZ9 h e,fun _ h=>.inl h,fun _ h=>.inl h,fun i s h=>⟨s,h⟩,fun i s h _=>⟨s,h,rfl,fun _=>rfl,rfl⟩,fun i s h m=>⟨s,h,m⟩⟩
end
inductive Res where
 | val (d:D) | own (d:D) | slot (i:Nat)
def jA(Γ:Gm)(H:Hp)(σ:Sg)(σV:St)(r:Res)(v:V):Prop:=match r with
 | .val d=>Rp H d v
 | .own d=>∃ p,v=.ref p/\dX H d p/\¬ bJ5 σ σV p/\Γ.H₀ p=none
 | .slot i=>σV[i]? = some (some v)/\∃ s,σ[i]? = some (some s)
def rd(σ:Sg):Res->Option D
 | .val d=>some d
 | .own d=>some d
 | .slot i=>match σ[i]? with
   | some (some s)=>some s.d
   | _=>none
section
variable{σ σ1:Sg}{σV σV1:St}{H H1:Hp}{Γ:Gm}{r:Res}{v:V}{d:D}
theorem jA.vw(ok:StOk Γ H σ σV)(h:jA Γ H σ σV r v)(e:rd σ r=some d):Vw H d v:=by
 cases r with
 | val d'=>cases e;exact .inl h
 | own d'=>cases e;obtain⟨p,e1,e2,_⟩:=h;exact .inr ⟨p,e1,e2⟩
 | slot i=>
   obtain⟨h1,s,h2⟩:=h
   have e':some s.d=some d:=by
    have:rd σ (.slot i)=some s.d:=by show(match σ[i]? with | some (some s)=>some s.d | _=>none)=_;rw[h2]
    rw[← this];exact e
   cases e'
   obtain⟨w,e1,e2⟩:=ok.rel i s h2
   rw[h1]at e1;cases e1
   exact e2.vw
theorem jA.step(ok:StOk Γ H σ σV)(h:jA Γ H σ σV r v)(st:Step σ σV H σ1 σV H1):jA Γ H1 σ1 σV r v:=by
 cases r with
 | val d=>exact Rp.mono (st.ext ok) h
 | own d=>
   obtain⟨p,e1,e2,e3,e4⟩:=h
   obtain⟨o,ho,_⟩:=e2.obj
   refine⟨p,e1,e2.mono (st.ext ok) fun o h=>st.fr p o h fun z=>e3 z.nv,fun z=>?_,e4⟩
   rcases st.nv p z with q | q
   ·exact e3 q
   ·rw[ho]at q;cases q
 | slot i=>
   obtain⟨h1,s,h2⟩:=h
   exact⟨h1,st.kp i s h2⟩
end
abbrev DE:=Sg->Option (Res×Sg)
abbrev DT:=Sg->Option (Bool×Sg)
abbrev DA:=Sg->Option (List Res×Sg)
inductive ResOks(Γ:Gm)(H:Hp)(σ:Sg)(σV:St):List Res->List V->Prop
 | nil:ResOks Γ H σ σV [] []
 | cons {r:Res} {rs:List Res} {v:V} {vs:List V}:jA Γ H σ σV r v->ResOks Γ H σ σV rs vs->(∀ d p,r=.own d->v=.ref p->∀ (j:Nat) d',rs[j]? = some (.own d')->vs[j]? ≠ some (.ref p))->ResOks Γ H σ σV (r::rs) (v::vs)
def Frh(H:Hp)(r:Res)(v:V):Prop:=∀ d p,r=.own d->v=.ref p->H p=none
theorem gN{H:Hp}{d:D}{v:V}:Frh H (.val d) v:=fun _ _ e=>nomatch e
theorem Frh.back{H H1:Hp}{r:Res}{v:V}{σ σ1:Sg}{σV σV1:St}(f:Frh H1 r v)(st:Step σ σV H σ1 σV1 H1):Frh H r v:=fun d p e1 e2=>st.dom p (f d p e1 e2)
def dTE(Γ:Gm)(r:DE):TE:=fun σV H Q=>∃ σ,StOk Γ H σ σV/\∃ res σ',r σ=some (res,σ') /\
 ∀ v H',StOk Γ H' σ' σV->jA Γ H' σ' σV res v->Step σ σV H σ' σV H'->Frh H res v->Q v H'
theorem peW{X:Cx}{e:Expr}{t t':TE}(h:PE X e t)(w:∀ σ H Q,t' σ H Q->t σ H Q):PE X e t':=fun pins s σ H Q I q=>h pins s σ H Q I (w σ H Q q)
theorem ptW{X:Cx}{e:Expr}{t t':TT}(h:PT X e t)(w:∀ σ H Q,t' σ H Q->t σ H Q):PT X e t':=fun pins s σ H Q I q=>h pins s σ H Q I (w σ H Q q)
theorem paW{X:Cx}{e:List Expr}{t t':TA}(h:PA X e t)(w:∀ σ H Q,t' σ H Q->t σ H Q):PA X e t':=fun pos pins s σ H Q I q=>h pos pins s σ H Q I (w σ H Q q)
theorem psW{X:Cx}{e:Stmt}{t t':TS}(h:PS X e t)(w:∀ D σ H,t' D σ H->t D σ H):PS X e t':=fun pins s σ H D I q=>h pins s σ H D I (w D σ H q)
theorem cS9{X:Cx}{e:List Stmt}{t t':TS}(h:PSs X e t)(w:∀ D σ H,t' D σ H->t D σ H):PSs X e t':=fun pins s σ H D I q=>h pins s σ H D I (w D σ H q)
structure GE(X:Cx)(e:Expr)(r:DE):Prop where
 to:∀ Γ,PE X e (dTE Γ r)
def dTT(Γ:Gm)(r:DT):TT:=fun σV H Q=>∃ σ,StOk Γ H σ σV/\∃ b σ',r σ=some (b,σ')/\∀ H',StOk Γ H' σ' σV->Step σ σV H σ' σV H'->Q b H'
structure GT(X:Cx)(e:Expr)(r:DT):Prop where
 to:∀ Γ,PT X e (dTT Γ r)
def dL5(H:Hp)(rs:List Res)(vs:List V):Prop:=∀ (j:Nat) d p,rs[j]? = some (.own d)->vs[j]? = some (.ref p)->H p=none
def dTA(Γ:Gm)(r:DA):TA:=fun σV H Q=>∃ σ,StOk Γ H σ σV/\∃ rs σ',r σ=some (rs,σ')/\∀ vs H',StOk Γ H' σ' σV->ResOks Γ H' σ' σV rs vs->Step σ σV H σ' σV H'->dL5 H rs vs->Q vs H'
structure GA(X:Cx)(es:List Expr)(r:DA):Prop where
 to:∀ Γ,PA X es (dTA Γ r)
def aG(i:Nat):DE:=fun σ=>match σ[i]? with
 | some (some s)=>some (if s.m=.val then .val s.d else .slot i,σ)
 | _=>none
theorem aB{X:Cx}{e:Expr}{i:Nat}(h:PE X e (bK3 i)):GE X e (aG i):=.mk fun Γ=>peW h fun σV H Q ⟨σ,ok,res,σ',e,k⟩=>by
 unfold aG at e
 split at e
 ·rename_i s hs
  cases e
  obtain⟨v,hv,r⟩:=ok.rel i s hs
  refine⟨v,hv,k v H ok ?_ .refl (by split<;>exact fun _ _ e=>nomatch e)⟩
  by_cases hm:s.m=.val
  ·rw[if_pos hm];obtain⟨m,d⟩:=s;cases hm;exact r
  ·rw[if_neg hm];exact⟨hv,s,hs⟩
 ·cases e
def dC(d:D):DE:=fun σ=>some (.val d,σ)
theorem dD8{X:Cx}{e:Expr}{v:V}{d:D}(h:PE X e (tC v))(hr:∀ H,Rp H d v):GE X e (dC d):=.mk fun Γ=>peW h fun σV H Q ⟨σ,ok,res,σ',e,k⟩=>by
 cases e;exact k v H ok (hr H) .refl gN
theorem ge_int{X:Cx}{i:Int}{j pos}:GE X (.Constant (.int i) j pos) (dC (.int i)):=dD8 eM fun _=>.int i
theorem aR6{X:Cx}{i:Bool}{j pos}:GE X (.Constant (.bool i) j pos) (dC (.bl i)):=dD8 dB6 fun _=>.bl i
theorem bW4{X:Cx}{i:Str}{j pos}:GE X (.Constant (.str i) j pos) (dC (.str i)):=dD8 bT5 fun _=>.str i
def yH(H H':Hp)(r:Res)(v:V):Prop:=match r with
 | .val d=>Rp H' d v
 | .own d=>∃ p,v=.ref p/\H p=none/\dX H' d p
 | .slot _=>False
theorem yH.frh{H H':Hp}{r:Res}{v:V}(h:yH H H' r v):Frh H r v:=fun d p e1 e2=>by
 subst e1 e2
 obtain⟨q,e,h1,_⟩:=h
 cases e;exact h1
theorem yH.res{Γ:Gm}{H H':Hp}{σ:Sg}{σV:St}{r:Res}{v:V}(h:yH H H' r v)(ok:StOk Γ H σ σV):jA Γ H' σ σV r v:=by
 cases r with
 | val d=>exact h
 | own d=>
   obtain⟨p,e1,e2,e3⟩:=h
   refine⟨p,e1,e3,fun z=>?_,ok.dom p e2⟩
   obtain⟨o,e,_⟩:=ok.mutObj z
   rw[e2]at e;cases e
 | slot i=>exact h.elim
abbrev F1:=D->Option Res
abbrev F2:=D->D->Option Res
abbrev FN:=List D->Option Res
def cL1(rr:V->Hp->VK->Prop)(f:F1):Prop:=∀ H d x Q res,Vw H d x->f d=some res->(∀ v H',xS H H'->yH H H' res v->Q v H')->rr x H Q
def sU(rr:R2)(f:F2):Prop:=∀ H d1 d2 x y Q res,Vw H d1 x->Vw H d2 y->f d1 d2=some res->(∀ v H',xS H H'->yH H H' res v->Q v H')->rr x y H Q
def bJ6(rr:List V->Hp->VK->Prop)(f:FN):Prop:=∀ H ds vs Q res,Vws H ds vs->f ds=some res->(∀ v H',xS H H'->yH H H' res v->Q v H')->rr vs H Q
def bJ7(f:F1)(ra:DE):DE:=fun σ=>(ra σ).bind fun x=>(rd x.2 x.1).bind fun d=>(f d).bind fun r=>some (r,x.2)
def aU(f:F2)(ra rb:DE):DE:=fun σ=>(ra σ).bind fun x=>(rb x.2).bind fun y=>(rd y.2 x.1).bind fun d=>(rd y.2 y.1).bind fun e=>(f d e).bind fun r=>some (r,y.2)
theorem aD{α β:Type}{o:Option α}{f:α->Option β}{b:β}(h:o.bind f=some b):∃ a,o=some a/\f a=some b:=by
 cases o with
 | none=>cases h
 | some a=>exact⟨a,rfl,h⟩
theorem oB{Γ:Gm}{rr:R2}{f:F2}(hp:sU rr f){ra rb:DE}{σV:St}{H:Hp}{Q:VK}(h:dTE Γ (aU f ra rb) σV H Q):tOp rr (dTE Γ ra) (dTE Γ rb) σV H Q:=by
 obtain⟨σ,ok,res,σ',e,k⟩:=h
 obtain⟨⟨x,σ1⟩,e1,e⟩:=aD e
 obtain⟨⟨y,σ2⟩,e2,e⟩:=aD e
 obtain⟨d1,e3,e⟩:=aD e
 obtain⟨d2,e4,e⟩:=aD e
 obtain⟨r,e5,e⟩:=aD e
 cases e
 refine⟨σ,ok,x,σ1,e1,fun v1 H1 ok1 r1 st1 _=>⟨σ1,ok1,y,σ2,e2,fun v2 H2 ok2 r2 st2 _=>?_⟩⟩
 have r1':=r1.step ok1 st2
 refine hp H2 d1 d2 v1 v2 Q _ (r1'.vw ok2 e3) (r2.vw ok2 e4) e5 fun v H' sm nw=>?_
 exact k v H' (ok2.same sm) (nw.res ok2) ((st1.trans st2).trans (.same sm)) (nw.frh.back (st1.trans st2))
theorem aB7{Γ:Gm}{rr:V->Hp->VK->Prop}{f:F1}(hp:cL1 rr f){ra:DE}{σV:St}{H:Hp}{Q:VK}(h:dTE Γ (bJ7 f ra) σV H Q):tUn rr (dTE Γ ra) σV H Q:=by
 obtain⟨σ,ok,res,σ',e,k⟩:=h
 obtain⟨⟨x,σ1⟩,e1,e⟩:=aD e
 obtain⟨d1,e3,e⟩:=aD e
 obtain⟨r,e5,e⟩:=aD e
 cases e
 refine⟨σ,ok,x,σ1,e1,fun v1 H1 ok1 r1 st1 _=>?_⟩
 refine hp H1 d1 v1 Q _ (r1.vw ok1 e3) e5 fun v H' sm nw=>?_
 exact k v H' (ok1.same sm) (nw.res ok1) (st1.trans (.same sm)) (nw.frh.back st1)
section
variable{X:Cx}{a b:Expr}{ra rb:DE}{pos:Pos}
theorem aT{op:Operator}{rr:R2}{f:F2}(ho:OpR X (binaryOp op) rr)(hp:sU rr f)(ha:GE X a ra)(hb:GE X b rb):GE X (.BinOp a op b pos) (aU f ra rb):=
 .mk fun Γ=>peW (aQ2 ho (ha.to Γ) (hb.to Γ)) fun _ _ _=>oB hp
theorem dD9{op:UnaryOp}{rr:V->Hp->VK->Prop}{f:F1}(ho:UnR X (unaryOp op) rr)(hp:cL1 rr f)(ha:GE X a ra):GE X (.UnaryOp op a pos) (bJ7 f ra):=
 .mk fun Γ=>peW (dC3 ho (ha.to Γ)) fun _ _ _=>aB7 hp
theorem rK{op:CmpOp}{rr:R2}{f:F2}(ho:OpR X (compareOp op) rr)(hp:sU rr f)(ha:GE X a ra)(hb:GE X b rb)(hm:behindInMarks op b=false):GE X (.Compare a [op] [b] pos) (aU f ra rb):=
 .mk fun Γ=>peW (cA8 ho (ha.to Γ) (hb.to Γ) hm) fun _ _ _=>oB hp
def gH(r:DE):DT:=fun σ=>(r σ).bind fun x=>(rd x.2 x.1).bind fun d=>match d with
 | .bl b=>some (b,x.2)
 | _=>none
theorem aB8{r:DE}{σ σ':Sg}{b:Bool}(h:gH r σ=some (b,σ')):∃ x,r σ=some (x,σ')/\rd σ' x=some (.bl b):=by
 obtain⟨⟨x,σ1⟩,e1,e⟩:=aD h
 obtain⟨d,e2,e⟩:=aD e
 dsimp only at e e2
 split at e
 ·cases e;exact⟨x,e1,e2⟩
 ·cases e
theorem bA0{H:Hp}{b:Bool}{v:V}(h:Vw H (.bl b) v):v=.bl b:=by
 rcases h with h | ⟨p,_,h⟩
 ·cases h;rfl
 ·exact h.elim
theorem aB9{Γ:Gm}{r:DE}{σV:St}{H:Hp}{Q:Bool->Hp->Prop}(h:dTT Γ (gH r) σV H Q):dTE Γ r σV H (fun x H'=>∃ k,x=.bl k/\Q k H'):=by
 obtain⟨σ,ok,b,σ',e,k⟩:=h
 obtain⟨x,e1,e2⟩:=aB8 e
 refine⟨σ,ok,x,σ',e1,fun v H' ok' r' st _=>⟨b,bA0 (r'.vw ok' e2),k H' ok' st⟩⟩
theorem dZ{op:CmpOp}{rr:R2}{f:F2}(ho:OpR X (compareOp op) rr)(hp:sU rr f)(ha:GE X a ra)(hb:GE X b rb)(hm:behindInMarks op b=false):GT X (.Compare a [op] [b] pos) (gH (aU f ra rb)):=
 .mk fun Γ=>ptW (iE ho (ha.to Γ) (hb.to Γ) hm) fun σ H Q h=>oB hp (aB9 h)
theorem bW5{e:Expr}{r:DE}(h:GE X e r)(he:∀ whole,isTrue e X.env whole=(do let v ← whole;standAt e.pos;holding [v] (truthy v)):=by intro _;rfl):GT X e (gH r):=
 .mk fun Γ=>ptW (cN8 (h.to Γ) he) fun _ _ _ h=>aB9 h
def dE0:D->Option Bool
 | .non=>some false
 | .bl b=>some b
 | .int i=>some (i != 0)
 | .str x=>if x.length<=sizeLine then some ((x.length:Int) != 0)else none
 | .lst l=>some (!l.isEmpty)
 | .tup l=>some (!l.isEmpty)
 | _=>none
def cT0(r:DE):DT:=fun σ=>(r σ).bind fun x=>(rd x.2 x.1).bind fun d=>(dE0 d).bind fun b=>some (b,x.2)
end
theorem eG{H:Hp}{l:List D}{v:V}(h:Vw H (.tup l) v):∃ p xs,v=.ref p/\H p=some (.tup xs)/\Rps H l xs:=by
 rcases h with h | ⟨p,_,h⟩
 ·cases h with
  | tup h r=>exact⟨_,_,rfl,h,r⟩
 ·exact h.elim
theorem gJ{H:Hp}{l:List D}{v:V}(h:Vw H (.lst l) v):∃ p xs,v=.ref p/\eT H p=some (true,xs)/\Rps H l xs:=by
 rcases h with h | ⟨p,e,xs,h,r⟩
 ·cases h with
  | lst h r=>exact⟨_,_,rfl,bL5 h,r⟩
 ·exact⟨p,xs,e,oA h,r⟩
theorem cP{H:Hp}{i:Int}{v:V}(h:Vw H (.int i) v):v=.int i:=by
 rcases h with h | ⟨p,_,h⟩
 ·cases h;rfl
 ·exact h.elim
theorem iN{H:Hp}{i:Str}{v:V}(h:Vw H (.str i) v):v=.str i:=by
 rcases h with h | ⟨p,_,h⟩
 ·cases h;rfl
 ·exact h.elim
theorem bW6{H:Hp}{v:V}(h:Vw H .non v):v=.non:=by
 rcases h with h | ⟨p,_,h⟩
 ·cases h;rfl
 ·exact h.elim
def cL2:D->Option (Bool×List D)
 | .lst l=>some (true,l)
 | .tup l=>some (false,l)
 | _=>none
theorem cT1{H:Hp}{d:D}{v:V}{b:Bool}{l:List D}(h:Vw H d v)(e:cL2 d=some (b,l)):∃ p xs,v=.ref p/\eT H p=some (b,xs)/\Rps H l xs:=by
 cases d with
 | lst l'=>cases e;exact gJ h
 | tup l'=>cases e;obtain⟨p,xs,e1,e2,e3⟩:=eG h;exact⟨p,xs,e1,bU e2,e3⟩
 | _=>cases e
section
variable{X:Cx}{a b:Expr}{ra rb:DE}{pos:Pos}
theorem bM6(ha:GE X a ra)(he:∀ whole,isTrue a X.env whole=(do let v ← whole;standAt a.pos;holding [v] (truthy v))):GT X a (cT0 ra):=.mk fun Γ=>ptW (bK6 (ha.to Γ) he) fun σV H Q ⟨σ,ok,b,σ',e,k⟩=>by
 obtain⟨⟨x,σ1⟩,e1,e⟩:=aD e
 obtain⟨d,e2,e⟩:=aD e
 obtain⟨t,e3,e⟩:=aD e
 cases e
 refine⟨σ,ok,x,_,e1,fun v H' ok' r' st _=>⟨b,?_,k H' ok' st⟩⟩
 have vw:=r'.vw ok' e2
 cases d with
 | non=>cases e3;rw[bW6 vw];rfl
 | bl c=>cases e3;rw[bA0 vw];rfl
 | int i=>cases e3;rw[cP vw];rfl
 | str z=>
   rw[iN vw]
   have e3':(if z.length<=sizeLine then some ((z.length:Int) != 0)else none)=some b:=e3
   split at e3'
   ·rename_i hz;cases e3';exact⟨hz,rfl⟩
   ·cases e3'
 | lst l=>
   cases e3
   obtain⟨p,xs,rfl,q1,q2⟩:=gJ vw
   refine .inl ⟨xs,eU q1,?_⟩
   have:=q2.length
   cases l<;>cases xs<;>simp_all
 | tup l=>
   cases e3
   obtain⟨p,xs,rfl,q1,q2⟩:=eG vw
   refine .inr (.inl ⟨xs,cY (bU q1),?_⟩)
   have:=q2.length
   cases l<;>cases xs<;>simp_all
 | dic ks vs=>cases e3
variable{tA tB:DT}{gF:List Expr}
def cL3(t:DT):DT:=fun σ=>(t σ).bind fun x=>some (!x.1,x.2)
theorem bW7(ha:GT X a tA):GT X (.UnaryOp .Not a pos) (cL3 tA):=.mk fun Γ=>ptW (cN9 (ha.to Γ)) fun σV H Q ⟨σ,ok,c,σ',e,k⟩=>by
 obtain⟨⟨x,σ1⟩,e1,e⟩:=aD e
 cases e
 exact⟨σ,ok,x,_,e1,fun H1 ok1 st1=>k H1 ok1 st1⟩
def bA1(t u:DE):DE:=fun σ=>(gH t σ).bind fun x=>if x.1=true then u x.2 else some (.val (.bl false),x.2)
theorem bW8{op}{r:DE}(h:GE X a r):GE X (.BoolOp op [a] pos) r:=.mk fun Γ=>cO1 (h.to Γ)
theorem bW9(ha:GE X a ra)(hb:GE X (.BoolOp .And (b::gF) pos) rb):GE X (.BoolOp .And (a::b::gF) pos) (bA1 ra rb):=.mk fun Γ=>peW (cO2 (ha.to Γ) (hb.to Γ)) fun σV H Q ⟨σ,ok,c,σ',e,k⟩=>by
 obtain⟨⟨x,σ1⟩,e1,e⟩:=aD e
 obtain⟨y,e2,e3⟩:=aB8 e1
 refine⟨σ,ok,y,σ1,e2,fun v H1 ok1 r1 st1 _=>⟨x,bA0 (r1.vw ok1 e3),?_⟩⟩
 dsimp only at e
 split at e
 ·rename_i hx;rw[if_pos hx];exact⟨σ1,ok1,c,σ',e,fun v2 H2 ok2 r2 st2 f2=>k v2 H2 ok2 r2 (st1.trans st2) (f2.back st1)⟩
 ·rename_i hx;rw[if_neg hx];cases e;exact k _ H1 ok1 (.bl false) st1 gN
end
def Fz:HO->Prop
 | .lst _=>True
 | .dK _=>True
 | .dT _=>True
 | _=>False
theorem cD3{X:Cx}{pins:List (Addr×Obj)}{σ:St}{H:Hp}{s:Shared}{p:Addr}{u:HO}(I:Inv X pins σ H s)(h:H p=some u)(hu:Fz u):∃ o,Inv X pins σ (upd H p (.frz o u)) s:=by
 have nt:∀ b xs,H b=some (.tup xs)->b≠p:=fun b xs e z=>by subst z;rw[h]at e;cases e;exact hu
 have nf:∀ b o x,H b=some (.frz o x)->b≠p:=fun b o x e z=>by subst z;rw[h]at e;cases e;exact hu
 have no:∀ b x,H b=some (.own x)->b≠p:=fun b x e z=>by subst z;rw[h]at e;cases e;exact hu
 have nb:∀ b x,H b=some (.tbl x)->b≠p:=fun b x e z=>by subst z;rw[h]at e;cases e;exact hu
 have nn:∀ b,H b=none->b≠p:=fun b e z=>by subst z;rw[h]at e;cases e
 obtain⟨o,ho⟩:∃ o,s.heap.get? p=some o:=by
  have:=I.hok p u h
  have l:=this.lt
  cases q:s.heap.get? p with
  | some o=>exact⟨o,rfl⟩
  | none=>
    cases u with
    | lst xs=>obtain⟨_,_,_,_,e⟩:=this;rw[q]at e;cases e
    | dK kvs=>obtain⟨_,_,_,_,ob,_,_,e,_⟩:=this;rw[q]at e;cases e
    | dT kvs=>obtain⟨_,_,_,_,ob,_,_,e,_⟩:=this;rw[q]at e;cases e
    | _=>exact hu.elim
 have st:∀ a x,eB X.prog X.w H s.heap a x->eB X.prog X.w (upd H p (.frz o u)) s.heap a x:=fun a x k=>
  k.stay (fun _ _ _ e=>e) (fun b e=>by rw[aL (no b _ e)];exact e) fun b xs e=>by rw[aL (nt b _ e)];exact e
 refine⟨o,{I with base:=?_,free:=?_,freeC:=?_,pin:=?_,hok:=?_}⟩
 ·exact⟨I.base.keep,I.base.slot,fun b ob q n hx=>by
    have:=I.base.free b ob q n hx
    rw[aL (nn b this)];exact this,I.base.there,fun b xs e=>by
    have:=I.base.tups b xs e
    rw[aL (nt b _ this)];exact this,fun b ob x e=>by
    have:=I.base.frzs b ob x e
    rw[aL (nf b _ _ this)];exact this,fun b ps e=>by
    obtain⟨m,e2⟩:=I.base.tbls b ps e
    exact⟨m,by rw[aL (nb b _ e2)];exact e2⟩⟩
 ·rw[aL (nn _ I.free)];exact I.free
 ·intro x c e;rw[aL (nn _ (I.freeC x c e))];exact I.freeC x c e
 ·intro q hq
  obtain⟨h1,h2,h3⟩:=I.pin q hq
  exact⟨h1,by rw[aL (nn _ h2)];exact h2,h3⟩
 ·intro a x e
  by_cases ha:a=p
  ·subst ha
   rw[aR]at e;cases e
   exact⟨ho,st a u (I.hok a u h)⟩
  ·rw[aL ha]at e
   exact st a x (I.hok a x e)
def tFz(t:TE):TE:=fun σ H Q=>t σ H fun v H1=>Q v H1\/∃ p u,v=.ref p/\H1 p=some u/\Fz u/\∀ o,Q v (upd H1 p (.frz o u))
theorem dE1{X:Cx}{e:Expr}{t:TE}(h:PE X e t):PE X e (tFz t):=fun pins s σ H Q I q=>
 thn (h pins s σ H _ I q) fun u s1 ⟨v,H1,I1,r1,q1⟩=>by
  rcases q1 with q1 | ⟨p,x,e1,e2,e3,q1⟩
  ·exact⟨v,H1,I1,r1,q1⟩
  ·obtain⟨o,I2⟩:=cD3 I1 e2 e3
   exact⟨v,_,I2,r1,q1 o⟩
theorem bA2{H:Hp}{d:D}{p:Addr}(h:dX H d p):∃ u,H p=some u/\Fz u/\∀ o H',Ext H H'->H' p=some (.frz o u)->Rp H' d (.ref p):=by
 unfold dX at h
 split at h
 ·obtain⟨xs,h1,h2⟩:=h
  exact⟨_,h1,True.intro,fun o H' x e=>.lst e (h2.mono x)⟩
 ·obtain⟨u,ws,h1,h2,h3⟩:=h
  refine⟨u,h1,?_,fun o H' x e=>.dic e h2 (h3.mono x)⟩
  cases u with
  | dK _=>exact True.intro
  | dT _=>exact True.intro
  | _=>exact h2.elim
 ·exact h.elim
theorem bA3{H:Hp}{p:Addr}{u:HO}{o:Obj}(h:H p=some u)(hu:Fz u):Ext H (upd H p (.frz o u)):=
 ⟨fun b xs e=>by rw[aL (fun z=>by subst z;rw[h]at e;cases e;exact hu)];exact e,fun b ob x e=>by rw[aL (fun z=>by subst z;rw[h]at e;cases e;exact hu)];exact e⟩
def dH6(σ:Sg):Res->Option (D×Sg)
 | .val d=>some (d,σ)
 | .own d=>some (d,σ)
 | .slot i=>match σ[i]? with
   | some (some s)=>if s.m=.own then some (s.d,σ.set i (some ⟨.val,s.d⟩))else if s.m=.val then some (s.d,σ)else none
   | _=>none
def dFz(r:DE):DE:=fun σ=>(r σ).bind fun x=>(dH6 x.2 x.1).bind fun y=>some (.val y.1,y.2)
theorem bS{α:Type}{l:List α}{i j:Nat}{x y:α}(h:(l.set i x)[j]? = some y):(j=i/\y=x/\i < l.length)\/(j≠i/\l[j]? = some y):=by
 rw[List.getElem?_set]at h
 split at h
 ·rename_i e
  split at h
  ·cases h;exact .inl ⟨e.symm,rfl,by assumption⟩
  ·cases h
 ·rename_i e;exact .inr ⟨fun z=>e z.symm,h⟩
theorem dL{X:Cx}{e:Expr}{r:DE}(h:GE X e r):GE X e (dFz r):=.mk fun Γ=>peW (dE1 (h.to Γ)) fun σV H Q ⟨σ,ok,res,σ',e,k⟩=>by
 obtain⟨⟨x,σ1⟩,e1,e⟩:=aD e
 obtain⟨⟨d,σ2⟩,e2,e⟩:=aD e
 cases e
 refine⟨σ,ok,x,σ1,e1,fun v H1 ok1 r1 st1 f1=>?_⟩
 dsimp only at e2
 cases x with
 | val d'=>cases e2;exact .inl (k v H1 ok1 r1 st1 gN)
 | own d'=>
   cases e2
   obtain⟨p,rfl,h1,h2,h3⟩:=r1
   obtain⟨u,q1,q2,q3⟩:=bA2 h1
   have hn:H p=none:=f1 _ p rfl rfl
   refine .inr ⟨p,u,rfl,q1,q2,fun o=>?_⟩
   have x:=bA3 (o:=o) q1 q2
   refine k _ _ ⟨fun i s e=>?_,ok1.dis,ok1.own,ok1.par,fun a ob e n=>?_,fun a e=>?_,ok1.len⟩ (q3 o _ x aR) ⟨fun a ob e n=>?_,fun a e=>?_,st1.mu,st1.nv,st1.kp,st1.fix,st1.lt⟩ gN
   ·obtain⟨w,ew,rw'⟩:=ok1.rel i s e
    refine⟨w,ew,rw'.mono x fun q ob eq m e2=>?_⟩
    rw[aL (fun z=>h2 ⟨i,s,e,m,by rw[ew,eq,z]⟩)];exact e2
   ·rw[aL (fun z=>by subst z;rw[h3]at e;cases e)];exact ok1.keep a ob e n
   ·by_cases z:a=p
    ·subst z;rw[aR]at e;cases e
    ·rw[aL z]at e;exact ok1.dom a e
   ·rw[aL (fun z=>by subst z;rw[hn]at e;cases e)];exact st1.fr a ob e n
   ·by_cases z:a=p
    ·subst z;rw[aR]at e;cases e
    ·rw[aL z]at e;exact st1.dom a e
 | slot i=>
   obtain⟨r1,s,hs⟩:=r1
   have e2':(match σ1[i]? with | some (some s)=>if s.m=.own then some (s.d,σ1.set i (some ⟨.val,s.d⟩))else if s.m=.val then some (s.d,σ1)else none | _=>none)=some (d,σ2):=e2
   rw[hs]at e2'
   dsimp only at e2'
   obtain⟨w,ew,rw'⟩:=ok1.rel i s hs
   rw[r1]at ew;cases ew
   split at e2'
   ·rename_i hm
    cases e2'
    obtain⟨m,d⟩:=s
    cases hm
    obtain⟨p,rfl,h1⟩:=(cS (s:=⟨.own,d⟩) (fun z=>nomatch z)).mp rw'
    obtain⟨u,q1,q2,q3⟩:=bA2 h1
    refine .inr ⟨p,u,rfl,q1,q2,fun o=>?_⟩
    have x:=bA3 (o:=o) q1 q2
    have rp:=q3 o _ x aR
    have il:i < σ1.length:=(List.getElem?_eq_some_iff.mp hs).1
    have pm:nO σ1 σV p:=⟨i,_,hs,rfl,r1⟩
    have sub:∀ (j:Nat) t,(σ1.set i (some ⟨.val,d⟩))[j]? = some (some t)->t.m≠.val->j≠i/\σ1[j]? = some (some t):=fun j t ej hm=>by
     rcases bS ej with⟨_,z,_⟩ | z
     ·cases z;exact absurd rfl hm
     ·exact z
    have mtv:∀ t:Sl,t.m.mt=true->t.m≠.val:=fun t h z=>by rw[z]at h;cases h
    refine k _ _ ⟨fun j t ej=>?_,fun j l t t' q n ej el m m'=>?_,fun j t q ej m=>?_,fun j t q ej m=>?_,fun a ob e n=>?_,fun a e=>?_,?_⟩ rp
     ⟨fun a ob e n=>?_,fun a e=>?_,fun a ⟨j,t,ej,m,ea⟩=>?_,fun a ⟨j,t,ej,m,ea⟩=>?_,fun j t ej=>?_,fun j t ej m=>?_,fun j t ej m=>st1.lt j t (sub j t ej (by rw[m];exact fun z=>nomatch z)).2 m⟩ gN
    ·rcases bS ej with⟨z,z2,_⟩ | ⟨z,z2⟩
     ·cases z2;rw[z];exact⟨_,r1,rp⟩
     ·obtain⟨w,ew,rw2⟩:=ok1.rel j t z2
      refine⟨w,ew,rw2.mono x fun q ob eq m e2=>?_⟩
      rw[aL (fun y=>ok1.dis i j _ t p (Ne.symm z) hs z2 rfl m r1 (by rw[ew,eq,y]))];exact e2
    ·exact ok1.dis j l t t' q n (sub j t ej (mtv t m)).2 (sub l t' el m').2 m m'
    ·exact ok1.own j t q (sub j t ej (by rw[m];exact fun z=>nomatch z)).2 m
    ·exact ok1.par j t q (sub j t ej (by rw[m];exact fun z=>nomatch z)).2 m
    ·have hp:=ok1.own i _ p hs rfl r1
     rw[aL (fun z=>by subst z;rw[hp]at e;cases e)];exact ok1.keep a ob e n
    ·by_cases z:a=p
     ·subst z;rw[aR]at e;cases e
     ·rw[aL z]at e;exact ok1.dom a e
    ·rw[List.length_set];exact ok1.len
    ·by_cases z:a=p
     ·subst z
      rcases st1.mu a pm with y | y
      ·exact absurd y n
      ·rw[e]at y;cases y
     ·rw[aL z];exact st1.fr a ob e n
    ·by_cases z:a=p
     ·subst z;rw[aR]at e;cases e
     ·rw[aL z]at e;exact st1.dom a e
    ·exact st1.mu a ⟨j,t,(sub j t ej (mtv t m)).2,m,ea⟩
    ·exact st1.nv a ⟨j,t,(sub j t ej m).2,m,ea⟩
    ·obtain⟨t',et⟩:=st1.kp j t ej
     by_cases z:j=i
     ·subst z;exact⟨_,by rw[List.getElem?_set_self il]⟩
     ·exact⟨t',by rw[List.getElem?_set_ne (Ne.symm z)];exact et⟩
    ·obtain⟨t',et,h⟩:=st1.fix j t ej m
     refine⟨t',?_,h⟩
     rw[List.getElem?_set_ne (fun z=>?_)]
     ·exact et
     ·subst z
      rw[hs]at et
      cases et
      rcases m with m | m
      ·have:=h.1;rw[m]at this;cases this
      ·have:=h.1;rw[m]at this;cases this
   ·split at e2'
    ·rename_i hm
     cases e2'
     obtain⟨m,d⟩:=s
     cases hm
     exact .inl (k v H1 ok1 rw' st1 gN)
    ·cases e2'
def aM:DA:=fun σ=>some ([],σ)
def aC(r:DE)(rs:DA):DA:=fun σ=>(r σ).bind fun x=>(rs x.2).bind fun y=>some (x.1::y.1,y.2)
def rds(σ:Sg):List Res->Option (List D)
 | []=>some []
 | r::rs=>(rd σ r).bind fun d=>(rds σ rs).bind fun ds=>some (d::ds)
def vals:List Res->Option (List D)
 | []=>some []
 | .val d::rs=>(vals rs).bind fun ds=>some (d::ds)
 | _=>none
theorem oX{Γ:Gm}{H:Hp}{σ:Sg}{σV:St}(ok:StOk Γ H σ σV):∀ {rs:List Res} {vs:List V} {ds:List D},ResOks Γ H σ σV rs vs->rds σ rs=some ds->Vws H ds vs
 | _,_,_,.nil,e=>by cases e;exact .nil
 | _,_,_,.cons h t _,e=>by
   obtain⟨d,e1,e⟩:=aD e
   obtain⟨ds,e2,e⟩:=aD e
   cases e
   exact .cons (h.vw ok e1) (oX ok t e2)
theorem lE{Γ:Gm}{H:Hp}{σ:Sg}{σV:St}:∀ {rs:List Res} {vs:List V} {ds:List D},ResOks Γ H σ σV rs vs->vals rs=some ds->Rps H ds vs
 | _,_,_,.nil,e=>by cases e;exact .nil
 | .val d::_,_,_,.cons h t _,e=>by
   obtain⟨ds,e2,e⟩:=aD e
   cases e
   exact .cons h (lE t e2)
 | .own d::_,_,_,.cons h t _,e=>by cases e
 | .slot d::_,_,_,.cons h t _,e=>by cases e
section
variable{X:Cx}{e:Expr}{es:List Expr}{r:DE}{rs:DA}{pos:Pos}
theorem aF:GA X [] aM:=.mk fun Γ=>paW eD fun σV H Q ⟨σ,ok,res,σ',e,k⟩=>by
 cases e;exact k [] H ok .nil .refl (fun j d p e=>by simp at e)
theorem aA(ha:GE X e r)(hr:GA X es rs)(hs:starEach (e::es) X.env=(false,eval e X.env)::starEach es X.env:=by kernel_rfl):GA X (e::es) (aC r rs):=.mk fun Γ=>paW (bI (ha.to Γ) (hr.to Γ) hs) fun σV H Q ⟨σ,ok,res,σ',e,k⟩=>by
 obtain⟨⟨x,σ1⟩,e1,e⟩:=aD e
 obtain⟨⟨ys,σ2⟩,e2,e⟩:=aD e
 cases e
 refine⟨σ,ok,x,σ1,e1,fun v H1 ok1 r1 st1 f1=>⟨σ1,ok1,ys,_,e2,fun vs H2 ok2 r2 st2 f2=>?_⟩⟩
 refine k (v::vs) H2 ok2 (.cons (r1.step ok1 st2) r2 fun d p e3 e4 j d' e5 e6=>?_) (st1.trans st2) fun j d p e3 e4=>?_
 ·subst e3 e4
  obtain⟨q,eq,ow,_⟩:=r1
  cases eq
  obtain⟨o,ho,_⟩:=ow.obj
  have:=f2 j d' p e5 e6
  rw[ho]at this;cases this
 ·cases j with
  | zero=>simp at e3 e4;subst e3 e4;exact f1 d p rfl rfl
  | succ j=>exact st1.dom p (f2 j d p (by simpa using e3) (by simpa using e4))
def dCB(f:FN)(ra:DA):DE:=fun σ=>(ra σ).bind fun x=>(rds x.2 x.1).bind fun ds=>(f ds).bind fun r=>some (r,x.2)
theorem cG{rr:List V->Hp->VK->Prop}{f:FN}{ra:DA}(hp:bJ6 rr f)(h:∀ Γ,PE X e (tCB rr (dTA Γ ra))):GE X e (dCB f ra):=.mk fun Γ=>peW (h Γ) fun σV H Q ⟨σ,ok,res,σ',e,k⟩=>by
 obtain⟨⟨x,σ1⟩,e1,e⟩:=aD e
 obtain⟨ds,e2,e⟩:=aD e
 obtain⟨r,e3,e⟩:=aD e
 cases e
 refine⟨σ,ok,x,_,e1,fun vs H1 ok1 r1 st1 f1=>?_⟩
 refine hp H1 ds vs Q _ (oX ok1 r1 e2) e3 fun v H' sm nw=>?_
 exact k v H' (ok1.same sm) (nw.res ok1) (st1.trans (.same sm)) (nw.frh.back st1)
def aR7(ra:DA):DE:=fun σ=>(ra σ).bind fun x=>(vals x.1).bind fun ds=>if ds.length<=sizeLine then some (.val (.tup ds),x.2)else none
def lF(ra:DA):DE:=fun σ=>(ra σ).bind fun x=>(vals x.1).bind fun ds=>if ds.length<=sizeLine then some (.own (.lst ds),x.2)else none
theorem rL{x1}(h:GA X es rs):GE X (.Tuple es x1 pos) (aR7 rs):=.mk fun Γ=>peW (cP5 (h.to Γ)) fun σV H Q ⟨σ,ok,res,σ',e,k⟩=>by
 obtain⟨⟨x,σ1⟩,e1,e⟩:=aD e
 obtain⟨ds,e2,e⟩:=aD e
 dsimp only at e
 split at e
 ·rename_i hl
  cases e
  refine⟨σ,ok,x,_,e1,fun vs H1 ok1 r1 st1 f1=>?_⟩
  have rp:=lE r1 e2
  refine⟨by rw[← rp.length];exact hl,fun p hp=>?_⟩
  have sm:xS H1 (upd H1 p (.tup vs)):=bH hp
  exact k _ _ (ok1.same sm) (.tup aR (rp.mono (.same sm))) (st1.trans (.same sm)) gN
 ·cases e
theorem eX(h:GA X es rs):GE X (.List es pos) (lF rs):=.mk fun Γ=>peW (bT9 (h.to Γ)) fun σV H Q ⟨σ,ok,res,σ',e,k⟩=>by
 obtain⟨⟨x,σ1⟩,e1,e⟩:=aD e
 obtain⟨ds,e2,e⟩:=aD e
 dsimp only at e
 split at e
 ·rename_i hl
  cases e
  refine⟨σ,ok,x,_,e1,fun vs H1 ok1 r1 st1 f1=>?_⟩
  have rp:=lE r1 e2
  refine⟨by rw[← rp.length];exact hl,fun p hp=>?_⟩
  have sm:xS H1 (upd H1 p (.lst vs)):=bH hp
  have nw:yH H1 (upd H1 p (.lst vs)) (.own (.lst ds)) (.ref p):=⟨p,rfl,hp,vs,aR,rp.mono (.same sm)⟩
  exact k _ _ (ok1.same sm) (nw.res ok1) (st1.trans (.same sm)) (nw.frh.back st1)
 ·cases e
end
section
variable{Γ:Gm}{H:Hp}{σ:Sg}{σV:St}{i:Nat}{s:Sl}{p:Addr}{o':HO}{d':D}
theorem StOk.ownAt(ok:StOk Γ H σ σV)(hs:σ[i]? = some (some s))(hm:s.m≠.val):∃ p,σV[i]? = some (some (.ref p))/\dX H s.d p:=by
 obtain⟨v,e,r⟩:=ok.rel i s hs
 obtain⟨p,rfl,r'⟩:=(cS hm).mp r
 exact⟨p,e,r'⟩
theorem gY{m:Md}(h:m.mt=true):m≠.val:=fun z=>by rw[z]at h;cases h
theorem dX.ext{d:D}(h:dX H d p):Ext H (upd H p o'):=by
 obtain⟨o,e,n1,n2⟩:=h.obj
 exact⟨fun b xs q=>by rw[aL (fun z=>by subst z;rw[e]at q;cases q;exact n1 _ rfl)];exact q,fun b ob x q=>by rw[aL (fun z=>by subst z;rw[e]at q;cases q;exact n2 _ _ rfl)];exact q⟩
theorem StOk.write(ok:StOk Γ H σ σV)(hs:σ[i]? = some (some s))(hm:s.m.mt=true)(hv:σV[i]? = some (some (.ref p)))(ow:dX (upd H p o') d' p) :
  StOk Γ (upd H p o') (σ.set i (some ⟨s.m,d'⟩)) σV/\Step σ σV H (σ.set i (some ⟨s.m,d'⟩)) σV (upd H p o'):=by
 obtain⟨p',e',ow0⟩:=ok.ownAt hs (gY hm)
 rw[hv]at e';cases e'
 have x:Ext H (upd H p o'):=ow0.ext
 have il:i < σ.length:=(List.getElem?_eq_some_iff.mp hs).1
 have back:∀ (j:Nat) t,(σ.set i (some ⟨s.m,d'⟩))[j]? = some (some t)->∃ t',σ[j]? = some (some t')/\t'.m=t.m:=fun j t ej=>by
  rcases bS ej with⟨z,z2,_⟩ | ⟨z,z2⟩
  ·cases z2;subst z;exact⟨s,hs,rfl⟩
  ·exact⟨t,z2,rfl⟩
 refine⟨⟨fun j t ej=>?_,fun j l t t' q n ej el m m'=>?_,fun j t q ej m=>?_,fun j t q ej m=>?_,fun a ob e n=>?_,fun a e=>?_,by rw[List.length_set];exact ok.len⟩,
  ⟨fun a ob e n=>?_,fun a e=>?_,fun a ⟨j,t,ej,m,ea⟩=>?_,fun a ⟨j,t,ej,m,ea⟩=>?_,fun j t ej=>?_,fun j t ej m=>?_,fun j t ej m=>?_⟩⟩
 ·rcases bS ej with⟨z,z2,_⟩ | ⟨z,z2⟩
  ·cases z2;subst z;exact⟨_,hv,(cS (s:=⟨s.m,d'⟩) (gY hm)).mpr ⟨p,rfl,ow⟩⟩
  ·obtain⟨w,ew,rw2⟩:=ok.rel j t z2
   refine⟨w,ew,rw2.mono x fun q ob eq m e2=>?_⟩
   rw[aL (fun y=>ok.dis i j _ t p (Ne.symm z) hs z2 hm m hv (by rw[ew,eq,y]))];exact e2
 ·obtain⟨t1,h1,m1⟩:=back j t ej
  obtain⟨t2,h2,m2⟩:=back l t' el
  exact ok.dis j l t1 t2 q n h1 h2 (by rw[m1];exact m) (by rw[m2];exact m')
 ·obtain⟨t1,h1,m1⟩:=back j t ej
  exact ok.own j t1 q h1 (m1.trans m)
 ·obtain⟨t1,h1,m1⟩:=back j t ej
  exact ok.par j t1 q h1 (m1.trans m)
 ·have:a≠p:=fun z=>by
   subst z
   cases hq:s.m with
   | own=>rw[ok.own i s a hs hq hv]at e;cases e
   | par=>exact n (ok.par i s a hs hq hv)
   | val=>rw[hq]at hm;cases hm
   | lent=>rw[hq]at hm;cases hm
  rw[aL this];exact ok.keep a ob e n
 ·by_cases z:a=p
  ·subst z;rw[aR]at e;cases e
  ·rw[aL z]at e;exact ok.dom a e
 ·rw[aL (fun z=>n ⟨i,s,hs,hm,by rw[z];exact hv⟩)];exact e
 ·by_cases z:a=p
  ·subst z;rw[aR]at e;cases e
  ·rw[aL z]at e;exact e
 ·obtain⟨t1,h1,m1⟩:=back j t ej
  exact .inl ⟨j,t1,h1,by rw[m1];exact m,ea⟩
 ·obtain⟨t1,h1,m1⟩:=back j t ej
  exact .inl ⟨j,t1,h1,by rw[m1];exact m,ea⟩
 ·by_cases z:j=i
  ·subst z;exact⟨_,by rw[List.getElem?_set_self il]⟩
  ·exact⟨t,by rw[List.getElem?_set_ne (Ne.symm z)];exact ej⟩
 ·by_cases z:j=i
  ·subst z
   rw[hs]at ej;cases ej
   exact⟨⟨s.m,d'⟩,by rw[List.getElem?_set_self il],rfl,fun q=>(by rw[q]at hm;cases hm),rfl⟩
  ·exact⟨t,by rw[List.getElem?_set_ne (Ne.symm z)];exact ej,rfl,fun _=>rfl,rfl⟩
 ·obtain⟨t1,h1,m1⟩:=back j t ej
  exact⟨t1,h1,m1.trans m⟩
end
abbrev FM:=D->List D->Option (D×D)
def dE2(r:V->List V->Hp->VK->Prop)(f:FM):Prop:=∀ H d p ds vs Q d' e,dX H d p->Rps H ds vs->f d ds=some (d',e)->(∀ o' v,dX (upd H p o') d' p->Rp (upd H p o') e v->Q v (upd H p o'))->r (.ref p) vs H Q
def dH7(r:V->List V->Hp->VK->Prop)(f:FM):Prop:=∀ H d p ds vs Q d' e,dX H d p->Vws H ds vs->f d ds=some (d',e)->(∀ o' v,dX (upd H p o') d' p->Rp (upd H p o') e v->Q v (upd H p o'))->r (.ref p) vs H Q
def bM7(f:FM)(i:Nat)(ds:List D)(σ:Sg):Option (Res×Sg):=match σ[i]? with
 | some (some s)=>if s.m.mt=true then(f s.d ds).bind fun y=>some (.val y.2,σ.set i (some ⟨s.m,y.1⟩))else none
 | _=>none
def tyD(T:String):D->Bool
 | .lst _=>T=="list"
 | .dic _ _=>T=="dict"
 | _=>false
def yI(T:String)(i:Nat)(σ:Sg):Bool:=match σ[i]? with
 | some (some s)=>decide (s.m≠.val)&&tyD T s.d
 | _=>false
def kM(T:String)(i:Nat)(f:FM)(ra:DA):DE:=fun σ=>if yI T i σ=true then(ra σ).bind fun x=>(vals x.1).bind fun ds=>bM7 f i ds x.2 else none
def vW(T:String)(i:Nat)(f:FM)(ra:DA):DE:=fun σ=>if yI T i σ=true then(ra σ).bind fun x=>(rds x.2 x.1).bind fun ds=>bM7 f i ds x.2 else none
theorem cT2{K:PySem.W.Frag}{T:String}{H:Hp}{d:D}{p:Addr}(h:dX H d p)(e:tyD T d=true):tyV K T (.ref p) H:=by
 unfold dX at h
 split at h
 ·obtain⟨xs,h1,_⟩:=h
  exact .inl ⟨by simpa[tyD]using e,xs,SqL.of h1⟩
 ·obtain⟨u,ws,h1,h2,_⟩:=h
  refine .inr (.inr (.inl ⟨by simpa[tyD]using e,?_⟩))
  cases u with
  | dK kvs=>exact .inl ⟨kvs,h1⟩
  | dT kvs=>exact .inr ⟨kvs,h1⟩
  | _=>exact h2.elim
 ·exact h.elim
theorem lG{f:FM}{i:Nat}{ds:List D}{σ σ':Sg}{res:Res}(h:bM7 f i ds σ=some (res,σ')):∃ s d' e,σ[i]? = some (some s)/\s.m.mt=true/\f s.d ds=some (d',e)/\res=.val e/\σ'=σ.set i (some ⟨s.m,d'⟩):=by
 unfold bM7 at h
 split at h
 ·rename_i s hs
  split at h
  ·rename_i hm
   obtain⟨⟨d',e⟩,h1,h2⟩:=aD h
   cases h2
   exact⟨s,d',e,hs,hm,h1,rfl,rfl⟩
  ·cases h
 ·cases h
theorem sV{T:String}{i:Nat}{σ:Sg}(h:yI T i σ=true):∃ s,σ[i]? = some (some s)/\s.m≠.val/\tyD T s.d=true:=by
 unfold yI at h
 split at h
 ·rename_i s hs
  rw[Bool.and_eq_true,decide_eq_true_eq]at h
  exact⟨s,hs,h.1,h.2⟩
 ·cases h
section
variable{X:Cx}{e:Expr}{ra:DA}{K:PySem.W.Frag}{T:String}{r:V->List V->Hp->VK->Prop}{f:FM}{i:Nat}
theorem kO(hp:dE2 r f)(h:∀ Γ,PE X e (tBM K T r (bK3 i) (dTA Γ ra))):GE X e (kM T i f ra):=.mk fun Γ=>peW (h Γ) fun σV H Q ⟨σ,ok,res,σ',e,k⟩=>by
 unfold kM at e
 split at e
 ·rename_i hn
  obtain⟨⟨x,σ1⟩,e1,e⟩:=aD e
  obtain⟨ds,e2,e⟩:=aD e
  obtain⟨s,d',y,hs,hm,e3,rfl,rfl⟩:=lG e
  obtain⟨s0,hs0,hm0,ht0⟩:=sV hn
  obtain⟨p,ep,ow⟩:=ok.ownAt hs0 hm0
  refine⟨_,ep,cT2 ow ht0,σ,ok,x,σ1,e1,fun vs H1 ok1 r1 st1 f1=>?_⟩
  obtain⟨p',ep',ow1⟩:=ok1.ownAt hs (gY hm)
  rw[ep]at ep';cases ep'
  refine hp H1 s.d p ds vs Q d' y ow1 (lE r1 e2) e3 fun o' v ow' rp=>?_
  obtain⟨ok2,st2⟩:=ok1.write hs hm ep ow'
  exact k v _ ok2 rp (st1.trans st2) gN
 ·cases e
theorem bA4(hp:dH7 r f)(h:∀ Γ,PE X e (tBM K T r (bK3 i) (dTA Γ ra))):GE X e (vW T i f ra):=.mk fun Γ=>peW (h Γ) fun σV H Q ⟨σ,ok,res,σ',e,k⟩=>by
 unfold vW at e
 split at e
 ·rename_i hn
  obtain⟨⟨x,σ1⟩,e1,e⟩:=aD e
  obtain⟨ds,e2,e⟩:=aD e
  obtain⟨s,d',y,hs,hm,e3,rfl,rfl⟩:=lG e
  obtain⟨s0,hs0,hm0,ht0⟩:=sV hn
  obtain⟨p,ep,ow⟩:=ok.ownAt hs0 hm0
  refine⟨_,ep,cT2 ow ht0,σ,ok,x,σ1,e1,fun vs H1 ok1 r1 st1 f1=>?_⟩
  obtain⟨p',ep',ow1⟩:=ok1.ownAt hs (gY hm)
  rw[ep]at ep';cases ep'
  refine hp H1 s.d p ds vs Q d' y ow1 (oX ok1 r1 e2) e3 fun o' v ow' rp=>?_
  obtain⟨ok2,st2⟩:=ok1.write hs hm ep ow'
  exact k v _ ok2 rp (st1.trans st2) gN
 ·cases e
end
inductive Out where
 | nx (σ:Sg) | rt (r:Res) (σ:Sg) | bk (σ:Sg) | ct (σ:Sg) | ex (c:Str) (f:Option (Str×D)) (σ:Sg)
abbrev DS:=Sg->Option Out
structure Ex where
 ok:Hp->Str->Option (Str×D)->Value->Option Addr->Prop
 to:St->XK
def Ex.no:Ex:=⟨fun _ _ _ _ _=>False,fun _ _ _ _=>False⟩
def bA5(Γ:Gm)(E:Ex)(σ:Sg)(σV:St)(H:Hp)(o:Out)(D:Ends):Prop:=match o with
 | .nx σ'=>∀ σV' H',StOk Γ H' σ' σV'->Step σ σV H σ' σV' H'->D.nx σV' H'
 | .rt r σ'=>∀ v σV' H',StOk Γ H' σ' σV'->jA Γ H' σ' σV' r v->Step σ σV H σ' σV' H'->D.rt v H'
 | .bk σ'=>∀ σV' H',StOk Γ H' σ' σV'->Step σ σV H σ' σV' H'->D.bk σV' H'
 | .ct σ'=>∀ σV' H',StOk Γ H' σ' σV'->Step σ σV H σ' σV' H'->D.ct σV' H'
 | .ex c f σ'=>∀ x d σV' H',StOk Γ H' σ' σV'->E.ok H' c f x d->Step σ σV H σ' σV' H'->E.to σV' x d H'
def dTS(Γ:Gm)(E:Ex)(r:DS):TS:=fun D σV H=>∃ σ,StOk Γ H σ σV/\∃ o,r σ=some o/\bA5 Γ E σ σV H o D
structure GS(E:Ex)(X:Cx)(s:Stmt)(r:DS):Prop where
 to:∀ Γ,PS X s (dTS Γ E r)
structure GSs(E:Ex)(X:Cx)(s:List Stmt)(r:DS):Prop where
 to:∀ Γ,PSs X s (dTS Γ E r)
theorem bA5.after{Γ:Gm}{E:Ex}{σ σ1:Sg}{σV σV1:St}{H H1:Hp}{o:Out}{D:Ends}(h:bA5 Γ E σ σV H o D)(st:Step σ σV H σ1 σV1 H1):bA5 Γ E σ1 σV1 H1 o D:=by
 cases o with
 | nx σ'=>exact fun σV' H' ok s=>h σV' H' ok (st.trans s)
 | rt r σ'=>exact fun v σV' H' ok q s=>h v σV' H' ok q (st.trans s)
 | bk σ'=>exact fun σV' H' ok s=>h σV' H' ok (st.trans s)
 | ct σ'=>exact fun σV' H' ok s=>h σV' H' ok (st.trans s)
 | ex c f σ'=>exact fun x d σV' H' ok q s=>h x d σV' H' ok q (st.trans s)
def gO:DS:=fun σ=>some (.nx σ)
def bL(a b:DS):DS:=fun σ=>(a σ).bind fun o=>match o with
 | .nx σ1=>b σ1
 | o=>some o
def jB(r:DE):DS:=fun σ=>(r σ).bind fun x=>some (.nx x.2)
def gP(r:DE):DS:=fun σ=>(r σ).bind fun x=>some (.rt x.1 x.2)
def dE3:DS:=fun σ=>some (.rt (.val .non) σ)
def lH(c:DT)(a b:DS):DS:=fun σ=>(c σ).bind fun x=>if x.1=true then a x.2 else b x.2
section
variable{X:Cx}{E:Ex}{st:Stmt}{gF:List Stmt}{a b:DS}{pos:Pos}{e:Expr}{r:DE}
theorem fM:GSs E X [] gO:=.mk fun Γ=>cS9 oN fun D σV H ⟨σ,ok,o,e,k⟩=>by
 cases e;exact k σV H ok .refl
theorem aN(h:GS E X st a):GSs E X [st] a:=.mk fun Γ=>iW (h.to Γ)
theorem bM8{Γ:Gm}{E:Ex}{D:Ends}{σV:St}{H:Hp}(h:dTS Γ E (bL a b) D σV H):cZ8 (dTS Γ E a) (dTS Γ E b) D σV H:=by
 obtain⟨σ,ok,o,e,k⟩:=h
 obtain⟨o1,e1,e⟩:=aD e
 refine⟨σ,ok,o1,e1,?_⟩
 cases o1 with
 | nx σ1=>exact fun σV1 H1 ok1 st1=>⟨σ1,ok1,o,e,k.after st1⟩
 | rt r σ'=>cases e;exact k
 | bk σ'=>cases e;exact k
 | ct σ'=>cases e;exact k
 | ex c f σ'=>cases e;exact k
theorem aH(h1:GS E X st a)(h2:GSs E X gF b):GSs E X (st::gF) (bL a b):=.mk fun Γ=>cS9 (fP (h1.to Γ) (h2.to Γ)) fun _ _ _=>bM8
theorem jC(he:GE X e r)(hs:swapsWith e none pos.line X.env=pure false:=by rfl):GS E X (.Expr e pos) (jB r):=.mk fun Γ=>psW (sJ (he.to Γ) hs) fun D σV H ⟨σ,ok,o,e,k⟩=>by
 obtain⟨⟨x,σ1⟩,e1,e⟩:=aD e
 cases e
 exact⟨σ,ok,x,σ1,e1,fun v H1 ok1 r1 st1 _=>k σV H1 ok1 st1⟩
theorem bX(he:GE X e r):GS E X (.Return (some e) pos) (gP r):=.mk fun Γ=>psW (bT6 (he.to Γ)) fun D σV H ⟨σ,ok,o,e,k⟩=>by
 obtain⟨⟨x,σ1⟩,e1,e⟩:=aD e
 cases e
 exact⟨σ,ok,x,σ1,e1,fun v H1 ok1 r1 st1 _=>k v σV H1 ok1 r1 st1⟩
theorem jX{c:Expr}{l m:List Stmt}{t:DT}(hc:GT X c t)(ha:GSs E X l a)(hb:GSs E X m b):GS E X (.If c l m pos) (lH t a b):=.mk fun Γ=>psW (aP9 (hc.to Γ) (ha.to Γ) (hb.to Γ)) fun D σV H ⟨σ,ok,o,e,k⟩=>by
 obtain⟨⟨x,σ1⟩,e1,e⟩:=aD e
 refine⟨σ,ok,x,σ1,e1,fun H1 ok1 st1=>?_⟩
 dsimp only at e
 split at e
 ·rename_i hx;rw[if_pos hx];exact⟨σ1,ok1,o,e,k.after st1⟩
 ·rename_i hx;rw[if_neg hx];exact⟨σ1,ok1,o,e,k.after st1⟩
end
def eP(σ:Sg)(i:Nat):Bool:=match σ[i]? with
 | some none=>true
 | some (some s)=>decide (s.m=.val)||decide (s.m=.own)
 | none=>false
theorem lI{σ:Sg}{i:Nat}(h:eP σ i=true):i < σ.length:=by
 unfold eP at h
 split at h
 ·rename_i e;exact(List.getElem?_eq_some_iff.mp e).1
 ·rename_i e;exact(List.getElem?_eq_some_iff.mp e).1
 ·cases h
theorem bM9{σ:Sg}{i:Nat}{s:Sl}(h:eP σ i=true)(hs:σ[i]? = some (some s)):s.m=.val\/s.m=.own:=by
 unfold eP at h
 rw[hs]at h
 simpa using h
section
variable{Γ:Gm}{H H0:Hp}{σ σ0:Sg}{σV σV0:St}{i:Nat}{d:D}{v:V}
theorem StOk.put(ok:StOk Γ H σ σV)(hp:eP σ i=true)(r:Rp H d v):StOk Γ H (σ.set i (some ⟨.val,d⟩)) (σV.set i (some v)) where
 rel:=fun j t ej=>by
  rcases bS ej with⟨z,z2,_⟩ | ⟨z,z2⟩
  ·cases z2;subst z
   exact⟨v,by rw[List.getElem?_set_self (by rw[← ok.len];exact lI hp)],r⟩
  ·obtain⟨w,ew,rw2⟩:=ok.rel j t z2
   exact⟨w,by rw[List.getElem?_set_ne (Ne.symm z)];exact ew,rw2⟩
 dis:=fun j l t t' q n ej el m m' eq eq'=>by
  rcases bS ej with⟨z,z2,_⟩ | ⟨z,z2⟩
  ·cases z2;cases m
  ·rcases bS el with⟨y,y2,_⟩ | ⟨y,y2⟩
   ·cases y2;exact m' rfl
   ·rw[List.getElem?_set_ne (Ne.symm z)]at eq
    rw[List.getElem?_set_ne (Ne.symm y)]at eq'
    exact ok.dis j l t t' q n z2 y2 m m' eq eq'
 own:=fun j t q ej m eq=>by
  rcases bS ej with⟨z,z2,_⟩ | ⟨z,z2⟩
  ·cases z2;cases m
  ·rw[List.getElem?_set_ne (Ne.symm z)]at eq;exact ok.own j t q z2 m eq
 par:=fun j t q ej m eq=>by
  rcases bS ej with⟨z,z2,_⟩ | ⟨z,z2⟩
  ·cases z2;cases m
  ·rw[List.getElem?_set_ne (Ne.symm z)]at eq;exact ok.par j t q z2 m eq
 keep:=ok.keep
 dom:=ok.dom
 len:=by rw[List.length_set,List.length_set];exact ok.len
theorem Step.put(st:Step σ0 σV0 H0 σ σV H)(hp:eP σ i=true)(m:Md)(hm:m=.val\/m=.own/\∀ p,v=.ref p->H0 p=none):Step σ0 σV0 H0 (σ.set i (some ⟨m,d⟩)) (σV.set i (some v)) H:=by
 have ne_lent:m≠.lent:=by rcases hm with rfl | ⟨rfl,_⟩<;>exact fun z=>nomatch z
 have il:=lI hp
 have fixi:∀ t,σ[i]? = some (some t)->t.m≠.par/\t.m≠.lent:=fun t e=>by
  rcases bM9 hp e with z | z<;>(rw[z];exact⟨(fun y=>by cases y),(fun y=>by cases y)⟩)
 refine⟨st.fr,st.dom,fun a ⟨j,t,ej,mt,ea⟩=>?_,fun a ⟨j,t,ej,nv,ea⟩=>?_,fun j t ej=>?_,fun j t ej mm=>?_,fun j t ej mm=>?_⟩
 ·rcases bS ej with⟨z,z2,_⟩ | ⟨z,z2⟩
  ·cases z2
   subst z
   rcases hm with rfl | ⟨_,hf⟩
   ·cases mt
   ·have:=List.getElem?_eq_some_iff.mp ea
    obtain⟨hl,he⟩:=this
    rw[List.getElem_set_self]at he
    exact .inr (hf a (Option.some.inj he))
  ·rw[List.getElem?_set_ne (Ne.symm z)]at ea
   exact st.mu a ⟨j,t,z2,mt,ea⟩
 ·rcases bS ej with⟨z,z2,_⟩ | ⟨z,z2⟩
  ·cases z2
   subst z
   rcases hm with rfl | ⟨_,hf⟩
   ·exact absurd rfl nv
   ·have:=List.getElem?_eq_some_iff.mp ea
    obtain⟨hl,he⟩:=this
    rw[List.getElem_set_self]at he
    exact .inr (hf a (Option.some.inj he))
  ·rw[List.getElem?_set_ne (Ne.symm z)]at ea
   exact st.nv a ⟨j,t,z2,nv,ea⟩
 ·obtain⟨t',et⟩:=st.kp j t ej
  by_cases z:j=i
  ·subst z;exact⟨_,by rw[List.getElem?_set_self il]⟩
  ·exact⟨t',by rw[List.getElem?_set_ne (Ne.symm z)];exact et⟩
 ·obtain⟨t',et,h1,h2,h3⟩:=st.fix j t ej mm
  have z:j≠i:=fun z=>by
   subst z
   obtain⟨n1,n2⟩:=fixi t' et
   rcases mm with m1 | m1
   ·exact n1 (h1.trans m1)
   ·exact n2 (h1.trans m1)
  exact⟨t',by rw[List.getElem?_set_ne (Ne.symm z)];exact et,h1,h2,by rw[List.getElem?_set_ne (Ne.symm z)];exact h3⟩
 ·rcases bS ej with⟨z,z2,_⟩ | ⟨z,z2⟩
  ·cases z2;exact absurd mm ne_lent
  ·exact st.lt j t z2 mm
theorem StOk.putOwn{p:Addr}(ok:StOk Γ H σ σV)(hp:eP σ i=true)(ow:dX H d p)(hn:¬ bJ5 σ σV p)(h0:Γ.H₀ p=none):StOk Γ H (σ.set i (some ⟨.own,d⟩)) (σV.set i (some (.ref p))) where
 rel:=fun j t ej=>by
  rcases bS ej with⟨z,z2,_⟩ | ⟨z,z2⟩
  ·cases z2;subst z
   exact⟨.ref p,by rw[List.getElem?_set_self (by rw[← ok.len];exact lI hp)],p,rfl,ow⟩
  ·obtain⟨w,ew,rw2⟩:=ok.rel j t z2
   exact⟨w,by rw[List.getElem?_set_ne (Ne.symm z)];exact ew,rw2⟩
 dis:=fun j l t t' q n ej el m m' eq eq'=>by
  have il:i < σV.length:=by rw[← ok.len];exact lI hp
  rcases bS ej with⟨z,z2,_⟩ | ⟨z,z2⟩
  ·subst z
   rw[List.getElem?_set_self il]at eq
   have eq:=Option.some.inj (Option.some.inj eq)
   cases eq
   rcases bS el with⟨y,y2,_⟩ | ⟨y,y2⟩
   ·exact n y.symm
   ·rw[List.getElem?_set_ne (Ne.symm y)]at eq'
    exact hn ⟨l,t',y2,m',eq'⟩
  ·rw[List.getElem?_set_ne (Ne.symm z)]at eq
   rcases bS el with⟨y,y2,_⟩ | ⟨y,y2⟩
   ·subst y
    rw[List.getElem?_set_self il]at eq'
    have eq':=Option.some.inj (Option.some.inj eq')
    cases eq'
    exact hn ⟨j,t,z2,gY m,eq⟩
   ·rw[List.getElem?_set_ne (Ne.symm y)]at eq'
    exact ok.dis j l t t' q n z2 y2 m m' eq eq'
 own:=fun j t q ej m eq=>by
  rcases bS ej with⟨z,z2,_⟩ | ⟨z,z2⟩
  ·subst z
   rw[List.getElem?_set_self (by rw[← ok.len];exact lI hp)]at eq
   have eq:=Option.some.inj (Option.some.inj eq)
   cases eq;exact h0
  ·rw[List.getElem?_set_ne (Ne.symm z)]at eq;exact ok.own j t q z2 m eq
 par:=fun j t q ej m eq=>by
  rcases bS ej with⟨z,z2,_⟩ | ⟨z,z2⟩
  ·cases z2;cases m
  ·rw[List.getElem?_set_ne (Ne.symm z)]at eq;exact ok.par j t q z2 m eq
 keep:=ok.keep
 dom:=ok.dom
 len:=by rw[List.length_set,List.length_set];exact ok.len
end
def dA1(i:Nat)(r:Res)(σ:Sg):Option Sg:=match r with
 | .val d=>if eP σ i=true then some (σ.set i (some ⟨.val,d⟩))else none
 | .own d=>if eP σ i=true then some (σ.set i (some ⟨.own,d⟩))else none
 | .slot _=>none
def bV(i:Nat)(r:DE):DS:=fun σ=>(r σ).bind fun x=>(dA1 i x.1 x.2).bind fun σ1=>some (.nx σ1)
theorem aC0{Γ:Gm}{E:Ex}{i:Nat}{r:DE}{D:Ends}{σV:St}{H:Hp}(h:dTS Γ E (bV i r) D σV H):dTE Γ r σV H (fun x H1=>D.nx (σV.set i (some x)) H1):=by
 obtain⟨σ,ok,o,e,k⟩:=h
 obtain⟨⟨x,σ1⟩,e1,e⟩:=aD e
 obtain⟨σ2,e2,e⟩:=aD e
 cases e
 refine⟨σ,ok,x,σ1,e1,fun v H1 ok1 r1 st1 f1=>?_⟩
 cases x with
 | val d=>
   have e2':(if eP σ1 i=true then some (σ1.set i (some ⟨.val,d⟩))else none)=some σ2:=e2
   split at e2'
   ·rename_i hp;cases e2';exact k _ _ (ok1.put hp r1) (st1.put hp .val (.inl rfl))
   ·cases e2'
 | own d=>
   have e2':(if eP σ1 i=true then some (σ1.set i (some ⟨.own,d⟩))else none)=some σ2:=e2
   split at e2'
   ·rename_i hp
    cases e2'
    obtain⟨p,rfl,q1,q2,q3⟩:=r1
    exact k _ _ (ok1.putOwn hp q1 q2 q3) (st1.put hp .own (.inr ⟨rfl,fun p e=>f1 _ p rfl e⟩))
   ·cases e2'
 | slot j=>cases e2
theorem cT3{X:Cx}{E:Ex}{i:Nat}{st:Stmt}{r:DE}(h:∀ Γ,PS X st (cA4 (dTE Γ r) (sK i))):GS E X st (bV i r):=.mk fun Γ=>psW (h Γ) fun _ _ _ h=>aC0 h
def rM(x:Str):List D:=x.cps.toList.map fun c=>.str ⟨#[c]⟩
theorem vX{H:Hp}(x:Str):Rps H (rM x) (eV x):=by
 unfold rM eV
 induction x.cps.toList with
 | nil=>exact .nil
 | cons a r ih=>exact .cons (.str _) ih
abbrev DG:=D->Sg->Option Sg
abbrev DGs:=List D->Sg->Option Sg
def bN0(own:List Nat)(g:TG)(gd:DG):Prop:=∀ Γ H σ0 σV0 H0 σ σV d v σ' Q,StOk Γ H σ σV->Step σ0 σV0 H0 σ σV H->Rp H d v->gd d σ=some σ' ->
 (∀ σV',StOk Γ H σ' σV'->Step σ0 σV0 H0 σ' σV' H->σV'.length=σV.length->(∀ i,i∉own->σV'[i]? = σV[i]? /\ σ'[i]? = σ[i]?)->Q σV' H)->g v σV H Q
def bN1(own:List Nat)(g:TGs)(gd:DGs):Prop:=∀ Γ H σ0 σV0 H0 σ σV ds vs σ' Q,StOk Γ H σ σV->Step σ0 σV0 H0 σ σV H->Rps H ds vs->gd ds σ=some σ' ->
 (∀ σV',StOk Γ H σ' σV'->Step σ0 σV0 H0 σ' σV' H->σV'.length=σV.length->(∀ i,i∉own->σV'[i]? = σV[i]? /\ σ'[i]? = σ[i]?)->Q σV' H)->g vs σV H Q
def dgN(i:Nat):DG:=fun d σ=>if eP σ i=true then some (σ.set i (some ⟨.val,d⟩))else none
def mE:DGs:=fun ds σ=>if ds.isEmpty then some σ else none
def dI(g:DG)(gs:DGs):DGs:=fun ds σ=>match ds with
 | d::r=>(g d σ).bind fun σ1=>gs r σ1
 | []=>none
def nP(n:Nat)(gs:DGs):DG:=fun d σ=>match d with
 | .tup l=>if l.length=n then gs l σ else none
 | .str z=>if z.length=n then gs (rM z) σ else none
 | _=>none
theorem bB{own:List Nat}{i:Nat}(h:i∈own):bN0 own (sK i) (dgN i):=by
 intro Γ H σ0 σV0 H0 σ σV d v σ' Q ok st r e k
 unfold dgN at e
 split at e
 ·rename_i hp
  cases e
  refine k _ (ok.put hp r) (st.put hp .val (.inl rfl)) (by simp) fun j hj=>?_
  have:i≠j:=fun z=>hj (by rw[← z];exact h)
  exact⟨List.getElem?_set_ne this,List.getElem?_set_ne this⟩
 ·cases e
theorem mF{own:List Nat}:bN1 own dB9 mE:=by
 intro Γ H σ0 σV0 H0 σ σV ds vs σ' Q ok st r e k
 unfold mE at e
 cases r with
 | nil=>cases e;exact⟨rfl,k _ ok st rfl fun _ _=>⟨rfl,rfl⟩⟩
 | cons _ _=>cases e
theorem dS{own:List Nat}{g:TG}{gd:DG}{gs:TGs}{gds:DGs}(h1:bN0 own g gd)(h2:bN1 own gs gds):bN1 own (cA3 g gs) (dI gd gds):=by
 intro Γ H σ0 σV0 H0 σ σV ds vs σ' Q ok st r e k
 cases r with
 | nil=>cases e
 | cons a t=>
   obtain⟨σ1,e1,e⟩:=aD e
   refine⟨_,_,rfl,h1 Γ H σ0 σV0 H0 σ σV _ _ σ1 _ ok st a e1 fun σV1 ok1 st1 l1 f1=>?_⟩
   refine h2 Γ H σ0 σV0 H0 σ1 σV1 _ _ σ' _ ok1 st1 t e fun σV2 ok2 st2 l2 f2=>?_
   exact k σV2 ok2 st2 (l2.trans l1) fun i hi=>⟨(f2 i hi).1.trans (f1 i hi).1,(f2 i hi).2.trans (f1 i hi).2⟩
theorem rN{own:List Nat}{K:PySem.W.Frag}{n:Nat}{gs:TGs}{gds:DGs}(h:bN1 own gs gds):bN0 own (aR5 K n gs) (nP n gds):=by
 intro Γ H σ0 σV0 H0 σ σV d v σ' Q ok st r e k
 cases d with
 | tup l=>
   have e':(if l.length=n then gds l σ else none)=some σ':=e
   split at e'
   ·rename_i hl
    obtain⟨p,xs,rfl,h1,h2⟩:=eG (.inl r)
    exact⟨xs,bU h1,by rw[← h2.length];exact hl,h Γ H σ0 σV0 H0 σ σV l xs σ' Q ok st h2 e' k⟩
   ·cases e'
 | str z=>
   have e':(if z.length=n then gds (rM z) σ else none)=some σ':=e
   split at e'
   ·rename_i hl
    cases r
    exact⟨hl,h Γ H σ0 σV0 H0 σ σV _ _ σ' Q ok st (vX z) e' k⟩
   ·cases e'
 | _=>cases e
def cT4(g:DG)(r:DE):DS:=fun σ=>(r σ).bind fun x=>match x.1 with
 | .val d=>(g d x.2).bind fun σ1=>some (.nx σ1)
 | _=>none
theorem cT5{X:Cx}{E:Ex}{own:List Nat}{st:Stmt}{r:DE}{g:TG}{gd:DG}(hg:bN0 own g gd)(h:∀ Γ,PS X st (cA4 (dTE Γ r) g)):GS E X st (cT4 gd r):=.mk fun Γ=>psW (h Γ) fun D σV H ⟨σ,ok,o,e,k⟩=>by
 obtain⟨⟨x,σ1⟩,e1,e⟩:=aD e
 refine⟨σ,ok,x,σ1,e1,fun v H1 ok1 r1 st1 f1=>?_⟩
 cases x with
 | val d=>
   obtain⟨σ2,e2,e⟩:=aD e
   cases e
   exact hg Γ H1 σ σV H σ1 σV d v σ2 _ ok1 st1 r1 e2 fun σV2 ok2 st2 _ _=>k σV2 H1 ok2 st2
 | own d=>cases e
 | slot d=>cases e
def dA2(i j:Nat)(ra:DA):DS:=fun σ=>(ra σ).bind fun x=>(vals x.1).bind fun ds=>match ds with
 | [d,e]=>if eP x.2 i=true/\eP x.2 j=true/\i≠j then some (.nx ((x.2.set i (some ⟨.val,d⟩)).set j (some ⟨.val,e⟩)))else none
 | _=>none
theorem cT6{X:Cx}{E:Ex}{i j:Nat}{st:Stmt}{ra:DA}(h:∀ Γ,PS X st (dC1 i j (dTA Γ ra))):GS E X st (dA2 i j ra):=.mk fun Γ=>psW (h Γ) fun D σV H ⟨σ,ok,o,e,k⟩=>by
 obtain⟨⟨x,σ1⟩,e1,e⟩:=aD e
 obtain⟨ds,e2,e⟩:=aD e
 refine⟨σ,ok,x,σ1,e1,fun vs H1 ok1 r1 st1 f1=>?_⟩
 have rp:=lE r1 e2
 dsimp only at e
 split at e
 ·split at e
  ·rename_i d y hp
   cases e
   cases rp with
   | cons a t=>cases t with
     | cons b t=>cases t with
       | nil=>
         refine⟨_,_,rfl,?_⟩
         have ok2:=ok1.put hp.1 a
         have hp2:eP (σ1.set i (some ⟨.val,d⟩)) j=true:=by
          unfold eP
          rw[List.getElem?_set_ne hp.2.2]
          exact hp.2.1
         exact k _ _ (ok2.put hp2 b) ((st1.put hp.1 .val (.inl rfl)).put hp2 .val (.inl rfl))
  ·cases e
 ·cases e
def lend(i:Nat)(σ:Sg):Sg:=match σ[i]? with
 | some (some s)=>if s.m.mt=true then σ.set i (some ⟨.lent,s.d⟩)else σ
 | _=>σ
def unl(i:Nat)(σ0 σ:Sg):Sg:=match σ0[i]?,σ[i]? with
 | some (some s0),some (some s)=>if s0.m.mt=true then σ.set i (some ⟨s0.m,s.d⟩)else σ
 | _,_=>σ
def lendO(l:Option Nat)(σ:Sg):Sg:=match l with
 | some i=>lend i σ
 | none=>σ
def rO(l:Option Nat)(σ0 σ:Sg):Sg:=match l with
 | some i=>unl i σ0 σ
 | none=>σ
section
variable{Γ:Gm}{H H1 H2:Hp}{σ σ1 σ2:Sg}{σV σV2:St}{i:Nat}{s:Sl}
theorem sW(hs:σ[i]? = some (some s))(hm:s.m.mt=true):lend i σ=σ.set i (some ⟨.lent,s.d⟩):=by
 unfold lend;rw[hs];simp only[hm,if_true]
theorem yJ(h:∀ s,σ[i]? = some (some s)->s.m.mt=false):lend i σ=σ:=by
 unfold lend
 split
 ·rename_i s hs;rw[if_neg (by rw[h s hs];exact Bool.false_ne_true)]
 ·rfl
theorem StOk.lend(ok:StOk Γ H σ σV):StOk Γ H (lend i σ) σV:=by
 by_cases hx:∃ s,σ[i]? = some (some s)/\s.m.mt=true
 ·obtain⟨s,hs,hm⟩:=hx
  rw[sW hs hm]
  obtain⟨p,ep,ow⟩:=ok.ownAt hs (gY hm)
  have back:∀ (j:Nat) t,(σ.set i (some ⟨.lent,s.d⟩))[j]? = some (some t)->(j=i/\t=⟨.lent,s.d⟩)\/(j≠i/\σ[j]? = some (some t)):=fun j t ej=>by
   rcases bS ej with⟨z,z2,_⟩ | z
   ·cases z2;exact .inl ⟨z,rfl⟩
   ·exact .inr z
  refine⟨fun j t ej=>?_,fun j l t t' q n ej el m m' eq eq'=>?_,fun j t q ej m eq=>?_,fun j t q ej m eq=>?_,ok.keep,ok.dom,by rw[List.length_set];exact ok.len⟩
  ·rcases back j t ej with⟨rfl,rfl⟩ | ⟨_,z⟩
   ·exact⟨_,ep,p,rfl,ow⟩
   ·exact ok.rel j t z
  ·rcases back j t ej with⟨rfl,rfl⟩ | ⟨_,z⟩
   ·cases m
   ·rcases back l t' el with⟨rfl,rfl⟩ | ⟨_,y⟩
    ·exact ok.dis j l t s q n z hs m (gY hm) eq eq'
    ·exact ok.dis j l t t' q n z y m m' eq eq'
  ·rcases back j t ej with⟨rfl,rfl⟩ | ⟨_,z⟩
   ·cases m
   ·exact ok.own j t q z m eq
  ·rcases back j t ej with⟨rfl,rfl⟩ | ⟨_,z⟩
   ·cases m
   ·exact ok.par j t q z m eq
 ·rw[yJ fun s hs=>by
   cases e:s.m.mt with
   | false=>rfl
   | true=>exact absurd ⟨s,hs,e⟩ hx]
  exact ok
theorem cT7(ok:StOk Γ H1 σ1 σV)(ok2:StOk Γ H2 σ2 σV2)(st:Step (lend i σ1) σV H1 σ2 σV2 H2):StOk Γ H2 (unl i σ1 σ2) σV2/\Step σ1 σV H1 (unl i σ1 σ2) σV2 H2:=by
 by_cases hx:∃ s,σ1[i]? = some (some s)/\s.m.mt=true
 ·obtain⟨s,hs,hm⟩:=hx
  have il:i < σ1.length:=(List.getElem?_eq_some_iff.mp hs).1
  rw[sW hs hm]at st
  have hsl:(σ1.set i (some ⟨.lent,s.d⟩))[i]? = some (some ⟨.lent,s.d⟩):=by rw[List.getElem?_set_self il]
  obtain⟨s2,h2,m2,d2,v2⟩:=st.fix i _ hsl (.inr rfl)
  have m2':s2.m=.lent:=m2
  have il2:i < σ2.length:=(List.getElem?_eq_some_iff.mp h2).1
  have eu:unl i σ1 σ2=σ2.set i (some ⟨s.m,s2.d⟩):=by unfold unl;rw[hs,h2];simp only[hm,if_true]
  rw[eu]
  obtain⟨p,ep,ow⟩:=ok.ownAt hs (gY hm)
  have ep2:σV2[i]? = some (some (.ref p)):=v2.trans ep
  obtain⟨p',e',ow2⟩:=ok2.ownAt h2 (by rw[m2'];exact fun z=>nomatch z)
  rw[ep2]at e';cases e'
  have lold:∀ (j:Nat) t,j≠i->σ2[j]? = some (some t)->t.m=.lent->σV2[j]? ≠ some (some (.ref p)):=fun j t hj ej mj e=>by
   obtain⟨t1,h1,mt1⟩:=st.lt j t ej mj
   rw[List.getElem?_set_ne (Ne.symm hj)]at h1
   have hf:(σ1.set i (some ⟨.lent,s.d⟩))[j]? = some (some t1):=by rw[List.getElem?_set_ne (Ne.symm hj)];exact h1
   obtain⟨_,_,_,_,vj⟩:=st.fix j t1 hf (.inr mt1)
   rw[vj]at e
   exact ok.dis i j s t1 p (Ne.symm hj) hs h1 hm (by rw[mt1];exact fun z=>nomatch z) ep e
  have others:∀ (j:Nat) t,j≠i->σ2[j]? = some (some t)->t.m≠.val->σV2[j]? ≠ some (some (.ref p)):=fun j t hj ej mj e=>by
   by_cases hl:t.m=.lent
   ·exact lold j t hj ej hl e
   ·have hmt:t.m.mt=true:=by
     cases q:t.m with
     | val=>exact absurd q mj
     | own=>rfl
     | par=>rfl
     | lent=>exact absurd q hl
    exact ok2.dis j i t s2 p hj ej h2 hmt (by rw[m2'];exact fun z=>nomatch z) e ep2
  have back:∀ (j:Nat) t,(σ2.set i (some ⟨s.m,s2.d⟩))[j]? = some (some t)->(j=i/\t=⟨s.m,s2.d⟩)\/(j≠i/\σ2[j]? = some (some t)):=fun j t ej=>by
   rcases bS ej with⟨z,z2,_⟩ | z
   ·cases z2;exact .inl ⟨z,rfl⟩
   ·exact .inr z
  have sub:∀ a,nO (σ1.set i (some ⟨.lent,s.d⟩)) σV a->nO σ1 σV a:=fun a ⟨j,t,ej,m,ea⟩=>by
   rcases bS ej with⟨z,z2,_⟩ | ⟨z,z2⟩
   ·cases z2;cases m
   ·exact⟨j,t,z2,m,ea⟩
  have subN:∀ a,bJ5 (σ1.set i (some ⟨.lent,s.d⟩)) σV a->bJ5 σ1 σV a:=fun a ⟨j,t,ej,m,ea⟩=>by
   rcases bS ej with⟨z,z2,_⟩ | ⟨z,z2⟩
   ·subst z;exact⟨j,s,hs,gY hm,ea⟩
   ·exact⟨j,t,z2,m,ea⟩
  constructor
  ·refine⟨fun j t ej=>?_,fun j l t t' q n ej el m m' eq eq'=>?_,fun j t q ej m eq=>?_,fun j t q ej m eq=>?_,ok2.keep,ok2.dom,by rw[List.length_set];exact ok2.len⟩
   ·rcases back j t ej with⟨rfl,rfl⟩ | ⟨_,z⟩
    ·exact⟨_,ep2,(cS (s:=⟨s.m,s2.d⟩) (gY hm)).mpr ⟨p,rfl,ow2⟩⟩
    ·exact ok2.rel j t z
   ·rcases back j t ej with⟨rfl,rfl⟩ | ⟨zn,z⟩
    ·rw[ep2]at eq
     have eq:=Option.some.inj (Option.some.inj eq)
     cases eq
     rcases back l t' el with⟨rfl,rfl⟩ | ⟨yn,y⟩
     ·exact n rfl
     ·exact others l t' yn y m' eq'
    ·rcases back l t' el with⟨rfl,rfl⟩ | ⟨yn,y⟩
     ·rw[ep2]at eq'
      have eq':=Option.some.inj (Option.some.inj eq')
      cases eq'
      exact others j t zn z (gY m) eq
     ·exact ok2.dis j l t t' q n z y m m' eq eq'
   ·rcases back j t ej with⟨rfl,rfl⟩ | ⟨_,z⟩
    ·rw[ep2]at eq
     have eq:=Option.some.inj (Option.some.inj eq)
     cases eq
     exact ok.own j s p hs m ep
    ·exact ok2.own j t q z m eq
   ·rcases back j t ej with⟨rfl,rfl⟩ | ⟨_,z⟩
    ·rw[ep2]at eq
     have eq:=Option.some.inj (Option.some.inj eq)
     cases eq
     exact ok.par j s p hs m ep
    ·exact ok2.par j t q z m eq
  ·refine⟨fun a o e n=>st.fr a o e fun z=>n (sub a z),st.dom,fun a ⟨j,t,ej,m,ea⟩=>?_,fun a ⟨j,t,ej,m,ea⟩=>?_,fun j t ej=>?_,fun j t ej m=>?_,fun j t ej m=>?_⟩
   ·rcases back j t ej with⟨rfl,rfl⟩ | ⟨_,z⟩
    ·rw[ep2]at ea
     have ea:=Option.some.inj (Option.some.inj ea)
     cases ea
     exact .inl ⟨j,s,hs,hm,ep⟩
    ·rcases st.mu a ⟨j,t,z,m,ea⟩with y | y
     ·exact .inl (sub a y)
     ·exact .inr y
   ·rcases back j t ej with⟨rfl,rfl⟩ | ⟨_,z⟩
    ·rw[ep2]at ea
     have ea:=Option.some.inj (Option.some.inj ea)
     cases ea
     exact .inl ⟨j,s,hs,gY hm,ep⟩
    ·rcases st.nv a ⟨j,t,z,m,ea⟩with y | y
     ·exact .inl (subN a y)
     ·exact .inr y
   ·by_cases z:j=i
    ·subst z;exact⟨_,by rw[List.getElem?_set_self il2]⟩
    ·obtain⟨t',et⟩:=st.kp j t (by rw[List.getElem?_set_ne (Ne.symm z)];exact ej)
     exact⟨t',by rw[List.getElem?_set_ne (Ne.symm z)];exact et⟩
   ·by_cases z:j=i
    ·subst z
     rw[hs]at ej;cases ej
     refine⟨⟨s.m,s2.d⟩,by rw[List.getElem?_set_self il2],rfl,fun q=>?_,v2⟩
     rw[q]at hm;cases hm
    ·obtain⟨t',et,h⟩:=st.fix j t (by rw[List.getElem?_set_ne (Ne.symm z)];exact ej) m
     exact⟨t',by rw[List.getElem?_set_ne (Ne.symm z)];exact et,h⟩
   ·rcases back j t ej with⟨rfl,rfl⟩ | ⟨zn,z⟩
    ·have m':s.m=.lent:=m
     rw[m']at hm;cases hm
    ·obtain⟨t1,h1,m1⟩:=st.lt j t z m
     rw[List.getElem?_set_ne (Ne.symm zn)]at h1
     exact⟨t1,h1,m1⟩
 ·have hno:∀ s,σ1[i]? = some (some s)->s.m.mt=false:=fun s hs=>by
   cases e:s.m.mt with
   | false=>rfl
   | true=>exact absurd ⟨s,hs,e⟩ hx
  rw[yJ hno]at st
  have eu:unl i σ1 σ2=σ2:=by
   unfold unl
   split
   ·rename_i s0 s' h0 h';rw[if_neg (by rw[hno s0 h0];exact Bool.false_ne_true)]
   ·rfl
  rw[eu]
  exact⟨ok2,st⟩
theorem StOk.lendO{l:Option Nat}(ok:StOk Γ H σ σV):StOk Γ H (lendO l σ) σV:=by
 cases l with
 | none=>exact ok
 | some i=>exact ok.lend
theorem sX{l:Option Nat}(ok:StOk Γ H1 σ1 σV)(ok2:StOk Γ H2 σ2 σV2)(st:Step (lendO l σ1) σV H1 σ2 σV2 H2):StOk Γ H2 (rO l σ1 σ2) σV2/\Step σ1 σV H1 (rO l σ1 σ2) σV2 H2:=by
 cases l with
 | none=>exact⟨ok2,st⟩
 | some i=>exact cT7 ok ok2 st
theorem cD4{l:Option Nat}{r:Res}{v:V}(st:Step (lendO l σ1) σV H1 σ2 σV2 H2)(h:jA Γ H2 σ2 σV2 r v):jA Γ H2 (rO l σ1 σ2) σV2 r v:=by
 cases l with
 | none=>exact h
 | some i=>
   show jA Γ H2 (unl i σ1 σ2) σV2 r v
   have st':Step (lend i σ1) σV H1 σ2 σV2 H2:=st
   unfold unl
   split
   ·rename_i s0 s' h0 h'
    split
    ·rename_i hm
     cases r with
     | val d=>exact h
     | own d=>
       obtain⟨p,e1,e2,e3,e4⟩:=h
       refine⟨p,e1,e2,fun⟨j,t,ej,m,ea⟩=>e3 ?_,e4⟩
       rcases bS ej with⟨z,z2,_⟩ | ⟨z,z2⟩
       ·subst z
        rw[sW h0 hm]at st'
        obtain⟨t2,q1,q2,_⟩:=st'.fix j ⟨.lent,s0.d⟩ (by rw[List.getElem?_set_self (List.getElem?_eq_some_iff.mp h0).1]) (.inr rfl)
        exact⟨j,t2,q1,by rw[q2];exact fun z=>(by cases z),ea⟩
       ·exact⟨j,t,z2,m,ea⟩
     | slot j=>
       obtain⟨e1,t,e2⟩:=h
       refine⟨e1,?_⟩
       by_cases z:j=i
       ·subst z;exact⟨_,by rw[List.getElem?_set_self (List.getElem?_eq_some_iff.mp h').1]⟩
       ·exact⟨t,by rw[List.getElem?_set_ne (Ne.symm z)];exact e2⟩
    ·exact h
   ·exact h
end
structure ItD(J:It)(items:List D)(P:Hp->Prop):Prop where
 go:∀ H i d,P H->items[i]? = some d->J.go i H
 yld:∀ H i d y H',P H->items[i]? = some d->J.yld i H y H'->xS H H'/\Rp H' d y
 stop:∀ H,P H->J.stop items.length H
theorem vY{J:It}{xs:List V}{P:Hp->Prop}{items:List D}(w:ItIs J xs P):ItD J items (fun H=>P H/\Rps H items xs) where
 go:=fun H i d ⟨h,r⟩ e=>by
  obtain⟨x,ex,_⟩:=r.get e
  exact w.go H i x h ex
 yld:=fun H i d y H' ⟨h,r⟩ e q=>by
  obtain⟨x,ex,rx⟩:=r.get e
  obtain⟨rfl,rfl⟩:=w.yld H i x y H' h ex q
  exact⟨.refl _,rx⟩
 stop:=fun H ⟨h,r⟩=>by
  refine w.stop H _ h ?_
  have:=r.length
  rw[List.getElem?_eq_none_iff]
  omega
abbrev DI:=Sg->Option (List D×Option Nat×Sg)
def dTI(Γ:Gm)(ri:DI):TI:=fun σV H R=>∃ σ,StOk Γ H σ σV/\∃ items l σ1,ri σ=some (items,l,σ1)/\∀ J H1 P,StOk Γ H1 σ1 σV->Step σ σV H σ1 σV H1->ItD J items P ->
 (∀ σ2 σV2 H2,Step (lendO l σ1) σV H1 σ2 σV2 H2->P H2)->R J H1
structure GI(X:Cx)(tg iter:Expr)(ri:DI):Prop where
 to:∀ Γ,PI X tg iter (dTI Γ ri)
theorem piW{X:Cx}{tg e:Expr}{t t':TI}(h:PI X tg e t)(w:∀ σ H Q,t' σ H Q->t σ H Q):PI X tg e t':=fun pins s σ H Q I q=>h pins s σ H Q I (w σ H Q q)
def vZ:D->Option (List D)
 | .lst l=>some l
 | .tup l=>some l
 | .str x=>some (rM x)
 | _=>none
def dIt(r:DE):DI:=fun σ=>(r σ).bind fun x=>(rd x.2 x.1).bind fun d=>(vZ d).bind fun l=>some (l,(match x.1 with | .slot i=>some i | _=>none),x.2)
theorem fT{H H1:Hp}{p:Addr}{o:HO}(h:H p=some o)(h1:H1 p=some o):eT H1 p=eT H p:=by unfold eT;rw[h,h1]
theorem oY{Γ:Gm}{H1:Hp}{σ2:Sg}{σV:St}{x:Res}{v:V}{d:D}{items:List D}(ok1:StOk Γ H1 σ2 σV)(r1:jA Γ H1 σ2 σV x v)(e2:rd σ2 x=some d)(e3:vZ d=some items)(vw:Vw H1 d v) :
  ∀ p b xs,v=.ref p->eT H1 p=some (b,xs)->Rps H1 items xs->∀ σ3 σV3 H3,Step (lendO (match x with | .slot i=>some i | _=>none) σ2) σV H1 σ3 σV3 H3->eT H3 p=some (b,xs)/\Rps H3 items xs:=by
 intro p b xs ev hq hr σ3 σV3 H3 st3
 have ext:Ext H1 H3:=st3.ext (Γ:=Γ) ok1.lendO
 refine⟨?_,hr.mono ext⟩
 cases x with
 | val d'=>
   cases e2
   subst ev
   cases d with
   | tup l'=>obtain⟨_,_,e,h1,_⟩:=eG vw;cases e;rw[fT h1 (ext.tup _ _ h1)];exact hq
   | lst l'=>
     cases r1 with
     | lst h1 _=>rw[fT h1 (ext.frz _ _ _ h1)];exact hq
   | dic ks vs=>cases e3
   | str z=>cases r1
   | _=>cases e3
 | own d'=>
   obtain⟨q,e4,ow,nn,_⟩:=r1
   rw[ev]at e4;cases e4
   obtain⟨o,ho,_⟩:=ow.obj
   rw[fT ho (st3.fr p o ho (fun z=>nn z.nv))];exact hq
 | slot i=>
   obtain⟨r1,s,hs⟩:=r1
   have ok1':StOk Γ H1 σ2 σV:=ok1
   by_cases hm:s.m=.val
   ·obtain⟨w,ew,rw'⟩:=ok1'.rel i s hs
    rw[r1]at ew;cases ew
    subst ev
    obtain⟨m,dd⟩:=s
    cases hm
    have e2':some dd=some d:=by
     have:rd σ2 (.slot i)=some dd:=by show(match σ2[i]? with | some (some s)=>some s.d | _=>none)=_;rw[hs]
     rw[← this];exact e2
    cases e2'
    have rp:Rp H1 d (.ref p):=rw'
    cases d with
    | tup l'=>obtain⟨_,_,e,h1,_⟩:=eG (.inl rp);cases e;rw[fT h1 (ext.tup _ _ h1)];exact hq
    | lst l'=>
      cases rp with
      | lst h1 _=>rw[fT h1 (ext.frz _ _ _ h1)];exact hq
    | dic ks vs=>cases e3
    | str z=>cases rp
    | _=>cases e3
   ·obtain⟨q,eq,ow⟩:=ok1'.ownAt hs hm
    rw[r1]at eq
    have eq:=Option.some.inj (Option.some.inj eq)
    rw[ev]at eq;cases eq
    obtain⟨o,ho,_⟩:=ow.obj
    have nm:¬ nO (lend i σ2) σV p:=by
     rintro⟨j,t,ej,m,ea⟩
     by_cases hmt:s.m.mt=true
     ·rw[sW hs hmt]at ej
      rcases bS ej with⟨_,z2,_⟩ | ⟨z,z2⟩
      ·cases z2;cases m
      ·exact ok1'.dis j i t s p z z2 hs m hm ea (by rw[r1,ev])
     ·rw[yJ (fun s' hs'=>by rw[hs]at hs';cases hs';exact Bool.eq_false_iff.mpr hmt)]at ej
      by_cases z:j=i
      ·subst z;rw[hs]at ej;cases ej;exact hmt m
      ·exact ok1'.dis j i t s p z ej hs m hm ea (by rw[r1,ev])
    rw[fT ho (st3.fr p o ho nm)];exact hq
theorem fV{X:Cx}{tg e:Expr}{r:DE}(K:PySem.W.Frag)(hK:X.K=K)(h:GE X e r):GI X tg e (dIt r):=.mk fun Γ=>piW (aZ7 K hK (h.to Γ)) fun σV H R ⟨σ,ok,items,l,σ1,e,k⟩=>by
 obtain⟨⟨x,σ2⟩,e1,e⟩:=aD e
 obtain⟨d,e2,e⟩:=aD e
 obtain⟨its,e3,e⟩:=aD e
 cases e
 refine⟨σ,ok,x,_,e1,fun v H1 ok1 r1 st1 f1=>?_⟩
 have vw:=r1.vw ok1 e2
 have stay:=oY ok1 r1 e2 e3 vw
 cases d with
 | lst l'=>
   cases e3
   obtain⟨p,xs,rfl,hq,hr⟩:=gJ vw
   refine .inl ⟨xs,hq,k _ H1 _ ok1 st1 (vY (vS (xs:=xs))) fun σ3 σV3 H3 st3=>?_⟩
   obtain⟨h1,h2⟩:=stay p true xs rfl hq hr σ3 σV3 H3 st3
   exact⟨eU h1,h2⟩
 | tup l'=>
   cases e3
   obtain⟨p,xs,rfl,hq,hr⟩:=eG vw
   refine .inr ⟨xs,bU hq,k _ H1 _ ok1 st1 (vY (bL7 (xs:=xs))) fun σ3 σV3 H3 st3=>?_⟩
   obtain⟨h1,h2⟩:=stay p false xs rfl (bU hq) hr σ3 σV3 H3 st3
   exact⟨cY h1,h2⟩
 | str z=>
   cases e3
   obtain rfl:=iN vw
   exact k _ H1 (fun H=>True/\Rps H (rM z) (eV z)) ok1 st1 (vY bL8) fun σ3 σV3 H3 st3=>⟨True.intro,vX z⟩
 | _=>cases e3
def oC(lo:Int)(n:Nat):List D:=(List.range n).map fun(i:Nat)=>D.int (lo+(i:Int))
theorem bA6{H:Hp}(lo:Int)(n:Nat):Rps H (oC lo n) (cC2 lo n):=by
 unfold oC cC2
 induction List.range n with
 | nil=>exact .nil
 | cons a r ih=>exact .cons (.int _) ih
def qS(ra:DA):DI:=fun σ=>(ra σ).bind fun x=>(rds x.2 x.1).bind fun ds=>match ds with
 | [.int j]=>if -(2 ^ 62)<=j/\j < 2 ^ 62 then some (oC 0 j.toNat,none,x.2)else none
 | [.int i,.int j]=>if(-(2 ^ 62)<=i/\i < 2 ^ 62) /\ -(2 ^ 62)<=j/\j < 2 ^ 62 then some (oC i (j-i).toNat,none,x.2)else none
 | _=>none
theorem iI{X:Cx}{tg e:Expr}{ra:DA}(h:∀ Γ,PI X tg e (cA5 (dTA Γ ra)))(h1:∀ σ rs σ',ra σ=some (rs,σ')->rs.length=1):GI X tg e (qS ra):=.mk fun Γ=>piW (h Γ) fun σV H R ⟨σ,ok,items,l,σ1,e,k⟩=>by
 obtain⟨⟨x,σ2⟩,e1,e⟩:=aD e
 obtain⟨ds,e2,e⟩:=aD e
 refine⟨σ,ok,x,_,e1,fun vs H1 ok1 r1 st1 f1=>?_⟩
 have vw:=oX ok1 r1 e2
 have hl:=h1 _ _ _ e1
 dsimp only at e
 split at e
 ·split at e
  ·rename_i hj
   cases e
   cases vw with
   | cons a t=>
     cases t
     obtain rfl:=cP a
     exact⟨_,rfl,hj.1,hj.2,k _ H1 (fun H=>True/\Rps H _ _) ok1 st1 (vY lC) fun σ3 σV3 H3 st3=>⟨True.intro,bA6 _ _⟩⟩
  ·cases e
 ·exfalso
  cases vw with
  | cons a t=>cases t with
    | cons b t=>
      cases r1 with
      | cons _ q _=>cases q with
        | cons _ q _=>simp at hl
 ·cases e
theorem cD5{X:Cx}{tg e:Expr}{ra:DA}(h:∀ Γ,PI X tg e (cA6 (dTA Γ ra)))(h1:∀ σ rs σ',ra σ=some (rs,σ')->rs.length=2):GI X tg e (qS ra):=.mk fun Γ=>piW (h Γ) fun σV H R ⟨σ,ok,items,l,σ1,e,k⟩=>by
 obtain⟨⟨x,σ2⟩,e1,e⟩:=aD e
 obtain⟨ds,e2,e⟩:=aD e
 refine⟨σ,ok,x,_,e1,fun vs H1 ok1 r1 st1 f1=>?_⟩
 have vw:=oX ok1 r1 e2
 have hl:=h1 _ _ _ e1
 dsimp only at e
 split at e
 ·exfalso
  cases vw with
  | cons a t=>
    cases t
    cases r1 with
    | cons _ q _=>cases q;simp at hl
 ·split at e
  ·rename_i hj
   cases e
   cases vw with
   | cons a t=>cases t with
     | cons b t=>
       cases t
       obtain rfl:=cP a
       obtain rfl:=cP b
       exact⟨_,_,rfl,⟨hj.1.1,hj.1.2,hj.2.1,hj.2.2⟩,k _ H1 (fun H=>True/\Rps H _ _) ok1 st1 (vY lC) fun σ3 σV3 H3 st3=>⟨True.intro,bA6 _ _⟩⟩
  ·cases e
 ·cases e
theorem aC1{r:DE}:∀ σ rs σ',aC r aM σ=some (rs,σ')->rs.length=1:=fun σ rs σ' e=>by
 obtain⟨x,_,e⟩:=aD e
 cases e;rfl
theorem dL6{r r':DE}:∀ σ rs σ',aC r (aC r' aM) σ=some (rs,σ')->rs.length=2:=fun σ rs σ' e=>by
 obtain⟨x,_,e⟩:=aD e
 obtain⟨y,h,e⟩:=aD e
 cases e
 have:=aC1 _ _ _ h
 simp[this]
def bA7(g:DG)(b:DS):List D->Sg->Option Out
 | [],σ=>some (.nx σ)
 | d::r,σ=>(g d σ).bind fun σ1=>(b σ1).bind fun o=>match o with
   | .nx σ2=>bA7 g b r σ2
   | .ct σ2=>bA7 g b r σ2
   | .bk σ2=>some (.nx σ2)
   | .rt x σ2=>some (.rt x σ2)
   | .ex c f σ2=>some (.ex c f σ2)
def rP(l:Option Nat)(σ0:Sg):Out->Out
 | .nx σ=>.nx (rO l σ0 σ)
 | .rt r σ=>.rt r (rO l σ0 σ)
 | .bk σ=>.bk (rO l σ0 σ)
 | .ct σ=>.ct (rO l σ0 σ)
 | .ex c f σ=>.ex c f (rO l σ0 σ)
def qO(ri:DI)(g:DG)(b:DS):DS:=fun σ=>(ri σ).bind fun x=>(bA7 g b x.1 (lendO x.2.1 x.2.2)).bind fun o=>some (rP x.2.1 x.2.2 o)
theorem bN2{Γ:Gm}{E:Ex}{own:List Nat}{ri:DI}{g:TG}{gd:DG}{b:DS}(hg:bN0 own g gd){D:Ends}{σV:St}{H:Hp}(h:dTS Γ E (qO ri gd b) D σV H):cZ9 (dTI Γ ri) g (dTS Γ E b) D σV H:=by
 obtain⟨σ,ok,o,e,k⟩:=h
 obtain⟨⟨items,l,σ1⟩,e1,e⟩:=aD e
 obtain⟨o1,e2,e⟩:=aD e
 cases e
 refine⟨σ,ok,items,l,σ1,e1,fun J H1 P ok1 st1 itd stay=>?_⟩
 dsimp only at e2
 -- the end that is wanted of the walk
 have endw:∀ σ2 σV2 H2,StOk Γ H2 σ2 σV2->Step (lendO l σ1) σV H1 σ2 σV2 H2->∀ o2,o2=o1->(∀ σ',o2=.nx σ'->∀ σV' H',StOk Γ H' σ' σV'->Step (lendO l σ1) σV H1 σ' σV' H'->D.nx σV' H'):=by
  intro σ2 σV2 H2 ok2 st2 o2 ho σ' ho' σV' H' ok' st'
  subst ho ho'
  obtain⟨q1,q2⟩:=sX ok1 ok' st'
  exact k σV' H' q1 (st1.trans q2)
 refine⟨fun i m σV2 H2=>m=items.length-i/\i<=items.length/\∃ σ2,bA7 gd b (items.drop i) σ2=some o1/\StOk Γ H2 σ2 σV2/\Step (lendO l σ1) σV H1 σ2 σV2 H2,⟨items.length,by simp,Nat.zero_le _,lendO l σ1,by simpa using e2,ok1.lendO,.refl⟩,?_⟩
 rintro i m σV2 H2 ⟨rfl,hi,σ2,ef,ok2,st2⟩
 have hP:=stay σ2 σV2 H2 st2
 by_cases hlt:i < items.length
 ·have ei:items[i]? = some items[i]:=List.getElem?_eq_getElem hlt
  refine .inr ⟨itd.go H2 i _ hP ei,fun σV3 H3=>∃ m',m' < items.length-i/\m'=items.length-(i+1)/\i+1<=items.length/\∃ σ3,bA7 gd b (items.drop (i+1)) σ3=some o1/\StOk Γ H3 σ3 σV3/\Step (lendO l σ1) σV H1 σ3 σV3 H3,fun σ' H' q=>q,fun y H3 hy=>?_⟩
  obtain⟨sm,ry⟩:=itd.yld H2 i _ y H3 hP ei hy
  rw[List.drop_eq_getElem_cons hlt]at ef
  obtain⟨σ3,eg,ef⟩:=aD ef
  obtain⟨ob,eb,ef⟩:=aD ef
  refine hg Γ H3 _ _ _ σ2 σV2 _ y σ3 _ (ok2.same sm) (st2.trans (.same sm)) ry eg fun σV3 ok3 st3 _ _=>?_
  refine⟨σ3,ok3,ob,eb,?_⟩
  cases ob with
  | nx σ4=>exact fun σV4 H4 ok4 st4=>⟨_,by omega,rfl,hlt,σ4,ef,ok4,st3.trans st4⟩
  | ct σ4=>exact fun σV4 H4 ok4 st4=>⟨_,by omega,rfl,hlt,σ4,ef,ok4,st3.trans st4⟩
  | bk σ4=>
    cases ef
    exact fun σV4 H4 ok4 st4=>endw σ4 σV4 H4 ok4 (st3.trans st4) _ rfl σ4 rfl σV4 H4 ok4 (st3.trans st4)
  | rt x σ4=>
    cases ef
    intro v σV4 H4 ok4 r4 st4
    obtain⟨q1,q2⟩:=sX ok1 ok4 (st3.trans st4)
    exact k v σV4 H4 q1 (cD4 (st3.trans st4) r4) (st1.trans q2)
  | ex c f σ4=>
    cases ef
    intro v d σV4 H4 ok4 r4 st4
    obtain⟨q1,q2⟩:=sX ok1 ok4 (st3.trans st4)
    exact k v d σV4 H4 q1 r4 (st1.trans q2)
 ·have e0:i=items.length:=by omega
  subst e0
  rw[List.drop_length]at ef
  cases ef
  exact .inl ⟨itd.stop H2 hP,endw σ2 σV2 H2 ok2 st2 _ rfl σ2 rfl σV2 H2 ok2 st2⟩
theorem jY{X:Cx}{E:Ex}{own:List Nat}{st:Stmt}{ri:DI}{g:TG}{gd:DG}{b:DS}(hg:bN0 own g gd)(h:∀ Γ,PS X st (cZ9 (dTI Γ ri) g (dTS Γ E b))):GS E X st (qO ri gd b):=.mk fun Γ=>psW (h Γ) fun _ _ _=>bN2 hg
theorem bA8:∃ n:Nat,1000000<=n:=⟨_,Nat.le_refl _⟩
noncomputable def cL4:Nat:=Classical.choose bA8
theorem cD6:1000000<=cL4:=Classical.choose_spec bA8
def mX(c:DT)(b:DS):Nat->Sg->Option Out
 | 0,_=>none
 | n+1,σ=>(c σ).bind fun x=>if x.1=true then(b x.2).bind fun o=>match o with
   | .nx σ2=>mX c b n σ2
   | .ct σ2=>mX c b n σ2
   | .bk σ2=>some (.nx σ2)
   | .rt r σ2=>some (.rt r σ2)
   | .ex c f σ2=>some (.ex c f σ2)else some (.nx x.2)
noncomputable def aC2(c:DT)(b:DS):DS:=fun σ=>mX c b cL4 σ
theorem aR8{Γ:Gm}{E:Ex}{c:DT}{b:DS}{D:Ends}{σV:St}{H:Hp}(h:dTS Γ E (aC2 c b) D σV H):aV0 (dTT Γ c) (dTS Γ E b) D σV H:=by
 obtain⟨σ,ok,o,e,k⟩:=h
 refine⟨fun m σV2 H2=>∃ σ2,mX c b m σ2=some o/\StOk Γ H2 σ2 σV2/\Step σ σV H σ2 σV2 H2,⟨cL4,σ,e,ok,.refl⟩,?_⟩
 rintro m σV2 H2 ⟨σ2,ew,ok2,st2⟩
 cases m with
 | zero=>cases ew
 | succ n=>
   obtain⟨⟨t,σ3⟩,e1,ew⟩:=aD ew
   refine⟨σ2,ok2,t,σ3,e1,fun H3 ok3 st3=>?_⟩
   dsimp only at ew
   split at ew
   ·rename_i ht
    rw[if_pos ht]
    obtain⟨ob,eb,ew⟩:=aD ew
    refine⟨fun σV4 H4=>∃ m',m' < n+1/\∃ σ4,mX c b m' σ4=some o/\StOk Γ H4 σ4 σV4/\Step σ σV H σ4 σV4 H4,fun _ _ q=>q,σ3,ok3,ob,eb,?_⟩
    cases ob with
    | nx σ4=>exact fun σV4 H4 ok4 st4=>⟨n,Nat.lt_succ_self n,σ4,ew,ok4,(st2.trans st3).trans st4⟩
    | ct σ4=>exact fun σV4 H4 ok4 st4=>⟨n,Nat.lt_succ_self n,σ4,ew,ok4,(st2.trans st3).trans st4⟩
    | bk σ4=>cases ew;exact fun σV4 H4 ok4 st4=>k σV4 H4 ok4 ((st2.trans st3).trans st4)
    | rt x σ4=>cases ew;exact fun v σV4 H4 ok4 r4 st4=>k v σV4 H4 ok4 r4 ((st2.trans st3).trans st4)
    | ex c f σ4=>cases ew;exact fun v d σV4 H4 ok4 r4 st4=>k v d σV4 H4 ok4 r4 ((st2.trans st3).trans st4)
   ·rename_i ht
    rw[if_neg ht]
    cases ew
    exact k σV2 H3 ok3 (st2.trans st3)
theorem bN3{X:Cx}{E:Ex}{st:Stmt}{c:DT}{b:DS}(h:∀ Γ,PS X st (aV0 (dTT Γ c) (dTS Γ E b))):GS E X st (aC2 c b):=.mk fun Γ=>psW (h Γ) fun _ _ _=>aR8
def bT(ow:List Nat)(σ:Sg):Sg:=ow.foldl (fun σ i=>σ.set i none) σ
def kP(ow:List Nat)(σ τ:Sg):Sg:=ow.foldl (fun τ i=>τ.set i (σ[i]?.getD none)) τ
theorem fW{α:Type}:∀ (ow:List Nat) (σ:List (Option α)),(ow.foldl (fun σ i=>σ.set i none) σ).length=σ.length
 | [],_=>rfl
 | i::r,σ=>(fW r (σ.set i none)).trans (by simp)
theorem eY{α:Type}:∀ (ow:List Nat) (σ:List (Option α)) (j:Nat),j∉ow->(ow.foldl (fun σ i=>σ.set i none) σ)[j]? = σ[j]?
 | [],_,_,_=>rfl
 | i::r,σ,j,h=>by
   have h1:i≠j:=fun z=>h (by rw[z];exact List.mem_cons_self)
   have h2:j∉r:=fun z=>h (List.mem_cons_of_mem _ z)
   show(r.foldl _ (σ.set i none))[j]? = _
   rw[eY r _ j h2,List.getElem?_set_ne h1]
theorem bY{α:Type}:∀ (ow:List Nat) (σ:List (Option α)) (j:Nat) (x:α),(ow.foldl (fun σ i=>σ.set i none) σ)[j]? = some (some x)->j∉ow/\σ[j]? = some (some x)
 | [],_,_,_,h=>⟨by simp,h⟩
 | i::r,σ,j,x,h=>by
   obtain⟨h1,h2⟩:=bY r (σ.set i none) j x h
   rcases bS h2 with⟨_,z,_⟩ | ⟨z,z2⟩
   ·cases z
   ·exact⟨by simp[z,h1],z2⟩
theorem mY:∀ (ow:List Nat) (σ τ:Sg),(kP ow σ τ).length=τ.length
 | [],_,_=>rfl
 | i::r,σ,τ=>(mY r σ (τ.set i (σ[i]?.getD none))).trans (by simp)
theorem jD:∀ (ow:List Nat) (σ τ:Sg) (j:Nat),j∉ow->(kP ow σ τ)[j]? = τ[j]?
 | [],_,_,_,_=>rfl
 | i::r,σ,τ,j,h=>by
   have h1:i≠j:=fun z=>h (by rw[z];exact List.mem_cons_self)
   have h2:j∉r:=fun z=>h (List.mem_cons_of_mem _ z)
   show(kP r σ (τ.set i (σ[i]?.getD none)))[j]? = _
   rw[jD r σ _ j h2,List.getElem?_set_ne h1]
theorem oE:∀ (ow:List Nat) (σ τ:Sg) (j:Nat),j∈ow->σ.length=τ.length->(kP ow σ τ)[j]? = σ[j]?
 | [],_,_,_,h,_=>by simp at h
 | i::r,σ,τ,j,h,hl=>by
   show(kP r σ (τ.set i (σ[i]?.getD none)))[j]? = _
   by_cases hr:j∈r
   ·exact oE r σ _ j hr (by simp[hl])
   ·rw[jD r σ _ j hr]
    have:j=i:=by rcases List.mem_cons.mp h with z | z;exact z;exact absurd z hr
    subst this
    by_cases hj:j < τ.length
    ·rw[List.getElem?_set_self hj,List.getElem?_eq_getElem (by omega:j < σ.length)];rfl
    ·rw[List.getElem?_eq_none_iff.mpr (by simp;omega),List.getElem?_eq_none_iff.mpr (by omega)]
section
variable{Γ:Gm}{H H1 H2:Hp}{σ σ1 τ:Sg}{σV σV2 σV3:St}{ow:List Nat}
theorem StOk.blank(ok:StOk Γ H τ σV2)(hl:σV3.length=σV2.length)(hv:∀ j,j∉ow->σV3[j]? = σV2[j]?):StOk Γ H (bT ow τ) σV3 where
 rel:=fun j t ej=>by
  obtain⟨h1,h2⟩:=bY ow τ j t ej
  rw[hv j h1];exact ok.rel j t h2
 dis:=fun j l t t' q n ej el m m' eq eq'=>by
  obtain⟨h1,h2⟩:=bY ow τ j t ej
  obtain⟨h3,h4⟩:=bY ow τ l t' el
  rw[hv j h1]at eq;rw[hv l h3]at eq'
  exact ok.dis j l t t' q n h2 h4 m m' eq eq'
 own:=fun j t q ej m eq=>by
  obtain⟨h1,h2⟩:=bY ow τ j t ej
  rw[hv j h1]at eq;exact ok.own j t q h2 m eq
 par:=fun j t q ej m eq=>by
  obtain⟨h1,h2⟩:=bY ow τ j t ej
  rw[hv j h1]at eq;exact ok.par j t q h2 m eq
 keep:=ok.keep
 dom:=ok.dom
 len:=by rw[bT,fW,hl];exact ok.len
theorem Step.blank{σb:Sg}(hb:∀ (j:Nat) t,σb[j]? = some (some t)->j∉ow)(st:Step σb σV H1 τ σV2 H2)(hv:∀ j,j∉ow->σV3[j]? = σV2[j]?):Step σb σV H1 (bT ow τ) σV3 H2 where
 fr:=st.fr
 dom:=st.dom
 mu:=fun a ⟨j,t,ej,m,ea⟩=>by
  obtain⟨h1,h2⟩:=bY ow τ j t ej
  rw[hv j h1]at ea;exact st.mu a ⟨j,t,h2,m,ea⟩
 nv:=fun a ⟨j,t,ej,m,ea⟩=>by
  obtain⟨h1,h2⟩:=bY ow τ j t ej
  rw[hv j h1]at ea;exact st.nv a ⟨j,t,h2,m,ea⟩
 kp:=fun j t ej=>by
  obtain⟨t',et⟩:=st.kp j t ej
  exact⟨t',by rw[bT,eY ow τ j (hb j t ej)];exact et⟩
 fix:=fun j t ej m=>by
  obtain⟨t',et,h1,h2,h3⟩:=st.fix j t ej m
  exact⟨t',by rw[bT,eY ow τ j (hb j t ej)];exact et,h1,h2,by rw[hv j (hb j t ej)];exact h3⟩
 lt:=fun j t ej m=>by
  obtain⟨h1,h2⟩:=bY ow τ j t ej
  exact st.lt j t h2 m
theorem cD7(ok1:StOk Γ H1 σ1 σV)(ok:StOk Γ H τ σV2)(hv:∀ j,j∉ow->σV2[j]? = σV[j]?)(hl:σV2.length=σV.length)(st:Step (bT ow σ1) σV2 H1 τ σV2 H) :
  StOk Γ H (kP ow σ1 τ) σV/\Step σ1 σV H1 (kP ow σ1 τ) σV H:=by
 have lens:σ1.length=τ.length:=by rw[ok1.len,ok.len,hl]
 have okb:StOk Γ H1 (bT ow σ1) σV2:=ok1.blank hl hv
 have ext:Ext H1 H:=st.ext okb
 have get:∀ (j:Nat) t,(kP ow σ1 τ)[j]? = some (some t)->(j∈ow/\σ1[j]? = some (some t))\/(j∉ow/\τ[j]? = some (some t)):=fun j t e=>by
  by_cases h:j∈ow
  ·rw[oE ow σ1 τ j h lens]at e;exact .inl ⟨h,e⟩
  ·rw[jD ow σ1 τ j h]at e;exact .inr ⟨h,e⟩
 have bget:∀ (j:Nat) t,(bT ow σ1)[j]? = some (some t)->j∉ow/\σ1[j]? = some (some t):=fun j t e=>bY ow σ1 j t e
 have bput:∀ (j:Nat),j∉ow->(bT ow σ1)[j]? = σ1[j]?:=fun j h=>eY ow σ1 j h
 have subM:∀ a,nO (bT ow σ1) σV2 a->∃ (j:Nat) (t:Sl),j∉ow/\σ1[j]? = some (some t)/\t.m.mt=true/\σV[j]? = some (some (.ref a)):=fun a ⟨j,t,ej,m,ea⟩=>by
  obtain⟨h1,h2⟩:=bget j t ej
  rw[hv j h1]at ea;exact⟨j,t,h1,h2,m,ea⟩
 have subN:∀ a,bJ5 (bT ow σ1) σV2 a->∃ (j:Nat) (t:Sl),j∉ow/\σ1[j]? = some (some t)/\t.m≠.val/\σV[j]? = some (some (.ref a)):=fun a ⟨j,t,ej,m,ea⟩=>by
  obtain⟨h1,h2⟩:=bget j t ej
  rw[hv j h1]at ea;exact⟨j,t,h1,h2,m,ea⟩
 have cross:∀ (j l:Nat) t t' q,j∈ow->σ1[j]? = some (some t)->l∉ow->τ[l]? = some (some t')->t.m≠.val->t'.m≠.val->(t.m.mt=true\/t'.m.mt=true)->σV[j]? = some (some (.ref q))->σV[l]? = some (some (.ref q))->False:=by
  intro j l t t' q hj ej hln el m m' mm eq eq'
  rw[← hv l hln]at eq'
  obtain⟨p,ep,ow'⟩:=ok1.ownAt ej m
  rw[eq]at ep
  have ep:=Option.some.inj (Option.some.inj ep)
  cases ep
  obtain⟨o,ho,_⟩:=ow'.obj
  rcases mm with mm | mm
  ·rcases st.nv q ⟨l,t',el,m',eq'⟩with z | z
   ·obtain⟨l',t2,h1,h2,h3,h4⟩:=subN q z
    exact ok1.dis j l' t t2 q (fun y=>h1 (by rw[← y];exact hj)) ej h2 mm h3 eq h4
   ·rw[ho]at z;cases z
  ·rcases st.mu q ⟨l,t',el,mm,eq'⟩with z | z
   ·obtain⟨l',t2,h1,h2,h3,h4⟩:=subM q z
    exact ok1.dis l' j t2 t q (fun y=>h1 (by rw[y];exact hj)) h2 ej h3 m h4 eq
   ·rw[ho]at z;cases z
 constructor
 ·refine⟨fun j t ej=>?_,fun j l t t' q n ej el m m' eq eq'=>?_,fun j t q ej m eq=>?_,fun j t q ej m eq=>?_,ok.keep,ok.dom,by rw[mY,ok.len,hl]⟩
  ·rcases get j t ej with⟨h,e⟩ | ⟨h,e⟩
   ·obtain⟨w,ew,r⟩:=ok1.rel j t e
    refine⟨w,ew,r.mono ext fun p o ep m hp=>st.fr p o hp fun z=>?_⟩
    obtain⟨l',t2,h1,h2,h3,h4⟩:=subM p z
    exact ok1.dis l' j t2 t p (fun y=>h1 (by rw[y];exact h)) h2 e h3 m h4 (by rw[ew,ep])
   ·obtain⟨w,ew,r⟩:=ok.rel j t e
    exact⟨w,by rw[← hv j h];exact ew,r⟩
  ·rcases get j t ej with⟨h,e⟩ | ⟨h,e⟩
   ·rcases get l t' el with⟨h',e'⟩ | ⟨h',e'⟩
    ·exact ok1.dis j l t t' q n e e' m m' eq eq'
    ·exact cross j l t t' q h e h' e' (gY m) m' (.inl m) eq eq'
   ·rcases get l t' el with⟨h',e'⟩ | ⟨h',e'⟩
    ·exact cross l j t' t q h' e' h e m' (gY m) (.inr m) eq' eq
    ·rw[← hv j h]at eq;rw[← hv l h']at eq'
     exact ok.dis j l t t' q n e e' m m' eq eq'
  ·rcases get j t ej with⟨h,e⟩ | ⟨h,e⟩
   ·exact ok1.own j t q e m eq
   ·rw[← hv j h]at eq;exact ok.own j t q e m eq
  ·rcases get j t ej with⟨h,e⟩ | ⟨h,e⟩
   ·exact ok1.par j t q e m eq
   ·rw[← hv j h]at eq;exact ok.par j t q e m eq
 ·refine⟨fun a o e n=>st.fr a o e fun z=>?_,st.dom,fun a ⟨j,t,ej,m,ea⟩=>?_,fun a ⟨j,t,ej,m,ea⟩=>?_,fun j t ej=>?_,fun j t ej m=>?_,fun j t ej m=>?_⟩
  ·obtain⟨l',t2,h1,h2,h3,h4⟩:=subM a z
   exact n ⟨l',t2,h2,h3,h4⟩
  ·rcases get j t ej with⟨h,e⟩ | ⟨h,e⟩
   ·exact .inl ⟨j,t,e,m,ea⟩
   ·rw[← hv j h]at ea
    rcases st.mu a ⟨j,t,e,m,ea⟩with z | z
    ·obtain⟨l',t2,h1,h2,h3,h4⟩:=subM a z
     exact .inl ⟨l',t2,h2,h3,h4⟩
    ·exact .inr z
  ·rcases get j t ej with⟨h,e⟩ | ⟨h,e⟩
   ·exact .inl ⟨j,t,e,m,ea⟩
   ·rw[← hv j h]at ea
    rcases st.nv a ⟨j,t,e,m,ea⟩with z | z
    ·obtain⟨l',t2,h1,h2,h3,h4⟩:=subN a z
     exact .inl ⟨l',t2,h2,h3,h4⟩
    ·exact .inr z
  ·by_cases h:j∈ow
   ·exact⟨t,by rw[oE ow σ1 τ j h lens];exact ej⟩
   ·obtain⟨t',et⟩:=st.kp j t (by rw[bput j h];exact ej)
    exact⟨t',by rw[jD ow σ1 τ j h];exact et⟩
  ·by_cases h:j∈ow
   ·exact⟨t,by rw[oE ow σ1 τ j h lens];exact ej,rfl,fun _=>rfl,rfl⟩
   ·obtain⟨t',et,h1,h2,h3⟩:=st.fix j t (by rw[bput j h];exact ej) m
    exact⟨t',by rw[jD ow σ1 τ j h];exact et,h1,h2,rfl⟩
  ·rcases get j t ej with⟨h,e⟩ | ⟨h,e⟩
   ·exact⟨t,e,m⟩
   ·obtain⟨t1,e1,m1⟩:=st.lt j t e m
    exact⟨t1,(bget j t1 e1).2,m1⟩
end
def yK(ow:List Nat)(g:DG)(t:DT)(e:DE):List D->Sg->Option (List D×Sg)
 | [],τ=>some ([],τ)
 | d :: r,τ=>(g d τ).bind fun τ1=>(t τ1).bind fun x=>if x.1=true then(e x.2).bind fun y=>match y.1 with
     | .val d'=>(yK ow g t e r (bT ow y.2)).bind fun z=>some (d'::z.1,z.2)
     | _=>none else yK ow g t e r (bT ow x.2)
def iU:DT:=fun σ=>some (true,σ)
def eC(ow:List Nat)(ri:DI)(g:DG)(t:DT)(e:DE):DE:=fun σ=>(ri σ).bind fun x=>if x.1.length<=sizeLine then(yK ow g t e x.1 (bT ow (lendO x.2.1 x.2.2))).bind fun y=>
 some (.own (.lst y.1),rO x.2.1 x.2.2 (kP ow (lendO x.2.1 x.2.2) y.2))else none
theorem wA{Γ:Gm}{ow:List Nat}{ri:DI}{g:TG}{gd:DG}{t:DT}{e:DE}(hg:bN0 ow g gd){σV:St}{H:Hp}{Q:VK}(h:dTE Γ (eC ow ri gd t e) σV H Q) :
  aR2 ow (dTI Γ ri) g (dTT Γ t) (dTE Γ e) σV H Q:=by
 obtain⟨σ,ok,res,σ',er,k⟩:=h
 obtain⟨⟨items,l,σ1⟩,e1,er⟩:=aD er
 dsimp only at er
 split at er
 case isFalse=>cases er
 case isTrue hlen=>
 obtain⟨⟨all,τe⟩,e2,er⟩:=aD er
 cases er
 refine⟨σ,ok,items,l,σ1,e1,fun J H1 P ok1 st1 itd stay=>?_⟩
 have bl:(blank ow σV).length=σV.length:=fW ow σV
 have bo:∀ j,j∉ow->(blank ow σV)[j]? = σV[j]?:=fun j hj=>eY ow σV j hj
 have okL:StOk Γ H1 (lendO l σ1) σV:=ok1.lendO
 have okB:StOk Γ H1 (bT ow (lendO l σ1)) (blank ow σV):=okL.blank bl bo
 have hb:∀ (j:Nat) t,(bT ow (lendO l σ1))[j]? = some (some t)->j∉ow:=fun j t ej=>(bY ow _ j t ej).1
 -- a step within,as a step of the whole
 have whole:∀ τ H2,StOk Γ H2 τ (blank ow σV)->Step (bT ow (lendO l σ1)) (blank ow σV) H1 τ (blank ow σV) H2->StOk Γ H2 (kP ow (lendO l σ1) τ) σV/\Step (lendO l σ1) σV H1 (kP ow (lendO l σ1) τ) σV H2:=
  fun τ H2 ok2 st2=>cD7 okL ok2 bo bl st2
 refine⟨fun i m ys H2=>m=items.length-i/\i<=items.length/\∃ τ don gF,yK ow gd t e (items.drop i) τ=some (gF,τe)/\don++gF=all/\don.length<=i/\Rps H2 don ys/\StOk Γ H2 τ (blank ow σV)/\Step (bT ow (lendO l σ1)) (blank ow σV) H1 τ (blank ow σV) H2,
  ⟨items.length,by simp,Nat.zero_le _,bT ow (lendO l σ1),[],all,by simpa using e2,rfl,Nat.zero_le _,.nil,okB,.refl⟩,?_⟩
 rintro i m ys H2 ⟨rfl,hi,τ,don,gF,ec,hall,hdl,hr,ok2,st2⟩
 have hyl:=hr.length
 obtain⟨okw,stw⟩:=whole τ H2 ok2 st2
 have hP:=stay _ σV H2 stw
 refine⟨by omega,?_⟩
 by_cases hlt:i < items.length
 ·have ei:items[i]? = some items[i]:=List.getElem?_eq_getElem hlt
  refine .inr ⟨itd.go H2 i _ hP ei,fun y H3 hy=>?_⟩
  obtain⟨sm,ry⟩:=itd.yld H2 i _ y H3 hP ei hy
  rw[List.drop_eq_getElem_cons hlt]at ec
  obtain⟨τ1,eg,ec⟩:=aD ec
  obtain⟨⟨b,τ2⟩,et,ec⟩:=aD ec
  refine hg Γ H3 _ _ _ τ (blank ow σV) _ y τ1 _ (ok2.same sm) (st2.trans (.same sm)) ry eg fun σV3 ok3 st3 l3 f3=>?_
  have ext3:Ext H2 H3:=.same sm
  refine⟨τ1,ok3,b,τ2,et,fun H4 ok4 st4=>?_⟩
  have ext4:Ext H3 H4:=st4.ext ok3
  dsimp only at ec
  split at ec
  ·rename_i hbt
   dsimp only
   rw[if_pos hbt]
   obtain⟨⟨r5,τ3⟩,ee,ec⟩:=aD ec
   refine⟨τ2,ok4,r5,τ3,ee,fun v H5 ok5 r5' st5 f5=>?_⟩
   dsimp only at ec
   split at ec
   ·rename_i d'
    obtain⟨⟨rest',τe'⟩,ec',ec⟩:=aD ec
    cases ec
    refine⟨_,by omega,rfl,hlt,bT ow τ3,don++[d'],rest',ec',by rw[← hall];simp,by simp;omega,?_,ok5.blank (by rw[l3]) (fun j hj=>((f3 j hj).1).symm),Step.blank hb ((st3.trans st4).trans st5) fun j hj=>((f3 j hj).1).symm⟩
    exact((hr.mono ext3).mono ext4 |>.mono (st5.ext ok4)).append (.cons r5' .nil)
   ·cases ec
  ·rename_i hbf
   dsimp only
   rw[if_neg hbf]
   refine⟨_,by omega,rfl,hlt,bT ow τ2,don,gF,ec,hall,by omega,(hr.mono ext3).mono ext4,ok4.blank (by rw[l3]) (fun j hj=>((f3 j hj).1).symm),Step.blank hb (st3.trans st4) fun j hj=>((f3 j hj).1).symm⟩
 ·have e0:i=items.length:=by omega
  subst e0
  rw[List.drop_length]at ec
  cases ec
  rw[List.append_nil]at hall
  subst hall
  refine .inl ⟨itd.stop H2 hP,fun p hp=>?_⟩
  obtain⟨okU,stU⟩:=sX ok1 okw stw
  have sm:xS H2 (upd H2 p (.lst ys)):=bH hp
  have nw:yH H2 (upd H2 p (.lst ys)) (.own (.lst don)) (.ref p):=⟨p,rfl,hp,ys,aR,hr.mono (.same sm)⟩
  exact k _ _ (okU.same sm) (nw.res okU) ((st1.trans stU).trans (.same sm)) (nw.frh.back (st1.trans stU))
theorem dM{X:Cx}{ow:List Nat}{ex:Expr}{ri:DI}{g:TG}{gd:DG}{t:DT}{e:DE}(hg:bN0 ow g gd)(h:∀ Γ,PE X ex (aR2 ow (dTI Γ ri) g (dTT Γ t) (dTE Γ e))):GE X ex (eC ow ri gd t e):=.mk fun Γ=>peW (h Γ) fun _ _ _=>wA hg
theorem dF{X:Cx}{Γ:Gm}:bU5 X [] (dTT Γ iU):=fun pins s σ H Q I ⟨τ,ok,b,σ',e,k⟩=>sO pins s σ H Q I (by cases e;exact k H ok .refl)
theorem lJ{X:Cx}{Γ:Gm}{c:Expr}{t:DT}(h:GT X c t):bU5 X [c] (dTT Γ t):=aA4 (h.to Γ)
theorem rQ{X:Cx}{E:Ex}{ow:List Nat}{i:Nat}{st:Stmt}{ri:DI}{g:TG}{gd:DG}{t:DT}{e:DE}(hg:bN0 ow g gd)(h:∀ Γ,PS X st (fun D σ H=>aR2 ow (dTI Γ ri) g (dTT Γ t) (dTE Γ e) σ H fun v H1=>D.nx (σ.set i (some v)) H1)):GS E X st (bV i (eC ow ri gd t e)):=.mk fun Γ=>psW (h Γ) fun D σV H h=>wA hg (aC0 h)
abbrev Run:=List Sl->Option (Res×List Sl)
structure ArgOk(H:Hp)(as:List Sl)(vs:List V):Prop where
 len:as.length=vs.length
 rel:∀ (i:Nat) s,as[i]? = some s->∃ v,vs[i]? = some v/\bM5 H s v
 dis:∀ (i j:Nat) s t p,i≠j->as[i]? = some s->as[j]? = some t->s.m.mt=true->t.m≠.val->vs[i]? = some (.ref p)->vs[j]? = some (.ref p)->False
 own:∀ (i:Nat) s,as[i]? = some s->s.m≠.own
def cD8(as:List Sl)(vs:List V)(a:Addr):Prop:=∃ (i:Nat) (s:Sl),as[i]? = some s/\s.m.mt=true/\vs[i]? = some (.ref a)
structure PostOk(as:List Sl)(vs:List V)(H:Hp)(as':List Sl)(H':Hp):Prop where
 rel:∀ (i:Nat) s,as[i]? = some s->s.m.mt=true->∃ s' v,as'[i]? = some s'/\s'.m=s.m/\vs[i]? = some v/\bM5 H' s' v
 fr:∀ a o,H a=some o->¬ cD8 as vs a->H' a=some o
 dom:∀ a,H' a=none->H a=none
def dsp(n:Nat)(run:Run):Sp:=fun vs H Q _=>∃ as res as',ArgOk H as vs/\as.length=n/\run as=some (res,as')/\∀ v H',PostOk as vs H as' H'->yH H H' res v->Q v H'
def cL5(σ:Sg):Res->Option Res
 | .val d=>some (.val d)
 | .own d=>some (.own d)
 | .slot i=>match σ[i]? with
   | some (some s)=>if s.m=.own then some (.own s.d)else if s.m=.val then some (.val s.d)else none
   | _=>none
def oZ:List Sl->Sg->List Sl
 | [],_=>[]
 | a::as,some s::σ=>(if a.m=.val then a else s)::oZ as σ
 | a::as,_::σ=>a::oZ as σ
 | a::as,[]=>a::as
def ini(len:Nat)(as:List Sl):Sg:=as.map some++List.replicate (len-as.length) none
def nQ(len:Nat)(body:DS):Run:=fun as=>(body (ini len as)).bind fun o=>match o with
 | .nx σ=>some (.val .non,oZ as σ)
 | .rt r σ=>(cL5 σ r).bind fun r'=>some (r',oZ as σ)
 | _=>none
theorem kQ{len:Nat}{as:List Sl}{i:Nat}{s:Sl}:(ini len as)[i]? = some (some s)↔as[i]? = some s:=by
 unfold ini
 by_cases h:i < as.length
 ·rw[List.getElem?_append_left (by simpa using h),List.getElem?_map]
  cases as[i]? <;> simp
 ·rw[List.getElem?_append_right (by simpa using h),List.getElem?_replicate,List.getElem?_eq_none_iff.mpr (by omega)]
  split<;>simp
theorem gZ{N:List Str}{vs:List V}{i:Nat}{v:V}:(L2.iF N vs)[i]? = some (some v)↔vs[i]? = some v:=by
 unfold L2.iF
 by_cases h:i < vs.length
 ·rw[List.getElem?_append_left (by simpa using h),List.getElem?_map]
  cases vs[i]? <;> simp
 ·rw[List.getElem?_append_right (by simpa using h),List.getElem?_replicate,List.getElem?_eq_none_iff.mpr (by omega)]
  split<;>simp
theorem aC3:∀ {as:List Sl} {σ:Sg} {i:Nat} {a s:Sl},as[i]? = some a->σ[i]? = some (some s)->(oZ as σ)[i]? = some (if a.m=.val then a else s)
 | [],_,_,_,_,h,_=>by simp at h
 | _::_,[],_,_,_,_,h=>by simp at h
 | a::as,o::σ,0,a',s,h,h'=>by
   simp at h h'
   subst h h'
   unfold oZ
   simp
 | a::as,o::σ,i+1,a',s,h,h'=>by
   have:=aC3 (as:=as) (σ:=σ) (i:=i) (a:=a') (s:=s) (by simpa using h) (by simpa using h')
   cases o<;>(unfold oZ;simpa using this)
section
variable{P:Program}{w:World}{K:PySem.W.Frag}{mg:Str->Option Value}{base:Heap}
abbrev MS:=Sg->(Out->Prop)->Prop
abbrev MC:=List Sl->(Res->List Sl->Prop)->Prop
def aC4(m:MS):Prop:=∀ σ (Q Q':Out->Prop),(∀ o,Q o->Q' o)->m σ Q->m σ Q'
def mTS(Γ:Gm)(E:Ex)(m:MS):TS:=fun D σV H=>∃ σ,StOk Γ H σ σV/\m σ fun o=>bA5 Γ E σ σV H o D
structure GM(E:Ex)(X:Cx)(ss:List Stmt)(m:MS):Prop where
 to:∀ Γ,PSs X ss (mTS Γ E m)
 mon:aC4 m
def bA9(n:Nat)(C:MC):Sp:=fun vs H Q _=>∃ as,ArgOk H as vs/\as.length=n/\C as fun res as'=>∀ v H',PostOk as vs H as' H'->yH H H' res v->Q v H'
def dH8(as:List Sl)(K:Res->List Sl->Prop)(o:Out):Prop:=match o with
 | .nx σ=>K (.val .non) (oZ as σ)
 | .rt r σ=>∃ r',cL5 σ r=some r'/\K r' (oZ as σ)
 | _=>False
def cL6(len:Nat)(m:MS):MC:=fun as K=>m (ini len as) (dH8 as K)
theorem yL{x qual:Str}{st:Stmt}{f:Addr}{fd:FuncData}{N ps:List Str}{k:Nat}(F:Fun K x qual st f fd)(S:FnScope N ps (aS st))(hNl:ps.length<=N.length)(m:MS)(hm:aC4 m)
  (hb:∀ (cdv:Value) (A:Around) (outer:List Env) (s:Shared) (H:Hp) (E:XK),Room k (A.deeper (PyProof.Rows.envOfC qual (aS st) s.heap.objs.size f cdv))->∀ Γ,PSs (bU0 CX0 P w K mg base N qual (aS st) f cdv A outer s H E).nox (mB st) (mTS Γ Ex.no m)) :
  FnOk P w K mg base CX0 (k+1) f fd ps (bA9 ps.length (cL6 N.length m)):=by
 refine F.ok S (fun vs H Q E ⟨as,ok,hl,_⟩=>by rw[← ok.len];exact hl) fun cdv A outer s H vs Q E hr h=>?_
 obtain⟨as,ok,hl,h⟩:=h
 refine⟨_,hb cdv A outer s H E hr ⟨H,cD8 as vs⟩,ini N.length as,?_,hm _ _ _ (fun o k=>?_) h⟩
 ·refine⟨fun i s e=>?_,fun i j s t p n ei ej m m' e e'=>?_,fun i s p ei m=>?_,fun i s p ei m e=>?_,fun a o e _=>e,fun a e=>e,?_⟩
  ·obtain⟨v,e1,r⟩:=ok.rel i s (kQ.mp e)
   exact⟨v,gZ.mpr e1,r⟩
  ·exact ok.dis i j s t p n (kQ.mp ei) (kQ.mp ej) m m' (gZ.mp e) (gZ.mp e')
  ·exact absurd m (ok.own i s (kQ.mp ei))
  ·exact⟨i,s,kQ.mp ei,by rw[m];rfl,gZ.mp e⟩
  ·unfold ini L2.iF
   have:=ok.len
   simp;omega
 ·have post:∀ σ σV' H',StOk ⟨H,cD8 as vs⟩ H' σ σV'->Step (ini N.length as) (L2.iF N vs) H σ σV' H'->PostOk as vs H (oZ as σ) H':=fun σ σV' H' ok' st'=>by
   have nl:∀ a,nO (ini N.length as) (L2.iF N vs) a->cD8 as vs a:=fun a ⟨j,t,ej,m,ea⟩=>⟨j,t,kQ.mp ej,m,gZ.mp ea⟩
   refine⟨fun i a ei m=>?_,fun a o e n=>st'.fr a o e fun z=>n (nl a z),st'.dom⟩
   have hp:a.m=.par:=by
    have h0:=ok.own i a ei
    cases q:a.m with
    | par=>rfl
    | own=>exact absurd q h0
    | val=>rw[q]at m;cases m
    | lent=>rw[q]at m;cases m
   obtain⟨s',es,ms,_,ev⟩:=st'.fix i a (kQ.mpr ei) (.inl hp)
   obtain⟨v,e1,r⟩:=ok'.rel i s' es
   obtain⟨v0,e0,_⟩:=ok.rel i a ei
   have:some (some v)=some (some v0):=by rw[← e1,ev];exact gZ.mpr e0
   cases this
   refine⟨s',v,?_,ms,e0,r⟩
   rw[aC3 ei es,if_neg (by rw[hp];exact fun z=>nomatch z)]
  cases o with
  | nx σ=>
    exact fun σV' H' ok' st'=>k .non H' (post σ σV' H' ok' st') .non
  | rt r σ=>
    obtain⟨res,e1,k⟩:=k
    intro v σV' H' ok' r1 st'
    refine k v H' (post σ σV' H' ok' st') ?_
    cases r with
    | val d=>cases e1;exact r1
    | own d=>
      cases e1
      obtain⟨p,q1,q2,q3,q4⟩:=r1
      exact⟨p,q1,q4,q2⟩
    | slot i=>
      obtain⟨q1,s',q2⟩:=r1
      have e1':(match σ[i]? with | some (some s)=>if s.m=.own then some (Res.own s.d)else if s.m=.val then some (.val s.d)else none | _=>none)=some res:=e1
      rw[q2]at e1'
      dsimp only at e1'
      obtain⟨v',ev,rv⟩:=ok'.rel i s' q2
      rw[q1]at ev;cases ev
      split at e1'
      ·rename_i hm
       cases e1'
       obtain⟨p,rfl,ow⟩:=(cS (by rw[hm];exact fun z=>nomatch z)).mp rv
       exact⟨p,rfl,ok'.own i s' p q2 hm q1,ow⟩
      ·split at e1'
       ·rename_i hm
        cases e1'
        obtain⟨m,d⟩:=s'
        cases hm
        exact rv
       ·cases e1'
  | bk σ=>exact k.elim
  | ct σ=>exact k.elim
  | ex c f σ=>exact k.elim
theorem cB{x qual:Str}{st:Stmt}{f:Addr}{fd:FuncData}{N ps:List Str}{k:Nat}(F:Fun K x qual st f fd)(S:FnScope N ps (aS st))(hNl:ps.length<=N.length)(body:DS)
  (hb:∀ (cdv:Value) (A:Around) (outer:List Env) (s:Shared) (H:Hp) (E:XK),Room k (A.deeper (PyProof.Rows.envOfC qual (aS st) s.heap.objs.size f cdv))->GSs Ex.no (bU0 CX0 P w K mg base N qual (aS st) f cdv A outer s H E).nox (mB st) body) :
  FnOk P w K mg base CX0 (k+1) f fd ps (dsp ps.length (nQ N.length body)):=
 (yL F S hNl (fun σ Q=>∃ o,body σ=some o/\Q o) (fun σ Q Q' w ⟨o,e,q⟩=>⟨o,e,w o q⟩) fun cdv A outer s H E hr Γ=>cS9 ((hb cdv A outer s H E hr).to Γ) fun D σV H ⟨σ,ok,o,e,q⟩=>⟨σ,ok,o,e,q⟩).imp
  fun vs H Q E ⟨as,res,as',ok,hl,hrun,k⟩=>by
   obtain⟨o,eo,hrun⟩:=aD hrun
   refine⟨as,ok,hl,o,eo,?_⟩
   cases o with
   | nx σ=>cases hrun;exact k
   | rt r σ=>
     obtain⟨r',e1,hrun⟩:=aD hrun
     cases hrun
     exact⟨_,e1,k⟩
   | bk σ=>cases hrun
   | ct σ=>cases hrun
   | ex c f σ=>cases hrun
end
def yM(σ:Sg):Res->Option Sl
 | .val d=>some ⟨.val,d⟩
 | .own d=>some ⟨.par,d⟩
 | .slot i=>match σ[i]? with
   | some (some s)=>some ⟨if s.m.mt=true then .par else s.m,s.d⟩
   | _=>none
def pA(σ:Sg):List Res->Option (List Sl)
 | []=>some []
 | r::rs=>(yM σ r).bind fun a=>(pA σ rs).bind fun as=>some (a::as)
def bB0(i:Nat):List Res->Bool
 | []=>false
 | .slot j::rs=>decide (i=j)||bB0 i rs
 | _::rs=>bB0 i rs
def eA:List Res->Bool
 | []=>true
 | .slot i::rs=>!bB0 i rs&&eA rs
 | _::rs=>eA rs
def jE(j:Nat):List Res->List Sl->Option Sl
 | .slot i::rs,a::as=>if i=j then some a else jE j rs as
 | _::rs,_::as=>jE j rs as
 | _,_=>none
def iJ(rs:List Res)(as:List Sl):Nat->Sg->Sg
 | _,[]=>[]
 | k,some s::σ=>(match jE k rs as with
   | some a=>some (if s.m.mt=true then⟨s.m,a.d⟩else s)
   | none=>some s)::iJ rs as (k+1) σ
 | k,none::σ=>none::iJ rs as (k+1) σ
def aQ(n:Nat)(run:Run)(ra:DA):DE:=fun σ=>(ra σ).bind fun x=>(pA x.2 x.1).bind fun as=>if as.length=n/\eA x.1=true then(run as).bind fun y=>some (y.1,iJ x.1 y.2 0 x.2)else none
theorem rR{σ:Sg}:∀ {rs:List Res} {as:List Sl},pA σ rs=some as->as.length=rs.length/\∀ (k:Nat) r,rs[k]? = some r->∃ a,as[k]? = some a/\yM σ r=some a
 | [],as,h=>by cases h;exact⟨rfl,fun k r e=>by simp at e⟩
 | r::rs,as,h=>by
   obtain⟨a,e1,h⟩:=aD h
   obtain⟨as',e2,h⟩:=aD h
   cases h
   obtain⟨l,g⟩:=rR e2
   refine⟨by simp[l],fun k r' e=>?_⟩
   cases k with
   | zero=>simp at e;subst e;exact⟨a,rfl,e1⟩
   | succ k=>
     obtain⟨a',h1,h2⟩:=g k r' (by simpa using e)
     exact⟨a',by simpa using h1,h2⟩
theorem ResOks.get{Γ:Gm}{H:Hp}{σ:Sg}{σV:St}:∀ {rs:List Res} {vs:List V},ResOks Γ H σ σV rs vs->rs.length=vs.length/\∀ (k:Nat) r,rs[k]? = some r->∃ v,vs[k]? = some v/\jA Γ H σ σV r v
 | _,_,.nil=>⟨rfl,fun k r e=>by simp at e⟩
 | _,_,.cons h t _=>by
   obtain⟨l,g⟩:=ResOks.get t
   refine⟨by simp[l],fun k r' e=>?_⟩
   cases k with
   | zero=>simp at e;subst e;exact⟨_,rfl,h⟩
   | succ k=>
     obtain⟨a',h1,h2⟩:=g k r' (by simpa using e)
     exact⟨a',by simpa using h1,h2⟩
theorem ResOks.dis{Γ:Gm}{H:Hp}{σ:Sg}{σV:St}:∀ {rs:List Res} {vs:List V},ResOks Γ H σ σV rs vs->∀ (k l:Nat) d d' p,k < l->rs[k]? = some (.own d)->rs[l]? = some (.own d')->vs[k]? = some (.ref p)->vs[l]? ≠ some (.ref p)
 | _,_,.nil,k,l,d,d',p,_,e,_,_=>by simp at e
 | _,_,.cons h t q,k,l,d,d',p,hkl,e,e',ev=>by
   cases l with
   | zero=>omega
   | succ l=>
     cases k with
     | zero=>
       simp at e ev
       subst e ev
       intro z
       exact q d p rfl rfl l d' (by simpa using e') (by simpa using z)
     | succ k=>
       intro z
       exact ResOks.dis t k l d d' p (by omega) (by simpa using e) (by simpa using e') (by simpa using ev) (by simpa using z)
theorem oF{i:Nat}:∀ {rs:List Res} {k:Nat},rs[k]? = some (.slot i)->bB0 i rs=true
 | [],_,h=>by simp at h
 | r::rs,0,h=>by simp at h;subst h;simp[bB0]
 | r::rs,k+1,h=>by
   have:=oF (rs:=rs) (k:=k) (by simpa using h)
   cases r<;>simp[bB0,this]
theorem mG:∀ {rs:List Res},eA rs=true->∀ (k l i:Nat),rs[k]? = some (.slot i)->rs[l]? = some (.slot i)->k=l
 | [],_,k,l,i,h,_=>by simp at h
 | r::rs,hn,k,l,i,h,h'=>by
   cases k with
   | zero=>
     cases l with
     | zero=>rfl
     | succ l=>
       simp at h
       subst h
       unfold eA at hn
       rw[Bool.and_eq_true]at hn
       rw[oF (k:=l) (by simpa using h')]at hn
       simp at hn
   | succ k=>
     cases l with
     | zero=>
       simp at h'
       subst h'
       unfold eA at hn
       rw[Bool.and_eq_true]at hn
       rw[oF (k:=k) (by simpa using h)]at hn
       simp at hn
     | succ l=>
       have hn':eA rs=true:=by
        cases r with
        | slot j=>unfold eA at hn;rw[Bool.and_eq_true]at hn;exact hn.2
        | val d=>exact hn
        | own d=>exact hn
       exact congrArg Nat.succ (mG hn' k l i (by simpa using h) (by simpa using h'))
theorem fU{j:Nat}:∀ {rs:List Res} {as:List Sl} {a:Sl},jE j rs as=some a->∃ k:Nat,rs[k]? = some (.slot j)/\as[k]? = some a
 | [],_,_,h=>by simp[jE]at h
 | r::rs,[],_,h=>by cases r<;>simp[jE]at h
 | r::rs,a::as,b,h=>by
   cases r with
   | slot i=>
     have h':(if i=j then some a else jE j rs as)=some b:=h
     split at h'
     ·rename_i e;cases h';subst e;exact⟨0,rfl,rfl⟩
     ·obtain⟨k,h1,h2⟩:=fU h'
      exact⟨k+1,by simpa using h1,by simpa using h2⟩
   | val d=>obtain⟨k,h1,h2⟩:=fU (rs:=rs) (as:=as) h;exact⟨k+1,by simpa using h1,by simpa using h2⟩
   | own d=>obtain⟨k,h1,h2⟩:=fU (rs:=rs) (as:=as) h;exact⟨k+1,by simpa using h1,by simpa using h2⟩
def lK(rs:List Res)(as:List Sl)(k:Nat)(o:Option Sl):Option Sl:=match o with
 | some s=>(match jE k rs as with
   | some a=>some (if s.m.mt=true then⟨s.m,a.d⟩else s)
   | none=>some s)
 | none=>none
theorem jF{rs:List Res}{as:List Sl}:∀ (k:Nat) (σ:Sg) (j:Nat),(iJ rs as k σ)[j]? = (σ[j]?).map (lK rs as (k+j))
 | _,[],_=>by simp[iJ]
 | k,o::σ,0=>by cases o<;>simp[iJ,lK]
 | k,o::σ,j+1=>by
   have:=jF (rs:=rs) (as:=as) (k+1) σ j
   have e:k+1+j=k+(j+1):=by omega
   rw[e]at this
   cases o<;>simpa[iJ]using this
theorem mZ{rs:List Res}{as:List Sl}:∀ (k:Nat) (σ:Sg),(iJ rs as k σ).length=σ.length
 | _,[]=>rfl
 | k,o::σ=>by cases o<;>simp[iJ,mZ (k+1) σ]
theorem wB{Γ:Gm}{σ σ1:Sg}{rs:List Res}{as:List Sl}{σV:St}{H H1:Hp}{vs:List V}(e2:pA σ1 rs=some as)(hc:eA rs=true)(ok1:StOk Γ H1 σ1 σV)(r1:ResOks Γ H1 σ1 σV rs vs)(st1:Step σ σV H σ1 σV H1)
  (f1:∀ (j:Nat) d p,rs[j]? = some (.own d)->vs[j]? = some (.ref p)->H p=none) :
  ArgOk H1 as vs/\∀ r as' v H2,PostOk as vs H1 as' H2->yH H1 H2 r v->StOk Γ H2 (iJ rs as' 0 σ1) σV/\jA Γ H2 (iJ rs as' 0 σ1) σV r v/\Step σ σV H (iJ rs as' 0 σ1) σV H2/\Frh H r v:=by
 obtain⟨la,ga⟩:=rR e2
 obtain⟨lv,gv⟩:=r1.get
 have arg:∀ (i:Nat) a,as[i]? = some a->∃ r v,rs[i]? = some r/\yM σ1 r=some a/\vs[i]? = some v/\jA Γ H1 σ1 σV r v:=fun i a ea=>by
  have hi:i < rs.length:=by rw[← la];exact(List.getElem?_eq_some_iff.mp ea).1
  have er:rs[i]? = some rs[i]:=List.getElem?_eq_getElem hi
  obtain⟨a',h1,h2⟩:=ga i _ er
  rw[ea]at h1;cases h1
  obtain⟨v,h3,h4⟩:=gv i _ er
  exact⟨_,v,er,h2,h3,h4⟩
 have slotArg:∀ i a,yM σ1 (.slot i)=some a->∃ s,σ1[i]? = some (some s)/\a=⟨if s.m.mt=true then .par else s.m,s.d⟩:=fun i a ea=>by
  have ea':(match σ1[i]? with | some (some s)=>some (⟨if s.m.mt=true then .par else s.m,s.d⟩:Sl) | _=>none)=some a:=ea
  split at ea'
  ·rename_i s hs;cases ea';exact⟨s,hs,rfl⟩
  ·cases ea'
 -- an argument that may change: new,or owned here
 have mutArg:∀ a,cD8 as vs a->nO σ1 σV a\/(H a=none/\¬ bJ5 σ1 σV a/\Γ.H₀ a=none):=fun a ⟨i,s,ei,m,ev⟩=>by
  obtain⟨r,v,er,ea,ev',rv⟩:=arg i s ei
  rw[ev]at ev';cases ev'
  cases r with
  | val d=>cases ea;cases m
  | own d=>
    obtain⟨p,q1,q2,q3,q4⟩:=rv
    cases q1
    exact .inr ⟨f1 i d a er ev,q3,q4⟩
  | slot j=>
    obtain⟨s',hs,rfl⟩:=slotArg j s ea
    obtain⟨q1,_⟩:=rv
    refine .inl ⟨j,s',hs,?_,q1⟩
    by_cases hm:s'.m.mt=true
    ·exact hm
    ·simp only[hm]at m;exact absurd m hm
 have argok:ArgOk H1 as vs:=by
  refine⟨by rw[la,lv],fun i a ei=>?_,fun i j s t p nij ei ej m m' ev ev'=>?_,fun i a ei=>?_⟩
  ·obtain⟨r,v,er,ea,ev,rv⟩:=arg i a ei
   refine⟨v,ev,?_⟩
   cases r with
   | val d=>cases ea;exact rv
   | own d=>cases ea;obtain⟨p,q1,q2,_⟩:=rv;exact⟨p,q1,q2⟩
   | slot j=>
     obtain⟨s',hs,rfl⟩:=slotArg j a ea
     obtain⟨q1,_⟩:=rv
     obtain⟨v',e4,r4⟩:=ok1.rel j s' hs
     rw[q1]at e4;cases e4
     by_cases hm:s'.m.mt=true
     ·simp only[hm,if_true]
      exact(cS (s:=⟨.par,s'.d⟩) (fun z=>nomatch z)).mpr ((cS (gY hm)).mp r4)
     ·simp only[hm];exact r4
  ·obtain⟨r,v,er,ea,ev1,rv⟩:=arg i s ei
   obtain⟨r2,v2,er2,ea2,ev2,rv2⟩:=arg j t ej
   rw[ev]at ev1;cases ev1
   rw[ev']at ev2;cases ev2
   have nvSlot:∀ l a,yM σ1 (.slot l)=some a->a.m≠.val->∃ s,σ1[l]? = some (some s)/\s.m≠.val/\(a.m.mt=true->s.m.mt=true):=fun l a ea hm=>by
    obtain⟨s',hs,rfl⟩:=slotArg l a ea
    refine⟨s',hs,?_,?_⟩
    ·intro z;simp only[z,Md.mt]at hm;exact hm rfl
    ·intro z
     by_cases hm':s'.m.mt=true
     ·exact hm'
     ·simp only[hm']at z;exact z
   cases r with
   | val d=>cases ea;cases m
   | own d=>
     obtain⟨q,q1,q2,q3,q4⟩:=rv
     cases q1
     cases r2 with
     | val d=>cases ea2;exact m' rfl
     | own d2=>
       rcases Nat.lt_or_gt_of_ne nij with z | z
       ·exact r1.dis i j d d2 p z er er2 ev ev'
       ·exact r1.dis j i d2 d p z er2 er ev' ev
     | slot l=>
       obtain⟨s',hs,hm',_⟩:=nvSlot l t ea2 m'
       exact q3 ⟨l,s',hs,hm',rv2.1⟩
   | slot l=>
     obtain⟨s',hs,hm',hmt⟩:=nvSlot l s ea (gY m)
     cases r2 with
     | val d=>cases ea2;exact m' rfl
     | own d2=>
       obtain⟨q,q1,q2,q3,q4⟩:=rv2
       cases q1
       exact q3 ⟨l,s',hs,hm',rv.1⟩
     | slot l2=>
       obtain⟨s2,hs2,hm2,_⟩:=nvSlot l2 t ea2 m'
       refine ok1.dis l l2 s' s2 p (fun z=>?_) hs hs2 (hmt m) hm2 rv.1 rv2.1
       subst z
       exact nij (mG hc i j l er er2)
  ·obtain⟨r,v,er,ea,ev1,rv⟩:=arg i a ei
   cases r with
   | val d=>cases ea;exact fun z=>nomatch z
   | own d=>cases ea;exact fun z=>nomatch z
   | slot j=>
     obtain⟨s',hs,rfl⟩:=slotArg j a ea
     intro z
     by_cases hm:s'.m.mt=true
     ·simp only[hm,if_true]at z;cases z
     ·simp only[hm]at z
      have z':s'.m=.own:=z
      rw[z']at hm;exact hm rfl
 refine⟨argok,fun r as' v H2 po nw=>?_⟩
 have extA:Ext H1 H2:=by
  refine⟨fun p xs h=>po.fr p _ h fun z=>?_,fun p o u h=>po.fr p _ h fun z=>?_⟩
  ·obtain⟨i,s,ei,m,ev⟩:=z
   obtain⟨v,e4,r4⟩:=argok.rel i s ei
   rw[ev]at e4;cases e4
   obtain⟨q,eq,ow⟩:=(cS (gY m)).mp r4
   cases eq
   obtain⟨o,ho,n1,_⟩:=ow.obj
   rw[h]at ho;cases ho;exact n1 _ rfl
  ·obtain⟨i,s,ei,m,ev⟩:=z
   obtain⟨v,e4,r4⟩:=argok.rel i s ei
   rw[ev]at e4;cases e4
   obtain⟨q,eq,ow⟩:=(cS (gY m)).mp r4
   cases eq
   obtain⟨o',ho,_,n1⟩:=ow.obj
   rw[h]at ho;cases ho;exact n1 _ _ rfl
 have back:∀ (j:Nat) t,(iJ rs as' 0 σ1)[j]? = some (some t)->∃ s,σ1[j]? = some (some s)/\t.m=s.m/\(t=s\/(s.m.mt=true/\∃ (k:Nat) (a:Sl),rs[k]? = some (.slot j)/\as'[k]? = some a/\t=⟨s.m,a.d⟩)):=fun j t ej=>by
  rw[jF,Nat.zero_add]at ej
  cases q:σ1[j]? with
  | none=>rw[q]at ej;cases ej
  | some o=>
    rw[q]at ej
    cases o with
    | none=>cases ej
    | some s=>
      have ej':lK rs as' j (some s)=some t:=Option.some.inj ej
      unfold lK at ej'
      refine⟨s,rfl,?_⟩
      dsimp only at ej'
      split at ej'
      ·rename_i a ha
       obtain⟨k',h1,h2⟩:=fU ha
       have ej'':=Option.some.inj ej'
       by_cases hm:s.m.mt=true
       ·rw[if_pos hm]at ej''
        subst ej''
        exact⟨rfl,.inr ⟨hm,k',a,h1,h2,rfl⟩⟩
       ·rw[if_neg hm]at ej''
        subst ej''
        exact⟨rfl,.inl rfl⟩
      ·cases ej';exact⟨rfl,.inl rfl⟩
 have fwd:∀ (j:Nat) s,σ1[j]? = some (some s)->∃ t,(iJ rs as' 0 σ1)[j]? = some (some t)/\t.m=s.m/\(s.m.mt=false->t=s):=fun j s ej=>by
  rw[jF,Nat.zero_add,ej]
  show ∃ t,some (lK rs as' j (some s))=some (some t)/\_
  unfold lK
  dsimp only
  split
  ·refine⟨_,rfl,?_,fun z=>?_⟩
   ·split<;>rfl
   ·rw[if_neg (by rw[z];exact Bool.false_ne_true)]
  ·exact⟨s,rfl,rfl,fun _=>rfl⟩
 -- a slot that is handed in by no argument that may change
 have quiet:∀ (j:Nat) s t p,σ1[j]? = some (some s)->(iJ rs as' 0 σ1)[j]? = some (some t)->t=s->s.m≠.val->σV[j]? = some (some (.ref p))->(∀ k:Nat,s.m.mt=true->rs[k]? ≠ some (.slot j))->¬ cD8 as vs p:=by
  intro j s t p hs _ _ hm ev hno ⟨i,a,ei,m,evi⟩
  obtain⟨r,v,er,ea,ev1,rv⟩:=arg i a ei
  rw[evi]at ev1;cases ev1
  cases r with
  | val d=>cases ea;cases m
  | own d=>
    obtain⟨q,q1,q2,q3,q4⟩:=rv
    cases q1
    exact q3 ⟨j,s,hs,hm,ev⟩
  | slot l=>
    obtain⟨s',hs',rfl⟩:=slotArg l a ea
    have hmt:s'.m.mt=true:=by
     by_cases h':s'.m.mt=true
     ·exact h'
     ·simp only[h']at m;exact absurd m h'
    by_cases z:l=j
    ·subst z
     rw[hs]at hs';cases hs'
     exact hno i hmt er
    ·exact ok1.dis l j s' s p z hs' hs hmt hm rv.1 ev
 have okB:StOk Γ H2 (iJ rs as' 0 σ1) σV:=by
  refine⟨fun j t ej=>?_,fun j l t t' q n ej el m m' eq eq'=>?_,fun j t q ej m eq=>?_,fun j t q ej m eq=>?_,fun a o e n=>?_,fun a e=>ok1.dom a (po.dom a e),by rw[mZ];exact ok1.len⟩
  ·obtain⟨s,hs,mm,hc'⟩:=back j t ej
   obtain⟨w',ew,rw'⟩:=ok1.rel j s hs
   refine⟨w',ew,?_⟩
   by_cases hslot:s.m.mt=true/\∃ k':Nat,rs[k']? = some (.slot j)
   ·obtain⟨hm,k',hk'⟩:=hslot
    obtain⟨a,ha,hao⟩:=ga k' _ hk'
    obtain⟨v',hv',rv'⟩:=gv k' _ hk'
    have ev':σV[j]? = some (some v'):=rv'.1
    rw[ew]at ev';cases ev'
    obtain⟨s',hs',ea'⟩:=slotArg j a hao
    rw[hs]at hs';cases hs'
    have am:a.m=.par:=by rw[ea',if_pos hm]
    obtain⟨a2,w2,h1,h2,h3,h4⟩:=po.rel k' a ha (by rw[am];rfl)
    rw[hv']at h3;cases h3
    have ht:t=⟨s.m,a2.d⟩:=by
     rw[jF,Nat.zero_add,hs]at ej
     have ej':lK rs as' j (some s)=some t:=Option.some.inj ej
     unfold lK at ej'
     dsimp only at ej'
     split at ej'
     ·rename_i b hb
      obtain⟨k2,q1,q2⟩:=fU hb
      obtain rfl:=mG hc k2 k' j q1 hk'
      rw[h1]at q2;cases q2
      have:=Option.some.inj ej'
      rw[if_pos hm]at this
      exact this.symm
     ·rename_i hb
      -- no argument at all: the lists part in length
      exfalso
      have:∀ {rs:List Res} {as:List Sl} {kk:Nat} {a:Sl},rs[kk]? = some (.slot j)->as[kk]? = some a->jE j rs as≠none:=by
       intro rs
       induction rs with
       | nil=>intro as kk a h;simp at h
       | cons r rs ih=>
         intro as kk a h h'
         cases as with
         | nil=>simp at h'
         | cons b as=>
           cases kk with
           | zero=>simp at h;subst h;simp[jE]
           | succ kk=>
             have:=ih (as:=as) (kk:=kk) (a:=a) (by simpa using h) (by simpa using h')
             cases r with
             | slot i=>simp only[jE];split;exact fun z=>nomatch z;exact this
             | val d=>exact this
             | own d=>exact this
      exact this hk' h1 hb
    subst ht
    have h5:=(cS (s:=a2) (by rw[h2,am];exact fun z=>nomatch z)).mp h4
    exact(cS (s:=⟨s.m,a2.d⟩) (gY hm)).mpr h5
   ·have ht:t=s:=by
     rcases hc' with h | ⟨hm,k',a,h1,_⟩
     ·exact h
     ·exact absurd ⟨hm,k',h1⟩ hslot
    rw[ht]
    refine rw'.mono extA fun p o ep m hp=>po.fr p o hp ?_
    exact quiet j s t p hs ej ht m (by rw[ew,ep]) fun k' hm hk=>hslot ⟨hm,k',hk⟩
  ·obtain⟨s,hs,mm,_⟩:=back j t ej
   obtain⟨s',hs',mm',_⟩:=back l t' el
   exact ok1.dis j l s s' q n hs hs' (by rw[← mm];exact m) (by rw[← mm'];exact m') eq eq'
  ·obtain⟨s,hs,mm,_⟩:=back j t ej
   exact ok1.own j s q hs (mm.symm.trans m) eq
  ·obtain⟨s,hs,mm,_⟩:=back j t ej
   exact ok1.par j s q hs (mm.symm.trans m) eq
  ·refine po.fr a o (ok1.keep a o e n) fun z=>?_
   rcases mutArg a z with⟨j,s,hs,m,ev⟩ | ⟨_,_,z0⟩
   ·cases hq:s.m with
    | own=>rw[ok1.own j s a hs hq ev]at e;cases e
    | par=>exact n (ok1.par j s a hs hq ev)
    | val=>rw[hq]at m;cases m
    | lent=>rw[hq]at m;cases m
   ·rw[z0]at e;cases e
 have stB:Step σ σV H (iJ rs as' 0 σ1) σV H2:=by
  refine⟨fun a o e n=>?_,fun a e=>st1.dom a (po.dom a e),fun a ⟨j,t,ej,m,ea⟩=>?_,fun a ⟨j,t,ej,m,ea⟩=>?_,fun j t ej=>?_,fun j t ej m=>?_,fun j t ej m=>?_⟩
  ·refine po.fr a o (st1.fr a o e n) fun z=>?_
   rcases mutArg a z with y | ⟨y,_⟩
   ·rcases st1.mu a y with y | y
    ·exact n y
    ·rw[e]at y;cases y
   ·rw[e]at y;cases y
  ·obtain⟨s,hs,mm,_⟩:=back j t ej
   exact st1.mu a ⟨j,s,hs,by rw[← mm];exact m,ea⟩
  ·obtain⟨s,hs,mm,_⟩:=back j t ej
   exact st1.nv a ⟨j,s,hs,by rw[← mm];exact m,ea⟩
  ·obtain⟨s,hs⟩:=st1.kp j t ej
   obtain⟨t',h1,_⟩:=fwd j s hs
   exact⟨t',h1⟩
  ·obtain⟨s,hs,q1,q2,q3⟩:=st1.fix j t ej m
   obtain⟨t',h1,h2,h3⟩:=fwd j s hs
   refine⟨t',h1,h2.trans q1,fun z=>?_,q3⟩
   rw[h3 (by rw[q1,z];rfl)];exact q2 z
  ·obtain⟨s,hs,mm,_⟩:=back j t ej
   exact st1.lt j s hs (mm.symm.trans m)
 refine⟨okB,?_,stB,nw.frh.back st1⟩
 cases r with
 | val d=>exact nw
 | own d=>
   obtain⟨p,q1,q2,q3⟩:=nw
   refine⟨p,q1,q3,fun⟨j,t,ej,m,ea⟩=>?_,ok1.dom p q2⟩
   obtain⟨s,hs,mm,_⟩:=back j t ej
   obtain⟨o,ho,_⟩:=ok1.mutObj ⟨j,s,hs,by rw[← mm];exact m,ea⟩
   rw[q2]at ho;cases ho
 | slot i=>exact nw.elim
theorem bB1{Γ:Gm}{n:Nat}{run:Run}{ra:DA}{E:XK}{σV:St}{H:Hp}{Q:VK}(h:dTE Γ (aQ n run ra) σV H Q):aQ6 (dsp n run) [] E (dTA Γ ra) σV H Q:=by
 obtain⟨σ,ok,res,σ',e,k⟩:=h
 obtain⟨⟨rs,σ1⟩,e1,e⟩:=aD e
 obtain⟨as,e2,e⟩:=aD e
 dsimp only at e
 split at e
 case isFalse=>cases e
 case isTrue hc=>
 obtain⟨⟨r,as'⟩,e3,e⟩:=aD e
 cases e
 dsimp only at e2 hc k
 refine⟨σ,ok,rs,σ1,e1,fun vs H1 ok1 r1 st1 f1=>?_⟩
 show dsp n run (vs++[]) H1 Q E
 rw[List.append_nil]
 obtain⟨ao,c⟩:=wB e2 hc.2 ok1 r1 st1 f1
 refine⟨as,r,as',ao,hc.1,e3,fun v H2 po nw=>?_⟩
 obtain⟨q1,q2,q3,q4⟩:=c r as' v H2 po nw
 exact k v H2 q1 q2 q3 q4
theorem aK{X:Cx}{e:Expr}{n:Nat}{run:Run}{ra:DA}{E:XK}(h:∀ Γ,PE X e (aQ6 (dsp n run) [] E (dTA Γ ra))):GE X e (aQ n run ra):=.mk fun Γ=>peW (h Γ) fun _ _ _=>bB1
section
variable{X:Cx}
def qT(i j:Int):Prop:=cO7 i j\/(PySem.Builtin.Int.intBits i<=2 ^ 20/\PySem.Builtin.Int.intBits j<=2 ^ 20)
theorem qT.ok{i j:Int}(h:qT i j):IntMulOk i j:=by
 rcases h with h | h
 ·exact h.ok
 ·exact IntMulOk.of_bits h.1 h.2
theorem cD9:OpR X (binaryOp .Mult) (rI qT fun i j=>.int (i*j)):=opI fun _ _ _ _ _ _ _ hc q=>PyProof.Rows.mul_int q hc.ok
end
noncomputable section
open Classical
def ii(f:Int->Int->D):F2:=fun d e=>match d,e with
 | .int i,.int j=>some (.val (f i j))
 | _,_=>none
def iiC(C:Int->Int->Prop)(f:Int->Int->D):F2:=fun d e=>match d,e with
 | .int i,.int j=>if C i j then some (.val (f i j))else none
 | _,_=>none
def iu(f:Int->D):F1:=fun d=>match d with
 | .int i=>some (.val (f i))
 | _=>none
end
theorem aC5{g:Int->Int->V}{f:Int->Int->D}(h:∀ H i j,Rp H (f i j) (g i j)):sU (rI0 g) (ii f):=by
 intro H d1 d2 x y Q res v1 v2 e k
 unfold ii at e
 split at e
 ·cases e
  obtain rfl:=cP v1
  obtain rfl:=cP v2
  exact⟨_,_,rfl,rfl,k _ H (.refl _) (h H _ _)⟩
 ·cases e
theorem yN{C:Int->Int->Prop}{g:Int->Int->V}{f:Int->Int->D}(h:∀ H i j,Rp H (f i j) (g i j)):sU (rI C g) (iiC C f):=by
 intro H d1 d2 x y Q res v1 v2 e k
 unfold iiC at e
 split at e
 ·split at e
  ·rename_i hc
   cases e
   obtain rfl:=cP v1
   obtain rfl:=cP v2
   exact⟨_,_,rfl,rfl,hc,k _ H (.refl _) (h H _ _)⟩
  ·cases e
 ·cases e
theorem cT8{g:Int->V}{f:Int->D}(h:∀ H i,Rp H (f i) (g i)):cL1 (rU g) (iu f):=by
 intro H d x Q res v1 e k
 unfold iu at e
 split at e
 ·cases e
  obtain rfl:=cP v1
  exact⟨_,rfl,k _ H (.refl _) (h H _)⟩
 ·cases e
def dA3:F2:=ii fun i j=>.int (i-j)
noncomputable def aU4:F2:=iiC (fun _ j=>0 < j) fun i j=>.int (i % j)
noncomputable def dE4:F2:=iiC cK9 fun i j=>.int (i ^ j.toNat)
def ltI:F2:=ii fun i j=>.bl (decide (i < j))
def leI:F2:=ii fun i j=>.bl (decide (i<=j))
def gtI:F2:=ii fun i j=>.bl (decide (j < i))
def geI:F2:=ii fun i j=>.bl (decide (j<=i))
def dA4:F1:=iu fun i=>.int (-i)
theorem cE0:sU (rI0 fun i j=>.int (i-j)) dA3:=aC5 fun _ _ _=>.int _
theorem gQ:sU (rI (fun _ j=>0 < j) fun i j=>.int (i % j)) aU4:=yN fun _ _ _=>.int _
theorem cE1:sU (rI cK9 fun i j=>.int (i ^ j.toNat)) dE4:=yN fun _ _ _=>.int _
theorem yO:sU (rI0 fun i j=>.bl (decide (i < j))) ltI:=aC5 fun _ _ _=>.bl _
theorem sY:sU (rI0 fun i j=>.bl (decide (j < i))) gtI:=aC5 fun _ _ _=>.bl _
theorem cE2:sU (rI0 fun i j=>.bl (decide (j<=i))) geI:=aC5 fun _ _ _=>.bl _
theorem cE3:cL1 (rU fun i=>.int (-i)) dA4:=cT8 fun _ _=>.int _
section
variable{X:Cx}{pins:List (Addr×Obj)}{σ:St}{H:Hp}{s:Shared}{l:Addr}{xs:List V}
theorem sZ(I:Inv X pins σ H s)(h:eT H l=some (true,xs)):xs.length<=sizeLine/\∃ (its:List Value) (n:Nat),cE xs its/\xs.length=its.length/\s.heap.get? l=some {cls:=.type "list",data:=.seq its.toArray n}:=by
 unfold eT at h
 split at h
 ·rename_i e
  cases h
  exact I.lstM e
 ·cases h
 ·rename_i o ys e
  cases h
  obtain⟨_,z,its,n,r,e⟩:=I.hok l _ e
  exact⟨z,its,n,r,r.length,e⟩
 ·cases h
end
def cT9:R2:=fun x y H Q=>∃ l b xs zs,x=.ref l/\y=.ref b/\eT H l=some (true,xs)/\eT H b=some (true,zs)/\xs.length+zs.length<=sizeLine/\∀ p,H p=none->Q (.ref p) (upd H p (.lst (xs++zs)))
theorem cE4{X:Cx}:OpR X (binaryOp .Add) cT9:=by
 intro pins s σ H x y v u Q I rx ry h
 obtain⟨l,b,xs,zs,rfl,rfl,hH,hB,hz,q⟩:=h
 cases rx
 cases ry
 obtain⟨z,its,n,r,hl,e⟩:=sZ I hH
 obtain⟨z2,its2,n2,r2,hl2,e2⟩:=sZ I hB
 refine PySem.P.add_list e e2 ?_ (by rw[List.size_toArray,List.size_toArray];omega)
 have ea:its.toArray++its2.toArray=(its++its2).toArray:=by simp
 rw[ea]
 exact⟨.ref _,_,I.lnew (t':=s.toks) (r.append r2) (by rw[List.length_append];omega),rfl,q _ I.fresh⟩
def cU0:R2:=fun x y H Q=>bM3 x y H Q\/cT9 x y H Q
theorem aZ{X:Cx}:OpR X (binaryOp .Add) cU0:=aB2.or cE4
def eN:F2:=fun d e=>match d,e with
 | .int i,.int j=>some (.val (.int (i+j)))
 | .str a,.str b=>if a.length+b.length<=sizeLine then some (.val (.str (a++b)))else none
 | .lst l,.lst m=>if l.length+m.length<=sizeLine then some (.own (.lst (l++m)))else none
 | .tup l,.tup m=>if l.length+m.length<=sizeLine then some (.val (.tup (l++m)))else none
 | _,_=>none
theorem tE{H:Hp}{p:Addr}{xs:List V}{l:List D}(hp:H p=none)(r:Rps H l xs):yH H (upd H p (.lst xs)) (.own (.lst l)) (.ref p):=⟨p,rfl,hp,xs,aR,r.mono (.same (bH hp))⟩
theorem mH{H:Hp}{p:Addr}{xs:List V}{l:List D}(hp:H p=none)(r:Rps H l xs):yH H (upd H p (.tup xs)) (.val (.tup l)) (.ref p):=.tup aR (r.mono (.same (bH hp)))
theorem bA:sU cU0 eN:=by
 intro H d1 d2 x y Q res v1 v2 e k
 unfold eN at e
 split at e
 ·cases e
  obtain rfl:=cP v1
  obtain rfl:=cP v2
  exact .inl (k _ H (.refl _) (.int _))
 ·split at e
  ·rename_i hl
   cases e
   obtain rfl:=iN v1
   obtain rfl:=iN v2
   exact .inl ⟨hl,k _ H (.refl _) (.str _)⟩
  ·cases e
 ·split at e
  ·rename_i l m hl
   cases e
   obtain⟨p,xs,rfl,h1,r1⟩:=gJ v1
   obtain⟨q,ys,rfl,h2,r2⟩:=gJ v2
   have:=r1.length
   have:=r2.length
   exact .inr ⟨p,q,xs,ys,rfl,rfl,h1,h2,by omega,fun r hr=>k _ _ (bH hr) (tE hr (r1.append r2))⟩
  ·cases e
 ·split at e
  ·rename_i l m hl
   cases e
   obtain⟨p,xs,rfl,h1,r1⟩:=eG v1
   obtain⟨q,ys,rfl,h2,r2⟩:=eG v2
   have e1:=r1.length
   have e2:=r2.length
   refine .inl (.inr ⟨xs,ys,bU h1,bU h2,by omega,fun hx=>?_,fun hx hy=>?_,fun hx hy r hr=>k _ _ (bH hr) (mH hr (r1.append r2))⟩)
   ·subst hx
    have:l=[]:=List.eq_nil_of_length_eq_zero e1
    subst this
    exact k _ H (.refl _) (.tup h2 r2)
   ·subst hy
    have:m=[]:=List.eq_nil_of_length_eq_zero e2
    subst this
    rw[List.append_nil]at k
    exact k _ H (.refl _) (.tup h1 r1)
  ·cases e
 ·cases e
noncomputable section
open Classical
def yP:F2:=fun d e=>match d,e with
 | .int i,.int j=>if qT i j then some (.val (.int (i*j)))else none
 | .str z,.int i=>if z.length<=1000/\0<=i/\i<=1000 then some (.val (.str (PySem.Txt.mul z i)))else none
 | _,_=>none
end
def cU1:R2:=fun x y H Q=>rI qT (fun i j=>.int (i*j)) x y H Q\/cC8 x y H Q
theorem gR{X:Cx}:OpR X (binaryOp .Mult) cU1:=cD9.or cS4
theorem gU:sU cU1 yP:=by
 intro H d1 d2 x y Q res v1 v2 e k
 unfold yP at e
 split at e
 ·split at e
  ·rename_i hc
   cases e
   obtain rfl:=cP v1
   obtain rfl:=cP v2
   exact .inl ⟨_,_,rfl,rfl,hc,k _ H (.refl _) (.int _)⟩
  ·cases e
 ·split at e
  ·rename_i hc
   cases e
   obtain rfl:=iN v1
   obtain rfl:=cP v2
   exact .inr ⟨hc.1,hc.2.1,hc.2.2,fun y _ e=>by subst e;exact k _ H (.refl _) (.str _)⟩
  ·cases e
 ·cases e
def ixD:F2:=fun d e=>match d,e with
 | .lst l,.int i=>(atI l i).map .val
 | .tup l,.int i=>(atI l i).map .val
 | .str z,.int i=>if z.length<=sizeLine then(atI z.cps.toList i).map fun c=>.val (.str ⟨#[c]⟩)else none
 | _,_=>none
theorem Rps.atI{H:Hp}{l:List D}{xs:List V}{i:Int}{d:D}(r:Rps H l xs)(h:L2.atI l i=some d):∃ x,L2.atI xs i=some x/\Rp H d x:=by
 unfold L2.atI at h ⊢
 obtain⟨j,e1,e2⟩:=aD h
 rw[← r.length,e1]
 exact r.get e2
theorem cU2:sU dH2 ixD:=by
 intro H d1 d2 x y Q res v1 v2 e k
 unfold ixD at e
 split at e
 ·obtain rfl:=cP v2
  obtain⟨p,xs,rfl,h1,r1⟩:=gJ v1
  obtain⟨d,e1,e2⟩:=Option.map_eq_some_iff.mp e
  cases e2
  obtain⟨x,e3,r⟩:=r1.atI e1
  exact⟨x,aY5 h1 e3,k _ H (.refl _) r⟩
 ·obtain rfl:=cP v2
  obtain⟨p,xs,rfl,h1,r1⟩:=eG v1
  obtain⟨d,e1,e2⟩:=Option.map_eq_some_iff.mp e
  cases e2
  obtain⟨x,e3,r⟩:=r1.atI e1
  exact⟨x,aY5 (bU h1) e3,k _ H (.refl _) r⟩
 ·split at e
  ·rename_i hz
   obtain rfl:=cP v2
   obtain rfl:=iN v1
   obtain⟨c,e1,e2⟩:=Option.map_eq_some_iff.mp e
   cases e2
   exact⟨_,cC3 hz e1,k _ H (.refl _) (.str _)⟩
  ·cases e
 ·cases e
theorem cX{X:Cx}{a b:Expr}{ra rb:DE}{pos:Pos}(ha:GE X a ra)(hb:GE X b rb)(hs:aW7 b):GE X (.Subscript a b pos) (aU ixD ra rb):=.mk fun Γ=>peW (dD1 dL3 (ha.to Γ) (hb.to Γ) hs) fun _ _ _=>oB cU2
def jT:FN:=fun ds=>match ds with
 | [.lst l]=>some (.val (.int l.length))
 | [.tup l]=>some (.val (.int l.length))
 | [.str z]=>if z.length<=sizeLine then some (.val (.int z.length))else none
 | _=>none
theorem aU5{H:Hp}{d:D}{vs:List V}(h:Vws H [d] vs):∃ x,vs=[x]/\Vw H d x:=by
 cases h with
 | cons a t=>cases t;exact⟨_,rfl,a⟩
theorem dH9{H:Hp}{d e:D}{vs:List V}(h:Vws H [d,e] vs):∃ x y,vs=[x,y]/\Vw H d x/\Vw H e y:=by
 cases h with
 | cons a t=>
   obtain⟨y,rfl,b⟩:=aU5 t
   exact⟨_,_,rfl,a,b⟩
theorem dA:bJ6 bL6 jT:=by
 intro H ds vs Q res vw e k
 unfold jT at e
 split at e
 ·cases e
  obtain⟨x,rfl,v⟩:=aU5 vw
  obtain⟨p,xs,rfl,h1,r1⟩:=gJ v
  refine⟨_,_,rfl,sP h1,?_⟩
  rw[← r1.length]
  exact k _ H (.refl _) (.int _)
 ·cases e
  obtain⟨x,rfl,v⟩:=aU5 vw
  obtain⟨p,xs,rfl,h1,r1⟩:=eG v
  refine⟨_,_,rfl,sP (bU h1),?_⟩
  rw[← r1.length]
  exact k _ H (.refl _) (.int _)
 ·split at e
  ·rename_i hz
   cases e
   obtain⟨x,rfl,v⟩:=aU5 vw
   obtain rfl:=iN v
   exact⟨_,_,rfl,bL9 hz,k _ H (.refl _) (.int _)⟩
  ·cases e
 ·cases e
def vD(l:List D)(lo hi:Option Int):List D:=(l.drop (HT.sIx l.length 0 lo)).take (HT.sIx l.length l.length hi-HT.sIx l.length 0 lo)
theorem Rps.cut{H:Hp}{l:List D}{xs:List V}(r:Rps H l xs)(lo hi:Option Int):Rps H (vD l lo hi) (xX xs lo hi):=by
 unfold vD xX
 rw[r.length]
 exact(r.drop _).take _
theorem bB2{xs:List V}{lo hi:Option Int}(h:HT.sIx xs.length 0 lo=0/\HT.sIx xs.length xs.length hi=xs.length):xX xs lo hi=xs:=by
 unfold xX
 rw[h.1,h.2]
 simp
end Dv
namespace HT
open PySem PySem.Spec PyProof.Rows
section
variable{prog:Program}{w:World}{A:Around}{E:Value->Shared->Prop}{s:Shared}
theorem getItem_tuple_all{t sl:Addr}{items:Array Value}{vl vu:Value}{lo hi:Option Int}{Q:Value->Shared->Prop}(ht:IsTup s.heap t items)(hs:s.heap.IsSliceOf sl vl vu .none)(pl:IsPart vl lo)(pu:IsPart vu hi)
  (hw:sIx items.size 0 lo=0/\sIx items.size items.size hi=items.size) (h:Q (.ref t) s):wpAny (model prog w) A (getItem (.ref t) (.ref sl)) Q E s:=by
 obtain⟨os,hos,hcs,hds⟩:=id hs
 have hTs:s.TypeIs (.ref sl) "slice":=⟨os,hos,hcs⟩
 unfold getItem
 try with_reducible refine wpAny_holding ?_
 first | refine wpAny_bind (wpAny_pure ?_) | skip
 refine wpAny_bind (wpAny_sequenceKey ht.typeIs (by decide) ?_)
 refine wpAny_bind (wpAny_callSpecial?_slot (name:=Str.ofString "__getitem__") ht.typeIs PyProof.Rows.slot_tuple_getitem
  (wpAny_call_entry PyProof.Rows.slot_tuple_getitem ht.typeIs entry_tuple_getitem ?_ (args_tuple_getitem _ _)))
 show wpAny _ _ (Builtin.Tuple.tupleItemsOf (.ref t) >>= _) _ _ s
 refine wpAny_bind (tupleItemsOf_ ht ?_)
 refine wpAny_bind (wpAny_typeOf hTs ?_)
 rw[if_pos (by decide)]
 refine wpAny_bind (iL hs pl pu ?_)
 have hyes:(((sIx items.size 0 lo:Nat):Int)==0&&(1:Int)==1&&(sIx items.size items.size hi-sIx items.size 0 lo)==items.size)=true:=by
  rw[hw.1,hw.2];simp
 show wpAny _ _ (if(((sIx items.size 0 lo:Nat):Int)==0&&(1:Int)==1&&(sIx items.size items.size hi-sIx items.size 0 lo)==items.size)=true then _ else _) _ _ s
 rw[if_pos hyes]
 refine wpAny_bind ?_
 unfold Builtin.Tuple.tupleIsExact
 refine wpAny_bind (wpAny_typeOf ht.typeIs (wpAny_pure ?_))
 rw[if_pos (by decide)]
 refine wpAny_bind (wpAny_rule ?_)
 exact wpAny_pure ⟨_,rfl,wpAny_pure h⟩
end
end HT
namespace Dv
open PySem L2
def dI0:V->Option Int->Option Int->Hp->VK->Prop:=fun x lo hi H Q=>match x with
 | .str z=>z.length<=sizeLine/\Q (.str (PySem.Txt.slice z lo hi)) H
 | .ref p=>(∃ xs,eT H p=some (true,xs)/\∀ r,H r=none->Q (.ref r) (upd H r (.lst (xX xs lo hi)))) \/
   ∃ xs,eT H p=some (false,xs)/\(xX xs lo hi=xs->Q (.ref p) H)/\∀ r,H r=none->Q (.ref r) (upd H r (.tup (xX xs lo hi)))
 | _=>False
theorem dL7{X:Cx}:SlR X dI0:=by
 intro pins s σ H x v vl vu lo hi sl Q I rx hs pl pu h
 unfold dI0 at h
 split at h
 ·rename_i z
  exact dD5 pins s σ H _ v vl vu lo hi sl Q I rx hs pl pu h
 ·rename_i p
  rcases h with h | ⟨xs,hq,q1,q2⟩
  ·exact dD5 pins s σ H _ v vl vu lo hi sl Q I rx hs pl pu (.inl h)
  ·by_cases hw:HT.sIx xs.length 0 lo=0/\HT.sIx xs.length xs.length hi=xs.length
   ·cases rx
    obtain⟨its,r,ht,hz⟩:=I.tuple (cY hq)
    have hlen:its.toArray.size=xs.length:=by rw[List.size_toArray];exact r.length.symm
    refine⟨"tuple",_,PyProof.Rows.slot_tuple_getitem.lookup,ht.typeIs,?_⟩
    exact HT.getItem_tuple_all ht hs pl pu (by rw[hlen];exact hw) ⟨.ref p,H,I,rfl,q1 (bB2 hw)⟩
   ·exact dD5 pins s σ H _ v vl vu lo hi sl Q I rx hs pl pu (.inr ⟨xs,hq,hw,q2⟩)
 ·exact h.elim
abbrev DO:=Sg->Option (Option Int×Sg)
def dTO(Γ:Gm)(r:DO):TO:=fun σV H Q=>∃ σ,StOk Γ H σ σV/\∃ o σ',r σ=some (o,σ')/\∀ H',StOk Γ H' σ' σV->Step σ σV H σ' σV H'->Q o H'
structure GO(X:Cx)(e:Option Expr)(r:DO):Prop where
 to:∀ Γ,PO X e (dTO Γ r)
theorem poW{X:Cx}{e:Option Expr}{t t':TO}(h:PO X e t)(w:∀ σ H Q,t' σ H Q->t σ H Q):PO X e t':=fun pins s σ H Q I q=>h pins s σ H Q I (w σ H Q q)
def mI:DO:=fun σ=>some (none,σ)
def dP(r:DE):DO:=fun σ=>(r σ).bind fun x=>(rd x.2 x.1).bind fun d=>match d with
 | .int i=>some (some i,x.2)
 | _=>none
theorem dY{X:Cx}:GO X none mI:=.mk fun Γ=>poW cB0 fun σV H Q ⟨σ,ok,o,σ',e,k⟩=>by cases e;exact k H ok .refl
theorem dB{X:Cx}{e:Expr}{r:DE}(h:GE X e r):GO X (some e) (dP r):=.mk fun Γ=>poW (cB1 (h.to Γ)) fun σV H Q ⟨σ,ok,o,σ',e,k⟩=>by
 obtain⟨⟨x,σ1⟩,e1,e⟩:=aD e
 obtain⟨d,e2,e⟩:=aD e
 dsimp only at e
 split at e
 ·cases e
  exact⟨σ,ok,x,_,e1,fun v H1 ok1 r1 st1 _=>⟨_,cP (r1.vw ok1 e2),k H1 ok1 st1⟩⟩
 ·cases e
def slD(d:D)(lo hi:Option Int):Option Res:=match d with
 | .str z=>if z.length<=sizeLine then some (.val (.str (PySem.Txt.slice z lo hi)))else none
 | .lst l=>some (.own (.lst (vD l lo hi)))
 | .tup l=>some (.val (.tup (vD l lo hi)))
 | _=>none
def dSl(r:DE)(a b:DO):DE:=fun σ=>(r σ).bind fun x=>(a x.2).bind fun y=>(b y.2).bind fun z=>(rd z.2 x.1).bind fun d=>(slD d y.1 z.1).bind fun w=>some (w,z.2)
theorem cK{X:Cx}{e:Expr}{lo hi:Option Expr}{p2 pos:Pos}{r:DE}{a b:DO}(he:GE X e r)(ha:GO X lo a)(hb:GO X hi b):GE X (.Subscript e (.Slice lo hi none p2) pos) (dSl r a b):=.mk fun Γ=>peW (bK9 dL7 (he.to Γ) (ha.to Γ) (hb.to Γ)) fun σV H Q ⟨σ,ok,res,σ',e,k⟩=>by
 obtain⟨⟨x,σ1⟩,e1,e⟩:=aD e
 obtain⟨⟨lo,σ2⟩,e2,e⟩:=aD e
 obtain⟨⟨hi,σ3⟩,e3,e⟩:=aD e
 obtain⟨d,e4,e⟩:=aD e
 obtain⟨w,e5,e⟩:=aD e
 cases e
 refine⟨σ,ok,x,σ1,e1,fun v H1 ok1 r1 st1 _=>⟨σ1,ok1,lo,σ2,e2,fun H2 ok2 st2=>⟨σ2,ok2,hi,σ3,e3,fun H3 ok3 st3=>?_⟩⟩⟩
 have vw:=((r1.step ok1 st2).step ok2 st3).vw ok3 e4
 have fin:∀ v H',xS H3 H'->yH H3 H' res v->Q v H':=fun v H' sm nw=>k v H' (ok3.same sm) (nw.res ok3) (((st1.trans st2).trans st3).trans (.same sm)) (nw.frh.back ((st1.trans st2).trans st3))
 dsimp only at e5
 unfold slD at e5
 split at e5
 ·split at e5
  ·rename_i hz
   cases e5
   obtain rfl:=iN vw
   exact⟨hz,fin _ H3 (.refl _) (.str _)⟩
  ·cases e5
 ·cases e5
  obtain⟨p,xs,rfl,h1,r2⟩:=gJ vw
  exact .inl ⟨xs,h1,fun q hq=>fin _ _ (bH hq) (tE hq (r2.cut lo hi))⟩
 ·cases e5
  obtain⟨p,xs,rfl,h1,r2⟩:=eG vw
  refine .inr ⟨xs,bU h1,fun hw=>fin _ H3 (.refl _) ?_,fun q hq=>fin _ _ (bH hq) (mH hq (r2.cut lo hi))⟩
  have:=r2.cut lo hi
  rw[hw]at this
  exact .tup h1 this
 ·cases e5
def cU3(K:PySem.W.Frag):List V->Hp->VK->Prop:=fun xs H Q=>∃ (a:Addr) (bs:List Bool),xs=[.ref a]/\SqL K H a (bs.map V.bl)/\Q (.bl (bs.all id)) H
def aR9:List D->Option (List Bool)
 | []=>some []
 | .bl b::r=>(aR9 r).bind fun bs=>some (b::bs)
 | _=>none
theorem aC6:∀ {l:List D} {bs:List Bool},aR9 l=some bs->l=bs.map D.bl
 | [],_,h=>by cases h;rfl
 | .bl b::r,_,h=>by
   obtain⟨bs,e1,e⟩:=aD h
   cases e
   rw[aC6 e1];rfl
 | .non::_,_,h=>by cases h
 | .int _::_,_,h=>by cases h
 | .str _::_,_,h=>by cases h
 | .tup _::_,_,h=>by cases h
 | .lst _::_,_,h=>by cases h
 | .dic _ _::_,_,h=>by cases h
theorem bB3(bs:List Bool):aR9 (bs.map D.bl)=some bs:=by
 induction bs with
 | nil=>rfl
 | cons b r ih=>show(aR9 (r.map D.bl)).bind _=_;rw[ih];rfl
def dA5:FN:=fun ds=>match ds with
 | [.lst l]=>(aR9 l).map fun bs=>.val (.bl (bs.all id))
 | _=>none
theorem cE5{K:PySem.W.Frag}:bJ6 (cU3 K) dA5:=by
 intro H ds vs Q res vw e k
 unfold dA5 at e
 split at e
 ·obtain⟨bs,e1,e2⟩:=Option.map_eq_some_iff.mp e
  cases e2
  obtain⟨x,rfl,v⟩:=aU5 vw
  obtain⟨p,xs,rfl,h1,r1⟩:=gJ v
  rw[aC6 e1]at r1
  rw[r1.bls_inv]at h1
  exact⟨p,bs,rfl,eU h1,k _ H (.refl _) (.bl _)⟩
 ·cases e
theorem bB4{X:Cx}(K:PySem.W.Frag)(hK:X.K=K)(hc:X.calm=true):jW X (.builtin "all") (cU3 K):=by rw[← hK];exact bL3 hc
def bB5:FN:=fun ds=>match ds with
 | [.int i,.int j]=>some (.val (.int (if j > i then j else i)))
 | _=>none
def aS0:FN:=fun ds=>match ds with
 | [.int i,.int j]=>some (.val (.int (if j < i then j else i)))
 | _=>none
theorem bN4:bJ6 (fun xs H Q=>∃ i j,xs=[.int i,.int j]/\Q (.int (if j > i then j else i)) H) bB5:=by
 intro H ds vs Q res vw e k
 unfold bB5 at e
 split at e
 ·cases e
  obtain⟨x,y,rfl,a,b⟩:=dH9 vw
  obtain rfl:=cP a
  obtain rfl:=cP b
  exact⟨_,_,rfl,k _ H (.refl _) (.int _)⟩
 ·cases e
theorem aC7:bJ6 (fun xs H Q=>∃ i j,xs=[.int i,.int j]/\Q (.int (if j < i then j else i)) H) aS0:=by
 intro H ds vs Q res vw e k
 unfold aS0 at e
 split at e
 ·cases e
  obtain⟨x,y,rfl,a,b⟩:=dH9 vw
  obtain rfl:=cP a
  obtain rfl:=cP b
  exact⟨_,_,rfl,k _ H (.refl _) (.int _)⟩
 ·cases e
def cL7:FN:=fun ds=>match ds with
 | [.int i]=>some (.val (.int i))
 | [.bl b]=>some (.val (.int (if b then 1 else 0)))
 | _=>none
theorem bB6:bJ6 (fun xs H Q=>(∃ i,xs=[.int i]/\Q (.int i) H)\/∃ k,xs=[.bl k]/\Q (.int (if k then 1 else 0)) H) cL7:=by
 intro H ds vs Q res vw e k
 unfold cL7 at e
 split at e
 ·cases e
  obtain⟨x,rfl,a⟩:=aU5 vw
  obtain rfl:=cP a
  exact .inl ⟨_,rfl,k _ H (.refl _) (.int _)⟩
 ·cases e
  obtain⟨x,rfl,a⟩:=aU5 vw
  obtain rfl:=bA0 a
  exact .inr ⟨_,rfl,k _ H (.refl _) (.int _)⟩
 ·cases e
def pB:FN:=fun ds=>match ds with
 | [.lst l]=>some (.own (.lst l))
 | [.tup l]=>some (.own (.lst l))
 | _=>none
theorem oG:bJ6 bW1 pB:=by
 intro H ds vs Q res vw e k
 unfold pB at e
 split at e
 ·cases e
  obtain⟨x,rfl,a⟩:=aU5 vw
  obtain⟨p,xs,rfl,h1,r1⟩:=gJ a
  exact⟨p,true,xs,rfl,h1,fun q hq=>k _ _ (bH hq) (tE hq r1)⟩
 ·cases e
  obtain⟨x,rfl,a⟩:=aU5 vw
  obtain⟨p,xs,rfl,h1,r1⟩:=eG a
  exact⟨p,false,xs,rfl,bU h1,fun q hq=>k _ _ (bH hq) (tE hq r1)⟩
 ·cases e
def qQ:FN:=fun ds=>match ds with
 | [.lst l]=>some (.val (.tup l))
 | [.tup l]=>some (.val (.tup l))
 | _=>none
theorem fN:bJ6 cS3 qQ:=by
 intro H ds vs Q res vw e k
 unfold qQ at e
 split at e
 ·cases e
  obtain⟨x,rfl,a⟩:=aU5 vw
  obtain⟨p,xs,rfl,h1,r1⟩:=gJ a
  exact⟨p,true,xs,rfl,h1,fun q hq=>k _ _ (bH hq) (mH hq r1)⟩
 ·cases e
  obtain⟨x,rfl,a⟩:=aU5 vw
  obtain⟨p,xs,rfl,h1,r1⟩:=eG a
  exact⟨p,false,xs,rfl,bU h1,k _ H (.refl _) (.tup h1 r1)⟩
 ·cases e
def dE5:D->String
 | .non=>"NoneType"
 | .bl _=>"bool"
 | .int _=>"int"
 | .str _=>"str"
 | .lst _=>"list"
 | .tup _=>"tuple"
 | .dic _ _=>"dict"
def cU4(c:String):F1:=fun d=>match d with
 | .dic _ _=>none
 | d=>some (.val (.bl (oV (dE5 d) c)))
def aS1:FM:=fun d ds=>match d,ds with
 | .lst l,[e]=>if l.length < sizeLine then some (.lst (l++[e]),.non)else none
 | _,_=>none
theorem mJ{H:Hp}{l:List D}{p:Addr}(h:dX H (.lst l) p):∃ xs,H p=some (.lst xs)/\Rps H l xs:=h
theorem mK:dE2 aW8 aS1:=by
 intro H d p ds vs Q d' e ow r eq k
 unfold aS1 at eq
 split at eq
 ·split at eq
  ·rename_i l x hl
   cases eq
   obtain⟨xs,h1,h2⟩:=mJ ow
   cases r with
   | cons a t=>
     cases t
     exact⟨p,xs,_,rfl,rfl,h1,by rw[← h2.length];exact hl,k _ _ ⟨_,aR,(h2.append (.cons a .nil)).mono (dX.ext ow)⟩ .non⟩
  ·cases eq
 ·cases eq
def bX0:FM:=fun d ds=>match d,ds with
 | .lst l,[.lst m]=>if l.length+m.length<=sizeLine then some (.lst (l++m),.non)else none
 | _,_=>none
def cU5:V->List V->Hp->VK->Prop:=fun x vs H Q=>∃ l b xs zs,x=.ref l/\vs=[.ref b]/\H l=some (.lst xs)/\eT H b=some (true,zs)/\xs.length+zs.length<=sizeLine/\Q .non (upd H l (.lst (xs++zs)))
theorem bB7{X:Cx}:MtM X "list.extend" cU5:=by
 intro pins s σ H x vs v us Q I rx rv h
 obtain⟨l,b,xs,zs,rfl,rfl,hH,hB,hz,q⟩:=h
 cases rx
 obtain⟨u,rfl,ru⟩:=rv.one
 cases ru
 obtain⟨z,its,n,r,hl,e⟩:=I.lstM hH
 obtain⟨z2,its2,n2,r2,hl2,e2⟩:=sZ I hB
 have hsz:its.toArray.size+its2.toArray.size<=sizeLine:=by rw[List.size_toArray,List.size_toArray];omega
 have hlong:¬ (!its.toArray.isEmpty&&Builtin.List.listTooLong (its.toArray.size+its2.toArray.size))=true:=by
  rw[aA3 hsz,Bool.and_false]
  exact Bool.false_ne_true
 refine call_meets F.slot_list_extend ⟨_,e,rfl⟩ F.entry_list_extend (F.args_list_extend_2 _ _)
  (AutoSeq1.list_extend_list_list_0 l its.toArray n b its2.toArray n2 hlong (by rw[List.size_toArray];omega) (by omega)) ⟨e,e2,?_⟩
 refine⟨.non,_,I.lset (its':=its++its2) hH e (by simp) (r.append r2) ?_,rfl,q⟩
 rw[List.length_append]
 omega
theorem bB8:dH7 cU5 bX0:=by
 intro H d p ds vs Q d' e ow r eq k
 unfold bX0 at eq
 split at eq
 ·split at eq
  ·rename_i l m hl
   cases eq
   obtain⟨xs,h1,h2⟩:=mJ ow
   obtain⟨x,rfl,a⟩:=aU5 r
   obtain⟨q,ys,rfl,h3,r3⟩:=gJ a
   have:=h2.length
   have:=r3.length
   exact⟨p,q,xs,ys,rfl,rfl,h1,h3,by omega,k _ _ ⟨_,aR,(h2.append r3).mono (dX.ext ow)⟩ .non⟩
  ·cases eq
 ·cases eq
def wC:FM:=fun d ds=>match d,ds with
 | .lst l,[.int i]=>if -(2 ^ 63)<=i/\i < 2 ^ 63 then(ixN l.length i).bind fun j=>(l[j]?).map fun y=>(.lst (l.eraseIdx j),y)else none
 | _,_=>none
theorem bB9:dE2 bU2 wC:=by
 intro H d p ds vs Q d' e ow r eq k
 unfold wC at eq
 split at eq
 ·split at eq
  ·rename_i l i hi
   obtain⟨j,e0,eq⟩:=aD eq
   obtain⟨y,e1,e2⟩:=Option.map_eq_some_iff.mp eq
   cases e2
   obtain⟨xs,h1,h2⟩:=mJ ow
   obtain⟨x,ex,rx⟩:=h2.get e1
   cases r with
   | cons a t=>
     cases t
     cases a
     exact⟨p,xs,i,j,x,rfl,rfl,h1,hi.1,hi.2,by rw[← h2.length];exact(xY e0).1,ex,k _ _ ⟨_,aR,(h2.eraseIdx j).mono (dX.ext ow)⟩ (rx.mono (dX.ext ow))⟩
  ·cases eq
 ·cases eq
def dA6(i:Int)(e:D):D->Option D
 | .lst l=>(ixN l.length i).map fun j=>.lst (l.set j e)
 | _=>none
def cE6(k:Nat)(ri re:DE):DS:=fun σ=>(re σ).bind fun x=>match x.1 with
 | .val d=>if yI "list" k x.2=true then(ri x.2).bind fun y=>(rd y.2 y.1).bind fun di=>match di with
   | .int i=>(bM7 (fun a _=>(dA6 i d a).map fun b=>(b,.non)) k [] y.2).bind fun z=>some (.nx z.2)
   | _=>none else none
 | _=>none
theorem bC0{X:Cx}{E:Ex}{st:Stmt}{k:Nat}{ri re:DE}(h:∀ Γ,PS X st (cA4 (dTE Γ re) (dC0 (bK3 k) (dTE Γ ri) cQ2))):GS E X st (cE6 k ri re):=.mk fun Γ=>psW (h Γ) fun D σV H ⟨σ,ok,o,e,kk⟩=>by
 obtain⟨⟨x,σ1⟩,e1,e⟩:=aD e
 refine⟨σ,ok,x,σ1,e1,fun v H1 ok1 r1 st1 f1=>?_⟩
 cases x with
 | own d=>cases e
 | slot d=>cases e
 | val d=>
   have e':(if yI "list" k σ1=true then(ri σ1).bind fun y=>(rd y.2 y.1).bind fun di=>match di with
    | .int i=>(bM7 (fun a _=>(dA6 i d a).map fun b=>(b,.non)) k [] y.2).bind fun z=>some (.nx z.2)
    | _=>none else none)=some o:=e
   split at e'
   ·rename_i hn
    obtain⟨⟨y,σ2⟩,e2,e'⟩:=aD e'
    obtain⟨di,e3,e'⟩:=aD e'
    obtain⟨s0,hs0,hm0,ht0⟩:=sV hn
    obtain⟨p,ep,ow⟩:=ok1.ownAt hs0 hm0
    dsimp only at e'
    split at e'
    ·rename_i i
     obtain⟨⟨z,σ3⟩,e4,e'⟩:=aD e'
     cases e'
     obtain⟨s,d',y',hs,hm,e5,rfl,rfl⟩:=lG e4
     obtain⟨b,e6,e7⟩:=Option.map_eq_some_iff.mp e5
     cases e7
     refine⟨_,ep,σ1,ok1,y,σ2,e2,fun vi H2 ok2 r2 st2 f2=>?_⟩
     obtain rfl:=cP (r2.vw ok2 e3)
     obtain⟨p',ep',ow2⟩:=ok2.ownAt hs (gY hm)
     rw[ep]at ep';cases ep'
     have rv:Rp H2 d v:=Rp.mono (st2.ext ok1) r1
     obtain⟨m,sd⟩:=s
     cases sd with
     | lst l=>
       obtain⟨j,e8,e9⟩:=Option.map_eq_some_iff.mp e6
       cases e9
       obtain⟨xs,h1,h2⟩:=mJ ow2
       refine⟨p,xs,i,j,rfl,rfl,h1,by rw[← h2.length];exact e8,?_⟩
       obtain⟨ok3,st3⟩:=ok2.write (d':=.lst (l.set j d)) (o':=.lst (xs.set j v)) hs hm ep ⟨_,aR,(h2.set j rv).mono (dX.ext ow2)⟩
       exact kk _ _ ok3 ((st1.trans st2).trans st3)
     | _=>cases e6
    ·cases e'
   ·cases e'
def aS2(i j:Int):Prop:=0 < j/\j < 18446744073709551616
theorem aC8{X:Cx}:OpR X (binaryOp .FloorDiv) (rI aS2 fun i j=>.int (i / j)):=opI fun i j _ _ _ _ _ hc q=>by
 have h1:(0:Int) < j:=hc.1
 have h2:j < 18446744073709551616:=hc.2
 refine PyProof.Rows.floordiv_int (by omega) (by rw[Int.fdiv_eq_ediv_of_nonneg i (by omega)];exact q) (.inl (PyProof.noPylong_of_log2 ?_))
 have h0:j.natAbs≠0:=by omega
 have h64:j.natAbs.log2 < 64:=(Nat.log2_lt h0).mpr (by omega)
 omega
noncomputable def dA7:F2:=iiC aS2 fun i j=>.int (i / j)
theorem bC1:sU (rI aS2 fun i j=>.int (i / j)) dA7:=yN fun _ _ _=>.int _
mutual
def jZ:D->PyData
 | .non=>.none
 | .bl b=>.bool b
 | .int i=>.int i
 | .str x=>.str x
 | .tup l=>.tuple (toPys l)
 | .lst l=>.list (toPys l)
 | .dic _ _=>.dict []
def toPys:List D->List PyData
 | []=>[]
 | d::r=>jZ d::toPys r
end
section
variable{X:Cx}{pins:List (Addr×Obj)}{σ:St}{H:Hp}{s:Shared}
mutual
theorem aC9(I:Inv X pins σ H s):∀ {d:D} {v:V} {u:Value},Rp H d v->eO v u->(jZ d).canLay0=true->∃ as,Reads s.heap u (jZ d) as
 | _,_,_,.non,r,_=>by cases r;exact⟨_,.none⟩
 | _,_,_,.bl b,r,_=>by cases r;exact⟨_,.bool b⟩
 | _,_,_,.int i,r,_=>by obtain⟨t,rfl⟩:=r;exact⟨_,.int i t⟩
 | _,_,_,.str x,r,_=>by obtain⟨t,rfl⟩:=r;exact⟨_,.str x t⟩
 | _,_,_,.tup h rs,r,hc=>by
   cases r
   obtain⟨_,its,vr,⟨o,ho,hcl,n,hd⟩,_⟩:=I.hok _ _ h
   obtain⟨as,ra⟩:=rps_reads I rs vr hc
   exact⟨_,.tuple ho hcl hd (by simpa using ra)⟩
 | _,_,_,.lst h rs,r,hc=>by
   cases r
   obtain⟨_,_,its,n,vr,e⟩:=I.hok _ _ h
   obtain⟨as,ra⟩:=rps_reads I rs vr hc
   exact⟨_,.list e rfl rfl (by simpa using ra)⟩
 | _,_,_,.dic h k rs,r,hc=>nomatch hc
theorem rps_reads(I:Inv X pins σ H s):∀ {l:List D} {vs:List V} {us:List Value},Rps H l vs->cE vs us->PyData.canLayAll0 (toPys l)=true->∃ as,ReadsAll s.heap us (toPys l) as
 | [],_,_,.nil,r,_=>by cases r;exact⟨_,.nil⟩
 | d::l,_,_,.cons a t,r,hc=>by
   cases r with
   | cons r1 r2=>
     have hc':(jZ d).canLay0=true/\PyData.canLayAll0 (toPys l)=true:=by simpa[toPys,PyData.canLayAll0]using hc
     obtain⟨as,h1⟩:=aC9 I a r1 hc'.1
     obtain⟨bs,h2⟩:=rps_reads I t r2 hc'.2
     exact⟨_,.cons h1 h2⟩
end
theorem gK(I:Inv X pins σ H s){d:D}{v:V}{u:Value}(h:Vw H d v)(r:eO v u)(hc:(jZ d).canLay0=true):∃ as,Reads s.heap u (jZ d) as:=by
 rcases h with h | ⟨p,rfl,h⟩
 ·exact aC9 I h r hc
 ·cases r
  cases d with
  | lst l=>
    obtain⟨xs,h1,h2⟩:=mJ h
    obtain⟨_,its,n,vr,e⟩:=I.hok _ _ h1
    obtain⟨as,ra⟩:=rps_reads I h2 vr hc
    exact⟨_,.list e rfl rfl (by simpa using ra)⟩
  | dic ks vs=>exact nomatch hc
  | _=>exact h.elim
end
def xT(d e:D):Bool:=PyData.eqv (jZ d) (jZ e)
def jG(d:D):Bool:=(jZ d).canLay0&&decide ((jZ d).depth<=60)
def dE6(neg:Bool):R2:=fun x y H Q=>∃ d e,Vw H d x/\Vw H e y/\jG d=true/\jG e=true/\Q (.bl (if neg then !xT d e else xT d e)) H
theorem eZ{d:D}(h:jG d=true):(jZ d).canLay0=true/\(jZ d).depth<=60:=by
 unfold jG at h
 rw[Bool.and_eq_true,decide_eq_true_eq]at h
 exact h
theorem iO{X:Cx}(hu:X.A.units+64 < cLine):OpR X (compareOp .Eq) (dE6 false):=by
 intro pins s σ H x y v u Q I rx ry h
 obtain⟨d,e,v1,v2,c1,c2,q⟩:=h
 obtain⟨a1,b1⟩:=eZ c1
 obtain⟨a2,b2⟩:=eZ c2
 obtain⟨as,r1⟩:=gK I v1 rx a1
 obtain⟨bs,r2⟩:=gK I v2 ry a2
 exact SeqAt.rcAt_reads r1 r2 a1 a2 (by omega) _ _ _ _ ⟨.bl _,H,I,rfl,q⟩
theorem cU6{X:Cx}(hu:X.A.units+64 < cLine):OpR X (compareOp .NotEq) (dE6 true):=by
 intro pins s σ H x y v u Q I rx ry h
 obtain⟨d,e,v1,v2,c1,c2,q⟩:=h
 obtain⟨a1,b1⟩:=eZ c1
 obtain⟨a2,b2⟩:=eZ c2
 obtain⟨as,r1⟩:=gK I v1 rx a1
 obtain⟨bs,r2⟩:=gK I v2 ry a2
 exact SeqAt.rcNeAt_reads r1 r2 a1 a2 (by omega) _ _ _ _ ⟨.bl _,H,I,rfl,q⟩
def eqD(neg:Bool):F2:=fun d e=>if jG d=true/\jG e=true then some (.val (.bl (if neg then !xT d e else xT d e)))else none
theorem hU{neg:Bool}:sU (dE6 neg) (eqD neg):=by
 intro H d1 d2 x y Q res v1 v2 e k
 unfold eqD at e
 split at e
 ·rename_i hc
  cases e
  exact⟨d1,d2,v1,v2,hc.1,hc.2,k _ H (.refl _) (.bl _)⟩
 ·cases e
def dE7(neg:Bool):R2:=fun x y H Q=>(∃ i j,x=.str i/\y=.str j/\Q (.bl (if neg then(Builtin.Str.occurrences j i 0 j.length 1).isEmpty else !(Builtin.Str.occurrences j i 0 j.length 1).isEmpty)) H) \/
 ∃ d e b l,Vw H d x/\Vw H e y/\cL2 e=some (b,l)/\jG d=true/\jG e=true/\Q (.bl (if neg then !(l.any fun y=>xT y d)else l.any fun y=>xT y d)) H
theorem pC(d:D):∀ l:List D,(toPys l).any (fun y=>PyData.eqv y (jZ d))=l.any fun y=>xT y d
 | []=>rfl
 | e::r=>by show(PyData.eqv (jZ e) (jZ d)||(toPys r).any _)=_;rw[pC d r];rfl
theorem wD{e:D}{b:Bool}{l:List D}(h:cL2 e=some (b,l)):PyData.depthAll (toPys l)<=(jZ e).depth/\((jZ e).canLay0=true->PyData.canLayAll0 (toPys l)=true):=by
 cases e with
 | lst l'=>cases h;exact⟨by show _<=PyData.depth (.list (toPys l));simp only[PyData.depth];omega,fun z=>z⟩
 | tup l'=>cases h;exact⟨by show _<=PyData.depth (.tuple (toPys l));simp only[PyData.depth];omega,fun z=>z⟩
 | _=>cases h
theorem bX1{X:Cx}(hu:X.A.units+64 < cLine):OpR X (compareOp .In) (dE7 false):=by
 intro pins s σ H x y v u Q I rx ry h
 rcases h with⟨i,j,rfl,rfl,q⟩ | ⟨d,e,b,l,v1,v2,hs,c1,c2,q⟩
 ·exact aV9 pins s σ H _ _ v u Q I rx ry ⟨_,_,rfl,rfl,by simpa using q⟩
 ·obtain⟨a1,b1⟩:=eZ c1
  obtain⟨a2,b2⟩:=eZ c2
  obtain⟨as,r1⟩:=gK I v1 rx a1
  obtain⟨bs,r2⟩:=gK I v2 ry a2
  obtain⟨dp,cl⟩:=wD hs
  have fin:EP X pins σ Q (.bool ((toPys l).any fun y=>PyData.eqv y (jZ d))) s:=⟨.bl _,H,I,by rw[pC];rfl,q⟩
  cases e with
  | lst l'=>cases hs;exact SeqAt.in_list_reads r2 r1 (cl a2) a1 (by omega) fin
  | tup l'=>cases hs;exact SeqAt.in_tuple_reads r2 r1 (cl a2) a1 (by omega) fin
  | _=>cases hs
theorem pD{X:Cx}(hu:X.A.units+64 < cLine):OpR X (compareOp .NotIn) (dE7 true):=by
 intro pins s σ H x y v u Q I rx ry h
 rcases h with⟨i,j,rfl,rfl,q⟩ | ⟨d,e,b,l,v1,v2,hs,c1,c2,q⟩
 ·exact vG pins s σ H _ _ v u Q I rx ry ⟨_,_,rfl,rfl,by simpa using q⟩
 ·obtain⟨a1,b1⟩:=eZ c1
  obtain⟨a2,b2⟩:=eZ c2
  obtain⟨as,r1⟩:=gK I v1 rx a1
  obtain⟨bs,r2⟩:=gK I v2 ry a2
  obtain⟨dp,cl⟩:=wD hs
  have fin:EP X pins σ Q (.bool (!(toPys l).any fun y=>PyData.eqv y (jZ d))) s:=⟨.bl _,H,I,by rw[pC];rfl,q⟩
  cases e with
  | lst l'=>cases hs;exact SeqAt.notIn_list_reads r2 r1 (cl a2) a1 (by omega) fin
  | tup l'=>cases hs;exact SeqAt.notIn_tuple_reads r2 r1 (cl a2) a1 (by omega) fin
  | _=>cases hs
def inD(neg:Bool):F2:=fun d e=>match d,e with
 | .str i,.str j=>some (.val (.bl (if neg then(Builtin.Str.occurrences j i 0 j.length 1).isEmpty else !(Builtin.Str.occurrences j i 0 j.length 1).isEmpty)))
 | d,e=>match cL2 e with
   | some (_,l)=>if jG d=true/\jG e=true then some (.val (.bl (if neg then !(l.any fun y=>xT y d)else l.any fun y=>xT y d)))else none
   | none=>none
theorem wE{neg:Bool}:sU (dE7 neg) (inD neg):=by
 intro H d1 d2 x y Q res v1 v2 e k
 unfold inD at e
 split at e
 ·cases e
  obtain rfl:=iN v1
  obtain rfl:=iN v2
  exact .inl ⟨_,_,rfl,rfl,k _ H (.refl _) (.bl _)⟩
 ·split at e
  ·rename_i b l hs
   split at e
   ·rename_i hc
    cases e
    exact .inr ⟨d1,d2,b,l,v1,v2,hs,hc.1,hc.2,k _ H (.refl _) (.bl _)⟩
   ·cases e
  ·cases e
def cE7(K:PySem.W.Frag):List V->Hp->VK->Prop:=fun xs H Q=>∃ x c t,xs=[x,.ty c]/\TyOf K H x (.type t)/\(t="NoneType"\/t="int"\/t="bool"\/t="str"\/t="list"\/t="tuple") /\
 (c="int"\/c="bool"\/c="str"\/c="list"\/c="tuple")/\Q (.bl (oV t c)) H
theorem bC2{X:Cx}(K:PySem.W.Frag)(hK:X.K=K):jW X (.builtin "isinstance") (cE7 K):=by
 subst hK
 intro pins s σ H xs us Q I r h
 obtain⟨x,c,t,rfl,ty,h1,h2,q⟩:=h
 exact yC pins s σ H _ us Q I r ⟨x,c,.type t,_,rfl,ty,bM4 h1 h2,q⟩
theorem cU7{X:Cx}{e:Expr}{r:DE}{c:String}(K:PySem.W.Frag)(hc:c="int"\/c="bool"\/c="str"\/c="list"\/c="tuple")(h:∀ Γ,PE X e (tCB (cE7 K) (bK7 (dTE Γ r) (bK7 (tC (.ty c)) dC8)))):GE X e (bJ7 (cU4 c) r):=.mk fun Γ=>peW (h Γ) fun σV H Q hq=>by
 have hp:cL1 (fun x H Q=>cE7 K [x,.ty c] H Q) (cU4 c):=by
  intro H d x Q res v1 e k
  cases d with
  | non=>cases e;obtain rfl:=bW6 v1;exact⟨_,_,_,rfl,.non,.inl rfl,hc,k _ H (.refl _) (.bl _)⟩
  | bl b=>cases e;obtain rfl:=bA0 v1;exact⟨_,_,_,rfl,.bl b,.inr (.inr (.inl rfl)),hc,k _ H (.refl _) (.bl _)⟩
  | int i=>cases e;obtain rfl:=cP v1;exact⟨_,_,_,rfl,.int i,.inr (.inl rfl),hc,k _ H (.refl _) (.bl _)⟩
  | str i=>cases e;obtain rfl:=iN v1;exact⟨_,_,_,rfl,.str i,.inr (.inr (.inr (.inl rfl))),hc,k _ H (.refl _) (.bl _)⟩
  | tup l=>cases e;obtain⟨p,xs,rfl,h1,_⟩:=eG v1;exact⟨_,_,_,rfl,.tup h1,.inr (.inr (.inr (.inr (.inr rfl)))),hc,k _ H (.refl _) (.bl _)⟩
  | lst l=>
    cases e
    rcases v1 with v1 | ⟨p,rfl,v1⟩
    ·cases v1 with
     | lst h1 _=>exact⟨_,_,_,rfl,.frz h1,.inr (.inr (.inr (.inr (.inl rfl)))),hc,k _ H (.refl _) (.bl _)⟩
    ·obtain⟨xs,h1,_⟩:=mJ v1
     exact⟨_,_,_,rfl,.lst h1,.inr (.inr (.inr (.inr (.inl rfl)))),hc,k _ H (.refl _) (.bl _)⟩
  | dic ks vs=>cases e
 exact aB7 hp hq
theorem gE{X:Cx}{e:Expr}{r:DE}(h:GE X e r)(Γ:Gm):PE X e (dTE Γ r):=h.to Γ
theorem gA{X:Cx}{e:List Expr}{r:DA}(h:GA X e r)(Γ:Gm):PA X e (dTA Γ r):=h.to Γ
theorem gT{X:Cx}{e:Expr}{r:DT}(h:GT X e r)(Γ:Gm):PT X e (dTT Γ r):=h.to Γ
theorem gI{X:Cx}{tg e:Expr}{r:DI}(h:GI X tg e r)(Γ:Gm):PI X tg e (dTI Γ r):=h.to Γ
theorem gSs{X:Cx}{E:Ex}{e:List Stmt}{r:DS}(h:GSs E X e r)(Γ:Gm):PSs X e (dTS Γ E r):=h.to Γ
def bC3(K:PySem.W.Frag):Bool:=K.all fun p=>match p.2.cls with
 | .type n=>!(n=="list")
 | _=>true
theorem cE8{K:PySem.W.Frag}{H:Hp}{a:Addr}{ns:List Int}(hK:bC3 K=true)(hO:cQ7 H)(hS:SqL K H a (ns.map V.int)):ArgOk H [⟨.val,.lst (ns.map D.int)⟩] [.ref a]:=by
 have hf:∃ o,H a=some (.frz o (.lst (ns.map V.int))):=by
  rcases hS with hS | ⟨o,its,n,hk,hc,_⟩
  ·rcases hS with hS | ⟨o,hS⟩
   ·rcases hO a with z | ⟨o,xs,z⟩
    ·rw[hS]at z;cases z
    ·rw[hS]at z;cases z
   ·exact⟨o,hS⟩
  ·exfalso
   unfold bC3 at hK
   rw[List.all_eq_true]at hK
   have hm:(a,o)∈K:=by
    clear hK hO
    have:∀ (l:List (Addr×Obj)),List.lookup a l=some o->(a,o)∈l:=by
     intro l
     induction l with
     | nil=>intro h;simp at h
     | cons p r ih=>
       intro h
       rw[List.lookup_cons]at h
       split at h
       ·rename_i e
        have:a=p.1:=by simpa using e
        cases h
        rw[this]
        exact List.mem_cons_self
       ·exact List.mem_cons_of_mem _ (ih h)
    exact this K hk
   have:=hK _ hm
   rw[hc]at this
   simp at this
 obtain⟨o,hf⟩:=hf
 refine⟨rfl,fun i s e=>?_,fun i j s t p n ei ej m=>?_,fun i s e=>?_⟩
 ·cases i with
  | zero=>simp at e;subst e;exact⟨_,rfl,.lst hf (gG ns)⟩
  | succ i=>simp at e
 ·cases i with
  | zero=>simp at ei;subst ei;cases m
  | succ i=>simp at ei
 ·cases i with
  | zero=>simp at e;subst e;exact fun z=>nomatch z
  | succ i=>simp at e
def OK1{α:Type}(o:Option α)(K:α->Prop):Prop:=match o with
 | some a=>K a
 | none=>False
def RE(r:DE)(σ:Sg)(Q:Res->Sg->Prop):Prop:=OK1 (r σ) fun x=>Q x.1 x.2
def RT(r:DT)(σ:Sg)(Q:Bool->Sg->Prop):Prop:=OK1 (r σ) fun x=>Q x.1 x.2
def RA(r:DA)(σ:Sg)(Q:List Res->Sg->Prop):Prop:=OK1 (r σ) fun x=>Q x.1 x.2
def RS(r:DS)(σ:Sg)(Q:Out->Prop):Prop:=OK1 (r σ) Q
def RI(r:DI)(σ:Sg)(Q:List D->Option Nat->Sg->Prop):Prop:=OK1 (r σ) fun x=>Q x.1 x.2.1 x.2.2
def RO(r:DO)(σ:Sg)(Q:Option Int->Sg->Prop):Prop:=OK1 (r σ) fun x=>Q x.1 x.2
theorem aP{α β:Type}{o:Option α}{f:α->Option β}{K:β->Prop}:OK1 (o.bind f) K=OK1 o fun a=>OK1 (f a) K:=by cases o<;>rfl
theorem bP{α:Type}{a:α}{K:α->Prop}:OK1 (some a) K=K a:=rfl
theorem wF{α β:Type}{o:Option α}{f:α->β}{K:β->Prop}:OK1 (o.map f) K=OK1 o fun a=>K (f a):=by cases o<;>rfl
theorem bO{α:Type}{c:Prop}[Decidable c]{o:Option α}{K:α->Prop}:OK1 (if c then o else none) K=(c/\OK1 o K):=by
 by_cases h:c
 ·rw[if_pos h];exact propext ⟨fun q=>⟨h,q⟩,fun q=>q.2⟩
 ·rw[if_neg h];exact propext ⟨fun q=>q.elim,fun q=>h q.1⟩
theorem kA{α:Type}{o:Option α}{K:α->Prop}:OK1 o K↔∃ a,o=some a/\K a:=by
 cases o with
 | none=>exact⟨fun q=>q.elim,fun⟨_,e,_⟩=>nomatch e⟩
 | some a=>exact⟨fun q=>⟨a,rfl,q⟩,fun⟨_,e,q⟩=>by cases e;exact q⟩
theorem bZ{α:Type}{o:Option α}{K K':α->Prop}(h:OK1 o K)(w:∀ a,K a->K' a):OK1 o K':=by
 cases o with
 | none=>exact h
 | some a=>exact w a h
def VK:Nat->Sg->Nat->Sg->(Res->Sg->Prop)->Prop
 | 0,some s::_,i,σ,Q=>Q (if s.m=.val then .val s.d else .slot i) σ
 | n+1,_::r,i,σ,Q=>VK n r i σ Q
 | _,_,_,_,_=>False
theorem cU8:∀ (n:Nat) (r:Sg) (i:Nat) (σ:Sg) (Q:Res->Sg->Prop),VK n r i σ Q=OK1 (match r[n]? with | some (some s)=>some (if s.m=.val then Res.val s.d else Res.slot i,σ) | _=>none) fun x=>Q x.1 x.2
 | 0,[],_,_,_=>rfl
 | 0,none::_,_,_,_=>rfl
 | 0,some s::_,_,_,_=>rfl
 | n+1,[],_,_,_=>rfl
 | n+1,_::r,i,σ,Q=>by
   show VK n r i σ Q=_
   rw[cU8 n r i σ Q,List.getElem?_cons_succ]
def GK:Nat->Sg->(D->Prop)->Prop
 | 0,some s::_,K=>K s.d
 | n+1,_::r,K=>GK n r K
 | _,_,_=>False
theorem cU9:∀ (n:Nat) (r:Sg) (K:D->Prop),GK n r K=OK1 (match r[n]? with | some (some s)=>some s.d | _=>none) K
 | 0,[],_=>rfl
 | 0,none::_,_=>rfl
 | 0,some s::_,_=>rfl
 | n+1,[],_=>rfl
 | n+1,_::r,K=>by
   show GK n r K=_
   rw[cU9 n r K,List.getElem?_cons_succ]
def RD(σ:Sg)(r:Res)(K:D->Prop):Prop:=OK1 (rd σ r) K
def PK:Nat->Sg->Sl->(Sg->Prop)->Prop
 | 0,none::r,s,K=>K (some s::r)
 | 0,some ⟨.val,_⟩::r,s,K=>K (some s::r)
 | 0,some ⟨.own,_⟩::r,s,K=>K (some s::r)
 | n+1,o::r,s,K=>PK n r s fun r'=>K (o::r')
 | _,_,_,_=>False
theorem aS3{n:Nat}{o:Option Sl}{r:Sg}:eP (o::r) (n+1)=eP r n:=by unfold eP;rw[List.getElem?_cons_succ]
theorem bN5:∀ (n:Nat) (r:Sg) (s:Sl) (K:Sg->Prop),PK n r s K=OK1 (if eP r n=true then some (r.set n (some s))else none) K
 | 0,[],s,K=>rfl
 | 0,none::r,s,K=>rfl
 | 0,some ⟨.val,_⟩::r,s,K=>rfl
 | 0,some ⟨.own,_⟩::r,s,K=>rfl
 | 0,some ⟨.par,_⟩::r,s,K=>rfl
 | 0,some ⟨.lent,_⟩::r,s,K=>rfl
 | n+1,[],s,K=>by
   show False=_
   rw[bO];unfold eP;simp
 | n+1,o::r,s,K=>by
   show PK n r s (fun r'=>K (o::r'))=_
   rw[bN5 n r s _,bO,bO,aS3,List.set_cons_succ]
   rfl
def MK:Nat->Sg->FM->List D->(D->Sg->Prop)->Prop
 | 0,some ⟨.own,d⟩::r,f,ds,K=>OK1 (f d ds) fun y=>K y.2 (some ⟨.own,y.1⟩::r)
 | 0,some ⟨.par,d⟩::r,f,ds,K=>OK1 (f d ds) fun y=>K y.2 (some ⟨.par,y.1⟩::r)
 | n+1,o::r,f,ds,K=>MK n r f ds fun e r'=>K e (o::r')
 | _,_,_,_,_=>False
theorem cV0:∀ (n:Nat) (r:Sg) (f:FM) (ds:List D) (K:D->Sg->Prop),MK n r f ds K=OK1 (bM7 f n ds r) fun x=>OK1 (match x.1 with | .val d=>some d | _=>none) fun d=>K d x.2
 | 0,[],f,ds,K=>rfl
 | 0,none::r,f,ds,K=>rfl
 | 0,some ⟨.val,_⟩::r,f,ds,K=>rfl
 | 0,some ⟨.lent,_⟩::r,f,ds,K=>rfl
 | 0,some ⟨.own,d⟩::r,f,ds,K=>by
   show OK1 (f d ds) _=OK1 ((f d ds).bind fun y=>some (Res.val y.2,some (⟨.own,y.1⟩:Sl)::r)) _
   rw[aP];rfl
 | 0,some ⟨.par,d⟩::r,f,ds,K=>by
   show OK1 (f d ds) _=OK1 ((f d ds).bind fun y=>some (Res.val y.2,some (⟨.par,y.1⟩:Sl)::r)) _
   rw[aP];rfl
 | n+1,[],f,ds,K=>rfl
 | n+1,o::r,f,ds,K=>by
   show MK n r f ds (fun e r'=>K e (o::r'))=_
   rw[cV0 n r f ds _]
   unfold bM7
   rw[List.getElem?_cons_succ]
   cases q:r[n]? with
   | none=>rfl
   | some x=>cases x with
     | none=>rfl
     | some s=>
       dsimp only
       by_cases hm:s.m.mt=true
       ·rw[if_pos hm,if_pos hm,aP,aP];rfl
       ·rw[if_neg hm,if_neg hm];rfl
def TK:String->Nat->Sg->Prop->Prop
 | T,0,some ⟨.own,d⟩::_,P=>tyD T d=true/\P
 | T,0,some ⟨.par,d⟩::_,P=>tyD T d=true/\P
 | T,0,some ⟨.lent,d⟩::_,P=>tyD T d=true/\P
 | T,n+1,_::r,P=>TK T n r P
 | _,_,_,_=>False
theorem bN6:∀ (T:String) (n:Nat) (r:Sg) (P:Prop),TK T n r P=(yI T n r=true/\P)
 | T,0,[],P=>by simp[TK,yI]
 | T,0,none::r,P=>by simp[TK,yI]
 | T,0,some ⟨.val,d⟩::r,P=>by simp[TK,yI]
 | T,0,some ⟨.own,d⟩::r,P=>by simp[TK,yI]
 | T,0,some ⟨.par,d⟩::r,P=>by simp[TK,yI]
 | T,0,some ⟨.lent,d⟩::r,P=>by simp[TK,yI]
 | T,n+1,[],P=>by simp[TK,yI]
 | T,n+1,o::r,P=>by
   show TK T n r P=_
   rw[bN6 T n r P]
   unfold yI
   rw[List.getElem?_cons_succ]
section
variable{σ:Sg}{Q:Res->Sg->Prop}{QT:Bool->Sg->Prop}{QA:List Res->Sg->Prop}{QS:Out->Prop}{K:D->Prop}{KR:Res->Prop}{a b c:DE}{ra:DA}{t u:DT}{x y:DS}{d e:D}{f:F2}{f1:F1}{fn:FN}{i j n:Nat}{r:Sg}{o:Option Sl}
theorem dA8:RE (dC d) σ Q=Q (.val d) σ:=rfl
theorem wG:RE (aG i) σ Q=VK i σ i σ Q:=(cU8 i σ i σ Q).symm
theorem aD0:VK (n+1) (o::r) i σ Q=VK n r i σ Q:=rfl
theorem wH:VK 0 (some ⟨.val,d⟩::r) i σ Q=Q (.val d) σ:=rfl
theorem aD1:VK 0 (some ⟨.own,d⟩::r) i σ Q=Q (.slot i) σ:=rfl
theorem aD2:VK 0 (some ⟨.par,d⟩::r) i σ Q=Q (.slot i) σ:=rfl
theorem aD3:VK 0 (some ⟨.lent,d⟩::r) i σ Q=Q (.slot i) σ:=rfl
theorem aD4:RE (aU f a b) σ Q=RE a σ fun x σ1=>RE b σ1 fun y σ2=>RD σ2 x fun d=>RD σ2 y fun e=>OK1 (f d e) fun r=>Q r σ2:=by
 unfold RE aU RD;simp only[aP,bP]
theorem aD5:RE (bJ7 f1 a) σ Q=RE a σ fun x σ1=>RD σ1 x fun d=>OK1 (f1 d) fun r=>Q r σ1:=by
 unfold RE bJ7 RD;simp only[aP,bP]
theorem rS:RD σ (.val d) K=K d:=rfl
theorem aD6:RD σ (.own d) K=K d:=rfl
theorem aD7:RD σ (.slot i) K=GK i σ K:=(cU9 i σ K).symm
theorem aD8{m:Md}:GK 0 (some ⟨m,d⟩::r) K=K d:=rfl
theorem aD9:GK (n+1) (o::r) K=GK n r K:=rfl
theorem aE0:RT (gH a) σ QT=RE a σ fun x σ1=>RD σ1 x fun d=>OK1 (match d with | .bl b=>some b | _=>none) fun b=>QT b σ1:=by
 unfold RT RE gH RD
 simp only[aP]
 congr 1;funext x;congr 1;funext d
 cases d<;>rfl
theorem aE1{b:Bool}{K:Bool->Prop}:OK1 (match D.bl b with | .bl b=>some b | _=>none) K=K b:=rfl
theorem aE2:RT (cT0 a) σ QT=RE a σ fun x σ1=>RD σ1 x fun d=>OK1 (dE0 d) fun b=>QT b σ1:=by
 unfold RT RE cT0 RD;simp only[aP,bP]
theorem aE3:RT (cL3 t) σ QT=RT t σ fun b σ1=>QT (!b) σ1:=by
 unfold RT cL3;simp only[aP,bP]
theorem pE:RT iU σ QT=QT true σ:=rfl
theorem tF:RE (bA1 a b) σ Q=RT (gH a) σ fun t σ1=>if t=true then RE b σ1 Q else Q (.val (.bl false)) σ1:=by
 unfold RT RE bA1;simp only[aP]
 congr 1;funext x;by_cases h:x.1=true<;>simp[h,OK1]
theorem aE4{b:Bool}{K:Bool->Prop}:OK1 (match Res.val (D.bl b)with | .val (.bl t)=>some t | _=>none) K=K b:=rfl
theorem rT:RA aM σ QA=QA [] σ:=rfl
theorem mL:RA (aC a ra) σ QA=RE a σ fun x σ1=>RA ra σ1 fun xs σ2=>QA (x::xs) σ2:=by
 unfold RA RE aC;simp only[aP,bP]
def RDs(σ:Sg)(rs:List Res)(K:List D->Prop):Prop:=OK1 (rds σ rs) K
def VLs(rs:List Res)(K:List D->Prop):Prop:=OK1 (vals rs) K
theorem mM{K:List D->Prop}:RDs σ [] K=K []:=rfl
theorem mO{x:Res}{xs:List Res}{K:List D->Prop}:RDs σ (x::xs) K=RD σ x fun d=>RDs σ xs fun ds=>K (d::ds):=by
 show OK1 ((rd σ x).bind fun d=>(rds σ xs).bind fun ds=>some (d::ds)) K=_
 unfold RDs RD;simp only[aP,bP]
theorem aE5{K:List D->Prop}:VLs [] K=K []:=rfl
theorem aE6{xs:List Res}{K:List D->Prop}:VLs (.val d::xs) K=VLs xs fun ds=>K (d::ds):=by
 show OK1 ((vals xs).bind fun ds=>some (d::ds)) K=_
 unfold VLs;simp only[aP,bP]
theorem bC4:RE (dCB fn ra) σ Q=RA ra σ fun xs σ1=>RDs σ1 xs fun ds=>OK1 (fn ds) fun r=>Q r σ1:=by
 unfold RE RA RDs dCB;simp only[aP,bP]
theorem aE7:RE (aR7 ra) σ Q=RA ra σ fun xs σ1=>VLs xs fun ds=>ds.length<=sizeLine/\Q (.val (.tup ds)) σ1:=by
 unfold RE RA VLs aR7;simp only[aP,bO,bP]
theorem aE8:RE (lF ra) σ Q=RA ra σ fun xs σ1=>VLs xs fun ds=>ds.length<=sizeLine/\Q (.own (.lst ds)) σ1:=by
 unfold RE RA VLs lF;simp only[aP,bO,bP]
def FK(r:Res)(σ:Sg)(K:D->Sg->Prop):Prop:=OK1 (dH6 σ r) fun x=>K x.1 x.2
def ZK:Nat->Sg->(D->Sg->Prop)->Prop
 | 0,some ⟨.own,d⟩::r,K=>K d (some ⟨.val,d⟩::r)
 | 0,some ⟨.val,d⟩::r,K=>K d (some ⟨.val,d⟩::r)
 | n+1,o::r,K=>ZK n r fun d r'=>K d (o::r')
 | _,_,_=>False
theorem cV1:∀ (n:Nat) (r:Sg) (K:D->Sg->Prop),ZK n r K=FK (.slot n) r K
 | 0,[],K=>rfl
 | 0,none::r,K=>rfl
 | 0,some ⟨.val,_⟩::r,K=>rfl
 | 0,some ⟨.own,_⟩::r,K=>rfl
 | 0,some ⟨.par,_⟩::r,K=>rfl
 | 0,some ⟨.lent,_⟩::r,K=>rfl
 | n+1,[],K=>rfl
 | n+1,o::r,K=>by
   show ZK n r (fun d r'=>K d (o::r'))=_
   rw[cV1 n r _]
   show OK1 (match r[n]? with | some (some s)=>if s.m=.own then some (s.d,r.set n (some ⟨.val,s.d⟩))else if s.m=.val then some (s.d,r)else none | _=>none) _ =
    OK1 (match (o::r)[n+1]? with | some (some s)=>if s.m=.own then some (s.d,(o::r).set (n+1) (some ⟨.val,s.d⟩))else if s.m=.val then some (s.d,o::r)else none | _=>none) _
   rw[List.getElem?_cons_succ]
   cases r[n]? with
   | none=>rfl
   | some x=>cases x with
     | none=>rfl
     | some s=>
       dsimp only
       by_cases h1:s.m=.own
       ·rw[if_pos h1,if_pos h1];rfl
       ·rw[if_neg h1,if_neg h1]
        by_cases h2:s.m=.val
        ·rw[if_pos h2,if_pos h2];rfl
        ·rw[if_neg h2,if_neg h2];rfl
theorem bN7:RE (dFz a) σ Q=RE a σ fun x σ1=>FK x σ1 fun d σ2=>Q (.val d) σ2:=by
 unfold RE dFz FK;simp only[aP,bP]
theorem aE9{K:D->Sg->Prop}:FK (.val d) σ K=K d σ:=rfl
theorem aF0{K:D->Sg->Prop}:FK (.own d) σ K=K d σ:=rfl
theorem aF1{K:D->Sg->Prop}:FK (.slot i) σ K=ZK i σ K:=(cV1 i σ K).symm
theorem aF2{K:D->Sg->Prop}:ZK 0 (some ⟨.own,d⟩::r) K=K d (some ⟨.val,d⟩::r):=rfl
theorem aF3{K:D->Sg->Prop}:ZK 0 (some ⟨.val,d⟩::r) K=K d (some ⟨.val,d⟩::r):=rfl
theorem aF4{K:D->Sg->Prop}:ZK (n+1) (o::r) K=ZK n r fun d r'=>K d (o::r'):=rfl
theorem tG:RS gO σ QS=QS (.nx σ):=rfl
theorem tH:RS (fun σ=>some (.ct σ)) σ QS=QS (.ct σ):=rfl
def SqK(y:DS)(QS:Out->Prop):Out->Prop
 | .nx σ=>RS y σ QS
 | o=>QS o
theorem wI:RS (bL x y) σ QS=RS x σ (SqK y QS):=by
 unfold RS bL
 rw[aP]
 congr 1;funext o
 cases o<;>rfl
theorem aF5:SqK y QS (.nx σ)=RS y σ QS:=rfl
theorem aF6{v:Res}:SqK y QS (.rt v σ)=QS (.rt v σ):=rfl
theorem aF7:SqK y QS (.bk σ)=QS (.bk σ):=rfl
theorem aF8:SqK y QS (.ct σ)=QS (.ct σ):=rfl
theorem tJ:RS (jB a) σ QS=RE a σ fun _ σ1=>QS (.nx σ1):=by unfold RS RE jB;simp only[aP,bP]
theorem aF9:RS (gP a) σ QS=RE a σ fun x σ1=>QS (.rt x σ1):=by unfold RS RE gP;simp only[aP,bP]
theorem tK:RS dE3 σ QS=QS (.rt (.val .non) σ):=rfl
theorem aG0:RS (lH t x y) σ QS=RT t σ fun b σ1=>if b=true then RS x σ1 QS else RS y σ1 QS:=by
 unfold RS RT lH;simp only[aP]
 congr 1;funext z;by_cases h:z.1=true<;>simp[h]
def PtK(i:Nat)(r:Res)(σ:Sg)(K:Sg->Prop):Prop:=OK1 (dA1 i r σ) K
theorem aG1:RS (bV i a) σ QS=RE a σ fun x σ1=>PtK i x σ1 fun σ2=>QS (.nx σ2):=by unfold RS RE PtK bV;simp only[aP,bP]
theorem aG2{K:Sg->Prop}:PtK i (.val d) σ K=PK i σ ⟨.val,d⟩ K:=(bN5 i σ _ K).symm
theorem aG3{K:Sg->Prop}:PtK i (.own d) σ K=PK i σ ⟨.own,d⟩ K:=(bN5 i σ _ K).symm
theorem aG4{s:Sl}{K:Sg->Prop}:PK 0 (none::r) s K=K (some s::r):=rfl
theorem aG5{s:Sl}{K:Sg->Prop}:PK 0 (some ⟨.val,d⟩::r) s K=K (some s::r):=rfl
theorem aG6{s:Sl}{K:Sg->Prop}:PK 0 (some ⟨.own,d⟩::r) s K=K (some s::r):=rfl
theorem aG7{s:Sl}{K:Sg->Prop}:PK (n+1) (o::r) s K=PK n r s fun r'=>K (o::r'):=rfl
theorem cE9{fm:FM}{ds:List D}{σ:Sg}:OK1 (bM7 fm i ds σ) (fun x=>Q x.1 x.2)=MK i σ fm ds fun d σ1=>Q (.val d) σ1:=by
 rw[cV0]
 apply propext
 rw[kA,kA]
 constructor
 ·rintro⟨⟨x,s⟩,e,q⟩
  obtain⟨_,_,_,_,_,_,rfl,_⟩:=lG e
  exact⟨_,e,q⟩
 ·rintro⟨⟨x,s⟩,e,q⟩
  obtain⟨_,_,_,_,_,_,rfl,_⟩:=lG e
  exact⟨_,e,q⟩
theorem tL{T:String}{fm:FM}:RE (kM T i fm ra) σ Q=TK T i σ (RA ra σ fun xs σ1=>VLs xs fun ds=>MK i σ1 fm ds fun d σ2=>Q (.val d) σ2):=by
 rw[bN6]
 unfold RE kM RA VLs
 rw[bO]
 simp only[aP,cE9]
theorem tM{T:String}{fm:FM}:RE (vW T i fm ra) σ Q=TK T i σ (RA ra σ fun xs σ1=>RDs σ1 xs fun ds=>MK i σ1 fm ds fun d σ2=>Q (.val d) σ2):=by
 rw[bN6]
 unfold RE vW RA RDs
 rw[bO]
 simp only[aP,cE9]
theorem aG8{T:String}{P:Prop}:TK T 0 (some ⟨.own,d⟩::r) P=(tyD T d=true/\P):=rfl
theorem aG9{T:String}{P:Prop}:TK T 0 (some ⟨.par,d⟩::r) P=(tyD T d=true/\P):=rfl
theorem aH0{T:String}{P:Prop}:TK T (n+1) (o::r) P=TK T n r P:=rfl
theorem aH1{fm:FM}{ds:List D}{K:D->Sg->Prop}:MK 0 (some ⟨.own,d⟩::r) fm ds K=OK1 (fm d ds) fun y=>K y.2 (some ⟨.own,y.1⟩::r):=rfl
theorem aH2{fm:FM}{ds:List D}{K:D->Sg->Prop}:MK 0 (some ⟨.par,d⟩::r) fm ds K=OK1 (fm d ds) fun y=>K y.2 (some ⟨.par,y.1⟩::r):=rfl
theorem aH3{fm:FM}{ds:List D}{K:D->Sg->Prop}:MK (n+1) (o::r) fm ds K=MK n r fm ds fun e r'=>K e (o::r'):=rfl
theorem aH4:RS (cE6 i a b) σ QS=RE b σ fun x σ1=>OK1 (match x with | .val d=>some d | _=>none) fun d=>TK "list" i σ1 (RE a σ1 fun y σ2=>RD σ2 y fun di=>OK1 (match di with | .int k=>some k | _=>none) fun k=>
  MK i σ2 (fun a _=>(dA6 k d a).map fun b=>(b,.non)) [] fun _ σ3=>QS (.nx σ3)):=by
 unfold RS RE RD cE6
 rw[aP]
 congr 1;funext x
 obtain⟨x,σ1⟩:=x
 cases x with
 | own d=>rfl
 | slot d=>rfl
 | val d=>
   show OK1 _ _=TK _ _ _ _
   rw[bN6]
   dsimp only
   rw[bO]
   simp only[aP]
   congr 1;congr 1;funext y;congr 1;funext di
   cases di with
   | int k=>
     dsimp only
     rw[aP]
     show _=MK _ _ _ _ _
     rw[← cE9 (Q:=fun _ σ3=>QS (.nx σ3))]
     rfl
   | _=>rfl
theorem aH5{K:D->Prop}:OK1 (match Res.val d with | .val d=>some d | _=>none) K=K d:=rfl
theorem aH6{k:Int}{K:Int->Prop}:OK1 (match D.int k with | .int k=>some k | _=>none) K=K k:=rfl
theorem aH7{g:DG}:RS (cT4 g a) σ QS=RE a σ fun x σ1=>OK1 (match x with | .val d=>some d | _=>none) fun d=>OK1 (g d σ1) fun σ2=>QS (.nx σ2):=by
 unfold RS RE cT4
 rw[aP]
 congr 1;funext x
 obtain⟨x,σ1⟩:=x
 cases x with
 | own d=>rfl
 | slot d=>rfl
 | val d=>
   show OK1 ((g d σ1).bind _) _=OK1 (g d σ1) _
   rw[aP];rfl
theorem bN8{K:Sg->Prop}:OK1 (dgN i d σ) K=PK i σ ⟨.val,d⟩ K:=(bN5 i σ _ K).symm
theorem tN{gs:DGs}{l:List D}{K:Sg->Prop}:OK1 (nP n gs (.tup l) σ) K=(l.length=n/\OK1 (gs l σ) K):=by
 show OK1 (if l.length=n then gs l σ else none) K=_
 rw[bO]
theorem oH{g:DG}{gs:DGs}{l:List D}{K:Sg->Prop}:OK1 (dI g gs (d::l) σ) K=OK1 (g d σ) fun σ1=>OK1 (gs l σ1) K:=by
 show OK1 ((g d σ).bind fun σ1=>gs l σ1) K=_
 rw[aP]
theorem tO{K:Sg->Prop}:OK1 (mE [] σ) K=K σ:=rfl
theorem aH8:RS (dA2 i j ra) σ QS=RA ra σ fun xs σ1=>VLs xs fun ds=>OK1 (match ds with | [d,e]=>some (d,e) | _=>none) fun p=>(eP σ1 i=true/\eP σ1 j=true/\i≠j)/\QS (.nx ((σ1.set i (some ⟨.val,p.1⟩)).set j (some ⟨.val,p.2⟩))):=by
 unfold RS RA VLs dA2
 simp only[aP]
 congr 1;funext x;congr 1;funext ds
 match ds with
 | []=>rfl
 | [_]=>rfl
 | [d,e]=>show OK1 (if eP x.2 i=true/\eP x.2 j=true/\i≠j then _ else none) QS=_;rw[bO];rfl
 | _::_::_::_=>rfl
theorem aH9{K:D×D->Prop}:OK1 (match [d,e]with | [d,e]=>some (d,e) | _=>none) K=K (d,e):=rfl
end
def CK(run:Run)(as:List Sl)(K:Res->List Sl->Prop):Prop:=OK1 (run as) fun y=>K y.1 y.2
def AK(σ:Sg)(rs:List Res)(K:List Sl->Prop):Prop:=OK1 (pA σ rs) K
def A1(σ:Sg)(r:Res)(K:Sl->Prop):Prop:=OK1 (yM σ r) K
def HK:Nat->Sg->(Sl->Prop)->Prop
 | 0,some ⟨m,d⟩::_,K=>K ⟨if m.mt=true then .par else m,d⟩
 | n+1,_::r,K=>HK n r K
 | _,_,_=>False
theorem cV2:∀ (n:Nat) (r:Sg) (K:Sl->Prop),HK n r K=A1 r (.slot n) K
 | 0,[],_=>rfl
 | 0,none::_,_=>rfl
 | 0,some s::_,_=>rfl
 | n+1,[],_=>rfl
 | n+1,_::r,K=>by
   show HK n r K=_
   rw[cV2 n r K]
   show OK1 (match r[n]? with | some (some s)=>some (⟨if s.m.mt=true then .par else s.m,s.d⟩:Sl) | _=>none) K=OK1 (match (_::r)[n+1]? with | some (some s)=>some (⟨if s.m.mt=true then .par else s.m,s.d⟩:Sl) | _=>none) K
   rw[List.getElem?_cons_succ]
def UK:Nat->Sg->D->(Sg->Prop)->Prop
 | 0,some ⟨.own,_⟩::r,d,K=>K (some ⟨.own,d⟩::r)
 | 0,some ⟨.par,_⟩::r,d,K=>K (some ⟨.par,d⟩::r)
 | 0,o::r,_,K=>K (o::r)
 | n+1,o::r,d,K=>UK n r d fun r'=>K (o::r')
 | _,[],_,K=>K []
def uS(σ:Sg)(i:Nat)(d:D):Sg:=match σ[i]? with
 | some (some s)=>if s.m.mt=true then σ.set i (some ⟨s.m,d⟩)else σ
 | _=>σ
theorem cV3:∀ (n:Nat) (r:Sg) (d:D) (K:Sg->Prop),UK n r d K=K (uS r n d)
 | 0,[],_,_=>rfl
 | n+1,[],_,_=>rfl
 | 0,none::r,d,K=>rfl
 | 0,some ⟨.val,_⟩::r,d,K=>rfl
 | 0,some ⟨.own,_⟩::r,d,K=>rfl
 | 0,some ⟨.par,_⟩::r,d,K=>rfl
 | 0,some ⟨.lent,_⟩::r,d,K=>rfl
 | n+1,o::r,d,K=>by
   show UK n r d (fun r'=>K (o::r'))=_
   rw[cV3 n r d _]
   unfold uS
   rw[List.getElem?_cons_succ]
   cases r[n]? with
   | none=>rfl
   | some x=>cases x with
     | none=>rfl
     | some s=>
       dsimp only
       by_cases h:s.m.mt=true
       ·rw[if_pos h,if_pos h];rfl
       ·rw[if_neg h,if_neg h]
def sB:List Res->List Sl->Sg->Sg
 | .slot i::rs,a::as,σ=>sB rs as (uS σ i a.d)
 | _::rs,_::as,σ=>sB rs as σ
 | _,_,σ=>σ
theorem cV4{σ:Sg}{i j:Nat}{d:D}:(uS σ i d)[j]? = (σ[j]?).map fun o=>if j=i then(match o with | some s=>some (if s.m.mt=true then⟨s.m,d⟩else s) | none=>none)else o:=by
 unfold uS
 by_cases hj:j=i
 ·subst hj
  cases h:σ[j]? with
  | none=>dsimp only;rw[h];rfl
  | some o=>
    cases o with
    | none=>dsimp only;rw[h];simp
    | some s=>
      dsimp only
      by_cases hm:s.m.mt=true
      ·rw[if_pos hm,List.getElem?_set_self (List.getElem?_eq_some_iff.mp h).1];simp[hm]
      ·rw[if_neg hm,h];simp[hm]
 ·have:∀ x:Option Sl,(σ.set i x)[j]? = σ[j]?:=fun x=>List.getElem?_set_ne (Ne.symm hj)
  split
  ·split
   ·rw[this];cases σ[j]? <;> simp[hj]
   ·cases σ[j]? <;> simp[hj]
  ·cases σ[j]? <;> simp[hj]
theorem aI0:∀ (rs:List Res) (as:List Sl) (σ:Sg) (j:Nat),eA rs=true->(sB rs as σ)[j]? = (σ[j]?).map (lK rs as j)
 | [],as,σ,j,_=>by cases as<;>(show σ[j]? = _;cases σ[j]? with | none=>rfl | some o=>cases o<;>simp[lK,jE])
 | r::rs,[],σ,j,_=>by cases r<;>(show σ[j]? = _;cases σ[j]? with | none=>rfl | some o=>cases o<;>simp[lK,jE])
 | .val d::rs,a::as,σ,j,h=>aI0 rs as σ j h
 | .own d::rs,a::as,σ,j,h=>aI0 rs as σ j h
 | .slot i::rs,a::as,σ,j,h=>by
   have h':eA rs=true/\bB0 i rs=false:=by
    unfold eA at h
    rw[Bool.and_eq_true]at h
    exact⟨h.2,by simpa using h.1⟩
   show(sB rs as (uS σ i a.d))[j]? = _
   rw[aI0 rs as _ j h'.1,cV4]
   cases σ[j]? with
   | none=>rfl
   | some o=>
     cases o with
     | none=>by_cases hj:j=i<;>simp[lK,hj]
     | some s=>
       by_cases hj:j=i
       ·subst hj
        have hl:jE j rs as=none:=by
         cases q:jE j rs as with
         | none=>rfl
         | some b=>
           obtain⟨k,h1,_⟩:=fU q
           rw[oF h1]at h';cases h'.2
        simp[lK,hl,jE]
       ·have:¬ i=j:=fun z=>hj z.symm
        simp[lK,hj,jE,this]
theorem bN9{rs:List Res}{as:List Sl}{σ:Sg}(h:eA rs=true):iJ rs as 0 σ=sB rs as σ:=by
 apply List.ext_getElem?
 intro j
 rw[jF,aI0 rs as σ j h,Nat.zero_add]
def BK(rs:List Res)(as:List Sl)(σ:Sg)(K:Sg->Prop):Prop:=K (sB rs as σ)
def bJ8(as:List Sl)(K:Res->List Sl->Prop):Out->Prop
 | .nx σ=>K (.val .non) (oZ as σ)
 | .rt r σ=>OK1 (cL5 σ r) fun r'=>K r' (oZ as σ)
 | _=>False
section
variable{σ:Sg}{Q:Res->Sg->Prop}{ra:DA}{d:D}{i n:Nat}{r:Sg}{o:Option Sl}
theorem tP{run:Run}:RE (aQ n run ra) σ Q=RA ra σ fun rs σ1=>AK σ1 rs fun as=>(as.length=n/\eA rs=true)/\CK run as fun y as'=>BK rs as' σ1 fun σ2=>Q y σ2:=by
 unfold RE RA AK CK aQ
 simp only[aP,bO,bP]
 congr 1;funext x;congr 1;funext as
 apply propext
 constructor
 ·rintro⟨h,q⟩
  refine⟨h,bZ q fun y q=>?_⟩
  unfold BK;rw[← bN9 h.2];exact q
 ·rintro⟨h,q⟩
  refine⟨h,bZ q fun y q=>?_⟩
  unfold BK at q;rw[← bN9 h.2]at q;exact q
theorem aI1{as:List Sl}{K:Sg->Prop}:BK [] as σ K=K σ:=by cases as<;>rfl
theorem aI2{rs:List Res}{a:Sl}{as:List Sl}{K:Sg->Prop}:BK (.val d::rs) (a::as) σ K=BK rs as σ K:=rfl
theorem aI3{rs:List Res}{a:Sl}{as:List Sl}{K:Sg->Prop}:BK (.own d::rs) (a::as) σ K=BK rs as σ K:=rfl
theorem aI4{rs:List Res}{m:Md}{as:List Sl}{K:Sg->Prop}:BK (.slot i::rs) (⟨m,d⟩::as) σ K=UK i σ d fun σ'=>BK rs as σ' K:=by
 rw[cV3];rfl
theorem aI5{e:D}{K:Sg->Prop}:UK 0 (some ⟨.own,e⟩::r) d K=K (some ⟨.own,d⟩::r):=rfl
theorem aI6{e:D}{K:Sg->Prop}:UK 0 (some ⟨.par,e⟩::r) d K=K (some ⟨.par,d⟩::r):=rfl
theorem aI7{e:D}{K:Sg->Prop}:UK 0 (some ⟨.val,e⟩::r) d K=K (some ⟨.val,e⟩::r):=rfl
theorem aI8{e:D}{K:Sg->Prop}:UK 0 (some ⟨.lent,e⟩::r) d K=K (some ⟨.lent,e⟩::r):=rfl
theorem aI9{K:Sg->Prop}:UK (n+1) (o::r) d K=UK n r d fun r'=>K (o::r'):=rfl
theorem dJ{len:Nat}{b:DS}{as:List Sl}{K:Res->List Sl->Prop}:CK (nQ len b) as K=RS b (ini len as) (bJ8 as K):=by
 unfold CK RS nQ
 rw[aP]
 congr 1;funext o
 cases o with
 | rt x s=>show OK1 ((cL5 s x).bind _) _=OK1 (cL5 s x) _;rw[aP];rfl
 | _=>rfl
def FSK:Nat->Sg->(Res->Prop)->Prop
 | 0,some ⟨.own,d⟩::_,K=>K (.own d)
 | 0,some ⟨.val,d⟩::_,K=>K (.val d)
 | n+1,_::r,K=>FSK n r K
 | _,_,_=>False
theorem bX2:∀ (n:Nat) (r:Sg) (K:Res->Prop),FSK n r K=OK1 (cL5 r (.slot n)) K
 | 0,[],_=>rfl
 | 0,none::_,_=>rfl
 | 0,some ⟨.val,_⟩::r,K=>rfl
 | 0,some ⟨.own,_⟩::r,K=>rfl
 | 0,some ⟨.par,_⟩::r,K=>rfl
 | 0,some ⟨.lent,_⟩::r,K=>rfl
 | n+1,[],_=>rfl
 | n+1,o::r,K=>by
   show FSK n r K=_
   rw[bX2 n r K]
   show OK1 (match r[n]? with | some (some s)=>if s.m=.own then some (Res.own s.d)else if s.m=.val then some (.val s.d)else none | _=>none) K=OK1 (match (o::r)[n+1]? with | some (some s)=>if s.m=.own then some (Res.own s.d)else if s.m=.val then some (.val s.d)else none | _=>none) K
   rw[List.getElem?_cons_succ]
section
variable{as:List Sl}{K:Res->List Sl->Prop}{KR:Res->Prop}
theorem tQ:bJ8 as K (.nx σ)=K (.val .non) (oZ as σ):=rfl
theorem tR:bJ8 as K (.rt (.val d) σ)=K (.val d) (oZ as σ):=rfl
theorem tS:bJ8 as K (.rt (.own d) σ)=K (.own d) (oZ as σ):=rfl
theorem tT:bJ8 as K (.rt (.slot i) σ)=FSK i σ fun r=>K r (oZ as σ):=(bX2 i σ _).symm
theorem aJ0:FSK 0 (some ⟨.own,d⟩::r) KR=KR (.own d):=rfl
theorem aJ1:FSK 0 (some ⟨.val,d⟩::r) KR=KR (.val d):=rfl
theorem aJ2:FSK (n+1) (o::r) KR=FSK n r KR:=rfl
theorem tU:oZ [] σ=[]:=rfl
theorem tV{s:Sl}:oZ (⟨.val,d⟩::as) (some s::r)=⟨.val,d⟩::oZ as r:=rfl
theorem tW{s:Sl}:oZ (⟨.par,d⟩::as) (some s::r)=s::oZ as r:=rfl
theorem tX{s:Sl}:oZ (⟨.lent,d⟩::as) (some s::r)=s::oZ as r:=rfl
end
theorem aJ3{K:List Sl->Prop}:AK σ [] K=K []:=rfl
theorem aJ4{x:Res}{xs:List Res}{K:List Sl->Prop}:AK σ (x::xs) K=A1 σ x fun a=>AK σ xs fun as=>K (a::as):=by
 show OK1 ((yM σ x).bind fun a=>(pA σ xs).bind fun as=>some (a::as)) K=_
 unfold AK A1;simp only[aP,bP]
theorem aJ5{K:Sl->Prop}:A1 σ (.val d) K=K ⟨.val,d⟩:=rfl
theorem aJ6{K:Sl->Prop}:A1 σ (.own d) K=K ⟨.par,d⟩:=rfl
theorem aJ7{K:Sl->Prop}:A1 σ (.slot i) K=HK i σ K:=(cV2 i σ K).symm
theorem aJ8{K:Sl->Prop}:HK 0 (some ⟨.own,d⟩::r) K=K ⟨.par,d⟩:=rfl
theorem aJ9{K:Sl->Prop}:HK 0 (some ⟨.par,d⟩::r) K=K ⟨.par,d⟩:=rfl
theorem aK0{K:Sl->Prop}:HK 0 (some ⟨.lent,d⟩::r) K=K ⟨.lent,d⟩:=rfl
theorem aK1{K:Sl->Prop}:HK (n+1) (o::r) K=HK n r K:=rfl
end
section
variable{σ:Sg}{QS:Out->Prop}{Q:Res->Sg->Prop}{ri:DI}{g:DG}{b:DS}{a:DE}{ra:DA}
theorem cV5:RS (qO ri g b) σ QS=RI ri σ fun items l σ1=>OK1 (bA7 g b items (lendO l σ1)) fun o=>QS (rP l σ1 o):=by
 unfold RS RI qO;simp only[aP,bP]
theorem bO0{K:List D->Option Nat->Sg->Prop}:RI (dIt a) σ K=RE a σ fun x σ1=>RD σ1 x fun d=>OK1 (vZ d) fun l=>K l (match x with | .slot i=>some i | _=>none) σ1:=by
 unfold RI RE RD dIt;simp only[aP,bP];try rfl
def dE8:List D->Option (List D)
 | [.int j]=>if -(2 ^ 62)<=j/\j < 2 ^ 62 then some (oC 0 j.toNat)else none
 | [.int i,.int j]=>if(-(2 ^ 62)<=i/\i < 2 ^ 62) /\ -(2 ^ 62)<=j/\j < 2 ^ 62 then some (oC i (j-i).toNat)else none
 | _=>none
theorem wJ{K:List D->Option Nat->Sg->Prop}:RI (qS ra) σ K=RA ra σ fun xs σ1=>RDs σ1 xs fun ds=>OK1 (dE8 ds) fun l=>K l none σ1:=by
 unfold RI RA RDs qS
 simp only[aP]
 congr 1;funext x;congr 1;funext ds
 match ds with
 | []=>rfl
 | [.int j]=>show OK1 (if -(2 ^ 62)<=j/\j < 2 ^ 62 then _ else none) _=OK1 (if -(2 ^ 62)<=j/\j < 2 ^ 62 then _ else none) _;rw[bO,bO];rfl
 | [.int i,.int j]=>show OK1 (if(-(2 ^ 62)<=i/\i < 2 ^ 62) /\ -(2 ^ 62)<=j/\j < 2 ^ 62 then _ else none) _=OK1 (if(-(2 ^ 62)<=i/\i < 2 ^ 62) /\ -(2 ^ 62)<=j/\j < 2 ^ 62 then _ else none) _;rw[bO,bO];rfl
 | [.non]=>rfl
 | [.bl _]=>rfl
 | [.str _]=>rfl
 | [.tup _]=>rfl
 | [.lst _]=>rfl
 | [.dic _ _]=>rfl
 | .non::_::_=>rfl
 | .bl _::_::_=>rfl
 | .str _::_::_=>rfl
 | .tup _::_::_=>rfl
 | .lst _::_::_=>rfl
 | .dic _ _::_::_=>rfl
 | .int _::.non::_=>rfl
 | .int _::.bl _::_=>rfl
 | .int _::.str _::_=>rfl
 | .int _::.tup _::_=>rfl
 | .int _::.lst _::_=>rfl
 | .int _::.dic _ _::_=>rfl
 | .int _::.int _::_::_=>rfl
theorem pF{j:Int}{K:List D->Prop}:OK1 (dE8 [.int j]) K=((-(2 ^ 62)<=j/\j < 2 ^ 62)/\K (oC 0 j.toNat)):=by
 show OK1 (if -(2 ^ 62)<=j/\j < 2 ^ 62 then some (oC 0 j.toNat)else none) K=_
 rw[bO];rfl
theorem tY{i j:Int}{K:List D->Prop}:OK1 (dE8 [.int i,.int j]) K=(((-(2 ^ 62)<=i/\i < 2 ^ 62) /\ -(2 ^ 62)<=j/\j < 2 ^ 62)/\K (oC i (j-i).toNat)):=by
 show OK1 (if(-(2 ^ 62)<=i/\i < 2 ^ 62) /\ -(2 ^ 62)<=j/\j < 2 ^ 62 then some (oC i (j-i).toNat)else none) K=_
 rw[bO];rfl
theorem cF0{items:List D}(P:Nat->Sg->Prop)(h0:P 0 σ)(hs:∀ i d σ,items[i]? = some d->P i σ->OK1 (g d σ) fun σ1=>RS b σ1 fun o=>∃ σ2,(o=.nx σ2\/o=.ct σ2)/\P (i+1) σ2){K:Out->Prop}(k:∀ σ',P items.length σ'->K (.nx σ')):OK1 (bA7 g b items σ) K:=by
 induction items generalizing P σ with
 | nil=>exact k σ h0
 | cons d r ih=>
   show OK1 ((g d σ).bind _) K
   rw[aP]
   refine bZ (hs 0 d σ rfl h0) fun σ1 h1=>?_
   rw[aP]
   refine bZ h1 fun o h2=>?_
   obtain⟨σ2,ho,p2⟩:=h2
   have go:OK1 (bA7 g b r σ2) K:=ih (fun i=>P (i+1)) p2 (fun i d σ e p=>hs (i+1) d σ (by simpa using e) p) fun σ' p=>k σ' (by simpa using p)
   rcases ho with rfl | rfl
   ·exact go
   ·exact go
theorem cF1{items:List D}(P:Nat->Sg->Prop){K:Out->Prop}(h0:P 0 σ)(hs:∀ i d σ,items[i]? = some d->P i σ->OK1 (g d σ) fun σ1=>RS b σ1 fun o=>(∃ σ2,(o=.nx σ2\/o=.ct σ2)/\P (i+1) σ2)\/(∃ x σ2,o=.rt x σ2/\K (.rt x σ2))\/(∃ σ2,o=.bk σ2/\K (.nx σ2)))(k:∀ σ',P items.length σ'->K (.nx σ')):OK1 (bA7 g b items σ) K:=by
 induction items generalizing P σ with
 | nil=>exact k σ h0
 | cons d r ih=>
   show OK1 ((g d σ).bind _) K
   rw[aP]
   refine bZ (hs 0 d σ rfl h0) fun σ1 h1=>?_
   rw[aP]
   refine bZ h1 fun o h2=>?_
   rcases h2 with⟨σ2,ho,p2⟩ | ⟨x,σ2,rfl,q⟩ | ⟨σ2,rfl,q⟩
   ·have go:OK1 (bA7 g b r σ2) K:=ih (fun i=>P (i+1)) p2 (fun i d σ e p=>hs (i+1) d σ (by simpa using e) p) fun σ' p=>k σ' (by simpa using p)
    rcases ho with rfl | rfl
    ·exact go
    ·exact go
   ·exact q
   ·exact q
theorem rV{c:DT}{K:Out->Prop}(P:Nat->Sg->Prop)(hs:∀ m σ,P m σ->RT c σ fun t σ1=>if t=true then RS b σ1 fun o=>(∃ σ2 m',(o=.nx σ2\/o=.ct σ2)/\m' < m/\P m' σ2)\/(∃ x σ2,o=.rt x σ2/\K (.rt x σ2))\/(∃ σ2,o=.bk σ2/\K (.nx σ2))else K (.nx σ1)) :
  ∀ (n m:Nat) (σ:Sg),m < n->P m σ->OK1 (mX c b n σ) K
 | 0,m,σ,h,_=>by omega
 | n+1,m,σ,h,p=>by
   show OK1 ((c σ).bind _) K
   rw[aP]
   refine bZ (hs m σ p) fun x h1=>?_
   dsimp only at h1
   by_cases ht:x.1=true
   ·rw[if_pos ht]at h1 ⊢
    rw[aP]
    refine bZ h1 fun o h2=>?_
    rcases h2 with⟨σ2,m',ho,hm,p2⟩ | ⟨x,σ2,rfl,q⟩ | ⟨σ2,rfl,q⟩
    ·have go:=rV P hs n m' σ2 (by omega) p2
     rcases ho with rfl | rfl
     ·exact go
     ·exact go
    ·exact q
    ·exact q
   ·rw[if_neg ht]at h1 ⊢
    exact h1
theorem bC5{c:DT}(P:Nat->Sg->Prop)(m:Nat)(hm:m < 1000000)(h0:P m σ)(hs:∀ m σ,P m σ->RT c σ fun t σ1=>if t=true then RS b σ1 fun o=>(∃ σ2 m',(o=.nx σ2\/o=.ct σ2)/\m' < m/\P m' σ2)\/(∃ x σ2,o=.rt x σ2/\QS (.rt x σ2))\/(∃ σ2,o=.bk σ2/\QS (.nx σ2))else QS (.nx σ1)):OK1 (mX c b cL4 σ) QS:=
 rV P hs cL4 m σ (Nat.lt_of_lt_of_le hm cD6) h0
theorem cF2{ow:List Nat}{t:DT}{e:DE}:RE (eC ow ri g t e) σ Q=RI ri σ fun items l σ1=>items.length<=sizeLine/\OK1 (yK ow g t e items (bT ow (lendO l σ1))) fun y=>Q (.own (.lst y.1)) (rO l σ1 (kP ow (lendO l σ1) y.2)):=by
 unfold RE RI eC;simp only[aP,bO,bP]
theorem pG{ow:List Nat}{t:DT}{e:DE}{K:List D×Sg->Prop}:∀ (items:List D) (τ:Sg) (P:Nat->List D->Sg->Prop),P 0 [] τ ->
  (∀ i d acc τ,items[i]? = some d->P i acc τ->OK1 (g d τ) fun τ1=>RT t τ1 fun b τ2=>if b=true then RE e τ2 fun r τ3=>∃ v,r=.val v/\P (i+1) (acc++[v]) (bT ow τ3)else P (i+1) acc (bT ow τ2)) ->
  (∀ acc τ,P items.length acc τ->K (acc,τ))->OK1 (yK ow g t e items τ) K
 | [],τ,P,h0,_,k=>k [] τ h0
 | d::r,τ,P,h0,hs,k=>by
   show OK1 ((g d τ).bind _) K
   rw[aP]
   refine bZ (hs 0 d [] τ rfl h0) fun τ1 h1=>?_
   rw[aP]
   refine bZ h1 fun x h2=>?_
   dsimp only at h2
   by_cases ht:x.1=true
   ·rw[if_pos ht]at h2 ⊢
    rw[aP]
    refine bZ h2 fun y h3=>?_
    obtain⟨v,hv,p⟩:=h3
    rw[hv]
    dsimp only
    rw[aP]
    exact pG r _ (fun i acc τ=>P (i+1) (v::acc) τ) p (fun i d' acc τ' e' p'=>by simpa using hs (i+1) d' (v::acc) τ' (by simpa using e') p') fun acc τ' p'=>k (v::acc) τ' (by simpa using p')
   ·rw[if_neg ht]at h2 ⊢
    exact pG r _ (fun i acc τ=>P (i+1) acc τ) h2 (fun i d' acc τ' e' p'=>hs (i+1) d' acc τ' (by simpa using e') p') fun acc τ' p'=>k acc τ' (by simpa using p')
end
section
variable{i j:Int}{l m:List D}{K:Res->Prop}{d e:D}{σ:Sg}{Q:Res->Sg->Prop}
theorem aK2:OK1 (eN (.int i) (.int j)) K=K (.val (.int (i+j))):=rfl
theorem tZ:OK1 (eN (.lst l) (.lst m)) K=(l.length+m.length<=sizeLine/\K (.own (.lst (l++m)))):=by
 show OK1 (if l.length+m.length<=sizeLine then some (Res.own (.lst (l++m)))else none) K=_;rw[bO];rfl
theorem uA:OK1 (eN (.tup l) (.tup m)) K=(l.length+m.length<=sizeLine/\K (.val (.tup (l++m)))):=by
 show OK1 (if l.length+m.length<=sizeLine then some (Res.val (.tup (l++m)))else none) K=_;rw[bO];rfl
theorem uB{x y:Str}:OK1 (eN (.str x) (.str y)) K=(x.length+y.length<=sizeLine/\K (.val (.str (x++y)))):=by
 show OK1 (if x.length+y.length<=sizeLine then some (Res.val (.str (x++y)))else none) K=_;rw[bO];rfl
theorem aK3:OK1 (dA3 (.int i) (.int j)) K=K (.val (.int (i-j))):=rfl
theorem aK4:OK1 (yP (.int i) (.int j)) K=(qT i j/\K (.val (.int (i*j)))):=@bO _ (qT i j) (Classical.propDecidable _) _ _
theorem aK5:OK1 (dA7 (.int i) (.int j)) K=(aS2 i j/\K (.val (.int (i / j)))):=@bO _ (aS2 i j) (Classical.propDecidable _) _ _
theorem aK6:OK1 (aU4 (.int i) (.int j)) K=(0 < j/\K (.val (.int (i % j)))):=@bO _ (0 < j) (Classical.propDecidable _) _ _
theorem aK7:OK1 (dE4 (.int i) (.int j)) K=(cK9 i j/\K (.val (.int (i ^ j.toNat)))):=@bO _ (cK9 i j) (Classical.propDecidable _) _ _
theorem bO1:OK1 (ltI (.int i) (.int j)) K=K (.val (.bl (decide (i < j)))):=rfl
theorem bO2:OK1 (leI (.int i) (.int j)) K=K (.val (.bl (decide (i<=j)))):=rfl
theorem bO3:OK1 (gtI (.int i) (.int j)) K=K (.val (.bl (decide (j < i)))):=rfl
theorem bO4:OK1 (geI (.int i) (.int j)) K=K (.val (.bl (decide (j<=i)))):=rfl
theorem aK8:OK1 (dA4 (.int i)) K=K (.val (.int (-i))):=rfl
theorem aK9:OK1 (ixD (.lst l) (.int i)) K=OK1 (atI l i) fun d=>K (.val d):=by
 show OK1 ((atI l i).map Res.val) K=_;rw[wF]
theorem aL0:OK1 (ixD (.tup l) (.int i)) K=OK1 (atI l i) fun d=>K (.val d):=by
 show OK1 ((atI l i).map Res.val) K=_;rw[wF]
theorem uC:OK1 (jT [.lst l]) K=K (.val (.int l.length)):=rfl
theorem pH:OK1 (jT [.tup l]) K=K (.val (.int l.length)):=rfl
theorem aL1:OK1 (cL7 [.int i]) K=K (.val (.int i)):=rfl
theorem uD{b:Bool}:OK1 (cL7 [.bl b]) K=K (.val (.int (if b then 1 else 0))):=rfl
theorem aL2:OK1 (bB5 [.int i,.int j]) K=K (.val (.int (if j > i then j else i))):=rfl
theorem aL3:OK1 (aS0 [.int i,.int j]) K=K (.val (.int (if j < i then j else i))):=rfl
theorem uE:OK1 (pB [.lst l]) K=K (.own (.lst l)):=rfl
theorem oJ:OK1 (pB [.tup l]) K=K (.own (.lst l)):=rfl
theorem aL4:OK1 (qQ [.lst l]) K=K (.val (.tup l)):=rfl
theorem uF:OK1 (qQ [.tup l]) K=K (.val (.tup l)):=rfl
theorem bO5:OK1 (eqD false (.int i) (.int j)) K=K (.val (.bl (decide (i=j)))):=by
 have h:xT (.int i) (.int j)=decide (i=j):=by
  show(i==j)=_
  rw[Bool.eq_iff_iff];simp
 show OK1 (if jG (.int i)=true/\jG (.int j)=true then some (Res.val (.bl (if false then !xT (.int i) (.int j)else xT (.int i) (.int j))))else none) K=_
 rw[if_pos ⟨rfl,rfl⟩,h];rfl
theorem aL5{c:String}:OK1 (cU4 c (.int i)) K=K (.val (.bl (oV "int" c))):=rfl
theorem aL6{c:String}{b:Bool}:OK1 (cU4 c (.bl b)) K=K (.val (.bl (oV "bool" c))):=rfl
theorem aL7{k:Int}{K:D×D->Prop}:OK1 ((dA6 k e (.lst l)).map fun b=>(b,D.non)) K=OK1 (ixN l.length k) fun j=>K (.lst (l.set j e),.non):=by
 show OK1 (((ixN l.length k).map fun j=>D.lst (l.set j e)).map fun b=>(b,D.non)) K=_
 rw[wF,wF]
theorem aL8{K:D×D->Prop}:OK1 (aS1 (.lst l) [e]) K=(l.length < sizeLine/\K (.lst (l++[e]),.non)):=by
 show OK1 (if l.length < sizeLine then some (D.lst (l++[e]),D.non)else none) K=_
 rw[bO];rfl
theorem aL9{bs:List Bool}:OK1 (dA5 [.lst (bs.map D.bl)]) K=K (.val (.bl (bs.all id))):=by
 show OK1 ((aR9 (bs.map D.bl)).map fun bs=>Res.val (.bl (bs.all id))) K=_
 rw[bB3];rfl
def SK(d:D)(lo hi:Option Int)(K:Res->Prop):Prop:=OK1 (slD d lo hi) K
theorem bO6{a:DE}{x y:DO}:RE (dSl a x y) σ Q=RE a σ fun r σ1=>RO x σ1 fun lo σ2=>RO y σ2 fun hi σ3=>RD σ3 r fun d=>SK d lo hi fun v=>Q v σ3:=by
 unfold RE RO RD SK dSl;simp only[aP,bP]
theorem aM0{K:Option Int->Sg->Prop}:RO mI σ K=K none σ:=rfl
theorem dA9{a:DE}{K:Option Int->Sg->Prop}:RO (dP a) σ K=RE a σ fun x σ1=>RD σ1 x fun d=>OK1 (match d with | .int k=>some k | _=>none) fun k=>K (some k) σ1:=by
 unfold RO RE RD dP
 simp only[aP]
 congr 1;funext x;congr 1;funext d
 cases d<;>rfl
theorem aM1{lo hi:Option Int}:SK (.lst l) lo hi K=K (.own (.lst (vD l lo hi))):=rfl
theorem aM2{lo hi:Option Int}:SK (.tup l) lo hi K=K (.val (.tup (vD l lo hi))):=rfl
theorem aM3{x:D}{K:D->Prop}:OK1 (atI (x::l) 0) K=K x:=by
 show OK1 ((ixN (x::l).length 0).bind fun j=>(x::l)[j]?) K=_
 unfold ixN
 rw[if_pos (Int.le_refl 0),if_pos (by first | (simp;done) | (simp;omega))];rfl
theorem aM4{x y:D}{K:D->Prop}:OK1 (atI (x::y::l) 1) K=K y:=by
 show OK1 ((ixN (x::y::l).length 1).bind fun j=>(x::y::l)[j]?) K=_
 unfold ixN
 rw[if_pos (by decide),if_pos (by first | (simp;done) | (simp;omega))];rfl
theorem aM5{x:D}{K:Nat->Prop}:OK1 (ixN (x::l).length 0) K=K 0:=by
 unfold ixN
 rw[if_pos (Int.le_refl 0),if_pos (by first | (simp;done) | (simp;omega))];rfl
theorem aM6{x y:D}{K:Nat->Prop}:OK1 (ixN (x::y::l).length 1) K=K 1:=by
 unfold ixN
 rw[if_pos (by decide),if_pos (by first | (simp;done) | (simp;omega))];rfl
theorem aM7{i j:Int}(h1:-(2 ^ 64) < j)(h2:j < 2 ^ 64):qT i j=True:=eq_true (.inl (.inr ⟨h1,h2⟩))
theorem aM8{i j:Int}(h1:-(2 ^ 64) < i)(h2:i < 2 ^ 64):qT i j=True:=eq_true (.inl (.inl ⟨h1,h2⟩))
theorem aM9{i:Int}{p:Prop}[Decidable p]:qT i (if p then 1 else 0)=True:=eq_true (.inl (.inr (by split<;>decide)))
theorem bC6{i j:Int}(h1:0 < j)(h2:j < 18446744073709551616):aS2 i j=True:=eq_true ⟨h1,h2⟩
theorem bO7{i j:Int}(h1:0<=j)(h2:j<=1000000)(h3:-18446744073709551616 < i)(h4:i < 18446744073709551616):cK9 i j=True:=eq_true ⟨h1,h2,by show i.natAbs < 18446744073709551616;omega⟩
theorem aN0{σ:Sg}:lendO none σ=σ:=rfl
theorem bO8{σ:Sg}{o:Out}:rP none σ o=o:=by cases o<;>rfl
theorem aN1{σ σ':Sg}:rO none σ σ'=σ':=rfl
theorem aN2:(tyD "list" (.lst l)=true)=True:=by simp[tyD]
end
def wK:List D->Option (List Str)
 | []=>some []
 | .str s::r=>(wK r).bind fun l=>some (s::l)
 | _::_=>none
theorem uG:∀ {l:List D} {zs:List Str},wK l=some zs->l=zs.map D.str
 | [],_,h=>by cases h;rfl
 | .str s::r,_,h=>by
   obtain⟨l,e1,e2⟩:=aD h
   cases e2
   rw[uG e1];rfl
 | .non::_,_,h=>by cases h
 | .int _::_,_,h=>by cases h
 | .bl _::_,_,h=>by cases h
 | .tup _::_,_,h=>by cases h
 | .lst _::_,_,h=>by cases h
 | .dic _ _::_,_,h=>by cases h
theorem wL(zs:List Str):wK (zs.map D.str)=some zs:=by
 induction zs with
 | nil=>rfl
 | cons b r ih=>show(wK (r.map D.str)).bind _=_;rw[ih];rfl
def bC7(sep:Str):F1:=fun d=>match d with
 | .lst l=>(wK l).bind fun ys=>if(ys.map (·.length)).sum+ys.length*sep.length<=16777216 then some (.val (.str (PySem.Txt.join sep ys)))else none
 | _=>none
theorem cF3{X:Cx}{e:Expr}{sep:Str}{r:DE}(K:PySem.W.Frag)(h:∀ Γ,PE X e (tBM K "str" (bL4 K) (tC (.str sep)) (dTA Γ (aC r aM)))):GE X e (bJ7 (bC7 sep) r):=.mk fun Γ=>peW (h Γ) fun σV H Q hq=>by
 have hp:cL1 (fun x H Q=>bL4 K (.str sep) [x] H Q) (bC7 sep):=by
  intro H d x Q res v1 e k
  unfold bC7 at e
  split at e
  ·obtain⟨ys,e1,e⟩:=aD e
   split at e
   ·rename_i hs
    cases e
    obtain⟨p,xs,rfl,h1,r1⟩:=gJ v1
    rw[uG e1]at r1
    rw[r1.strs_inv]at h1
    exact⟨sep,p,ys,rfl,rfl,eU h1,hs,k _ H (.refl _) (.str _)⟩
   ·cases e
  ·cases e
 obtain⟨σ,ok,res,σ',e,k⟩:=hq
 obtain⟨⟨x,σ1⟩,e1,e⟩:=aD e
 obtain⟨d1,e3,e⟩:=aD e
 obtain⟨r,e5,e⟩:=aD e
 cases e
 refine⟨rfl,σ,ok,[x],σ1,?_,fun vs H1 ok1 r1 st1 _=>?_⟩
 ·show((_:Option _).bind _)=_
  rw[e1];rfl
 ·cases r1 with
  | cons r1 t=>
    cases t
    refine hp H1 d1 _ Q _ (r1.vw ok1 e3) e5 fun v H' sm nw=>?_
    exact k v H' (ok1.same sm) (nw.res ok1) (st1.trans (.same sm)) (nw.frh.back st1)
theorem cF4{sep:Str}{zs:List Str}{K:Res->Prop}:OK1 (bC7 sep (.lst (zs.map D.str))) K=((zs.map (·.length)).sum+zs.length*sep.length<=16777216/\K (.val (.str (PySem.Txt.join sep zs)))):=by
 show OK1 ((wK (zs.map D.str)).bind _) K=_
 rw[wL]
 show OK1 (if _ then _ else none) K=_
 rw[bO];rfl
theorem bO9{X:Cx}(K:PySem.W.Frag)(hK:X.K=K):MtR X "str.join" (bL4 K):=by rw[← hK];exact cC0
theorem bX3{H:Hp}:∀ {l:List D} {xs:List V},l.length=xs.length->(∀ (j:Nat) d x,l[j]? = some d->xs[j]? = some x->Rp H d x)->Rps H l xs
 | [],[],_,_=>.nil
 | [],_::_,e,_=>by simp at e
 | _::_,[],e,_=>by simp at e
 | d::l,x::xs,e,h=>.cons (h 0 d x rfl rfl) (bX3 (by simpa using e) fun j d' x' e1 e2=>h (j+1) d' x' (by simpa using e1) (by simpa using e2))
section
variable{σ:Sg}{Q:Res->Sg->Prop}{ra:DA}
end
end Dv
namespace PySem
section
variable{prog:Program}{w:World}{A:Around}{E:Value->Shared->Prop}{s:Shared}
theorem bP0{it t:Addr}{i:Nat}{its:Array Value}{x:Value}{Q:Value->Shared->Prop}(hit:s.heap.IsTupleIter it t i)(ht:s.heap.IsTuple t its)(hx:its[i]? = some x)
  (q:∀ h',h'.IsTupleIter it t (i+1)->Heap.SameBut it s.heap h'->Q x {s with heap:=h'}):wpAny (model prog w) A (Builtin.SmallTypes.nextOf (.ref it)) Q E s:=by
 obtain⟨o,ho,hc,hd⟩:=id hit
 obtain⟨ot,hot,_,nt,hdt⟩:=ht
 unfold Builtin.SmallTypes.nextOf
 refine wpAny_bind (wpAny_callSpecial?_slot (name:=Str.ofString "__next__") hit.typeIs F.slot_tuple_iterator_next (wpAny_call_entry F.slot_tuple_iterator_next hit.typeIs F.entry_tuple_iterator_next ?_ (F.args_tuple_iterator_next_1 _)))
 show wpAny _ _ (field (.ref it) 0 >>= _) _ _ s;refine wpAny_bind (wpAny_field ho hd (x:=.ref t) rfl ?_)
 show wpAny _ _ (if(Value.ref t==Value.none)=true then _ else _) _ _ s;rw[if_neg (show ¬ ((Value.ref t==Value.none)=true)from Bool.false_ne_true)]
 show wpAny _ _ (field (.ref it) 1 >>= _) _ _ s;refine wpAny_bind (wpAny_field ho hd (x:=.int i 0) rfl ?_)
 show wpAny _ _ (seqItems? (.ref t) >>= _) _ _ s;refine wpAny_bind (wpAny_seqItems hot hdt ?_);simp only[Int.toNat_natCast,hx]
 refine wpAny_bind (wpAny_setField ho hd (by simp) (wpAny_pure ⟨x,rfl,wpAny_pure (q _ ⟨_,Heap.get?_update_self _ ho (Obj.isFreed_of_fields (Obj.data_mapFields hd _)),(Obj.cls_mapFields ..).trans hc,by rw[Obj.data_mapFields hd];simp[rawInt]⟩ (Heap.SameBut.update ..))⟩))
theorem wM{it t:Addr}{i:Nat}{its:Array Value}{Q:Value->Shared->Prop}(hh:A.handled=none)(hit:s.heap.IsTupleIter it t i)(ht:s.heap.IsTuple t its)(hx:its[i]? = none)
  (q:∀ h' e,Heap.ExtBut it s.heap h'->(∃ o,h'.get? e=some o/\o.cls=.type "StopIteration")->E (.ref e) {s with heap:=h'}):wpAny (model prog w) A (Builtin.SmallTypes.nextOf (.ref it)) Q E s:=by
 obtain⟨o,ho,hc,hd⟩:=id hit
 obtain⟨ot,hot,_,nt,hdt⟩:=ht
 unfold Builtin.SmallTypes.nextOf
 refine wpAny_bind (wpAny_callSpecial?_slot (name:=Str.ofString "__next__") hit.typeIs F.slot_tuple_iterator_next (wpAny_call_entry F.slot_tuple_iterator_next hit.typeIs F.entry_tuple_iterator_next ?_ (F.args_tuple_iterator_next_1 _)))
 show wpAny _ _ (field (.ref it) 0 >>= _) _ _ s;refine wpAny_bind (wpAny_field ho hd (x:=.ref t) rfl ?_)
 show wpAny _ _ (if(Value.ref t==Value.none)=true then _ else _) _ _ s;rw[if_neg (show ¬ ((Value.ref t==Value.none)=true)from Bool.false_ne_true)]
 show wpAny _ _ (field (.ref it) 1 >>= _) _ _ s;refine wpAny_bind (wpAny_field ho hd (x:=.int i 0) rfl ?_)
 show wpAny _ _ (seqItems? (.ref t) >>= _) _ _ s;refine wpAny_bind (wpAny_seqItems hot hdt ?_);simp only[Int.toNat_natCast,hx]
 refine wpAny_bind (wpAny_rule (wpAny_bind (wpAny_setField ho hd (by simp) ?_)))
 show wpAny _ _ (newExc (.type "StopIteration") [] >>= _) _ _ _;refine wpAny_bind ?_;simp only[newExc,newTuple]
 refine wpAny_bind (wpAny_newObj_type ?_ (by size_fits));refine wpAny_bind (m:=firstArgMember _ _) (wpAny_of_eq (a:=Value.none) (by first | rfl | (simp only[firstArgMember];rfl)) ?_)
 refine wpAny_newObj_type ?_ (by size_fits);simp only[raiseNew];refine wpAny_bind (wpAny_handled ?_)
 rw[show A.in1.handled=none from hh];refine wpAny_bind (wpAny_pure (wpAny_throw ?_))
 exact q _ _ (((Heap.SameBut.update ..).extBut.push _).push _) ⟨_,Heap.get?_push_size _ rfl,rfl⟩
end
theorem Draws.tup{prog:Program}{w:World}{A:Around}(hh:A.handled=none)(it t:Addr)(hne:t≠it)(its:Array Value) :
  Draws prog w A it [it,t] its.size (fun i v=>its[i]? = some v) (fun i h=>h.IsTupleIter it t i/\h.IsTuple t its) where
 live:=fun _ _ st=>st.1.imp fun _ z=>z.1
 frame:=fun _ _ _ st hk=>⟨st.1.at fun o e=>hk it (by simp) o e,st.2.at fun o e=>hk t (by simp) o e⟩
 item:=fun i s Q E hi st hQ=>bP0 st.1 st.2 (x:=its[i]) (by simp[hi]) fun h' hit' hs'=>hQ _ h' s.toks (by simp[hi]) ⟨hit',st.2.at fun o e=>(hs'.2 t hne).trans e⟩ hs'
 done:=fun s Q E st hE=>wM hh st.1 st.2 (by simp) hE
end PySem
namespace L2
open PySem PyProof.Rows
section
variable{X:Cx}{pins:List (Addr×Obj)}{σ:St}{H:Hp}{s:Shared}{h':Heap}{ch:List Addr}
theorem Inv.spun{t':Nat}{a:Addr}{o:HO}(I:Inv X pins σ H s)(hf:∀ b∈ch,aV1 X pins H b)(k:∀ b u,b∉ch->s.heap.get? b=some u->h'.get? b=some u)(hp:s.heap.objs.size<=a)
  (new:eB X.prog X.w (upd H a o) h' a o):Inv X pins σ (upd H a o) {s with heap:=h',toks:=t'}:=by
 have ha:H a=none:=I.hok.fresh hp
 have nch:∀ b u,H b=some u->b∉ch:=fun b u e z=>by rw[(hf b z).1]at e;cases e
 refine I.step (g':=s.gens) (d':=s.drawn) (ch:=ch) (fun b hb=>?_) (fun b u _ _ hc e _=>k b u hc e) (fun b u _ _ hc e _=>⟨u.slots,k b u hc e⟩) (fun b u _ e n=>?_) (fun b u hc e=>⟨u,k b u hc e⟩)
  (fun b xs e=>by rw[aL (aV e ha)];exact e) (fun b u v e=>by rw[aL (aV e ha)];exact e) (fun b ps e=>⟨#[],by rw[aL (aV e ha),e];simp⟩) (fun m hm=>?_) (fun b u e=>?_) I.bare
 ·obtain⟨f0,f1,f2,f3,f4,f5⟩:=hf b hb
  exact⟨f3,f1,f4,f5⟩
 ·rw[aL (Nat.ne_of_lt (Nat.lt_of_lt_of_le (Heap.lt_size e) hp))];exact n
 ·obtain⟨u,es,ep,ho,r⟩:=hm
  exact⟨u,es,ep,k _ u (fun z=>(hf _ z).2.1 rfl) ho,r⟩
 ·by_cases hb:b=a
  ·subst hb;rw[aR]at e;cases e;exact new
  ·rw[aL hb]at e
   refine(I.hok b u e).stay (fun c v hc q=>k c v ?_ q) (fun c q=>by rw[aL (aV q ha)];exact q) fun c xs q=>by rw[aL (aV q ha)];exact q
   rcases hc with z | z
   ·rw[z];exact nch b u e
   ·exact nch c _ z
theorem Inv.spun0{t':Nat}(I:Inv X pins σ H s)(hf:∀ b∈ch,aV1 X pins H b)(k:∀ b u,b∉ch->s.heap.get? b=some u->h'.get? b=some u):Inv X pins σ H {s with heap:=h',toks:=t'}:=by
 have nch:∀ b u,H b=some u->b∉ch:=fun b u e z=>by rw[(hf b z).1]at e;cases e
 refine I.step (g':=s.gens) (d':=s.drawn) (ch:=ch) (fun b hb=>?_) (fun b u _ _ hc e _=>k b u hc e) (fun b u _ _ hc e _=>⟨u.slots,k b u hc e⟩) (fun b u _ e n=>n) (fun b u hc e=>⟨u,k b u hc e⟩)
  (fun b xs e=>e) (fun b u v e=>e) (fun b ps e=>⟨#[],by rw[e];simp⟩) (fun m hm=>?_) (fun b u e=>?_) I.bare
 ·obtain⟨f0,f1,f2,f3,f4,f5⟩:=hf b hb
  exact⟨f3,f1,f4,f5⟩
 ·obtain⟨u,es,ep,ho,r⟩:=hm
  exact⟨u,es,ep,k _ u (fun z=>(hf _ z).2.1 rfl) ho,r⟩
 ·refine(I.hok b u e).stay (fun c v hc q=>k c v ?_ q) (fun c q=>q) fun c xs q=>q
  rcases hc with z | z
  ·rw[z];exact nch b u e
  ·exact nch c _ z
end
def dE9(K:PySem.W.Frag)(a:Addr):It:=
 ⟨fun i H=>∃ xs x,SqT K H a xs/\xs[i]? = some x,fun i H v H'=>∃ T x,v=.ref T/\H T=none/\H'=upd H T (.tup [.int i,x])/\∀ xs,SqT K H a xs->xs[i]? = some x,fun i H=>∃ xs,SqT K H a xs/\xs.length=i⟩
def dF0(K:PySem.W.Frag)(a:Addr):It:=
 ⟨fun i H=>∃ xs x,SqL K H a xs/\xs[i]? = some x,fun i H v H'=>∃ T x,v=.ref T/\H T=none/\H'=upd H T (.tup [.int i,x])/\∀ xs,SqL K H a xs->xs[i]? = some x,fun i H=>∃ xs,SqL K H a xs/\xs.length=i⟩
theorem aN3{P:Program}{w:World}{H:Hp}{h h2:Heap}{e it T:Addr}{i:Nat}{tk:Tok}{u:Value}{x:V}(hT:h.get? T=some {cls:=.type "tuple",data:=.seq #[.int i tk,u]})(hs:h2.get? T=h.get? T)(ru:eO x u):eB P w (upd H T (.tup [.int i,x])) h2 T (.tup [.int i,x]):=by
 have h2':=hs.trans hT
 exact⟨by show 2<=sizeLine;decide,[.int i tk,u],.cons ⟨tk,rfl⟩ (.cons ru .nil),⟨_,h2',rfl,_,rfl⟩,⟨_,h2',rfl⟩⟩
theorem aS4{P:Program}{w:World}{K:PySem.W.Frag}{elts:List Expr}{k:Nat}{pos:Pos}(a e it:Addr)(hei:e≠it) :
  Turn P w K (.Tuple elts k pos) (dE9 K a) [e,it] e (fun i h=>(∃ old,IsEnum h e it i old)/\h.IsTupleIter it a i) where
 mem:=by simp
 obj:=fun i h st b hb=>by
  obtain⟨⟨old,he⟩,o,ho,c,d⟩:=st
  rcases List.mem_cons.mp hb with z | hb
  ·subst z;exact⟨_,he,fun v z=>by cases z⟩
  ·rw[List.mem_singleton.mp hb];exact⟨o,ho,fun v z=>by rw[d]at z;cases z⟩
 keep:=fun i h h' st k=>by
  obtain⟨⟨old,he⟩,hi⟩:=st
  exact⟨⟨old,k e (by simp) _ he⟩,hi.at fun o q=>k it (by simp) o q⟩
 item:=by
  intro X hP hw hK hc i pins s σ H E I hf st hg
  subst hP hw hK
  obtain⟨⟨old,he⟩,hi⟩:=st
  obtain⟨xs,x,hq,hx⟩:=hg
  obtain⟨its,rv,p,hz⟩:=I.tuple hq
  obtain⟨u,hu,ru⟩:=rv.get hx
  have p':s.heap.IsTuple a its.toArray:=p
  have nai:a≠it:=fun z=>by
   obtain⟨o,h1,h2,_⟩:=p'
   obtain⟨o',h3,h4,_⟩:=id hi
   rw[z,h3]at h1;cases h1;rw[h2]at h4;injection h4 with q;exact absurd q (by decide)
  have nae:e≠a:=fun z=>by
   obtain⟨o,h1,h2,_⟩:=p'
   rw[← z,he]at h1;cases h1;have h2':Value.type "enumerate"=Value.type "tuple":=h2;injection h2' with q;exact absurd q (by decide)
  have hlt:i < its.toArray.size:=by
   have:=(List.getElem?_eq_some_iff.mp hu).1
   simpa using this
  refine wpAny_pyNext_enum_itemD (Draws.tup (A:=X.A.in1) (I.ok.hd hc) it a nai its.toArray) he ⟨hi,p'⟩ hlt hei (by simp[hei,nae]) fun y h1 tk hy ho hs' hT hsz hk=>?_
  obtain rfl:y=u:=by
   rw[List.getElem?_toArray,hu]at hy;exact(Option.some.inj hy).symm
  refine⟨_,rfl,wpAny_letOwnedTupleGo_enum ho fun h2 he2 hs2=>?_⟩
  have hTe:s.heap.objs.size≠e:=fun z=>absurd (Heap.lt_size he) (by rw[← z];exact Nat.lt_irrefl _)
  have ha:H s.heap.objs.size=none:=I.hok.fresh (Nat.le_refl _)
  refine⟨.ref s.heap.objs.size,upd H s.heap.objs.size (.tup [.int i,x]),?_,rfl,⟨_,x,rfl,ha,rfl,fun ys hys=>by rw[I.tuple_inj hys hq];exact hx⟩,⟨⟨_,he2⟩,hs'.1.at fun o q=>(hs2.2 it hei.symm).trans q⟩,fun b hb=>?_⟩
  ·exact I.spun (ch:=[e,it]) (t':=tk+1) hf (fun b u hb q=>(hs2.2 b fun z=>hb (by simp[z])).trans (hk b u (fun z=>hb (by simp[z])) (fun z=>hb (by simp[z])) q)) (Nat.le_refl _) (aN3 (e:=e) (it:=it) hT (hs2.2 _ hTe) ru)
  ·rw[aL (fun z=>?_)]
   ·exact(hf b hb).1
   ·obtain⟨o,ho⟩:∃ o,s.heap.get? b=some o:=by
     rcases List.mem_cons.mp hb with z | hb
     ·rw[z];exact⟨_,he⟩
     ·rw[List.mem_singleton.mp hb];exact hi.imp fun _ q=>q.1
    exact absurd (Heap.lt_size ho) (by rw[z];exact Nat.lt_irrefl _)
 done:=by
  intro X hP hw hK hc i pins s σ H E I hf st hg
  subst hP hw hK
  obtain⟨⟨old,he⟩,hi⟩:=st
  obtain⟨xs,hq,hx⟩:=hg
  obtain⟨its,rv,p,hz⟩:=I.tuple hq
  have p':s.heap.IsTuple a its.toArray:=p
  have nai:a≠it:=fun z=>by
   obtain⟨o,h1,h2,_⟩:=p'
   obtain⟨o',h3,h4,_⟩:=id hi
   rw[z,h3]at h1;cases h1;rw[h2]at h4;injection h4 with q;exact absurd q (by decide)
  have hl:its.toArray.size=i:=by rw[List.size_toArray,← rv.length];exact hx
  refine wpAny_pyNext_enum_endD (Draws.tup (A:=X.A.in1) (I.ok.hd hc) it a nai its.toArray) he ⟨by rw[hl];exact hi,p'⟩ fun h' hx'=>⟨rfl,I.spun0 (ch:=[e,it]) (t':=s.toks) hf fun b u hb q=>hx' b u (fun z=>hb (by simp[z])) q⟩
 self:=fun _ _ _ _ _ st h=>wpAny_pyIter_enum st.1.choose_spec h
theorem aS5{P:Program}{w:World}{K:PySem.W.Frag}{elts:List Expr}{k:Nat}{pos:Pos}(a e it:Addr)(hei:e≠it) :
  Turn P w K (.Tuple elts k pos) (dF0 K a) [e,it] e (fun i h=>(∃ old,IsEnum h e it i old)/\h.IsListIter it a i) where
 mem:=by simp
 obj:=fun i h st b hb=>by
  obtain⟨⟨old,he⟩,o,ho,c,d⟩:=st
  rcases List.mem_cons.mp hb with z | hb
  ·subst z;exact⟨_,he,fun v z=>by cases z⟩
  ·rw[List.mem_singleton.mp hb];exact⟨o,ho,fun v z=>by rw[d]at z;cases z⟩
 keep:=fun i h h' st k=>by
  obtain⟨⟨old,he⟩,hi⟩:=st
  exact⟨⟨old,k e (by simp) _ he⟩,hi.at fun o q=>k it (by simp) o q⟩
 item:=by
  intro X hP hw hK hc i pins s σ H E I hf st hg
  subst hP hw hK
  obtain⟨⟨old,he⟩,hi⟩:=st
  obtain⟨xs,x,hq,hx⟩:=hg
  obtain⟨its,rv,p,hz⟩:=I.list hq
  obtain⟨u,hu,ru⟩:=rv.get hx
  have p':s.heap.IsList a its.toArray:=p.isList
  have nai:a≠it:=fun z=>by
   obtain⟨o,h1,h2,_⟩:=p'
   obtain⟨o',h3,h4,_⟩:=id hi
   rw[z,h3]at h1;cases h1;rw[h2]at h4;injection h4 with q;exact absurd q (by decide)
  have nae:e≠a:=fun z=>by
   obtain⟨o,h1,h2,_⟩:=p'
   rw[← z,he]at h1;cases h1;have h2':Value.type "enumerate"=Value.type "list":=h2;injection h2' with q;exact absurd q (by decide)
  have hlt:i < its.toArray.size:=by
   have:=(List.getElem?_eq_some_iff.mp hu).1
   simpa using this
  refine wpAny_pyNext_enum_itemD (Draws.list (A:=X.A.in1) (I.ok.hd hc) it a nai its.toArray) he ⟨hi,p'⟩ hlt hei (by simp[hei,nae]) fun y h1 tk hy ho hs' hT hsz hk=>?_
  obtain rfl:y=u:=by
   rw[List.getElem?_toArray,hu]at hy;exact(Option.some.inj hy).symm
  refine⟨_,rfl,wpAny_letOwnedTupleGo_enum ho fun h2 he2 hs2=>?_⟩
  have hTe:s.heap.objs.size≠e:=fun z=>absurd (Heap.lt_size he) (by rw[← z];exact Nat.lt_irrefl _)
  have ha:H s.heap.objs.size=none:=I.hok.fresh (Nat.le_refl _)
  refine⟨.ref s.heap.objs.size,upd H s.heap.objs.size (.tup [.int i,x]),?_,rfl,⟨_,x,rfl,ha,rfl,fun ys hys=>by rw[I.list_inj hys hq];exact hx⟩,⟨⟨_,he2⟩,hs'.1.at fun o q=>(hs2.2 it hei.symm).trans q⟩,fun b hb=>?_⟩
  ·exact I.spun (ch:=[e,it]) (t':=tk+1) hf (fun b u hb q=>(hs2.2 b fun z=>hb (by simp[z])).trans (hk b u (fun z=>hb (by simp[z])) (fun z=>hb (by simp[z])) q)) (Nat.le_refl _) (aN3 (e:=e) (it:=it) hT (hs2.2 _ hTe) ru)
  ·rw[aL (fun z=>?_)]
   ·exact(hf b hb).1
   ·obtain⟨o,ho⟩:∃ o,s.heap.get? b=some o:=by
     rcases List.mem_cons.mp hb with z | hb
     ·rw[z];exact⟨_,he⟩
     ·rw[List.mem_singleton.mp hb];exact hi.imp fun _ q=>q.1
    exact absurd (Heap.lt_size ho) (by rw[z];exact Nat.lt_irrefl _)
 done:=by
  intro X hP hw hK hc i pins s σ H E I hf st hg
  subst hP hw hK
  obtain⟨⟨old,he⟩,hi⟩:=st
  obtain⟨xs,hq,hx⟩:=hg
  obtain⟨its,rv,p,hz⟩:=I.list hq
  have p':s.heap.IsList a its.toArray:=p.isList
  have nai:a≠it:=fun z=>by
   obtain⟨o,h1,h2,_⟩:=p'
   obtain⟨o',h3,h4,_⟩:=id hi
   rw[z,h3]at h1;cases h1;rw[h2]at h4;injection h4 with q;exact absurd q (by decide)
  have hl:its.toArray.size=i:=by rw[List.size_toArray,← rv.length];exact hx
  refine wpAny_pyNext_enum_endD (Draws.list (A:=X.A.in1) (I.ok.hd hc) it a nai its.toArray) he ⟨by rw[hl];exact hi,p'⟩ fun h' hx'=>⟨rfl,I.spun0 (ch:=[e,it]) (t':=s.toks) hf fun b u hb q=>hx' b u (fun z=>hb (by simp[z])) q⟩
 self:=fun _ _ _ _ _ st h=>wpAny_pyIter_enum st.1.choose_spec h
end L2
namespace PySem
open AutoSeq1 (wpAny_loadPart')
abbrev bJ9(l:Addr):Obj:={cls:=.type "tuple_iterator",data:=.fields #[.ref l,.int 0 0]}
abbrev dF1(it:Addr):Obj:={cls:=.type "enumerate",data:=.fields #[.none,.bool false,.ref it,rawInt 0,.none,.none]}
theorem bP1(l:Addr)(its:Array Value)(n:Nat)(dct:Option Addr)(sl:Array (Option Value)) :
  Meets (Builtin.«enumerate.__new__» ⟨[.type "enumerate",.ref l],[]⟩) (fun _ R s=>s.heap.get? l=some {cls:=.type "tuple",dict:=dct,data:=.seq its n,slots:=sl} /\
   R (.ok (.ret (.ref (s.heap.push (bJ9 l)).objs.size))) {s with heap:=(s.heap.push (bJ9 l)).push (dF1 s.heap.objs.size)}):=
 .of_wp fun prog w A R s h=>by
  obtain⟨hp,g,d,tk,os⟩:=s;obtain⟨hl,h⟩:=h;have hsub:=sub_enumerate
  have hL:Heap.IsTuple (Shared.heap ⟨hp,g,d,tk,os⟩) l its:=⟨_,hl,rfl,n,rfl⟩
  wp_walk using wpAny_loadPart' hl
  refine wpAny_stack_any fun st=>wpAny_pure ?_;split
  ·rename_i c _ _ _ _ _
   cases (c==Value.type "enumerate")<;>(wp_walk using wpAny_loadPart' hl,wpAny_pyIter_tuple hL;exact⟨_,rfl,h⟩)
  ·wp_walk using wpAny_loadPart' hl,wpAny_pyIter_tuple hL;exact⟨_,rfl,h⟩
section
variable{prog:Program}{w:World}{A:Around}{E:Value->Shared->Prop}{s:Shared}
theorem aS6{l:Addr}{its:Array Value}{Q:Value->Shared->Prop}(hL:s.heap.IsTuple l its)
  (h:∀ h',IsEnum h' (s.heap.objs.size+1) s.heap.objs.size 0 .none->h'.IsTupleIter s.heap.objs.size l 0->h'.objs.size=s.heap.objs.size+2->(∀ b o,s.heap.get? b=some o->h'.get? b=some o)->Q (.ref (s.heap.objs.size+1)) {s with heap:=h'}) :
  wpAny (model prog w) A (call (.type "enumerate") [.ref l]) Q E s:=by
 obtain⟨⟨c,dct,dt,sl⟩,hl,hc,n,hd⟩:=hL
 have hc':c=.type "tuple":=hc
 have hd':dt=.seq its n:=hd
 subst hc' hd'
 refine callType_new F.called_enumerate (by decide) (F.typeCall_enumerate_1 _) (F.newCall_enumerate_1 _) (fun obj=>F.args_object_init_2 obj _) F.entry_enumerate_new (bP1 l its n dct sl) ⟨hl,?_⟩
 have hz:(s.heap.push (bJ9 l)).objs.size=s.heap.objs.size+1:=Heap.size_push ..
 show _/\_;rw[hz]
 have he:IsEnum ((s.heap.push (bJ9 l)).push (dF1 s.heap.objs.size)) (s.heap.objs.size+1) s.heap.objs.size 0 .none:=by
  have:=Heap.get?_push_size (s.heap.push (bJ9 l)) (o:=dF1 s.heap.objs.size) rfl
  rw[hz]at this;exact this
 exact⟨⟨_,he,rfl⟩,h _ he ⟨_,Heap.get?_push_of_some _ (Heap.get?_push_size _ rfl),rfl,rfl⟩ (by rw[Heap.size_push,hz]) fun b o x=>Heap.get?_push_of_some _ (Heap.get?_push_of_some _ x)⟩
end
end PySem
namespace L2
open PySem PyProof.Rows
section
variable{X:Cx}
def cV6(K:PySem.W.Frag)(ta:TA):TI:=fun σ H R=>ta σ H fun vs H1=>∃ p,vs=[.ref p]/\((∃ xs,eT H1 p=some (true,xs)/\R (dF0 K p) H1)\/∃ xs,eT H1 p=some (false,xs)/\R (dE9 K p) H1)
theorem bC8(K:PySem.W.Frag)(hK:X.K=K){elts:List Expr}{k:Nat}{pos':Pos}{a:Expr}{ta:TA}{p pos:Pos}(hg:Gl X "enumerate")(hm:X.mg "enumerate"=none)(hbt:bootBuiltins "enumerate"=some (.type "enumerate"))(ha:PA X [a] ta)(hs:starEach [a] X.env=[(false,eval a X.env)]:=by rfl):PI X (.Tuple elts k pos') (.Call (.Name "enumerate" p) [a] [] pos) (cV6 K ta):=by
 subst hK
 intro pins s σ H R I h
 refine Call_ (iV I hg hm hbt (PyProof.Rows.callWith_type1 (thn (ha pos pins s σ H _ I h) fun us s1 ⟨vs,H1,I1,r1,q1⟩=>?_) hs rfl))
 obtain⟨b,rfl,q1⟩:=q1
 obtain⟨u,rfl,ru⟩:=r1.one
 cases ru
 have new:∀ c,c∈[s1.heap.objs.size+1,s1.heap.objs.size]->s1.heap.objs.size<=c:=fun c hc=>by
  rcases List.mem_cons.mp hc with z | hc
  ·omega
  ·rw[List.mem_singleton.mp hc];exact Nat.le_refl _
 rcases q1 with⟨xs,hq,q⟩ | ⟨xs,hq,q⟩
 ·obtain⟨its,rv,p',hz⟩:=I1.list (eU hq)
  refine call_enumerate_list p'.isList fun h' he hi hsz hk=>wpAny_pyIter_enum he ?_
  exact⟨_,[s1.heap.objs.size+1,s1.heap.objs.size],_,_,H1,rfl,I1.kept (t':=s1.toks) hk,aS5 b _ _ (Nat.succ_ne_self _),⟨⟨_,he⟩,hi⟩,fun c hc=>I1.fpOk (new c hc) (I1.hok.fresh (new c hc)),q⟩
 ·obtain⟨its,rv,p',hz⟩:=I1.tuple (cY hq)
  refine aS6 (show s1.heap.IsTuple b its.toArray from p') fun h' he hi hsz hk=>wpAny_pyIter_enum he ?_
  exact⟨_,[s1.heap.objs.size+1,s1.heap.objs.size],_,_,H1,rfl,I1.kept (t':=s1.toks) hk,aS4 b _ _ (Nat.succ_ne_self _),⟨⟨_,he⟩,hi⟩,fun c hc=>I1.fpOk (new c hc) (I1.hok.fresh (new c hc)),q⟩
end
end L2
namespace Dv
open PySem L2 Mr
section
variable{P:Program}{w:World}{K:PySem.W.Frag}{mg:Str->Option Value}{base:Heap}
end
section
variable{K:PySem.W.Frag}{H:Hp}{C fI:Addr}{E:XK}
end
section
variable{K:PySem.W.Frag}{H:Hp}{C fI:Addr}{E:XK}
end
end Dv
namespace Dv
open PySem L2
def pI(n:Nat):List D->List D
 | []=>[]
 | d::r=>.tup [.int (n:Int),d]::pI (n+1) r
theorem fA:∀ (n:Nat) (l:List D),(pI n l).length=l.length
 | _,[]=>rfl
 | n,_::r=>by show(pI (n+1) r).length+1=r.length+1;rw[fA]
theorem fX:∀ {n:Nat} {l:List D} {i:Nat} {d:D},(pI n l)[i]? = some d->∃ y,l[i]? = some y/\d=.tup [.int ((n+i:Nat):Int),y]
 | _,[],_,_,h=>by simp[pI]at h
 | n,y::r,0,d,h=>by
   simp[pI]at h
   exact⟨y,rfl,by rw[← h];rfl⟩
 | n,y::r,i+1,d,h=>by
   obtain⟨z,e,q⟩:=fX (n:=n+1) (l:=r) (i:=i) (d:=d) (by simpa[pI]using h)
   exact⟨z,by simpa using e,by rw[q,show n+1+i=n+(i+1) by omega]⟩
theorem bC9{K:PySem.W.Frag}{p:Addr}{xs:List V}{l:List D}:ItD (dF0 K p) (pI 0 l) (fun H=>SqL K H p xs/\Rps H l xs) where
 go:=fun H i d ⟨h,r⟩ e=>by
  obtain⟨y,ey,_⟩:=fX e
  obtain⟨x,ex,_⟩:=r.get ey
  exact⟨xs,x,h,ex⟩
 yld:=fun H i d v H' ⟨h,r⟩ e ⟨T,x,ev,hT,eH,hx⟩=>by
  obtain⟨y,ey,rfl⟩:=fX e
  obtain⟨x',ex,rx⟩:=r.get ey
  have:=hx xs h
  rw[ex]at this
  cases this
  subst ev eH
  refine⟨bH hT,.tup aR (.cons ?_ (.cons (rx.mono (Ext.same (bH hT))) .nil))⟩
  rw[Nat.zero_add]
  exact .int _
 stop:=fun H ⟨h,r⟩=>⟨xs,h,by rw[fA,r.length]⟩
theorem bD0{K:PySem.W.Frag}{p:Addr}{xs:List V}{l:List D}:ItD (dE9 K p) (pI 0 l) (fun H=>SqT K H p xs/\Rps H l xs) where
 go:=fun H i d ⟨h,r⟩ e=>by
  obtain⟨y,ey,_⟩:=fX e
  obtain⟨x,ex,_⟩:=r.get ey
  exact⟨xs,x,h,ex⟩
 yld:=fun H i d v H' ⟨h,r⟩ e ⟨T,x,ev,hT,eH,hx⟩=>by
  obtain⟨y,ey,rfl⟩:=fX e
  obtain⟨x',ex,rx⟩:=r.get ey
  have:=hx xs h
  rw[ex]at this
  cases this
  subst ev eH
  refine⟨bH hT,.tup aR (.cons ?_ (.cons (rx.mono (Ext.same (bH hT))) .nil))⟩
  rw[Nat.zero_add]
  exact .int _
 stop:=fun H ⟨h,r⟩=>⟨xs,h,by rw[fA,r.length]⟩
def dB0:D->Option (List D)
 | .lst l=>some l
 | .tup l=>some l
 | _=>none
def aS7(r:DE):DI:=fun σ=>(r σ).bind fun x=>(rd x.2 x.1).bind fun d=>(dB0 d).bind fun l=>some (pI 0 l,(match x.1 with | .slot i=>some i | _=>none),x.2)
theorem bD1{X:Cx}{tg e:Expr}{r:DE}(K:PySem.W.Frag)(h:∀ Γ,PI X tg e (cV6 K (dTA Γ (aC r aM)))):GI X tg e (aS7 r):=.mk fun Γ=>piW (h Γ) fun σV H R ⟨σ,ok,items,l,σ1,e,k⟩=>by
 obtain⟨⟨x,σ2⟩,e1,e⟩:=aD e
 obtain⟨d,e2,e⟩:=aD e
 obtain⟨its,e3,e⟩:=aD e
 cases e
 refine⟨σ,ok,[x],σ2,?_,fun vs H1 ok1 r1 st1 f1=>?_⟩
 ·show((_:Option _).bind _)=_
  rw[e1];rfl
 cases r1 with
 | cons r1 t _=>
   cases t
   have vw:=r1.vw ok1 e2
   cases d with
   | lst l'=>
     cases e3
     obtain⟨p,xs,rfl,hq,hr⟩:=gJ vw
     refine⟨p,rfl,.inl ⟨xs,hq,k _ H1 _ ok1 st1 (bC9 (xs:=xs)) fun σ3 σV3 H3 st3=>?_⟩⟩
     obtain⟨h1,h2⟩:=oY ok1 r1 e2 (items:=its) rfl vw p true xs rfl hq hr σ3 σV3 H3 st3
     exact⟨eU h1,h2⟩
   | tup l'=>
     cases e3
     obtain⟨p,xs,rfl,hq,hr⟩:=eG vw
     refine⟨p,rfl,.inr ⟨xs,bU hq,k _ H1 _ ok1 st1 (bD0 (xs:=xs)) fun σ3 σV3 H3 st3=>?_⟩⟩
     obtain⟨h1,h2⟩:=oY ok1 r1 e2 (items:=its) rfl vw p false xs rfl (bU hq) hr σ3 σV3 H3 st3
     exact⟨cY h1,h2⟩
   | _=>cases e3
theorem uH{σ:Sg}{a:DE}{K:List D->Option Nat->Sg->Prop}:RI (aS7 a) σ K=RE a σ fun x σ1=>RD σ1 x fun d=>OK1 (dB0 d) fun l=>K (pI 0 l) (match x with | .slot i=>some i | _=>none) σ1:=by
 unfold RI RE RD aS7;simp only[aP,bP];try rfl
end Dv
namespace Mr
open PySem L2
def top(i:Nat):Stmt:=PySem.Challenge.pw_mostrows_k50_tables_that_agree.main.body.getD i (.Pass ⟨0,0,0,0⟩)
abbrev rW:Stmt:=top 13
abbrev kB:Stmt:=top 15
abbrev rX:Stmt:=top 16
abbrev iP:Stmt:=top 18
abbrev iQ:Stmt:=top 17
abbrev pJ:Stmt:=top 14
abbrev kD:Stmt:=top 19
abbrev wN:Stmt:=top 12
abbrev lM:Stmt:=top 20
abbrev pK:Stmt:=top 24
abbrev jH:Stmt:=top 25
abbrev wO:Stmt:=top 22
abbrev pL:Stmt:=top 26
abbrev lN:Stmt:=top 27
abbrev pM:Stmt:=top 28
abbrev pN:Stmt:=top 23
abbrev pO:Stmt:=top 7
abbrev iR:Stmt:=top 5
abbrev pP:Stmt:=top 2
abbrev rY:Stmt:=top 1
abbrev aN4:Stmt:=top 3
abbrev cV7:Stmt:=top 4
abbrev nA:Stmt:=top 9
abbrev bD2:Stmt:=top 10
abbrev cV8:Stmt:=top 29
structure Adr where
 law_take:Addr
 fd_law_take:FuncData
 law_shuffled:Addr
 fd_law_shuffled:FuncData
 law_some:Addr
 fd_law_some:FuncData
 law_round_sets:Addr
 fd_law_round_sets:FuncData
 law_plain_sets:Addr
 fd_law_plain_sets:FuncData
 law_names:Addr
 fd_law_names:FuncData
 law_question:Addr
 fd_law_question:FuncData
 law_box:Addr
 fd_law_box:FuncData
 law_columns:Addr
 fd_law_columns:FuncData
 law_value:Addr
 fd_law_value:FuncData
 law_rows_over:Addr
 fd_law_rows_over:FuncData
 law_cut:Addr
 fd_law_cut:FuncData
 law_house:Addr
 fd_law_house:FuncData
 law_changed:Addr
 fd_law_changed:FuncData
 law_truth:Addr
 fd_law_truth:FuncData
 law_agree:Addr
 fd_law_agree:FuncData
 tables_of:Addr
 fd_tables_of:FuncData
 common_columns:Addr
 fd_common_columns:FuncData
 places_of:Addr
 fd_places_of:FuncData
 table_of:Addr
 fd_table_of:FuncData
 picked:Addr
 fd_picked:FuncData
 cut:Addr
 fd_cut:FuncData
 agree_both:Addr
 fd_agree_both:FuncData
 agree:Addr
 fd_agree:FuncData
 law:Addr
 fd_law:FuncData
structure Txt(K:PySem.W.Frag)(mg:Str->Option Value)(a:Adr):Prop where
 m_law_take:mg "_law_take"=some (.ref a.law_take)
 F_law_take:Fun K "_law_take" "_law_take" rW a.law_take a.fd_law_take
 m_law_shuffled:mg "_law_shuffled"=some (.ref a.law_shuffled)
 F_law_shuffled:Fun K "_law_shuffled" "_law_shuffled" kB a.law_shuffled a.fd_law_shuffled
 m_law_some:mg "_law_some"=some (.ref a.law_some)
 F_law_some:Fun K "_law_some" "_law_some" rX a.law_some a.fd_law_some
 m_law_round_sets:mg "_law_round_sets"=some (.ref a.law_round_sets)
 F_law_round_sets:Fun K "_law_round_sets" "_law_round_sets" iP a.law_round_sets a.fd_law_round_sets
 m_law_plain_sets:mg "_law_plain_sets"=some (.ref a.law_plain_sets)
 F_law_plain_sets:Fun K "_law_plain_sets" "_law_plain_sets" iQ a.law_plain_sets a.fd_law_plain_sets
 m_law_names:mg "_law_names"=some (.ref a.law_names)
 F_law_names:Fun K "_law_names" "_law_names" pJ a.law_names a.fd_law_names
 m_law_question:mg "_law_question"=some (.ref a.law_question)
 F_law_question:Fun K "_law_question" "_law_question" kD a.law_question a.fd_law_question
 m_law_box:mg "_law_box"=some (.ref a.law_box)
 F_law_box:Fun K "_law_box" "_law_box" wN a.law_box a.fd_law_box
 m_law_columns:mg "_law_columns"=some (.ref a.law_columns)
 F_law_columns:Fun K "_law_columns" "_law_columns" lM a.law_columns a.fd_law_columns
 m_law_value:mg "_law_value"=some (.ref a.law_value)
 F_law_value:Fun K "_law_value" "_law_value" pK a.law_value a.fd_law_value
 m_law_rows_over:mg "_law_rows_over"=some (.ref a.law_rows_over)
 F_law_rows_over:Fun K "_law_rows_over" "_law_rows_over" jH a.law_rows_over a.fd_law_rows_over
 m_law_cut:mg "_law_cut"=some (.ref a.law_cut)
 F_law_cut:Fun K "_law_cut" "_law_cut" wO a.law_cut a.fd_law_cut
 m_law_house:mg "_law_house"=some (.ref a.law_house)
 F_law_house:Fun K "_law_house" "_law_house" pL a.law_house a.fd_law_house
 m_law_changed:mg "_law_changed"=some (.ref a.law_changed)
 F_law_changed:Fun K "_law_changed" "_law_changed" lN a.law_changed a.fd_law_changed
 m_law_truth:mg "_law_truth"=some (.ref a.law_truth)
 F_law_truth:Fun K "_law_truth" "_law_truth" pM a.law_truth a.fd_law_truth
 m_law_agree:mg "_law_agree"=some (.ref a.law_agree)
 F_law_agree:Fun K "_law_agree" "_law_agree" pN a.law_agree a.fd_law_agree
 m_tables_of:mg "tables_of"=some (.ref a.tables_of)
 F_tables_of:Fun K "tables_of" "tables_of" pO a.tables_of a.fd_tables_of
 m_common_columns:mg "common_columns"=some (.ref a.common_columns)
 F_common_columns:Fun K "common_columns" "common_columns" iR a.common_columns a.fd_common_columns
 m_places_of:mg "places_of"=some (.ref a.places_of)
 F_places_of:Fun K "places_of" "places_of" pP a.places_of a.fd_places_of
 m_table_of:mg "table_of"=some (.ref a.table_of)
 F_table_of:Fun K "table_of" "table_of" rY a.table_of a.fd_table_of
 m_picked:mg "picked"=some (.ref a.picked)
 F_picked:Fun K "picked" "picked" aN4 a.picked a.fd_picked
 m_cut:mg "cut"=some (.ref a.cut)
 F_cut:Fun K "cut" "cut" cV7 a.cut a.fd_cut
 m_agree_both:mg "agree_both"=some (.ref a.agree_both)
 F_agree_both:Fun K "agree_both" "agree_both" nA a.agree_both a.fd_agree_both
 m_agree:mg "agree"=some (.ref a.agree)
 F_agree:Fun K "agree" "agree" bD2 a.agree a.fd_agree
 m_law:mg "law"=some (.ref a.law)
 F_law:Fun K "law" "law" cV8 a.law a.fd_law
 n_all:mg "all"=none
 n_bool:mg "bool"=none
 n_enumerate:mg "enumerate"=none
 n_int:mg "int"=none
 n_isinstance:mg "isinstance"=none
 n_len:mg "len"=none
 n_list:mg "list"=none
 n_max:mg "max"=none
 n_min:mg "min"=none
 n_range:mg "range"=none
 n_set:mg "set"=none
 n_sorted:mg "sorted"=none
 n_tuple:mg "tuple"=none
 n_zip:mg "zip"=none
theorem bP2:bootBuiltins "all"=some (.builtin "all"):=by decide +kernel
theorem bD3:bootBuiltins "bool"=some (.type "bool"):=by decide +kernel
theorem kH:bootBuiltins "enumerate"=some (.type "enumerate"):=by decide +kernel
theorem aN5:bootBuiltins "int"=some (.type "int"):=by decide +kernel
theorem pQ:bootBuiltins "isinstance"=some (.builtin "isinstance"):=by decide +kernel
theorem bW:bootBuiltins "len"=some (.builtin "len"):=by decide +kernel
theorem fY:bootBuiltins "list"=some (.type "list"):=by decide +kernel
theorem bP3:bootBuiltins "max"=some (.builtin "max"):=by decide +kernel
theorem uI:bootBuiltins "min"=some (.builtin "min"):=by decide +kernel
theorem boot_range:bootBuiltins "range"=some (.type "range"):=by decide +kernel
theorem uJ:bootBuiltins "set"=some (.type "set"):=by decide +kernel
theorem kR:bootBuiltins "sorted"=some (.builtin "sorted"):=by decide +kernel
theorem cC:bootBuiltins "tuple"=some (.type "tuple"):=by decide +kernel
theorem bP4:bootBuiltins "zip"=some (.type "zip"):=by decide +kernel
theorem pR:FnScope ["_law_box_here","_law_many","_law_digit","_law_one"] ["_law_box_here","_law_many"] (aS rW):=⟨rfl,rfl,rfl,by decide +kernel,rfl,by decide +kernel,by decide +kernel⟩
theorem jI:FnScope ["_law_box_here","_law_things","_law_left","_law_found"] ["_law_box_here","_law_things"] (aS kB):=⟨rfl,rfl,rfl,by decide +kernel,rfl,by decide +kernel,by decide +kernel⟩
theorem pS:FnScope ["_law_box_here","_law_things"] ["_law_box_here","_law_things"] (aS rX):=⟨rfl,rfl,rfl,by decide +kernel,rfl,by decide +kernel,by decide +kernel⟩
theorem hV:FnScope ["_law_box_here","_law_many","_law_found","_law_own","_law_k","_law_j"] ["_law_box_here"] (aS iP):=⟨rfl,rfl,rfl,by decide +kernel,rfl,by decide +kernel,by decide +kernel⟩
theorem hW:FnScope ["_law_box_here","_law_many","_law_count","_law_found","_law_used","_law_k","_law_own","_law_fresh","_law_column"] ["_law_box_here"] (aS iQ):=⟨rfl,rfl,rfl,by decide +kernel,rfl,by decide +kernel,by decide +kernel⟩
theorem nB:FnScope ["_law_box_here","_law_many","_law_letters","_law_x","_law_y","_law_common","_law_at","_law_first","_law_longer","_law_found","_law_k","_law_word"] ["_law_box_here","_law_many"] (aS pJ):=⟨rfl,rfl,rfl,by decide +kernel,rfl,by decide +kernel,by decide +kernel⟩
theorem jJ:FnScope ["_law_box_here","_law_way","_law_sets","_law_columns_here","_law_tables","_law_found","_law_k","_law_own","_law_at"] ["_law_box_here"] (aS kD):=⟨rfl,rfl,rfl,by decide +kernel,rfl,by decide +kernel,by decide +kernel⟩
theorem rZ:FnScope ["_law_script","_law_k","_law_cell","_law_seed"] ["_law_script","_law_k"] (aS wN):=⟨rfl,rfl,rfl,by decide +kernel,rfl,by decide +kernel,by decide +kernel⟩
theorem kI:FnScope ["_law_question_here","_law_found","_law_kt","_law_own","_law_column"] ["_law_question_here"] (aS lM):=⟨rfl,rfl,rfl,by decide +kernel,rfl,by decide +kernel,by decide +kernel⟩
theorem nD:FnScope ["_law_box_here","_law_span","_law_value_here"] ["_law_box_here","_law_span"] (aS pK):=⟨rfl,rfl,rfl,by decide +kernel,rfl,by decide +kernel,by decide +kernel⟩
theorem iS:FnScope ["_law_box_here","_law_many","_law_wide","_law_count","_law_k","_law_column"] ["_law_box_here","_law_many"] (aS jH):=⟨rfl,rfl,rfl,by decide +kernel,rfl,by decide +kernel,by decide +kernel⟩
theorem sA:FnScope ["_law_columns_here","_law_rows","_law_some_here","_law_spots","_law_column","_law_row","_law_at"] ["_law_columns_here","_law_rows","_law_some_here"] (aS wO):=⟨rfl,rfl,rfl,by decide +kernel,rfl,by decide +kernel,by decide +kernel⟩
theorem nE:FnScope ["_law_box_here","_law_question_here","_law_columns_here","_law_rows","_law_own","_law_found","_law_kt","_law_some_here"] ["_law_box_here","_law_question_here"] (aS pL):=⟨rfl,rfl,rfl,by decide +kernel,rfl,by decide +kernel,by decide +kernel⟩
theorem kJ:FnScope ["_law_box_here","_law_question_here","_law_house_here","_law_k","_law_rows","_law_way","_law_at","_law_fresh","_law_spot"] ["_law_box_here","_law_question_here","_law_house_here"] (aS lN):=⟨rfl,rfl,rfl,by decide +kernel,rfl,by decide +kernel,by decide +kernel⟩
theorem nF:FnScope ["_law_found","_law_due"] ["_law_found","_law_due"] (aS pM):=⟨rfl,rfl,rfl,by decide +kernel,rfl,by decide +kernel,by decide +kernel⟩
theorem nG:FnScope ["_law_question_here","_law_house_here","_law_k","_law_j","_law_one","_law_other","_law_both","_law_column"] ["_law_question_here","_law_house_here"] (aS pN):=⟨rfl,rfl,rfl,by decide +kernel,rfl,by decide +kernel,by decide +kernel⟩
theorem nH:FnScope ["question","house","pair","rows"] ["question","house"] (aS pO):=⟨rfl,rfl,rfl,by decide +kernel,rfl,by decide +kernel,by decide +kernel⟩
theorem hX:FnScope ["one","other","column"] ["one","other"] (aS iR):=⟨rfl,rfl,rfl,by decide +kernel,rfl,by decide +kernel,by decide +kernel⟩
theorem nJ:FnScope ["columns","some","column"] ["columns","some"] (aS pP):=⟨rfl,rfl,rfl,by decide +kernel,rfl,by decide +kernel,by decide +kernel⟩
theorem pT:FnScope ["columns","rows"] ["columns","rows"] (aS rY):=⟨rfl,rfl,rfl,by decide +kernel,rfl,by decide +kernel,by decide +kernel⟩
theorem wP:FnScope ["row","places","place"] ["row","places"] (aS aN4):=⟨rfl,rfl,rfl,by decide +kernel,rfl,by decide +kernel,by decide +kernel⟩
theorem bX4:FnScope ["table","columns","places","row"] ["table","columns"] (aS cV7):=⟨rfl,rfl,rfl,by decide +kernel,rfl,by decide +kernel,by decide +kernel⟩
theorem lO:FnScope ["one","other","common"] ["one","other"] (aS nA):=⟨rfl,rfl,rfl,by decide +kernel,rfl,by decide +kernel,by decide +kernel⟩
theorem aN6:FnScope ["question","house","tables","at","one","other"] ["question","house"] (aS bD2):=⟨rfl,rfl,rfl,by decide +kernel,rfl,by decide +kernel,by decide +kernel⟩
theorem bX5:FnScope ["_law_script","_law_question_here","_law_good","_law_houses","_law_k","_law_box_here","_law_other","_law_house_here"] ["_law_script"] (aS cV8):=⟨rfl,rfl,rfl,by decide +kernel,rfl,by decide +kernel,by decide +kernel⟩
section
variable{P:Program}{w:World}{K:PySem.W.Frag}{mg:Str->Option Value}{base:Heap}{a:Adr}
theorem aJ(T:Txt K mg a):eE K a.fd_law_take ["_law_box_here","_law_many"] []:=T.F_law_take.binds (ps:=["_law_box_here","_law_many"]) fun _ _ _ _ _ _ us hl=>match us,hl with | [_,_],_=>rfl
theorem eQ(T:Txt K mg a):eE K a.fd_law_shuffled ["_law_box_here","_law_things"] []:=T.F_law_shuffled.binds (ps:=["_law_box_here","_law_things"]) fun _ _ _ _ _ _ us hl=>match us,hl with | [_,_],_=>rfl
theorem jU(T:Txt K mg a):eE K a.fd_law_some ["_law_box_here","_law_things"] []:=T.F_law_some.binds (ps:=["_law_box_here","_law_things"]) fun _ _ _ _ _ _ us hl=>match us,hl with | [_,_],_=>rfl
theorem nR(T:Txt K mg a):eE K a.fd_law_round_sets ["_law_box_here"] []:=T.F_law_round_sets.binds (ps:=["_law_box_here"]) fun _ _ _ _ _ _ us hl=>match us,hl with | [_],_=>rfl
theorem nT(T:Txt K mg a):eE K a.fd_law_plain_sets ["_law_box_here"] []:=T.F_law_plain_sets.binds (ps:=["_law_box_here"]) fun _ _ _ _ _ _ us hl=>match us,hl with | [_],_=>rfl
theorem pU(T:Txt K mg a):eE K a.fd_law_names ["_law_box_here","_law_many"] []:=T.F_law_names.binds (ps:=["_law_box_here","_law_many"]) fun _ _ _ _ _ _ us hl=>match us,hl with | [_,_],_=>rfl
theorem qU(T:Txt K mg a):eE K a.fd_law_question ["_law_box_here"] []:=T.F_law_question.binds (ps:=["_law_box_here"]) fun _ _ _ _ _ _ us hl=>match us,hl with | [_],_=>rfl
theorem pV(T:Txt K mg a):eE K a.fd_law_box ["_law_script","_law_k"] []:=T.F_law_box.binds (ps:=["_law_script","_law_k"]) fun _ _ _ _ _ _ us hl=>match us,hl with | [_,_],_=>rfl
theorem uK(T:Txt K mg a):eE K a.fd_law_columns ["_law_question_here"] []:=T.F_law_columns.binds (ps:=["_law_question_here"]) fun _ _ _ _ _ _ us hl=>match us,hl with | [_],_=>rfl
theorem yQ(T:Txt K mg a):eE K a.fd_law_value ["_law_box_here","_law_span"] []:=T.F_law_value.binds (ps:=["_law_box_here","_law_span"]) fun _ _ _ _ _ _ us hl=>match us,hl with | [_,_],_=>rfl
theorem jK(T:Txt K mg a):eE K a.fd_law_rows_over ["_law_box_here","_law_many"] []:=T.F_law_rows_over.binds (ps:=["_law_box_here","_law_many"]) fun _ _ _ _ _ _ us hl=>match us,hl with | [_,_],_=>rfl
theorem pW(T:Txt K mg a):eE K a.fd_law_cut ["_law_columns_here","_law_rows","_law_some_here"] []:=T.F_law_cut.binds (ps:=["_law_columns_here","_law_rows","_law_some_here"]) fun _ _ _ _ _ _ us hl=>match us,hl with | [_,_,_],_=>rfl
theorem yR(T:Txt K mg a):eE K a.fd_law_house ["_law_box_here","_law_question_here"] []:=T.F_law_house.binds (ps:=["_law_box_here","_law_question_here"]) fun _ _ _ _ _ _ us hl=>match us,hl with | [_,_],_=>rfl
theorem lP(T:Txt K mg a):eE K a.fd_law_changed ["_law_box_here","_law_question_here","_law_house_here"] []:=T.F_law_changed.binds (ps:=["_law_box_here","_law_question_here","_law_house_here"]) fun _ _ _ _ _ _ us hl=>match us,hl with | [_,_,_],_=>rfl
theorem yS(T:Txt K mg a):eE K a.fd_law_truth ["_law_found","_law_due"] []:=T.F_law_truth.binds (ps:=["_law_found","_law_due"]) fun _ _ _ _ _ _ us hl=>match us,hl with | [_,_],_=>rfl
theorem yT(T:Txt K mg a):eE K a.fd_law_agree ["_law_question_here","_law_house_here"] []:=T.F_law_agree.binds (ps:=["_law_question_here","_law_house_here"]) fun _ _ _ _ _ _ us hl=>match us,hl with | [_,_],_=>rfl
theorem yU(T:Txt K mg a):eE K a.fd_tables_of ["question","house"] []:=T.F_tables_of.binds (ps:=["question","house"]) fun _ _ _ _ _ _ us hl=>match us,hl with | [_,_],_=>rfl
theorem nU(T:Txt K mg a):eE K a.fd_common_columns ["one","other"] []:=T.F_common_columns.binds (ps:=["one","other"]) fun _ _ _ _ _ _ us hl=>match us,hl with | [_,_],_=>rfl
theorem yV(T:Txt K mg a):eE K a.fd_places_of ["columns","some"] []:=T.F_places_of.binds (ps:=["columns","some"]) fun _ _ _ _ _ _ us hl=>match us,hl with | [_,_],_=>rfl
theorem aS8(T:Txt K mg a):eE K a.fd_table_of ["columns","rows"] []:=T.F_table_of.binds (ps:=["columns","rows"]) fun _ _ _ _ _ _ us hl=>match us,hl with | [_,_],_=>rfl
theorem bP5(T:Txt K mg a):eE K a.fd_picked ["row","places"] []:=T.F_picked.binds (ps:=["row","places"]) fun _ _ _ _ _ _ us hl=>match us,hl with | [_,_],_=>rfl
theorem cV9(T:Txt K mg a):eE K a.fd_cut ["table","columns"] []:=T.F_cut.binds (ps:=["table","columns"]) fun _ _ _ _ _ _ us hl=>match us,hl with | [_,_],_=>rfl
theorem wQ(T:Txt K mg a):eE K a.fd_agree_both ["one","other"] []:=T.F_agree_both.binds (ps:=["one","other"]) fun _ _ _ _ _ _ us hl=>match us,hl with | [_,_],_=>rfl
theorem cF5(T:Txt K mg a):eE K a.fd_agree ["question","house"] []:=T.F_agree.binds (ps:=["question","house"]) fun _ _ _ _ _ _ us hl=>match us,hl with | [_,_],_=>rfl
end
end Mr
namespace Sx
open PySem PySem.SetTable
def gS:Nat->Nat
 | 0=>0
 | n+1=>5*gS n+1
theorem wR(n:Nat):4*gS n+1=5 ^ n:=by
 induction n with
 | zero=>rfl
 | succ n ih=>rw[Nat.pow_succ,← ih];show 4*(5*gS n+1)+1=_;omega
theorem bX6(a b:Nat):gS (a+b)=gS a*5 ^ b+gS b:=by
 have h1:=wR (a+b)
 have h2:=wR a
 have h3:=wR b
 have h4:(5:Nat) ^ (a+b)=5 ^ a*5 ^ b:=Nat.pow_add ..
 have h5:4*(gS a*5 ^ b)+5 ^ b=5 ^ a*5 ^ b:=by rw[← h2,Nat.add_mul,Nat.one_mul,Nat.mul_assoc]
 omega
theorem aN7(n:Nat):5 ^ n % 4=1:=by
 have:=wR n
 omega
theorem cW0(n:Nat)(h:n % 2=1):gS n % 2=1:=by
 have key:∀ m,gS m % 2=m % 2:=fun m=>by
  induction m with
  | zero=>rfl
  | succ m ih=>show(5*gS m+1) % 2=_;omega
 rw[key n,h]
theorem sC{a b k:Nat}(hb:b % 2=1)(h:2 ^ k ∣ a*b):2 ^ k ∣ a:=by
 have hc:Nat.Coprime (2 ^ k) b:=by
  refine Nat.Coprime.pow_left k ?_
  have:Nat.gcd 2 b=1:=by
   rw[Nat.gcd_rec,hb]
   rfl
  exact this
 exact Nat.Coprime.dvd_of_dvd_mul_right hc h
theorem bX7:∀ (k n:Nat),2 ^ k ∣ gS n->2 ^ k ∣ n
 | 0,n,_=>by rw[Nat.pow_zero];exact Nat.one_dvd n
 | k+1,n,h=>by
   rcases Nat.mod_two_eq_zero_or_one n with e | e
   ·obtain⟨m,rfl⟩:∃ m,n=m+m:=⟨n / 2,by omega⟩
    rw[bX6]at h
    have f:=aN7 m
    obtain⟨q,hq⟩:∃ q,5 ^ m+1=2*q:=⟨(5 ^ m+1) / 2,by omega⟩
    have ho:q % 2=1:=by omega
    have e2:gS m*5 ^ m+gS m=2*(gS m*q):=by
     have:gS m*5 ^ m+gS m=gS m*(5 ^ m+1):=by rw[Nat.mul_add,Nat.mul_one]
     rw[this,hq,Nat.mul_left_comm]
    rw[e2,Nat.pow_succ,Nat.mul_comm (2 ^ k) 2]at h
    have h2:2 ^ k ∣ gS m*q:=Nat.dvd_of_mul_dvd_mul_left (by decide) h
    have h3:=bX7 k m (sC ho h2)
    have e3:m+m=2*m:=by omega
    rw[e3,Nat.pow_succ,Nat.mul_comm (2 ^ k) 2]
    exact Nat.mul_dvd_mul_left 2 h3
   ·exfalso
    have o:=cW0 n e
    have:2 ∣ gS n:=Nat.dvd_trans ⟨2 ^ k,by rw[Nat.pow_succ,Nat.mul_comm]⟩ h
    omega
def stp(k:Nat):Nat->Nat->Nat
 | 0,x=>x % 2 ^ k
 | n+1,x=>(5*stp k n x+1) % 2 ^ k
theorem bD4(k n x:Nat):stp k n x=(5 ^ n*x+gS n) % 2 ^ k:=by
 induction n with
 | zero=>simp[stp,gS]
 | succ n ih=>
   show(5*stp k n x+1) % 2 ^ k=_
   rw[ih]
   have e:5 ^ (n+1)*x+gS (n+1)=5*(5 ^ n*x+gS n)+1:=by
    show _+(5*gS n+1)=_
    rw[Nat.pow_succ,Nat.mul_comm (5 ^ n) 5,Nat.mul_assoc,Nat.mul_add];omega
   rw[e,Nat.add_mod,Nat.mul_mod]
   simp[Nat.mul_mod,Nat.add_mod]
theorem bD5{k x a b:Nat}(ha:a < b)(hb:b < 2 ^ k)(h:stp k a x=stp k b x):False:=by
 rw[bD4,bD4]at h
 obtain⟨d,rfl⟩:∃ d,b=a+d:=⟨b-a,by omega⟩
 have hd:2 ^ k ∣ (5 ^ (a+d)*x+gS (a+d))-(5 ^ a*x+gS a):=by
  exact Nat.dvd_of_mod_eq_zero (Nat.sub_mod_eq_zero_of_mod_eq h.symm)
 have e:(5 ^ (a+d)*x+gS (a+d))-(5 ^ a*x+gS a)=gS d*((4*x+1)*5 ^ a):=by
  have h1:=wR d
  have h2:5 ^ (a+d)*x=gS d*(4*x*5 ^ a)+5 ^ a*x:=by
   rw[Nat.pow_add,← h1,Nat.mul_assoc,Nat.add_mul,Nat.one_mul,Nat.mul_add]
   congr 1
   rw[Nat.mul_comm (4*x),Nat.mul_comm 4 (gS d),Nat.mul_assoc,Nat.mul_left_comm]
  have h3:gS (a+d)=gS d*5 ^ a+gS a:=by rw[Nat.add_comm a d,bX6]
  rw[h2,h3,Nat.add_mul,Nat.one_mul,Nat.mul_add]
  omega
 rw[e]at hd
 have ho:((4*x+1)*5 ^ a) % 2=1:=by
  have f:=aN7 a
  rw[Nat.mul_mod]
  have:5 ^ a % 2=1:=by omega
  have:(4*x+1) % 2=1:=by omega
  simp[*]
 have:=Nat.le_of_dvd (by omega) (bX7 k d (sC ho hd))
 omega
theorem uL:∀ (N:Nat) (f:Nat->Nat),(∀ i,i < N->f i < N)->(∀ i j,i < j->j < N->f i≠f j)->∀ c,c < N->∃ i,i < N/\f i=c
 | 0,_,_,_,c,h=>absurd h (Nat.not_lt_zero c)
 | N+1,f,hb,hi,c,hc=>by
   by_cases hN:∃ i,i < N+1/\f i=c
   ·exact hN
   ·exfalso
    -- with c nY out,and N in its place
    have hne:∀ i,i < N+1->f i≠c:=fun i h e=>hN ⟨i,h,e⟩
    let g:Nat->Nat:=fun i=>if f i=N then c else f i
    have gb:∀ i,i < N+1->g i < N:=fun i h=>by
     show(if f i=N then c else f i) < N
     have h1:=hb i h
     have h2:=hne i h
     split
     ·omega
     ·omega
    have gi:∀ i j,i < j->j < N+1->g i≠g j:=fun i j hij hj=>by
     show(if f i=N then c else f i)≠if f j=N then c else f j
     have h1:=hi i j hij hj
     have h2:=hne i (by omega)
     have h3:=hne j hj
     split<;>split<;>omega
    obtain⟨i,hiN,e⟩:=uL N g (fun i h=>gb i (by omega)) (fun i j hij hj=>gi i j hij (by omega)) (g N) (gb N (by omega))
    exact gi i N hiN (by omega) e
theorem cF6{k x c:Nat}(hc:c < 2 ^ k):∃ n,n < 2 ^ k/\stp k n x=c:=
 uL (2 ^ k) (fun n=>stp k n x) (fun i _=>by show stp k i x < _;rw[bD4];exact Nat.mod_lt _ (Nat.two_pow_pos k)) (fun i j hij hj e=>bD5 hij hj e) c hc
def adv(mask:Nat)(p:Probe):Probe:=
 if p.more > 0 then{p with j:=p.j+1,more:=p.more-1}else
 {p with j:=(leap mask p.i p.perturb).1,more:=runEnd mask (leap mask p.i p.perturb).1-(leap mask p.i p.perturb).1,i:=(leap mask p.i p.perturb).1,perturb:=(leap mask p.i p.perturb).2}
def wk0(mask:Nat)(h:Int):Probe:=⟨bits h % (mask+1),runEnd mask (bits h % (mask+1))-bits h % (mask+1),bits h % (mask+1),bits h,none⟩
def wk(mask:Nat)(h:Int):Nat->Probe
 | 0=>wk0 mask h
 | n+1=>adv mask (wk mask h n)
def lp(mask:Nat)(h:Int):Nat->Nat×Nat
 | 0=>(bits h % (mask+1),bits h)
 | l+1=>leap mask (lp mask h l).1 (lp mask h l).2
def qR(mask i:Nat):Nat:=runEnd mask i-i
theorem cF7(mask i:Nat):qR mask i<=9:=by unfold qR runEnd;split<;>omega
def tm(mask:Nat)(h:Int):Nat->Nat
 | 0=>0
 | l+1=>tm mask h l+qR mask (lp mask h l).1+1
theorem dF2(mask:Nat)(h:Int)(l:Nat):tm mask h l<=10*l:=by
 induction l with
 | zero=>exact Nat.le_refl _
 | succ l ih=>
   have:=cF7 mask (lp mask h l).1
   show tm mask h l+qR mask (lp mask h l).1+1<=_
   omega
theorem bD6{mask:Nat}{h:Int}{l:Nat}(e:wk mask h (tm mask h l)=⟨(lp mask h l).1,qR mask (lp mask h l).1,(lp mask h l).1,(lp mask h l).2,none⟩) :
  ∀ r,r<=qR mask (lp mask h l).1->wk mask h (tm mask h l+r)=⟨(lp mask h l).1+r,qR mask (lp mask h l).1-r,(lp mask h l).1,(lp mask h l).2,none⟩
 | 0,_=>e
 | r+1,hr=>by
   have ih:=bD6 e r (by omega)
   show adv mask (wk mask h (tm mask h l+r))=_
   rw[ih]
   unfold adv
   rw[if_pos (by show qR mask (lp mask h l).1-r > 0;omega)]
   congr 1
theorem yW(mask:Nat)(h:Int):∀ l,wk mask h (tm mask h l)=⟨(lp mask h l).1,qR mask (lp mask h l).1,(lp mask h l).1,(lp mask h l).2,none⟩
 | 0=>rfl
 | l+1=>by
   have ih:=bD6 (yW mask h l) (qR mask (lp mask h l).1) (Nat.le_refl _)
   show adv mask (wk mask h (tm mask h l+qR mask (lp mask h l).1))=_
   rw[ih]
   unfold adv
   rw[if_neg (by show ¬ qR mask (lp mask h l).1-qR mask (lp mask h l).1 > 0;omega)]
   rfl
theorem bD7(mask:Nat)(h:Int):∀ l,(lp mask h l).2=bits h / 32 ^ l
 | 0=>by show bits h=_;simp
 | l+1=>by
   show(lp mask h l).2 / 32=_
   rw[bD7 mask h l,Nat.div_div_eq_div_mul,Nat.pow_succ]
theorem cF8(h:Int):bits h < 2 ^ 64:=by
 unfold bits
 have h1:=Int.emod_nonneg h (b:=2 ^ 64) (by decide)
 have h2:=Int.emod_lt_of_pos h (b:=2 ^ 64) (by decide)
 omega
theorem cF9(mask:Nat)(h:Int){l:Nat}(hl:13<=l):(lp mask h l).2=0:=by
 rw[bD7]
 refine Nat.div_eq_of_lt (Nat.lt_of_lt_of_le (cF8 h) ?_)
 refine Nat.le_trans (by decide:2 ^ 64<=32 ^ 13) (Nat.pow_le_pow_right (by decide) hl)
theorem cW1(mask:Nat)(h:Int):∀ l,(lp mask h l).1 < mask+1
 | 0=>Nat.mod_lt _ (Nat.succ_pos _)
 | l+1=>Nat.mod_lt _ (Nat.succ_pos _)
theorem bD8{mask k:Nat}(hk:mask+1=2 ^ k)(h:Int):∀ n,(lp mask h (13+n)).1=stp k n (lp mask h 13).1
 | 0=>by
   show _=_ % 2 ^ k
   rw[Nat.mod_eq_of_lt (by rw[← hk];exact cW1 mask h 13)]
 | n+1=>by
   have e:(lp mask h (13+(n+1))).1=((lp mask h (13+n)).1*5+1+(lp mask h (13+n)).2 / 32) % (mask+1):=rfl
   rw[e,cF9 mask h (by omega),bD8 hk h n,hk]
   show _=(5*stp k n _+1) % 2 ^ k
   rw[Nat.mul_comm 5]
theorem bD9{mask i:Nat}(hi:i<=mask)(r:Nat)(hr:r<=qR mask i):i+r<=mask:=by
 unfold qR runEnd at hr
 split at hr<;>omega
theorem cG0{mask:Nat}(h:Int):∀ n,(wk mask h n).dummy=none/\(wk mask h n).j+(wk mask h n).more<=mask
 | 0=>⟨rfl,by
   have h1:bits h % (mask+1)<=mask:=Nat.le_of_lt_succ (Nat.mod_lt _ (Nat.succ_pos _))
   exact bD9 h1 _ (Nat.le_refl _)⟩
 | n+1=>by
   obtain⟨h1,h2⟩:=cG0 (mask:=mask) h n
   show(adv mask (wk mask h n)).dummy=none/\(adv mask (wk mask h n)).j+(adv mask (wk mask h n)).more<=mask
   unfold adv
   split
   ·refine⟨h1,?_⟩
    show(wk mask h n).j+1+((wk mask h n).more-1)<=mask
    omega
   ·refine⟨h1,?_⟩
    exact bD9 (Nat.le_of_lt_succ (Nat.mod_lt _ (Nat.succ_pos _))) _ (Nat.le_refl _)
theorem cW2{mask:Nat}(h:Int)(n:Nat):(wk mask h n).j<=mask:=by
 have:=(cG0 (mask:=mask) h n).2
 omega
def Ris(xs:Array Nat):Prop:=∀ (i j:Nat) (a b:Nat),i < j->xs[i]? = some a->xs[j]? = some b->a < b
structure Cut(xs:Array Nat)(j r:Nat):Prop where
 le:r<=xs.size
 lo:∀ (i a:Nat),i < r->xs[i]? = some a->a < j
 hi:∀ (i a:Nat),r<=i->xs[i]? = some a->j<=a
theorem uM{xs:Array Nat}{j:Nat}(hs:Ris xs):∀ (fuel lo hi:Nat),hi-lo<=fuel->lo<=hi->hi<=xs.size->(∀ (i a:Nat),i < lo->xs[i]? = some a->a < j)->(∀ (i a:Nat),hi<=i->xs[i]? = some a->j<=a)->Cut xs j (below.go xs j fuel lo hi)
 | 0,lo,hi,hf,hl,hz,h1,h2=>by
   have:lo=hi:=by omega
   subst this
   exact⟨hz,h1,h2⟩
 | fuel+1,lo,hi,hf,hl,hz,h1,h2=>by
   unfold below.go
   split
   ·rename_i hlt
    have hm:(lo+hi) / 2 < xs.size:=by omega
    have em:xs[(lo+hi) / 2]? = some xs[(lo+hi) / 2]:=Array.getElem?_eq_getElem hm
    have eg:xs.getD ((lo+hi) / 2) j=xs[(lo+hi) / 2]:=by rw[Array.getD_eq_getD_getElem?,em];rfl
    dsimp only
    rw[eg]
    split
    ·rename_i hq
     refine uM hs fuel _ hi (by omega) (by omega) hz (fun i a hi' e=>?_) h2
     by_cases z:i=(lo+hi) / 2
     ·subst z;rw[em]at e;cases e;exact hq
     ·exact Nat.lt_trans (hs i _ a _ (by omega) e em) hq
    ·rename_i hq
     refine uM hs fuel lo _ (by omega) (by omega) (by omega) h1 (fun i a hi' e=>?_)
     by_cases z:i=(lo+hi) / 2
     ·subst z;rw[em]at e;cases e;omega
     ·have:=hs _ i _ a (by omega) em e;omega
   ·have:lo=hi:=by omega
    subst this
    exact⟨hz,h1,h2⟩
theorem jL{xs:Array Nat}(hs:Ris xs)(j:Nat):Cut xs j (below xs j):=
 uM hs _ _ _ (by omega) (by omega) (Nat.le_refl _) (fun i a h _=>absurd h (Nat.not_lt_zero _)) fun i a h e=>by
  have:=(Array.getElem?_eq_some_iff.mp e).1
  omega
theorem gL{xs:Array Nat}(hs:Ris xs){i j:Nat}(h:xs[i]? = some j):below xs j=i:=by
 have c:=jL hs j
 have h1:below xs j<=i:=by
  refine Nat.le_of_not_lt fun z=>?_
  have:=c.lo i j z h
  omega
 have h2:i<=below xs j:=by
  refine Nat.le_of_not_lt fun z=>?_
  have hb:below xs j < xs.size:=Nat.lt_trans z (Array.getElem?_eq_some_iff.mp h).1
  have eb:xs[below xs j]? = some xs[below xs j]:=Array.getElem?_eq_getElem hb
  have:=hs _ i _ j z eb h
  have:=c.hi _ _ (Nat.le_refl _) eb
  omega
 omega
theorem pX{t:SetTable}(hs:Ris t.place){i j:Nat}(h:t.place[i]? = some j):t.slot j=.live i:=by
 unfold slot
 dsimp only
 rw[gL hs h,h]
 simp
theorem aS9{t:SetTable}(hd:t.dummies=#[]){j:Nat}(h:∀ i:Nat,t.place[i]? ≠ some j):t.slot j=.empty:=by
 unfold slot
 dsimp only
 rw[if_neg (by simpa using h _),if_neg (by rw[hd];simp[has])]
def Occ(t:SetTable)(j:Nat):Prop:=∃ i:Nat,t.place[i]? = some j
structure TOk(t:SetTable)(hs:List Int):Prop where
 pw:∃ k,t.mask+1=2 ^ k
 m7:7<=t.mask
 dm:t.dummies=#[]
 ri:Ris t.place
 lt:∀ (i j:Nat),t.place[i]? = some j->j<=t.mask
 len:t.place.size=hs.length
 fit:t.place.size<=t.mask
 rea:∀ (i:Nat) h,hs[i]? = some h->∃ m j,t.place[i]? = some j/\(wk t.mask h m).j=j/\∀ m',m' < m->Occ t (wk t.mask h m').j
section
variable{t:SetTable}{hs:List Int}
end
theorem bE0{t:SetTable}{hs:List Int}(T:TOk t hs){h:Int}{hashAt:Nat->Int}{M:Nat}(hM:¬ Occ t (wk t.mask h M).j)(hb:∀ m,m < M->Occ t (wk t.mask h m).j) :
  ∀ (fuel n:Nat),n<=M->M-n < fuel ->
    (∃ m i,n<=m/\m < M/\t.place[i]? = some (wk t.mask h m).j/\hashAt i=h/\(∀ m' i',n<=m'->m' < m->t.place[i']? = some (wk t.mask h m').j->hashAt i'≠h)/\probe.go t hashAt h fuel (wk t.mask h n)=some (.candidate (wk t.mask h m).j i (wk t.mask h (m+1)))) \/
    ((∀ m' i',n<=m'->m' < M->t.place[i']? = some (wk t.mask h m').j->hashAt i'≠h)/\probe.go t hashAt h fuel (wk t.mask h n)=some (.empty (wk t.mask h M).j none))
 | 0,n,_,hf=>by omega
 | fuel+1,n,hn,hf=>by
   have hdm:=(cG0 (mask:=t.mask) h n).1
   unfold probe.go
   by_cases hnM:n=M
   ·subst hnM
    refine .inr ⟨fun m' i' h1 h2=>by omega,?_⟩
    have:t.slot (wk t.mask h n).j=.empty:=aS9 T.dm fun i e=>hM ⟨i,e⟩
    rw[this]
    dsimp only
    rw[hdm]
   ·obtain⟨i,ei⟩:=hb n (by omega)
    have hsl:=pX T.ri ei
    rw[hsl]
    dsimp only
    by_cases hq:hashAt i=h
    ·refine .inl ⟨n,i,Nat.le_refl _,by omega,ei,hq,fun m' i' h1 h2=>by omega,?_⟩
     rw[if_pos (by simpa using hq)]
     rfl
    ·rw[if_neg (by simpa using hq)]
     have uni:∀ i',t.place[i']? = some (wk t.mask h n).j->i'=i:=fun i' e=>by
      rw[← gL T.ri e,← gL T.ri ei]
     rcases bE0 T hM hb fuel (n+1) (by omega) (by omega)with⟨m,i2,a1,a2,a3,a4,a5,a6⟩ | ⟨a1,a2⟩
     ·refine .inl ⟨m,i2,by omega,a2,a3,a4,fun m' i' h1 h2 e=>?_,a6⟩
      by_cases z:m'=n
      ·subst z;rw[uni i' e];exact hq
      ·exact a5 m' i' (by omega) h2 e
     ·refine .inr ⟨fun m' i' h1 h2 e=>?_,a2⟩
      by_cases z:m'=n
      ·subst z;rw[uni i' e];exact hq
      ·exact a1 m' i' (by omega) h2 e
theorem gM{α:Type}(xs:Array α){p:Nat}(hp:p<=xs.size)(x:α)(i:Nat):(insertAt xs p x)[i]? = if i < p then xs[i]? else if i=p then some x else xs[i-1]?:=by
 rw[← Array.getElem?_toList,toList_insertAt]
 have hl:(xs.toList.take p).length=p:=by rw[List.length_take,Array.length_toList];omega
 by_cases h1:i < p
 ·rw[if_pos h1,List.getElem?_append_left (by omega),List.getElem?_take_of_lt h1,Array.getElem?_toList]
 ·rw[if_neg h1,List.getElem?_append_right (by omega),hl]
  by_cases h2:i=p
  ·subst h2;rw[if_pos rfl,Nat.sub_self];rfl
  ·rw[if_neg h2]
   obtain⟨d,rfl⟩:∃ d,i=p+1+d:=⟨i-p-1,by omega⟩
   have e1:p+1+d-p=d+1:=by omega
   have e2:p+1+d-1=p+d:=by omega
   rw[e1,e2,List.getElem?_cons_succ,List.getElem?_drop,Array.getElem?_toList]
theorem oK{α:Type}(xs:Array α){p:Nat}(hp:p<=xs.size)(x:α):(insertAt xs p x).size=xs.size+1:=by
 rw[← Array.length_toList,toList_insertAt,List.length_append,List.length_cons,List.length_take,List.length_drop,Array.length_toList]
 omega
def yX{α:Type}(l:List α)(p:Nat)(x:α):List α:=l.take p++x::l.drop p
theorem aN8{α:Type}(l:List α){p:Nat}(hp:p<=l.length)(x:α)(i:Nat):(yX l p x)[i]? = if i < p then l[i]? else if i=p then some x else l[i-1]?:=by
 have:=gM l.toArray (p:=p) (by simpa using hp) x i
 rw[← Array.getElem?_toList,toList_insertAt]at this
 simpa[yX]using this
theorem pY{α:Type}(l:List α){p:Nat}(hp:p<=l.length)(x:α):(yX l p x).length=l.length+1:=by
 unfold yX
 rw[List.length_append,List.length_cons,List.length_take,List.length_drop]
 omega
section
variable{t:SetTable}{hs:List Int}{h:Int}{M:Nat}
theorem wS(t:SetTable)(j:Nat)(hd:t.dummies=#[]):t.put j=({t with place:=insertAt t.place (below t.place j) j},below t.place j):=by
 unfold put
 dsimp only
 rw[hd]
 rfl
theorem cG1{t t':SetTable}{j c:Nat}(hp:below t.place j<=t.place.size)(e:t'.place=insertAt t.place (below t.place j) j):Occ t' c↔Occ t c\/c=j:=by
 constructor
 ·rintro⟨i,hi⟩
  rw[e,gM _ hp]at hi
  split at hi
  ·exact .inl ⟨i,hi⟩
  ·split at hi
   ·exact .inr (Option.some.inj hi).symm
   ·exact .inl ⟨i-1,hi⟩
 ·rintro(⟨i,hi⟩ | rfl)
  ·by_cases hb:i < below t.place j
   ·exact⟨i,by rw[e,gM _ hp,if_pos hb];exact hi⟩
   ·exact⟨i+1,by rw[e,gM _ hp,if_neg (by omega),if_neg (by omega)];exact hi⟩
  ·exact⟨below t.place c,by rw[e,gM _ hp,if_neg (by omega),if_pos rfl]⟩
theorem TOk.put(T:TOk t hs)(hM:¬ Occ t (wk t.mask h M).j)(hb:∀ m,m < M->Occ t (wk t.mask h m).j)(hf:t.place.size+1<=t.mask) :
  TOk (t.put (wk t.mask h M).j).1 (yX hs (below t.place (wk t.mask h M).j) h):=by
 have c:=jL T.ri (wk t.mask h M).j
 rw[wS t _ T.dm]
 have hp:=c.le
 have hph:below t.place (wk t.mask h M).j<=hs.length:=by rw[← T.len];exact hp
 have occ:∀ x,Occ {t with place:=insertAt t.place (below t.place (wk t.mask h M).j) (wk t.mask h M).j} x↔Occ t x\/x=(wk t.mask h M).j:=fun x=>cG1 hp rfl
 refine⟨T.pw,T.m7,T.dm,?_,?_,?_,?_,?_⟩
 ·intro i1 i2 a b hi e1 e2
  have hne:∀ i a,t.place[i]? = some a->a≠(wk t.mask h M).j:=fun i a e z=>hM ⟨i,by rw[e,z]⟩
  dsimp only at e1 e2
  rw[gM _ hp]at e1 e2
  generalize (wk t.mask h M).j=j at *
  split at e1
  ·split at e2
   ·exact T.ri _ _ _ _ hi e1 e2
   ·split at e2
    ·cases e2;exact c.lo _ _ (by assumption) e1
    ·exact T.ri _ _ _ _ (by omega) e1 e2
  ·split at e1
   ·cases e1
    rw[if_neg (by omega),if_neg (by omega)]at e2
    have h1:=c.hi _ _ (by omega:below t.place a<=i2-1) e2
    have h2:=hne _ _ e2
    omega
   ·rw[if_neg (by omega),if_neg (by omega)]at e2
    exact T.ri _ _ _ _ (by omega) e1 e2
 ·intro i j e
  rcases(occ j).mp ⟨i,e⟩with⟨i',e'⟩ | rfl
  ·exact T.lt i' j e'
  ·exact cW2 h M
 ·show(insertAt _ _ _).size=_
  rw[oK _ hp,pY _ hph,T.len]
 ·show(insertAt _ _ _).size<=_
  rw[oK _ hp];exact hf
 ·intro i h' e
  rw[aN8 _ hph]at e
  show ∃ m j,(insertAt t.place (below t.place (wk t.mask h M).j) (wk t.mask h M).j)[i]? = some j/\_
  rw[gM _ hp]
  have old:∀ i0,hs[i0]? = some h'->∃ m j,t.place[i0]? = some j/\(wk t.mask h' m).j=j/\∀ m',m' < m->Occ {t with place:=insertAt t.place (below t.place (wk t.mask h M).j) (wk t.mask h M).j} (wk t.mask h' m').j:=fun i0 e0=>by
   obtain⟨m,j,a1,a2,a3⟩:=T.rea i0 h' e0
   exact⟨m,j,a1,a2,fun m' hm'=>(occ _).mpr (.inl (a3 m' hm'))⟩
  split at e
  ·rw[if_pos (by assumption)];exact old i e
  ·split at e
   ·cases e
    rw[if_neg (by assumption),if_pos (by assumption)]
    exact⟨M,_,rfl,rfl,fun m' hm'=>(occ _).mpr (.inl (hb m' hm'))⟩
   ·rw[if_neg (by assumption),if_neg (by assumption)];exact old (i-1) e
end
def aT0(ow:Array (Option Nat))(j:Nat):Prop:=∃ k,ow[j]? = some (some k)
structure LOk(mask:Nat)(ow:Array (Option Nat))(hs:List Int):Prop where
 sz:ow.size=mask+1
 bd:∀ (j k:Nat),ow[j]? = some (some k)->k < hs.length
 one:∀ (j j' k:Nat),ow[j]? = some (some k)->ow[j']? = some (some k)->j=j'
 rea:∀ (k:Nat) h,hs[k]? = some h->∃ m,ow[(wk mask h m).j]? = some (some k)/\∀ m',m' < m->aT0 ow (wk mask h m').j
theorem dF3{ow:Array (Option Nat)}{j:Nat}(hj:j < ow.size):(ow.getD j (some 0)).isNone=true↔¬ aT0 ow j:=by
 have e:ow[j]? = some ow[j]:=Array.getElem?_eq_getElem hj
 rw[Array.getD_eq_getD_getElem?,e]
 show ow[j].isNone=true↔_
 constructor
 ·rintro h ⟨k,hk⟩
  rw[e]at hk
  rw[Option.some.inj hk]at h
  cases h
 ·intro h
  cases hc:ow[j]with
  | none=>rfl
  | some k=>exact absurd ⟨k,by rw[e,hc]⟩ h
theorem wT{mask:Nat}{ow:Array (Option Nat)}(hs:ow.size=mask+1)(h:Int){L:Nat}(hL:¬ aT0 ow (lp mask h L).1) :
  ∀ (fuel l:Nat),l<=L->L < l+fuel->(∀ m,m < tm mask h l->aT0 ow (wk mask h m).j) ->
    ∃ M,layClean.free mask ow fuel (lp mask h l).1 (lp mask h l).2=some (wk mask h M).j/\¬ aT0 ow (wk mask h M).j/\∀ m,m < M->aT0 ow (wk mask h m).j
 | 0,l,h1,h2,_=>by omega
 | fuel+1,l,h1,h2,hb=>by
   have hin:∀ r,r<=qR mask (lp mask h l).1->(lp mask h l).1+r < ow.size:=fun r hr=>by
    have:=bD9 (Nat.le_of_lt_succ (cW1 mask h l)) r hr
    omega
   have hrl:runEnd mask (lp mask h l).1+1-(lp mask h l).1=qR mask (lp mask h l).1+1:=by
    unfold qR runEnd
    split<;>omega
   have wj:∀ r,r<=qR mask (lp mask h l).1->(wk mask h (tm mask h l+r)).j=(lp mask h l).1+r:=fun r hr=>by rw[bD6 (yW mask h l) r hr]
   unfold layClean.free
   split
   ·rename_i k hk
    obtain⟨a1,a2,a3⟩:=List.find?_range_eq_some.mp hk
    rw[List.mem_range,hrl]at a2
    have hk':k<=qR mask (lp mask h l).1:=by omega
    refine⟨tm mask h l+k,by rw[wj k hk'],?_,fun m hm=>?_⟩
    ·rw[wj k hk'];exact(dF3 (hin k hk')).mp a1
    ·by_cases hm':m < tm mask h l
     ·exact hb m hm'
     ·obtain⟨r,rfl⟩:∃ r,m=tm mask h l+r:=⟨m-tm mask h l,by omega⟩
      rw[wj r (by omega)]
      have:=a3 r (by omega)
      refine Classical.byContradiction fun z=>?_
      rw[(dF3 (hin r (by omega))).mpr z]at this
      cases this
   ·rename_i hk
    have hall:∀ r,r<=qR mask (lp mask h l).1->aT0 ow ((lp mask h l).1+r):=fun r hr=>by
     have:=List.find?_eq_none.mp hk r (by rw[List.mem_range,hrl];omega)
     exact Classical.byContradiction fun z=>this ((dF3 (hin r hr)).mpr z)
    have hlL:l≠L:=fun z=>by
     subst z
     exact hL (by simpa using hall 0 (Nat.zero_le _))
    refine wT hs h hL fuel (l+1) (by omega) (by omega) fun m hm=>?_
    have hm2:m < tm mask h l+qR mask (lp mask h l).1+1:=hm
    by_cases hm':m < tm mask h l
    ·exact hb m hm'
    ·obtain⟨r,rfl⟩:∃ r,m=tm mask h l+r:=⟨m-tm mask h l,by omega⟩
     rw[wj r (by omega)]
     exact hall r (by omega)
section
variable{mask:Nat}{ow:Array (Option Nat)}{hs:List Int}
theorem LOk.free(T:LOk mask ow hs)(hn:hs.length<=mask):∃ c,c<=mask/\¬ aT0 ow c:=by
 refine Classical.byContradiction fun hno=>?_
 have hall:∀ c,c<=mask->aT0 ow c:=fun c hc=>Classical.byContradiction fun z=>hno ⟨c,hc,z⟩
 let f:Nat->Nat:=fun c=>(ow.getD c none).getD 0
 have fb:∀ c,c<=mask->ow[c]? = some (some (f c)):=fun c hc=>by
  obtain⟨k,e⟩:=hall c hc
  have:f c=k:=by
   show(ow.getD c none).getD 0=k
   rw[Array.getD_eq_getD_getElem?,e];rfl
  rw[this];exact e
 have fi:∀ a b,a < b->b<=mask->f a≠f b:=fun a b hab hb e=>by
  have h1:=fb a (by omega)
  rw[e]at h1
  have:=T.one a b _ h1 (fb b hb)
  omega
 obtain⟨i,hi,e⟩:=uL hs.length f (fun i h=>T.bd _ _ (fb i (by omega))) (fun a b hab hb=>fi a b hab (by omega)) (f hs.length) (T.bd _ _ (fb hs.length hn))
 exact fi i hs.length hi hn e
theorem LOk.lay{k:Nat}(hk:mask+1=2 ^ k)(T:LOk mask ow hs)(hn:hs.length<=mask)(h:Int):∃ j,layClean.free mask ow (turns mask) (bits h % (mask+1)) (bits h)=some j/\LOk mask (ow.setIfInBounds j (some hs.length)) (hs++[h]):=by
 obtain⟨c,hc,hf⟩:=T.free hn
 obtain⟨n,hn2,e⟩:=cF6 (k:=k) (x:=(lp mask h 13).1) (c:=c) (by omega)
 have hL:¬ aT0 ow (lp mask h (13+n)).1:=by rw[bD8 hk h n,e];exact hf
 obtain⟨M,h1,h2,h3⟩:=wT T.sz h hL (turns mask) 0 (Nat.zero_le _) (by show 13+n < 0+(mask+15);omega) (fun m hm=>absurd hm (Nat.not_lt_zero _))
 refine⟨_,h1,?_⟩
 have hj:(wk mask h M).j < ow.size:=by rw[T.sz];exact Nat.lt_succ_of_le (cW2 h M)
 have gs:∀ c,(ow.setIfInBounds (wk mask h M).j (some hs.length))[c]? = if(wk mask h M).j=c then some (some hs.length)else ow[c]?:=fun c=>by
  rw[Array.getElem?_setIfInBounds]
  split
  ·first | rfl | rw[if_pos hj]
  ·rfl
 have occ:∀ {c},aT0 ow c->aT0 (ow.setIfInBounds (wk mask h M).j (some hs.length)) c:=fun{c} ⟨k',e'⟩=>by
  refine⟨k',?_⟩
  rw[gs,if_neg (fun z=>h2 ⟨k',by rw[z];exact e'⟩)];exact e'
 refine⟨by rw[Array.size_setIfInBounds];exact T.sz,fun j k' e'=>?_,fun j j' k' e1 e2=>?_,fun k' h' e'=>?_⟩
 ·rw[gs]at e'
  rw[List.length_append]
  split at e'
  ·cases e';simp
  ·have:=T.bd _ _ e';simp;omega
 ·rw[gs]at e1 e2
  split at e1
  ·cases e1
   split at e2
   ·omega
   ·have:=T.bd _ _ e2;omega
  ·split at e2
   ·cases e2;have:=T.bd _ _ e1;omega
   ·exact T.one _ _ _ e1 e2
 ·by_cases hlt:k' < hs.length
  ·rw[List.getElem?_append_left hlt]at e'
   obtain⟨m,a1,a2⟩:=T.rea k' h' e'
   refine⟨m,?_,fun m' hm'=>occ (a2 m' hm')⟩
   rw[gs,if_neg (fun z=>h2 ⟨k',by rw[z];exact a1⟩)];exact a1
  ·rw[List.getElem?_append_right (by omega)]at e'
   have hk0:k'=hs.length:=by
    have:=(List.getElem?_eq_some_iff.mp e').1
    simp at this;omega
   subst hk0
   have:h'=h:=by simpa using e'.symm
   subst this
   exact⟨M,by rw[gs,if_pos rfl],fun m' hm'=>occ (h3 m' hm')⟩
end
theorem lQ{mask k:Nat}(hk:mask+1=2 ^ k):∀ (gF:List Int) (hs:List Int) (ow:Array (Option Nat)),LOk mask ow hs->hs.length+gF.length<=mask+1 ->
  ∃ ow',gF.foldl (fun acc h=>do
    let (owner,k) ← acc
    let j ← layClean.free mask owner (turns mask) (bits h % (mask+1)) (bits h)
    pure (owner.setIfInBounds j (some k),k+1)) (some (ow,hs.length))=some (ow',hs.length+gF.length)/\LOk mask ow' (hs++gF)
 | [],hs,ow,T,_=>⟨ow,by simp,by simpa using T⟩
 | h::gF,hs,ow,T,hl=>by
   rw[List.length_cons]at hl
   obtain⟨j,e,T'⟩:=T.lay hk (by omega) h
   obtain⟨ow',e2,T2⟩:=lQ hk gF (hs++[h]) _ T' (by rw[List.length_append,List.length_singleton];omega)
   refine⟨ow',?_,by simpa using T2⟩
   rw[List.foldl_cons]
   rw[List.length_append,List.length_singleton]at e2
   have e3:hs.length+(h::gF).length=hs.length+1+gF.length:=by rw[List.length_cons];omega
   rw[e3,← e2]
   congr 1
   show((layClean.free mask ow (turns mask) (bits h % (mask+1)) (bits h)).bind fun j=>some (ow.setIfInBounds j (some hs.length),hs.length+1))=_
   rw[e];rfl
theorem cG2(mask:Nat):LOk mask (Array.replicate (mask+1) none) []:=by
 refine⟨by simp,fun j k e=>?_,fun j j' k e=>?_,fun k h e=>by simp at e⟩
 all_goals
  rw[Array.getElem?_replicate]at e
  split at e<;>cases e
theorem bE1{mask k finger moves:Nat}{led plain:Bool}{hashes:Array Int}(hk:mask+1=2 ^ k)(h7:7<=mask)(hn:hashes.size<=mask) :
  ∃ t order,laid mask finger moves led plain hashes=some (t,order)/\TOk t (order.toList.filterMap (hashes[·]?))/\order.toList.Perm (List.range hashes.size)/\t.mask=mask/\t.place.size=hashes.size/\t.led=led/\t.plain=plain:=by
 obtain⟨ow,e,T⟩:=lQ hk hashes.toList [] _ (cG2 mask) (by rw[Array.length_toList];simp;omega)
 rw[List.nil_append]at T
 have el:layClean mask hashes=some ow:=by
  unfold layClean
  rw[← Array.foldl_toList]
  have e':=e
  rw[List.length_nil,Nat.zero_add]at e'
  rw[e'];rfl
 let g:Nat->Option (Nat×Nat):=fun j=>(ow.getD j none).map (j,·)
 have gd:∀ j p,g j=some p↔p.1=j/\ow[j]? = some (some p.2):=fun j p=>by
  show(ow.getD j none).map (j,·)=some p↔_
  rw[Array.getD_eq_getD_getElem?]
  cases hq:ow[j]? with
  | none=>simp
  | some o=>
    cases o with
    | none=>simp
    | some k'=>
      obtain⟨a,b⟩:=p
      simp
      intro _
      exact⟨fun z=>z.symm,fun z=>z.symm⟩
 let live:=(List.range (mask+1)).filterMap g
 have mem:∀ p,p∈live↔ow[p.1]? = some (some p.2):=fun p=>by
  rw[List.mem_filterMap]
  constructor
  ·rintro⟨j,_,h⟩;obtain⟨rfl,h'⟩:=(gd j p).mp h;exact h'
  ·intro h
   have:p.1 < mask+1:=by rw[← T.sz];exact(Array.getElem?_eq_some_iff.mp h).1
   exact⟨p.1,List.mem_range.mpr this,(gd _ _).mpr ⟨rfl,h⟩⟩
 have pw:live.Pairwise (fun a b=>a.1 < b.1):=List.Pairwise.filterMap g (fun a a' h b hb b' hb'=>by
  rw[((gd _ _).mp hb).1,((gd _ _).mp hb').1];exact h) List.pairwise_lt_range
 have ri:∀ (i j:Nat) p q,i < j->live[i]? = some p->live[j]? = some q->p.1 < q.1:=fun i j p q hij ei ej=>by
  obtain⟨hi,rfl⟩:=List.getElem?_eq_some_iff.mp ei
  obtain⟨hj,rfl⟩:=List.getElem?_eq_some_iff.mp ej
  exact List.pairwise_iff_getElem.mp pw i j hi hj hij
 have nd:(live.map (·.2)).Nodup:=by
  rw[List.nodup_iff_pairwise_ne,List.pairwise_map]
  refine List.Pairwise.imp_of_mem (fun{a b} ha hb hab e=>?_) pw
  have h1:=(mem a).mp ha
  have h2:=(mem b).mp hb
  rw[← e]at h2
  have:=T.one _ _ _ h1 h2
  omega
 have hlen:hashes.toList.length=hashes.size:=Array.length_toList
 have perm:(live.map (·.2)).Perm (List.range hashes.size):=(List.perm_ext_iff_of_nodup nd List.nodup_range).mpr fun a=>by
  rw[List.mem_map,List.mem_range]
  constructor
  ·rintro⟨p,hp,rfl⟩;rw[← hlen];exact T.bd _ _ ((mem p).mp hp)
  ·intro ha
   obtain⟨m,h1,_⟩:=T.rea a hashes.toList[a] (List.getElem?_eq_getElem (by omega))
   exact⟨((wk mask hashes.toList[a] m).j,a),(mem _).mpr h1,rfl⟩
 have ll:live.length=hashes.size:=by have:=perm.length_eq;simpa using this
 have hfm:(live.map (·.2)).filterMap (hashes[·]?)=live.map fun p=>hashes.toList.getD p.2 0:=by
  have key:∀ l:List (Nat×Nat),(∀ p∈l,p.2 < hashes.toList.length)->(l.map (·.2)).filterMap (hashes[·]?)=l.map fun p=>hashes.toList.getD p.2 0:=by
   intro l
   induction l with
   | nil=>intro _;rfl
   | cons p r ih=>
     intro hb
     have h1:=hb p List.mem_cons_self
     have e1:hashes[p.2]? = some (hashes.toList.getD p.2 0):=by
      rw[← Array.getElem?_toList,List.getD_eq_getElem?_getD,List.getElem?_eq_getElem h1];rfl
     rw[List.map_cons,List.filterMap_cons,e1,List.map_cons,ih fun q hq=>hb q (List.mem_cons_of_mem _ hq)]
  exact key live fun p hp=>T.bd _ _ ((mem p).mp hp)
 refine⟨⟨mask,(live.map (·.1)).toArray,#[],finger,led,moves,plain⟩,(live.map (·.2)).toArray,?_,?_,perm,rfl,by simpa using ll,rfl,rfl⟩
 ·unfold laid
  rw[el];rfl
 ·have pl:∀ (i j:Nat),(live.map (·.1)).toArray[i]? = some j↔∃ p,live[i]? = some p/\p.1=j:=fun i j=>by
   rw[List.getElem?_toArray,List.getElem?_map];exact Option.map_eq_some_iff
  have occ:∀ c,Occ (⟨mask,(live.map (·.1)).toArray,#[],finger,led,moves,plain⟩:SetTable) c↔aT0 ow c:=fun c=>by
   constructor
   ·rintro⟨i,h⟩
    obtain⟨p,e1,rfl⟩:=(pl i c).mp h
    exact⟨p.2,(mem p).mp (List.mem_of_getElem? e1)⟩
   ·rintro⟨k',h⟩
    obtain⟨i,hi,e1⟩:=List.getElem_of_mem ((mem (c,k')).mpr h)
    exact⟨i,(pl i c).mpr ⟨(c,k'),by rw[List.getElem?_eq_getElem hi,e1],rfl⟩⟩
  refine⟨⟨k,hk⟩,h7,rfl,?_,?_,?_,?_,?_⟩
  ·intro i j a b hij ea eb
   obtain⟨p,e1,rfl⟩:=(pl i a).mp ea
   obtain⟨q,e2,rfl⟩:=(pl j b).mp eb
   exact ri i j p q hij e1 e2
  ·intro i j e'
   obtain⟨p,e1,rfl⟩:=(pl i j).mp e'
   have h1:=(mem p).mp (List.mem_of_getElem? e1)
   have h2:=(Array.getElem?_eq_some_iff.mp h1).1
   rw[T.sz]at h2
   exact Nat.le_of_lt_succ h2
  ·show(live.map (·.1)).toArray.size=((live.map (·.2)).toArray.toList.filterMap (hashes[·]?)).length
   rw[show(live.map (·.2)).toArray.toList=live.map (·.2)from rfl,hfm];simp
  ·show(live.map (·.1)).toArray.size<=mask
   simp[ll];omega
  ·intro i h' e'
   rw[show(live.map (·.2)).toArray.toList=live.map (·.2)from rfl,hfm,List.getElem?_map]at e'
   obtain⟨p,e1,e2⟩:=Option.map_eq_some_iff.mp e'
   have hp:=(mem p).mp (List.mem_of_getElem? e1)
   have hb:=T.bd _ _ hp
   have e3:hashes.toList[p.2]? = some h':=by
    rw[← e2,List.getD_eq_getElem?_getD,List.getElem?_eq_getElem hb];rfl
   obtain⟨m,a1,a2⟩:=T.rea p.2 h' e3
   have:=T.one _ _ _ a1 hp
   exact⟨m,p.1,(pl i p.1).mpr ⟨p,e1,rfl⟩,this,fun m' hm'=>(occ _).mpr (a2 m' hm')⟩
end Sx
namespace Dv
open PySem L2 Mr
open Classical in
noncomputable def yY:FN:=fun ds=>match ds with
 | [.int n]=>if 0<=n/\n<=1000 then some (.own (.lst (oC 0 n.toNat)))else none
 | _=>none
theorem bP6{H:Hp}(n:Nat):Rps H (oC 0 n) ((List.range n).map fun(i:Nat)=>V.int (i:Int)):=by
 refine bX3 (by unfold oC;rw[List.length_map,List.length_map]) fun j d x e1 e2=>?_
 unfold oC at e1
 rw[List.getElem?_map]at e1 e2
 obtain⟨k,ek,rfl⟩:=Option.map_eq_some_iff.mp e1
 rw[ek]at e2
 cases e2
 rw[Int.zero_add]
 exact .int _
theorem aN9:bJ6 aB6 yY:=by
 intro H ds vs Q res vw e k
 unfold yY at e
 split at e
 ·rename_i n
  split at e
  ·rename_i hn
   cases e
   cases vw with
   | cons a t=>
     cases t
     rcases a with a | ⟨p,_,ow⟩
     ·cases a
      exact⟨n,rfl,hn.1,hn.2,fun r hr=>k _ _ (bH hr) ⟨r,rfl,hr,_,aR,bP6 _⟩⟩
     ·exact ow.elim
  ·cases e
 ·cases e
theorem uN{n:Int}{K:Res->Prop}:OK1 (yY [.int n]) K=((0<=n/\n<=1000)/\K (.own (.lst (oC 0 n.toNat)))):=by
 show OK1 (if _ then _ else none) K=_
 rw[bO];rfl
section
variable{Γ:Gm}{H H1:Hp}{σ σ1:Sg}{σV:St}{p:Addr}{o o':HO}
end
theorem aO{X:Cx}{E:Ex}{i:Nat}{x:Str}{e:Expr}{r:DE}{pos pos':Pos}(hN:X.N.Nodup)(hi:X.N[i]? = some x)(hx:Loc X.env.scope x)(he:GE X e r)(hs:swapsWith e (some (.Name x pos')) pos.line X.env=pure false:=by rfl)(hf:X.fn x=true\/X.env.scope.names.lookup x=some .local:=by first | exact .inl rfl | exact .inr rfl | assumption) :
  GS E X (.Assign [.Name x pos'] e pos) (bV i r):=cT3 fun Γ=>vF hN hi hx (he.to Γ) hs hf
theorem aO0{z:Str}{i:Int}{K:Res->Prop}:OK1 (ixD (.str z) (.int i)) K=(z.length<=sizeLine/\OK1 (atI z.cps.toList i) fun c=>K (.val (.str ⟨#[c]⟩))):=by
 show OK1 (if _ then _ else none) K=_
 rw[bO,wF]
theorem pZ{z:Str}{K:Res->Prop}(h:z.length<=sizeLine):OK1 (jT [.str z]) K=K (.val (.int z.length)):=by
 show OK1 (if _ then _ else none) K=_
 rw[bO]
 exact propext ⟨fun h=>h.2,fun k=>⟨h,k⟩⟩
def fo(x:Option (Bool×D)):Option Sl:=x.map fun p=>⟨if p.1=true then .own else .val,p.2⟩
theorem aO1{x:Option (Bool×D)}{r:Sg}{s:Sl}{K:Sg->Prop}:PK 0 (fo x::r) s K=K (some s::r):=by
 cases x with
 | none=>rfl
 | some p=>
   obtain⟨b,d⟩:=p
   cases b<;>rfl
@[irreducible] noncomputable def yZ(ow:List Nat)(g:DG)(t:DT)(e:DE)(items:List D)(τ:Sg):=yK ow g t e items τ
@[irreducible] noncomputable def cG3(g:DG)(b:DS)(items:List D)(σ:Sg):=bA7 g b items σ
@[irreducible] noncomputable def aO2(c:DT)(b:DS)(σ:Sg):=mX c b cL4 σ
section
variable{σ:Sg}{QS:Out->Prop}{Q:Res->Sg->Prop}{ri:DI}{g:DG}{b:DS}{a:DE}{ra:DA}
theorem qA:RS (qO ri g b) σ QS=RI ri σ fun items l σ1=>OK1 (cG3 g b items (lendO l σ1)) fun o=>QS (rP l σ1 o):=by
 unfold cG3;exact cV5
theorem lR{c:DT}:RS (aC2 c b) σ QS=OK1 (aO2 c b σ) QS:=by unfold aO2;rfl
theorem oM{ow:List Nat}{t:DT}{e:DE}:RE (eC ow ri g t e) σ Q=RI ri σ fun items l σ1=>items.length<=sizeLine/\OK1 (yZ ow g t e items (bT ow (lendO l σ1))) fun y=>Q (.own (.lst y.1)) (rO l σ1 (kP ow (lendO l σ1) y.2)):=by
 unfold yZ;exact cF2
theorem kS{items:List D}(P:Nat->Sg->Prop)(h0:P 0 σ)(hs:∀ i d σ,items[i]? = some d->P i σ->OK1 (g d σ) fun σ1=>RS b σ1 fun o=>∃ σ2,(o=.nx σ2\/o=.ct σ2)/\P (i+1) σ2){K:Out->Prop}(k:∀ σ',P items.length σ'->K (.nx σ')):OK1 (cG3 g b items σ) K:=by
 unfold cG3;exact cF0 P h0 hs k
theorem zA{items:List D}(P:Nat->Sg->Prop){K:Out->Prop}(h0:P 0 σ)(hs:∀ i d σ,items[i]? = some d->P i σ->OK1 (g d σ) fun σ1=>RS b σ1 fun o=>(∃ σ2,(o=.nx σ2\/o=.ct σ2)/\P (i+1) σ2)\/(∃ x σ2,o=.rt x σ2/\K (.rt x σ2))\/(∃ σ2,o=.bk σ2/\K (.nx σ2)))(k:∀ σ',P items.length σ'->K (.nx σ')):OK1 (cG3 g b items σ) K:=by
 unfold cG3;exact cF1 P h0 hs k
theorem aT1{c:DT}(P:Nat->Sg->Prop)(m:Nat)(hm:m < 1000000)(h0:P m σ)(hs:∀ m σ,P m σ->RT c σ fun t σ1=>if t=true then RS b σ1 fun o=>(∃ σ2 m',(o=.nx σ2\/o=.ct σ2)/\m' < m/\P m' σ2)\/(∃ x σ2,o=.rt x σ2/\QS (.rt x σ2))\/(∃ σ2,o=.bk σ2/\QS (.nx σ2))else QS (.nx σ1)):OK1 (aO2 c b σ) QS:=by
 unfold aO2;exact bC5 P m hm h0 hs
theorem fB{ow:List Nat}{t:DT}{e:DE}{K:List D×Sg->Prop}(items:List D)(τ:Sg)(P:Nat->List D->Sg->Prop)(h0:P 0 [] τ)
  (hs:∀ i d acc τ,items[i]? = some d->P i acc τ->OK1 (g d τ) fun τ1=>RT t τ1 fun b τ2=>if b=true then RE e τ2 fun r τ3=>∃ v,r=.val v/\P (i+1) (acc++[v]) (bT ow τ3)else P (i+1) acc (bT ow τ2))
  (k:∀ acc τ,P items.length acc τ->K (acc,τ)):OK1 (yZ ow g t e items τ) K:=by
 unfold yZ;exact pG items τ P h0 hs k
end
end Dv
namespace PySem
structure Fill(prog:Program)(w:World)(A:Around)(S I:Addr)(n:Nat)(P:Nat->Value->Prop)(J:Nat->Heap->Prop):Prop where
 put:∀ i v (s:Shared) (Q:Bool->Shared->Prop) (E:Value->Shared->Prop),i < n->P i v->J i s.heap ->
  (∀ b h' tk,J (i+1) h'->(∀ c o,c≠S->s.heap.get? c=some o->h'.get? c=some o)->Q b {s with heap:=h',toks:=tk})->wpAny (model prog w) A (setAdd S v) Q E s
 stay:∀ i h h',J i h->(∀ c o,c≠I->h.get? c=some o->h'.get? c=some o)->J i h'
section
variable{prog:Program}{w:World}{A:Around}{E:Value->Shared->Prop}{R:Result->Shared->Prop}{S I:Addr}{fp:List Addr}{n:Nat}{P:Nat->Value->Prop}{St J:Nat->Heap->Prop}
theorem wU(W:Walks prog w A.in1 I fp [I] n P St)(F:Fill prog w A.in1 S I n P J)(hS:S∉fp) :
  ∀ (k i:Nat) (s:Shared),i+k=n->St i s.heap->J i s.heap ->
    (∀ h' tk,J n h'->(∀ c o,c≠S->c≠I->s.heap.get? c=some o->h'.get? c=some o)->R (.ok (.ret .none)) {s with heap:=h',toks:=tk}) ->
    codeAny (model prog w) A (.builtin "set.update.loop" ⟨[.ref S,.ref I],[]⟩) R s
 | 0,i,s,hk,st,j,q=>by
   have hi:i=n:=hk
   subst hi
   refine codeAny_builtin PyProof.Rows.F.entry_set_update_loop ?_
   rw[Around.under_plainId PyProof.Rows.F.plain_set_update_loop _]
   (show wpAny _ A.in1 (pyNext (.ref I) >>= _) _ _ s;refine wpAny_bind (W.done s _ _ st fun h' tk hk'=>?_))
   have k':∀ c o,c≠I->s.heap.get? c=some o->h'.get? c=some o:=fun c o hc e=>hk' c o (by simpa using hc) e
   exact wpAny_pure (q h' tk (F.stay _ _ _ j k') fun c o _ hc e=>k' c o hc e)
 | k+1,i,s,hk,st,j,q=>by
   have hi:i < n:=by omega
   refine codeAny_builtin PyProof.Rows.F.entry_set_update_loop ?_
   rw[Around.under_plainId PyProof.Rows.F.plain_set_update_loop _]
   (show wpAny _ A.in1 (pyNext (.ref I) >>= _) _ _ s;refine wpAny_bind (W.item i s _ _ hi st fun v h1 tk1 hv st1 hk1=>?_))
   have k1:∀ c o,c≠I->s.heap.get? c=some o->h1.get? c=some o:=fun c o hc e=>hk1 c o (by simpa using hc) e
   (show wpAny _ A.in1 (holding [v] (setAdd S v) >>= _) _ _ _;refine wpAny_bind (wpAny_holding ?_))
   refine F.put i v _ _ _ hi hv (F.stay _ _ _ j k1) fun b h2 tk2 j2 k2=>?_
   refine wpAny_pure ⟨plainId_quiet PyProof.Rows.F.plain_set_update_loop _,?_⟩
   have st2:St (i+1) h2:=W.frame _ _ _ st1 fun c hc o e=>k2 c o (fun z=>hS (z ▸ hc)) e
   exact wU W F hS k (i+1) _ (by omega) st2 j2 fun h' tk jn kn=>q h' tk jn fun c o c1 c2 e=>kn c o c1 c2 (k2 c o c1 (k1 c o c2 e))
theorem cG4{T newId initId:String}{args:List Value}{Q Q₁:Value->Shared->Prop}{s:Shared}(ft:TypeCalled T newId initId)(hct:checkTypeCall T ⟨args,[]⟩=pure ())
  (hnew:codeAny (model prog w) A.in1 (.call (.builtin newId) ⟨.type T::args,[]⟩) (wants Q₁ E) s)
  (hini:∀ obj s₁,Q₁ obj s₁->s₁.TypeIs obj T/\codeAny (model prog w) A.in1 (.call (.builtin initId) ⟨obj::args,[]⟩) (wants (fun r s₂=>r=.none/\Q obj s₂) E) s₁) :
  wpAny (model prog w) A (call (.type T) args) Q E s:=by
 obtain⟨n1,n2,⟨c,tl,n3⟩,n4,n5,n6,n7⟩:=ft
 have hl:=n7.lookup
 refine wpAny_call (codeAny_of_tree (wpAny_pure ⟨Code.quiet_builtin _ (by decide +kernel),codeAny_builtin F.entry_type_call ?_⟩))
 rw[Around.under_plain (weight_type_call_type T args []) rfl]
 repeat (any_goals (first | assumption | wp_step))
 refine codeAny_mono hnew fun r s1 hr=>?_
 match r,hr with
 | .error e,hr=>exact hr
 | .ok (.ret obj),hr=>
   obtain⟨hT,hi⟩:=hini obj s1 hr
   have hb:=n7.bind obj
   repeat (any_goals (first | assumption | wp_step))
   refine codeAny_mono hi fun r s2 hr=>?_
   match r,hr with
   | .error e,hr=>exact hr
   | .ok (.ret x),⟨hx,hq⟩=>
     subst hx
     repeat (any_goals (first | assumption | wp_step))
end
abbrev aT2(es:Array (Int×Value))(ep:Nat)(t:SetTable):Obj:={cls:=.type "set",dict:=none,data:=.set es ep t}
def fR(w:World):Bool:=!w.params.followText "set-order"
section
variable{prog:Program}{w:World}{A:Around}{E:Value->Shared->Prop}{s:Shared}
theorem cG5(a:Value){Q:Value->Shared->Prop}(h:Q (.ref s.heap.objs.size) {s with heap:=s.heap.push (aT2 #[] 0 (.fresh 0 0 (fR w)))}) :
  codeAny (model prog w) A (.call (.builtin "set.__new__") ⟨[.type "set",a],[]⟩) (wants Q E) s:=by
 refine codeAny_call_builtin F.plain_set_new F.entry_set_new (wpAny_of_eq (F.newCall_set_1 a) ?_)
 have hsub:=sub_set_self
 unfold Builtin.«set.__new__» Builtin.Frozenset.newClass
 obtain⟨hp,g,d,tk,os⟩:=s
 wp_walk
 refine wpAny_askSetting (wpAny_pure ?_)
 simp only[newObj]
 exact wpAny_bind (wpAny_alloc (wpAny_pure (wpAny_pure h)))
end
section
variable{prog:Program}{w:World}{A:Around}{E:Value->Shared->Prop}{n:Nat}{P:Nat->Value->Prop}{St J:Nat->Heap->Prop}
structure Src(prog:Program)(w:World)(A:Around)(h₀:Heap)(l:Addr)(n:Nat)(P:Nat->Value->Prop) where
 T:String
 St:Addr->Nat->Heap->Prop
 ob:Obj
 ty:∃ o,h₀.get? l=some o/\o.cls=.type T
 n1:isSubtype (.type T) (.type "set")=pure false
 n2:isSubtype (.type T) (.type "frozenset")=pure false
 n3:(Value.type T==Value.type "dict")=false
 iter:∀ (A:Around) (s:Shared) (Q:Value->Shared->Prop) (E:Value->Shared->Prop),(∀ b o,h₀.get? b=some o->s.heap.get? b=some o)->Q (.ref s.heap.objs.size) {s with heap:=s.heap.push ob}->wpAny (model prog w) A (pyIter (.ref l)) Q E s
 free:ob.isFreed=false
 walk:∀ (A':Around),A'.handled=A.handled->∀ I,l≠I->Walks prog w A' I [I,l] [I] n P (St I)
 iF:∀ h:Heap,(∀ b o,h₀.get? b=some o->h.get? b=some o)->St h.objs.size 0 (h.push ob)
theorem bP7{s:Shared}{l:Addr}{Q:Value->Shared->Prop}(c:Src prog w A s.heap l n P)
  (L:∀ A':Around,A'.handled=A.handled->A'.units<=A.units+8->Fill prog w A' s.heap.objs.size (s.heap.objs.size+1) n P J)
  (j0:∀ (h':Heap),h'.get? s.heap.objs.size=some (aT2 #[] 0 (.fresh 0 0 (fR w)))->(∀ b o,s.heap.get? b=some o->h'.get? b=some o)->J 0 h')
  (q:∀ h' tk,J n h'->(∀ b o,s.heap.get? b=some o->h'.get? b=some o)->Q (.ref s.heap.objs.size) {s with heap:=h',toks:=tk}) :
  wpAny (model prog w) A (call (.type "set") [.ref l]) Q E s:=by
 obtain⟨T,St,ob,⟨⟨ocls,odict,odata,oslots⟩,hol,hcl⟩,n1,n2,n3,iter,free,walk,iF⟩:=c
 simp only at hcl
 subst hcl
 have hlt:l < s.heap.objs.size:=Heap.lt_size hol
 refine cG4 (Q₁:=fun obj s₁=>obj=.ref s.heap.objs.size/\s₁={s with heap:=s.heap.push (aT2 #[] 0 (.fresh 0 0 (fR w)))}) F.called_set (F.typeCall_set_1 _) (cG5 _ ⟨rfl,rfl⟩) fun obj s₁ ⟨e1,e2⟩=>?_
 subst e1 e2
 have hS:(s.heap.push (aT2 #[] 0 (.fresh 0 0 (fR w)))).get? s.heap.objs.size=some (aT2 #[] 0 (.fresh 0 0 (fR w))):=Heap.get?_push_size _ rfl
 have old:∀ b o,s.heap.get? b=some o->(s.heap.push (aT2 #[] 0 (.fresh 0 0 (fR w)))).get? b=some o:=fun b o e=>Heap.get?_push_of_some _ e
 have hT:Shared.TypeIs {s with heap:=s.heap.push (aT2 #[] 0 (.fresh 0 0 (fR w)))} (.ref s.heap.objs.size) "set":=⟨_,hS,rfl⟩
 have hTl:Shared.TypeIs {s with heap:=s.heap.push (aT2 #[] 0 (.fresh 0 0 (fR w)))} (.ref l) T:=⟨_,old l _ hol,rfl⟩
 refine⟨hT,codeAny_call_builtin F.called_set.init.plain F.entry_set_init (check_set_init_1 hT ?_)⟩
 have hl2:=old l _ hol
 unfold Builtin.«set.__init__» noKeywords Builtin.Frozenset.updateFrom
 generalize hPI:pyIter=PI
 wp_walk
 subst hPI
 refine iter _ _ _ _ old ?_
 refine wpAny_bind (wpAny_runValue ?_)
 have hz:(s.heap.push (aT2 #[] 0 (.fresh 0 0 (fR w)))).objs.size=s.heap.objs.size+1:=Heap.size_push ..
 have ne:l≠s.heap.objs.size+1:=fun z=>absurd hlt (by rw[z];exact Nat.not_lt.mpr (Nat.le_succ _))
 have st0:=iF _ old
 rw[hz]at st0
 have hS2:((s.heap.push (aT2 #[] 0 (.fresh 0 0 (fR w)))).push ob).get? s.heap.objs.size=some (aT2 #[] 0 (.fresh 0 0 (fR w))):=Heap.get?_push_of_some _ hS
 have old2:∀ b o,s.heap.get? b=some o->((s.heap.push (aT2 #[] 0 (.fresh 0 0 (fR w)))).push ob).get? b=some o:=fun b o e=>Heap.get?_push_of_some _ (old b o e)
 show codeAny (model prog w) A.in1.in1 (.builtin "set.update.loop" ⟨[.ref s.heap.objs.size,.ref (s.heap.push (aT2 #[] 0 (.fresh 0 0 (fR w)))).objs.size],[]⟩) _ _
 rw[hz]
 refine wU (walk A.in1.in1.in1 rfl (s.heap.objs.size+1) ne) (L A.in1.in1.in1 rfl (by show A.units+1+1+1<=A.units+8;omega)) ?_ n 0 _ (Nat.zero_add n) st0 (j0 _ hS2 old2) fun h' tk jn kn=>?_
 ·simp only[List.mem_cons,List.not_mem_nil,or_false,not_or]
  exact⟨Nat.ne_of_lt (Nat.lt_succ_self _),Nat.ne_of_gt hlt⟩
 ·refine wpAny_pure (wpAny_pure ⟨rfl,q h' tk jn fun b o e=>?_⟩)
  have hb:=Heap.lt_size e
  exact kn b o (Nat.ne_of_lt hb) (Nat.ne_of_lt (Nat.lt_succ_of_lt hb)) (old2 b o e)
def Src.list{s:Shared}(hh:A.handled=none){l:Addr}{items:Array Value}(hl:s.heap.IsList l items):Src prog w A s.heap l items.size (fun i v=>items[i]? = some v) where
 T:="list"
 St:=fun I i h=>h.IsListIter I l i/\h.IsList l items
 ob:={cls:=.type "list_iterator",data:=.fields #[.ref l,.int 0 0]}
 ty:=by obtain⟨o,ho,hc,_⟩:=hl;exact⟨o,ho,hc⟩
 n1:=F.sub_list_set
 n2:=F.sub_list_frozenset
 n3:=by decide
 iter:=fun A' s' Q E hk hq=>wpAny_pyIter_list (hl.at fun o e=>hk l o e) hq
 free:=rfl
 walk:=fun A' ha I hne=>Walks.list (ha.trans hh) I l hne items
 iF:=fun h hk=>⟨⟨_,Heap.get?_push_size _ rfl,rfl,rfl⟩,(hl.at fun o e=>hk l o e).push _⟩
theorem zB:isSubtype (.type "tuple") (.type "set")=pure false:=by rw[isSubtype_type];kernel_rfl
theorem qV:isSubtype (.type "tuple") (.type "frozenset")=pure false:=by rw[isSubtype_type];kernel_rfl
def Src.tup{s:Shared}(hh:A.handled=none){l:Addr}{items:Array Value}(hl:s.heap.IsTuple l items):Src prog w A s.heap l items.size (fun i v=>items[i]? = some v) where
 T:="tuple"
 St:=fun I i h=>h.IsTupleIter I l i/\h.IsTuple l items
 ob:={cls:=.type "tuple_iterator",data:=.fields #[.ref l,.int 0 0]}
 ty:=by obtain⟨o,ho,hc,_⟩:=hl;exact⟨o,ho,hc⟩
 n1:=zB
 n2:=qV
 n3:=by decide
 iter:=fun A' s' Q E hk hq=>wpAny_pyIter_tuple (hl.at fun o e=>hk l o e) hq
 free:=rfl
 walk:=fun A' ha I hne=>Walks.tuple (ha.trans hh) I l hne items
 iF:=fun h hk=>⟨⟨_,Heap.get?_push_size _ rfl,rfl,rfl⟩,(hl.at fun o e=>Heap.get?_push_of_some _ (hk l o e))⟩
end
end PySem
namespace Sx
open PySem PySem.SetTable
section
variable{t:SetTable}{hs:List Int}
theorem TOk.stop2(T:TOk t hs)(h:Int):∃ M,M<=10*(13+t.place.size)/\¬ Occ t (wk t.mask h M).j/\∀ m,m < M->Occ t (wk t.mask h m).j:=by
 obtain⟨k,hk⟩:=T.pw
 have hf:=T.fit
 have ex:∃ n,n<=t.place.size/\¬ Occ t (wk t.mask h (tm t.mask h (13+n))).j:=by
  refine Classical.byContradiction fun hn=>?_
  have hall:∀ n,n<=t.place.size->Occ t (stp k n (lp t.mask h 13).1):=fun n hn'=>Classical.byContradiction fun z=>hn ⟨n,hn',by
   rw[yW,bD8 hk h n];exact z⟩
  let f:Nat->Nat:=fun n=>below t.place (stp k n (lp t.mask h 13).1)
  have fb:∀ n,n<=t.place.size->f n < t.place.size/\t.place[f n]? = some (stp k n (lp t.mask h 13).1):=fun n hn'=>by
   obtain⟨i,e⟩:=hall n hn'
   have:f n=i:=gL T.ri e
   rw[this]
   exact⟨(Array.getElem?_eq_some_iff.mp e).1,e⟩
  have fi:∀ a b,a < b->b<=t.place.size->f a≠f b:=fun a b hab hb e=>by
   have h1:=(fb a (by omega)).2
   rw[e,(fb b hb).2]at h1
   exact bD5 hab (by omega:b < 2 ^ k) (Option.some.inj h1).symm
  obtain⟨i,hi,e⟩:=uL t.place.size f (fun i h=>(fb i (by omega)).1) (fun a b hab hb=>fi a b hab (by omega)) (f t.place.size) (fb t.place.size (Nat.le_refl _)).1
  exact fi i t.place.size hi (Nat.le_refl _) e
 obtain⟨n,hn,hno⟩:=ex
 have key:∀ N,(∃ m,m < N/\¬ Occ t (wk t.mask h m).j)->∃ M,M < N/\¬ Occ t (wk t.mask h M).j/\∀ m,m < M->Occ t (wk t.mask h m).j:=by
  intro N
  induction N with
  | zero=>rintro⟨m,h,_⟩;exact absurd h (Nat.not_lt_zero _)
  | succ N ih=>
    rintro⟨m,h1,h2⟩
    by_cases hb:∃ m,m < N/\¬ Occ t (wk t.mask h m).j
    ·obtain⟨M,a,b,c⟩:=ih hb
     exact⟨M,by omega,b,c⟩
    ·exact⟨m,h1,h2,fun m' hm'=>Classical.byContradiction fun z=>hb ⟨m',by omega,z⟩⟩
 obtain⟨M,a,b,c⟩:=key (tm t.mask h (13+n)+1) ⟨_,Nat.lt_succ_self _,hno⟩
 have:=dF2 t.mask h (13+n)
 exact⟨M,by omega,b,c⟩
end
end Sx
namespace PySem
open Sx
section
variable{prog:Program}{w:World}{A:Around}{E:Value->Shared->Prop}{s:Shared}
abbrev nV(prog:Program)(w:World)(h:Heap)(k:List Int)(a:Addr):Prop:=IsTupleKey (intKind prog w) h k a
theorem nV.at{h h':Heap}{k:List Int}{a:Addr}(x:nV prog w h k a)(e:∀ o,h.get? a=some o->h'.get? a=some o):nV prog w h' k a:=by
 obtain⟨o,items,n,ho,r⟩:=x
 exact⟨o,items,n,e o ho,r⟩
theorem jV:∀ {k:List Int} {vs:List Value},ItemsAre (intKind prog w) k vs->∀ v∈vs,∃ i t,v=.int i t
 | _,_,.nil,v,hv=>by simp at hv
 | _,_,.cons h1 r,v,hv=>by
   rcases List.mem_cons.mp hv with rfl | hv
   ·obtain⟨t,e⟩:=Value.isInt_shape h1
    exact⟨_,t,e⟩
   ·exact jV r v hv
theorem cG6{k:List Int}{a:Addr}{Q:Bool->Shared->Prop}(hk:nV prog w s.heap k a)(h:Q true s):wpAny (model prog w) A (hashByValue 8 (.ref a)) Q E s:=by
 have hT:=hk.typeIs
 obtain⟨o,items,n,ho,_,hd,hi⟩:=hk
 unfold hashByValue
 refine wpAny_bind (wpAny_specialOf hT F.slot_tuple_hash.lookup ?_)
 dsimp only
 refine wpAny_bind (wpAny_seqItems ho hd ?_)
 dsimp only[Option.getD_some]
 refine wpAny_bind ?_
 rw[← Array.forIn_toList]
 refine wpAny_forIn_list _ (fun gF r s'=>r.1=none/\s'=s/\∀ v∈gF,∃ i t,v=.int i t) _ ?_ ?_ _ _ ⟨rfl,rfl,jV hi⟩
 ·rintro v gF r s' ⟨hr,rfl,hall⟩
  obtain⟨i,t,rfl⟩:=hall v List.mem_cons_self
  have e:hashByValue 7 (.int i t)=pure true:=by unfold hashByValue;rfl
  rw[e]
  refine wpAny_bind (wpAny_pure ?_)
  simp only[Bool.not_true,Bool.false_eq_true,if_false]
  exact wpAny_pure ⟨rfl,rfl,fun u hu=>hall u (List.mem_cons_of_mem _ hu)⟩
 ·rintro⟨r1,r2⟩ s' ⟨hr,rfl,_⟩
  simp only at hr
  subst hr
  exact wpAny_pure h
theorem bE2{k:List Int}{a:Addr}{Q:Bool->Shared->Prop}(hk:nV prog w s.heap k a)(h:Q false s):wpAny (model prog w) A (ofAClassStatement 8 (.ref a)) Q E s:=by
 have hT:=hk.typeIs
 obtain⟨o,items,n,ho,_,hd,hi⟩:=hk
 unfold ofAClassStatement
 refine wpAny_bind (wpAny_typeOf hT ?_)
 dsimp only
 rw[if_pos (by decide)]
 refine wpAny_bind (wpAny_pure ?_)
 simp only[Bool.not_true,Bool.false_eq_true,if_false]
 refine wpAny_bind (wpAny_seqItems ho hd ?_)
 dsimp only
 refine wpAny_bind ?_
 rw[← Array.forIn_toList]
 refine wpAny_forIn_list _ (fun gF r s'=>r.1=none/\s'=s/\∀ v∈gF,∃ i t,v=.int i t) _ ?_ ?_ _ _ ⟨rfl,rfl,jV hi⟩
 ·rintro v gF r s' ⟨hr,rfl,hall⟩
  obtain⟨i,t,rfl⟩:=hall v List.mem_cons_self
  have e:ofAClassStatement 7 (.int i t)=pure false:=by unfold ofAClassStatement;rfl
  rw[e]
  refine wpAny_bind (wpAny_pure ?_)
  simp only[Bool.false_eq_true,if_false]
  exact wpAny_pure ⟨rfl,rfl,fun u hu=>hall u (List.mem_cons_of_mem _ hu)⟩
 ·rintro⟨r1,r2⟩ s' ⟨hr,rfl,_⟩
  simp only at hr
  subst hr
  exact wpAny_pure h
theorem bP8{k:List Int}{a:Addr}{Q:Bool->Shared->Prop}(hk:nV prog w s.heap k a)(l:List Value)(hl:∀ v∈l,∃ k' b,v=.ref b/\nV prog w s.heap k' b)(h:Q false s):wpAny (model prog w) A (searchCouldBeSeen (.ref a) l) Q E s:=by
 unfold searchCouldBeSeen
 refine wpAny_bind ?_
 refine wpAny_forIn_list _ (fun gF r s'=>r.1=none/\s'=s/\∀ v∈gF,∃ k' b,v=.ref b/\nV prog w s.heap k' b) _ ?_ ?_ _ _ ⟨rfl,rfl,hl⟩
 ·rintro v gF r s' ⟨hr,rfl,hall⟩
  obtain⟨k',b,rfl,hb⟩:=hall v List.mem_cons_self
  have go:∀ u∈gF,∃ k' b,u=Value.ref b/\nV prog w s'.heap k' b:=fun u hu=>hall u (List.mem_cons_of_mem _ hu)
  dsimp only
  split
  ·exact wpAny_pure ⟨rfl,rfl,go⟩
  ·refine wpAny_bind (wpAny_eqIsQuiet_tuple hk ?_)
   simp only[Bool.not_true,Bool.false_eq_true,if_false]
   refine wpAny_bind (wpAny_eqIsQuiet_tuple hb ?_)
   simp only[Bool.not_true,Bool.false_eq_true,if_false]
   refine wpAny_bind (bE2 hk ?_)
   simp only[Bool.false_eq_true,if_false]
   refine wpAny_bind (bE2 hb ?_)
   simp only[Bool.false_eq_true,if_false]
   exact wpAny_pure ⟨rfl,rfl,go⟩
 ·rintro⟨r1,r2⟩ s' ⟨hr,rfl,_⟩
  simp only at hr
  subst hr
  exact wpAny_pure h
end
structure lY(prog:Program)(w:World)(h:Heap)(S:Addr)(led:Bool)(N:Addr->Prop)(ks:List (List Int))(o:Obj)(es:Array (Int×Value))(ep:Nat)(t:SetTable):Prop where
 ob:h.get? S=some o
 ex:o.ExactSet
 dt:o.data=.set es ep t
 tk:TOk t (es.toList.map (·.1))
 ful:t.place.size*5 < t.mask*3
 ld:t.led=led
 pl:t.plain=true
 len:ks.length=es.size
 it:∀ (i:Nat) e,es[i]? = some e->∃ k a,ks[i]? = some k/\e=(tupleKeyHash (intKind prog w) k,.ref a)/\nV prog w h k a/\N a
 nd:ks.Nodup
section
variable{prog:Program}{w:World}{A:Around}{E:Value->Shared->Prop}{s:Shared}{S:Addr}{led:Bool}{N:Addr->Prop}{ks:List (List Int)}{o:Obj}{es:Array (Int×Value)}{ep:Nat}{t:SetTable}
theorem _root_.Sx.TOk.fits{hs:List Int}(T:TOk t hs){n:Nat}(hn:hs.length=n):t.fits n=true:=by
 have h1:=T.len
 have h2:=T.fit
 simp only[SetTable.fits,SetTable.fill,Bool.and_eq_true,beq_iff_eq,decide_eq_true_eq,T.dm]
 exact⟨by omega,by simpa using h2⟩
theorem lY.fits(X:lY prog w s.heap S led N ks o es ep t):t.fits es.size=true:=X.tk.fits (by simp)
theorem lY.state(X:lY prog w s.heap S led N ks o es ep t){Q:(Array (Int×Value)×Nat×SetTable)->Shared->Prop}(h:Q (es,ep,t) s):wpAny (model prog w) A (setState S) Q E s:=
 wpAny_setState_of X.ob X.dt X.fits h
theorem lY.even(X:lY prog w s.heap S led N ks o es ep t):t.gaveWay=false:=by
 obtain⟨k,hk⟩:=X.tk.pw
 have h7:=X.tk.m7
 unfold SetTable.gaveWay
 have:t.mask % 2=1:=by
  cases k with
  | zero=>omega
  | succ k=>rw[Nat.pow_succ]at hk;omega
 rw[this];rfl
theorem mP(X:lY prog w s.heap S led N ks o es ep t){k:List Int}{a:Addr}(hu:A.units < cLine)(hk:nV prog w s.heap k a){M:Nat}(hM:¬ Occ t (wk t.mask (tupleKeyHash (intKind prog w) k) M).j)(hb:∀ m,m < M->Occ t (wk t.mask (tupleKeyHash (intKind prog w) k) m).j)
  (hMB:M < 10*SetTable.turns t.mask) :
  ∀ (fuel n:Nat) (stand:Option SetTable.Probe) (Q:SetFound->Shared->Prop),stand.getD (t.probeStart (tupleKeyHash (intKind prog w) k))=wk t.mask (tupleKeyHash (intKind prog w) k) n->n<=M->M-n < fuel ->
    (∀ i:Nat,ks[i]? = some k->∃ m j,n<=m/\t.place[i]? = some j/\(wk t.mask (tupleKeyHash (intKind prog w) k) m).j=j/\m < M) ->
    (k∈ks->Q (.there none) s)->(k∉ks->Q (.free (wk t.mask (tupleKeyHash (intKind prog w) k) M).j false) s)->wpAny (model prog w) A (setSearchFrom S (.ref a) (tupleKeyHash (intKind prog w) k) true fuel stand) Q E s
 | 0,n,stand,Q,_,_,hf,_,_,_=>by omega
 | fuel+1,n,stand,Q,hst,hn,hf,hin,q1,q2=>by
   unfold setSearchFrom
   refine wpAny_bind (X.state ?_)
   dsimp only
   rw[X.even,if_neg Bool.false_ne_true,hst]
   have hg:=bE0 X.tk (h:=tupleKeyHash (intKind prog w) k) (hashAt:=fun i=>(es[i]?.map (·.1)).getD 0) hM hb (10*SetTable.turns t.mask) n hn (by omega)
   have hat:∀ (i:Nat) e,es[i]? = some e->((es[i]?.map (·.1)).getD 0)=e.1:=fun i e he=>by rw[he];rfl
   split
   ·rename_i met hmet
    rcases hg with⟨m,i,a1,a2,a3,a4,a5,a6⟩ | ⟨a1,a2⟩
    ·have e:met=.candidate (wk t.mask (tupleKeyHash (intKind prog w) k) m).j i (wk t.mask (tupleKeyHash (intKind prog w) k) (m+1)):=Option.some.inj (hmet.symm.trans a6)
     subst e
     dsimp only
     have hi:i < es.size:=by
      have h1:=(Array.getElem?_eq_some_iff.mp a3).1
      have h2:=X.tk.len
      simp at h2;omega
     have ei:es[i]? = some es[i]:=Array.getElem?_eq_getElem hi
     obtain⟨k',b,ek,ee,hb',_⟩:=X.it i _ ei
     have seen:∀ v∈((es.filter (fun x=>x.1==tupleKeyHash (intKind prog w) k)).toList.map (·.2)),∃ k' b,v=Value.ref b/\nV prog w s.heap k' b:=fun v hv=>by
      obtain⟨e,he,rfl⟩:=List.mem_map.mp hv
      have he':e∈es:=by
       rw[Array.mem_toList_iff]at he
       exact(Array.mem_filter.mp he).1
      obtain⟨j,hj,ej⟩:=Array.getElem_of_mem he'
      obtain⟨k2,b2,_,e2,h2,_⟩:=X.it j e (by rw[Array.getElem?_eq_getElem hj,ej])
      exact⟨k2,b2,by rw[e2],h2⟩
     by_cases hl:t.led=true
     ·rw[hl]
      simp only[Bool.not_true,Bool.false_eq_true,if_false]
      rw[ei,ee]
      dsimp only
      refine wpAny_bind (wpAny_holding (wpAny_eqBool_tuple hu hb' hk ?_))
      refine wpAny_bind (X.state ?_)
      dsimp only
      by_cases hkk:k'=k
      ·subst hkk
       rw[decide_eq_true rfl]
       simp only[Bool.and_self,if_true]
       exact wpAny_pure (q1 (List.mem_of_getElem? ek))
      ·rw[decide_eq_false hkk]
       simp only[Bool.and_false,Bool.false_eq_true,if_false]
       have hsm:t.sameMemory t.moves t.mask=some true:=by unfold SetTable.sameMemory;simp
       rw[hsm]
       dsimp only
       rw[if_pos rfl,pX X.tk.ri a3]
       dsimp only
       rw[ei,ee]
       dsimp only
       refine wpAny_bind (wpAny_isSame_ref_self ?_)
       simp only[if_true]
       refine wpAny_bind (wpAny_pure ?_)
       dsimp only
       refine mP X hu hk hM hb hMB fuel (m+1) (some _) Q rfl (by omega) (by omega) (fun i2 e2=>?_) q1 q2
       obtain⟨m2,j2,b1,b2,b3,b4⟩:=hin i2 e2
       refine⟨m2,j2,?_,b2,b3,b4⟩
       -- it lies behind the one that was met
       refine Nat.lt_of_not_le fun hle=>?_
       have hi2:i2 < es.size:=by rw[← X.len];exact(List.getElem?_eq_some_iff.mp e2).1
       have e3:es[i2]? = some es[i2]:=Array.getElem?_eq_getElem hi2
       obtain⟨k3,b5,e4,e5,_⟩:=X.it i2 _ e3
       rw[e2]at e4
       cases e4
       by_cases z:m2=m
       ·subst z
        have:i2=i:=by rw[← gL X.tk.ri b2,← gL X.tk.ri a3,b3]
        subst this
        rw[ek]at e2
        exact hkk (Option.some.inj e2)
       ·refine a5 m2 i2 b1 (by omega) (by rw[b2,b3]) ?_
        show(es[i2]?.map (·.1)).getD 0=_
        rw[hat i2 _ e3,e5]
     ·have hl':t.led=false:=by simpa using hl
      rw[hl']
      simp only[Bool.not_false,if_true]
      refine wpAny_bind (bP8 hk _ seen ?_)
      simp only[Bool.false_eq_true,if_false]
      rw[ei,ee]
      dsimp only
      refine wpAny_bind (wpAny_holding (wpAny_eqBool_tuple hu hb' hk ?_))
      refine wpAny_bind (X.state ?_)
      dsimp only
      by_cases hkk:k'=k
      ·subst hkk
       rw[decide_eq_true rfl]
       simp only[Bool.and_self,if_true]
       exact wpAny_pure (q1 (List.mem_of_getElem? ek))
      ·rw[decide_eq_false hkk]
       simp only[Bool.and_false,Bool.false_eq_true,if_false]
       have hsm:t.sameMemory t.moves t.mask=some true:=by unfold SetTable.sameMemory;simp
       rw[hsm]
       dsimp only
       rw[if_pos rfl,pX X.tk.ri a3]
       dsimp only
       rw[ei,ee]
       dsimp only
       refine wpAny_bind (wpAny_isSame_ref_self ?_)
       simp only[if_true]
       refine wpAny_bind (wpAny_pure ?_)
       dsimp only
       refine mP X hu hk hM hb hMB fuel (m+1) (some _) Q rfl (by omega) (by omega) (fun i2 e2=>?_) q1 q2
       obtain⟨m2,j2,b1,b2,b3,b4⟩:=hin i2 e2
       refine⟨m2,j2,?_,b2,b3,b4⟩
       -- it lies behind the one that was met
       refine Nat.lt_of_not_le fun hle=>?_
       have hi2:i2 < es.size:=by rw[← X.len];exact(List.getElem?_eq_some_iff.mp e2).1
       have e3:es[i2]? = some es[i2]:=Array.getElem?_eq_getElem hi2
       obtain⟨k3,b5,e4,e5,_⟩:=X.it i2 _ e3
       rw[e2]at e4
       cases e4
       by_cases z:m2=m
       ·subst z
        have:i2=i:=by rw[← gL X.tk.ri b2,← gL X.tk.ri a3,b3]
        subst this
        rw[ek]at e2
        exact hkk (Option.some.inj e2)
       ·refine a5 m2 i2 b1 (by omega) (by rw[b2,b3]) ?_
        show(es[i2]?.map (·.1)).getD 0=_
        rw[hat i2 _ e3,e5]
    ·have e:met=.empty (wk t.mask (tupleKeyHash (intKind prog w) k) M).j none:=Option.some.inj (hmet.symm.trans a2)
     subst e
     dsimp only
     refine wpAny_pure (q2 fun hm=>?_)
     obtain⟨i,hi,e⟩:=List.getElem_of_mem hm
     have ek:ks[i]? = some k:=by rw[List.getElem?_eq_getElem hi,e]
     obtain⟨m,j,b1,b2,b3,b4⟩:=hin i ek
     have hi':i < es.size:=by rw[← X.len];exact hi
     have e3:es[i]? = some es[i]:=Array.getElem?_eq_getElem hi'
     obtain⟨k3,b5,e4,e5,_⟩:=X.it i _ e3
     rw[ek]at e4
     cases e4
     refine a1 m i b1 b4 (by rw[b2,b3]) ?_
     show(es[i]?.map (·.1)).getD 0=_
     rw[hat i _ e3,e5]
   ·rename_i hno
    exfalso
    rcases hg with⟨m,i,_,_,_,_,_,a6⟩ | ⟨_,a2⟩
    ·exact hno _ a6
    ·exact hno _ a2
end
end PySem
namespace Sx
open PySem PySem.SetTable
theorem nK(n:Nat):∀ (fuel k:Nat),n < 2 ^ k*2 ^ fuel->3<=k->∃ k',sizeAbove.go n fuel (2 ^ k)=2 ^ k'/\k<=k'/\n < 2 ^ k'/\(2 ^ k'=2 ^ k\/2 ^ k'<=2*n)
 | 0,k,h,hk=>⟨k,rfl,Nat.le_refl _,by simpa using h,.inl rfl⟩
 | fuel+1,k,h,hk=>by
   unfold sizeAbove.go
   split
   ·rename_i hle
    have e:2 ^ k*2=2 ^ (k+1):=(Nat.pow_succ ..).symm
    rw[e]
    obtain⟨k',a,b,c,d⟩:=nK n fuel (k+1) (by rw[Nat.pow_succ,Nat.mul_assoc,Nat.mul_comm 2 (2 ^ fuel),← Nat.pow_succ];exact h) (by omega)
    refine⟨k',a,by omega,c,.inr ?_⟩
    rcases d with d | d
    ·rw[d,Nat.pow_succ];omega
    ·exact d
   ·rename_i hgt
    exact⟨k,rfl,Nat.le_refl _,by omega,.inl rfl⟩
theorem qW(n:Nat)(h:n < 2 ^ 60):∃ k,sizeAbove n=2 ^ k/\3<=k/\n < 2 ^ k/\2 ^ k<=8+2*n:=by
 obtain⟨k,a,b,c,d⟩:=nK n 64 3 (Nat.lt_of_lt_of_le h (by decide)) (Nat.le_refl _)
 exact⟨k,a,b,c,by omega⟩
def rel{α:Type}(l:List α)(od:List Nat):List α:=od.filterMap (l[·]?)
theorem zC{α:Type}{l:List α}:∀ {od:List Nat},(∀ j∈od,j < l.length)->∀ i:Nat,(rel l od)[i]? = (od[i]?).bind (l[·]?)
 | [],_,i=>by simp[rel]
 | j::od,h,i=>by
   have hj:=h j List.mem_cons_self
   have e:rel l (j::od)=l[j]::rel l od:=by
    unfold rel
    rw[List.filterMap_cons,List.getElem?_eq_getElem hj]
   rw[e]
   cases i with
   | zero=>simp[List.getElem?_eq_getElem hj]
   | succ i=>rw[List.getElem?_cons_succ,List.getElem?_cons_succ];exact zC (fun x hx=>h x (List.mem_cons_of_mem _ hx)) i
theorem sD{α:Type}{l:List α}{od:List Nat}(h:∀ j∈od,j < l.length):(rel l od).length=od.length:=by
 induction od with
 | nil=>rfl
 | cons j od ih=>
   have hj:=h j List.mem_cons_self
   have e:rel l (j::od)=l[j]::rel l od:=by
    unfold rel
    rw[List.filterMap_cons,List.getElem?_eq_getElem hj]
   rw[e,List.length_cons,List.length_cons,ih fun x hx=>h x (List.mem_cons_of_mem _ hx)]
theorem aO3{α:Type}{l:List α}{od:List Nat}(h:od.Perm (List.range l.length)):(rel l od).Perm l:=by
 have h1:(rel l od).Perm (rel l (List.range l.length)):=h.filterMap _
 have h2:rel l (List.range l.length)=l:=by unfold rel;exact PySem.List.filterMap_getElem?_range_length l
 rw[h2]at h1
 exact h1
theorem qB{α:Type}(l:List α)(p:Nat)(x:α):(yX l p x).Perm (x::l):=by
 unfold yX
 have:=List.perm_middle (a:=x) (l₁:=l.take p) (l₂:=l.drop p)
 rwa[List.take_append_drop]at this
end Sx
namespace PySem
open Sx
section
variable{prog:Program}{w:World}{A:Around}{E:Value->Shared->Prop}{s:Shared}{S:Addr}{led:Bool}{N:Addr->Prop}{ks:List (List Int)}{o:Obj}{es:Array (Int×Value)}{ep:Nat}{t:SetTable}
def wV(prog:Program)(w:World)(h:Heap)(S:Addr)(led:Bool)(N:Addr->Prop)(ks:List (List Int)):Prop:=∃ o es ep t,lY prog w h S led N ks o es ep t
theorem lY.store(X:lY prog w s.heap S led N ks o es ep t){es':Array (Int×Value)}{t':SetTable}{ks':List (List Int)}(T:TOk t' (es'.toList.map (·.1)))(hl:t'.led=t.led)(hp:t'.plain=true)(hn:ks'.length=es'.size)(hnd:ks'.Nodup)
  (hi:∀ (i:Nat) e,es'[i]? = some e->∃ k a,ks'[i]? = some k/\e=(tupleKeyHash (intKind prog w) k,.ref a)/\nV prog w s.heap k a/\N a) (hf:t'.place.size*5 < t'.mask*3) :
  lY prog w (s.heap.update S (Obj.putSet es' t')) S led N ks' {o with data:=.set es' (ep+1) t'} es' (ep+1) t':=by
 have hg:(s.heap.update S (Obj.putSet es' t')).get? S=some {o with data:=.set es' (ep+1) t'}:=by
  have:=Heap.get?_update_self (Obj.putSet es' t') X.ob (by rw[putSet_of es' t' X.dt];rfl)
  rw[putSet_of es' t' X.dt]at this;exact this
 refine⟨hg,X.ex,rfl,T,hf,hl.trans X.ld,hp,hn,fun i e he=>?_,hnd⟩
 obtain⟨k,a,h1,h2,h3,h4⟩:=hi i e he
 refine⟨k,a,h1,h2,h3.at (fun ob hob=>?_),h4⟩
 have hne:a≠S:=fun z=>by
  subst z
  obtain⟨o2,items,n,ho2,_,hd2,_⟩:=h3
  rw[X.ob]at ho2
  cases ho2
  rw[X.dt]at hd2
  cases hd2
 rw[(Heap.SameBut.update s.heap S (Obj.putSet es' t')).2 a hne];exact hob
theorem cG7(X:lY prog w s.heap S led N ks o es ep t){k:List Int}{a:Addr}{Q:Bool->Shared->Prop}(hu:A.units < cLine)(hk:nV prog w s.heap k a)(haN:N a)(hn:ks.length < 4000)
  (q1:k∈ks->∀ tk,Q false {s with toks:=tk}) (q2:k∉ks->∀ h' tk ks',wV prog w h' S led N ks'->ks'.Perm (k::ks)->(∀ c ob,c≠S->s.heap.get? c=some ob->h'.get? c=some ob)->Q true {s with heap:=h',toks:=tk}) :
  wpAny (model prog w) A (setAdd S (.ref a)) Q E s:=by
 obtain⟨M,hMs,hM,hb⟩:=X.tk.stop2 (tupleKeyHash (intKind prog w) k)
 have hsz:t.place.size=es.size:=by have:=X.tk.len;simpa using this
 have hfit:=X.tk.fit
 have hes:es.size < 4000:=by rw[← X.len];exact hn
 unfold setAdd
 refine wpAny_holding (wpAny_bind (wpAny_pyHash_tuple hu hk ?_))
 unfold setAddHashed
 refine wpAny_holding ?_
 generalize hs':s.toks+(k.length+1)=tk0
 have X':lY prog w ({s with toks:=tk0}:Shared).heap S led N ks o es ep t:=X
 have hk':nV prog w ({s with toks:=tk0}:Shared).heap k a:=hk
 unfold setAddHashedIn
 refine wpAny_bind (X'.state ?_)
 dsimp only
 have hbs:byScan (.ref a) es=false:=rfl
 rw[hbs,if_neg Bool.false_ne_true]
 unfold setSearch
 refine wpAny_bind (mP X' hu hk' hM hb (by show M < 10*(t.mask+15);omega) 100000 0 none _ rfl (Nat.zero_le _) (by omega) (fun i ei=>?_) (fun hm=>wpAny_pure (q1 hm tk0)) fun hm=>?_)
 ·have hi':i < es.size:=by rw[← X.len];exact(List.getElem?_eq_some_iff.mp ei).1
  have e3:es[i]? = some es[i]:=Array.getElem?_eq_getElem hi'
  obtain⟨k3,b5,e4,e5,_⟩:=X.it i _ e3
  rw[ei]at e4
  cases e4
  obtain⟨m,j,c1,c2,c3⟩:=X.tk.rea i (tupleKeyHash (intKind prog w) k) (by rw[List.getElem?_map,Array.getElem?_toList,e3,e5];rfl)
  refine⟨m,j,Nat.zero_le _,c1,c2,Nat.lt_of_not_le fun z=>?_⟩
  by_cases zz:M=m
  ·subst zz;exact hM ⟨i,by rw[c1,c2]⟩
  ·exact hM (c3 M (by omega))
 ·dsimp only
  refine wpAny_bind (X'.state ?_)
  dsimp only
  have hput:=wS t (wk t.mask (tupleKeyHash (intKind prog w) k) M).j X.tk.dm
  have hf7:=X.tk.m7
  have hful:=X.ful
  have T1:=X.tk.put hM hb (by omega)
  have hple:=(jL X.tk.ri (wk t.mask (tupleKeyHash (intKind prog w) k) M).j).le
  generalize hj:(wk t.mask (tupleKeyHash (intKind prog w) k) M).j=j at hput T1 hple ⊢
  rw[hput]at T1 ⊢
  dsimp only at T1 ⊢
  generalize hp:SetTable.below t.place j=p at T1 hple ⊢
  rw[if_pos X.pl]
  refine wpAny_bind (cG6 hk' ?_)
  rw[if_pos rfl]
  have hpe:p<=es.size:=by omega
  have hpk:p<=ks.length:=by rw[X.len];exact hpe
  have ehs:(SetTable.insertAt es p (tupleKeyHash (intKind prog w) k,Value.ref a)).toList.map (·.1)=yX (es.toList.map (·.1)) p (tupleKeyHash (intKind prog w) k):=by
   rw[SetTable.toList_insertAt]
   unfold yX
   rw[List.map_append,List.map_cons,List.map_take,List.map_drop]
  rw[← ehs]at T1
  have hne:(SetTable.insertAt es p (tupleKeyHash (intKind prog w) k,Value.ref a)).size=es.size+1:=oK es hpe _
  have hpl:(SetTable.insertAt t.place p j).size=es.size+1:=by rw[oK t.place hple,hsz]
  have hit:∀ (i:Nat) e,(SetTable.insertAt es p (tupleKeyHash (intKind prog w) k,Value.ref a))[i]? = some e->∃ k' a',(yX ks p k)[i]? = some k'/\e=(tupleKeyHash (intKind prog w) k',.ref a')/\nV prog w s.heap k' a'/\N a':=fun i e he=>by
   rw[gM _ hpe]at he
   rw[aN8 _ hpk]
   split at he
   ·rw[if_pos (by assumption)];exact X.it i e he
   ·split at he
    ·cases he
     rw[if_neg (by assumption),if_pos (by assumption)]
     exact⟨k,a,rfl,rfl,hk,haN⟩
    ·rw[if_neg (by assumption),if_neg (by assumption)];exact X.it (i-1) e he
  have hnd:(yX ks p k).Nodup:=(qB ks p k).nodup_iff.mpr (List.nodup_cons.mpr ⟨hm,X.nd⟩)
  have hlen:(yX ks p k).length=(SetTable.insertAt es p (tupleKeyHash (intKind prog w) k,Value.ref a)).size:=by rw[pY _ hpk,hne,X.len]
  have hz:es.size+1<=sizeLine:=by rw[sizeLine_eq];omega
  refine wpAny_bind (wpAny_storeSet_of (s:={s with toks:=tk0}) X.ob X.dt ?_ (by rw[hne];exact hz))
  have kept:∀ (e2:Array (Int×Value)) (t2:SetTable) c ob,c≠S->s.heap.get? c=some ob->(s.heap.update S (Obj.putSet e2 t2)).get? c=some ob:=fun e2 t2 c ob hc e=>by
   rw[(Heap.SameBut.update s.heap S (Obj.putSet e2 t2)).2 c hc];exact e
  by_cases htf:({t with place:=SetTable.insertAt t.place p j}:SetTable).tooFull=true
  ·rw[htf]
   simp only[Bool.not_false,Bool.and_self,if_true]
   refine wpAny_bind ?_
   unfold setRelay
   -- the table is full for a moment: what is known of it still
   have hg:(s.heap.update S (Obj.putSet (SetTable.insertAt es p (tupleKeyHash (intKind prog w) k,Value.ref a)) {t with place:=SetTable.insertAt t.place p j})).get? S=some {o with data:=.set (SetTable.insertAt es p (tupleKeyHash (intKind prog w) k,Value.ref a)) (ep+1) {t with place:=SetTable.insertAt t.place p j}}:=by
    have:=Heap.get?_update_self (Obj.putSet (SetTable.insertAt es p (tupleKeyHash (intKind prog w) k,Value.ref a)) {t with place:=SetTable.insertAt t.place p j}) X.ob (by rw[putSet_of _ _ X.dt];rfl)
    rw[putSet_of _ _ X.dt]at this;exact this
   refine wpAny_bind (wpAny_setState_of (s:={s with heap:=s.heap.update S (Obj.putSet (SetTable.insertAt es p (tupleKeyHash (intKind prog w) k,Value.ref a)) {t with place:=SetTable.insertAt t.place p j}),toks:=tk0}) hg rfl (T1.fits (by simp)) ?_)
   dsimp only
   have hgr:SetTable.grown (es.size+1)=(es.size+1)*4:=by unfold SetTable.grown;rw[if_neg (by omega)]
   obtain⟨kk,sa1,sa2,sa3,sa4⟩:=qW ((es.size+1)*4) (by omega)
   rw[hgr,sa1]
   rw[if_neg (by rw[sizeLine_eq];omega)]
   have hpos:1<=2 ^ kk:=Nat.one_le_two_pow
   have h8:8<=2 ^ kk:=by
    have:2 ^ 3<=2 ^ kk:=Nat.pow_le_pow_right (by decide) sa2
    simpa using this
   generalize hE:SetTable.insertAt es p (tupleKeyHash (intKind prog w) k,Value.ref a)=E2 at *
   obtain⟨t3,od,l1,l2,l3,l4,l5,l6,l7⟩:=bE1 (mask:=2 ^ kk-1) (k:=kk) (finger:=t.finger) (moves:=({t with place:=SetTable.insertAt t.place p j}:SetTable).movedTo (2 ^ kk-1)) (led:=t.led) (plain:=t.plain) (hashes:=E2.map (·.1)) (by omega) (by omega) (by rw[Array.size_map,hne];omega)
   have hrl:({t with place:=SetTable.insertAt t.place p j}:SetTable).relaid (E2.map (·.1)) ((es.size+1)*4)=some (t3,od):=by
    unfold SetTable.relaid
    rw[sa1];exact l1
   rw[Array.size_map]at l3 l5
   have hod:∀ x∈od.toList,x < E2.toList.length:=fun x hx=>by
    have:=l3.mem_iff.mp hx
    rw[List.mem_range]at this
    rw[Array.length_toList];exact this
   have e3:(od.filterMap (E2[·]?)).toList=rel E2.toList od.toList:=by
    rw[Array.toList_filterMap]
    unfold rel
    congr 1
    funext x
    rw[Array.getElem?_toList]
   have hodl:od.toList.length=E2.size:=by have:=l3.length_eq;simpa using this
   have hs3:(od.filterMap (E2[·]?)).size=E2.size:=by
    rw[← Array.length_toList,e3,sD hod,hodl]
   rw[hrl]
   refine wpAny_bind ?_
   show wpAny (model prog w) A (ite (((od.filterMap (E2[·]?)).size != E2.size)=true) _ _) _ _ _
   dsimp only
   rw[hs3]
   simp only[bne_self_eq_false,Bool.false_eq_true,if_false]
   refine wpAny_pure ?_
   dsimp only
   refine wpAny_storeSet_of (s:={s with heap:=s.heap.update S (Obj.putSet E2 {t with place:=SetTable.insertAt t.place p j}),toks:=tk0}) hg rfl ?_ (by rw[hs3,hne];exact hz)
   refine wpAny_pure ?_
   -- as if it were stored at once
   have T3:TOk t3 ((od.filterMap (E2[·]?)).toList.map (·.1)):=by
    have e4:(od.filterMap (E2[·]?)).toList.map (·.1)=od.toList.filterMap ((E2.map (·.1))[·]?):=by
     rw[Array.toList_filterMap,List.map_filterMap]
     congr 1
     funext x
     rw[Array.getElem?_map]
    rw[e4];exact l2
   have hkl:∀ x∈od.toList,x < (yX ks p k).length:=fun x hx=>by rw[hlen,← Array.length_toList];exact hod x hx
   refine q2 hm _ tk0 (rel (yX ks p k) od.toList) ⟨{o with data:=.set (od.filterMap (E2[·]?)) (ep+1+1) t3},od.filterMap (E2[·]?),ep+1+1,t3,?_,X.ex,rfl,T3,?_,l6.trans X.ld,l7.trans X.pl,?_,?_,?_⟩ ?_ ?_
   ·have:=Heap.get?_update_self (Obj.putSet (od.filterMap (E2[·]?)) t3) hg (by rw[putSet_of _ _ rfl];rfl)
    rw[putSet_of _ _ rfl]at this;exact this
   ·rw[l4,l5,hne];omega
   ·rw[sD hkl,hodl,hs3]
   ·intro i e he
    rw[← Array.getElem?_toList,e3,zC hod]at he
    rw[zC hkl]
    cases hx:od.toList[i]? with
    | none=>rw[hx]at he;cases he
    | some x=>
      rw[hx]at he
      have he':E2[x]? = some e:=by rw[← Array.getElem?_toList];exact he
      obtain⟨k',a',h1,h2,h3,h4⟩:=hit x e he'
      refine⟨k',a',h1,h2,h3.at (fun ob hob=>?_),h4⟩
      have hne':a'≠S:=fun z=>by
       subst z
       obtain⟨o2,items,n,ho2,_,hd2,_⟩:=h3
       rw[X.ob]at ho2
       cases ho2
       rw[X.dt]at hd2
       cases hd2
      rw[(Heap.SameBut.update _ S (Obj.putSet (od.filterMap (E2[·]?)) t3)).2 a' hne']
      exact kept _ _ a' ob hne' hob
   ·exact(aO3 (by rw[hlen];exact l3)).nodup_iff.mpr hnd
   ·exact(aO3 (by rw[hlen];exact l3)).trans (qB ks p k)
   ·intro c ob hc e
    rw[(Heap.SameBut.update _ S (Obj.putSet (od.filterMap (E2[·]?)) t3)).2 c hc]
    exact kept _ _ c ob hc e
  ·have htf':({t with place:=SetTable.insertAt t.place p j}:SetTable).tooFull=false:=by simpa using htf
   rw[htf']
   simp only[Bool.and_false,Bool.false_eq_true,if_false]
   refine wpAny_pure (q2 hm _ tk0 (yX ks p k) ⟨_,_,_,_,X.store T1 rfl X.pl hlen hnd hit ?_⟩ (qB ks p k) (kept _ _))
   unfold SetTable.tooFull SetTable.fill at htf'
   simp only[X.tk.dm,decide_eq_false_iff_not,Nat.not_le]at htf'
   simpa using htf'
end
section
variable{prog:Program}{w:World}{A:Around}{S I:Addr}{led:Bool}{N:Addr->Prop}
theorem wV.stay{h h':Heap}{ks:List (List Int)}(X:wV prog w h S led N ks)(hS:h'.get? S=h.get? S)(hk:∀ c ob,N c->h.get? c=some ob->h'.get? c=some ob):wV prog w h' S led N ks:=by
 obtain⟨o,es,ep,t,Y⟩:=X
 refine⟨o,es,ep,t,hS.trans Y.ob,Y.ex,Y.dt,Y.tk,Y.ful,Y.ld,Y.pl,Y.len,fun i e he=>?_,Y.nd⟩
 obtain⟨k,a,h1,h2,h3,h4⟩:=Y.it i e he
 exact⟨k,a,h1,h2,h3.at (fun ob hob=>hk a ob h4 hob),h4⟩
def iT(prog:Program)(w:World)(h:Heap)(N:Addr->Prop)(ks:List (List Int))(items:Array Value):Prop:=ks.length=items.size/\∀ (i:Nat) v,items[i]? = some v->∃ k a,ks[i]? = some k/\v=.ref a/\nV prog w h k a/\N a
theorem iT.stay{h h':Heap}{ks:List (List Int)}{items:Array Value}(X:iT prog w h N ks items)(hk:∀ c ob,N c->h.get? c=some ob->h'.get? c=some ob):iT prog w h' N ks items:=by
 refine⟨X.1,fun i v e=>?_⟩
 obtain⟨k,a,h1,h2,h3,h4⟩:=X.2 i v e
 exact⟨k,a,h1,h2,h3.at (fun ob hob=>hk a ob h4 hob),h4⟩
theorem bE3{items:Array Value}{ks:List (List Int)}(hu:A.units < cLine)(hSN:¬ N S)(hIN:¬ N I)(hSI:S≠I)(hb:ks.length < 4000) :
  Fill prog w A S I items.size (fun i v=>items[i]? = some v) (fun i h=>iT prog w h N ks items/\∃ us,wV prog w h S led N us/\us.length<=i/\∀ x,x∈us↔x∈ks.take i) where
 put:=fun i v s Q E hi hv ⟨TA,us,X,hl,hm⟩ q=>by
  obtain⟨k,a,ek,rfl,tk,ha⟩:=TA.2 i v hv
  have hik:i < ks.length:=by rw[TA.1];exact hi
  have et:ks.take (i+1)=ks.take i++[k]:=by rw[List.take_add_one,ek];rfl
  have X0:=X
  obtain⟨o,es,ep,t,Y⟩:=X
  refine cG7 Y hu tk ha (by omega) (fun hin tk'=>?_) fun hin h' tk' us' X' hp hk=>?_
  ·refine q _ s.heap tk' ⟨TA,us,X0,by omega,fun x=>?_⟩ fun c ob _ e=>e
   rw[et,List.mem_append,List.mem_singleton,hm x]
   refine⟨.inl,fun h=>?_⟩
   rcases h with h | rfl
   ·exact h
   ·exact(hm _).mp hin
  ·refine q _ h' tk' ⟨TA.stay fun c ob hc e=>hk c ob (fun z=>hSN (z ▸ hc)) e,us',X',by have:=hp.length_eq;simp at this;omega,fun x=>?_⟩ hk
   rw[hp.mem_iff,List.mem_cons,et,List.mem_append,List.mem_singleton,hm x]
   exact or_comm
 stay:=fun i h h' ⟨TA,us,X,hl,hm⟩ k=>by
  have kN:∀ c ob,N c->h.get? c=some ob->h'.get? c=some ob:=fun c ob hc e=>k c ob (fun z=>hIN (z ▸ hc)) e
  refine⟨TA.stay kN,us,X.stay ?_ kN,hl,hm⟩
  obtain⟨o,es,ep,t,Y⟩:=X
  rw[k S o hSI Y.ob,Y.ob]
end
theorem bE4:Manifest.owners.lookup (String.ofList (['r','o','t','a','r','e','t','i','_','t','e','s']:List Char).reverse)=some Manifest.sig_set_iterator:=by kernel_rfl
theorem lS:Slot "set_iterator" "__next__" "set_iterator.__next__":=.of (owner:="set_iterator") (n:="__next__") (by rw[typeLookup_type,builtinLookup_eq_fast];kernel_rfl) (by decide +kernel) (by decide +kernel) (by decide +kernel) (.inl (by decide +kernel)) (by rw[isSubtype_type];kernel_rfl)
theorem wW:entryFor table "set_iterator.__next__"=some Builtin.«set_iterator.__next__»:=entryFor_of_tree (by kernel_rfl)
theorem aO4(a:Value):argsOk "set_iterator.__next__" ⟨[a],[]⟩:=by
 unfold argsOk
 rw[signature?_of (id:="set_iterator.__next__") (n:=['_','_','t','x','e','n','_','_']) (o:=['r','o','t','a','r','e','t','i','_','t','e','s']) (by kernel_rfl) bE4]
 kernel_rfl
theorem qX:entryFor table "set.__iter__"=some Builtin.«frozenset.__iter__»:=entryFor_alias (id':="frozenset.__iter__") (by kernel_rfl) rfl (by decide +kernel) (by kernel_rfl)
theorem bE5{α:Type}:∀ (l:List α) (i:Nat) (h:i < l.length),(l[i]::l.eraseIdx i).Perm l
 | [],i,h=>absurd h (Nat.not_lt_zero i)
 | a::l,0,_=>.refl _
 | a::l,i+1,h=>(List.Perm.swap a _ _).trans (.cons a (bE5 l i (Nat.lt_of_succ_lt_succ h)))
theorem wX{α:Type}(next:Nat->Nat):∀ (fuel k:Nat) (nY:List α) (out:Array α),nY.length=fuel->(pickOrder.go next fuel k nY out).toList.Perm (out.toList++nY)
 | 0,k,nY,out,h=>by
   have:nY=[]:=List.eq_nil_of_length_eq_zero h
   subst this
   rw[List.append_nil];exact .refl _
 | fuel+1,k,nY,out,h=>by
   have hl:next k % nY.length < nY.length:=Nat.mod_lt _ (by omega)
   unfold pickOrder.go
   rw[List.getElem?_eq_getElem hl]
   dsimp only
   have ih:=wX next fuel (k+1) (nY.eraseIdx (next k % nY.length)) (out.push nY[next k % nY.length]) (by rw[List.length_eraseIdx_of_lt hl];omega)
   refine ih.trans ?_
   rw[Array.toList_push,List.append_assoc]
   exact List.Perm.append_left _ (bE5 nY _ hl)
theorem qY{α:Type}(next:Nat->Nat)(xs:Array α):(pickOrder next xs).toList.Perm xs.toList:=by
 have:=wX next xs.size 0 xs.toList #[] (by simp)
 simpa[pickOrder]using this
abbrev aT3(slot i n ep:Nat)(S:Addr):Obj:={cls:=.type "set_iterator",data:=.fields #[.int slot 0,.int i 0,.ref S,.int n 0,.int ep 0]}
section
variable{prog:Program}{w:World}{A:Around}{E:Value->Shared->Prop}{s:Shared}{S I:Addr}{N:Addr->Prop}{ks:List (List Int)}{o:Obj}{es:Array (Int×Value)}{ep:Nat}{t:SetTable}
def cQ(w:World)(S:Addr)(ep:Nat)(es:Array (Int×Value)):Array (Int×Value):=if w.params.followText "set-order"=true then pickOrder (w.params.setOrder S ep) es else es
theorem qC(es:Array (Int×Value)):(cQ w S ep es).toList.Perm es.toList:=by
 unfold cQ
 split
 ·exact qY _ es
 ·exact .refl _
theorem bE6(X:lY prog w s.heap S (fR w) N ks o es ep t){Q:Value->Shared->Prop}(q:Q (.ref s.heap.objs.size) {s with heap:=s.heap.push (aT3 0 0 es.size ep S)}):wpAny (model prog w) A (pyIter (.ref S)) Q E s:=by
 have hT:s.TypeIs (.ref S) "set":=⟨o,X.ob,X.ex.1⟩
 refine wpAny_pyIter_slot hT F.slot_set_iter (wpAny_call_entry F.slot_set_iter hT qX ?_ (F.args_set_iter_1 _))
 show wpAny _ _ (Builtin.Frozenset.sizeOf S >>= _) _ _ s
 unfold Builtin.Frozenset.sizeOf
 refine wpAny_bind (wpAny_bind (wpAny_setEntries_of X.ob X.dt X.fits (wpAny_pure ?_)))
 unfold setDrawn
 refine wpAny_bind (wpAny_bind (X.state ?_))
 unfold setsByText
 refine wpAny_bind (wpAny_bind (wpAny_askSetting (wpAny_pure ?_)))
 refine wpAny_pure ?_
 have hd:(!t.plain&&decide (es.size > 1))=false:=by rw[X.pl];rfl
 dsimp only
 rw[if_neg (fun h=>?_)]
 ·refine wpAny_bind (wpAny_pure ?_)
  refine wpAny_bind (wpAny_setEpoch_of X.ob X.dt X.fits ?_)
  unfold newFields
  refine wpAny_bind (wpAny_newObj_type ?_)
  exact wpAny_pure ⟨_,rfl,"set_iterator",_,⟨_,Heap.get?_push_size _ rfl,rfl⟩,lS.lookup,q⟩
 ·rw[Bool.and_eq_true]at h
  exact Bool.noConfusion (hd.symm.trans h.2)
def bE7(w:World)(h:Heap)(I S:Addr)(es:Array (Int×Value))(ep:Nat)(t:SetTable)(i:Nat):Prop:=
 ∃ slot,h.get? I=some (aT3 slot i es.size ep S)/\(w.params.followText "set-order"=false->SetTable.below t.place slot=i)
theorem bE8(X:lY prog w s.heap S (fR w) N ks o es ep t){i slot:Nat}(hsl:w.params.followText "set-order"=false->SetTable.below t.place slot=i){Q:Option (Value×Nat)->Shared->Prop}
  (q1:∀ e next,(cQ w S ep es)[i]? = some e->(w.params.followText "set-order"=false->SetTable.below t.place next=i+1)->Q (some (e.2,next)) s) (q2:(cQ w S ep es)[i]? = none->Q none s):wpAny (model prog w) A (setNext S slot i ep) Q E s:=by
 unfold setNext
 refine wpAny_bind (X.state ?_)
 unfold setsByText
 refine wpAny_bind (wpAny_bind (wpAny_askSetting (wpAny_pure ?_)))
 dsimp only
 by_cases hb:w.params.followText "set-order"=true
 ·rw[if_pos (show(model prog w).w.params.followText "set-order"=true from hb)]
  simp only[bne_self_eq_false,Bool.false_eq_true,if_false]
  unfold setWalk
  refine wpAny_bind (wpAny_bind (X.state ?_))
  unfold setsByText
  refine wpAny_bind (wpAny_bind (wpAny_askSetting (wpAny_pure ?_)))
  dsimp only
  rw[if_pos (show(model prog w).w.params.followText "set-order"=true from hb)]
  refine wpAny_bind (wpAny_askSetting (wpAny_pure ?_))
  have ew:cQ w S ep es=pickOrder (w.params.setOrder S ep) es:=by unfold cQ;rw[if_pos hb]
  show wpAny _ _ (pure ((pickOrder (w.params.setOrder S ep) es)[i]?.map fun e=>(e.2,slot))) _ _ _
  refine wpAny_pure ?_
  rw[← ew]
  cases hq:(cQ w S ep es)[i]? with
  | none=>exact q2 hq
  | some e=>exact q1 e slot hq fun z=>by rw[hb]at z;cases z
 ·have hb':w.params.followText "set-order"=false:=by simpa using hb
  have hbelow:=hsl hb'
  have ew:cQ w S ep es=es:=by unfold cQ;rw[if_neg hb]
  have hdr:(!t.plain&&decide (es.size > 1))=false:=by rw[X.pl];rfl
  have hled:t.led=true:=by rw[X.ld];unfold fR;rw[hb'];rfl
  rw[if_neg (show ¬ ((model prog w).w.params.followText "set-order"=true)from hb)]
  refine wpAny_ite_split (fun h=>absurd (hdr.symm.trans h) Bool.false_ne_true) fun _=>?_
  refine wpAny_bind ?_
  have hml:wpAny (model prog w) A (if(!t.led && !es.isEmpty)=true then unsupported "set:maker-not-led" else pure ()) (fun _ s'=>s'=s) E s:=by
   rw[hled];simp only[Bool.not_true,Bool.false_and,Bool.false_eq_true,if_false]
   exact wpAny_pure rfl
  refine wpAny_mono hml (fun _ s' e'=>?_) fun _ _ z=>z
  subst e'
  rw[hbelow]
  rw[ew]at q1 q2
  have hsz:t.place.size=es.size:=by have:=X.tk.len;simpa using this
  cases hq:es[i]? with
  | none=>exact wpAny_pure (q2 hq)
  | some e=>
    have hlt:i < t.place.size:=by rw[hsz];exact(Array.getElem?_eq_some_iff.mp hq).1
    have ep':t.place[i]? = some t.place[i]:=Array.getElem?_eq_getElem hlt
    rw[ep']
    refine wpAny_pure (q1 e _ hq fun _=>?_)
    have c:=jL X.tk.ri (t.place[i]+1)
    have h1:i < SetTable.below t.place (t.place[i]+1):=by
     refine Nat.lt_of_not_le fun z=>?_
     have:=c.hi i _ z ep'
     omega
    have h2:SetTable.below t.place (t.place[i]+1)<=i+1:=by
     refine Nat.le_of_not_lt fun z=>?_
     have hl2:i+1 < t.place.size:=Nat.lt_of_lt_of_le z c.le
     have e2:t.place[i+1]? = some t.place[i+1]:=Array.getElem?_eq_getElem hl2
     have:=c.lo (i+1) _ z e2
     have:=X.tk.ri i (i+1) _ _ (Nat.lt_succ_self _) ep' e2
     omega
    omega
theorem bE9(X:lY prog w s.heap S (fR w) N ks o es ep t){i:Nat}(hi:bE7 w s.heap I S es ep t i){Q:Option Value->Shared->Prop}{e:Int×Value}(he:(cQ w S ep es)[i]? = some e)
  (q:∀ h',bE7 w h' I S es ep t (i+1)->(∀ b ob,b≠I->s.heap.get? b=some ob->h'.get? b=some ob)->Q (some e.2) {s with heap:=h'}):wpAny (model prog w) A (pyNext (.ref I)) Q E s:=by
 obtain⟨slot,ho,hsl⟩:=hi
 have hT:s.TypeIs (.ref I) "set_iterator":=⟨_,ho,rfl⟩
 unfold pyNext
 refine wpAny_bind (wpAny_attempt (wpAny_callSpecial?_slot (name:=Str.ofString "__next__") hT lS (wpAny_call_entry lS hT wW ?_ (aO4 _))))
 show wpAny _ _ (fieldsOf (.ref I) >>= _) _ _ s
 unfold fieldsOf
 refine wpAny_bind (wpAny_bind (wpAny_load ho (wpAny_pure ?_)))
 dsimp only
 refine wpAny_bind (wpAny_setEntries_of X.ob X.dt X.fits ?_)
 simp only[bne_self_eq_false,Bool.false_eq_true,if_false,Int.toNat_natCast]
 refine wpAny_bind (bE8 X hsl (fun e' next he' hnx=>?_) fun hn=>?_)
 ·rw[he]at he'
  cases he'
  dsimp only
  refine wpAny_bind (wpAny_setField ho rfl (by simp) ?_)
  have g1:(s.heap.update I (fun ob=>ob.mapFields (·.setIfInBounds 0 (rawInt next)))).get? I=some (aT3 next i es.size ep S):=by
   rw[Heap.get?_update_self _ ho rfl];simp[Obj.mapFields,rawInt]
  refine wpAny_bind (wpAny_setField (s:={s with heap:=s.heap.update I (fun ob=>ob.mapFields (·.setIfInBounds 0 (rawInt next)))}) g1 rfl (by simp) ?_)
  have g2:((s.heap.update I (fun ob=>ob.mapFields (·.setIfInBounds 0 (rawInt next)))).update I (fun ob=>ob.mapFields (·.setIfInBounds 1 (rawInt ((i:Int)+1))))).get? I=some (aT3 next (i+1) es.size ep S):=by
   rw[Heap.get?_update_self _ g1 rfl];simp[Obj.mapFields,rawInt]
  refine wpAny_pure ⟨_,rfl,wpAny_pure (q _ ⟨next,g2,hnx⟩ fun b ob hb e2=>?_)⟩
  exact(Heap.get?_update_other _ _ (Ne.symm hb)).trans ((Heap.get?_update_other _ _ (Ne.symm hb)).trans e2)
 ·rw[he]at hn;cases hn
theorem bF0(hh:A.handled=none)(X:lY prog w s.heap S (fR w) N ks o es ep t){i:Nat}(hi:bE7 w s.heap I S es ep t i){Q:Option Value->Shared->Prop}(he:(cQ w S ep es)[i]? = none)
  (q:∀ h',(∀ b ob,b≠I->s.heap.get? b=some ob->h'.get? b=some ob)->Q none {s with heap:=h'}):wpAny (model prog w) A (pyNext (.ref I)) Q E s:=by
 obtain⟨slot,ho,hsl⟩:=hi
 have hT:s.TypeIs (.ref I) "set_iterator":=⟨_,ho,rfl⟩
 unfold pyNext
 refine wpAny_bind (wpAny_attempt (wpAny_callSpecial?_slot (name:=Str.ofString "__next__") hT lS (wpAny_call_entry lS hT wW ?_ (aO4 _))))
 show wpAny _ _ (fieldsOf (.ref I) >>= _) _ _ s
 unfold fieldsOf
 refine wpAny_bind (wpAny_bind (wpAny_load ho (wpAny_pure ?_)))
 dsimp only
 refine wpAny_bind (wpAny_setEntries_of X.ob X.dt X.fits ?_)
 simp only[bne_self_eq_false,Bool.false_eq_true,if_false,Int.toNat_natCast]
 refine wpAny_bind (bE8 X hsl (fun e' next he' hnx=>?_) fun hn=>?_)
 ·rw[he]at he';cases he'
 ·dsimp only
  refine wpAny_bind (wpAny_setField ho rfl (by simp) ?_)
  show wpAny _ _ (newExc (.type "StopIteration") [] >>= _) _ _ _
  refine wpAny_bind ?_
  simp only[newExc,newTuple]
  refine wpAny_bind (wpAny_newObj_type ?_ (by size_fits))
  refine wpAny_bind (m:=firstArgMember _ _) (wpAny_of_eq (a:=Value.none) rfl ?_)
  refine wpAny_newObj_type ?_ (by size_fits)
  simp only[raiseNew]
  refine wpAny_bind (wpAny_handled ?_)
  rw[show A.in1.handled=none from hh]
  refine wpAny_bind (wpAny_pure (wpAny_throw ?_))
  refine wpAny_bind (wpAny_isInstance (T:="StopIteration") (b:=true) ⟨_,Heap.get?_push_size _ rfl,rfl⟩ isSubtype_stop ?_)
  refine wpAny_pure (q _ fun b ob hb e2=>Heap.get?_push_of_some _ (Heap.get?_push_of_some _ ((Heap.get?_update_other _ _ (Ne.symm hb)).trans e2)))
end
open L2
theorem aT4:typeLookup (.type "set") "__len__"=pure (some (.builtin "set.__len__")):=by rw[typeLookup_type,builtinLookup_eq_fast];kernel_rfl
section
variable{prog:Program}{w:World}{A:Around}{E:Value->Shared->Prop}{s:Shared}{S I:Addr}{N:Addr->Prop}{ks:List (List Int)}{o:Obj}{es:Array (Int×Value)}{ep:Nat}{t:SetTable}
theorem bP9{Q:Bool->Shared->Prop}(hT:s.TypeIs (.ref S) "set")(h:∀ b,Q b s):wpAny (model prog w) A (Builtin.List.listLengthHint (.ref S)) Q E s:=by
 unfold Builtin.List.listLengthHint
 refine wpAny_bind (wpAny_specialOf hT aT4 ?_)
 (generalize hid:("set.__len__":String)=id0;(fail_if_success (clear hid id0));wp_delta;rw[show splitId id0=some ("set","__len__")from by subst hid;decide +kernel];subst hid)
 refine wpAny_bind (wpAny_isInstance (b:=true) hT sub_set_self ?_)
 dsimp only
 rw[if_neg (by decide)]
 refine wpAny_ite_split (fun _=>?_) (fun h'=>(h' (by decide +kernel)).elim)
 refine wpAny_bind (wpAny_typeOf hT ?_)
 exact wpAny_pure (h _)
theorem bQ0(hh:A.handled=none){L:Addr}{h0:Heap}(X:lY prog w h0 S (fR w) N ks o es ep t)(hI:h0.objs.size<=I)(hL:h0.objs.size<=L)(hLI:L≠I) :
  LoopJ prog w A I L es.size (fun i acc h=>(∀ b ob,h0.get? b=some ob->h.get? b=some ob)/\bE7 w h I S es ep t i/\acc.toList=((cQ w S ep es).toList.take i).map (·.2)) (fun acc h=>(∀ b ob,h0.get? b=some ob->h.get? b=some ob)/\acc.toList=(cQ w S ep es).toList.map (·.2)):=by
 have hwl:(cQ w S ep es).toList.length=es.size:=by have:=(qC (w:=w) (S:=S) (ep:=ep) es).length_eq;simpa using this
 have nI:∀ b ob,h0.get? b=some ob->b≠I:=fun b ob e z=>absurd (Heap.lt_size e) (Nat.not_lt.mpr (z ▸ hI))
 have nL:∀ b ob,h0.get? b=some ob->b≠L:=fun b ob e z=>absurd (Heap.lt_size e) (Nat.not_lt.mpr (z ▸ hL))
 have XT:∀ (h:Heap),(∀ b ob,h0.get? b=some ob->h.get? b=some ob)->lY prog w h S (fR w) N ks o es ep t:=fun h hk=>
  ⟨hk _ _ X.ob,X.ex,X.dt,X.tk,X.ful,X.ld,X.pl,X.len,fun i e he=>by
   obtain⟨k,a,h1,h2,h3,h4⟩:=X.it i e he
   exact⟨k,a,h1,h2,h3.at (fun ob hob=>hk a ob hob),h4⟩,X.nd⟩
 refine⟨fun i acc s c Q E hi ⟨hk,hs,ha⟩ hS q=>?_,fun acc s c Q E ⟨hk,hs,ha⟩ hS q=>?_,fun i acc h h' ⟨hk,hs,ha⟩ _ k=>?_⟩
 ·have hlt:i < (cQ w S ep es).toList.length:=by omega
  have he:(cQ w S ep es)[i]? = some (cQ w S ep es).toList[i]:=by rw[← Array.getElem?_toList];exact List.getElem?_eq_getElem hlt
  refine bE9 (XT s.heap hk) hs he fun h' hs' k'=>?_
  have:=q (cQ w S ep es).toList[i].2 h' s.toks ⟨fun b ob e=>k' b ob (nI b ob e) (hk b ob e),hs',?_⟩ (k' _ _ hLI hS)
  ·exact this
  ·rw[Array.toList_push,ha,List.take_add_one,List.getElem?_eq_getElem hlt,List.map_append];rfl
 ·refine bF0 hh (XT s.heap hk) hs (by rw[← Array.getElem?_toList];exact List.getElem?_eq_none (by omega)) fun h' k'=>?_
  have:=q h' s.toks ⟨fun b ob e=>k' b ob (nI b ob e) (hk b ob e),by rw[ha,List.take_of_length_le (by omega)]⟩ (k' _ _ hLI hS)
  exact this
 ·obtain⟨slot,h1,h2⟩:=hs
  exact⟨fun b ob e=>k b ob (nL b ob e) (hk b ob e),⟨slot,k I _ (Ne.symm hLI) h1,h2⟩,ha⟩
theorem wY(hh:A.handled=none)(X:lY prog w s.heap S (fR w) N ks o es ep t)(hz:es.size<=sizeLine){Q:List Value->Shared->Prop}
  (q:∀ h' tk,(∀ b ob,s.heap.get? b=some ob->h'.get? b=some ob)->s.heap.objs.size < h'.objs.size->Q ((cQ w S ep es).toList.map (·.2)) {s with heap:=h',toks:=tk}):wpAny (model prog w) A (collect (.ref S)) Q E s:=by
 have hSlt:S < s.heap.objs.size:=Heap.lt_size X.ob
 have key:∀ R:Result->Shared->Prop,(∀ h' tk acc c,(∀ b ob,s.heap.get? b=some ob->h'.get? b=some ob)->acc.toList=(cQ w S ep es).toList.map (·.2)->h'.get? s.heap.objs.size=some (lX acc c)->R (.ok (.ret (.ref s.heap.objs.size))) {s with heap:=h',toks:=tk}) ->
   codeAny (model prog w) A (.builtin "proto.collect" ⟨[.ref S],[]⟩) R s:=by
  intro R hR
  (refine codeAny_builtin F.entry_proto_collect ?_;rw[Around.under_plainId F.plain_proto_collect _])
  (show wpAny _ A.in1 (newList [] >>= fun l=>again (.builtin "list.__iadd__" ⟨[l,.ref S],[]⟩)) _ _ s;refine wpAny_bind (wpAny_newObj_type ?_))
  (refine wpAny_pure ⟨plainId_quiet F.plain_list_iadd _,codeAny_builtin F.entry_list_iadd ?_⟩;rw[Around.under_plainId F.plain_list_iadd _])
  have up:∀ b ob,s.heap.get? b=some ob->(s.heap.push (lX #[] 0)).get? b=some ob:=fun b ob e=>Heap.get?_push_of_some _ e
  have hp:(s.heap.push (lX #[] 0)).objs.size=s.heap.objs.size+1:=Heap.size_push ..
  have X1:lY prog w ({s with heap:=s.heap.push (lX #[] 0)}:Shared).heap S (fR w) N ks o es ep t:=
   ⟨up _ _ X.ob,X.ex,X.dt,X.tk,X.ful,X.ld,X.pl,X.len,fun i e he=>by
    obtain⟨k,a,h1,h2,h3,h4⟩:=X.it i e he
    exact⟨k,a,h1,h2,h3.at (fun ob hob=>up a ob hob),h4⟩,X.nd⟩
  have hT:Shared.TypeIs {s with heap:=s.heap.push (lX #[] 0)} (.ref S) "set":=⟨o,X1.ob,X.ex.1⟩
  (show wpAny _ A.in1 (Builtin.List.listExtendWith (.ref s.heap.objs.size) (.ref S) (.ref s.heap.objs.size)) _ _ {s with heap:=s.heap.push (lX #[] 0)})
  unfold Builtin.List.listExtendWith
  refine wpAny_bind (wpAny_typeOf hT ?_)
  have h1:Builtin.List.listSameRef (.ref s.heap.objs.size) (.ref S)=false:=by
   simp only[Builtin.List.listSameRef,beq_eq_false_iff_ne]
   exact Nat.ne_of_gt hSlt
  rw[if_neg (by rw[h1];decide)]
  refine wpAny_bind (bE6 X1 ?_)
  have hS2:((s.heap.push (lX #[] 0)).push (aT3 0 0 es.size ep S)).get? s.heap.objs.size=some (lX #[] 0):=Heap.get?_push_of_some _ (Heap.get?_push_size _ rfl)
  have hI2:((s.heap.push (lX #[] 0)).push (aT3 0 0 es.size ep S)).get? (s.heap.push (lX #[] 0)).objs.size=some (aT3 0 0 es.size ep S):=Heap.get?_push_size _ rfl
  have up2:∀ b ob,s.heap.get? b=some ob->((s.heap.push (lX #[] 0)).push (aT3 0 0 es.size ep S)).get? b=some ob:=fun b ob e=>Heap.get?_push_of_some _ (up b ob e)
  have hT2:Shared.TypeIs {s with heap:=(s.heap.push (lX #[] 0)).push (aT3 0 0 es.size ep S)} (.ref S) "set":=⟨o,up2 _ _ X.ob,X.ex.1⟩
  have b0:SetTable.below t.place 0=0:=by
   have c:=jL X.tk.ri 0
   refine Nat.le_zero.mp (Nat.le_of_not_lt fun z=>?_)
   have hz0:0 < t.place.size:=Nat.lt_of_lt_of_le z c.le
   have e0:t.place[0]? = some t.place[0]:=Array.getElem?_eq_getElem hz0
   exact absurd (c.lo 0 _ z e0) (Nat.not_lt_zero _)
  have ne:s.heap.objs.size≠(s.heap.push (lX #[] 0)).objs.size:=by rw[hp];exact Nat.ne_of_lt (Nat.lt_succ_self _)
  have L:=bQ0 (A:=A.in1) hh (I:=(s.heap.push (lX #[] 0)).objs.size) (L:=s.heap.objs.size) X (by rw[hp];exact Nat.le_succ _) (Nat.le_refl _) ne
  have J0:(∀ b ob,s.heap.get? b=some ob->((s.heap.push (lX #[] 0)).push (aT3 0 0 es.size ep S)).get? b=some ob)/\bE7 w ((s.heap.push (lX #[] 0)).push (aT3 0 0 es.size ep S)) (s.heap.push (lX #[] 0)).objs.size S es ep t 0/\(#[]:Array Value).toList=((cQ w S ep es).toList.take 0).map (·.2):=⟨up2,⟨0,hI2,fun _=>b0⟩,rfl⟩
  refine wpAny_bind (wpAny_holding (bP9 hT2 fun b=>?_))
  refine wpAny_ite_split (fun _=>?_) (fun _=>wpAny_pure ⟨plainId_quiet F.plain_extend_loop _,cS6 L hz _ es.size 0 _ #[] 0 (by omega) (Nat.zero_le _) J0 rfl hS2 fun h' tk acc c hK hsz hS'=>hR h' tk acc c hK.1 hK.2 hS'⟩)
  (refine wpAny_bind (wpAny_rule ?_);refine wpAny_bind ?_)
  (show wpAny _ _ (updateSeq s.heap.objs.size (·.push .none) >>= fun _=>updateSeq s.heap.objs.size (·.pop)) _ _ _;refine wpAny_bind (wpAny_updateSeq hS2 rfl ?_))
  have hS3:(((s.heap.push (lX #[] 0)).push (aT3 0 0 es.size ep S)).update s.heap.objs.size (Obj.mapSeq (·.push Value.none))).get? s.heap.objs.size=some (lX #[.none] 1):=by
   rw[Heap.get?_update_self _ hS2 rfl];simp[Obj.mapSeq]
  refine wpAny_updateSeq (hz:=by seq_fits) hS3 rfl ?_
  have hS4:((((s.heap.push (lX #[] 0)).push (aT3 0 0 es.size ep S)).update s.heap.objs.size (Obj.mapSeq (·.push Value.none))).update s.heap.objs.size (Obj.mapSeq (·.pop))).get? s.heap.objs.size=some (lX #[] 2):=by
   rw[Heap.get?_update_self _ hS3 rfl];simp[Obj.mapSeq]
  refine wpAny_pure ⟨plainId_quiet F.plain_extend_loop _,cS6 L hz _ es.size 0 _ #[] 2 (by omega) (Nat.zero_le _) (L.frame _ _ _ _ J0 ?_ fun b ob hb e=>?_) rfl hS4 fun h' tk acc c hK hsz hS'=>hR h' tk acc c hK.1 hK.2 hS'⟩
  ·exact(Heap.size_update ..).trans (Heap.size_update ..)
  ·exact(Heap.get?_update_other _ _ (Ne.symm hb)).trans ((Heap.get?_update_other _ _ (Ne.symm hb)).trans e)
 (unfold collect;refine wpAny_bind (wpAny_runValue (key _ fun h' tk acc c hK ha hS'=>?_)))
 (show wpAny _ A (load s.heap.objs.size >>= _) _ _ _;refine wpAny_bind (wpAny_load hS' ?_))
 rw[← ha]at q
 exact wpAny_pure (q h' tk hK (Heap.lt_size hS'))
end
end PySem
namespace Sx
open PySem PySem.W PyProof.Rows
structure Ord(c:Nat->Nat->Bool):Prop where
 ir:∀ a,c a a=false
 tr:∀ {a b d},c a b=true->c b d=true->c a d=true
 nt:∀ {a b d},c b a=false->c d b=false->c d a=false
abbrev at0(p:Array Nat)(i:Nat):Nat:=p.getD i 0
def Up(c:Nat->Nat->Bool)(p:Array Nat)(k:Nat):Prop:=∀ i j,i<=j->j < k->c (at0 p j) (at0 p i)=false
def Dn(c:Nat->Nat->Bool)(p:Array Nat)(k:Nat):Prop:=∀ i j,i<=j->j < k->c (at0 p i) (at0 p j)=false
def Pm(N:Nat)(p:Array Nat):Prop:=p.toList.Perm (List.range N)
theorem Pm.size{N:Nat}{p:Array Nat}(h:Pm N p):p.size=N:=by have:=List.Perm.length_eq h;simpa using this
theorem Pm.lt{N:Nat}{p:Array Nat}(h:Pm N p){i:Nat}(hi:i < N):at0 p i < N:=by
 have hs:=h.size
 have hi':i < p.size:=by omega
 have e:at0 p i=p[i]:=by simp[at0,Array.getD,hi']
 rw[e]
 have:p[i]∈p.toList:=by simp
 exact List.mem_range.mp (h.mem_iff.mp this)
theorem Pm.of{N:Nat}{p q:Array Nat}(h:Pm N p)(hq:q.Perm p):Pm N q:=(Array.perm_iff_toList_perm.mp hq).trans h
theorem wZ{p q:Array Nat}{i j:Nat}(h:p[i]? = q[j]?):at0 p i=at0 q j:=by simp[at0,Array.getD_eq_getD_getElem?,h]
theorem gW{p:Array Nat}{i j k:Nat}(hj:j<=p.size):at0 (kas_rev p i j) k=if i<=k/\k < j then at0 p (i+j-1-k)else at0 p k:=by
 have e:=getElem?_mirror_all (xs:=p) (i:=i) (j:=j) hj k
 unfold kas_rev
 by_cases h:i<=k/\k < j
 ·rw[if_pos h]at e ⊢;exact wZ e
 ·rw[if_neg h]at e ⊢;exact wZ e
theorem Pm.rev{N:Nat}{p:Array Nat}(h:Pm N p)(i j:Nat):Pm N (kas_rev p i j):=h.of (mirror_perm ..)
section
variable{N:Nat}{c:Nat->Nat->Bool}{cmp:Nat->Nat->(Bool->Shared->Prop)->Shared->Prop}{s:Shared}(O:Ord c)(hc:∀ i j C,i < N->j < N->C (c i j) s->cmp i j C s)
include O hc
theorem bF1{p:Array Nat}(hp:Pm N p):∀ (f n:Nat) {G:Nat->Shared->Prop},1<=n->n+f<=N->Up c p n->(∀ m,n<=m->m<=n+f->Up c p m->(m=n+f\/c (at0 p m) (at0 p (m-1))=true)->G m s)->(kas_asc p f n).kasWp cmp G s
 | 0,n,G,h1,h2,hu,q=>q n (Nat.le_refl _) (Nat.le_refl _) hu (.inl rfl)
 | f+1,n,G,h1,h2,hu,q=>by
   show cmp (at0 p n) (at0 p (n-1)) (fun b s'=>(if b=true then KasT.ret n else kas_asc p f (n+1)).kasWp cmp G s') s
   refine hc _ _ _ (hp.lt (by omega)) (hp.lt (by omega)) ?_
   cases hq:c (at0 p n) (at0 p (n-1))with
   | true=>rw[if_pos rfl];exact q n (Nat.le_refl _) (by omega) hu (.inr hq)
   | false=>
     rw[if_neg Bool.false_ne_true]
     refine bF1 hp f (n+1) (by omega) (by omega) (fun i j hij hj=>?_) fun m a1 a2 a3 a4=>q m (by omega) (by omega) a3 (by rcases a4 with z | z;exact .inl (by omega);exact .inr z)
     by_cases hjn:j < n
     ·exact hu i j hij hjn
     ·have:j=n:=by omega
      subst this
      by_cases hij':i=j
      ·subst hij';exact O.ir _
      ·exact O.nt (hu i (j-1) (by omega) (by omega)) hq
omit hc in
theorem Dn.turn{p:Array Nat}{n q:Nat}(hn:n<=p.size)(hq:q+1<=n)(hd:Dn c p n)(he:∀ i j,n-(q+1)<=i->i < n->n-(q+1)<=j->j < n->c (at0 p i) (at0 p j)=false):Dn c (kas_rev p (n-(q+1)) n) n:=by
 intro i j hij hj
 rw[gW hn,gW hn]
 by_cases h1:n-(q+1)<=i/\i < n
 ·rw[if_pos h1,if_pos (by omega)]
  exact he _ _ (by omega) (by omega) (by omega) (by omega)
 ·rw[if_neg h1]
  by_cases h2:n-(q+1)<=j/\j < n
  ·rw[if_pos h2];exact hd i _ (by omega) (by omega)
  ·rw[if_neg h2];exact hd i j hij hj
omit hc in
theorem Dn.less{p:Array Nat}{n:Nat}(h1:1<=n)(hd:Dn c p n)(hl:c (at0 p n) (at0 p (n-1))=true):Dn c p (n+1):=by
 intro i j hij hj
 by_cases hjn:j < n
 ·exact hd i j hij hjn
 ·have:j=n:=by omega
  subst this
  by_cases hi:i=j
  ·subst hi;exact O.ir _
  ·cases hq:c (at0 p i) (at0 p j)with
   | false=>rfl
   | true=>
     have:=O.tr hq hl
     rw[hd i (j-1) (by omega) (by omega)]at this
     exact this.symm
theorem uO:∀ (f:Nat) (p:Array Nat) (n q:Nat) {G:Array Nat×Nat×Nat->Shared->Prop},Pm N p->1<=n->n+f<=N->Dn c p n->q+1<=n->(∀ i j,n-(q+1)<=i->i < n->n-(q+1)<=j->j < n->c (at0 p i) (at0 p j)=false) ->
  (∀ p' m q',Pm N p'->n<=m->m<=n+f->Dn c p' m->q'+1<=m->(∀ i j,m-(q'+1)<=i->i < m->m-(q'+1)<=j->j < m->c (at0 p' i) (at0 p' j)=false)->G (p',m,q') s)->(kas_desc f p n q).kasWp cmp G s
 | 0,p,n,q,G,hp,h1,h2,hd,hq,he,k=>k p n q hp (Nat.le_refl _) (Nat.le_refl _) hd hq he
 | f+1,p,n,q,G,hp,h1,h2,hd,hq,he,k=>by
   have hs:=hp.size
   show cmp (at0 p n) (at0 p (n-1)) (fun b s'=>(if b=true then(if q > 0 then kas_desc f (kas_rev p (n-(q+1)) n) (n+1) 0 else kas_desc f p (n+1) 0)else KasT.ask (at0 p (n-1)) (at0 p n) fun d=>if d=true then KasT.ret (p,n,q)else kas_desc f p (n+1) (q+1)).kasWp cmp G s') s
   refine hc _ _ _ (hp.lt (by omega)) (hp.lt (by omega)) ?_
   have one:∀ (p':Array Nat) i j,n+1-(0+1)<=i->i < n+1->n+1-(0+1)<=j->j < n+1->c (at0 p' i) (at0 p' j)=false:=fun p' i j a1 a2 a3 a4=>by
    have:i=n:=by omega
    have:j=n:=by omega
    subst i;subst j;exact O.ir _
   cases hl:c (at0 p n) (at0 p (n-1))with
   | true=>
     rw[if_pos rfl]
     by_cases hq0:q > 0
     ·rw[if_pos hq0]
      have hd':=Dn.turn O (by omega) hq hd he
      have hn':at0 (kas_rev p (n-(q+1)) n) n=at0 p n:=by rw[gW (by omega),if_neg (by omega)]
      have hl':c (at0 (kas_rev p (n-(q+1)) n) n) (at0 (kas_rev p (n-(q+1)) n) (n-1))=true:=by
       rw[hn',gW (by omega),if_pos (by omega)]
       -- alike to the last one
       cases hx:c (at0 p n) (at0 p (n-(q+1)+n-1-(n-1)))with
       | true=>rfl
       | false=>
         have:=O.nt (he (n-(q+1)+n-1-(n-1)) (n-1) (by omega) (by omega) (by omega) (by omega)) hx
         rw[hl]at this;exact this.symm
      refine uO f _ (n+1) 0 (hp.rev _ _) (by omega) (by omega) (Dn.less O h1 hd' hl') (by omega) (one _) fun p' m q' a1 a2 a3 a4 a5 a6=>k p' m q' a1 (by omega) (by omega) a4 a5 a6
     ·rw[if_neg hq0]
      exact uO f p (n+1) 0 hp (by omega) (by omega) (Dn.less O h1 hd hl) (by omega) (one _) fun p' m q' a1 a2 a3 a4 a5 a6=>k p' m q' a1 (by omega) (by omega) a4 a5 a6
   | false=>
     rw[if_neg Bool.false_ne_true]
     show cmp (at0 p (n-1)) (at0 p n) (fun b s'=>(if b=true then KasT.ret (p,n,q)else kas_desc f p (n+1) (q+1)).kasWp cmp G s') s
     refine hc _ _ _ (hp.lt (by omega)) (hp.lt (by omega)) ?_
     cases hg:c (at0 p (n-1)) (at0 p n)with
     | true=>rw[if_pos rfl];exact k p n q hp (Nat.le_refl _) (by omega) hd hq he
     | false=>
       rw[if_neg Bool.false_ne_true]
       have e1:∀ i,n-(q+1)<=i->i < n->c (at0 p i) (at0 p n)=false/\c (at0 p n) (at0 p i)=false:=fun i a1 a2=>
        ⟨O.nt hg (he i (n-1) a1 a2 (by omega) (by omega)),O.nt (he (n-1) i (by omega) (by omega) a1 a2) hl⟩
       refine uO f p (n+1) (q+1) hp (by omega) (by omega) (fun i j hij hj=>?_) (by omega) (fun i j a1 a2 a3 a4=>?_) fun p' m q' a1 a2 a3 a4 a5 a6=>k p' m q' a1 (by omega) (by omega) a4 a5 a6
       ·by_cases hjn:j < n
        ·exact hd i j hij hjn
        ·have:j=n:=by omega
         subst this
         by_cases hi:i=j
         ·subst hi;exact O.ir _
         ·exact O.nt hg (hd i (j-1) (by omega) (by omega))
       ·by_cases hi:i=n
        ·by_cases hj:j=n
         ·subst hi;subst hj;exact O.ir _
         ·subst hi;exact(e1 j (by omega) (by omega)).2
        ·by_cases hj:j=n
         ·subst hj;exact(e1 i (by omega) (by omega)).1
         ·exact he i j (by omega) (by omega) (by omega) (by omega)
theorem bF2{p:Array Nat}{n:Nat}(hp:Pm N p)(h1:1<=n)(hn:n<=N)(hd:Dn c p n){G:Nat×Array Nat->Shared->Prop}(k:∀ m p',Pm N p'->1<=m->m<=N->Up c p' m->G (m,p') s):(kas_tail3 n N p).kasWp cmp G s:=by
 have hs:=hp.size
 unfold kas_tail3
 rw[KasT.kasWp_bind]
 refine bF1 O hc (hp.rev 0 n) (N-n) n h1 (by omega) (fun i j hij hj=>?_) fun m a1 a2 a3 _=>k m _ (hp.rev 0 n) (by omega) (by omega) a3
 rw[gW (by omega),gW (by omega),if_pos (by omega),if_pos (by omega)]
 exact hd _ _ (by omega) (by omega)
theorem qE{p:Array Nat}{n:Nat}(hp:Pm N p)(h1:1<=n)(hn:n+1<=N)(hd:Dn c p (n+1)){G:Nat×Array Nat->Shared->Prop}(k:∀ m p',Pm N p'->1<=m->m<=N->Up c p' m->G (m,p') s):(kas_descPart n N p).kasWp cmp G s:=by
 unfold kas_descPart
 rw[KasT.kasWp_bind]
 refine uO O hc (N-(n+1)) p (n+1) 0 hp (by omega) (by omega) hd (by omega) (fun i j a1 a2 a3 a4=>?_) fun p' m q' b1 b2 b3 b4 b5 b6=>?_
 ·have:i=n:=by omega
  have:j=n:=by omega
  subst i;subst j;exact O.ir _
 ·have hs:=b1.size
  dsimp only
  split
  ·exact bF2 O hc (b1.rev _ _) (by omega) (by omega) (Dn.turn O (by omega) b5 b4 b6) k
  ·exact bF2 O hc b1 (by omega) (by omega) b4 k
theorem bQ1{p:Array Nat}(hp:Pm N p)(hN:1<=N){G:Nat×Array Nat->Shared->Prop}(k:∀ m p',Pm N p'->1<=m->m<=N->Up c p' m->G (m,p') s):(kas_count N p).kasWp cmp G s:=by
 have hs:=hp.size
 unfold kas_count
 rw[KasT.kasWp_bind]
 refine bF1 O hc hp (N-1) 1 (Nat.le_refl _) (by omega) (fun i j hij hj=>?_) fun n a1 a2 a3 a4=>?_
 ·have:i=j:=by omega
  subst this;exact O.ir _
 ·by_cases hnN:n=N
  ·subst hnN;rw[if_pos (by simp)];exact k n p hp (by omega) (Nat.le_refl _) a3
  ·rw[if_neg (by simpa using hnN)]
   have hlt:c (at0 p n) (at0 p (n-1))=true:=by rcases a4 with z | z;omega;exact z
   by_cases hn1:n > 1
   ·rw[if_pos hn1]
    show cmp (at0 p 0) (at0 p (n-1)) (fun b s'=>(if b=true then KasT.ret (n,p)else kas_descPart n N (kas_rev p 0 n)).kasWp cmp G s') s
    refine hc _ _ _ (hp.lt (by omega)) (hp.lt (by omega)) ?_
    cases hr:c (at0 p 0) (at0 p (n-1))with
    | true=>rw[if_pos rfl];exact k n p hp (by omega) (by omega) a3
    | false=>
      rw[if_neg Bool.false_ne_true]
      -- all of them are alike
      have al:∀ i j,i < n->j < n->c (at0 p i) (at0 p j)=false:=fun i j hi hj=>by
       have x1:c (at0 p 0) (at0 p j)=false:=O.nt (a3 j (n-1) (by omega) (by omega)) hr
       have x2:c (at0 p i) (at0 p 0)=false:=a3 0 i (by omega) hi
       exact O.nt x1 x2
      refine qE O hc (hp.rev 0 n) (by omega) (by omega) (Dn.less O (by omega) (fun i j hij hj=>?_) ?_) k
      ·rw[gW (by omega),gW (by omega),if_pos (by omega),if_pos (by omega)]
       exact al _ _ (by omega) (by omega)
      ·rw[gW (by omega),gW (by omega),if_neg (by omega),if_pos (by omega)]
       cases hx:c (at0 p n) (at0 p (0+n-1-(n-1)))with
       | true=>rfl
       | false=>
         have:=O.nt (al (0+n-1-(n-1)) (n-1) (by omega) (by omega)) hx
         rw[hlt]at this;exact this.symm
   ·rw[if_neg hn1]
    have:n=1:=by omega
    subst this
    refine qE O hc hp (Nat.le_refl _) (by omega) (Dn.less O (Nat.le_refl _) (fun i j hij hj=>?_) hlt) k
    have:i=j:=by omega
    subst this;exact O.ir _
theorem uP{p:Array Nat}{k:Nat}(hp:Pm N p)(hk:k < N)(hu:Up c p k):∀ (f l r:Nat) {G:Nat->Shared->Prop},l<=r->r<=k->r-l<=f->(∀ i,i < l->c (at0 p k) (at0 p i)=false)->(∀ i,r<=i->i < k->c (at0 p k) (at0 p i)=true) ->
  (∀ m,m<=k->(∀ i,i < m->c (at0 p k) (at0 p i)=false)->(∀ i,m<=i->i < k->c (at0 p k) (at0 p i)=true)->G m s)->(kas_place p k f l r).kasWp cmp G s
 | 0,l,r,G,h1,h2,h3,a,b,q=>by
   have:l=r:=by omega
   subst this
   exact q l h2 a b
 | f+1,l,r,G,h1,h2,h3,a,b,q=>by
   unfold kas_place
   split
   ·have:l=r:=by omega
    subst this
    exact q l h2 a b
   ·show cmp (at0 p k) (at0 p ((l+r) / 2)) (fun d s'=>(if d=true then kas_place p k f l ((l+r) / 2)else kas_place p k f ((l+r) / 2+1) r).kasWp cmp G s') s
    refine hc _ _ _ (hp.lt hk) (hp.lt (by omega)) ?_
    cases hq:c (at0 p k) (at0 p ((l+r) / 2))with
    | true=>
      rw[if_pos rfl]
      refine uP hp hk hu f l _ (by omega) (by omega) (by omega) a (fun i hi1 hi2=>?_) q
      cases hx:c (at0 p k) (at0 p i)with
      | true=>rfl
      | false=>
        have:=hu ((l+r) / 2) i hi1 hi2
        have:=O.nt this hx
        rw[hq]at this;exact this.symm
    | false=>
      rw[if_neg Bool.false_ne_true]
      refine uP hp hk hu f _ r (by omega) h2 (by omega) (fun i hi=>?_) b q
      exact O.nt (hu i ((l+r) / 2) (by omega) (by omega)) hq
theorem bX8:∀ (f:Nat) (p:Array Nat) (k:Nat) {G:Array Nat->Shared->Prop},Pm N p->k+f=N->Up c p k->(∀ p',Pm N p'->Up c p' N->G p' s)->(kas_bin f p k).kasWp cmp G s
 | 0,p,k,G,hp,hk,hu,q=>by
   have:k=N:=by omega
   subst this
   exact q p hp hu
 | f+1,p,k,G,hp,hk,hu,q=>by
   have hs:=hp.size
   unfold kas_bin
   rw[KasT.kasWp_bind]
   refine uP O hc hp (by omega) hu k 0 k (Nat.zero_le _) (Nat.le_refl _) (by omega) (fun i h=>absurd h (Nat.not_lt_zero _)) (fun i h1 h2=>by omega) fun m hm h1 h2=>?_
   have gb:∀ i,at0 (bubble p k (k-m)) i=if i=m then at0 p k else if m < i/\i<=k then at0 p (i-1)else at0 p i:=fun i=>by
    have e:=getElem?_bubble (xs:=p) (src:=k) (by omega) (k-m) (by omega) i
    have e1:k-(k-m)=m:=by omega
    rw[e1]at e
    by_cases z1:i=m
    ·rw[if_pos z1]at e ⊢;exact wZ e
    ·rw[if_neg z1]at e ⊢
     by_cases z2:m < i/\i<=k
     ·rw[if_pos z2]at e ⊢;exact wZ e
     ·rw[if_neg z2]at e ⊢;exact wZ e
   refine bX8 f _ (k+1) (hp.of (bubble_perm ..)) (by omega) (fun i j hij hj=>?_) q
   rw[gb,gb]
   by_cases zj:j=m
   ·rw[if_pos zj]
    by_cases zi:i=m
    ·rw[if_pos zi];exact O.ir _
    ·rw[if_neg zi,if_neg (by omega)];exact h1 i (by omega)
   ·rw[if_neg zj]
    by_cases zi:i=m
    ·rw[if_pos zi,if_pos (by omega)]
     -- the placed one is less than those behind it
     have x:=h2 (j-1) (by omega) (by omega)
     cases hy:c (at0 p (j-1)) (at0 p k)with
     | false=>rfl
     | true=>have:=O.tr hy x;rw[O.ir]at this;exact this.symm
    ·rw[if_neg zi]
     by_cases yj:m < j/\j<=k
     ·rw[if_pos yj]
      by_cases yi:m < i/\i<=k
      ·rw[if_pos yi];exact hu _ _ (by omega) (by omega)
      ·rw[if_neg yi];exact hu _ _ (by omega) (by omega)
     ·rw[if_neg yj,if_neg (by omega)];exact hu _ _ hij (by omega)
theorem cG8(hN:1<=N){G:Array Nat->Shared->Prop}(q:∀ p,Pm N p->Up c p N->G p s):(kas_sort N).kasWp cmp G s:=by
 unfold kas_sort
 rw[KasT.kasWp_bind]
 refine bQ1 O hc (p:=List.toArray (List.range N)) (.refl _) hN fun m p' hp h1 h2 hu=>?_
 dsimp only
 split
 ·have e:max m 1=m:=by omega
  rw[e]
  exact bX8 O hc (N-m) p' m hp (by omega) hu q
 ·have:m=N:=by omega
  subst this
  exact q p' hp hu
end
def tlt:List Int->List Int->Bool
 | _,[]=>false
 | [],_::_=>true
 | a::x,b::y=>if a=b then tlt x y else decide (a < b)
theorem qF:∀ x,tlt x x=false
 | []=>rfl
 | a::x=>by show(if a=a then tlt x x else _)=false;rw[if_pos rfl];exact qF x
theorem aO5:∀ {x y z},tlt x y=true->tlt y z=true->tlt x z=true
 | _,[],_,h,_=>by simp[tlt]at h
 | _,_::_,[],_,h=>by simp[tlt]at h
 | [],_::_,_::_,_,_=>rfl
 | a::x,b::y,d::z,h1,h2=>by
   have h1':(if a=b then tlt x y else decide (a < b))=true:=h1
   have h2':(if b=d then tlt y z else decide (b < d))=true:=h2
   show(if a=d then tlt x z else decide (a < d))=true
   by_cases e1:a=b
   ·rw[if_pos e1]at h1'
    by_cases e2:b=d
    ·rw[if_pos e2]at h2';rw[if_pos (e1.trans e2)];exact aO5 h1' h2'
    ·rw[if_neg e2]at h2';rw[if_neg (by omega)];simp at h2' ⊢;omega
   ·rw[if_neg e1]at h1'
    by_cases e2:b=d
    ·rw[if_pos e2]at h2';rw[if_neg (by omega)];simp at h1' ⊢;omega
    ·rw[if_neg e2]at h2'
     simp at h1' h2'
     rw[if_neg (by omega)];simp;omega
theorem bX9:∀ {x y z},tlt y x=false->tlt z y=false->tlt z x=false
 | [],_,_,_,_=>by cases ‹List Int› <;> rfl
 | _::_,[],_,h,_=>by simp[tlt]at h
 | _::_,_::_,[],_,h=>by simp[tlt]at h
 | a::x,b::y,d::z,h1,h2=>by
   have h1':(if b=a then tlt y x else decide (b < a))=false:=h1
   have h2':(if d=b then tlt z y else decide (d < b))=false:=h2
   show(if d=a then tlt z x else decide (d < a))=false
   by_cases e1:b=a
   ·rw[if_pos e1]at h1'
    by_cases e2:d=b
    ·rw[if_pos e2]at h2';rw[if_pos (e2.trans e1)];exact bX9 h1' h2'
    ·rw[if_neg e2]at h2';rw[if_neg (by omega)];simp at h2' ⊢;omega
   ·rw[if_neg e1]at h1'
    by_cases e2:d=b
    ·rw[if_pos e2]at h2';rw[if_neg (by omega)];simp at h1' ⊢;omega
    ·rw[if_neg e2]at h2'
     simp at h1' h2'
     rw[if_neg (by omega)];simp;omega
theorem zD:∀ {x y},tlt x y=false->tlt y x=false->x=y
 | [],[],_,_=>rfl
 | [],_::_,h,_=>by simp[tlt]at h
 | _::_,[],_,h=>by simp[tlt]at h
 | a::x,b::y,h1,h2=>by
   have h1':(if a=b then tlt x y else decide (a < b))=false:=h1
   have h2':(if b=a then tlt y x else decide (b < a))=false:=h2
   by_cases e:a=b
   ·rw[if_pos e]at h1';rw[if_pos e.symm]at h2';rw[e,zD h1' h2']
   ·rw[if_neg e]at h1';rw[if_neg fun z=>e z.symm]at h2'
    simp at h1' h2';omega
theorem cG9(ks:List (List Int)):Ord fun i j=>tlt (ks.getD i []) (ks.getD j []):=⟨fun a=>qF _,aO5,bX9⟩
section
variable{prog:Program}{w:World}{A:Around}{E:Value->Shared->Prop}{s:Shared}
theorem bY0{b:Bool}{Q:Bool->Shared->Prop}:∀ {x y:List Int} {xs ys:List Value} (i:Nat) (fin:Bool),ItemsAre (intKind prog w) x xs->ItemsAre (intKind prog w) y ys->fin=decide (xs.length+i < ys.length+i)->Q (tlt x y) s->KatLex prog w A b (decide (xs.length < ys.length)) Q (xs.zip ys) i s
 | _,_,_,_,i,fin,.nil,.nil,_,q=>q
 | _,_,_,_,i,fin,.nil,.cons _ _,_,q=>by
   show Q (decide (0 < _)) s
   rw[decide_eq_true (by simp)];exact q
 | _,_,_,_,i,fin,.cons _ _,.nil,_,q=>by
   show Q (decide (_ < 0)) s
   rw[decide_eq_false (by simp)];exact q
 | _,_,_,_,i,fin,.cons (k:=a) (ks:=x) h1 r1,.cons (k:=d) (ks:=y) h2 r2,_,q=>by
   obtain⟨t,rfl⟩:=Value.isInt_shape h1
   obtain⟨u,rfl⟩:=Value.isInt_shape h2
   rw[List.zip_cons_cons]
   refine kat_cons (wpAny_eqBool_int ?_)
   have q':Q (if a=d then tlt x y else decide (a < d)) s:=q
   by_cases e:a=d
   ·rw[if_pos e]at q'
    rw[show(a==d)=true from beq_iff_eq.mpr e]
    refine kat_yes ?_
    have:=bY0 (b:=b) (i+1) (decide (_+(i+1) < _+(i+1))) r1 r2 rfl q'
    simpa using this
   ·rw[if_neg e]at q'
    rw[show(a==d)=false by simpa using e]
    refine kat_no ?_
    cases (b&&i==0)with
    | true=>exact oneLt_int q'
    | false=>exact kat_one _ _ (lt_int q')
theorem cH0{ks:List (List Int)}{vs:List Value}{b:Bool}{N:Addr->Prop}{i j:Nat}{C:Bool->Shared->Prop}(T:iT prog w s.heap N ks vs.toArray)(hi:i < vs.length)(hj:j < vs.length)(q:C (tlt (ks.getD i []) (ks.getD j [])) s):kas_ask prog w A (tuples' b) vs i j C s:=by
 obtain⟨k1,a1,e1,v1,⟨o1,x1,n1,g1,_,d1,r1⟩,_⟩:=T.2 i vs[i] (by rw[List.getElem?_toArray];exact List.getElem?_eq_getElem hi)
 obtain⟨k2,a2,e2,v2,⟨o2,x2,n2,g2,_,d2,r2⟩,_⟩:=T.2 j vs[j] (by rw[List.getElem?_toArray];exact List.getElem?_eq_getElem hj)
 have f1:vs.getD i Value.none=.ref a1:=by rw[List.getD_eq_getElem?_getD,List.getElem?_eq_getElem hi,v1];rfl
 have f2:vs.getD j Value.none=.ref a2:=by rw[List.getD_eq_getElem?_getD,List.getElem?_eq_getElem hj,v2];rfl
 have f3:ks.getD i []=k1:=by rw[List.getD_eq_getElem?_getD,e1];rfl
 have f4:ks.getD j []=k2:=by rw[List.getD_eq_getElem?_getD,e2];rfl
 unfold kas_ask
 rw[f1,f2]
 rw[f3,f4]at q
 refine kat_lt g1 d1 g2 d2 ?_
 have:=bY0 (b:=b) (A:=A) 0 (decide (x1.toList.length+0 < x2.toList.length+0)) r1 r2 rfl q
 simpa using this
theorem bQ2{ks:List (List Int)}{vs:List Value}{N:Addr->Prop}{Q:SortKind->Shared->Prop}(T:iT prog w s.heap N ks vs.toArray)(hne:0 < vs.length)(hk:∀ k∈ks,k≠[])(q:Q (tuples' true) s):wpAny (model prog w) A (keyKind' vs.toArray) Q E s:=by
 have key:∀ (vs:List Value) (ks:List (List Int)),(∀ (i:Nat) v,vs[i]? = some v->∃ k a,ks[i]? = some k/\v=.ref a/\nV prog w s.heap k a)->(∀ k∈ks,k≠[])->∃ fs:List Value,KatTups s.heap vs fs/\fs.length=vs.length/\∀ v∈fs,∃ i t,v=.int i t:=by
  intro vs
  induction vs with
  | nil=>intro ks _ _;exact⟨[],KatTups.nil,rfl,by simp⟩
  | cons v r ih=>
    intro ks h1 h2
    obtain⟨k,a,e1,rfl,o,items,n,g,hc,hd,hi⟩:=h1 0 v rfl
    cases ks with
    | nil=>simp at e1
    | cons k' ks=>
      simp at e1
      subst e1
      obtain⟨fs,f1,f2,f3⟩:=ih ks (fun i u hu=>h1 (i+1) u (by simpa using hu)) fun x hx=>h2 x (List.mem_cons_of_mem _ hx)
      have hk0:=h2 _ List.mem_cons_self
      cases hit:items.toList with
      | nil=>
        rw[hit]at hi
        cases hi
        exact absurd rfl hk0
      | cons f gF=>
        have e0:items[0]? = some f:=by rw[← Array.getElem?_toList,hit];rfl
        obtain⟨i,t,ef⟩:=jV hi f (by rw[hit];exact List.mem_cons_self)
        refine⟨f::fs,KatTups.cons g hc hd e0 f1,by simp[f2],fun x hx=>?_⟩
        rcases List.mem_cons.mp hx with rfl | hx
        ·exact⟨i,t,ef⟩
        ·exact f3 x hx
 obtain⟨fs,f1,f2,f3⟩:=key vs ks (fun i v e=>by
  obtain⟨k,a,h1,h2,h3,_⟩:=T.2 i v (by rw[List.getElem?_toArray];exact e)
  exact⟨k,a,h1,h2,h3⟩) hk
 refine kat_kind (T:=.type "int") f1 (by omega) (fun v hv=>?_) (by decide) q
 obtain⟨i,t,rfl⟩:=f3 v hv
 exact .now
theorem bF3{ks:List (List Int)}{vs:List Value}{N:Addr->Prop}{D n:Nat}{P:PySem.Fin->Shared->Prop}(ho:s.heap.get? D=some (seqObj "list" vs.toArray n))(hD:¬ N D)(T:iT prog w s.heap N ks vs.toArray)(h64:vs.length < 64)(hk:2<=vs.length->∀ k∈ks,k≠[])
  (q:∀ h' p c,Pm vs.length p->Up (fun i j=>tlt (ks.getD i []) (ks.getD j [])) p vs.length->h'.get? D=some (seqObj "list" (List.toArray (p.toList.map fun i=>vs.getD i Value.none)) c)->(∀ b ob,b≠D->s.heap.get? b=some ob->h'.get? b=some ob)->P (.done (.ret .none)) {s with heap:=h'}) :
  wpAny (model prog w) A (Builtin.«list.sort» ⟨[.ref D],[]⟩) P E s:=by
 have hlt:D < s.heap.objs.size:=Heap.lt_size ho
 have hz:vs.length<=sizeLine:=by rw[sizeLine_eq];omega
 rw[list_sort_plain]
 refine wpAny_bind (listItems_at ho rfl (wpAny_bind (listUpdate_at ho rfl ?_ (by simpa using hz) (Nat.zero_le _))))
 obtain⟨e1,ho1⟩:∃ e1,(s.heap.update D (Obj.mapSeq fun _=>(#[]:Array Value))).get? D=some (seqObj "list" #[] e1):=⟨_,get?_update_seq ho fun _=>#[]⟩
 refine wpAny_bind (seqEpoch_at ho1 rfl (wpAny_bind (wpAny_newTuple ?_ (by simpa using hz))))
 refine wpAny_bind (wpAny_newList ?_ (Nat.zero_le _))
 refine wpAny_holding ?_
 have kept:∀ b ob,b≠D->s.heap.get? b=some ob->(((s.heap.update D (Obj.mapSeq fun _=>(#[]:Array Value))).push (seqObj "tuple" vs.toArray 0)).push (seqObj "list" #[] 0)).get? b=some ob:=fun b ob hb e=>Heap.get?_push_of_some _ (Heap.get?_push_of_some _ ((Heap.get?_update_other _ _ (Ne.symm hb)).trans e))
 have hoD:(((s.heap.update D (Obj.mapSeq fun _=>(#[]:Array Value))).push (seqObj "tuple" vs.toArray 0)).push (seqObj "list" #[] 0)).get? D=some (seqObj "list" #[] e1):=Heap.get?_push_of_some _ (Heap.get?_push_of_some _ ho1)
 show wpAny (model prog w) A _ P E {s with heap:=((s.heap.update D (Obj.mapSeq fun _=>(#[]:Array Value))).push (seqObj "tuple" vs.toArray 0)).push (seqObj "list" #[] 0)}
 generalize ((s.heap.update D (Obj.mapSeq fun _=>(#[]:Array Value))).push (seqObj "tuple" vs.toArray 0)).push (seqObj "list" #[] 0)=h1 at kept hoD ⊢
 have T1:iT prog w h1 N ks vs.toArray:=T.stay fun b ob hb e=>kept b ob (fun z=>hD (z ▸ hb)) e
 dsimp only
 have fin:∀ (out:Array Value) (p:Array Nat),out=List.toArray (p.toList.map fun i=>vs.getD i Value.none)->Pm vs.length p->Up (fun i j=>tlt (ks.getD i []) (ks.getD j [])) p vs.length->out.size<=sizeLine+1 ->
   P (.done (.ret .none)) {s with heap:=h1.update D (Obj.mapSeq fun _=>out)}:=fun out p e hp hu _=>by
  obtain⟨c2,hc2⟩:∃ c2,(h1.update D (Obj.mapSeq fun _=>out)).get? D=some (seqObj "list" out c2):=⟨_,get?_update_seq hoD fun _=>out⟩
  subst e
  exact q _ p c2 hp hu hc2 fun b ob hb e=>(Heap.get?_update_other _ _ (Ne.symm hb)).trans (kept b ob hb e)
 by_cases h2:vs.toArray.size < 2
 ·rw[if_pos h2,if_pos h2]
  refine wpAny_bind (wpAny_pure ?_)
  rw[StateT.run_pure]
  refine wpAny_bind (wpAny_pure ?_)
  dsimp only
  refine wpAny_bind (seqEpoch_at hoD rfl ?_)
  have es:(arrOf (SortSt.mk' general' (vs.toArray.zip vs.toArray) #[] 7 none)).map (·.2)=vs.toArray:=by
   show(vs.toArray.zip vs.toArray).map (·.2)=vs.toArray
   apply Array.toList_inj.mp
   rw[Array.toList_map,Array.toList_zip,List.map_snd_zip (Nat.le_refl _)]
  refine wpAny_bind (listUpdate_at hoD rfl ?_ (Nat.zero_le _) (by rw[es];simp;omega))
  simp only[bne_self_eq_false,Bool.false_eq_true,if_false]
  rw[es]
  refine wpAny_pure (fin vs.toArray (List.toArray (List.range vs.length)) ?_ (.refl _) (fun i j hij hj=>?_) (by simp;omega))
  ·apply Array.toList_inj.mp
   show vs=(List.range vs.length).map fun i=>vs.getD i Value.none
   refine List.ext_getElem? fun i=>?_
   rw[List.getElem?_map]
   by_cases hi:i < vs.length
   ·rw[List.getElem?_range hi,List.getElem?_eq_getElem hi]
    simp[hi]
   ·rw[List.getElem?_eq_none (by omega),List.getElem?_eq_none (by simp;omega)];rfl
  ·have:i=j:=by simp at h2;omega
   subst this;exact qF _
 ·rw[if_neg h2,if_neg h2]
  have h2':2<=vs.length:=by simp at h2;omega
  refine wpAny_bind (bQ2 (s:={s with heap:=h1}) T1 (by omega) (hk h2') ?_)
  refine wpAny_bind (wpAny_mono (kat_run (s:={s with heap:=h1}) (κ:=tuples' true) (Q:=fun st' s'=>s'={s with heap:=h1}/\failedOf st'=none/\∃ p:Array Nat,Pm vs.length p/\Up (fun i j=>tlt (ks.getD i []) (ks.getD j [])) p vs.length/\(arrOf st').map (·.2)=List.toArray (p.toList.map fun i=>vs.getD i Value.none))
   (G:=fun p s'=>s'={s with heap:=h1}/\Pm vs.length p/\Up (fun i j=>tlt (ks.getD i []) (ks.getD j [])) p vs.length) rfl h2' h64 (fun p st' s' a1 a2 a3 ⟨a4,a5,a6⟩=>⟨a4,a3,p,a5,a6,kat_snds rfl a2⟩) ?_) ?_ fun _ _ e=>e)
  ·exact cG8 (cG9 ks) (fun i j C hi hj q'=>cH0 (s:={s with heap:=h1}) T1 hi hj q') (by omega) fun p hp hu=>⟨rfl,hp,hu⟩
  ·rintro⟨⟨⟩,st'⟩ s' ⟨rfl,hf,p,hp,hu,hout⟩
   dsimp only
   refine wpAny_bind (seqEpoch_at hoD rfl ?_)
   have hsz:(List.toArray (p.toList.map fun i=>vs.getD i Value.none)).size=vs.length:=by rw[List.size_toArray,List.length_map,Array.length_toList,hp.size]
   rw[hout]
   refine wpAny_bind (listUpdate_at hoD rfl ?_ (Nat.zero_le _) (by show(List.toArray _).size<=_;rw[hsz];omega))
   rw[hf]
   simp only[bne_self_eq_false,Bool.false_eq_true,if_false]
   exact wpAny_pure (fin _ p rfl hp hu (by rw[hsz];omega))
end
def bF4(k:List Int):List (List Int)->List (List Int)
 | []=>[k]
 | x::r=>if tlt k x=true then k::x::r else if k=x then x::r else x::bF4 k r
def srt:List (List Int)->List (List Int)
 | []=>[]
 | k::r=>bF4 k (srt r)
abbrev cH1(l:List (List Int)):Prop:=l.Pairwise fun a b=>tlt a b=true
theorem uQ(k:List Int):∀ (l:List (List Int)) (x:List Int),x∈bF4 k l↔x=k\/x∈l
 | [],x=>by simp[bF4]
 | y::r,x=>by
   unfold bF4
   split
   ·simp
   ·split
    ·rename_i h;subst h;simp
    ·rw[List.mem_cons,uQ k r x,List.mem_cons]
     constructor
     ·rintro(h | h | h)
      ·exact .inr (.inl h)
      ·exact .inl h
      ·exact .inr (.inr h)
     ·rintro(h | h | h)
      ·exact .inr (.inl h)
      ·exact .inl h
      ·exact .inr (.inr h)
theorem aO6(k:List Int):∀ (l:List (List Int)),cH1 l->cH1 (bF4 k l)
 | [],_=>List.pairwise_singleton _ _
 | y::r,h=>by
   obtain⟨h1,h2⟩:=List.pairwise_cons.mp h
   unfold bF4
   split
   ·rename_i hk
    refine List.pairwise_cons.mpr ⟨fun x hx=>?_,h⟩
    rcases List.mem_cons.mp hx with rfl | hx
    ·exact hk
    ·exact aO5 hk (h1 x hx)
   ·split
    ·exact h
    ·rename_i hn he
     refine List.pairwise_cons.mpr ⟨fun x hx=>?_,aO6 k r h2⟩
     rcases(uQ k r x).mp hx with rfl | hx
     ·cases hq:tlt y x with
      | true=>rfl
      | false=>exact absurd (zD (by simpa using hn) hq) he
     ·exact h1 x hx
theorem kU:∀ (l:List (List Int)) (x:List Int),x∈srt l↔x∈l
 | [],x=>by simp[srt]
 | k::r,x=>by
   show x∈bF4 k (srt r)↔_
   rw[uQ,kU r x,List.mem_cons]
theorem uR:∀ (l:List (List Int)),cH1 (srt l)
 | []=>.nil
 | k::r=>aO6 k _ (uR r)
theorem bF5{l:List (List Int)}(h:cH1 l):l.Nodup:=List.nodup_iff_pairwise_ne.mpr (h.imp fun{a b} h e=>by subst e;rw[qF]at h;cases h)
theorem bY1:∀ {a b:List (List Int)},cH1 a->cH1 b->(∀ x,x∈a↔x∈b)->a=b
 | [],[],_,_,_=>rfl
 | [],y::b,_,_,h=>by have:=(h y).mpr List.mem_cons_self;simp at this
 | x::a,[],_,_,h=>by have:=(h x).mp List.mem_cons_self;simp at this
 | x::a,y::b,ha,hb,h=>by
   obtain⟨a1,a2⟩:=List.pairwise_cons.mp ha
   obtain⟨b1,b2⟩:=List.pairwise_cons.mp hb
   have hxy:x=y:=by
    rcases List.mem_cons.mp ((h x).mp List.mem_cons_self)with e | e
    ·exact e
    ·rcases List.mem_cons.mp ((h y).mpr List.mem_cons_self)with e' | e'
     ·exact e'.symm
     ·have:=aO5 (b1 x e) (a1 y e')
      rw[qF]at this;cases this
   subst hxy
   have nx:x∉a:=fun z=>by have:=a1 x z;rw[qF]at this;cases this
   have ny:x∉b:=fun z=>by have:=b1 x z;rw[qF]at this;cases this
   rw[bY1 a2 b2 fun z=>?_]
   constructor
   ·intro hz
    rcases List.mem_cons.mp ((h z).mp (List.mem_cons_of_mem _ hz))with e | e
    ·subst e;exact absurd hz nx
    ·exact e
   ·intro hz
    rcases List.mem_cons.mp ((h z).mpr (List.mem_cons_of_mem _ hz))with e | e
    ·subst e;exact absurd hz ny
    ·exact e
theorem cW3{ks l:List (List Int)}{p:Array Nat}(hn:ks.Nodup)(hm:∀ x,x∈ks↔x∈l)(hp:Pm ks.length p)(hu:Up (fun i j=>tlt (ks.getD i []) (ks.getD j [])) p ks.length):p.toList.map (fun i=>ks.getD i [])=srt l:=by
 have hs:=hp.size
 have e1:(List.range ks.length).map (fun i=>ks.getD i [])=ks:=by
  refine List.ext_getElem? fun i=>?_
  rw[List.getElem?_map]
  by_cases hi:i < ks.length
  ·rw[List.getElem?_range hi,List.getElem?_eq_getElem hi];simp[hi]
  ·rw[List.getElem?_eq_none (l:=ks) (by omega),List.getElem?_eq_none (l:=List.range ks.length) (by rw[List.length_range];omega)];rfl
 have pm:(p.toList.map fun i=>ks.getD i []).Perm ks:=by
  have:=hp.map fun i=>ks.getD i []
  rw[e1]at this;exact this
 refine bY1 ?_ (uR l) fun x=>by rw[pm.mem_iff,hm x,kU]
 have nd:(p.toList.map fun i=>ks.getD i []).Nodup:=pm.nodup_iff.mpr hn
 rw[cH1,List.pairwise_iff_getElem]
 intro i j hi hj hij
 have hi':i < p.size:=by simpa using hi
 have hj':j < p.size:=by simpa using hj
 have ei:at0 p i=p.toList[i]:=by simp[at0,Array.getD,hi']
 have ej:at0 p j=p.toList[j]:=by simp[at0,Array.getD,hj']
 have h1:=hu i j (Nat.le_of_lt hij) (by omega)
 rw[ei,ej]at h1
 have h1':tlt (ks.getD p.toList[j] []) (ks.getD p.toList[i] [])=false:=h1
 rw[List.getElem_map,List.getElem_map]
 cases hq:tlt (ks.getD p.toList[i] []) (ks.getD p.toList[j] [])with
 | true=>rfl
 | false=>
   exfalso
   have e:=zD hq h1'
   have:=(List.nodup_iff_pairwise_ne.mp nd)
   rw[List.pairwise_iff_getElem]at this
   exact this i j hi hj hij (by rw[List.getElem_map,List.getElem_map];exact e)
end Sx
namespace PySem
open Sx PySem.W PyProof.Rows
section
variable{prog:Program}{w:World}{A:Around}{E:Value->Shared->Prop}{s:Shared}{S:Addr}{N:Addr->Prop}{ks:List (List Int)}{o:Obj}{es:Array (Int×Value)}{ep:Nat}{t:SetTable}
theorem zE(hh:A.handled=none)(X:lY prog w s.heap S (fR w) N ks o es ep t)(hN:∀ a,N a->a < s.heap.objs.size)(h64:es.size < 64)(hk:2<=es.size->∀ k∈ks,k≠[]){l:List (List Int)}(hm:∀ x,x∈ks↔x∈l){Q:Value->Shared->Prop}
  (q:∀ h' tk D vs c,s.heap.objs.size<=D->h'.get? D=some (seqObj "list" (List.toArray vs) c)->iT prog w h' N (srt l) (List.toArray vs)->(∀ b ob,s.heap.get? b=some ob->h'.get? b=some ob)->Q (.ref D) {s with heap:=h',toks:=tk}) :
  wpAny (model prog w) A (call (.builtin "sorted") [.ref S]) Q E s:=by
 have hz:es.size<=sizeLine:=by rw[sizeLine_eq];omega
 -- the keys in the order of the walk
 have pm:=qC (w:=w) (S:=S) (ep:=ep) es
 have hwl:(cQ w S ep es).toList.length=es.size:=by have:=pm.length_eq;simpa using this
 have hitem:∀ e∈(cQ w S ep es).toList,∃ k a,k∈ks/\e=(tupleKeyHash (intKind prog w) k,Value.ref a)/\nV prog w s.heap k a/\N a:=fun e he=>by
  have:=pm.mem_iff.mp he
  obtain⟨i,hi,ei⟩:=Array.getElem_of_mem (by simpa using this:e∈es)
  obtain⟨k,a,h1,h2,h3,h4⟩:=X.it i e (by rw[Array.getElem?_eq_getElem hi,ei])
  exact⟨k,a,List.mem_of_getElem? h1,h2,h3,h4⟩
 -- one key for each
 have hks:∃ us:List (List Int),us.Perm ks/\us.length=es.size/\∀ (i:Nat) e,(cQ w S ep es).toList[i]? = some e->∃ k a,us[i]? = some k/\e.2=Value.ref a/\nV prog w s.heap k a/\N a:=by
  -- a key for each entry,by its own value
  have f:∀ e:Int×Value,∃ k:List Int,∀ k' a,e.2=Value.ref a->nV prog w s.heap k' a->k'=k:=fun e=>by
   by_cases h:∃ k' a,e.2=Value.ref a/\nV prog w s.heap k' a
   ·obtain⟨k',a,h1,h2⟩:=h
    refine⟨k',fun k'' a' h1' h2'=>?_⟩
    rw[h1]at h1'
    cases h1'
    exact h2'.inj h2
   ·exact⟨[],fun k' a h1 h2=>absurd ⟨k',a,h1,h2⟩ h⟩
  let g:Int×Value->List Int:=fun e=>Classical.choose (f e)
  have gs:∀ e k a,e.2=Value.ref a->nV prog w s.heap k a->k=g e:=fun e k a=>Classical.choose_spec (f e) k a
  have ge:es.toList.map g=ks:=by
   refine List.ext_getElem? fun i=>?_
   rw[List.getElem?_map,Array.getElem?_toList]
   by_cases hi:i < es.size
   ·rw[Array.getElem?_eq_getElem hi]
    obtain⟨k,a,h1,h2,h3,_⟩:=X.it i es[i] (Array.getElem?_eq_getElem hi)
    rw[h1]
    show some (g es[i])=some k
    rw[← gs es[i] k a (by rw[h2]) h3]
   ·rw[Array.getElem?_eq_none (by omega),List.getElem?_eq_none (by rw[X.len];omega)];rfl
  refine⟨(cQ w S ep es).toList.map g,?_,by rw[List.length_map];exact hwl,fun i e he=>?_⟩
  ·have:=pm.map g
   rw[ge]at this;exact this
  ·obtain⟨k,a,h1,h2,h3,h4⟩:=hitem e (List.mem_of_getElem? he)
   refine⟨k,a,?_,by rw[h2],h3,h4⟩
   rw[List.getElem?_map,he]
   show some (g e)=some k
   rw[← gs e k a (by rw[h2]) h3]
 obtain⟨us,up,ul,ui⟩:=hks
 refine Calls.call_function_entry kind_sorted plain_sorted entry_sorted (args_sorted1 _) ?_
 unfold Builtin.«sorted»
 refine wpAny_bind (m:=checkCount "sorted" 1 1 _) (wpAny_pure ?_)
 refine wpAny_bind (wY (A:=A.in1) hh X hz fun h1 tk1 kept1 grown1=>?_)
 generalize hvs:(cQ w S ep es).toList.map (·.2)=vs
 have vl:vs.length=es.size:=by rw[← hvs,List.length_map];exact hwl
 have T1:iT prog w h1 N us vs.toArray:=by
  refine⟨by rw[ul,List.size_toArray];exact vl.symm,fun i v e=>?_⟩
  rw[List.getElem?_toArray,← hvs,List.getElem?_map]at e
  obtain⟨e',ee,rfl⟩:=Option.map_eq_some_iff.mp e
  obtain⟨k,a,h1',h2,h3,h4⟩:=ui i e' ee
  exact⟨k,a,h1',h2,h3.at fun ob hob=>kept1 a ob hob,h4⟩
 refine wpAny_bind (wpAny_newList ?_ (by rw[vl];exact hz))
 have hoD:(h1.push (seqObj "list" vs.toArray 0)).get? h1.objs.size=some (seqObj "list" vs.toArray 0):=Heap.get?_push_size _ rfl
 have up1:∀ b ob,h1.get? b=some ob->(h1.push (seqObj "list" vs.toArray 0)).get? b=some ob:=fun b ob e=>Heap.get?_push_of_some _ e
 have hND:¬ N h1.objs.size:=fun z=>absurd (hN _ z) (Nat.not_lt.mpr (Nat.le_of_lt grown1))
 have T2:iT prog w (h1.push (seqObj "list" vs.toArray 0)) N us vs.toArray:=T1.stay fun b ob _ e=>up1 b ob e
 have hku:2<=vs.length->∀ k∈us,k≠[]:=fun h k hk'=>hk (by omega) k (up.mem_iff.mp hk')
 refine wpAny_bind (wpAny_holding (wpAny_call_entry slot_list_sort ⟨_,hoD,rfl⟩ entry_list_sort (bF3 (s:={s with heap:=h1.push (seqObj "list" vs.toArray 0),toks:=tk1}) hoD hND T2 (by rw[vl];exact h64) hku fun h2 p c hp hu ho2 kept2=>⟨_,rfl,?_⟩) (args_list_sort _)))
 refine wpAny_pure ⟨_,rfl,?_⟩
 have nN:∀ b,N b->b≠h1.objs.size:=fun b hb z=>hND (z ▸ hb)
 have hul:us.length=vs.length:=by rw[ul,vl]
 rw[← hul]at hp hu
 have hsr:=cW3 (l:=l) (up.nodup_iff.mpr X.nd) (fun x=>(up.mem_iff).trans (hm x)) hp hu
 refine q h2 tk1 h1.objs.size _ c (Nat.le_of_lt grown1) ho2 ⟨?_,fun i v e=>?_⟩ fun b ob e=>kept2 b ob (fun z=>?_) (up1 b ob (kept1 b ob e))
 ·rw[← hsr];simp
 ·rw[List.getElem?_toArray,List.getElem?_map]at e
  obtain⟨j,ej,rfl⟩:=Option.map_eq_some_iff.mp e
  have hj:j < vs.length:=by
   have:=(hp.mem_iff.mp (List.mem_of_getElem? ej))
   rw[List.mem_range]at this;omega
  obtain⟨k,a,e1,e2,e3,e4⟩:=T1.2 j vs[j] (by rw[List.getElem?_toArray];exact List.getElem?_eq_getElem hj)
  refine⟨k,a,?_,?_,e3.at (fun ob hob=>kept2 a ob (nN a e4) (up1 a ob hob)),e4⟩
  ·rw[← hsr,List.getElem?_map,ej]
   show some (us.getD j [])=some k
   rw[List.getD_eq_getElem?_getD,e1];rfl
  ·rw[List.getD_eq_getElem?_getD,List.getElem?_eq_getElem hj];exact e2
 ·exact absurd (Heap.lt_size (z ▸ e)) (Nat.not_lt.mpr (Nat.le_of_lt grown1))
end
end PySem
namespace Dv
open PySem L2 Mr
section
variable{Γ:Gm}{H H0:Hp}{σ σ0:Sg}{σV σV0:St}{i:Nat}{v:V}
end
section
variable{K:PySem.W.Frag}{H:Hp}{C fI:Addr}{f:Str}{E:XK}{Q:Addr->Hp->Prop}
end
end Dv
namespace L2
open PySem PySem.Spec PyProof.Rows
end L2
namespace PySem
section
variable{κ:Type}[DecidableEq κ]
end
section
variable{prog:Program}{w:World}{A:Around}{κ:Type}[DecidableEq κ]{knd:KeyKind prog w κ}
end
end PySem
namespace L2
open PySem PySem.Spec PyProof.Rows
theorem uT{X:Cx}{id U:String}{x y:Str}{p p' pos pos':Pos}{e:Expr}{es:List Expr}{t:TA}{r:List V->Hp->VK->Prop}
  (hc:∀ pins s σ H vs us Q,Inv X pins σ H s->cE vs us->r vs H Q->wpAny (model X.prog X.w) X.A (call (.type U) us) (fun u s1=>wpAny (model X.prog X.w) X.A (call (.builtin id) [u]) (EP X pins σ Q) X.xe s1) X.xe s)
  (hg:Gl X x) (hm:X.mg x=none) (hv:bootBuiltins x=some (.builtin id)) (hg':Gl X y) (hm':X.mg y=none) (hv':bootBuiltins y=some (.type U)) (ha:PA X (e::es) t)
  (hn:x≠"__name__":=by decide) (hdb:(x==("__debug__":Str))=false:=by decide) (hn':y≠"__name__":=by decide) (hdb':(y==("__debug__":Str))=false:=by decide)
  (he:starEach (e::es) X.env=(false,eval e X.env)::starEach es X.env:=by rfl) (hpl:(backTo pos' (starEach es X.env)).any (·.1)=false:=by rfl)
  (hs:starEach [.Call (.Name y p') (e::es) [] pos'] X.env=(false,eval (.Call (.Name y p') (e::es) [] pos') X.env)::starEach [] X.env:=by rfl) :
  PE X (.Call (.Name x p) [.Call (.Name y p') (e::es) [] pos'] [] pos) (tCB r t):=by
 intro pins s σ H Q I h
 refine wpAny_Call_Name_kw (iV I hg hm hv (PyProof.Rows.callWith_builtin1 ?_ hs (by rfl)) hn hdb)
 rw[hs]
 (show wpAny _ _ (spliced ((false,eval (.Call (.Name y p') (e::es) [] pos') X.env)::backTo pos (starEach [] X.env))) _ _ s;refine Calls.spliced_cons (wpAny_Call_Name_kw (iV I hg' hm' hv' (PyProof.Rows.callWith_type1 ?_ he hpl) hn' hdb')))
 exact thn (ha pos' pins s σ H _ I h) fun us s1 ⟨vs,H1,I1,r1,q1⟩=>thn (hc pins s1 σ H1 vs us Q I1 r1 q1) fun u s2 h2=>Calls.spliced_nil h2
theorem bQ3{X:Cx}{pins:List (Addr×Obj)}{σ:St}{H:Hp}{s:Shared}{p:Addr}{b:Bool}{xs:List V}(I:Inv X pins σ H s)(hc:X.calm=true)(h:eT H p=some (b,xs)) :
  ∃ items:List Value,cE xs items/\Nonempty (Src X.prog X.w X.A s.heap p items.toArray.size fun i v=>items.toArray[i]? = some v):=by
 cases b with
 | true=>
   obtain⟨its,r,⟨o,n,e1,e2,e3,e4⟩,_⟩:=I.list (eU h)
   exact⟨its,r,⟨Src.list (I.ok.hd hc) ⟨o,e1,e2,n,e4⟩⟩⟩
 | false=>
   obtain⟨its,r,q,_⟩:=I.tuple (cY h)
   exact⟨its,r,⟨Src.tup (I.ok.hd hc) q⟩⟩
end L2
namespace Dv
open PySem L2 Mr
end Dv
namespace L2
open PySem PySem.Spec PyProof.Rows Sx
theorem lT{prog:Program}{w:World}:∀ {k:List Int} {us:List Value},cE (k.map V.int) us->ItemsAre (intKind prog w) k us
 | [],_,.nil=>.nil
 | i::r,_,.cons h t=>by
   obtain⟨tk,rfl⟩:=h
   exact .cons (by simp[intKind,Value.isInt]) (lT t)
theorem zF{X:Cx}{pins:List (Addr×Obj)}{σ:St}{H:Hp}{s:Shared}{a:Addr}{k:List Int}(I:Inv X pins σ H s)(h:H a=some (.tup (k.map V.int))):nV X.prog X.w s.heap k a:=by
 obtain⟨its,r,⟨o,ho,hc,n,hd⟩,_⟩:=I.tuple (cY (bU h))
 exact⟨o,its.toArray,n,ho,hc,hd,by simpa using lT r⟩
def aO7:List V->Hp->VK->Prop:=fun vs H Q=>∃ (p:Addr) (b:Bool) (ps:List Addr) (ks:List (List Int)),vs=[.ref p]/\eT H p=some (b,ps.map V.ref)/\ps.length=ks.length/\(∀ (i:Nat) a k,ps[i]? = some a->ks[i]? = some k->H a=some (.tup (k.map V.int))) /\
 ks.length < 4000/\(srt ks).length < 64/\(2<=(srt ks).length->∀ k∈ks,k≠[]) /\
 ∀ r (qs:List Addr),H r=none->qs.length=(srt ks).length->(∀ (i:Nat) a k,qs[i]? = some a->(srt ks)[i]? = some k->H a=some (.tup (k.map V.int)))->Q (.ref r) (upd H r (.lst (qs.map V.ref)))
theorem jM{X:Cx}(hc:X.calm=true)(hu:X.A.units+8 < cLine):∀ pins s σ H vs us Q,Inv X pins σ H s->cE vs us->aO7 vs H Q ->
  wpAny (model X.prog X.w) X.A (call (.type "set") us) (fun u s1=>wpAny (model X.prog X.w) X.A (call (.builtin "sorted") [u]) (EP X pins σ Q) X.xe s1) X.xe s:=by
 intro pins s σ H vs us Q I rv h
 obtain⟨p,b,ps,ks,rfl,hH,hl,hk,hn,h64,hne,q⟩:=h
 obtain⟨u,rfl,ru⟩:=rv.one
 cases ru
 obtain⟨its,r,⟨src⟩⟩:=bQ3 I hc hH
 have hlen:ps.length=its.length:=by simpa using r.length
 have alive:∀ a∈ps,a < s.heap.objs.size:=fun a ha=>by
  obtain⟨i,hi,e⟩:=List.getElem_of_mem ha
  have hi':i < ks.length:=by omega
  obtain⟨o,_,_,ho,_⟩:=zF I (hk i a ks[i] (by rw[List.getElem?_eq_getElem hi,e]) (List.getElem?_eq_getElem hi'))
  exact Heap.lt_size ho
 have T0:iT X.prog X.w s.heap (· ∈ ps) ks its.toArray:=by
  refine⟨by rw[List.size_toArray];omega,fun i v e=>?_⟩
  rw[List.getElem?_toArray]at e
  have hi:i < ps.length:=by rw[hlen];exact(List.getElem?_eq_some_iff.mp e).1
  have hi':i < ks.length:=by omega
  obtain⟨v',e',rv'⟩:=r.get (i:=i) (x:=.ref ps[i]) (by rw[List.getElem?_map,List.getElem?_eq_getElem hi];rfl)
  rw[e]at e'
  cases e'
  cases rv'
  exact⟨ks[i],ps[i],List.getElem?_eq_getElem hi',rfl,zF I (hk i _ _ (List.getElem?_eq_getElem hi) (List.getElem?_eq_getElem hi')),List.getElem_mem hi⟩
 have nS:¬ s.heap.objs.size∈ps:=fun z=>absurd (alive _ z) (Nat.lt_irrefl _)
 have nI:¬ s.heap.objs.size+1∈ps:=fun z=>absurd (alive _ z) (Nat.not_lt.mpr (Nat.le_succ _))
 refine bP7 src (fun A' ha hu'=>bE3 (prog:=X.prog) (w:=X.w) (led:=fR X.w) (N:=(· ∈ ps)) (ks:=ks) (by omega) nS nI (Nat.ne_of_lt (Nat.lt_succ_self _)) hn) (fun h' hS hold=>?_) fun h' tk ⟨T1,us,X1,_,hm⟩ hkeep=>?_
 ·refine⟨T0.stay fun c ob _ e=>hold c ob e,[],⟨_,#[],0,_,hS,⟨rfl,rfl,rfl⟩,rfl,?_,?_,rfl,rfl,rfl,fun i e he=>by simp at he,.nil⟩,Nat.le_refl _,fun x=>by simp⟩
  ·refine⟨⟨3,rfl⟩,Nat.le_refl _,rfl,fun i j a b _ e=>by simp[SetTable.fresh]at e,fun i j e=>by simp[SetTable.fresh]at e,rfl,by simp[SetTable.fresh],fun i h e=>by simp at e⟩
  ·simp[SetTable.fresh]
 ·obtain⟨o,es,ep,t,Y⟩:=X1
  have hm':∀ x,x∈us↔x∈ks:=fun x=>by
   rw[hm x,List.take_of_length_le (by rw[List.size_toArray];omega)]
  have pl:us.length=(srt ks).length:=((List.perm_ext_iff_of_nodup Y.nd (bF5 (uR ks))).mpr fun x=>by rw[hm' x,kU]).length_eq
  have hes:es.size=(srt ks).length:=by rw[← Y.len];exact pl
  have hgr:s.heap.objs.size < h'.objs.size:=Heap.lt_size Y.ob
  refine zE (s:={s with heap:=h',toks:=tk}) (I.ok.hd hc) Y (fun a ha=>Nat.lt_trans (alive a ha) hgr) (by omega) (fun h2 k hk'=>hne (by omega) k ((hm' k).mp hk')) hm' fun h2 tk2 D vs c hD ho2 T2 keep2=>?_
  -- the addresses of what is told
  have hq:∃ qs:List Addr,vs=qs.map Value.ref/\qs.length=(srt ks).length/\∀ (i:Nat) a k,qs[i]? = some a->(srt ks)[i]? = some k->H a=some (.tup (k.map V.int)):=by
   have f:∀ v∈vs,∃ a,v=Value.ref a:=fun v hv=>by
    obtain⟨i,hi,e⟩:=List.getElem_of_mem hv
    obtain⟨_,a,_,e2,_⟩:=T2.2 i v (by rw[List.getElem?_toArray,List.getElem?_eq_getElem hi,e])
    exact⟨a,e2⟩
   have g:∀ vs:List Value,(∀ v∈vs,∃ a,v=Value.ref a)->∃ qs:List Addr,vs=qs.map Value.ref:=by
    intro vs
    induction vs with
    | nil=>intro _;exact⟨[],rfl⟩
    | cons v r ih=>
      intro hv
      obtain⟨a,rfl⟩:=hv v List.mem_cons_self
      obtain⟨qs,rfl⟩:=ih fun x hx=>hv x (List.mem_cons_of_mem _ hx)
      exact⟨a::qs,rfl⟩
   obtain⟨qs,rfl⟩:=g vs f
   have l1:qs.length=(srt ks).length:=by have:=T2.1;simpa using this.symm
   refine⟨qs,rfl,l1,fun i a k ea ek=>?_⟩
   obtain⟨k',a',e1,e2,e3,e4⟩:=T2.2 i (.ref a) (by rw[List.getElem?_toArray,List.getElem?_map,ea];rfl)
   rw[ek]at e1
   cases e1
   cases e2
   obtain⟨j,hj,ej⟩:=List.getElem_of_mem e4
   have hj':j < ks.length:=by omega
   have hHa:=hk j a ks[j] (by rw[List.getElem?_eq_getElem hj,ej]) (List.getElem?_eq_getElem hj')
   have t1:nV X.prog X.w h2 ks[j] a:=(zF I hHa).at fun ob hob=>keep2 a ob (hkeep a ob hob)
   rw[e3.inj t1];exact hHa
  obtain⟨qs,rfl,ql,qh⟩:=hq
  have hD':s.heap.objs.size<=D:=Nat.le_trans (Nat.le_of_lt hgr) hD
  refine⟨.ref D,upd H D (.lst (qs.map V.ref)),?_,rfl,q D qs (I.hok.fresh hD') ql qh⟩
  refine I.laid (t':=tk2) (fun b ob e=>keep2 b ob (hkeep b ob e)) hD' ⟨by rw[List.length_map,ql,sizeLine_eq];omega,qs.map Value.ref,c,?_,ho2⟩
  have vr:∀ l:List Addr,cE (l.map V.ref) (l.map Value.ref):=by
   intro l
   induction l with
   | nil=>exact .nil
   | cons a r ih=>exact .cons rfl ih
  exact vr qs
def dI1(r:V->List V->Hp->VK->Prop)(to:TE)(t:TA):TE:=fun σ H Q=>to σ H fun x H1=>(∃ p xs,x=.ref p/\H1 p=some (.tup xs))/\t σ H1 fun xs H2=>r x xs H2 Q
section
variable{X:Cx}{o e:Expr}{es:List Expr}{to:TE}{t:TA}{name:Str}{apos cpos:Pos}{id:String}{r:V->List V->Hp->VK->Prop}
theorem bY2(slot:Slot "tuple" name id)(hty:typeOf (.builtin id)=pure (.type "method_descriptor"))(hm:MtR X id r)(ho:PE X o to)(ha:PA X (e::es) t)
  (hbase:attributeBase o name X.env (eval o X.env)=eval o X.env:=by rfl)
  (hfew:((backTo cpos (starEach (e::es) X.env)).all (fun x=>!x.1)&&(backToKw cpos (keywordEach [] X.env)).all (fun x=>x.1.isSome)&&decide ((e::es).length+([]:List Keyword).length+(if([]:List Keyword).isEmpty then 0 else 1) < 30))=true:=by rfl)
  (hline:(apos.endLine==cpos.line)=true:=by rfl) (hs:starEach (e::es) X.env=(false,eval e X.env)::starEach es X.env:=by rfl) (hplain:(backTo cpos (starEach es X.env)).any (·.1)=false:=by rfl) :
  PE X (.Call (.Attribute o name apos) (e::es) [] cpos) (dI1 r to t):=by
 intro pins s σ H Q I h
 refine wpAny_Call_method_late hbase hfew hline rfl (thn (ho pins s σ H _ I h) fun v s1 ⟨x,H1,I1,r1,⟨p,xs,ex,hp⟩,q1⟩=>?_)
 subst ex
 have ev:v=.ref p:=r1
 subst ev
 obtain⟨_,its,_,⟨ob,e1,c1,_⟩,⟨ob2,e2,d2⟩⟩:=(show eB X.prog X.w H1 s1.heap p (.tup xs)from I1.hok p _ hp)
 refine⟨"tuple",id,F.plainAttrs_tuple,slot,hty,⟨ob,e1,c1⟩,fun a ea=>?_,?_⟩
 ·cases ea;exact⟨ob2,e2,d2⟩
 ·have hA:=ha cpos pins s1 σ H1 _ I1 q1
  rw[hs]at hA ⊢
  refine Calls.callWith_builtin (by show(false||(backTo cpos (starEach es X.env)).any (·.1))=false;rw[hplain]<;>rfl) (Calls.evalArgs_plain ?_)
  exact thn hA fun us s2 ⟨vs,H2,I2,r2,q2⟩=>hm pins s2 σ H2 (.ref p) vs _ us Q I2 r1 r2 q2
end
end L2
namespace Dv
open PySem L2 Mr Sx
def aT5:List D->Option (List Int)
 | []=>some []
 | .int i::r=>(aT5 r).bind fun l=>some (i::l)
 | _::_=>none
theorem aO8:∀ {l:List D} {zs:List Int},aT5 l=some zs->l=zs.map D.int
 | [],_,h=>by cases h;rfl
 | .int s::r,_,h=>by
   obtain⟨l,e1,e2⟩:=aD h
   cases e2
   rw[aO8 e1];rfl
 | .non::_,_,h=>by cases h
 | .str _::_,_,h=>by cases h
 | .bl _::_,_,h=>by cases h
 | .tup _::_,_,h=>by cases h
 | .lst _::_,_,h=>by cases h
 | .dic _ _::_,_,h=>by cases h
theorem bF6(zs:List Int):aT5 (zs.map D.int)=some zs:=by
 induction zs with
 | nil=>rfl
 | cons b r ih=>show(aT5 (r.map D.int)).bind _=_;rw[ih];rfl
abbrev tI(k:List Int):D:=.tup (k.map D.int)
def aT6:List D->Option (List (List Int))
 | []=>some []
 | .tup k::r=>(aT5 k).bind fun k'=>(aT6 r).bind fun l=>some (k'::l)
 | _::_=>none
theorem aO9:∀ {l:List D} {zs:List (List Int)},aT6 l=some zs->l=zs.map tI
 | [],_,h=>by cases h;rfl
 | .tup k::r,_,h=>by
   obtain⟨k',e0,h⟩:=aD h
   obtain⟨l,e1,e2⟩:=aD h
   cases e2
   rw[aO9 e1,aO8 e0];rfl
 | .non::_,_,h=>by cases h
 | .str _::_,_,h=>by cases h
 | .bl _::_,_,h=>by cases h
 | .int _::_,_,h=>by cases h
 | .lst _::_,_,h=>by cases h
 | .dic _ _::_,_,h=>by cases h
theorem bF7(zs:List (List Int)):aT6 (zs.map tI)=some zs:=by
 induction zs with
 | nil=>rfl
 | cons b r ih=>show(aT5 (b.map D.int)).bind (fun k'=>(aT6 (r.map tI)).bind _)=_;rw[ih,bF6];rfl
theorem dF4{H:Hp}{k:List Int}{v:V}(h:Rp H (tI k) v):∃ a,v=.ref a/\H a=some (.tup (k.map V.int)):=by
 cases h with
 | tup h r=>rw[r.ints_inv]at h;exact⟨_,rfl,h⟩
theorem bY3{H:Hp}:∀ {ks:List (List Int)} {xs:List V},Rps H (ks.map tI) xs->∃ ps:List Addr,xs=ps.map V.ref/\ps.length=ks.length/\∀ (i:Nat) a k,ps[i]? = some a->ks[i]? = some k->H a=some (.tup (k.map V.int))
 | [],_,h=>by cases h;exact⟨[],rfl,rfl,fun i a k e=>by simp at e⟩
 | k::ks,_,h=>by
   rw[List.map_cons]at h
   cases h with
   | cons a t=>
     obtain⟨p,rfl,hp⟩:=dF4 a
     obtain⟨ps,rfl,hl,hk⟩:=bY3 t
     refine⟨p::ps,rfl,by simp[hl],fun i a k' ea ek=>?_⟩
     cases i with
     | zero=>simp at ea ek;subst ea ek;exact hp
     | succ i=>exact hk i a k' (by simpa using ea) (by simpa using ek)
theorem bF8{H:Hp}:∀ {ks:List (List Int)} {ps:List Addr},ps.length=ks.length->(∀ (i:Nat) a k,ps[i]? = some a->ks[i]? = some k->H a=some (.tup (k.map V.int)))->Rps H (ks.map tI) (ps.map V.ref)
 | [],[],_,_=>.nil
 | [],_::_,h,_=>by simp at h
 | _::_,[],h,_=>by simp at h
 | k::ks,p::ps,h,hk=>.cons (.tup (hk 0 p k rfl rfl) (gG k)) (bF8 (by simpa using h) fun i a k' ea ek=>hk (i+1) a k' (by simpa using ea) (by simpa using ek))
open Classical in
noncomputable def iK:FN:=fun ds=>match ds with
 | [d]=>(cL2 d).bind fun x=>(aT6 x.2).bind fun ks=>if ks.length < 4000/\(srt ks).length < 64/\(2<=(srt ks).length->∀ k∈ks,k≠[])then some (.own (.lst ((srt ks).map tI)))else none
 | _=>none
theorem kW:bJ6 aO7 iK:=by
 intro H ds vs Q res vw e k
 unfold iK at e
 split at e
 ·obtain⟨⟨b,l⟩,e1,e⟩:=aD e
  obtain⟨ks,e2,e⟩:=aD e
  dsimp only at e2
  split at e
  ·rename_i hz
   cases e
   cases vw with
   | cons a t=>
     cases t
     obtain⟨p,xs,rfl,h1,h2⟩:=cT1 a e1
     rw[aO9 e2]at h2
     obtain⟨ps,rfl,hl,hk⟩:=bY3 h2
     refine⟨p,b,ps,ks,rfl,h1,hl,hk,hz.1,hz.2.1,hz.2.2,fun r qs hr ql qk=>?_⟩
     have sm:xS H (upd H r (.lst (qs.map V.ref))):=bH hr
     exact k _ _ sm ⟨r,rfl,hr,_,aR,bF8 ql fun i a k' ea ek=>sm _ _ (qk i a k' ea ek)⟩
  ·cases e
 ·cases e
theorem cW4{ks:List (List Int)}{K:Res->Prop}:OK1 (iK [.lst (ks.map tI)]) K=((ks.length < 4000/\(srt ks).length < 64/\(2<=(srt ks).length->∀ k∈ks,k≠[]))/\K (.own (.lst ((srt ks).map tI)))):=by
 show OK1 ((aT6 (ks.map tI)).bind _) K=_
 rw[bF7]
 show OK1 (if _ then _ else none) K=_
 rw[bO];rfl
abbrev FT:=List D->D->Option D
def dI2(r:V->List V->Hp->L2.VK->Prop)(f:FT):Prop:=∀ H l xs e p y Q d,H p=some (.tup xs)->Rps H l xs->Vw H e y->f l e=some d->(∀ v,Rp H d v->Q v H)->r (.ref p) [y] H Q
def dMT(f:FT)(ro ra:DE):DE:=fun σ=>(ro σ).bind fun x=>match x.1 with
 | .val (.tup l)=>(ra x.2).bind fun y=>(rd y.2 y.1).bind fun e=>(f l e).bind fun d=>some (.val d,y.2)
 | _=>none
theorem cW5{X:Cx}{e:Expr}{r:V->List V->Hp->L2.VK->Prop}{f:FT}{ro ra:DE}(hp:dI2 r f)(h:∀ Γ,PE X e (dI1 r (dTE Γ ro) (dTA Γ (aC ra aM)))):GE X e (dMT f ro ra):=.mk fun Γ=>peW (h Γ) fun σV H Q ⟨σ,ok,res,σ',e,k⟩=>by
 have e0:=e
 clear e
 obtain⟨⟨x,σ1⟩,e1,f1⟩:=aD e0
 clear e0
 dsimp only at f1
 have hx:∃ l,x=.val (.tup l):=by
  cases x with
  | val dd=>
    cases dd with
    | tup l=>exact⟨l,rfl⟩
    | _=>cases f1
  | _=>cases f1
 obtain⟨l,rfl⟩:=hx
 refine⟨σ,ok,_,σ1,e1,fun v1 H1 ok1 r1 st1 _=>?_⟩
 obtain⟨⟨y,σ2⟩,e2,f2⟩:=aD f1
 obtain⟨d2,e3,f3⟩:=aD f2
 obtain⟨d,e4,f4⟩:=aD f3
 cases f4
 dsimp only at e2 e3
 have r1':Rp H1 (.tup l) v1:=r1
 obtain⟨p,xs,rfl,h1,h2⟩:=eG (.inl r1')
 refine⟨⟨p,xs,rfl,h1⟩,σ1,ok1,[y],σ2,?_,fun vs H2 ok2 r2 st2 _=>?_⟩
 ·show((_:Option _).bind _)=_
  rw[e2];rfl
 ·cases r2 with
  | cons ry t _=>
    cases t
    have x2:=st2.ext ok1
    refine hp H2 l xs d2 p _ Q d (x2.tup _ _ h1) (h2.mono x2) (ry.vw ok2 e3) e4 fun v rv=>?_
    exact k v H2 ok2 rv (st1.trans st2) gN
theorem dF5{σ:Sg}{f:FT}{ro ra:DE}{Q:Res->Sg->Prop}:RE (dMT f ro ra) σ Q=RE ro σ fun x σ1=>OK1 (match x with | .val (.tup l)=>some l | _=>none) fun l=>RE ra σ1 fun y σ2=>RD σ2 y fun e=>OK1 (f l e) fun d=>Q (.val d) σ2:=by
 unfold RE RD dMT
 simp only[aP]
 congr 1
 funext x
 obtain⟨x,σ1⟩:=x
 cases x with
 | val d=>
   cases d with
   | tup l=>simp only[aP];rfl
   | _=>rfl
 | _=>rfl
end Dv
namespace L2
theorem bF9{A:PySem.Around}{k:Nat}(hr:Room k A):A.units+8 < PySem.cLine:=by have:=hr.un;omega
end L2
namespace PySem.SeqAt
open PySem MeetsSeq MeetsSeq2 MeetsSeq3 SeqRoads2
theorem mQ{M:Model}{A:Around}{E:Value->Shared->Prop}{s:Shared}{β:Type}(lo hi:Nat)(f:Nat->β->Sem (ForInStep β))(I:Nat->β->Shared->Prop)(Q:β->Shared->Prop)
  (turn:∀ i b s,lo<=i->i < hi->I i b s->wpAny M A (f i b) (fun r s'=>match r with | .yield b'=>I (i+1) b' s' | .done b'=>Q b' s') E s)
  (fin:∀ b s,I (max lo hi) b s->Q b s) (b:β) (h:I lo b s):wpAny M A (forIn [lo:hi] b f) Q E s:=by
 rw[Std.Legacy.Range.forIn_eq_forIn_range']
 refine wpAny_forIn_list f (fun l b s=>∃ i,lo<=i/\i<=max lo hi/\l=List.range' i (max lo hi-i)/\I i b s) Q ?_ ?_ _ b ⟨lo,Nat.le_refl _,by omega,?_,h⟩
 ·rintro x gF b s ⟨i,h1,h2,e,hI⟩
  cases e2:max lo hi-i with
  | zero=>rw[e2]at e;simp at e
  | succ m=>
    rw[e2,List.range'_succ]at e
    obtain⟨rfl,rfl⟩:=List.cons.inj e
    refine L2.thn (turn x b s h1 (by omega) hI) fun r s' hr=>?_
    cases r with
    | yield b'=>exact⟨x+1,by omega,by omega,by rw[show max lo hi-(x+1)=m by omega],hr⟩
    | done b'=>exact hr
 ·rintro b s ⟨i,h1,h2,e,hI⟩
  have:i=max lo hi:=by
   have:=congrArg List.length e
   simp at this
   omega
  subst this
  exact fin b s hI
 ·show List.range' lo ((hi-lo+1-1) / 1) 1=_
  rw[Nat.div_one,show hi-lo+1-1=max lo hi-lo by omega]
theorem tuple_indexAt(l:Addr)(items:Array Value)(n:Nat)(dd:Option Addr)(sl:Array (Option Value))(x:Value)(e:Value->Bool)(j:Nat)(hj:j < items.size)(hb:∀ m (hm:m < items.size),m < j->e items[m]=false)(ha:e items[j]=true) :
  Meets (Builtin.«tuple.index» ⟨[.ref l,x],[]⟩)
   (fun A R s=>s.heap.get? l=some {cls:=.type "tuple",dict:=dd,data:=.seq items n,slots:=sl}/\(∀ y,y∈items->EqAt A.in1 s y x (e y))/\R (.ok (.ret (.int j s.toks))) {s with toks:=s.toks+1}):=
 .of_wp fun prog w A R s h=>by
  obtain⟨hp,g,d,tk,os⟩:=s;obtain⟨hl,he,h⟩:=h
  wp_walk using wpAny_loadPart' hl,mQ _ _ _ (fun i (b:Option (PySem.Fin)×PUnit) s'=>s'=⟨hp,g,d,tk,os⟩/\b=(none,⟨⟩)/\i<=j) _
  case turn=>
   rintro i b s' _ hi ⟨rfl,rfl,hij⟩
   have hi':i < items.size:=by omega
   rw[Array.getElem?_eq_getElem hi']
   refine wpAny_bind (he _ (Array.getElem_mem hi') prog w _ _ ?_)
   rcases Nat.lt_or_eq_of_le hij with l | rfl
   ·rw[hb i hi' l]
    wp_walk
    exact⟨rfl,rfl,l⟩
   ·rw[ha]
    wp_walk
    exact⟨_,rfl,h⟩
  case fin=>
   rintro b s' ⟨_,_,hl⟩
   omega
  case h=>exact⟨rfl,rfl,Nat.zero_le _⟩
end PySem.SeqAt
namespace L2
open PySem PySem.Spec PyProof.Rows Sx
theorem lU(a b:Value):argsOk "tuple.index" ⟨[a,b],[]⟩:=by
 unfold argsOk;rw[signature?_of (id:="tuple.index") (n:=['x','e','d','n','i']) (o:=['e','l','p','u','t']) (by kernel_rfl) F.owner_tuple];kernel_rfl
theorem bQ4{zs:List V}{us:List Value}(h:cE zs us){i:Nat}{x:V}(e:zs[i]? = some x):∃ u,us[i]? = some u/\eO x u:=by
 induction h generalizing i with
 | nil=>simp at e
 | cons a t ih=>
   cases i with
   | zero=>simp at e;subst e;exact⟨_,rfl,a⟩
   | succ i=>exact ih (by simpa using e)
def bG0:V->List V->Hp->VK->Prop:=fun x vs H Q=>∃ (l:Addr) (zs:List Str) (z:Str),x=.ref l/\vs=[.str z]/\H l=some (.tup (zs.map V.str))/\z∈zs/\Q (.int (zs.idxOf z:Nat)) H
theorem xA{X:Cx}:MtR X "tuple.index" bG0:=by
 intro pins s σ H x vs v us Q I rx rv h
 obtain⟨l,zs,z,rfl,rfl,hH,hz,q⟩:=h
 cases rx
 obtain⟨u,rfl,ru⟩:=rv.one
 obtain⟨t,rfl⟩:=ru
 obtain⟨_,its,r,⟨⟨oc,od,oda,sl⟩,e,c,n,d⟩,_⟩:=(show eB X.prog X.w H s.heap l (.tup (zs.map V.str))from I.hok l _ hH)
 dsimp only at c d
 subst c d
 have hj:zs.idxOf z < zs.length:=List.idxOf_lt_length_iff.mpr hz
 have hlen:its.length=zs.length:=by
  have:=r.length
  simpa using this.symm
 have at_:∀ m (hm:m < its.toArray.size),∃ (hm':m < zs.length) (t':Tok),its.toArray[m]=.str zs[m] t':=fun m hm=>by
  have hm2:m < its.length:=by simpa using hm
  have hm':m < zs.length:=by omega
  obtain⟨u,e1,e2⟩:=bQ4 (i:=m) r (by rw[List.getElem?_map,List.getElem?_eq_getElem hm'];rfl)
  obtain⟨t',rfl⟩:=e2
  rw[List.getElem?_eq_getElem hm2]at e1
  exact⟨hm',t',by simpa using Option.some.inj e1⟩
 refine call_meets F.slot_tuple_index ⟨_,e,rfl⟩ F.entry_tuple_index (lU _ _) (PySem.SeqAt.tuple_indexAt l its.toArray n od sl (.str z t) (isZ z) (zs.idxOf z) (by simp;omega) (fun m hm hlt=>?_) ?_) ⟨e,fun y hy=>?_,?_⟩
 ·obtain⟨hm',t',e'⟩:=at_ m hm
  rw[e']
  show(zs[m]==z)=false
  have h:=List.not_of_lt_findIdx (p:=(· == z)) (xs:=zs) hlt
  simpa using h
 ·obtain⟨hm',t',e'⟩:=at_ (zs.idxOf z) (by simp;omega)
  rw[e']
  show(zs[zs.idxOf z]==z)=true
  simp
 ·obtain⟨y',t',rfl⟩:=aZ5 r y (by simpa using hy)
  exact fun prog w E Q h=>eqBool_str h
 ·exact⟨.int _,H,I.tok _,⟨_,rfl⟩,q⟩
end L2
namespace Dv
open PySem L2 Mr Sx
def cW6:FT:=fun l e=>match e with
 | .str z=>(wK l).bind fun zs=>if z∈zs then some (.int (zs.idxOf z:Nat))else none
 | _=>none
theorem aP0:dI2 bG0 cW6:=by
 intro H l xs e p y Q d hp r v2 e1 k
 unfold cW6 at e1
 split at e1
 ·obtain⟨zs,e2,e1⟩:=aD e1
  split at e1
  ·rename_i hz
   cases e1
   rw[iN v2]
   rw[uG e2]at r
   rw[r.strs_inv]at hp
   exact⟨p,zs,_,rfl,rfl,hp,hz,k _ (.int _)⟩
  ·cases e1
 ·cases e1
theorem cH2{zs:List Str}{z:Str}{K:D->Prop}:OK1 (cW6 (zs.map D.str) (.str z)) K=(z∈zs/\K (.int (zs.idxOf z:Nat))):=by
 show OK1 ((wK (zs.map D.str)).bind _) K=_
 rw[wL]
 show OK1 (if _ then _ else none) K=_
 rw[bO];rfl
end Dv
namespace PySem
open Sx L2
section
variable{prog:Program}{w:World}{A:Around}{E:Value->Shared->Prop}{s:Shared}{S I:Addr}{led:Bool}{o:Obj}{es:Array (Int×Value)}{ep:Nat}{t:SetTable}
end
end PySem
namespace PySem
open Sx
open PySem.W PyProof.Rows
section
variable{prog:Program}{w:World}{A:Around}{E:Value->Shared->Prop}{s:Shared}{S:Addr}{led:Bool}{ks:List Int}
end
end PySem
namespace Sx
open PySem PySem.W PyProof.Rows
end Sx
namespace PySem
open Sx PySem.W PyProof.Rows
section
variable{prog:Program}{w:World}{A:Around}{E:Value->Shared->Prop}{s:Shared}{S:Addr}{ks:List Int}
end
end PySem
namespace L2
open PySem PySem.Spec PyProof.Rows Sx
end L2
namespace Dv
open PySem L2 Mr Sx
end Dv
namespace PySem
structure Zap(z TI TO i j:Addr)(f g:List Addr):Prop where
 a1:TI≠z
 a2:TO≠z
 a3:TI≠TO
 a4:i≠z
 a5:j≠z
 a6:TI≠i
 a7:TI≠j
 a8:TO≠i
 a9:TO≠j
 fz:z∉f
 fo:TO∉f
 fj:j∉f
 gz:z∉g
 go:TO∉g
 gi:i∉g
section
variable{prog:Program}{w:World}{A:Around}{E:Value->Shared->Prop}{s:Shared}{z TI TO i j:Addr}{f g:List Addr}{n:Nat}{P R:Nat->Value->Prop}{S T:Nat->Heap->Prop}
theorem cH3{k:Nat}{a b:Value}{Q:Value->Shared->Prop}(D:Zap z TI TO i j f g)(di:Draws prog w A i f n P S)(dj:Draws prog w A j g n R T)(hk:k < n)
  (hz:IsZip s.heap z TI TO .none) (hI:IsPair s.heap TI (.ref i) (.ref j)) (hO:IsPair s.heap TO a b) (si:S k s.heap) (sj:T k s.heap)
  (q:∀ x y h' tk,P k x->R k y->IsZip h' z TI TO (rawInt s.heap.objs.size)->IsPair h' TO x y->S (k+1) h'->T (k+1) h'->IsPair h' s.heap.objs.size x y ->
   (∀ c o,c≠z->c≠TO->c≠i->c≠j->s.heap.get? c=some o->h'.get? c=some o)->Q (.ref s.heap.objs.size) {s with heap:=h',toks:=tk}) :
  wpAny (model prog w) A (Builtin.«zip.__next__» ⟨[.ref z],[]⟩) (fun fin s'=>∃ v,fin=.done (.ret v)/\Q v s') E s:=by
 (show wpAny _ _ (field (.ref z) 2 >>= _) _ _ _;refine wpAny_bind (wpAny_field hz rfl (x:=.bool false) rfl ?_))
 (show wpAny _ _ (field (.ref z) 3 >>= _) _ _ _;refine wpAny_bind (wpAny_field hz rfl (x:=.ref TI) rfl ?_);refine wpAny_bind (wpAny_seqItems hI rfl ?_))
 (show wpAny _ _ (Builtin.SmallTypes.ownedTupleIsFree (.ref z) >>= _) _ _ _;refine wpAny_bind ?_;unfold Builtin.SmallTypes.ownedTupleIsFree;refine wpAny_bind (wpAny_field hz rfl (x:=.none) rfl (wpAny_pure ?_)))
 (simp only[if_true];refine wpAny_bind (wpAny_rule ?_);refine wpAny_bind (wpAny_field hz rfl (x:=.ref TO) rfl ?_);refine wpAny_bind (wpAny_setField_rec hz (by simp) fun h1 z1 b1=>?_))
 replace z1:IsZip h1 z TI TO .ellipsis:=z1
 (refine wpAny_bind ?_;simp only[List.zipIdx_cons,List.zipIdx_nil,List.forIn_cons,List.forIn_nil];refine wpAny_bind (wpAny_bind (wpAny_onRaise ?_)))
 (show wpAny _ _ (Builtin.SmallTypes.nextOf (.ref i) >>= _) _ _ _;refine wpAny_bind (di.item k _ _ _ hk (di.frame _ _ _ si fun c hc o e=>(b1.2 c fun z=>D.fz (z ▸ hc)).trans e) fun x h2 t2 px s2 b2=>wpAny_pure ?_))
 have o2:IsPair h2 TO a b:=(b2.2 TO D.a8).trans ((b1.2 TO D.a2).trans hO)
 (refine wpAny_bind (wpAny_seqItems o2 rfl ?_);refine wpAny_bind (wpAny_updateSeq_pair o2 fun h3 o3 b3=>?_))
 replace o3:IsPair h3 TO x b:=o3
 (refine wpAny_bind (wpAny_letGo (wpAny_pure ?_));refine wpAny_bind (wpAny_bind (wpAny_onRaise ?_)))
 have t3:T k h3:=dj.frame _ _ _ sj fun c hc o e=>(b3.2 c fun z=>D.go (z ▸ hc)).trans ((b2.2 c fun z=>D.gi (z ▸ hc)).trans ((b1.2 c fun z=>D.gz (z ▸ hc)).trans e))
 (show wpAny _ _ (Builtin.SmallTypes.nextOf (.ref j) >>= _) _ _ _;refine wpAny_bind (dj.item k _ _ _ hk t3 fun y h4 t4 py s4 b4=>wpAny_pure ?_))
 have o4:IsPair h4 TO x b:=(b4.2 TO D.a9).trans o3
 (refine wpAny_bind (wpAny_seqItems o4 rfl ?_);refine wpAny_bind (wpAny_updateSeq_pair o4 fun h5 o5 b5=>?_))
 replace o5:IsPair h5 TO x y:=o5
 (refine wpAny_bind (wpAny_letGo (wpAny_pure (wpAny_pure ?_)));refine wpAny_bind (wpAny_seqItems o5 rfl ?_);refine wpAny_bind (wpAny_newTuple ?_))
 have sz:h5.objs.size=s.heap.objs.size:=by rw[b5.1,b4.1,b3.1,b2.1,b1.1]
 have z5:IsZip h5 z TI TO .ellipsis:=(b5.2 z D.a2.symm).trans ((b4.2 z D.a5.symm).trans ((b3.2 z D.a2.symm).trans ((b2.2 z D.a4.symm).trans z1)))
 have kp:∀ c o,c≠z->c≠TO->c≠i->c≠j->s.heap.get? c=some o->h5.get? c=some o:=fun c o c1 c2 c3 c4 e=>(b5.2 c c2).trans ((b4.2 c c4).trans ((b3.2 c c2).trans ((b2.2 c c3).trans ((b1.2 c c1).trans e))))
 have s5:S (k+1) h5:=di.frame _ _ _ s2 fun c hc o e=>(b5.2 c fun z=>D.fo (z ▸ hc)).trans ((b4.2 c fun z=>D.fj (z ▸ hc)).trans ((b3.2 c fun z=>D.fo (z ▸ hc)).trans e))
 have t5:T (k+1) h5:=dj.frame _ _ _ s4 fun c hc o e=>(b5.2 c fun z=>D.go (z ▸ hc)).trans e
 have zl:z < h5.objs.size:=Heap.lt_size z5
 (show wpAny _ _ (Builtin.SmallTypes.ownedTupleHandOut (.ref z) (.ref h5.objs.size) >>= _) _ _ _;refine wpAny_bind ?_;unfold Builtin.SmallTypes.ownedTupleHandOut)
 have z6:IsZip (h5.push {cls:=.type "tuple",data:=.seq #[x,y]}) z TI TO .ellipsis:=Heap.get?_push_of_some _ z5
 refine wpAny_bind (wpAny_setField_rec z6 (by simp) fun h7 z7 b7=>?_)
 replace z7:IsZip h7 z TI TO (rawInt h5.objs.size):=z7
 refine wpAny_setField_rec z7 (by simp) fun h8 z8 b8=>?_
 replace z8:IsZip h8 z TI TO (rawInt h5.objs.size):=z8
 have up:∀ c o,c≠z->h5.get? c=some o->h8.get? c=some o:=fun c o c1 e=>(b8.2 c c1).trans ((b7.2 c c1).trans (Heap.get?_push_of_some _ e))
 have p8:IsPair h8 h5.objs.size x y:=(b8.2 _ (Nat.ne_of_gt zl)).trans ((b7.2 _ (Nat.ne_of_gt zl)).trans (Heap.get?_push_size _ rfl))
 (refine wpAny_pure ⟨_,rfl,?_⟩;show Q (.ref h5.objs.size) _)
 rw[sz]at z8 p8 ⊢
 exact q x y h8 t4 px py z8 (up _ _ D.a2 o5) (di.frame _ _ _ s5 fun c hc o e=>up c o (fun z=>D.fz (z ▸ hc)) e) (dj.frame _ _ _ t5 fun c hc o e=>up c o (fun z=>D.gz (z ▸ hc)) e) p8 fun c o c1 c2 c3 c4 e=>up c o c1 (kp c o c1 c2 c3 c4 e)
theorem cH4{Q:Fin->Shared->Prop}(D:Zap z TI TO i j f g)(di:Draws prog w A i f n P S)
  (hz:IsZip s.heap z TI TO .none) (hI:IsPair s.heap TI (.ref i) (.ref j)) (si:S n s.heap)
  (q:∀ h' e,(∀ c o,c≠z->c≠i->s.heap.get? c=some o->h'.get? c=some o)->(∃ o,h'.get? e=some o/\o.cls=.type "StopIteration")->E (.ref e) {s with heap:=h'}) :
  wpAny (model prog w) A (Builtin.«zip.__next__» ⟨[.ref z],[]⟩) Q E s:=by
 (show wpAny _ _ (field (.ref z) 2 >>= _) _ _ _;refine wpAny_bind (wpAny_field hz rfl (x:=.bool false) rfl ?_))
 (show wpAny _ _ (field (.ref z) 3 >>= _) _ _ _;refine wpAny_bind (wpAny_field hz rfl (x:=.ref TI) rfl ?_);refine wpAny_bind (wpAny_seqItems hI rfl ?_))
 (show wpAny _ _ (Builtin.SmallTypes.ownedTupleIsFree (.ref z) >>= _) _ _ _;refine wpAny_bind ?_;unfold Builtin.SmallTypes.ownedTupleIsFree;refine wpAny_bind (wpAny_field hz rfl (x:=.none) rfl (wpAny_pure ?_)))
 (simp only[if_true];refine wpAny_bind (wpAny_rule ?_);refine wpAny_bind (wpAny_field hz rfl (x:=.ref TO) rfl ?_);refine wpAny_bind (wpAny_setField_rec hz (by simp) fun h1 z1 b1=>?_))
 replace z1:IsZip h1 z TI TO .ellipsis:=z1
 (refine wpAny_bind ?_;simp only[List.zipIdx_cons,List.zipIdx_nil,List.forIn_cons,List.forIn_nil];refine wpAny_bind (wpAny_bind (wpAny_onRaise ?_)))
 (show wpAny _ _ (Builtin.SmallTypes.nextOf (.ref i) >>= _) _ _ _;refine wpAny_bind (di.done _ _ _ (di.frame _ _ _ si fun c hc o e=>(b1.2 c fun z=>D.fz (z ▸ hc)).trans e) fun h2 e b2 ⟨oe,e1,e2⟩=>?_))
 have z2:IsZip h2 z TI TO .ellipsis:=b2 _ _ D.a4.symm z1
 have ez:e≠z:=fun x=>by subst x;rw[z2]at e1;cases e1;simp at e2
 exact wpAny_setField_rec z2 (by simp) fun h3 _ b3=>q h3 e (fun c o c1 c3 x=>(b3.2 c c1).trans (b2 _ _ c3 ((b1.2 c c1).trans x))) ⟨oe,(b3.2 e ez).trans e1,e2⟩
theorem cH5{k:Nat}{a b:Value}{Q:Option Value->Shared->Prop}(D:Zap z TI TO i j f g)(di:Draws prog w A.in1 i f n P S)(dj:Draws prog w A.in1 j g n R T)(hk:k < n)
  (hz:IsZip s.heap z TI TO .none) (hI:IsPair s.heap TI (.ref i) (.ref j)) (hO:IsPair s.heap TO a b) (si:S k s.heap) (sj:T k s.heap)
  (q:∀ x y h' tk,P k x->R k y->IsZip h' z TI TO (rawInt s.heap.objs.size)->IsPair h' TO x y->S (k+1) h'->T (k+1) h'->IsPair h' s.heap.objs.size x y ->
   (∀ c o,c≠z->c≠TO->c≠i->c≠j->s.heap.get? c=some o->h'.get? c=some o)->Q (some (.ref s.heap.objs.size)) {s with heap:=h',toks:=tk}) :
  wpAny (model prog w) A (pyNext (.ref z)) Q E s:=by
 have hT:s.TypeIs (.ref z) "zip":=⟨_,hz,rfl⟩
 unfold pyNext
 exact wpAny_bind (wpAny_attempt (wpAny_callSpecial?_slot (name:=Str.ofString "__next__") hT F.slot_zip_next (wpAny_call_entry F.slot_zip_next hT F.entry_zip_next (cH3 D di dj hk hz hI hO si sj fun x y h' tk p1 p2 p3 p4 p5 p6 p7 p8=>wpAny_pure (q x y h' tk p1 p2 p3 p4 p5 p6 p7 p8)) (F.args_zip_next_1 _))))
theorem cH6{Q:Option Value->Shared->Prop}(D:Zap z TI TO i j f g)(di:Draws prog w A.in1 i f n P S)
  (hz:IsZip s.heap z TI TO .none) (hI:IsPair s.heap TI (.ref i) (.ref j)) (si:S n s.heap)
  (q:∀ h',(∀ c o,c≠z->c≠i->s.heap.get? c=some o->h'.get? c=some o)->Q none {s with heap:=h'}):wpAny (model prog w) A (pyNext (.ref z)) Q E s:=by
 have hT:s.TypeIs (.ref z) "zip":=⟨_,hz,rfl⟩
 unfold pyNext
 (refine wpAny_bind (wpAny_attempt (wpAny_callSpecial?_slot (name:=Str.ofString "__next__") hT F.slot_zip_next (wpAny_call_entry F.slot_zip_next hT F.entry_zip_next (cH4 D di hz hI si fun h' e k1 ⟨o,e1,e2⟩=>?_) (F.args_zip_next_1 _))));refine wpAny_bind (wpAny_isInstance (T:="StopIteration") (b:=true) ⟨o,e1,e2⟩ isSubtype_stop ?_))
 exact wpAny_pure (q _ k1)
abbrev zpH(h:Heap)(l m:Addr):Heap:=((((h.push (bJ9 l)).push (bJ9 m)).push {cls:=.type "tuple",data:=.seq #[.ref h.objs.size,.ref (h.objs.size+1)]}).push {cls:=.type "tuple",data:=.seq #[.none,.none]}).push
 {cls:=.type "zip",data:=.fields #[.none,.bool false,.bool false,.ref (h.objs.size+2),.ref (h.objs.size+3)]}
theorem cW7(l m:Addr)(xs ys:Array Value):Meets (Builtin.«zip.__new__» ⟨[.type "zip",.ref l,.ref m],[]⟩) (fun _ R s=>s.heap.IsTuple l xs/\s.heap.IsTuple m ys/\R (.ok (.ret (.ref (s.heap.objs.size+4)))) {s with heap:=zpH s.heap l m}):=
 .of_wp fun prog w A R s h=>by
  obtain⟨hp,g,d,tk,os⟩:=s;obtain⟨h1,h2,h⟩:=h;have hsub:=sub_zip
  have e1:Heap.IsTuple (Shared.heap ⟨hp,g,d,tk,os⟩) l xs:=h1
  have e2:Heap.IsTuple (Shared.heap ⟨hp.push (bJ9 l),g,d,tk,os⟩) m ys:=Heap.IsTuple.push h2 _
  wp_walk using wpAny_pyIter_tuple e1,wpAny_pyIter_tuple e2
  refine⟨_,rfl,?_⟩
  simp only[Heap.size_push]
  exact h
theorem dL8{h:Heap}{a b c d e:Obj}(f1:a.isFreed=false)(f2:b.isFreed=false)(f3:c.isFreed=false)(f4:d.isFreed=false)(f5:e.isFreed=false) :
  ∀ h',((((h.push a).push b).push c).push d).push e=h'->h'.get? h.objs.size=some a/\h'.get? (h.objs.size+1)=some b/\h'.get? (h.objs.size+2)=some c/\h'.get? (h.objs.size+3)=some d/\h'.get? (h.objs.size+4)=some e/\∀ x o,h.get? x=some o->h'.get? x=some o:=by
 intro h' eh
 have up:∀ {c:Addr} {o ob:Obj} {h:Heap},h.get? c=some o->(h.push ob).get? c=some o:=fun e=>Heap.get?_push_of_some _ e
 have a2:=Heap.get?_push_size (h.push a) (o:=b) f2
 have a3:=Heap.get?_push_size ((h.push a).push b) (o:=c) f3
 have a4:=Heap.get?_push_size (((h.push a).push b).push c) (o:=d) f4
 have a5:=Heap.get?_push_size ((((h.push a).push b).push c).push d) (o:=e) f5
 simp only[Heap.size_push]at a2 a3 a4 a5
 rw[← eh]
 exact⟨up (up (up (up (Heap.get?_push_size h (o:=a) f1)))),up (up (up a2)),up (up a3),up a4,a5,fun x o q=>up (up (up (up (up q))))⟩
theorem cH7{l m:Addr}{xs ys:Array Value}{Q:Value->Shared->Prop}(h1:s.heap.IsTuple l xs)(h2:s.heap.IsTuple m ys)
  (q:∀ h',IsZip h' (s.heap.objs.size+4) (s.heap.objs.size+2) (s.heap.objs.size+3) .none->IsPair h' (s.heap.objs.size+2) (.ref s.heap.objs.size) (.ref (s.heap.objs.size+1))->IsPair h' (s.heap.objs.size+3) .none .none ->
   h'.IsTupleIter s.heap.objs.size l 0->h'.IsTupleIter (s.heap.objs.size+1) m 0->(∀ c o,s.heap.get? c=some o->h'.get? c=some o)->Q (.ref (s.heap.objs.size+4)) {s with heap:=h'}) :
  wpAny (model prog w) A (call (.type "zip") [.ref l,.ref m]) Q E s:=by
 refine callType_new F.called_zip (by decide) (F.typeCall_zip_2 _ _) (F.newCall_zip_2 _ _) (fun obj=>F.args_object_init_3 obj _ _) F.entry_zip_new (cW7 l m xs ys) ⟨h1,h2,?_⟩
 obtain⟨b1,b2,b3,b4,b5,b6⟩:=dL8 (h:=s.heap) (a:=bJ9 l) (b:=bJ9 m) (c:={cls:=.type "tuple",data:=.seq #[.ref s.heap.objs.size,.ref (s.heap.objs.size+1)]}) (d:={cls:=.type "tuple",data:=.seq #[.none,.none]})
  (e:={cls:=.type "zip",data:=.fields #[.none,.bool false,.bool false,.ref (s.heap.objs.size+2),.ref (s.heap.objs.size+3)]}) rfl rfl rfl rfl rfl _ rfl
 exact⟨⟨_,b5,rfl⟩,q _ b5 b3 b4 ⟨_,b1,rfl,rfl⟩ ⟨_,b2,rfl,rfl⟩ b6⟩
end
end PySem
namespace L2
open PySem PyProof.Rows
def ItZ(p q:Addr):It:=
 ⟨fun i H=>∃ xs ys x y,H p=some (.tup xs)/\H q=some (.tup ys)/\xs.length=ys.length/\xs[i]? = some x/\ys[i]? = some y,
  fun i H v H'=>∃ T x y,v=.ref T/\H T=none/\H'=upd H T (.tup [x,y])/\(∀ xs,H p=some (.tup xs)->xs[i]? = some x)/\∀ ys,H q=some (.tup ys)->ys[i]? = some y,
  fun i H=>∃ xs ys,H p=some (.tup xs)/\H q=some (.tup ys)/\xs.length=i/\ys.length=i⟩
def ZpS(z TI TO i j p q:Addr)(k:Nat)(h:Heap):Prop:=IsZip h z TI TO .none/\IsPair h TI (.ref i) (.ref j)/\(∃ a b,IsPair h TO a b)/\h.IsTupleIter i p k/\h.IsTupleIter j q k
theorem bY4{s:Shared}{z TI TO i j p q:Addr}{k:Nat}{xs ys:Array Value}(st:ZpS z TI TO i j p q k s.heap)(hp:s.heap.IsTuple p xs)(hq:s.heap.IsTuple q ys)(d1:TI≠TO)(d2:i≠j)(d3:p≠TO)(d4:q≠TO):Zap z TI TO i j [i,p] [j,q]:=by
 obtain⟨h1,h2,⟨a,b,h3⟩,⟨o4,h4,c4,e4⟩,o5,h5,c5,e5⟩:=st
 obtain⟨o6,h6,c6,_⟩:=hp
 obtain⟨o7,h7,c7,_⟩:=hq
 have nt:Value.type "tuple"≠Value.type "zip":=by decide
 have ni:Value.type "tuple_iterator"≠Value.type "zip":=by decide
 have nu:Value.type "tuple_iterator"≠Value.type "tuple":=by decide
 have iz:i≠z:=fun e=>by rw[e,h1]at h4;cases h4;exact ni c4.symm
 have jz:j≠z:=fun e=>by rw[e,h1]at h5;cases h5;exact ni c5.symm
 have Ti:TI≠i:=fun e=>by rw[← e,h2]at h4;cases h4;exact nu c4.symm
 have Tj:TI≠j:=fun e=>by rw[← e,h2]at h5;cases h5;exact nu c5.symm
 have Oi:TO≠i:=fun e=>by rw[← e,h3]at h4;cases h4;exact nu c4.symm
 have Oj:TO≠j:=fun e=>by rw[← e,h3]at h5;cases h5;exact nu c5.symm
 have pz:p≠z:=fun e=>by rw[e,h1]at h6;cases h6;exact nt c6.symm
 have qz:q≠z:=fun e=>by rw[e,h1]at h7;cases h7;exact nt c7.symm
 have pj:p≠j:=fun e=>by rw[e,h5]at h6;cases h6;rw[c5]at c6;exact nu c6
 have qi:q≠i:=fun e=>by rw[e,h4]at h7;cases h7;rw[c4]at c7;exact nu c7
 have Iz:TI≠z:=fun e=>by
  have h2':s.heap.get? TI=_:=h2
  rw[e,h1]at h2';exact nt (congrArg Obj.cls (Option.some.inj h2')).symm
 have Oz:TO≠z:=fun e=>by
  have h3':s.heap.get? TO=_:=h3
  rw[e,h1]at h3';exact nt (congrArg Obj.cls (Option.some.inj h3')).symm
 refine⟨Iz,Oz,d1,iz,jz,Ti,Tj,Oi,Oj,?_,?_,?_,?_,?_,?_⟩
 ·simp[iz.symm,pz.symm]
 ·simp[Oi,d3.symm]
 ·simp[d2.symm,pj.symm]
 ·simp[jz.symm,qz.symm]
 ·simp[Oj,d4.symm]
 ·simp[d2,qi.symm]
theorem bG1{P:Program}{w:World}{H:Hp}{h:Heap}{T:Addr}{u v:Value}{x y:V}(hT:IsPair h T u v)(ru:eO x u)(rv:eO y v):eB P w (upd H T (.tup [x,y])) h T (.tup [x,y]):=
 ⟨by show 2<=sizeLine;decide,[u,v],.cons ru (.cons rv .nil),⟨_,hT,rfl,_,rfl⟩,⟨_,hT,rfl⟩⟩
theorem cH8{P:Program}{w:World}{K:PySem.W.Frag}{elts:List Expr}{k:Nat}{pos:Pos}(p q z TI TO i j:Addr)(d1:TI≠TO)(d2:i≠j) :
  Turn P w K (.Tuple elts k pos) (ItZ p q) [z,TI,TO,i,j] z (ZpS z TI TO i j p q) where
 mem:=by simp
 obj:=fun n h st b hb=>by
  obtain⟨h1,h2,⟨a,c,h3⟩,⟨o4,h4,c4,e4⟩,o5,h5,c5,e5⟩:=st
  simp only[List.mem_cons,List.not_mem_nil,or_false]at hb
  rcases hb with rfl | rfl | rfl | rfl | rfl
  ·exact⟨_,h1,fun v e=>by cases e⟩
  ·exact⟨_,h2,fun v e=>by cases e⟩
  ·exact⟨_,h3,fun v e=>by cases e⟩
  ·exact⟨_,h4,fun v e=>by rw[e4]at e;cases e⟩
  ·exact⟨_,h5,fun v e=>by rw[e5]at e;cases e⟩
 keep:=fun n h h' st kp=>by
  obtain⟨h1,h2,⟨a,c,h3⟩,h4,h5⟩:=st
  exact⟨kp z (by simp) _ h1,kp TI (by simp) _ h2,⟨a,c,kp TO (by simp) _ h3⟩,h4.at fun o e=>kp i (by simp) o e,h5.at fun o e=>kp j (by simp) o e⟩
 item:=by
  intro X hP hw hK hc n pins s σ H E I hf st hg
  subst hP hw hK
  obtain⟨xs,ys,x,y,hp,hq,hl,hx,hy⟩:=hg
  obtain⟨its,rv,t1,_⟩:=I.tuple (.inl (.inl hp))
  obtain⟨jts,rw',t2,_⟩:=I.tuple (.inl (.inl hq))
  obtain⟨u,hu,ru⟩:=rv.get hx
  obtain⟨v,hv,rv'⟩:=rw'.get hy
  have t1':s.heap.IsTuple p its.toArray:=t1
  have t2':s.heap.IsTuple q jts.toArray:=t2
  obtain⟨z1,z2,⟨a,b,z3⟩,z4,z5⟩:=id st
  have hO:H TO=none:=(hf TO (by simp)).1
  have hi:H i=none:=(hf i (by simp)).1
  have hj:H j=none:=(hf j (by simp)).1
  have D:=bY4 st t1' t2' d1 d2 (aV hp hO) (aV hq hO)
  have el:its.toArray.size=jts.toArray.size:=by rw[List.size_toArray,List.size_toArray,← rv.length,← rw'.length];exact hl
  have hlt:n < its.toArray.size:=by
   have:=(List.getElem?_eq_some_iff.mp hu).1
   simpa using this
  have dj:=Draws.tup (prog:=X.prog) (w:=X.w) (A:=X.A.in1) (I.ok.hd hc) j q (aV hq hj) jts.toArray
  rw[← el]at dj
  refine cH5 D (Draws.tup (A:=X.A.in1) (I.ok.hd hc) i p (aV hp hi) its.toArray) dj hlt z1 z2 z3 ⟨z4,t1'⟩ ⟨z5,t2'⟩ fun x1 y1 h1 tk px py g1 g2 g3 g4 g5 g6=>?_
  obtain rfl:x1=u:=by
   rw[List.getElem?_toArray,hu]at px;exact(Option.some.inj px).symm
  obtain rfl:y1=v:=by
   rw[List.getElem?_toArray,hv]at py;exact(Option.some.inj py).symm
  refine⟨_,rfl,wpAny_letOwnedTupleGo_zip g1 fun h2 k1 k2=>?_⟩
  have nz:s.heap.objs.size≠z:=fun e=>absurd (Heap.lt_size z1) (by rw[← e];exact Nat.lt_irrefl _)
  have ha:H s.heap.objs.size=none:=I.hok.fresh (Nat.le_refl _)
  have kk:∀ c o,c≠z->c≠TO->c≠i->c≠j->s.heap.get? c=some o->h2.get? c=some o:=fun c o c1 c2 c3 c4 e=>(k2.2 c c1).trans (g6 c o c1 c2 c3 c4 e)
  refine⟨.ref s.heap.objs.size,upd H s.heap.objs.size (.tup [x,y]),?_,rfl,⟨_,x,y,rfl,ha,rfl,fun zs e=>by rw[hp]at e;cases e;exact hx,fun zs e=>by rw[hq]at e;cases e;exact hy⟩,⟨k1,kk TI _ D.a1 d1 D.a6 D.a7 z2,⟨_,_,(k2.2 TO D.a2).trans g2⟩,g3.1.at fun o e=>(k2.2 i D.a4).trans e,g4.1.at fun o e=>(k2.2 j D.a5).trans e⟩,fun b hb=>?_⟩
  ·exact I.spun (ch:=[z,TI,TO,i,j]) (t':=tk) hf (fun b o hb e=>kk b o (fun z=>hb (by simp[z])) (fun z=>hb (by simp[z])) (fun z=>hb (by simp[z])) (fun z=>hb (by simp[z])) e) (Nat.le_refl _) (bG1 ((k2.2 _ nz).trans g5) ru rv')
  ·rw[aL (fun e=>?_)]
   ·exact(hf b hb).1
   ·obtain⟨o,ho⟩:∃ o,s.heap.get? b=some o:=by
     simp only[List.mem_cons,List.not_mem_nil,or_false]at hb
     rcases hb with rfl | rfl | rfl | rfl | rfl
     ·exact⟨_,z1⟩
     ·exact⟨_,z2⟩
     ·exact⟨_,z3⟩
     ·exact z4.imp fun _ q=>q.1
     ·exact z5.imp fun _ q=>q.1
    exact absurd (Heap.lt_size ho) (by rw[e];exact Nat.lt_irrefl _)
 done:=by
  intro X hP hw hK hc n pins s σ H E I hf st hg
  subst hP hw hK
  obtain⟨xs,ys,hp,hq,hx,hy⟩:=hg
  obtain⟨its,rv,t1,_⟩:=I.tuple (.inl (.inl hp))
  obtain⟨jts,rw',t2,_⟩:=I.tuple (.inl (.inl hq))
  have t1':s.heap.IsTuple p its.toArray:=t1
  have t2':s.heap.IsTuple q jts.toArray:=t2
  have hO:H TO=none:=(hf TO (by simp)).1
  have hi:H i=none:=(hf i (by simp)).1
  obtain⟨z1,z2,⟨a,b,z3⟩,z4,z5⟩:=id st
  have hl:its.toArray.size=n:=by rw[List.size_toArray,← rv.length];exact hx
  refine cH6 (bY4 st t1' t2' d1 d2 (aV hp hO) (aV hq hO)) (Draws.tup (A:=X.A.in1) (I.ok.hd hc) i p (aV hp hi) its.toArray) z1 z2 ⟨by rw[hl];exact z4,t1'⟩ fun h' kp=>⟨rfl,I.spun0 (ch:=[z,TI,TO,i,j]) (t':=s.toks) hf fun b o hb e=>kp b o (fun z=>hb (by simp[z])) (fun z=>hb (by simp[z])) e⟩
 self:=fun _ _ _ _ _ st h=>wpAny_pyIter_zip st.1 h
section
variable{X:Cx}
def dI3(ta:TA):TI:=fun σ H R=>ta σ H fun vs H1=>∃ p q xs ys,vs=[.ref p,.ref q]/\H1 p=some (.tup xs)/\H1 q=some (.tup ys)/\xs.length=ys.length/\R (ItZ p q) H1
theorem cW8{elts:List Expr}{k:Nat}{pos':Pos}{a b:Expr}{ta:TA}{p pos:Pos}(hg:Gl X "zip")(hm:X.mg "zip"=none)(hbt:bootBuiltins "zip"=some (.type "zip"))(ha:PA X [a,b] ta)
  (hs:starEach [a,b] X.env=(false,eval a X.env)::starEach [b] X.env:=by rfl) (hpl:(backTo pos (starEach [b] X.env)).any (·.1)=false:=by rfl):PI X (.Tuple elts k pos') (.Call (.Name "zip" p) [a,b] [] pos) (dI3 ta):=by
 intro pins s σ H R I h
 refine Call_ (iV I hg hm hbt (PyProof.Rows.callWith_type1 (thn (ha pos pins s σ H _ I h) fun us s1 ⟨vs,H1,I1,r1,q1⟩=>?_) hs hpl))
 obtain⟨p,q,xs,ys,rfl,hp,hq,hl,k⟩:=q1
 obtain⟨u,v,rfl,ru,rv⟩:=r1.two
 cases ru
 cases rv
 obtain⟨its,_,t1,_⟩:=I1.tuple (.inl (.inl hp))
 obtain⟨jts,_,t2,_⟩:=I1.tuple (.inl (.inl hq))
 have new:∀ c,c∈[s1.heap.objs.size+4,s1.heap.objs.size+2,s1.heap.objs.size+3,s1.heap.objs.size,s1.heap.objs.size+1]->s1.heap.objs.size<=c:=fun c hc=>by
  simp only[List.mem_cons,List.not_mem_nil,or_false]at hc
  omega
 refine cH7 (show s1.heap.IsTuple p its.toArray from t1) (show s1.heap.IsTuple q jts.toArray from t2) fun h' g1 g2 g3 g4 g5 g6=>wpAny_pyIter_zip g1 ?_
 exact⟨_,[s1.heap.objs.size+4,s1.heap.objs.size+2,s1.heap.objs.size+3,s1.heap.objs.size,s1.heap.objs.size+1],_,_,H1,rfl,I1.kept (t':=s1.toks) g6,cH8 p q (s1.heap.objs.size+4) (s1.heap.objs.size+2) (s1.heap.objs.size+3) s1.heap.objs.size (s1.heap.objs.size+1) (fun e=>absurd (Nat.add_left_cancel e) (by decide)) (fun e=>absurd e.symm (Nat.succ_ne_self _)),⟨g1,g2,⟨_,_,g3⟩,g4,g5⟩,fun c hc=>I1.fpOk (new c hc) (I1.hok.fresh (new c hc)),k⟩
end
end L2
namespace Dv
open PySem L2
def xU:List D->List D->List D
 | x::xs,y::ys=>.tup [x,y]::xU xs ys
 | _,_=>[]
theorem uU:∀ {l m:List D} {i:Nat} {d:D},(xU l m)[i]? = some d->∃ x y,l[i]? = some x/\m[i]? = some y/\d=.tup [x,y]
 | [],_,_,_,h=>by simp[xU]at h
 | _::_,[],_,_,h=>by simp[xU]at h
 | x::l,y::m,0,d,h=>by simp[xU]at h;exact⟨x,y,rfl,rfl,h.symm⟩
 | x::l,y::m,i+1,d,h=>by
   obtain⟨a,b,h1,h2,h3⟩:=uU (l:=l) (m:=m) (i:=i) (d:=d) (by simpa[xU]using h)
   exact⟨a,b,by simpa using h1,by simpa using h2,h3⟩
theorem kX:∀ {l m:List D},l.length=m.length->(xU l m).length=l.length
 | [],_,_=>by simp[xU]
 | _::_,[],h=>by simp at h
 | _::l,_::m,h=>by simp[xU];exact kX (by simpa using h)
theorem cH9{p q:Addr}{xs ys:List V}{l m:List D}(hl:l.length=m.length):ItD (ItZ p q) (xU l m) (fun H=>(H p=some (.tup xs)/\Rps H l xs)/\H q=some (.tup ys)/\Rps H m ys) where
 go:=fun H i d ⟨⟨h1,r1⟩,h2,r2⟩ e=>by
  obtain⟨x,y,e1,e2,_⟩:=uU e
  obtain⟨u,f1,_⟩:=r1.get e1
  obtain⟨v,f2,_⟩:=r2.get e2
  exact⟨xs,ys,u,v,h1,h2,by rw[← r1.length,← r2.length];exact hl,f1,f2⟩
 yld:=fun H i d v H' ⟨⟨h1,r1⟩,h2,r2⟩ e ⟨T,x,y,ev,hT,eH,hx,hy⟩=>by
  obtain⟨x',y',e1,e2,rfl⟩:=uU e
  obtain⟨u,f1,g1⟩:=r1.get e1
  obtain⟨w,f2,g2⟩:=r2.get e2
  have a1:=hx xs h1
  rw[f1]at a1;cases a1
  have a2:=hy ys h2
  rw[f2]at a2;cases a2
  subst ev eH
  exact⟨bH hT,.tup aR (.cons (g1.mono (Ext.same (bH hT))) (.cons (g2.mono (Ext.same (bH hT))) .nil))⟩
 stop:=fun H ⟨⟨h1,r1⟩,h2,r2⟩=>⟨xs,ys,h1,h2,by rw[kX hl,r1.length],by rw[kX hl,hl,r2.length]⟩
def dB1(rs:List Res):Option (List D):=match rs with
 | [.val (.tup l),.val (.tup m)]=>if l.length=m.length then some (xU l m)else none
 | _=>none
def dB2(ra:DA):DI:=fun σ=>(ra σ).bind fun x=>(dB1 x.1).bind fun l=>some (l,none,x.2)
theorem cW9{X:Cx}{tg e:Expr}{ra:DA}(h:∀ Γ,PI X tg e (dI3 (dTA Γ ra))):GI X tg e (dB2 ra):=.mk fun Γ=>piW (h Γ) fun σV H R ⟨σ,ok,items,l,σ1,e,k⟩=>by
 obtain⟨⟨x,σ2⟩,e1,e⟩:=aD e
 obtain⟨its,e2,e⟩:=aD e
 cases e
 refine⟨σ,ok,x,σ2,e1,fun vs H1 ok1 r1 st1 f1=>?_⟩
 unfold dB1 at e2
 split at e2
 ·rename_i l m hx
  split at e2
  ·rename_i hl
   cases e2
   dsimp only at hx
   subst hx
   cases r1 with
   | cons a t _=>cases t with
     | cons b t _=>
       cases t
       obtain⟨p,xs,rfl,hp,hr⟩:=eG (.inl a)
       obtain⟨q,ys,rfl,hq,hs⟩:=eG (.inl b)
       refine⟨p,q,xs,ys,rfl,hp,hq,by rw[← hr.length,← hs.length];exact hl,k _ H1 _ ok1 st1 (cH9 (xs:=xs) (ys:=ys) hl) fun σ3 σV3 H3 st3=>?_⟩
       have ext:=st3.ext (Γ:=Γ) ok1.lendO
       exact⟨⟨ext.tup _ _ hp,hr.mono ext⟩,ext.tup _ _ hq,hs.mono ext⟩
  ·cases e2
 ·cases e2
theorem cX0{σ:Sg}{ra:DA}{K:List D->Option Nat->Sg->Prop}:RI (dB2 ra) σ K=RA ra σ fun rs σ1=>OK1 (dB1 rs) fun l=>K l none σ1:=by
 unfold RI RA dB2;simp only[aP,bP];try rfl
theorem cI0{l m:List D}{K:List D->Prop}:OK1 (dB1 [.val (.tup l),.val (.tup m)]) K=(l.length=m.length/\K (xU l m)):=by
 show OK1 (if _ then _ else none) K=_
 rw[bO];rfl
end Dv
namespace L2
open PySem PySem.Spec PyProof.Rows Sx
end L2
namespace Dv
open PySem L2 Mr Sx
end Dv
namespace L2
open PySem PySem.Spec PyProof.Rows Sx
theorem fO:fillsNumberSlot (.type "tuple") "mul"=pure false:=
 PySem.fillsNumberSlot_seq (id:="tuple.__mul__") (r:=some (.builtin "tuple.__rmul__")) PySem.F.slot_tuple_mul.lookup (by decide +kernel) PySem.F.slot_tuple_rmul.lookup (by decide +kernel)
theorem jN:seqRepeat? (.type "tuple")=pure (some (.builtin "tuple.__mul__")):=by
 unfold seqRepeat?
 rw[PySem.seqSlot_of (T:="tuple") (name:="__mul__") (id:="tuple.__mul__") PySem.F.slot_tuple_mul.lookup (by decide +kernel),PySem.seqSlot_of (T:="tuple") (name:="__rmul__") (id:="tuple.__rmul__") PySem.F.slot_tuple_rmul.lookup (by decide +kernel)]
 rfl
theorem uV(a:Int)(t:Tok)(l:Addr)(items:Array Value)(n:Nat)(dd:Option Addr)(sl:Array (Option Value)) :
  Meets (Builtin.«int.__rmul__» ⟨[.int a t,.ref l],[]⟩) (fun _ R s=>s.heap.get? l=some {cls:=.type "tuple",dict:=dd,data:=.seq items n,slots:=sl}/\R (.ok (.ret Value.notImplemented)) s):=
 .of_wp fun prog w A R s h=>by obtain⟨hp,g,d,tk,os⟩:=s;obtain⟨hl,h⟩:=h;wp_walk;exact⟨_,rfl,h⟩
theorem bQ5(l:Addr)(items:Array Value)(n:Nat)(u:Tok)(dd:Option Addr)(sl:Array (Option Value)) :
  Meets (Builtin.«tuple.__mul__» ⟨[.ref l,.int 1 u],[]⟩) (fun _ R s=>s.heap.get? l=some {cls:=.type "tuple",dict:=dd,data:=.seq items n,slots:=sl}/\R (.ok (.ret (Value.ref l))) {s with heap:=s.heap,toks:=s.toks}):=
 .of_wp fun prog w A R s h=>by obtain⟨hp,g,d,tk,os⟩:=s;obtain⟨hl,h⟩:=h;have f1:=AutoSeq1.idx_int;have f2:=AutoSeq1.sub_tuple_tuple;wp_walk using wpAny_loadPart' hl;exact⟨_,rfl,h⟩
theorem bQ6(l:Addr)(y:Value)(n:Nat)(u:Tok)(dd:Option Addr)(sl:Array (Option Value)) :
  Meets (Builtin.«tuple.__mul__» ⟨[.ref l,.int 2 u],[]⟩) (fun _ R s=>s.heap.get? l=some {cls:=.type "tuple",dict:=dd,data:=.seq #[y] n,slots:=sl}/\R (.ok (.ret (Value.ref s.heap.objs.size))) {s with heap:=s.heap.push {cls:=Value.type "tuple",data:=Data.seq #[y,y]},toks:=s.toks}):=
 .of_wp fun prog w A R s h=>by obtain⟨hp,g,d,tk,os⟩:=s;obtain⟨hl,h⟩:=h;have f1:=AutoSeq1.idx_int;have f2:=AutoSeq1.sub_tuple_tuple;wp_walk using wpAny_loadPart' hl;exact⟨_,rfl,h⟩
theorem bQ7{prog:Program}{w:World}{A:Around}{E:Value->Shared->Prop}{s:Shared}{l:Addr}{vs:Array Value}{u:Tok}{Q:Value->Shared->Prop}(hl:IsTup s.heap l vs)(h:Q (.ref l) s):wpAny (model prog w) A (binaryOp .Mult (.ref l) (.int 1 u)) Q E s:=by
 obtain⟨⟨cls,d,data,sl⟩,ho,hcl,k,hd⟩:=id hl
 simp only at hcl hd
 subst hcl hd
 exact wpAny_binaryOp_repeat_ref (T:="tuple") (U:="int") (by decide) ⟨_,ho,rfl⟩ (fun s'=>typeIs_int s' 1 u) fO PySem.F.fills_int_mul PySem.F.slot_int_rmul jN PySem.F.slot_int_index.lookup
  (call_meets PySem.F.slot_int_rmul (typeIs_int s 1 u) PySem.F.entry_int_rmul (PySem.F.args_int_rmul_2 _ _) (uV 1 u l vs k d sl)
   ⟨ho,rfl,⟨_,ho,rfl⟩,call_meets PySem.F.slot_tuple_mul ⟨_,ho,rfl⟩ PySem.F.entry_tuple_mul (PySem.F.args_tuple_mul_2 _ _) (bQ5 l vs k u d sl) ⟨ho,h⟩⟩)
theorem bQ8{prog:Program}{w:World}{A:Around}{E:Value->Shared->Prop}{s:Shared}{l:Addr}{y:Value}{u:Tok}{Q:Value->Shared->Prop}(hl:IsTup s.heap l #[y])(h:Q (.ref s.heap.objs.size) {s with heap:=s.heap.push {cls:=Value.type "tuple",data:=Data.seq #[y,y]},toks:=s.toks}):wpAny (model prog w) A (binaryOp .Mult (.ref l) (.int 2 u)) Q E s:=by
 obtain⟨⟨cls,d,data,sl⟩,ho,hcl,k,hd⟩:=id hl
 simp only at hcl hd
 subst hcl hd
 exact wpAny_binaryOp_repeat_ref (T:="tuple") (U:="int") (by decide) ⟨_,ho,rfl⟩ (fun s'=>typeIs_int s' 2 u) fO PySem.F.fills_int_mul PySem.F.slot_int_rmul jN PySem.F.slot_int_index.lookup
  (call_meets PySem.F.slot_int_rmul (typeIs_int s 2 u) PySem.F.entry_int_rmul (PySem.F.args_int_rmul_2 _ _) (uV 2 u l #[y] k d sl)
   ⟨ho,rfl,⟨_,ho,rfl⟩,call_meets PySem.F.slot_tuple_mul ⟨_,ho,rfl⟩ PySem.F.entry_tuple_mul (PySem.F.args_tuple_mul_2 _ _) (bQ6 l y k u d sl) ⟨ho,h⟩⟩)
def cX1:R2:=fun x y H Q=>∃ (p:Addr) (e:V),x=.ref p/\eT H p=some (false,[e])/\((y=.int 1/\Q (.ref p) H)\/(y=.int 2/\∀ r,H r=none->Q (.ref r) (upd H r (.tup [e,e]))))
theorem cI1{X:Cx}:OpR X (binaryOp .Mult) cX1:=by
 intro pins s σ H x y v u Q I rx ry h
 obtain⟨p,e,rfl,h1,h2⟩:=h
 cases rx
 obtain⟨its,r1,p1,_⟩:=I.tuple (cY h1)
 rcases h2 with⟨rfl,q⟩ | ⟨rfl,q⟩
 ·obtain⟨t,rfl⟩:=ry
  exact bQ7 p1 ⟨.ref p,H,I,rfl,q⟩
 ·obtain⟨t,rfl⟩:=ry
  obtain⟨w,rfl,rw⟩:=r1.one
  refine bQ8 (y:=w) p1 ?_
  refine⟨.ref s.heap.objs.size,_,I.laid (t':=s.toks) (o:=.tup ([e]++[e])) (fun b ob q=>Heap.get?_push_of_some _ q) (Nat.le_refl _) ?_,rfl,q _ (I.hok.fresh (Nat.le_refl _))⟩
  exact⟨(by decide:2<=sizeLine),_,r1.append r1,IsTup.new _ _,⟨_,Heap.get?_push_size _ rfl,rfl⟩⟩
end L2
namespace Dv
open PySem L2 Mr Sx
end Dv
namespace L2
open PySem PySem.Spec PyProof.Rows Sx
theorem bQ9(l:Addr)(y:Value)(n:Nat)(u:Tok)(dd:Option Addr)(sl:Array (Option Value)) :
  Meets (Builtin.«tuple.__mul__» ⟨[.ref l,.int 3 u],[]⟩) (fun _ R s=>s.heap.get? l=some {cls:=.type "tuple",dict:=dd,data:=.seq #[y] n,slots:=sl}/\R (.ok (.ret (Value.ref s.heap.objs.size))) {s with heap:=s.heap.push {cls:=Value.type "tuple",data:=Data.seq #[y,y,y]},toks:=s.toks}):=
 .of_wp fun prog w A R s h=>by obtain⟨hp,g,d,tk,os⟩:=s;obtain⟨hl,h⟩:=h;have f1:=AutoSeq1.idx_int;have f2:=AutoSeq1.sub_tuple_tuple;wp_walk using AutoSeq1.wpAny_loadPart' hl;exact⟨_,rfl,h⟩
theorem bR0(l:Addr)(y:Value)(n:Nat)(u:Tok)(dd:Option Addr)(sl:Array (Option Value)) :
  Meets (Builtin.«tuple.__mul__» ⟨[.ref l,.int 4 u],[]⟩) (fun _ R s=>s.heap.get? l=some {cls:=.type "tuple",dict:=dd,data:=.seq #[y] n,slots:=sl}/\R (.ok (.ret (Value.ref s.heap.objs.size))) {s with heap:=s.heap.push {cls:=Value.type "tuple",data:=Data.seq #[y,y,y,y]},toks:=s.toks}):=
 .of_wp fun prog w A R s h=>by obtain⟨hp,g,d,tk,os⟩:=s;obtain⟨hl,h⟩:=h;have f1:=AutoSeq1.idx_int;have f2:=AutoSeq1.sub_tuple_tuple;wp_walk using AutoSeq1.wpAny_loadPart' hl;exact⟨_,rfl,h⟩
theorem aP1{prog:Program}{w:World}{A:Around}{E:Value->Shared->Prop}{s:Shared}{l:Addr}{y:Value}{u:Tok}{k:Int}{ys:List Value}{Q:Value->Shared->Prop}(hl:IsTup s.heap l #[y])
  (hm:∀ n dd sl,Meets (Builtin.«tuple.__mul__» ⟨[.ref l,.int k u],[]⟩) (fun _ R s=>s.heap.get? l=some {cls:=.type "tuple",dict:=dd,data:=.seq #[y] n,slots:=sl}/\R (.ok (.ret (Value.ref s.heap.objs.size))) {s with heap:=s.heap.push {cls:=Value.type "tuple",data:=Data.seq ys.toArray},toks:=s.toks}))
  (h:Q (.ref s.heap.objs.size) {s with heap:=s.heap.push {cls:=.type "tuple",data:=.seq ys.toArray}}):wpAny (model prog w) A (binaryOp .Mult (.ref l) (.int k u)) Q E s:=by
 obtain⟨⟨cls,d,data,sl⟩,ho,hcl,n,hd⟩:=id hl
 simp only at hcl hd
 subst hcl hd
 exact wpAny_binaryOp_repeat_ref (T:="tuple") (U:="int") (by decide) ⟨_,ho,rfl⟩ (fun s'=>typeIs_int s' k u) fO PySem.F.fills_int_mul PySem.F.slot_int_rmul jN PySem.F.slot_int_index.lookup
  (call_meets PySem.F.slot_int_rmul (typeIs_int s k u) PySem.F.entry_int_rmul (PySem.F.args_int_rmul_2 _ _) (uV k u l #[y] n d sl)
   ⟨ho,rfl,⟨_,ho,rfl⟩,call_meets PySem.F.slot_tuple_mul ⟨_,ho,rfl⟩ PySem.F.entry_tuple_mul (PySem.F.args_tuple_mul_2 _ _) (hm n d sl) ⟨ho,h⟩⟩)
def cX2:R2:=fun x y H Q=>cX1 x y H Q\/∃ (p:Addr) (e:V),x=.ref p/\eT H p=some (false,[e])/\((y=.int 3/\∀ r,H r=none->Q (.ref r) (upd H r (.tup [e,e,e])))\/(y=.int 4/\∀ r,H r=none->Q (.ref r) (upd H r (.tup [e,e,e,e]))))
theorem cI2{X:Cx}:OpR X (binaryOp .Mult) cX2:=by
 refine cI1.or ?_
 intro pins s σ H x y v u Q I rx ry h
 obtain⟨p,e,rfl,h1,h2⟩:=h
 cases rx
 obtain⟨its,r1,p1,_⟩:=I.tuple (cY h1)
 obtain⟨w,rfl,rw⟩:=r1.one
 rcases h2 with⟨rfl,q⟩ | ⟨rfl,q⟩
 ·obtain⟨t,rfl⟩:=ry
  refine aP1 (y:=w) (ys:=[w,w,w]) p1 (fun n dd sl=>bQ9 p w n t dd sl) ?_
  exact⟨.ref s.heap.objs.size,_,I.laid (t':=s.toks) (o:=.tup ([e]++([e]++[e]))) (fun b ob q=>Heap.get?_push_of_some _ q) (Nat.le_refl _) ⟨(by decide:3<=sizeLine),_,r1.append (r1.append r1),IsTup.new _ _,⟨_,Heap.get?_push_size _ rfl,rfl⟩⟩,rfl,q _ (I.hok.fresh (Nat.le_refl _))⟩
 ·obtain⟨t,rfl⟩:=ry
  refine aP1 (y:=w) (ys:=[w,w,w,w]) p1 (fun n dd sl=>bR0 p w n t dd sl) ?_
  exact⟨.ref s.heap.objs.size,_,I.laid (t':=s.toks) (o:=.tup ([e]++([e]++([e]++[e])))) (fun b ob q=>Heap.get?_push_of_some _ q) (Nat.le_refl _) ⟨(by decide:4<=sizeLine),_,r1.append (r1.append (r1.append r1)),IsTup.new _ _,⟨_,Heap.get?_push_size _ rfl,rfl⟩⟩,rfl,q _ (I.hok.fresh (Nat.le_refl _))⟩
end L2
namespace Dv
open PySem L2 Mr Sx
noncomputable def cX3:F2:=fun d e=>match d,e with
 | .tup [x],.int i=>if 1<=i/\i<=4 then some (.val (.tup (List.replicate i.toNat x)))else none
 | _,_=>none
theorem bR1:sU cX2 cX3:=by
 intro H d1 d2 x y Q res v1 v2 e k
 unfold cX3 at e
 split at e
 ·rename_i x' i
  split at e
  ·rename_i hi
   cases e
   obtain⟨p,xs,rfl,h1,r1⟩:=eG v1
   obtain rfl:=cP v2
   cases r1 with
   | cons a t=>
     cases t
     have:i=1\/i=2\/i=3\/i=4:=by omega
     rcases this with rfl | rfl | rfl | rfl
     ·exact .inl ⟨p,_,rfl,bU h1,.inl ⟨rfl,k _ H (.refl _) (.tup h1 (.cons a .nil))⟩⟩
     ·exact .inl ⟨p,_,rfl,bU h1,.inr ⟨rfl,fun r hr=>k _ _ (bH hr) (mH hr (.cons a (.cons a .nil)))⟩⟩
     ·exact .inr ⟨p,_,rfl,bU h1,.inl ⟨rfl,fun r hr=>k _ _ (bH hr) (mH hr (.cons a (.cons a (.cons a .nil))))⟩⟩
     ·exact .inr ⟨p,_,rfl,bU h1,.inr ⟨rfl,fun r hr=>k _ _ (bH hr) (mH hr (.cons a (.cons a (.cons a (.cons a .nil)))))⟩⟩
  ·cases e
 ·cases e
theorem cI3{x:D}{i:Int}{K:Res->Prop}:OK1 (cX3 (.tup [x]) (.int i)) K=((1<=i/\i<=4)/\K (.val (.tup (List.replicate i.toNat x)))):=by
 show OK1 (if _ then _ else none) K=_
 rw[bO];rfl
end Dv
namespace Dv
open PySem L2 Mr
def cX4(C:MC):Prop:=∀ as (K K':Res->List Sl->Prop),(∀ r l,K r l->K' r l)->C as K->C as K'
structure GM1(E:Ex)(X:Cx)(st:Stmt)(m:MS):Prop where
 to:∀ Γ,PS X st (mTS Γ E m)
 mon:aC4 m
section
variable{X:Cx}{E:Ex}{st:Stmt}{ss gF:List Stmt}{r:DS}{a b m:MS}{pos:Pos}
theorem sE:aC4 (RS r):=fun _ _ _ w q=>bZ q w
theorem bY5{Γ:Gm}{D:Ends}{σV:St}{H:Hp}(h:mTS Γ E (RS r) D σV H):dTS Γ E r D σV H:=by
 obtain⟨σ,ok,q⟩:=h
 obtain⟨o,e,q⟩:=kA.mp q
 exact⟨σ,ok,o,e,q⟩
theorem bG2(h:GSs E X ss r):GM E X ss (RS r):=⟨fun Γ=>cS9 (h.to Γ) fun _ _ _=>bY5,sE⟩
theorem cI4(h:GS E X st r):GM1 E X st (RS r):=⟨fun Γ=>psW (h.to Γ) fun _ _ _=>bY5,sE⟩
theorem cX5(h:GM1 E X st m):GM E X [st] m:=⟨fun Γ=>iW (h.to Γ),h.mon⟩
def sqM(b:MS)(Q:Out->Prop)(o:Out):Prop:=match o with
 | .nx σ1=>b σ1 Q
 | o=>Q o
def bK0(a b:MS):MS:=fun σ Q=>a σ (sqM b Q)
theorem uW(h1:aC4 a)(h2:aC4 b):aC4 (bK0 a b):=fun σ Q Q' w q=>h1 σ _ _ (fun o q=>by
 cases o with
 | nx σ1=>exact h2 σ1 _ _ w q
 | rt r σ'=>exact w _ q
 | bk σ'=>exact w _ q
 | ct σ'=>exact w _ q
 | ex c f σ'=>exact w _ q) q
theorem zG(h1:GM1 E X st a)(h2:GM E X gF b):GM E X (st::gF) (bK0 a b) where
 to:=fun Γ=>cS9 (fP (h1.to Γ) (h2.to Γ)) fun D σV H ⟨σ,ok,q⟩=>⟨σ,ok,h1.mon σ _ _ (fun o q=>by
  cases o with
  | nx σ1=>exact fun σV1 H1 ok1 st1=>⟨σ1,ok1,h2.mon σ1 _ _ (fun o q=>q.after st1) q⟩
  | rt r σ'=>exact q
  | bk σ'=>exact q
  | ct σ'=>exact q
  | ex c f σ'=>exact q) q⟩
 mon:=uW h1.mon h2.mon
def mIf(t:DT)(a b:MS):MS:=fun σ Q=>RT t σ fun x σ1=>if x=true then a σ1 Q else b σ1 Q
theorem dF6{c:Expr}{l k:List Stmt}{t:DT}(hc:GT X c t)(ha:GM E X l a)(hb:GM E X k b):GM1 E X (.If c l k pos) (mIf t a b) where
 to:=fun Γ=>psW (aP9 (hc.to Γ) (ha.to Γ) (hb.to Γ)) fun D σV H ⟨σ,ok,q⟩=>by
  obtain⟨⟨x,σ1⟩,e1,q⟩:=kA.mp q
  refine⟨σ,ok,x,σ1,e1,fun H1 ok1 st1=>?_⟩
  dsimp only at q
  split at q
  ·rename_i hx;rw[if_pos hx];exact⟨σ1,ok1,ha.mon _ _ _ (fun o q=>q.after st1) q⟩
  ·rename_i hx;rw[if_neg hx];exact⟨σ1,ok1,hb.mon _ _ _ (fun o q=>q.after st1) q⟩
 mon:=fun σ Q Q' w q=>bZ q fun x q=>by
  dsimp only at q ⊢
  split at q
  ·rename_i hx;rw[if_pos hx];exact ha.mon _ _ _ w q
  ·rename_i hx;rw[if_neg hx];exact hb.mon _ _ _ w q
def xB(i n:Nat)(C:MC)(ra:DA):MS:=fun σ Q=>OK1 (ra σ) fun x=>OK1 (pA x.2 x.1) fun as=>(as.length=n/\eA x.1=true)/\C as fun y as'=>OK1 (dA1 i y (iJ x.1 as' 0 x.2)) fun σ2=>Q (.nx σ2)
theorem bR2{Γ:Gm}{i:Nat}{x:Res}{σ σ1 σ2:Sg}{σV:St}{H H1:Hp}{v:V}(ok1:StOk Γ H1 σ1 σV)(r1:jA Γ H1 σ1 σV x v)(st1:Step σ σV H σ1 σV H1)(f1:Frh H x v)(e2:dA1 i x σ1=some σ2) :
  StOk Γ H1 σ2 (σV.set i (some v))/\Step σ σV H σ2 (σV.set i (some v)) H1:=by
 cases x with
 | val d=>
   have e2':(if eP σ1 i=true then some (σ1.set i (some ⟨.val,d⟩))else none)=some σ2:=e2
   split at e2'
   ·rename_i hp;cases e2';exact⟨ok1.put hp r1,st1.put hp .val (.inl rfl)⟩
   ·cases e2'
 | own d=>
   have e2':(if eP σ1 i=true then some (σ1.set i (some ⟨.own,d⟩))else none)=some σ2:=e2
   split at e2'
   ·rename_i hp
    cases e2'
    obtain⟨p,rfl,q1,q2,q3⟩:=r1
    exact⟨ok1.putOwn hp q1 q2 q3,st1.put hp .own (.inr ⟨rfl,fun p e=>f1 _ p rfl e⟩)⟩
   ·cases e2'
 | slot j=>cases e2
theorem uX{i n:Nat}{C:MC}{ra:DA}(hC:cX4 C):aC4 (xB i n C ra):=fun σ Q Q' w q=>bZ q fun x q=>bZ q fun as q=>⟨q.1,hC _ _ _ (fun y as' q=>bZ q fun σ2 q=>w _ q) q.2⟩
theorem bG3{i n:Nat}{C:MC}{ra:DA}{EK:XK}(hC:cX4 C)(h:∀ Γ,PS X st (cA4 (aQ6 (bA9 n C) [] EK (dTA Γ ra)) (sK i))):GM1 E X st (xB i n C ra) where
 to:=fun Γ=>psW (h Γ) fun D σV H ⟨σ,ok,q⟩=>by
  obtain⟨⟨rs,σ1⟩,e1,q⟩:=kA.mp q
  obtain⟨as,e2,⟨hl,hn⟩,q⟩:=kA.mp q
  refine⟨σ,ok,rs,σ1,e1,fun vs H1 ok1 r1 st1 f1=>?_⟩
  show bA9 n C (vs++[]) H1 _ EK
  rw[List.append_nil]
  obtain⟨ao,c⟩:=wB e2 hn ok1 r1 st1 f1
  refine⟨as,ao,hl,hC _ _ _ (fun y as' q v H2 po nw=>?_) q⟩
  obtain⟨q1,q2,q3,q4⟩:=c y as' v H2 po nw
  obtain⟨σ2,e3,q⟩:=kA.mp q
  obtain⟨p1,p2⟩:=bR2 q1 q2 q3 q4 e3
  exact q _ _ p1 p2
 mon:=uX hC
end
theorem zH{len:Nat}{m:MS}(hm:aC4 m):cX4 (cL6 len m):=fun as K K' w q=>hm _ _ _ (fun o q=>by
 cases o with
 | nx σ=>exact w _ _ q
 | rt r σ=>obtain⟨r',e,q⟩:=q;exact⟨r',e,w _ _ q⟩
 | bk σ=>exact q
 | ct σ=>exact q
 | ex c f σ=>exact q) q
theorem aT7{C:MC}{K:PySem.W.Frag}{H:Hp}{a:Addr}{ns:List Int}(hC:cX4 C)(hK:bC3 K=true)(hO:cQ7 H)(hS:SqL K H a (ns.map V.int))(h:C [⟨.val,.lst (ns.map D.int)⟩] fun y _=>y=.val (.bl true)) :
  bA9 1 C [.ref a] H (fun v _=>v=.bl true) (fun _ _ _=>False):=
 ⟨_,cE8 hK hO hS,rfl,hC _ _ _ (fun y as' e v H' po nw=>by subst e;cases nw;rfl) h⟩
end Dv
namespace L2
open PySem Dv
inductive FQ(Q:Hp->Prop):Hp->Prop
 | done {H:Hp}:Q H->FQ Q H
 | step {H:Hp} {p:Addr} {u:HO}:H p=some u->Fz u->(∀ o,FQ Q (upd H p (.frz o u)))->FQ Q H
theorem cI5{P:Program}{w:World}{H₀ H:Hp}{fs ex:List Addr}{h₀ h:Heap}{p:Addr}{u:HO}(un:Un fs ex H₀ H h₀ h)(ok:HOk P w H h)(e:H p=some u)(hu:Fz u):∃ o,Un fs ex H₀ (upd H p (.frz o u)) h₀ h/\HOk P w (upd H p (.frz o u)) h:=by
 have nt:∀ b xs,H b=some (.tup xs)->b≠p:=fun b xs q z=>by subst z;rw[e]at q;cases q;exact hu
 have nf:∀ b o x,H b=some (.frz o x)->b≠p:=fun b o x q z=>by subst z;rw[e]at q;cases q;exact hu
 have no:∀ b x,H b=some (.own x)->b≠p:=fun b x q z=>by subst z;rw[e]at q;cases q;exact hu
 have nb:∀ b x,H b=some (.tbl x)->b≠p:=fun b x q z=>by subst z;rw[e]at q;cases q;exact hu
 have nn:∀ b,H b=none->b≠p:=fun b q z=>by subst z;rw[e]at q;cases q
 obtain⟨o,ho⟩:∃ o,h.get? p=some o:=by
  have:=ok p u e
  cases u with
  | lst xs=>obtain⟨_,_,_,_,q⟩:=this;exact⟨_,q⟩
  | dK kvs=>obtain⟨_,_,_,_,ob,_,_,q,_⟩:=this;exact⟨_,q⟩
  | dT kvs=>obtain⟨_,_,_,_,ob,_,_,q,_⟩:=this;exact⟨_,q⟩
  | _=>exact hu.elim
 have st:∀ a x,eB P w H h a x->eB P w (upd H p (.frz o u)) h a x:=fun a x k=>
  k.stay (fun _ _ _ q=>q) (fun b q=>by rw[aL (no b _ q)];exact q) fun b xs q=>by rw[aL (nt b _ q)];exact q
 refine⟨o,⟨un.keep,un.slot,fun b ob q n hx=>?_,un.there,fun b xs q=>?_,fun b ob x q=>?_,fun b ps q=>?_⟩,fun a x q=>?_⟩
 ·have:=un.free b ob q n hx
  rw[aL (nn b this)];exact this
 ·have:=un.tups b xs q
  rw[aL (nt b _ this)];exact this
 ·have:=un.frzs b ob x q
  rw[aL (nf b _ _ this)];exact this
 ·obtain⟨m,e2⟩:=un.tbls b ps q
  exact⟨m,by rw[aL (nb b _ e2)];exact e2⟩
 ·by_cases ha:a=p
  ·subst ha
   rw[aR]at q;cases q
   exact⟨ho,st a u (ok a u e)⟩
  ·rw[aL ha]at q
   exact st a x (ok a x q)
def spF(sp:Sp):Sp:=fun vs H Q E=>sp vs H (fun v H'=>FQ (Q v) H') E
theorem FnOk.fz{P:Program}{w:World}{K:PySem.W.Frag}{mg:Str->Option Value}{base:Heap}{CX:CXT}{k:Nat}{f:Addr}{fd:FuncData}{ps:List Str}{sp:Sp}(F:FnOk P w K mg base CX k f fd ps sp):FnOk P w K mg base CX k f fd ps (spF sp):=
 ⟨fun vs H Q E q=>F.len vs H _ E q,fun A outer s H args us vs Q E hr he hb hv hs=>codeAny_mono (F.run A outer s H args us vs _ E hr he hb hv hs) fun r s' q=>by
  cases r with
  | error e=>exact q
  | ok x=>
    cases x with
    | ret u=>
      obtain⟨v,H',q1,q2,q3,q4,q5,q6⟩:=(show CE outer P w H s _ u s' from q)
      show CE outer P w H s Q u s'
      clear q
      induction q6 with
      | done q=>exact⟨v,_,q1,q2,q3,q4,q5,q⟩
      | step e hu _ ih=>
        obtain⟨o,q3',q4'⟩:=cI5 q3 q4 e hu
        exact ih o q3' q4'
    | _=>exact q⟩
end L2
namespace Dv
open PySem L2 Mr
abbrev qP(q:Str×List Str):D:=.tup [.str q.1,.tup (q.2.map D.str)]
abbrev qD(qs:List (Str×List Str)):D:=.tup (qs.map qP)
theorem cI6{H:Hp}{p:Addr}{i j m:Int}(hp:H p=some (.lst [.int i,.int j])):ArgOk H [⟨.par,.lst [.int i,.int j]⟩,⟨.val,.int m⟩] [.ref p,.int m]:=by
 refine⟨rfl,fun n s e=>?_,fun n l s t q hn e1 e2 m1 m2 v1 v2=>?_,fun n s e=>?_⟩
 ·match n,e with
  | 0,e=>cases e;exact⟨_,rfl,p,rfl,_,hp,gG [i,j]⟩
  | 1,e=>cases e;exact⟨_,rfl,.int m⟩
 ·match n,e1,l,e2 with
  | 0,_,0,_=>exact hn rfl
  | 0,_,1,_=>cases v2
  | 1,e1,_,_=>cases e1;cases m1
 ·match n,e with
  | 0,e=>cases e;exact fun z=>nomatch z
  | 1,e=>cases e;exact fun z=>nomatch z
theorem cI7{p c:Addr}{i j m:Int}(h:cD8 [⟨.par,.lst [.int i,.int j]⟩,⟨.val,.int m⟩] [.ref p,.int m] c):c=p:=by
 obtain⟨n,s,e,mt,ev⟩:=h
 match n,e with
 | 0,_=>cases ev;rfl
 | 1,_=>cases ev
theorem bR3{H H':Hp}{p:Addr}{i j i' j' m:Int}(po:PostOk [⟨.par,.lst [.int i,.int j]⟩,⟨.val,.int m⟩] [.ref p,.int m] H [⟨.par,.lst [.int i',.int j']⟩,⟨.val,.int m⟩] H'):eW H' p/\SameBut p H H':=by
 refine⟨?_,fun c o n e=>po.fr c o e fun z=>n (cI7 z)⟩
 obtain⟨s',v,e1,_,e3,e4⟩:=po.rel 0 _ rfl rfl
 cases e1;cases e3
 obtain⟨q,eq,xs,hx,hr⟩:=(cS (s:=⟨.par,.lst [.int i',.int j']⟩) (fun z=>nomatch z)).mp e4
 cases eq
 rw[Rps.ints_inv (ns:=[i',j']) hr]at hx
 exact⟨i',j',hx⟩
theorem cX6{t:DT}{a b:MS}(ha:aC4 a)(hb:aC4 b):aC4 (mIf t a b):=fun σ Q Q' w q=>bZ q fun x q=>by
 dsimp only at q ⊢
 split at q
 ·rename_i hx;rw[if_pos hx];exact ha _ _ _ w q
 ·rename_i hx;rw[if_neg hx];exact hb _ _ _ w q
def dB3(ls:List (List Int)):Prop:=1<=ls.length/\ls.length<=6/\∀ l∈ls,(1<=l.length/\l.length<=4)/\∀ n∈l,0<=n/\n < 6
abbrev xC(ls:List (List Int)):D:=.lst (ls.map fun l=>.lst (l.map D.int))
def cRS:MC:=fun as K=>∃ a b:Int,as=[⟨.par,.lst [.int a,.int b]⟩]/\∀ ls a' b',dB3 ls->K (.own (xC ls)) [⟨.par,.lst [.int a',.int b']⟩]
theorem bG4:cX4 cRS:=fun as K K' w ⟨a,b,e,q⟩=>⟨a,b,e,fun ls a' b' h=>w _ _ (q ls a' b' h)⟩
end Dv
namespace Mr
open PySem L2 Dv
noncomputable def fZ:DS:=(bL (lH (gH (aU gtI (aU ixD (aG 0) (dC (.int 0))) (dC (.int 0)))) (bL (bV 2 (aU aU4 (aU ixD (aG 0) (dC (.int 0))) (aG 1)))
 (bL (cE6 0 (dC (.int 0)) (aU dA7 (aU ixD (aG 0) (dC (.int 0))) (aG 1)))
 (gP (aG 2)))) gO)
 (bL (bV 3 (aU aU4 (aU yP (aU ixD (aG 0) (dC (.int 1))) (dC (.int 69623))) (dC (.int 2147483647))))
 (bL (cE6 0 (dC (.int 1)) (aU eN (aU aU4 (aU eN (aU yP (aG 3) (dC (.int 48271))) (dC (.int 30103))) (dC (.int 2147483629))) (dC (.int 1))))
 (gP (aU aU4 (aU dA7 (aU eN (aU yP (aG 3) (dC (.int 2147483647))) (aU ixD (aG 0) (dC (.int 1)))) (dC (.int 8191))) (aG 1))))))
noncomputable def aE:Dv.Run:=nQ 4 fZ
noncomputable def dD:DS:=(bL (bV 2 (dCB pB (aC (aG 1) aM)))
 (bL (bV 3 (lF aM))
 (bL (aC2 (gH (aU gtI (dCB jT (aC (aG 2) aM)) (dC (.int 0))))
 (jB (kM "list" 3 aS1 (aC (dFz (kM "list" 2 wC (aC (dFz (aQ 2 aE (aC (aG 0) (aC (dCB jT (aC (aG 2) aM)) aM)))) aM))) aM))))
 (gP (aG 3)))))
noncomputable def aW:Dv.Run:=nQ 4 dD
noncomputable def gB:DS:=(gP (dSl (aQ 2 aW (aC (aG 0) (aC (aG 1) aM))) mI (dP (aU eN (dC (.int 1)) (aQ 2 aE (aC (aG 0) (aC (dCB aS0 (aC (dC (.int 4)) (aC (dCB jT (aC (aG 1) aM)) aM))) aM)))))))
noncomputable def bM:Dv.Run:=nQ 2 gB
noncomputable def cL:DS:=(bL (bV 1 (aU eN (dC (.int 1)) (aQ 2 aE (aC (aG 0) (aC (dC (.int 6)) aM)))))
 (bL (bV 2 (aU eN (dC (.int 1)) (aQ 2 aE (aC (aG 0) (aC (dC (.int 6)) aM)))))
 (bL (lH (gH (aU (eqD false) (aQ 2 aE (aC (aG 0) (aC (dC (.int 3)) aM))) (dC (.int 0)))) (gP (eC [5] (qS (aC (aG 2) aM)) (dgN 5) iU (dFz (aQ 2 bM (aC (aG 0) (aC (dCB yY (aC (aG 1) aM)) aM)))))) gO)
 (bL (bV 3 (lF (aC (dFz (aQ 2 bM (aC (aG 0) (aC (dCB yY (aC (aG 1) aM)) aM)))) aM)))
 (bL (bV 4 (dCB pB (aC (aU ixD (aG 3) (dC (.int 0))) aM)))
 (bL (qO (qS (aC (aU dA3 (aG 2) (dC (.int 1))) aM)) (dgN 5)
 (bL (bV 6 (aQ 2 bM (aC (aG 0) (aC (aU ixD (aG 3) (aQ 2 aE (aC (aG 0) (aC (dCB jT (aC (aG 3) aM)) aM)))) aM))))
 (bL (bV 7 (eC [8] (qS (aC (aG 1) aM)) (dgN 8) (gH (aU (inD true) (aG 8) (aG 4))) (dFz (aG 8))))
 (bL (bV 6 (aU eN (dSl (aG 6) mI (dP (aQ 2 aE (aC (aG 0) (aC (aU eN (dCB jT (aC (aG 6) aM)) (dC (.int 1))) aM))))) (dSl (aG 7) mI (dP (aQ 2 aE (aC (aG 0) (aC (dC (.int 3)) aM)))))))
 (bL (lH (gH (aU (eqD false) (aG 6) (lF aM))) (bV 6 (dSl (aG 4) mI (dP (dC (.int 1))))) gO)
 (bL (jB (kM "list" 3 aS1 (aC (dFz (dSl (aG 6) mI (dP (dC (.int 4))))) aM)))
 (jB (vW "list" 4 bX0 (aC (eC [8] (dIt (aU ixD (aG 3) (bJ7 dA4 (dC (.int 1))))) (dgN 8) (gH (aU (inD true) (aG 8) (aG 4))) (dFz (aG 8))) aM)))))))))
 (gP (aG 3))))))))
noncomputable def bR:Dv.Run:=nQ 9 cL
noncomputable def fC:DS:=(bL (bV 2 (dC (.str "abcdefghijklmnopqrstuvwxyz")))
 (bL (lH (gH (aU (eqD false) (aQ 2 aE (aC (aG 0) (aC (dC (.int 5)) aM))) (dC (.int 0)))) (bL (dA2 3 4 (aC (aU ixD (aG 2) (aQ 2 aE (aC (aG 0) (aC (dC (.int 13)) aM)))) (aC (aU ixD (aG 2) (aU eN (dC (.int 13)) (aQ 2 aE (aC (aG 0) (aC (dC (.int 13)) aM))))) aM)))
 (gP (dSl (lF (aC (dFz (aG 3)) (aC (dFz (aU eN (aG 3) (aG 4))) (aC (dFz (aG 4)) (aC (dFz (aU eN (aG 4) (aG 3))) (aC (dFz (aU eN (aG 3) (aG 3))) (aC (dFz (aU eN (aU eN (aG 3) (aG 4)) (aG 3))) (aC (dFz (aU eN (aG 4) (aG 4))) (aC (dFz (aU eN (aU eN (aG 3) (aG 3)) (aG 4))) aM))))))))) mI (dP (aG 1))))) gO)
 (bL (bV 5 (bJ7 (bC7 "") (eC [10] (qS (aC (aQ 2 aE (aC (aG 0) (aC (dC (.int 5)) aM))) aM)) (dgN 10) iU (aU ixD (aG 2) (aQ 2 aE (aC (aG 0) (aC (dC (.int 26)) aM)))))))
 (bL (bV 6 (aQ 2 aE (aC (aG 0) (aC (aU eN (dCB jT (aC (aG 5) aM)) (dC (.int 1))) aM))))
 (bL (bV 7 (aQ 2 aE (aC (aG 0) (aC (dC (.int 26)) aM))))
 (bL (bV 8 (aQ 2 aE (aC (aG 0) (aC (dC (.int 3)) aM))))
 (bL (bV 9 (lF aM))
 (bL (qO (qS (aC (aG 1) aM)) (dgN 10)
 (bL (bV 11 (aU eN (aU eN (dSl (aG 5) mI (dP (aG 6))) (aU ixD (aG 2) (aU aU4 (aU eN (aG 7) (aU yP (dC (.int 5)) (aG 10))) (dC (.int 26))))) (dSl (aG 5) (dP (aG 6)) mI)))
 (jB (kM "list" 9 aS1 (aC (dFz (aU eN (aG 11) (aU yP (dC (.str "z")) (dCB cL7 (aC (bA1 (aU (eqD false) (aG 8) (dC (.int 1))) (aU (eqD false) (aU aU4 (aG 10) (dC (.int 2))) (dC (.int 1)))) aM))))) aM)))))
 (gP (aG 9))))))))))
noncomputable def cH:Dv.Run:=nQ 12 fC
noncomputable def cM:MS:=(bK0 (RS (bV 1 (aQ 2 aE (aC (aG 0) (aC (dC (.int 2)) aM)))))
 (bK0 (mIf (gH (aU (eqD false) (aG 1) (dC (.int 0)))) (xB 2 1 cRS (aC (aG 0) aM)) (RS (bV 2 (aQ 1 bR (aC (aG 0) aM)))))
 (RS (bL (bV 3 (aQ 2 aW (aC (aG 0) (aC (aQ 2 cH (aC (aG 0) (aC (dC (.int 6)) aM))) aM))))
 (bL (bV 4 (dFz (aG 3)))
 (bL (lH (gH (aU gtI (aQ 2 aE (aC (aG 0) (aC (dC (.int 4)) aM))) (dC (.int 0)))) (bV 4 (aQ 2 cH (aC (aG 0) (aC (dC (.int 6)) aM)))) gO)
 (bL (bV 5 (lF aM))
 (bL (qO (aS7 (aQ 2 aW (aC (aG 0) (aC (aG 2) aM)))) (nP 2 (dI (dgN 6) (dI (dgN 7) mE)))
 (jB (kM "list" 5 aS1 (aC (aR7 (aC (aU ixD (aG 4) (aG 6)) (aC (dCB qQ (aC (eC [8] (dIt (aQ 2 aW (aC (aG 0) (aC (aG 7) aM)))) (dgN 8) iU (aU ixD (aG 3) (aG 8))) aM)) aM))) aM))))
 (gP (dCB qQ (aC (aG 5) aM)))))))))))
noncomputable def cD:MC:=cL6 9 cM
theorem dU:aC4 cM:=(uW sE (uW (cX6 (uX bG4) sE) sE))
noncomputable def hZ:DS:=(bL (bV 2 (aU eN (aU yP (dC (.int 7919)) (aG 1)) (dC (.int 11))))
 (bL (lH (gH (aU ltI (aG 1) (dCB jT (aC (aG 0) aM)))) (bV 2 (aU ixD (aG 0) (aG 1))) (lH (gH (aU gtI (dCB jT (aC (aG 0) aM)) (dC (.int 0)))) (bV 2 (aU eN (aG 2) (aU yP (aU aU4 (aU ixD (aG 0) (aU aU4 (aG 1) (dCB jT (aC (aG 0) aM)))) (dC (.int 2147483629))) (dC (.int 69623))))) gO))
 (bL (bV 3 (aU eN (aU aU4 (aU eN (aU yP (aU aU4 (aG 2) (dC (.int 2147483629))) (dC (.int 48271))) (aU yP (dC (.int 40692)) (aG 1))) (dC (.int 2147483629))) (dC (.int 1))))
 (gP (lF (aC (dFz (aU yP (aG 2) (dCB cL7 (aC (aU geI (aG 2) (aU dE4 (dC (.int 10)) (dC (.int 18)))) aM)))) (aC (dFz (aG 3)) aM)))))))
noncomputable def cJ:Dv.Run:=nQ 4 hZ
noncomputable def dN:DS:=(bL (bV 1 (lF aM))
 (bL (qO (dIt (aG 0)) (nP 2 (dI (dgN 2) (dI (dgN 3) mE)))
 (jB (vW "list" 1 bX0 (aC (eC [4] (dIt (aG 3)) (dgN 4) (gH (aU (inD true) (aG 4) (aG 1))) (dFz (aG 4))) aM))))
 (gP (dCB qQ (aC (aG 1) aM)))))
noncomputable def cN:Dv.Run:=nQ 5 dN
noncomputable def fD:DS:=(bL (bV 2 (aQ 2 aE (aC (aG 0) (aC (aG 1) aM))))
 (bL (lH (gH (aU (eqD false) (aG 1) (dC (.int 12)))) (gP (aU ixD (lF (aC (dC (.int 0)) (aC (dC (.int 1)) (aC (dC (.int 2)) (aC (dC (.int 10)) (aC (dC (.int 11)) (aC (dC (.int 12)) (aC (dC (.int 21)) (aC (dC (.int 101)) (aC (dC (.int 111)) (aC (dC (.int 112)) (aC (dC (.int 121)) (aC (dC (.int 211)) aM))))))))))))) (aG 2))) gO)
 (gP (aG 2))))
noncomputable def eI:Dv.Run:=nQ 3 fD
noncomputable def cW:DS:=(bL (bV 2 (aU ixD (lF (aC (dC (.int 2)) (aC (dC (.int 3)) (aC (dC (.int 5)) (aC (dC (.int 12)) (aC (dC (.int 1000)) aM)))))) (aQ 2 aE (aC (aG 0) (aC (dC (.int 5)) aM)))))
 (bL (bV 3 (aQ 2 aE (aC (aG 0) (aC (aU ixD (lF (aC (dC (.int 13)) (aC (dC (.int 41)) aM))) (aQ 2 aE (aC (aG 0) (aC (dC (.int 2)) aM)))) aM))))
 (gP (eC [4] (qS (aC (aG 3) aM)) (dgN 4) iU (dCB qQ (aC (eC [5] (qS (aC (aG 1) aM)) (dgN 5) iU (dFz (aQ 2 eI (aC (aG 0) (aC (aG 2) aM))))) aM))))))
noncomputable def bG:Dv.Run:=nQ 6 cW
noncomputable def iA:DS:=(bL (bV 3 (eC [4] (dIt (aG 2)) (dgN 4) iU (dFz (dMT cW6 (aG 0) (aG 4)))))
 (gP (dCB iK (aC (eC [5] (dIt (aG 1)) (dgN 5) iU (dCB qQ (aC (eC [6] (dIt (aG 3)) (dgN 6) iU (aU ixD (aG 5) (aG 6))) aM))) aM))))
noncomputable def cA:Dv.Run:=nQ 7 iA
noncomputable def fE:DS:=(bL (bV 2 (aQ 1 cN (aC (aG 1) aM)))
 (bL (bV 3 (aQ 2 bG (aC (aG 0) (aC (dCB jT (aC (aG 2) aM)) aM))))
 (bL (bV 4 (aU (eqD false) (aQ 2 aE (aC (aG 0) (aC (dC (.int 6)) aM))) (dC (.int 0))))
 (bL (bV 5 (lF aM))
 (bL (qO (dIt (aG 1)) (nP 2 (dI (dgN 6) (dI (dgN 7) mE)))
 (bL (lH (cT0 (aG 4)) (bV 3 (aQ 2 bG (aC (aG 0) (aC (dCB jT (aC (aG 2) aM)) aM)))) gO)
 (jB (kM "list" 5 aS1 (aC (dCB qQ (aC (aQ 3 cA (aC (aG 2) (aC (aG 3) (aC (aG 7) aM)))) aM)) aM)))))
 (gP (dCB qQ (aC (aG 5) aM))))))))
noncomputable def dG:Dv.Run:=nQ 8 fE
noncomputable def dO:DS:=(bL (bV 3 (aQ 2 aE (aC (aG 0) (aC (dCB jT (aC (aG 2) aM)) aM))))
 (bL (bV 4 (dCB pB (aC (aU ixD (aG 2) (aG 3)) aM)))
 (bL (bV 5 (aQ 2 aE (aC (aG 0) (aC (dC (.int 6)) aM))))
 (bL (bV 6 (aQ 2 aE (aC (aG 0) (aC (aU eN (dCB jT (aC (aG 4) aM)) (dC (.int 1))) aM))))
 (bL (lH (gH (aU ltI (aG 5) (dC (.int 2)))) (bV 4 (aU eN (dSl (aG 4) mI (dP (aG 6))) (dSl (aG 4) (dP (aU eN (aG 6) (dC (.int 1)))) mI))) (lH (gH (aU ltI (aG 5) (dC (.int 4)))) (bL (bV 7 (dCB pB (aC (aU ixD (aU eN (aG 4) (lF (aC (dFz (aU cX3 (aR7 (aC (dC (.int 0)) aM)) (dCB jT (aC (aU ixD (aU ixD (aG 1) (aG 3)) (dC (.int 1))) aM)))) aM))) (aG 6)) aM)))
 (bL (bV 8 (aQ 2 aE (aC (aG 0) (aC (dCB jT (aC (aG 7) aM)) aM))))
 (bL (cE6 7 (aG 8) (aU ixD (lF (aC (dFz (aQ 2 aE (aC (aG 0) (aC (dC (.int 3)) aM)))) (aC (dFz (aQ 2 aE (aC (aG 0) (aC (dC (.int 1000)) aM)))) aM))) (aQ 2 aE (aC (aG 0) (aC (dC (.int 2)) aM)))))
 (bV 4 (dSl (dCB iK (aC (aU eN (aG 4) (lF (aC (dCB qQ (aC (aG 7) aM)) aM))) aM)) mI (dP (dC (.int 40)))))))) (lH (gH (aU (eqD false) (aG 5) (dC (.int 4)))) (bV 4 (dSl (aG 4) (dP (aG 6)) (dP (aU eN (aG 6) (dC (.int 1)))))) (bV 4 (lF aM)))))
 (gP (aU eN (aU eN (dSl (aG 2) mI (dP (aG 3))) (aR7 (aC (dCB qQ (aC (aG 4) aM)) aM))) (dSl (aG 2) (dP (aU eN (aG 3) (dC (.int 1)))) mI))))))))
noncomputable def bQ:Dv.Run:=nQ 9 dO
noncomputable def fF:DS:=(gP (bA1 (bJ7 (cU4 "bool") (aG 0)) (aU (eqD false) (aG 0) (aG 1))))
noncomputable def dH:Dv.Run:=nQ 2 fF
noncomputable def fG:DS:=(bL (qO (qS (aC (dCB jT (aC (aG 0) aM)) aM)) (dgN 2)
 (qO (qS (aC (aG 2) aM)) (dgN 3)
 (bL (cT4 (nP 2 (dI (dgN 4) (dI (dgN 5) mE))) (aR7 (aC (aU ixD (aU ixD (aG 0) (aG 2)) (dC (.int 1))) (aC (aU ixD (aU ixD (aG 0) (aG 3)) (dC (.int 1))) aM))))
 (bL (bV 6 (eC [7] (dIt (aG 4)) (dgN 7) (gH (aU (inD false) (aG 7) (aG 5))) (dFz (aG 7))))
 (lH (gH (aU (eqD true) (aQ 3 cA (aC (aG 4) (aC (aU ixD (aG 1) (aG 2)) (aC (aG 6) aM)))) (aQ 3 cA (aC (aG 5) (aC (aU ixD (aG 1) (aG 3)) (aC (aG 6) aM)))))) (gP (dC (.bl false))) gO)))))
 (gP (dC (.bl true))))
noncomputable def cT:Dv.Run:=nQ 8 fG
noncomputable def fH:DS:=(gP (eC [2,3] (dB2 (aC (aG 0) (aC (aG 1) aM))) (nP 2 (dI (dgN 2) (dI (dgN 3) mE))) iU (aR7 (aC (aU ixD (aG 2) (dC (.int 1))) (aC (dFz (aG 3)) aM)))))
noncomputable def eJ:Dv.Run:=nQ 4 fH
noncomputable def cO:DS:=(gP (eC [2] (dIt (aU ixD (aG 0) (dC (.int 0)))) (dgN 2) (gH (aU (inD false) (aG 2) (aU ixD (aG 1) (dC (.int 0))))) (dFz (aG 2))))
noncomputable def cI:Dv.Run:=nQ 3 cO
noncomputable def fJ:DS:=(gP (eC [2] (dIt (aG 1)) (dgN 2) iU (dFz (dMT cW6 (aG 0) (aG 2)))))
noncomputable def eK:Dv.Run:=nQ 3 fJ
noncomputable def gC:DS:=(gP (aR7 (aC (dCB qQ (aC (aG 0) aM)) (aC (dCB qQ (aC (dCB iK (aC (aG 1) aM)) aM)) aM))))
noncomputable def fK:Dv.Run:=nQ 2 gC
noncomputable def jO:DS:=(gP (dCB qQ (aC (eC [2] (dIt (aG 1)) (dgN 2) iU (aU ixD (aG 0) (aG 2))) aM)))
noncomputable def iB:Dv.Run:=nQ 3 jO
noncomputable def xD:DS:=(bL (bV 2 (aQ 2 eK (aC (aU ixD (aG 0) (dC (.int 0))) (aC (aG 1) aM))))
 (gP (aQ 2 fK (aC (aG 1) (aC (eC [3] (dIt (aU ixD (aG 0) (dC (.int 1)))) (dgN 3) iU (dFz (aQ 2 iB (aC (aG 3) (aC (aG 2) aM))))) aM)))))
noncomputable def mR:Dv.Run:=nQ 4 xD
noncomputable def eL:DS:=(bL (bV 2 (aQ 2 cI (aC (aG 0) (aC (aG 1) aM))))
 (gP (aU (eqD false) (aQ 2 mR (aC (aG 0) (aC (aG 2) aM))) (aQ 2 mR (aC (aG 1) (aC (aG 2) aM))))))
noncomputable def dQ:Dv.Run:=nQ 3 eL
noncomputable def lV:DS:=(bL (bV 2 (aQ 2 eJ (aC (aG 0) (aC (aG 1) aM))))
 (bL (qO (aS7 (aG 2)) (nP 2 (dI (dgN 3) (dI (dgN 4) mE)))
 (lH (cL3 (gH (dCB dA5 (aC (eC [5] (dIt (dSl (aG 2) mI (dP (aG 3)))) (dgN 5) iU (dFz (aQ 2 dQ (aC (aG 4) (aC (aG 5) aM))))) aM)))) (gP (dC (.bl false))) gO))
 (gP (dC (.bl true)))))
noncomputable def iC:Dv.Run:=nQ 6 lV
noncomputable def sF:MS:=(bK0 (xB 1 1 cD (aC (aQ 2 cJ (aC (aG 0) (aC (dC (.int 0)) aM))) aM))
 (RS (bL (bV 2 (aQ 2 dG (aC (aQ 2 cJ (aC (aG 0) (aC (dC (.int 1)) aM))) (aC (aG 1) aM))))
 (bL (bV 3 (lF (aC (dFz (aG 2)) aM)))
 (bL (qO (qS (aC (dC (.int 2)) (aC (dCB bB5 (aC (dC (.int 6)) (aC (dCB aS0 (aC (dC (.int 8)) (aC (dCB jT (aC (aG 0) aM)) aM))) aM))) aM))) (dgN 4)
 (bL (bV 5 (aQ 2 cJ (aC (aG 0) (aC (aG 4) aM))))
 (bL (bV 6 (aQ 3 bQ (aC (aG 5) (aC (aG 1) (aC (aG 2) aM)))))
 (bL (lH (gH (aU (eqD false) (aQ 2 aE (aC (aG 5) (aC (dC (.int 3)) aM))) (dC (.int 0)))) (bV 6 (aQ 3 bQ (aC (aG 5) (aC (aG 1) (aC (aG 6) aM))))) gO)
 (jB (kM "list" 3 aS1 (aC (dFz (aG 6)) aM)))))))
 (bL (qO (dIt (aU eN (aG 3) (dSl (aG 3) mI (dP (dC (.int 1)))))) (dgN 7)
 (lH (cL3 (gH (aQ 2 dH (aC (aQ 2 iC (aC (aG 1) (aC (aG 7) aM))) (aC (aQ 2 cT (aC (aG 1) (aC (aG 7) aM))) aM))))) (gP (dC (.bl false))) gO))
 (gP (dC (.bl true)))))))))
noncomputable def qG:MC:=cL6 8 sF
theorem zI:aC4 sF:=(uW (uX (zH dU)) sE)
section
variable{P:Program}{w:World}{K:PySem.W.Frag}{mg:Str->Option Value}{base:Heap}{a:Adr}
theorem zJ(T:Txt K mg a):FnOk P w K mg base CX0 1 a.law_take a.fd_law_take ["_law_box_here","_law_many"] (dsp 2 aE):=by
 refine cB T.F_law_take pR (by decide) fZ (fun cdv A outer s H E hr=>?_)
 have nd:=pR.nd
 unfold fZ
 exact(aH (jX (dZ bK5 sY (cX (aB (pv 0)) ge_int (fun _ _=>rfl)) ge_int (cF _)) (aH (aO (i:=2) nd rfl (Or.inl rfl) (aT iY gQ (cX (aB (pv 0)) ge_int (fun _ _=>rfl)) (aB (pv 1))))
  (aH (bC0 (k:=0) (fun Γ=>aA0 (gE (aT aC8 bC1 (cX (aB (pv 0)) ge_int (fun _ _=>rfl)) (aB (pv 1))) Γ) (aU9 (pv 0) (gE ge_int Γ) sL)))
  (aN (bX (aB (pv 2)))))) fM)
  (aH (aO (i:=3) nd rfl (Or.inl rfl) (aT iY gQ (aT gR gU (cX (aB (pv 0)) ge_int (fun _ _=>rfl)) ge_int) ge_int))
  (aH (bC0 (k:=0) (fun Γ=>aA0 (gE (aT aZ bA (aT iY gQ (aT aZ bA (aT gR gU (aB (pv 3)) ge_int) ge_int) ge_int) ge_int) Γ) (aU9 (pv 0) (gE ge_int Γ) sL)))
  (aN (bX (aT iY gQ (aT aC8 bC1 (aT aZ bA (aT gR gU (aB (pv 3)) ge_int) (cX (aB (pv 0)) ge_int (fun _ _=>rfl))) ge_int) (aB (pv 1))))))))
theorem qH(T:Txt K mg a)(G_law_take:FnOk P w K mg base CX0 1 a.law_take a.fd_law_take ["_law_box_here","_law_many"] (dsp 2 aE)):FnOk P w K mg base CX0 2 a.law_shuffled a.fd_law_shuffled ["_law_box_here","_law_things"] (dsp 2 aW):=by
 refine cB T.F_law_shuffled jI (by decide) dD (fun cdv A outer s H E hr=>?_)
 have nd:=jI.nd
 unfold dD
 exact(aH (aO (i:=2) nd rfl (Or.inl rfl) (cG oG (fun Γ=>bN jR (by rfl) T.n_list fY (gA (aA (aB (pv 1)) aF) Γ))))
  (aH (aO (i:=3) nd rfl (Or.inl rfl) (eX aF))
  (aH (bN3 (fun Γ=>bK4 PassesOwn.never (gT (dZ bK5 sY (cG dA (fun Γ=>bE bJ (by rfl) T.n_len bW (gA (aA (aB (pv 2)) aF) Γ))) ge_int (cF _)) Γ)
  (gSs (aN (jC (kO mK (fun Γ=>iM K (by rfl) PySem.F.plainAttrs_list PySem.F.slot_list_append PySem.F.type_list_append eR (pv 3) (gA (aA (dL (kO bB9 (fun Γ=>iM K (by rfl) PySem.F.plainAttrs_list PySem.F.slot_list_pop PySem.F.type_list_pop bL0 (pv 2) (gA (aA (dL (aK (fun Γ=>aI G_law_take (hr.mono (by decide)) (by rfl) T.m_law_take T.F_law_take.kp (aJ T) .nil aY (gA (aA (aB (pv 0)) (aA (cG dA (fun Γ=>bE bJ (by rfl) T.n_len bW (gA (aA (aB (pv 2)) aF) Γ))) aF)) Γ)))) aF) Γ)))) aF) Γ))))) Γ)))
  (aN (bX (aB (pv 3)))))))
theorem zK(T:Txt K mg a)(G_law_shuffled:FnOk P w K mg base CX0 2 a.law_shuffled a.fd_law_shuffled ["_law_box_here","_law_things"] (dsp 2 aW))(G_law_take:FnOk P w K mg base CX0 1 a.law_take a.fd_law_take ["_law_box_here","_law_many"] (dsp 2 aE)):FnOk P w K mg base CX0 3 a.law_some a.fd_law_some ["_law_box_here","_law_things"] (dsp 2 bM):=by
 refine cB T.F_law_some pS (by decide) gB (fun cdv A outer s H E hr=>?_)
 have nd:=pS.nd
 unfold gB
 exact(aN (bX (cK (aK (fun Γ=>aI G_law_shuffled (hr.mono (by decide)) (by rfl) T.m_law_shuffled T.F_law_shuffled.kp (eQ T) .nil aY (gA (aA (aB (pv 0)) (aA (aB (pv 1)) aF)) Γ))) dY (dB (aT aZ bA ge_int (aK (fun Γ=>aI G_law_take (hr.mono (by decide)) (by rfl) T.m_law_take T.F_law_take.kp (aJ T) .nil aY (gA (aA (aB (pv 0)) (aA (cG aC7 (fun Γ=>bE (oQ (by rfl)) (by rfl) T.n_min uI (gA (aA ge_int (aA (cG dA (fun Γ=>bE bJ (by rfl) T.n_len bW (gA (aA (aB (pv 1)) aF) Γ))) aF)) Γ))) aF)) Γ))))))))
theorem mS(T:Txt K mg a)(G_law_take:FnOk P w K mg base CX0 1 a.law_take a.fd_law_take ["_law_box_here","_law_many"] (dsp 2 aE))(G_law_some:FnOk P w K mg base CX0 3 a.law_some a.fd_law_some ["_law_box_here","_law_things"] (dsp 2 bM)):FnOk P w K mg base CX0 4 a.law_plain_sets a.fd_law_plain_sets ["_law_box_here"] (dsp 1 bR):=by
 refine cB T.F_law_plain_sets hW (by decide) cL (fun cdv A outer s H E hr=>?_)
 have nd:=hW.nd
 unfold cL
 exact(aH (aO (i:=1) nd rfl (Or.inr rfl) (aT aZ bA ge_int (aK (fun Γ=>aI G_law_take (hr.mono (by decide)) (by rfl) T.m_law_take T.F_law_take.kp (aJ T) .nil aY (gA (aA (aB (pv 0)) (aA ge_int aF)) Γ)))))
  (aH (aO (i:=2) nd rfl (Or.inl rfl) (aT aZ bA ge_int (aK (fun Γ=>aI G_law_take (hr.mono (by decide)) (by rfl) T.m_law_take T.F_law_take.kp (aJ T) .nil aY (gA (aA (aB (pv 0)) (aA ge_int aF)) Γ)))))
  (aH (jX (dZ (iO hr.units) (hU (neg:=false)) (aK (fun Γ=>aI G_law_take (hr.mono (by decide)) (by rfl) T.m_law_take T.F_law_take.kp (aJ T) .nil aY (gA (aA (aB (pv 0)) (aA ge_int aF)) Γ))) ge_int (cF _)) (aN (bX (dM (ow:=[5]) (bB (by decide)) (fun Γ=>cZ (csc [5] (by kernel_rfl)) (gI (iI (fun Γ=>cU (by rfl) T.n_range (gA (aA (aB (pv 2)) aF) Γ)) aC1) Γ) (fun _ _ _ _=>(aX (i:=5) nd rfl (Or.inl rfl) (.inr rfl))) (bC (by decide)) (fun _ _ _ _=>dF) (fun _ _ _ _=>gE (dL (aK (fun Γ=>aI G_law_some (hr.mono (by decide)) (by rfl) T.m_law_some T.F_law_some.kp (jU T) .nil aY (gA (aA (aB (pv 0)) (aA (cG aN9 (fun Γ=>yF (T:="list") (U:="range") (sT rfl) (by rfl) T.n_list fY (by rfl) T.n_range boot_range (gA (aA (aB (pv 1)) aF) Γ))) aF)) Γ)))) Γ))))) fM)
  (aH (aO (i:=3) nd rfl (Or.inl rfl) (eX (aA (dL (aK (fun Γ=>aI G_law_some (hr.mono (by decide)) (by rfl) T.m_law_some T.F_law_some.kp (jU T) .nil aY (gA (aA (aB (pv 0)) (aA (cG aN9 (fun Γ=>yF (T:="list") (U:="range") (sT rfl) (by rfl) T.n_list fY (by rfl) T.n_range boot_range (gA (aA (aB (pv 1)) aF) Γ))) aF)) Γ)))) aF)))
  (aH (aO (i:=4) nd rfl (Or.inr rfl) (cG oG (fun Γ=>bN jR (by rfl) T.n_list fY (gA (aA (cX (aB (pv 3)) ge_int (fun _ _=>rfl)) aF) Γ))))
  (aH (jY (own:=[5]) (bB (by decide)) (fun Γ=>iX PassesOwn.never rfl (gI (iI (fun Γ=>cU (by rfl) T.n_range (gA (aA (aT bT7 cE0 (aB (pv 2)) ge_int) aF) Γ)) aC1) Γ) (aX (i:=5) nd rfl (Or.inl rfl))
  (gSs (aH (aO (i:=6) nd rfl (Or.inl rfl) (aK (fun Γ=>aI G_law_some (hr.mono (by decide)) (by rfl) T.m_law_some T.F_law_some.kp (jU T) .nil aY (gA (aA (aB (pv 0)) (aA (cX (aB (pv 3)) (aK (fun Γ=>aI G_law_take (hr.mono (by decide)) (by rfl) T.m_law_take T.F_law_take.kp (aJ T) .nil aY (gA (aA (aB (pv 0)) (aA (cG dA (fun Γ=>bE bJ (by rfl) T.n_len bW (gA (aA (aB (pv 3)) aF) Γ))) aF)) Γ))) (fun _ _=>rfl)) aF)) Γ))))
  (aH (rQ (ow:=[8]) (i:=7) (bB (by decide)) (fun Γ=>jQ (i:=7) nd rfl rfl (csc [8] (by kernel_rfl)) (gI (iI (fun Γ=>cU (by rfl) T.n_range (gA (aA (aB (pv 1)) aF) Γ)) aC1) Γ) (fun _ _ _ _=>(aX (i:=8) nd rfl (Or.inl rfl) (.inr rfl))) (bC (by decide)) (fun _ _ _ _=>(lJ (dZ (pD hr.units) (wE (neg:=true)) (aB (pv 8)) (aB (pv 4)) (by with_unfolding_all rfl)))) (fun _ _ _ _=>gE (dL (aB (pv 8))) Γ) rfl))
  (aH (aO (i:=6) nd rfl (Or.inl rfl) (aT aZ bA (cK (aB (pv 6)) dY (dB (aK (fun Γ=>aI G_law_take (hr.mono (by decide)) (by rfl) T.m_law_take T.F_law_take.kp (aJ T) .nil aY (gA (aA (aB (pv 0)) (aA (aT aZ bA (cG dA (fun Γ=>bE bJ (by rfl) T.n_len bW (gA (aA (aB (pv 6)) aF) Γ))) ge_int) aF)) Γ))))) (cK (aB (pv 7)) dY (dB (aK (fun Γ=>aI G_law_take (hr.mono (by decide)) (by rfl) T.m_law_take T.F_law_take.kp (aJ T) .nil aY (gA (aA (aB (pv 0)) (aA ge_int aF)) Γ)))))))
  (aH (jX (dZ (iO hr.units) (hU (neg:=false)) (aB (pv 6)) (eX aF) (cF _)) (aN (aO (i:=6) nd rfl (Or.inl rfl) (cK (aB (pv 4)) dY (dB ge_int)))) fM)
  (aH (jC (kO mK (fun Γ=>iM K (by rfl) PySem.F.plainAttrs_list PySem.F.slot_list_append PySem.F.type_list_append eR (pv 3) (gA (aA (dL (cK (aB (pv 6)) dY (dB ge_int))) aF) Γ))))
  (aN (jC (bA4 bB8 (fun Γ=>iM K (by rfl) PySem.F.plainAttrs_list PySem.F.slot_list_extend PySem.F.type_list_extend bB7 (pv 4) (gA (aA (dM (ow:=[8]) (bB (by decide)) (fun Γ=>cZ (csc [8] (by kernel_rfl)) (gI (fV K (by rfl) (cX (aB (pv 3)) (dD9 cP1 cE3 ge_int) (fun _ _=>rfl))) Γ) (fun _ _ _ _=>(aX (i:=8) nd rfl (Or.inl rfl) (.inr rfl))) (bC (by decide)) (fun _ _ _ _=>(lJ (dZ (pD hr.units) (wE (neg:=true)) (aB (pv 8)) (aB (pv 4)) (by with_unfolding_all rfl)))) (fun _ _ _ _=>gE (dL (aB (pv 8))) Γ))) aF) Γ)))))))))) Γ)))
  (aN (bX (aB (pv 3))))))))))
theorem xE(T:Txt K mg a)(G_law_take:FnOk P w K mg base CX0 1 a.law_take a.fd_law_take ["_law_box_here","_law_many"] (dsp 2 aE)):FnOk P w K mg base CX0 2 a.law_names a.fd_law_names ["_law_box_here","_law_many"] (dsp 2 cH):=by
 refine cB T.F_law_names nB (by decide) fC (fun cdv A outer s H E hr=>?_)
 have nd:=nB.nd
 unfold fC
 exact(aH (aO (i:=2) nd rfl (Or.inr rfl) bW4)
  (aH (jX (dZ (iO hr.units) (hU (neg:=false)) (aK (fun Γ=>aI G_law_take (hr.mono (by decide)) (by rfl) T.m_law_take T.F_law_take.kp (aJ T) .nil aY (gA (aA (aB (pv 0)) (aA ge_int aF)) Γ))) ge_int (cF _)) (aH (cT6 (i:=3) (j:=4) (fun Γ=>cO6 (i:=3) (j:=4) rfl nd rfl rfl (by decide) rfl rfl (gA (aA (cX (aB (pv 2)) (aK (fun Γ=>aI G_law_take (hr.mono (by decide)) (by rfl) T.m_law_take T.F_law_take.kp (aJ T) .nil aY (gA (aA (aB (pv 0)) (aA ge_int aF)) Γ))) (fun _ _=>rfl)) (aA (cX (aB (pv 2)) (aT aZ bA ge_int (aK (fun Γ=>aI G_law_take (hr.mono (by decide)) (by rfl) T.m_law_take T.F_law_take.kp (aJ T) .nil aY (gA (aA (aB (pv 0)) (aA ge_int aF)) Γ)))) (fun _ _=>rfl)) aF)) Γ) rfl))
  (aN (bX (cK (eX (aA (dL (aB (pv 3))) (aA (dL (aT aZ bA (aB (pv 3)) (aB (pv 4)))) (aA (dL (aB (pv 4))) (aA (dL (aT aZ bA (aB (pv 4)) (aB (pv 3)))) (aA (dL (aT aZ bA (aB (pv 3)) (aB (pv 3)))) (aA (dL (aT aZ bA (aT aZ bA (aB (pv 3)) (aB (pv 4))) (aB (pv 3)))) (aA (dL (aT aZ bA (aB (pv 4)) (aB (pv 4)))) (aA (dL (aT aZ bA (aT aZ bA (aB (pv 3)) (aB (pv 3))) (aB (pv 4)))) aF))))))))) dY (dB (aB (pv 1))))))) fM)
  (aH (aO (i:=5) nd rfl (Or.inl rfl) (cF3 (sep:="") K (fun Γ=>iM K (by rfl) PySem.F.plainAttrs_str PySem.F.slot_str_join PySem.F.type_str_join (bO9 K (by rfl)) bT5 (gA (aA (dM (ow:=[10]) (bB (by decide)) (fun Γ=>cZ (csc [10] (by kernel_rfl)) (gI (iI (fun Γ=>cU (by rfl) T.n_range (gA (aA (aK (fun Γ=>aI G_law_take (hr.mono (by decide)) (by rfl) T.m_law_take T.F_law_take.kp (aJ T) .nil aY (gA (aA (aB (pv 0)) (aA ge_int aF)) Γ))) aF) Γ)) aC1) Γ) (fun _ _ _ _=>(aX (i:=10) nd rfl (Or.inl rfl) (.inr rfl))) (bC (by decide)) (fun _ _ _ _=>dF) (fun _ _ _ _=>gE (cX (aB (pv 2)) (aK (fun Γ=>aI G_law_take (hr.mono (by decide)) (by rfl) T.m_law_take T.F_law_take.kp (aJ T) .nil aY (gA (aA (aB (pv 0)) (aA ge_int aF)) Γ))) (fun _ _=>rfl)) Γ))) aF) Γ))))
  (aH (aO (i:=6) nd rfl (Or.inl rfl) (aK (fun Γ=>aI G_law_take (hr.mono (by decide)) (by rfl) T.m_law_take T.F_law_take.kp (aJ T) .nil aY (gA (aA (aB (pv 0)) (aA (aT aZ bA (cG dA (fun Γ=>bE bJ (by rfl) T.n_len bW (gA (aA (aB (pv 5)) aF) Γ))) ge_int) aF)) Γ))))
  (aH (aO (i:=7) nd rfl (Or.inl rfl) (aK (fun Γ=>aI G_law_take (hr.mono (by decide)) (by rfl) T.m_law_take T.F_law_take.kp (aJ T) .nil aY (gA (aA (aB (pv 0)) (aA ge_int aF)) Γ))))
  (aH (aO (i:=8) nd rfl (Or.inl rfl) (aK (fun Γ=>aI G_law_take (hr.mono (by decide)) (by rfl) T.m_law_take T.F_law_take.kp (aJ T) .nil aY (gA (aA (aB (pv 0)) (aA ge_int aF)) Γ))))
  (aH (aO (i:=9) nd rfl (Or.inl rfl) (eX aF))
  (aH (jY (own:=[10]) (bB (by decide)) (fun Γ=>iX PassesOwn.never rfl (gI (iI (fun Γ=>cU (by rfl) T.n_range (gA (aA (aB (pv 1)) aF) Γ)) aC1) Γ) (aX (i:=10) nd rfl (Or.inl rfl))
  (gSs (aH (aO (i:=11) nd rfl (Or.inl rfl) (aT aZ bA (aT aZ bA (cK (aB (pv 5)) dY (dB (aB (pv 6)))) (cX (aB (pv 2)) (aT iY gQ (aT aZ bA (aB (pv 7)) (aT gR gU ge_int (aB (pv 10)))) ge_int) (fun _ _=>rfl))) (cK (aB (pv 5)) (dB (aB (pv 6))) dY)))
  (aN (jC (kO mK (fun Γ=>iM K (by rfl) PySem.F.plainAttrs_list PySem.F.slot_list_append PySem.F.type_list_append eR (pv 9) (gA (aA (dL (aT aZ bA (aB (pv 11)) (aT gR gU bW4 (cG bB6 (fun Γ=>bN vH (by rfl) T.n_int aN5 (gA (aA (bW9 (rK (iO hr.units) (hU (neg:=false)) (aB (pv 8)) ge_int (cF _)) (bW8 (rK (iO hr.units) (hU (neg:=false)) (aT iY gQ (aB (pv 10)) ge_int) ge_int (cF _)))) aF) Γ)))))) aF) Γ)))))) Γ)))
  (aN (bX (aB (pv 9))))))))))))
theorem qI(T:Txt K mg a)(G_law_take:FnOk P w K mg base CX0 1 a.law_take a.fd_law_take ["_law_box_here","_law_many"] (dsp 2 aE))(G_law_round_sets:FnOk P w K mg base CX0 4 a.law_round_sets a.fd_law_round_sets ["_law_box_here"] (bA9 1 cRS))(G_law_plain_sets:FnOk P w K mg base CX0 4 a.law_plain_sets a.fd_law_plain_sets ["_law_box_here"] (dsp 1 bR))(G_law_shuffled:FnOk P w K mg base CX0 2 a.law_shuffled a.fd_law_shuffled ["_law_box_here","_law_things"] (dsp 2 aW))(G_law_names:FnOk P w K mg base CX0 2 a.law_names a.fd_law_names ["_law_box_here","_law_many"] (dsp 2 cH)):FnOk P w K mg base CX0 5 a.law_question a.fd_law_question ["_law_box_here"] (bA9 1 cD):=by
 refine yL T.F_law_question jJ (by decide) cM dU (fun cdv A outer s H E hr=>GM.to ?_)
 have nd:=jJ.nd
 unfold cM
 exact(zG (cI4 (aO (i:=1) nd rfl (Or.inl rfl) (aK (fun Γ=>aI G_law_take (hr.mono (by decide)) (by rfl) T.m_law_take T.F_law_take.kp (aJ T) .nil aY (gA (aA (aB (pv 0)) (aA ge_int aF)) Γ)))))
  (zG (dF6 (dZ (iO hr.units) (hU (neg:=false)) (aB (pv 1)) ge_int (cF _)) (cX5 (bG3 bG4 (fun Γ=>vF (i:=2) nd rfl (Or.inl rfl) (aI G_law_round_sets (hr.mono (by decide)) (by rfl) T.m_law_round_sets T.F_law_round_sets.kp (nR T) .nil aY (gA (aA (aB (pv 0)) aF) Γ))))) (bG2 (aN (aO (i:=2) nd rfl (Or.inl rfl) (aK (fun Γ=>aI G_law_plain_sets (hr.mono (by decide)) (by rfl) T.m_law_plain_sets T.F_law_plain_sets.kp (nT T) .nil aY (gA (aA (aB (pv 0)) aF) Γ)))))))
  (bG2 (aH (aO (i:=3) nd rfl (Or.inr rfl) (aK (fun Γ=>aI G_law_shuffled (hr.mono (by decide)) (by rfl) T.m_law_shuffled T.F_law_shuffled.kp (eQ T) .nil aY (gA (aA (aB (pv 0)) (aA (aK (fun Γ=>aI G_law_names (hr.mono (by decide)) (by rfl) T.m_law_names T.F_law_names.kp (pU T) .nil aY (gA (aA (aB (pv 0)) (aA ge_int aF)) Γ))) aF)) Γ))))
  (aH (aO (i:=4) nd rfl (Or.inl rfl) (dL (aB (pv 3))))
  (aH (jX (dZ bK5 sY (aK (fun Γ=>aI G_law_take (hr.mono (by decide)) (by rfl) T.m_law_take T.F_law_take.kp (aJ T) .nil aY (gA (aA (aB (pv 0)) (aA ge_int aF)) Γ))) ge_int (cF _)) (aN (aO (i:=4) nd rfl (Or.inl rfl) (aK (fun Γ=>aI G_law_names (hr.mono (by decide)) (by rfl) T.m_law_names T.F_law_names.kp (pU T) .nil aY (gA (aA (aB (pv 0)) (aA ge_int aF)) Γ))))) fM)
  (aH (aO (i:=5) nd rfl (Or.inl rfl) (eX aF))
  (aH (jY (own:=[6,7]) (rN (dS (bB (by decide)) (dS (bB (by decide)) mF))) (fun Γ=>iX PassesOwn.never rfl (gI (bD1 K (fun Γ=>bC8 K (by rfl) (by rfl) T.n_enumerate kH (gA (aA (aK (fun Γ=>aI G_law_shuffled (hr.mono (by decide)) (by rfl) T.m_law_shuffled T.F_law_shuffled.kp (eQ T) .nil aY (gA (aA (aB (pv 0)) (aA (aB (pv 2)) aF)) Γ))) aF) Γ))) Γ) (jS (n:=2) K rfl rfl (dR (aX (i:=6) nd rfl (Or.inl rfl)) (dR (aX (i:=7) nd rfl (Or.inl rfl)) lZ)))
  (gSs (aN (jC (kO mK (fun Γ=>iM K (by rfl) PySem.F.plainAttrs_list PySem.F.slot_list_append PySem.F.type_list_append eR (pv 5) (gA (aA (rL (aA (cX (aB (pv 4)) (aB (pv 6)) (fun _ _=>rfl)) (aA (cG fN (fun Γ=>bN cV (by rfl) T.n_tuple cC (gA (aA (dM (ow:=[8]) (bB (by decide)) (fun Γ=>cZ (csc [8] (by kernel_rfl)) (gI (fV K (by rfl) (aK (fun Γ=>aI G_law_shuffled (hr.mono (by decide)) (by rfl) T.m_law_shuffled T.F_law_shuffled.kp (eQ T) .nil aY (gA (aA (aB (pv 0)) (aA (aB (pv 7)) aF)) Γ)))) Γ) (fun _ _ _ _=>(aX (i:=8) nd rfl (Or.inl rfl) (.inr rfl))) (bC (by decide)) (fun _ _ _ _=>dF) (fun _ _ _ _=>gE (cX (aB (pv 3)) (aB (pv 8)) (fun _ _=>rfl)) Γ))) aF) Γ))) aF))) aF) Γ))))) Γ)))
  (aN (bX (cG fN (fun Γ=>bN cV (by rfl) T.n_tuple cC (gA (aA (aB (pv 5)) aF) Γ)))))))))))))
theorem aT8(T:Txt K mg a):FnOk P w K mg base CX0 1 a.law_box a.fd_law_box ["_law_script","_law_k"] (dsp 2 cJ):=by
 refine cB T.F_law_box rZ (by decide) hZ (fun cdv A outer s H E hr=>?_)
 have nd:=rZ.nd
 unfold hZ
 exact(aH (aO (i:=2) nd rfl (Or.inl rfl) (aT aZ bA (aT gR gU ge_int (aB (pv 1))) ge_int))
  (aH (jX (dZ aQ3 yO (aB (pv 1)) (cG dA (fun Γ=>bE bJ (by rfl) T.n_len bW (gA (aA (aB (pv 0)) aF) Γ))) (cF _)) (aN (aO (i:=2) nd rfl (Or.inl rfl) (cX (aB (pv 0)) (aB (pv 1)) (fun _ _=>rfl)))) (aN (jX (dZ bK5 sY (cG dA (fun Γ=>bE bJ (by rfl) T.n_len bW (gA (aA (aB (pv 0)) aF) Γ))) ge_int (cF _)) (aN (aO (i:=2) nd rfl (Or.inl rfl) (aT aZ bA (aB (pv 2)) (aT gR gU (aT iY gQ (cX (aB (pv 0)) (aT iY gQ (aB (pv 1)) (cG dA (fun Γ=>bE bJ (by rfl) T.n_len bW (gA (aA (aB (pv 0)) aF) Γ)))) (fun _ _=>rfl)) ge_int) ge_int)))) fM)))
  (aH (aO (i:=3) nd rfl (Or.inl rfl) (aT aZ bA (aT iY gQ (aT aZ bA (aT gR gU (aT iY gQ (aB (pv 2)) ge_int) ge_int) (aT gR gU ge_int (aB (pv 1)))) ge_int) ge_int))
  (aN (bX (eX (aA (dL (aT gR gU (aB (pv 2)) (cG bB6 (fun Γ=>bN vH (by rfl) T.n_int aN5 (gA (aA (rK dC7 cE2 (aB (pv 2)) (aT cP0 cE1 ge_int ge_int) (cF _)) aF) Γ))))) (aA (dL (aB (pv 3))) aF))))))))
theorem qZ(T:Txt K mg a):FnOk P w K mg base CX0 1 a.law_columns a.fd_law_columns ["_law_question_here"] (dsp 1 cN):=by
 refine cB T.F_law_columns kI (by decide) dN (fun cdv A outer s H E hr=>?_)
 have nd:=kI.nd
 unfold dN
 exact(aH (aO (i:=1) nd rfl (Or.inr rfl) (eX aF))
  (aH (jY (own:=[2,3]) (rN (dS (bB (by decide)) (dS (bB (by decide)) mF))) (fun Γ=>iX PassesOwn.never rfl (gI (fV K (by rfl) (aB (pv 0))) Γ) (jS (n:=2) K rfl rfl (dR (aX (i:=2) nd rfl (Or.inl rfl)) (dR (aX (i:=3) nd rfl (Or.inl rfl)) lZ)))
  (gSs (aN (jC (bA4 bB8 (fun Γ=>iM K (by rfl) PySem.F.plainAttrs_list PySem.F.slot_list_extend PySem.F.type_list_extend bB7 (pv 1) (gA (aA (dM (ow:=[4]) (bB (by decide)) (fun Γ=>cZ (csc [4] (by kernel_rfl)) (gI (fV K (by rfl) (aB (pv 3))) Γ) (fun _ _ _ _=>(aX (i:=4) nd rfl (Or.inl rfl) (.inr rfl))) (bC (by decide)) (fun _ _ _ _=>(lJ (dZ (pD hr.units) (wE (neg:=true)) (aB (pv 4)) (aB (pv 1)) (by with_unfolding_all rfl)))) (fun _ _ _ _=>gE (dL (aB (pv 4))) Γ))) aF) Γ))))) Γ)))
  (aN (bX (cG fN (fun Γ=>bN cV (by rfl) T.n_tuple cC (gA (aA (aB (pv 1)) aF) Γ)))))))
theorem xF(T:Txt K mg a)(G_law_take:FnOk P w K mg base CX0 1 a.law_take a.fd_law_take ["_law_box_here","_law_many"] (dsp 2 aE)):FnOk P w K mg base CX0 2 a.law_value a.fd_law_value ["_law_box_here","_law_span"] (dsp 2 eI):=by
 refine cB T.F_law_value nD (by decide) fD (fun cdv A outer s H E hr=>?_)
 have nd:=nD.nd
 unfold fD
 exact(aH (aO (i:=2) nd rfl (Or.inl rfl) (aK (fun Γ=>aI G_law_take (hr.mono (by decide)) (by rfl) T.m_law_take T.F_law_take.kp (aJ T) .nil aY (gA (aA (aB (pv 0)) (aA (aB (pv 1)) aF)) Γ))))
  (aH (jX (dZ (iO hr.units) (hU (neg:=false)) (aB (pv 1)) ge_int (cF _)) (aN (bX (cX (eX (aA ge_int (aA ge_int (aA ge_int (aA ge_int (aA ge_int (aA ge_int (aA ge_int (aA ge_int (aA ge_int (aA ge_int (aA ge_int (aA ge_int aF))))))))))))) (aB (pv 2)) (fun _ _=>rfl)))) fM)
  (aN (bX (aB (pv 2))))))
theorem nW(T:Txt K mg a)(G_law_take:FnOk P w K mg base CX0 1 a.law_take a.fd_law_take ["_law_box_here","_law_many"] (dsp 2 aE))(G_law_value:FnOk P w K mg base CX0 2 a.law_value a.fd_law_value ["_law_box_here","_law_span"] (dsp 2 eI)):FnOk P w K mg base CX0 3 a.law_rows_over a.fd_law_rows_over ["_law_box_here","_law_many"] (dsp 2 bG):=by
 refine cB T.F_law_rows_over iS (by decide) cW (fun cdv A outer s H E hr=>?_)
 have nd:=iS.nd
 unfold cW
 exact(aH (aO (i:=2) nd rfl (Or.inr rfl) (cX (eX (aA ge_int (aA ge_int (aA ge_int (aA ge_int (aA ge_int aF)))))) (aK (fun Γ=>aI G_law_take (hr.mono (by decide)) (by rfl) T.m_law_take T.F_law_take.kp (aJ T) .nil aY (gA (aA (aB (pv 0)) (aA ge_int aF)) Γ))) (fun _ _=>rfl)))
  (aH (aO (i:=3) nd rfl (Or.inl rfl) (aK (fun Γ=>aI G_law_take (hr.mono (by decide)) (by rfl) T.m_law_take T.F_law_take.kp (aJ T) .nil aY (gA (aA (aB (pv 0)) (aA (cX (eX (aA ge_int (aA ge_int aF))) (aK (fun Γ=>aI G_law_take (hr.mono (by decide)) (by rfl) T.m_law_take T.F_law_take.kp (aJ T) .nil aY (gA (aA (aB (pv 0)) (aA ge_int aF)) Γ))) (fun _ _=>rfl)) aF)) Γ))))
  (aN (bX (dM (ow:=[4]) (bB (by decide)) (fun Γ=>cZ (csc [4] (by kernel_rfl)) (gI (iI (fun Γ=>cU (by rfl) T.n_range (gA (aA (aB (pv 3)) aF) Γ)) aC1) Γ) (fun _ _ _ _=>(aX (i:=4) nd rfl (Or.inl rfl) (.inr rfl))) (bC (by decide)) (fun _ _ _ _=>dF) (fun _ _ _ _=>gE (cG fN (fun Γ=>bN cV (by rfl) T.n_tuple cC (gA (aA (dM (ow:=[5]) (bB (by decide)) (fun Γ=>cZ (csc [5] (by kernel_rfl)) (gI (iI (fun Γ=>cU (by rfl) T.n_range (gA (aA (aB (pv 1)) aF) Γ)) aC1) Γ) (fun _ _ _ _=>(aX (i:=5) nd rfl (Or.inl rfl) (.inr rfl))) (bC (by decide)) (fun _ _ _ _=>dF) (fun _ _ _ _=>gE (dL (aK (fun Γ=>aI G_law_value (hr.mono (by decide)) (by rfl) T.m_law_value T.F_law_value.kp (yQ T) .nil aY (gA (aA (aB (pv 0)) (aA (aB (pv 2)) aF)) Γ)))) Γ))) aF) Γ))) Γ)))))))
theorem aT9(T:Txt K mg a):FnOk P w K mg base CX0 1 a.law_cut a.fd_law_cut ["_law_columns_here","_law_rows","_law_some_here"] (dsp 3 cA):=by
 refine cB T.F_law_cut sA (by decide) iA (fun cdv A outer s H E hr=>?_)
 have nd:=sA.nd
 unfold iA
 exact(aH (aO (i:=3) nd rfl (Or.inr rfl) (dM (ow:=[4]) (bB (by decide)) (fun Γ=>cZ (csc [4] (by kernel_rfl)) (gI (fV K (by rfl) (aB (pv 2))) Γ) (fun _ _ _ _=>(aX (i:=4) nd rfl (Or.inl rfl) (.inr rfl))) (bC (by decide)) (fun _ _ _ _=>dF) (fun _ _ _ _=>gE (dL (cW5 aP0 (fun Γ=>bY2 PySem.F.slot_tuple_index PySem.F.type_tuple_index xA (gE (aB (pv 0)) Γ) (gA (aA (aB (pv 4)) aF) Γ)))) Γ))))
  (aN (bX (cG kW (fun Γ=>uT (id:="sorted") (U:="set") (jM rfl (bF9 hr)) (by rfl) T.n_sorted kR (by rfl) T.n_set uJ (gA (aA (dM (ow:=[5]) (bB (by decide)) (fun Γ=>cZ (csc [5] (by kernel_rfl)) (gI (fV K (by rfl) (aB (pv 1))) Γ) (fun _ _ _ _=>(aX (i:=5) nd rfl (Or.inr rfl) (.inl rfl))) (bC (by decide)) (fun _ _ _ _=>dF) (fun _ _ _ _=>gE (cG fN (fun Γ=>bN cV (by rfl) T.n_tuple cC (gA (aA (dM (ow:=[6]) (bB (by decide)) (fun Γ=>cZ (csc [6] (by kernel_rfl)) (gI (fV K (by rfl) (aB (pv 3))) Γ) (fun _ _ _ _=>(aX (i:=6) nd rfl (Or.inl rfl) (.inr rfl))) (bC (by decide)) (fun _ _ _ _=>dF) (fun _ _ _ _=>gE (cX (aB (pv 5)) (aB (pv 6)) (fun _ _=>rfl)) Γ))) aF) Γ))) Γ))) aF) Γ))))))
theorem xG(T:Txt K mg a)(G_law_columns:FnOk P w K mg base CX0 1 a.law_columns a.fd_law_columns ["_law_question_here"] (dsp 1 cN))(G_law_rows_over:FnOk P w K mg base CX0 3 a.law_rows_over a.fd_law_rows_over ["_law_box_here","_law_many"] (dsp 2 bG))(G_law_take:FnOk P w K mg base CX0 1 a.law_take a.fd_law_take ["_law_box_here","_law_many"] (dsp 2 aE))(G_law_cut:FnOk P w K mg base CX0 1 a.law_cut a.fd_law_cut ["_law_columns_here","_law_rows","_law_some_here"] (dsp 3 cA)):FnOk P w K mg base CX0 4 a.law_house a.fd_law_house ["_law_box_here","_law_question_here"] (dsp 2 dG):=by
 refine cB T.F_law_house nE (by decide) fE (fun cdv A outer s H E hr=>?_)
 have nd:=nE.nd
 unfold fE
 exact(aH (aO (i:=2) nd rfl (Or.inl rfl) (aK (fun Γ=>aI G_law_columns (hr.mono (by decide)) (by rfl) T.m_law_columns T.F_law_columns.kp (uK T) .nil aY (gA (aA (aB (pv 1)) aF) Γ))))
  (aH (aO (i:=3) nd rfl (Or.inl rfl) (aK (fun Γ=>aI G_law_rows_over (hr.mono (by decide)) (by rfl) T.m_law_rows_over T.F_law_rows_over.kp (jK T) .nil aY (gA (aA (aB (pv 0)) (aA (cG dA (fun Γ=>bE bJ (by rfl) T.n_len bW (gA (aA (aB (pv 2)) aF) Γ))) aF)) Γ))))
  (aH (aO (i:=4) nd rfl (Or.inl rfl) (rK (iO hr.units) (hU (neg:=false)) (aK (fun Γ=>aI G_law_take (hr.mono (by decide)) (by rfl) T.m_law_take T.F_law_take.kp (aJ T) .nil aY (gA (aA (aB (pv 0)) (aA ge_int aF)) Γ))) ge_int (cF _)))
  (aH (aO (i:=5) nd rfl (Or.inl rfl) (eX aF))
  (aH (jY (own:=[6,7]) (rN (dS (bB (by decide)) (dS (bB (by decide)) mF))) (fun Γ=>iX PassesOwn.never rfl (gI (fV K (by rfl) (aB (pv 1))) Γ) (jS (n:=2) K rfl rfl (dR (aX (i:=6) nd rfl (Or.inl rfl)) (dR (aX (i:=7) nd rfl (Or.inl rfl)) lZ)))
  (gSs (aH (jX (bM6 (aB (pv 4)) (fun _=>rfl)) (aN (aO (i:=3) nd rfl (Or.inl rfl) (aK (fun Γ=>aI G_law_rows_over (hr.mono (by decide)) (by rfl) T.m_law_rows_over T.F_law_rows_over.kp (jK T) .nil aY (gA (aA (aB (pv 0)) (aA (cG dA (fun Γ=>bE bJ (by rfl) T.n_len bW (gA (aA (aB (pv 2)) aF) Γ))) aF)) Γ))))) fM)
  (aN (jC (kO mK (fun Γ=>iM K (by rfl) PySem.F.plainAttrs_list PySem.F.slot_list_append PySem.F.type_list_append eR (pv 5) (gA (aA (cG fN (fun Γ=>bN cV (by rfl) T.n_tuple cC (gA (aA (aK (fun Γ=>aI G_law_cut (hr.mono (by decide)) (by rfl) T.m_law_cut T.F_law_cut.kp (pW T) .nil aY (gA (aA (aB (pv 2)) (aA (aB (pv 3)) (aA (aB (pv 7)) aF))) Γ))) aF) Γ))) aF) Γ)))))) Γ)))
  (aN (bX (cG fN (fun Γ=>bN cV (by rfl) T.n_tuple cC (gA (aA (aB (pv 5)) aF) Γ))))))))))
theorem rA(T:Txt K mg a)(G_law_take:FnOk P w K mg base CX0 1 a.law_take a.fd_law_take ["_law_box_here","_law_many"] (dsp 2 aE)):FnOk P w K mg base CX0 2 a.law_changed a.fd_law_changed ["_law_box_here","_law_question_here","_law_house_here"] (dsp 3 bQ):=by
 refine cB T.F_law_changed kJ (by decide) dO (fun cdv A outer s H E hr=>?_)
 have nd:=kJ.nd
 unfold dO
 exact(aH (aO (i:=3) nd rfl (Or.inl rfl) (aK (fun Γ=>aI G_law_take (hr.mono (by decide)) (by rfl) T.m_law_take T.F_law_take.kp (aJ T) .nil aY (gA (aA (aB (pv 0)) (aA (cG dA (fun Γ=>bE bJ (by rfl) T.n_len bW (gA (aA (aB (pv 2)) aF) Γ))) aF)) Γ))))
  (aH (aO (i:=4) nd rfl (Or.inl rfl) (cG oG (fun Γ=>bN jR (by rfl) T.n_list fY (gA (aA (cX (aB (pv 2)) (aB (pv 3)) (fun _ _=>rfl)) aF) Γ))))
  (aH (aO (i:=5) nd rfl (Or.inl rfl) (aK (fun Γ=>aI G_law_take (hr.mono (by decide)) (by rfl) T.m_law_take T.F_law_take.kp (aJ T) .nil aY (gA (aA (aB (pv 0)) (aA ge_int aF)) Γ))))
  (aH (aO (i:=6) nd rfl (Or.inl rfl) (aK (fun Γ=>aI G_law_take (hr.mono (by decide)) (by rfl) T.m_law_take T.F_law_take.kp (aJ T) .nil aY (gA (aA (aB (pv 0)) (aA (aT aZ bA (cG dA (fun Γ=>bE bJ (by rfl) T.n_len bW (gA (aA (aB (pv 4)) aF) Γ))) ge_int) aF)) Γ))))
  (aH (jX (dZ aQ3 yO (aB (pv 5)) ge_int (cF _)) (aN (aO (i:=4) nd rfl (Or.inl rfl) (aT aZ bA (cK (aB (pv 4)) dY (dB (aB (pv 6)))) (cK (aB (pv 4)) (dB (aT aZ bA (aB (pv 6)) ge_int)) dY)))) (aN (jX (dZ aQ3 yO (aB (pv 5)) ge_int (cF _)) (aH (aO (i:=7) nd rfl (Or.inl rfl) (cG oG (fun Γ=>bN jR (by rfl) T.n_list fY (gA (aA (cX (aT aZ bA (aB (pv 4)) (eX (aA (dL (aT cI2 bR1 (rL (aA ge_int aF)) (cG dA (fun Γ=>bE bJ (by rfl) T.n_len bW (gA (aA (cX (cX (aB (pv 1)) (aB (pv 3)) (fun _ _=>rfl)) ge_int (fun _ _=>rfl)) aF) Γ))))) aF))) (aB (pv 6)) (fun _ _=>rfl)) aF) Γ))))
  (aH (aO (i:=8) nd rfl (Or.inl rfl) (aK (fun Γ=>aI G_law_take (hr.mono (by decide)) (by rfl) T.m_law_take T.F_law_take.kp (aJ T) .nil aY (gA (aA (aB (pv 0)) (aA (cG dA (fun Γ=>bE bJ (by rfl) T.n_len bW (gA (aA (aB (pv 7)) aF) Γ))) aF)) Γ))))
  (aH (bC0 (k:=7) (fun Γ=>aA0 (gE (cX (eX (aA (dL (aK (fun Γ=>aI G_law_take (hr.mono (by decide)) (by rfl) T.m_law_take T.F_law_take.kp (aJ T) .nil aY (gA (aA (aB (pv 0)) (aA ge_int aF)) Γ)))) (aA (dL (aK (fun Γ=>aI G_law_take (hr.mono (by decide)) (by rfl) T.m_law_take T.F_law_take.kp (aJ T) .nil aY (gA (aA (aB (pv 0)) (aA ge_int aF)) Γ)))) aF))) (aK (fun Γ=>aI G_law_take (hr.mono (by decide)) (by rfl) T.m_law_take T.F_law_take.kp (aJ T) .nil aY (gA (aA (aB (pv 0)) (aA ge_int aF)) Γ))) (fun _ _=>rfl)) Γ) (aU9 (pv 7) (gE (aB (pv 8)) Γ) sL)))
  (aN (aO (i:=4) nd rfl (Or.inl rfl) (cK (cG kW (fun Γ=>uT (id:="sorted") (U:="set") (jM rfl (bF9 hr)) (by rfl) T.n_sorted kR (by rfl) T.n_set uJ (gA (aA (aT aZ bA (aB (pv 4)) (eX (aA (cG fN (fun Γ=>bN cV (by rfl) T.n_tuple cC (gA (aA (aB (pv 7)) aF) Γ))) aF))) aF) Γ))) dY (dB ge_int))))))) (aN (jX (dZ (iO hr.units) (hU (neg:=false)) (aB (pv 5)) ge_int (cF _)) (aN (aO (i:=4) nd rfl (Or.inl rfl) (cK (aB (pv 4)) (dB (aB (pv 6))) (dB (aT aZ bA (aB (pv 6)) ge_int))))) (aN (aO (i:=4) nd rfl (Or.inl rfl) (eX aF))))))))
  (aN (bX (aT aZ bA (aT aZ bA (cK (aB (pv 2)) dY (dB (aB (pv 3)))) (rL (aA (cG fN (fun Γ=>bN cV (by rfl) T.n_tuple cC (gA (aA (aB (pv 4)) aF) Γ))) aF))) (cK (aB (pv 2)) (dB (aT aZ bA (aB (pv 3)) ge_int)) dY)))))))))
theorem xH(T:Txt K mg a):FnOk P w K mg base CX0 1 a.law_truth a.fd_law_truth ["_law_found","_law_due"] (dsp 2 dH):=by
 refine cB T.F_law_truth nF (by decide) fF (fun cdv A outer s H E hr=>?_)
 have nd:=nF.nd
 unfold fF
 exact(aN (bX (bW9 (cU7 (c:="bool") K (by decide) (fun Γ=>bE (bC2 K (by rfl)) (by rfl) T.n_isinstance pQ (bI (gE (aB (pv 0)) Γ) (bI (cA2 (v:=.ty "bool") (by rfl) T.n_bool bD3 rfl) eD)))) (bW8 (rK (iO hr.units) (hU (neg:=false)) (aB (pv 0)) (aB (pv 1)) (cF _))))))
theorem xI(T:Txt K mg a)(G_law_cut:FnOk P w K mg base CX0 1 a.law_cut a.fd_law_cut ["_law_columns_here","_law_rows","_law_some_here"] (dsp 3 cA)):FnOk P w K mg base CX0 2 a.law_agree a.fd_law_agree ["_law_question_here","_law_house_here"] (dsp 2 cT):=by
 refine cB T.F_law_agree nG (by decide) fG (fun cdv A outer s H E hr=>?_)
 have nd:=nG.nd
 unfold fG
 exact(aH (jY (own:=[2]) (bB (by decide)) (fun Γ=>iX PassesOwn.never rfl (gI (iI (fun Γ=>cU (by rfl) T.n_range (gA (aA (cG dA (fun Γ=>bE bJ (by rfl) T.n_len bW (gA (aA (aB (pv 0)) aF) Γ))) aF) Γ)) aC1) Γ) (aX (i:=2) nd rfl (Or.inl rfl))
  (gSs (aN (jY (own:=[3]) (bB (by decide)) (fun Γ=>iX PassesOwn.never rfl (gI (iI (fun Γ=>cU (by rfl) T.n_range (gA (aA (aB (pv 2)) aF) Γ)) aC1) Γ) (aX (i:=3) nd rfl (Or.inl rfl))
  (gSs (aH (cT5 (own:=[4,5]) (rN (dS (bB (by decide)) (dS (bB (by decide)) mF))) (fun Γ=>aA0 (gE (rL (aA (cX (cX (aB (pv 0)) (aB (pv 2)) (fun _ _=>rfl)) ge_int (fun _ _=>rfl)) (aA (cX (cX (aB (pv 0)) (aB (pv 3)) (fun _ _=>rfl)) ge_int (fun _ _=>rfl)) aF))) Γ) (jS (n:=2) K rfl rfl (dR (aX (i:=4) nd rfl (Or.inl rfl)) (dR (aX (i:=5) nd rfl (Or.inr rfl)) lZ)))))
  (aH (rQ (ow:=[7]) (i:=6) (bB (by decide)) (fun Γ=>jQ (i:=6) nd rfl rfl (csc [7] (by kernel_rfl)) (gI (fV K (by rfl) (aB (pv 4))) Γ) (fun _ _ _ _=>(aX (i:=7) nd rfl (Or.inl rfl) (.inr rfl))) (bC (by decide)) (fun _ _ _ _=>(lJ (dZ (bX1 hr.units) (wE (neg:=false)) (aB (pv 7)) (aB (pv 5)) (by with_unfolding_all rfl)))) (fun _ _ _ _=>gE (dL (aB (pv 7))) Γ) rfl))
  (aN (jX (dZ (cU6 hr.units) (hU (neg:=true)) (aK (fun Γ=>aI G_law_cut (hr.mono (by decide)) (by rfl) T.m_law_cut T.F_law_cut.kp (pW T) .nil aY (gA (aA (aB (pv 4)) (aA (cX (aB (pv 1)) (aB (pv 2)) (fun _ _=>rfl)) (aA (aB (pv 6)) aF))) Γ))) (aK (fun Γ=>aI G_law_cut (hr.mono (by decide)) (by rfl) T.m_law_cut T.F_law_cut.kp (pW T) .nil aY (gA (aA (aB (pv 5)) (aA (cX (aB (pv 1)) (aB (pv 3)) (fun _ _=>rfl)) (aA (aB (pv 6)) aF))) Γ))) (cF _)) (aN (bX aR6)) fM)))) Γ)))) Γ)))
  (aN (bX aR6)))
theorem xJ(T:Txt K mg a):FnOk P w K mg base CX0 1 a.tables_of a.fd_tables_of ["question","house"] (dsp 2 eJ):=by
 refine cB T.F_tables_of nH (by decide) fH (fun cdv A outer s H E hr=>?_)
 have nd:=nH.nd
 unfold fH
 exact(aN (bX (dM (ow:=[2,3]) (rN (dS (bB (by decide)) (dS (bB (by decide)) mF))) (fun Γ=>cZ (csc [2,3] (by kernel_rfl)) (gI (cW9 (fun Γ=>cW8 (by rfl) T.n_zip bP4 (gA (aA (aB (pv 0)) (aA (aB (pv 1)) aF)) Γ))) Γ) (fun _ _ _ _=>(jS (n:=2) K rfl rfl (dR (aX (i:=2) nd rfl (Or.inl rfl) (.inr rfl)) (dR (aX (i:=3) nd rfl (Or.inl rfl) (.inr rfl)) lZ)))) (aZ6 (rE (bC (by decide)) (rE (bC (by decide)) aX1 rF) rF)) (fun _ _ _ _=>dF) (fun _ _ _ _=>gE (rL (aA (cX (aB (pv 2)) ge_int (fun _ _=>rfl)) (aA (dL (aB (pv 3))) aF))) Γ)))))
theorem mT(T:Txt K mg a):FnOk P w K mg base CX0 1 a.common_columns a.fd_common_columns ["one","other"] (dsp 2 cI):=by
 refine cB T.F_common_columns hX (by decide) cO (fun cdv A outer s H E hr=>?_)
 have nd:=hX.nd
 unfold cO
 exact(aN (bX (dM (ow:=[2]) (bB (by decide)) (fun Γ=>cZ (csc [2] (by kernel_rfl)) (gI (fV K (by rfl) (cX (aB (pv 0)) ge_int (fun _ _=>rfl))) Γ) (fun _ _ _ _=>(aX (i:=2) nd rfl (Or.inl rfl) (.inr rfl))) (bC (by decide)) (fun _ _ _ _=>(lJ (dZ (bX1 hr.units) (wE (neg:=false)) (aB (pv 2)) (cX (aB (pv 1)) ge_int (fun _ _=>rfl)) (by with_unfolding_all rfl)))) (fun _ _ _ _=>gE (dL (aB (pv 2))) Γ)))))
theorem xK(T:Txt K mg a):FnOk P w K mg base CX0 1 a.places_of a.fd_places_of ["columns","some"] (dsp 2 eK):=by
 refine cB T.F_places_of nJ (by decide) fJ (fun cdv A outer s H E hr=>?_)
 have nd:=nJ.nd
 unfold fJ
 exact(aN (bX (dM (ow:=[2]) (bB (by decide)) (fun Γ=>cZ (csc [2] (by kernel_rfl)) (gI (fV K (by rfl) (aB (pv 1))) Γ) (fun _ _ _ _=>(aX (i:=2) nd rfl (Or.inl rfl) (.inr rfl))) (bC (by decide)) (fun _ _ _ _=>dF) (fun _ _ _ _=>gE (dL (cW5 aP0 (fun Γ=>bY2 PySem.F.slot_tuple_index PySem.F.type_tuple_index xA (gE (aB (pv 0)) Γ) (gA (aA (aB (pv 2)) aF) Γ)))) Γ)))))
theorem zL(T:Txt K mg a):FnOk P w K mg base CX0 1 a.table_of a.fd_table_of ["columns","rows"] (dsp 2 fK):=by
 refine cB T.F_table_of pT (by decide) gC (fun cdv A outer s H E hr=>?_)
 have nd:=pT.nd
 unfold gC
 exact(aN (bX (rL (aA (cG fN (fun Γ=>bN cV (by rfl) T.n_tuple cC (gA (aA (aB (pv 0)) aF) Γ))) (aA (cG fN (fun Γ=>bN cV (by rfl) T.n_tuple cC (gA (aA (cG kW (fun Γ=>uT (id:="sorted") (U:="set") (jM rfl (bF9 hr)) (by rfl) T.n_sorted kR (by rfl) T.n_set uJ (gA (aA (aB (pv 1)) aF) Γ))) aF) Γ))) aF)))))
theorem bG5(T:Txt K mg a):FnOk P w K mg base CX0 1 a.picked a.fd_picked ["row","places"] (dsp 2 iB):=by
 refine cB T.F_picked wP (by decide) jO (fun cdv A outer s H E hr=>?_)
 have nd:=wP.nd
 unfold jO
 exact(aN (bX (cG fN (fun Γ=>bN cV (by rfl) T.n_tuple cC (gA (aA (dM (ow:=[2]) (bB (by decide)) (fun Γ=>cZ (csc [2] (by kernel_rfl)) (gI (fV K (by rfl) (aB (pv 1))) Γ) (fun _ _ _ _=>(aX (i:=2) nd rfl (Or.inl rfl) (.inr rfl))) (bC (by decide)) (fun _ _ _ _=>dF) (fun _ _ _ _=>gE (cX (aB (pv 0)) (aB (pv 2)) (fun _ _=>rfl)) Γ))) aF) Γ)))))
theorem cX7(T:Txt K mg a)(G_places_of:FnOk P w K mg base CX0 1 a.places_of a.fd_places_of ["columns","some"] (dsp 2 eK))(G_table_of:FnOk P w K mg base CX0 1 a.table_of a.fd_table_of ["columns","rows"] (dsp 2 fK))(G_picked:FnOk P w K mg base CX0 1 a.picked a.fd_picked ["row","places"] (dsp 2 iB)):FnOk P w K mg base CX0 2 a.cut a.fd_cut ["table","columns"] (dsp 2 mR):=by
 refine cB T.F_cut bX4 (by decide) xD (fun cdv A outer s H E hr=>?_)
 have nd:=bX4.nd
 unfold xD
 exact(aH (aO (i:=2) nd rfl (Or.inr rfl) (aK (fun Γ=>aI G_places_of (hr.mono (by decide)) (by rfl) T.m_places_of T.F_places_of.kp (yV T) .nil aY (gA (aA (cX (aB (pv 0)) ge_int (fun _ _=>rfl)) (aA (aB (pv 1)) aF)) Γ))))
  (aN (bX (aK (fun Γ=>aI G_table_of (hr.mono (by decide)) (by rfl) T.m_table_of T.F_table_of.kp (aS8 T) .nil aY (gA (aA (aB (pv 1)) (aA (dM (ow:=[3]) (bB (by decide)) (fun Γ=>cZ (csc [3] (by kernel_rfl)) (gI (fV K (by rfl) (cX (aB (pv 0)) ge_int (fun _ _=>rfl))) Γ) (fun _ _ _ _=>(aX (i:=3) nd rfl (Or.inl rfl) (.inr rfl))) (bC (by decide)) (fun _ _ _ _=>dF) (fun _ _ _ _=>gE (dL (aK (fun Γ=>aI G_picked (hr.mono (by decide)) (by rfl) T.m_picked T.F_picked.kp (bP5 T) .nil aY (gA (aA (aB (pv 3)) (aA (aB (pv 2)) aF)) Γ)))) Γ))) aF)) Γ))))))
theorem uY(T:Txt K mg a)(G_common_columns:FnOk P w K mg base CX0 1 a.common_columns a.fd_common_columns ["one","other"] (dsp 2 cI))(G_cut:FnOk P w K mg base CX0 2 a.cut a.fd_cut ["table","columns"] (dsp 2 mR)):FnOk P w K mg base CX0 3 a.agree_both a.fd_agree_both ["one","other"] (dsp 2 dQ):=by
 refine cB T.F_agree_both lO (by decide) eL (fun cdv A outer s H E hr=>?_)
 have nd:=lO.nd
 unfold eL
 exact(aH (aO (i:=2) nd rfl (Or.inl rfl) (aK (fun Γ=>aI G_common_columns (hr.mono (by decide)) (by rfl) T.m_common_columns T.F_common_columns.kp (nU T) .nil aY (gA (aA (aB (pv 0)) (aA (aB (pv 1)) aF)) Γ))))
  (aN (bX (rK (iO hr.units) (hU (neg:=false)) (aK (fun Γ=>aI G_cut (hr.mono (by decide)) (by rfl) T.m_cut T.F_cut.kp (cV9 T) .nil aY (gA (aA (aB (pv 0)) (aA (aB (pv 2)) aF)) Γ))) (aK (fun Γ=>aI G_cut (hr.mono (by decide)) (by rfl) T.m_cut T.F_cut.kp (cV9 T) .nil aY (gA (aA (aB (pv 1)) (aA (aB (pv 2)) aF)) Γ))) (cF _)))))
theorem bR4(T:Txt K mg a)(G_tables_of:FnOk P w K mg base CX0 1 a.tables_of a.fd_tables_of ["question","house"] (dsp 2 eJ))(G_agree_both:FnOk P w K mg base CX0 3 a.agree_both a.fd_agree_both ["one","other"] (dsp 2 dQ)):FnOk P w K mg base CX0 4 a.agree a.fd_agree ["question","house"] (dsp 2 iC):=by
 refine cB T.F_agree aN6 (by decide) lV (fun cdv A outer s H E hr=>?_)
 have nd:=aN6.nd
 unfold lV
 exact(aH (aO (i:=2) nd rfl (Or.inl rfl) (aK (fun Γ=>aI G_tables_of (hr.mono (by decide)) (by rfl) T.m_tables_of T.F_tables_of.kp (yU T) .nil aY (gA (aA (aB (pv 0)) (aA (aB (pv 1)) aF)) Γ))))
  (aH (jY (own:=[3,4]) (rN (dS (bB (by decide)) (dS (bB (by decide)) mF))) (fun Γ=>iX PassesOwn.never rfl (gI (bD1 K (fun Γ=>bC8 K (by rfl) (by rfl) T.n_enumerate kH (gA (aA (aB (pv 2)) aF) Γ))) Γ) (jS (n:=2) K rfl rfl (dR (aX (i:=3) nd rfl (Or.inl rfl)) (dR (aX (i:=4) nd rfl (Or.inr rfl)) lZ)))
  (gSs (aN (jX (bW7 (bW5 (cG cE5 (fun Γ=>bE (bB4 K (by rfl) (by rfl)) (by rfl) T.n_all bP2 (gA (aA (dM (ow:=[5]) (bB (by decide)) (fun Γ=>cZ (csc [5] (by kernel_rfl)) (gI (fV K (by rfl) (cK (aB (pv 2)) dY (dB (aB (pv 3))))) Γ) (fun _ _ _ _=>(aX (i:=5) nd rfl (Or.inl rfl) (.inr rfl))) (bC (by decide)) (fun _ _ _ _=>dF) (fun _ _ _ _=>gE (dL (aK (fun Γ=>aI G_agree_both (hr.mono (by decide)) (by rfl) T.m_agree_both T.F_agree_both.kp (wQ T) .nil aY (gA (aA (aB (pv 4)) (aA (aB (pv 5)) aF)) Γ)))) Γ))) aF) Γ))))) (aN (bX aR6)) fM)) Γ)))
  (aN (bX aR6))))
theorem cX8(T:Txt K mg a)(G_law_question:FnOk P w K mg base CX0 5 a.law_question a.fd_law_question ["_law_box_here"] (bA9 1 cD))(G_law_box:FnOk P w K mg base CX0 1 a.law_box a.fd_law_box ["_law_script","_law_k"] (dsp 2 cJ))(G_law_house:FnOk P w K mg base CX0 4 a.law_house a.fd_law_house ["_law_box_here","_law_question_here"] (dsp 2 dG))(G_law_changed:FnOk P w K mg base CX0 2 a.law_changed a.fd_law_changed ["_law_box_here","_law_question_here","_law_house_here"] (dsp 3 bQ))(G_law_take:FnOk P w K mg base CX0 1 a.law_take a.fd_law_take ["_law_box_here","_law_many"] (dsp 2 aE))(G_law_truth:FnOk P w K mg base CX0 1 a.law_truth a.fd_law_truth ["_law_found","_law_due"] (dsp 2 dH))(G_law_agree:FnOk P w K mg base CX0 2 a.law_agree a.fd_law_agree ["_law_question_here","_law_house_here"] (dsp 2 cT))(G_agree:FnOk P w K mg base CX0 4 a.agree a.fd_agree ["question","house"] (dsp 2 iC)):FnOk P w K mg base CX0 6 a.law a.fd_law ["_law_script"] (bA9 1 qG):=by
 refine yL T.F_law bX5 (by decide) sF zI (fun cdv A outer s H E hr=>GM.to ?_)
 have nd:=bX5.nd
 unfold sF
 exact(zG (bG3 (zH dU) (fun Γ=>vF (i:=1) nd rfl (Or.inl rfl) (aI G_law_question (hr.mono (by decide)) (by rfl) T.m_law_question T.F_law_question.kp (qU T) .nil aY (gA (aA (aK (fun Γ=>aI G_law_box (hr.mono (by decide)) (by rfl) T.m_law_box T.F_law_box.kp (pV T) .nil aY (gA (aA (aB (pv 0)) (aA ge_int aF)) Γ))) aF) Γ))))
  (bG2 (aH (aO (i:=2) nd rfl (Or.inl rfl) (aK (fun Γ=>aI G_law_house (hr.mono (by decide)) (by rfl) T.m_law_house T.F_law_house.kp (yR T) .nil aY (gA (aA (aK (fun Γ=>aI G_law_box (hr.mono (by decide)) (by rfl) T.m_law_box T.F_law_box.kp (pV T) .nil aY (gA (aA (aB (pv 0)) (aA ge_int aF)) Γ))) (aA (aB (pv 1)) aF)) Γ))))
  (aH (aO (i:=3) nd rfl (Or.inl rfl) (eX (aA (dL (aB (pv 2))) aF)))
  (aH (jY (own:=[4]) (bB (by decide)) (fun Γ=>iX PassesOwn.never rfl (gI (cD5 (fun Γ=>aV4 (by rfl) T.n_range (gA (aA ge_int (aA (cG bN4 (fun Γ=>bE (aW0 (by rfl)) (by rfl) T.n_max bP3 (gA (aA ge_int (aA (cG aC7 (fun Γ=>bE (oQ (by rfl)) (by rfl) T.n_min uI (gA (aA ge_int (aA (cG dA (fun Γ=>bE bJ (by rfl) T.n_len bW (gA (aA (aB (pv 0)) aF) Γ))) aF)) Γ))) aF)) Γ))) aF)) Γ)) dL6) Γ) (aX (i:=4) nd rfl (Or.inl rfl))
  (gSs (aH (aO (i:=5) nd rfl (Or.inl rfl) (aK (fun Γ=>aI G_law_box (hr.mono (by decide)) (by rfl) T.m_law_box T.F_law_box.kp (pV T) .nil aY (gA (aA (aB (pv 0)) (aA (aB (pv 4)) aF)) Γ))))
  (aH (aO (i:=6) nd rfl (Or.inl rfl) (aK (fun Γ=>aI G_law_changed (hr.mono (by decide)) (by rfl) T.m_law_changed T.F_law_changed.kp (lP T) .nil aY (gA (aA (aB (pv 5)) (aA (aB (pv 1)) (aA (aB (pv 2)) aF))) Γ))))
  (aH (jX (dZ (iO hr.units) (hU (neg:=false)) (aK (fun Γ=>aI G_law_take (hr.mono (by decide)) (by rfl) T.m_law_take T.F_law_take.kp (aJ T) .nil aY (gA (aA (aB (pv 5)) (aA ge_int aF)) Γ))) ge_int (cF _)) (aN (aO (i:=6) nd rfl (Or.inl rfl) (aK (fun Γ=>aI G_law_changed (hr.mono (by decide)) (by rfl) T.m_law_changed T.F_law_changed.kp (lP T) .nil aY (gA (aA (aB (pv 5)) (aA (aB (pv 1)) (aA (aB (pv 6)) aF))) Γ))))) fM)
  (aN (jC (kO mK (fun Γ=>iM K (by rfl) PySem.F.plainAttrs_list PySem.F.slot_list_append PySem.F.type_list_append eR (pv 3) (gA (aA (dL (aB (pv 6))) aF) Γ)))))))) Γ)))
  (aH (jY (own:=[7]) (bB (by decide)) (fun Γ=>iX PassesOwn.never rfl (gI (fV K (by rfl) (aT aZ bA (aB (pv 3)) (cK (aB (pv 3)) dY (dB ge_int)))) Γ) (aX (i:=7) nd rfl (Or.inl rfl))
  (gSs (aN (jX (bW7 (bW5 (aK (fun Γ=>aI G_law_truth (hr.mono (by decide)) (by rfl) T.m_law_truth T.F_law_truth.kp (yS T) .nil aY (gA (aA (aK (fun Γ=>aI G_agree (hr.mono (by decide)) (by rfl) T.m_agree T.F_agree.kp (cF5 T) .nil aY (gA (aA (aB (pv 1)) (aA (aB (pv 7)) aF)) Γ))) (aA (aK (fun Γ=>aI G_law_agree (hr.mono (by decide)) (by rfl) T.m_law_agree T.F_law_agree.kp (yT T) .nil aY (gA (aA (aB (pv 1)) (aA (aB (pv 7)) aF)) Γ))) aF)) Γ))))) (aN (bX aR6)) fM)) Γ)))
  (aN (bX aR6))))))))
end
end Mr
namespace Dv
open PySem L2 Mr
mutual
def smp:D->Bool
 | .non=>true
 | .int _=>true
 | .str z=>PyData.strOk z
 | .tup l=>smps l
 | .lst l=>smps l
 | _=>false
def smps:List D->Bool
 | []=>true
 | d::r=>smp d&&smps r
end
mutual
theorem bG6:∀ {d:D},smp d=true->(jZ d).canLay0=true
 | .non,_=>rfl
 | .int _,_=>rfl
 | .str z,h=>h
 | .tup l,h=>smps_lay (l:=l) h
 | .lst l,h=>smps_lay (l:=l) h
 | .bl _,h=>nomatch h
 | .dic _ _,h=>nomatch h
theorem smps_lay:∀ {l:List D},smps l=true->PyData.canLayAll0 (toPys l)=true
 | [],_=>rfl
 | d::r,h=>by
   have h':smp d=true/\smps r=true:=by simpa[smps]using h
   show((jZ d).canLay0&&PyData.canLayAll0 (toPys r))=true
   rw[bG6 h'.1,smps_lay h'.2];rfl
end
mutual
theorem bG7:∀ {d e:D},smp d=true->smp e=true->(PyData.eqv (jZ d) (jZ e)=true↔d=e)
 | .non,e,_,he=>by cases e<;>simp_all [jZ,PyData.eqv,smp]
 | .str x,e,_,he=>by cases e<;>simp_all [jZ,PyData.eqv,smp]
 | .int i,e,_,he=>by cases e<;>simp_all [jZ,PyData.eqv,smp]
 | .tup l,e,hd,he=>by
   cases e with
   | tup m=>
     show PyData.eqvAll (toPys l) (toPys m)=true↔_
     rw[eqvs_smp (l:=l) (m:=m) hd he,D.tup.injEq]
   | _=>simp_all [jZ,PyData.eqv,smp]
 | .lst l,e,hd,he=>by
   cases e with
   | lst m=>
     show PyData.eqvAll (toPys l) (toPys m)=true↔_
     rw[eqvs_smp (l:=l) (m:=m) hd he,D.lst.injEq]
   | _=>simp_all [jZ,PyData.eqv,smp]
 | .bl _,_,h,_=>nomatch h
 | .dic _ _,_,h,_=>nomatch h
theorem eqvs_smp:∀ {l m:List D},smps l=true->smps m=true->(PyData.eqvAll (toPys l) (toPys m)=true↔l=m)
 | [],[],_,_=>by simp[toPys,PyData.eqvAll]
 | [],e::m,_,_=>by simp[toPys,PyData.eqvAll]
 | d::l,[],_,_=>by simp[toPys,PyData.eqvAll]
 | d::l,e::m,hd,he=>by
   have h1:smp d=true/\smps l=true:=by simpa[smps]using hd
   have h2:smp e=true/\smps m=true:=by simpa[smps]using he
   show((jZ d).eqv (jZ e)&&PyData.eqvAll (toPys l) (toPys m))=true↔_
   rw[Bool.and_eq_true,bG7 h1.1 h2.1,eqvs_smp h1.2 h2.2,List.cons.injEq]
end
structure Ok(n:Nat)(d:D):Prop where
 smp:Dv.smp d=true
 dep:(jZ d).depth<=n
theorem zM:∀ {l:List D},(∀ d∈l,smp d=true)->smps l=true
 | [],_=>rfl
 | d::r,h=>by
   show(smp d&&smps r)=true
   rw[h d List.mem_cons_self,zM fun x hx=>h x (List.mem_cons_of_mem _ hx)];rfl
theorem zN{n:Nat}:∀ {l:List D},(∀ d∈l,(jZ d).depth<=n)->PyData.depthAll (toPys l)<=n
 | [],_=>Nat.zero_le _
 | d::r,h=>Nat.max_le.mpr ⟨h d List.mem_cons_self,zN fun x hx=>h x (List.mem_cons_of_mem _ hx)⟩
theorem Ok.lst{n:Nat}{l:List D}(h:∀ d∈l,Ok n d):Ok (n+1) (.lst l):=⟨zM fun d hd=>(h d hd).smp,Nat.succ_le_succ (zN fun d hd=>(h d hd).dep)⟩
theorem Ok.tup{n:Nat}{l:List D}(h:∀ d∈l,Ok n d):Ok (n+1) (.tup l):=⟨zM fun d hd=>(h d hd).smp,Nat.succ_le_succ (zN fun d hd=>(h d hd).dep)⟩
theorem Ok.int{n:Nat}{i:Int}:Ok n (.int i):=⟨rfl,Nat.zero_le _⟩
theorem Ok.str{n:Nat}{z:Str}(h:∀ c∈z.cps.toList,c < 128):Ok n (.str z):=by
 refine⟨?_,Nat.zero_le _⟩
 show PyData.strOk z=true
 unfold PyData.strOk
 rw[← Array.all_toList,List.all_eq_true]
 intro c hc
 have:=h c hc
 simp;omega
theorem Ok.cmp{n:Nat}{d:D}(h:Ok n d)(hn:n<=60):jG d=true:=by
 unfold jG
 rw[bG6 h.smp,decide_eq_true (Nat.le_trans h.dep hn)];rfl
theorem bG8{n m:Nat}{d e:D}(h1:Ok n d)(h2:Ok m e):xT d e=decide (d=e):=by
 rw[Bool.eq_iff_iff,decide_eq_true_eq];exact bG7 h1.smp h2.smp
theorem bG9{neg:Bool}{n m:Nat}{d e:D}(h1:Ok n d)(h2:Ok m e)(hn:n<=60)(hm:m<=60){K:Res->Prop}(k:K (.val (.bl (if neg=true then !decide (d=e)else decide (d=e))))):OK1 (eqD neg d e) K:=by
 unfold eqD
 rw[if_pos ⟨h1.cmp hn,h2.cmp hm⟩,bG8 h1 h2]
 exact k
theorem cX9{neg:Bool}{n:Nat}{l:List D}(h:∀ d∈l,Ok n d)(hn:n < 60){K:Res->Prop}(k:K (.val (.bl (if neg=true then !l.isEmpty else l.isEmpty)))):OK1 (eqD neg (.lst l) (.lst [])) K:=by
 refine bG9 (n:=n+1) (m:=1) (.lst h) (.lst (n:=0) fun _ z=>absurd z List.not_mem_nil) (by omega) (by decide) ?_
 rw[show decide (D.lst l=D.lst [])=l.isEmpty by rw[Bool.eq_iff_iff,decide_eq_true_eq,D.lst.injEq,List.isEmpty_iff]]
 exact k
theorem bY6{n m:Nat}{d:D}(h:Ok n d):∀ {l:List D},(∀ x∈l,Ok m x)->(l.any fun y=>xT y d)=decide (d∈l)
 | [],_=>by simp
 | x::r,hl=>by
   rw[List.any_cons,bY6 h fun y hy=>hl y (List.mem_cons_of_mem _ hy),bG8 (hl x List.mem_cons_self) h,Bool.eq_iff_iff,Bool.or_eq_true,decide_eq_true_eq,decide_eq_true_eq,decide_eq_true_eq,List.mem_cons,eq_comm]
theorem bY7{neg:Bool}{n m:Nat}{d:D}{l:List D}{b:Bool}(h1:Ok n d)(h2:∀ x∈l,Ok m x)(hn:n<=60)(hm:m < 60){K:Res->Prop}(k:K (.val (.bl (if neg=true then !decide (d∈l)else decide (d∈l))))):OK1 (inD neg d (if b=true then .lst l else .tup l)) K:=by
 have e:inD neg d (if b=true then .lst l else .tup l)=if jG d=true/\jG (if b=true then .lst l else .tup l)=true then some (.val (.bl (if neg then !(l.any fun y=>xT y d)else l.any fun y=>xT y d)))else none:=by
  cases b<;>cases d<;>rfl
 have cm:jG (if b=true then .lst l else .tup l)=true:=by
  cases b
  ·exact(Ok.tup h2).cmp (by omega)
  ·exact(Ok.lst h2).cmp (by omega)
 rw[e,if_pos ⟨h1.cmp hn,cm⟩,bY6 h1 h2]
 exact k
theorem zO{neg:Bool}{n m:Nat}{d:D}{l:List D}(h1:Ok n d)(h2:∀ x∈l,Ok m x)(hn:n<=60)(hm:m < 60){K:Res->Prop}(k:K (.val (.bl (if neg=true then !decide (d∈l)else decide (d∈l))))):OK1 (inD neg d (.lst l)) K:=bY7 (b:=true) h1 h2 hn hm k
theorem cI8{neg:Bool}{n m:Nat}{d:D}{l:List D}(h1:Ok n d)(h2:∀ x∈l,Ok m x)(hn:n<=60)(hm:m < 60){K:Res->Prop}(k:K (.val (.bl (if neg=true then !decide (d∈l)else decide (d∈l))))):OK1 (inD neg d (.tup l)) K:=bY7 (b:=false) h1 h2 hn hm k
end Dv
namespace Mr
open PySem L2 Dv
local macro_rules | `(tactic| walk_at "dx")=>`(tactic| simp only[↓dA8,↓wG,↓aD0,↓wH,↓aD1,↓aD2,↓aD3,↓aD4,↓aD5,↓rS,↓aD6,↓aD7,↓aD8,↓aD9,↓aE0,↓aE1,↓aE2,↓aE3,↓pE,↓tF,↓aE4,↓rT,↓mL,↓mM,↓mO,↓aE5,↓aE6,↓bC4,↓aE7,↓aE8,↓bN7,↓aE9,↓aF0,↓aF1,↓aF2,↓aF3,↓aF4,↓tG,↓tH,↓wI,↓aF5,↓aF6,↓aF7,↓aF8,↓tJ,↓aF9,↓tK,↓aG0,↓aG1,↓aG2,↓aG3,↓aG4,↓aO1,↓aG5,↓aG6,↓aG7,↓tL,↓tM,↓aG8,↓aG9,↓aH0,↓aH1,↓aH2,↓aH3,↓aH4,↓aH5,↓aH6,↓aH7,↓bN8,↓tN,↓oH,↓tO,↓aH8,↓aH9,↓tP,↓aJ3,↓aJ4,↓aJ5,↓aJ6,↓aJ7,↓aJ8,↓aJ9,↓aK0,↓aK1,↓qA,↓bO0,↓wJ,↓pF,↓tY,↓oM,↓lR,↓aO0,↓pZ,↓uN,↓uH,↓aK2,↓tZ,↓uA,↓uB,↓aK3,↓aK4,↓aK5,↓aK6,↓aK7,↓bO1,↓bO2,↓bO3,↓bO4,↓aK8,↓aK9,↓aL0,↓uC,↓pH,↓aL1,↓uD,↓aL2,↓aL3,↓uE,↓oJ,↓aL4,↓uF,↓bO5,↓aL5,↓aL6,↓aL7,↓aL8,↓bO6,↓aM0,↓dA9,↓aM1,↓aM2,↓aL9,↓bP,aM7,aM8,aM9,bC6,bO7,Int.reducePow,Int.reduceNeg,Int.reduceLT,Int.reduceLE,Nat.reducePow,Nat.reduceLT,Int.reduceToNat,Nat.reduceLeDiff,↓aM3,↓aM4,↓aM5,↓aM6,aN2,aN0,bO8,aN1,↓aI1,↓aI2,↓aI3,↓aI4,↓aI5,↓aI6,↓aI7,↓aI8,↓aI9,↓tQ,↓tR,↓tS,↓tT,↓aJ0,↓aJ1,↓aJ2,tU,tV,tW,tX,List.set_cons_zero,List.set_cons_succ,eA,bB0,List.length_cons,List.length_nil,Nat.reduceAdd,Nat.zero_add,true_and,and_true,and_self,Bool.not_false,Bool.not_true,Bool.false_eq_true,Bool.true_and,Bool.and_true,Bool.or_false,↓reduceIte,decide_eq_true_eq])
theorem sl2:(2<=sizeLine):=by decide
theorem bD{a b m:Int}(h:0 < m)(h2:m < 18446744073709551616){K:Res->List Sl->Prop}(k:∀ d a' b',0<=d->d < m->K (.val (.int d)) [⟨.par,.lst [.int a',.int b']⟩,⟨.val,.int m⟩]):CK aE [⟨.par,.lst [.int a,.int b]⟩,⟨.val,.int m⟩] K:=by
 unfold aE
 rw[dJ]
 show RS fZ [_,_,none,none] _
 unfold fZ
 walk_at "dx"
 rw[bC6 h h2]
 split
 ·exact⟨h,True.intro,k _ _ _ (Int.emod_nonneg _ (by omega)) (Int.emod_lt_of_pos _ h)⟩
 ·exact⟨h,k _ _ _ (Int.emod_nonneg _ (by omega)) (Int.emod_lt_of_pos _ h)⟩
theorem uZ{ns:List Int}{i:Int}(h0:0<=i)(h1:i < (ns.length:Int)):∃ c,atI (ns.map D.int) i=some (.int c):=by
 obtain⟨c,hc⟩:=aY6 (ys:=ns) h0 h1
 exact⟨c,by rw[yE,hc];rfl⟩
theorem bH0{ns:List Int}{n:Int}(h0:0<=n)(h1:n < 1000){K:Res->List Sl->Prop}(k:∀ a b,K (.own (.lst [.int a,.int b])) [⟨.val,.lst (ns.map D.int)⟩,⟨.val,.int n⟩]):CK cJ [⟨.val,.lst (ns.map D.int)⟩,⟨.val,.int n⟩] K:=by
 unfold cJ
 rw[dJ]
 show RS hZ [_,_,none,none] _
 unfold hZ
 walk_at "dx"
 split
 ·rename_i hc
  obtain⟨c,hc⟩:=uZ (ns:=ns) h0 (by simpa using hc)
  rw[hc]
  walk_at "dx"
  exact⟨sl2,k _ _⟩
 ·split
  ·rename_i hc
   refine⟨hc,?_⟩
   obtain⟨c,hc⟩:=uZ (ns:=ns) (i:=n % ((ns.map D.int).length:Int)) (Int.emod_nonneg _ (by omega)) (by have:=Int.emod_lt_of_pos n hc;simpa using this)
   rw[hc]
   walk_at "dx"
   exact⟨sl2,k _ _⟩
  ·exact⟨sl2,k _ _⟩
theorem fS{lo:Int}{n i:Nat}{d:D}(h:(oC lo n)[i]? = some d):i < n/\d=.int (lo+i):=by
 unfold oC at h
 rw[List.getElem?_map]at h
 cases e:(List.range n)[i]? with
 | none=>rw[e]at h;cases h
 | some k=>
   rw[e]at h
   obtain⟨hi,hk⟩:=List.getElem?_eq_some_iff.mp e
   rw[List.length_range]at hi
   rw[List.getElem_range]at hk
   subst hk
   exact⟨hi,(Option.some.inj h).symm⟩
theorem bF(lo:Int)(n:Nat):(oC lo n).length=n:=by simp[oC]
theorem bH1{α:Type}{l:List α}{i:Int}{c:α}(h:atI l i=some c):c∈l:=by
 unfold atI at h
 obtain⟨j,_,h2⟩:=aD h
 exact List.mem_of_getElem? h2
theorem cY0{l:List D}{d:Int}(h0:0<=d)(h1:d < (l.length:Int))(h2:d < 9223372036854775808){K:D×D->Prop}(k:∀ y r,(y::r).Perm l->r.length+1=l.length->K (.lst r,y)):OK1 (wC (.lst l) [.int d]) K:=by
 obtain⟨n,rfl⟩:∃ n:Nat,d=n:=⟨d.toNat,by omega⟩
 have hn:n < l.length:=by omega
 unfold wC
 dsimp only
 rw[if_pos ⟨by omega,by omega⟩]
 have e:ixN l.length (n:Int)=some n:=by
  unfold ixN
  rw[if_pos (by omega),if_pos (by omega)];simp
 rw[e]
 show OK1 ((l[n]?).map _) K
 rw[List.getElem?_eq_getElem hn]
 exact k _ _ (rH l n hn) (by rw[List.length_eraseIdx_of_lt hn];omega)
theorem qJ{a b:Int}{xs:List D}{m:Md}{t:D}(hm:m=.par/\t=.lst xs\/m=.val/\t=.lst xs\/m=.val/\t=.tup xs)(hl:xs.length<=1000){K:Res->List Sl->Prop}(k:∀ ys a' b',ys.Perm xs->K (.own (.lst ys)) [⟨.par,.lst [.int a',.int b']⟩,⟨m,t⟩]) :
  CK aW [⟨.par,.lst [.int a,.int b]⟩,⟨m,t⟩] K:=by
 unfold aW
 rw[dJ]
 show RS dD [_,_,none,none] _
 unfold dD
 rcases hm with⟨rfl,rfl⟩ | ⟨rfl,rfl⟩ | ⟨rfl,rfl⟩
 all_goals
  walk_at "dx"
  refine⟨Nat.zero_le _,?_⟩
  refine aT1 (fun m τ=>∃ a' b' nY found,m=nY.length/\nY.length<=xs.length/\found.length+nY.length=xs.length/\(found++nY).Perm xs/\τ=[some ⟨.par,.lst [.int a',.int b']⟩,some _,some ⟨.own,.lst nY⟩,some ⟨.own,.lst found⟩]) xs.length (by omega) ⟨a,b,xs,[],rfl,Nat.le_refl _,by simp,.refl _,rfl⟩ ?_
  rintro m τ ⟨a',b',nY,found,rfl,hl1,hl2,hp,rfl⟩
  walk_at "dx"
  split
  ·rename_i hpos
   refine bD (by simpa using hpos) (by omega) fun d a2 b2 d0 d1=>?_
   walk_at "dx"
   refine cY0 d0 (by simpa using d1) (by omega) fun y r hpr hr=>?_
   refine⟨Nat.lt_of_lt_of_le (by omega:found.length < 1001) (by decide),.inl ⟨_,r.length,.inl rfl,by omega,a2,b2,r,found++[y],rfl,by omega,by rw[List.length_append];simp only[List.length_cons,List.length_nil];omega,?_,rfl⟩⟩
   rw[List.append_assoc]
   exact(List.Perm.append_left found hpr).trans hp
  ·rename_i hpos
   have:nY=[]:=List.eq_nil_of_length_eq_zero (by omega)
   subst this
   exact k found a' b' (by simpa using hp)
theorem kK(l:List D){n:Int}(h:0<=n):vD l none (some n)=l.take n.toNat:=by
 obtain⟨k,rfl⟩:=Int.eq_ofNat_of_zero_le h
 unfold vD
 rw[HT.sIx_none,HT.sIx_nat,List.drop_zero,Nat.sub_zero,Int.toNat_natCast]
 by_cases h:k<=l.length
 ·rw[Nat.min_eq_left h]
 ·rw[Nat.min_eq_right (by omega),List.take_length,List.take_of_length_le (by omega)]
theorem aP2(l:List D){n:Int}(h:0<=n):vD l (some n) none=l.drop n.toNat:=by
 obtain⟨k,rfl⟩:=Int.eq_ofNat_of_zero_le h
 unfold vD
 rw[HT.sIx_none,HT.sIx_nat,Int.toNat_natCast]
 by_cases h:k<=l.length
 ·rw[Nat.min_eq_left h,List.take_of_length_le (by rw[List.length_drop];omega)]
 ·rw[Nat.min_eq_right (by omega),List.drop_length,List.drop_of_length_le (by omega),List.take_nil]
theorem zP{a b:Int}{xs:List D}{m:Md}{t:D}(hm:m=.par/\t=.lst xs\/m=.val/\t=.lst xs)(h0:xs≠[])(hl:xs.length<=1000){K:Res->List Sl->Prop}
  (k:∀ ys a' b',ys≠[]->ys.length<=4->(∀ y∈ys,y∈xs)->K (.own (.lst ys)) [⟨.par,.lst [.int a',.int b']⟩,⟨m,t⟩]):CK bM [⟨.par,.lst [.int a,.int b]⟩,⟨m,t⟩] K:=by
 have hp:0 < xs.length:=List.length_pos_iff.mpr h0
 have h4:∃ n:Int,(if(xs.length:Int) < 4 then(xs.length:Int)else 4)=n/\1<=n/\n<=4:=⟨_,rfl,by split<;>omega,by split<;>omega⟩
 obtain⟨n,en,n1,n4⟩:=h4
 unfold bM
 rw[dJ]
 show RS gB [_,_] _
 unfold gB
 rcases hm with⟨rfl,rfl⟩ | ⟨rfl,rfl⟩
 all_goals
  walk_at "dx"
  first | refine⟨by decide,qJ (xs:=xs) (by simp) hl fun ys a1 b1 hp1=>?_⟩ | refine qJ (xs:=xs) (by simp) hl fun ys a1 b1 hp1=>?_
  walk_at "dx"
  rw[en]
  refine bD (by omega) (by omega) fun d a2 b2 d0 d1=>?_
  walk_at "dx"
  rw[kK _ (by omega)]
  have e1:=hp1.length_eq
  refine k _ _ _ (fun z=>?_) ?_ fun y hy=>hp1.mem_iff.mp (List.mem_of_mem_take hy)
  ·have:=congrArg List.length z
   rw[List.length_take,List.length_nil]at this
   omega
  ·rw[List.length_take];omega
def Tx(z:Str):Prop:=z.length<=100/\∀ c∈z.cps.toList,c < 128
theorem bH2{z:Str}{lo hi:Option Int}{K:Res->Prop}:SK (.str z) lo hi K=(z.length<=sizeLine/\K (.val (.str (PySem.Txt.slice z lo hi)))):=by
 show OK1 (if _ then _ else none) K=_
 rw[bO];rfl
theorem zQ{z:Str}{i:Int}{K:Res->Prop}:OK1 (yP (.str z) (.int i)) K=((z.length<=1000/\0<=i/\i<=1000)/\K (.val (.str (PySem.Txt.mul z i)))):=by
 unfold yP
 dsimp only
 rw[bO];rfl
theorem cI9{i:Nat}{σ τ:Sg}:kP [i] σ τ=τ.set i (σ[i]?.getD none):=rfl
theorem bR5:(Str.ofString "abcdefghijklmnopqrstuvwxyz").cps.toList.length=26:=by decide
theorem sR(z:Str):z.length=z.cps.toList.length:=by show z.cps.size=_;simp
theorem qK(x y:Str):(x++y).cps.toList=x.cps.toList++y.cps.toList:=by show(x.cps++y.cps).toList=_;simp
theorem qL(x y:Str):(x++y).length=x.length+y.length:=by rw[sR,sR,sR,qK,List.length_append]
def As(z:Str):Prop:=∀ c∈z.cps.toList,c < 128
theorem bH3{x y:Str}(hx:As x)(hy:As y):As (x++y):=by
 intro c hc
 rw[qK]at hc
 rcases List.mem_append.mp hc with h | h
 ·exact hx c h
 ·exact hy c h
theorem aP3{z:Str}(h:As z)(lo hi:Option Int):As (PySem.Txt.slice z lo hi):=by
 intro c hc
 unfold PySem.Txt.slice at hc
 split at hc
 ·exact h c hc
 ·simp only[List.mem_filterMap]at hc
  obtain⟨i,_,hi⟩:=hc
  exact h c (Array.mem_toList_iff.mpr (Array.mem_of_getElem? hi))
theorem slice_le(z:Str)(lo hi:Option Int):(PySem.Txt.slice z lo hi).length<=z.length:=PySem.Txt.slice_le z lo hi
local macro_rules | `(tactic| walk_at "dx")=>`(tactic| simp only[↓bH2,↓zQ,↓dA8,↓wG,↓aD0,↓wH,↓aD1,↓aD2,↓aD3,↓aD4,↓aD5,↓rS,↓aD6,↓aD7,↓aD8,↓aD9,↓aE0,↓aE1,↓aE2,↓aE3,↓pE,↓tF,↓aE4,↓rT,↓mL,↓mM,↓mO,↓aE5,↓aE6,↓bC4,↓aE7,↓aE8,↓bN7,↓aE9,↓aF0,↓aF1,↓aF2,↓aF3,↓aF4,↓tG,↓tH,↓wI,↓aF5,↓aF6,↓aF7,↓aF8,↓tJ,↓aF9,↓tK,↓aG0,↓aG1,↓aG2,↓aG3,↓aG4,↓aO1,↓aG5,↓aG6,↓aG7,↓tL,↓tM,↓aG8,↓aG9,↓aH0,↓aH1,↓aH2,↓aH3,↓aH4,↓aH5,↓aH6,↓aH7,↓bN8,↓tN,↓oH,↓tO,↓aH8,↓aH9,↓tP,↓aJ3,↓aJ4,↓aJ5,↓aJ6,↓aJ7,↓aJ8,↓aJ9,↓aK0,↓aK1,↓qA,↓bO0,↓wJ,↓pF,↓tY,↓oM,↓lR,↓aO0,↓pZ,↓uN,↓uH,↓aK2,↓tZ,↓uA,↓uB,↓aK3,↓aK4,↓aK5,↓aK6,↓aK7,↓bO1,↓bO2,↓bO3,↓bO4,↓aK8,↓aK9,↓aL0,↓uC,↓pH,↓aL1,↓uD,↓aL2,↓aL3,↓uE,↓oJ,↓aL4,↓uF,↓bO5,↓aL5,↓aL6,↓aL7,↓aL8,↓bO6,↓aM0,↓dA9,↓aM1,↓aM2,↓aL9,↓bP,aM7,aM8,aM9,bC6,bO7,Int.reducePow,Int.reduceNeg,Int.reduceLT,Int.reduceLE,Nat.reducePow,Nat.reduceLT,Int.reduceToNat,Nat.reduceLeDiff,↓aM3,↓aM4,↓aM5,↓aM6,aN2,aN0,bO8,aN1,↓aI1,↓aI2,↓aI3,↓aI4,↓aI5,↓aI6,↓aI7,↓aI8,↓aI9,↓tQ,↓tR,↓tS,↓tT,↓aJ0,↓aJ1,↓aJ2,tU,tV,tW,tX,cI9,List.getElem?_cons_succ,List.getElem?_cons_zero,Option.getD_some,List.set_cons_zero,List.set_cons_succ,eA,bB0,List.length_cons,List.length_nil,Nat.reduceAdd,Nat.zero_add,true_and,and_true,and_self,Bool.not_false,Bool.not_true,Bool.false_eq_true,Bool.true_and,Bool.and_true,Bool.or_false,↓reduceIte,decide_eq_true_eq])
theorem bH4:∀ (zs:List Str),(∀ z∈zs,z.length<=1)->(zs.map (·.length)).sum<=zs.length
 | [],_=>by simp
 | z::r,h=>by
   have h1:=h z List.mem_cons_self
   have h2:=bH4 r fun y hy=>h y (List.mem_cons_of_mem _ hy)
   simp only[List.map_cons,List.sum_cons,List.length_cons]
   omega
theorem cJ0{e:Int}(e0:0<=e)(e1:e < 26):∃ c,atI (Str.ofString "abcdefghijklmnopqrstuvwxyz").cps.toList e=some c/\c < 128:=by
 obtain⟨c,hc⟩:=aY6 (ys:=(Str.ofString "abcdefghijklmnopqrstuvwxyz").cps.toList) e0 (by rw[bR5];exact e1)
 exact⟨c,hc,cD2 c (bH1 hc)⟩
theorem aP4{c:Nat}(h:c < 128):As ⟨#[c]⟩:=by
 intro x hx
 have:x=c:=by simpa using hx
 subst this
 exact h
theorem tx1{c:Nat}(h:c < 128):Tx ⟨#[c]⟩:=⟨by show 1<=100;decide,aP4 h⟩
theorem sG{x y:Str}{m n:Nat}(h1:x.length<=m/\As x)(h2:y.length<=n/\As y):(x++y).length<=m+n/\As (x++y):=⟨by rw[qL];omega,bH3 h1.2 h2.2⟩
theorem aC1(c:Nat):Str.length ⟨#[c]⟩=1:=rfl
theorem cY1{m:Int}(h:m=0\/m=1):(PySem.Txt.mul "z" m).length<=1/\As (PySem.Txt.mul "z" m):=by
 rcases h with rfl | rfl
 ·exact⟨by decide,by unfold As;decide⟩
 ·exact⟨by decide,by unfold As;decide⟩
theorem zm2(p:Prop)[Decidable p]:(if p then(1:Int)else 0)=0\/(if p then(1:Int)else 0)=1:=by
 split
 ·exact .inr rfl
 ·exact .inl rfl
theorem zR{e:Int}(e0:0<=e)(e1:e < 26):atI (Str.ofString "abcdefghijklmnopqrstuvwxyz").cps.toList e=some (97+e.toNat):=by
 have h:∀ n:Fin 26,atI (Str.ofString "abcdefghijklmnopqrstuvwxyz").cps.toList ((n:Nat):Int)=some (97+(n:Nat)):=by decide
 have:=h ⟨e.toNat,by omega⟩
 rwa[show((e.toNat:Nat):Int)=e by omega]at this
theorem bR6{ys:List Str}(h:∀ (i j:Nat) y,i < j->ys[i]? = some y->ys[j]? = some y->False):ys.Nodup:=by
 rw[List.nodup_iff_pairwise_ne,List.pairwise_iff_getElem]
 intro i j hi hj hij z
 exact h i j ys[i] hij (List.getElem?_eq_getElem hi) (by rw[z];exact List.getElem?_eq_getElem hj)
theorem aP5{a b:Int}{K:Res->List Sl->Prop}(k:∀ (zs:List Str) a' b',zs.length=6->zs.Nodup->(∀ z∈zs,Tx z)->K (.own (.lst (zs.map D.str))) [⟨.par,.lst [.int a',.int b']⟩,⟨.val,.int 6⟩]) :
  CK cH [⟨.par,.lst [.int a,.int b]⟩,⟨.val,.int 6⟩] K:=by
 unfold cH
 rw[dJ]
 show RS fC [_,_,none,none,none,none,none,none,none,none,none,none] _
 unfold fC
 walk_at "dx"
 refine bD (by decide) (by decide) fun n a1 b1 n0 n5=>?_
 walk_at "dx"
 split
 ·refine bD (by decide) (by decide) fun p a2 b2 p0 p1=>?_
  walk_at "dx"
  rw[zR p0 (by omega)]
  walk_at "dx"
  refine⟨by decide,bD (by decide) (by decide) fun q a3 b3 q0 q1=>?_⟩
  walk_at "dx"
  rw[zR (e:=13+q) (by omega) (by omega)]
  walk_at "dx"
  simp only[qL,aC1]
  have l1:∀ {c:Nat},c < 128->Str.length ⟨#[c]⟩<=1/\As ⟨#[c]⟩:=fun h=>⟨Nat.le_refl 1,aP4 h⟩
  have t2:∀ {x:Str} {n:Nat},n<=100->x.length<=n/\As x->Tx x:=fun hn h=>⟨Nat.le_trans h.1 hn,h.2⟩
  have hp:97+p.toNat < 128:=by omega
  have hq:97+(13+q).toNat < 128:=by omega
  have ne:97+p.toNat≠97+(13+q).toNat:=by omega
  revert hp hq ne
  generalize 97+p.toNat=u
  generalize 97+(13+q).toNat=v
  intro hp hq ne
  have e2:∀ x y:Nat,(⟨#[x]⟩:Str)++⟨#[y]⟩=⟨#[x,y]⟩:=fun _ _=>rfl
  refine⟨by decide,⟨rfl,rfl,by decide⟩,by decide,by decide,by decide,by decide,by decide,by decide,by decide,by decide,by decide,?_⟩
  refine k [⟨#[u]⟩,⟨#[u]⟩++⟨#[v]⟩,⟨#[v]⟩,⟨#[v]⟩++⟨#[u]⟩,⟨#[u]⟩++⟨#[u]⟩,⟨#[u]⟩++⟨#[v]⟩++⟨#[u]⟩] _ _ rfl ?_ ?_
  ·rw[e2,e2,e2,show(⟨#[u,v]⟩:Str)++⟨#[u]⟩=⟨#[u,v,u]⟩from rfl]
   simp[ne,Ne.symm ne]
  ·intro z hz
   simp only[List.mem_cons,List.not_mem_nil,or_false]at hz
   rcases hz with rfl | rfl | rfl | rfl | rfl | rfl
   ·exact tx1 hp
   ·exact t2 (by decide) (sG (l1 hp) (l1 hq))
   ·exact tx1 hq
   ·exact t2 (by decide) (sG (l1 hq) (l1 hp))
   ·exact t2 (by decide) (sG (l1 hp) (l1 hp))
   ·exact t2 (by decide) (sG (sG (l1 hp) (l1 hq)) (l1 hp))
 ·refine bD (by decide) (by decide) fun n a1 b1 n0 n5=>?_
  walk_at "dx"
  refine⟨by omega,by rw[bF];exact Nat.le_trans (by omega:n.toNat<=5) (by decide),?_⟩
  refine fB _ _ (fun i acc τ=>i<=5/\∃ (zs:List Str) (a' b':Int),acc=zs.map D.str/\zs.length=i/\(∀ z∈zs,z.length<=1/\As z)/\τ=[some ⟨.par,.lst [.int a',.int b']⟩,some ⟨.val,.int 6⟩,some ⟨.val,.str "abcdefghijklmnopqrstuvwxyz"⟩,none,none,none,none,none,none,none,none,none]) ⟨by omega,[],a1,b1,rfl,rfl,by simp,rfl⟩ ?_ ?_
  ·rintro i d acc τ hd ⟨_,zs,a',b',rfl,hl,hz,rfl⟩
   obtain⟨hi,rfl⟩:=fS hd
   walk_at "dx"
   refine bD (by decide) (by decide) fun e a2 b2 e0 e1=>?_
   walk_at "dx"
   refine⟨by decide,?_⟩
   obtain⟨c,hc,c1⟩:=cJ0 e0 e1
   rw[hc]
   walk_at "dx"
   refine⟨_,rfl,by omega,zs++[⟨#[c]⟩],a2,b2,by rw[List.map_append];rfl,by rw[List.length_append,hl];rfl,?_,rfl⟩
   intro z hz'
   rcases List.mem_append.mp hz' with h | h
   ·exact hz z h
   ·rw[List.mem_singleton]at h
    subst h
    exact⟨Nat.le_refl 1,aP4 c1⟩
  ·rintro acc τ ⟨h5,zs,a',b',rfl,hl,hz,rfl⟩
   have hs:=bH4 zs fun z h=>(hz z h).1
   rw[cF4]
   refine⟨by simp only[show(Str.ofString "").length=0 by decide];omega,?_⟩
   have hx:=yG (m:=128) (sep:=Str.ofString "") (by decide) zs fun z h=>(hz z h).2
   have hxl:(PySem.Txt.join (Str.ofString "") zs).length<=5:=by
    refine Nat.le_trans (cC6 _ _) ?_
    simp only[show(Str.ofString "").length=0 by decide];omega
   revert hx hxl
   generalize PySem.Txt.join (Str.ofString "") zs=x
   intro hx hxl
   have hxs:x.length<=sizeLine:=Nat.le_trans hxl (by decide)
   walk_at "dx"
   rw[pZ hxs]
   walk_at "dx"
   refine bD (by omega) (by omega) fun k1 a2 b2 k10 k11=>?_
   walk_at "dx"
   refine bD (by omega) (by omega) fun k2 a3 b3 k20 k21=>?_
   walk_at "dx"
   refine bD (by omega) (by omega) fun k3 a4 b4 k30 k31=>?_
   walk_at "dx"
   refine⟨Nat.zero_le _,?_⟩
   refine kS (fun i τ=>i<=6/\∃ (ys:List Str) (o1 o2:Option Sl),((o1=none/\o2=none)\/∃ d e,o1=some ⟨.val,d⟩/\o2=some ⟨.val,e⟩)/\ys.length=i/\(∀ (j:Nat) y,ys[j]? = some y->Tx y/\∃ t,y.cps.toList=(PySem.Txt.slice x none (some k1)).cps.toList++(97+((k2+5*(j:Int)) % 26).toNat)::t)/\τ=[some ⟨.par,.lst [.int a4,.int b4]⟩,some ⟨.val,.int 6⟩,some ⟨.val,.str "abcdefghijklmnopqrstuvwxyz"⟩,none,none,some ⟨.val,.str x⟩,some ⟨.val,.int k1⟩,some ⟨.val,.int k2⟩,some ⟨.val,.int k3⟩,some ⟨.own,.lst (ys.map D.str)⟩,o1,o2]) ⟨by omega,[],none,none,.inl ⟨rfl,rfl⟩,rfl,(fun j y h=>by simp at h),rfl⟩ ?_ ?_
   ·rintro i d τ hd ⟨_,ys,o1,o2,ho,hy,hyt,rfl⟩
    obtain⟨hi,rfl⟩:=fS hd
    have hc:=zR (e:=(k2+5*(0+(i:Int))) % 26) (Int.emod_nonneg _ (by decide)) (Int.emod_lt_of_pos _ (by decide))
    have c1:97+((k2+5*(0+(i:Int))) % 26).toNat < 128:=by
     have:=Int.emod_lt_of_pos (k2+5*(0+(i:Int))) (b:=26) (by decide)
     omega
    have l1:=slice_le x none (some k1)
    have l2:=slice_le x (some k1) none
    have g1:=aP3 (z:=x) hx none (some k1)
    have g2:=aP3 (z:=x) hx (some k1) none
    have sl:100<=sizeLine:=by decide
    have done:∀ (w:Str) (t:Str) ,(w.length<=20/\As w)->(t.length<=1/\As t)->Tx (w++t):=fun w t hw ht=>by
     have:=sG hw ht
     exact⟨by omega,this.2⟩
    have fin:∀ t:Str,(t.length<=1/\As t)->∀ (j:Nat) y,(ys++[PySem.Txt.slice x none (some k1)++⟨#[97+((k2+5*(0+(i:Int))) % 26).toNat]⟩++PySem.Txt.slice x (some k1) none++t])[j]? = some y->Tx y/\∃ t,y.cps.toList=(PySem.Txt.slice x none (some k1)).cps.toList++(97+((k2+5*(j:Int)) % 26).toNat)::t:=fun t ht j y h=>by
     by_cases hj:j < ys.length
     ·rw[List.getElem?_append_left hj]at h
      exact hyt j y h
     ·have hj':j=i:=by
       have:=(List.getElem?_eq_some_iff.mp h).1
       rw[List.length_append,List.length_singleton]at this
       omega
      subst hj'
      rw[List.getElem?_append_right (by omega),hy,Nat.sub_self]at h
      obtain rfl:=Option.some.inj h
      refine⟨done _ _ ⟨?_,bH3 (bH3 g1 (aP4 c1)) g2⟩ ht,(PySem.Txt.slice x (some k1) none).cps.toList++t.cps.toList,?_⟩
      ·rw[qL,qL,aC1];omega
      ·rw[qK,qK,qK,Int.zero_add]
       simp
    rcases ho with⟨rfl,rfl⟩ | ⟨d,e,rfl,rfl⟩
    all_goals
     walk_at "dx"
     rw[hc]
     walk_at "dx"
     have z1:=cY1 (zm2 ((0+(i:Int)) % 2=1))
     have z0:=cY1 (m:=0) (.inl rfl)
     have zi:=zm2 ((0+(i:Int)) % 2=1)
     simp only[qL,aC1]
     revert zi z1
     generalize (if(0+(i:Int)) % 2=1 then(1:Int)else 0)=zz
     intro z1 zi
     refine⟨by omega,by decide,by omega,by omega,by omega,?_⟩
     have hyl:(List.map D.str ys).length < sizeLine:=by rw[List.length_map];omega
     split
     ·exact⟨⟨by decide,by omega,by omega⟩,by omega,hyl,_,.inl rfl,by omega,ys++[_],_,_,.inr ⟨_,_,rfl,rfl⟩,by rw[List.length_append,hy];rfl,fin _ z1,by rw[List.map_append];rfl⟩
     ·exact⟨by decide,by omega,hyl,_,.inl rfl,by omega,ys++[_],_,_,.inr ⟨_,_,rfl,rfl⟩,by rw[List.length_append,hy];rfl,fin _ z0,by rw[List.map_append];rfl⟩
   ·rintro τ ⟨_,ys,o1,o2,ho,hy,hyt,rfl⟩
    rw[bF]at hy
    have hn:ys.Nodup:=bR6 fun i j y hij h1 h2=>by
     obtain⟨_,t1,e1⟩:=hyt i y h1
     obtain⟨_,t2,e2⟩:=hyt j y h2
     rw[e1]at e2
     have e3:=(List.cons.inj (List.append_cancel_left e2)).1
     have hj:=(List.getElem?_eq_some_iff.mp h2).1
     rw[hy]at hj
     have h6:j < 6:=by omega
     omega
    have hyx:∀ z∈ys,Tx z:=fun z hz=>by
     obtain⟨j,hj⟩:=List.mem_iff_getElem?.mp hz
     exact(hyt j z hj).1
    rcases ho with⟨rfl,rfl⟩ | ⟨d,e,rfl,rfl⟩
    all_goals
     walk_at "dx"
     exact k _ _ _ hy hn hyx
theorem bY8{l:List D}{K:List D->Prop}:OK1 (vZ (.tup l)) K=K l:=rfl
theorem bY9{l:List D}{K:List D->Prop}:OK1 (vZ (.lst l)) K=K l:=rfl
theorem bZ0{l:List D}{K:List D->Prop}:OK1 (dB0 (.tup l)) K=K l:=rfl
theorem bZ1{l:List D}{K:List D->Prop}:OK1 (dB0 (.lst l)) K=K l:=rfl
theorem bZ2{i:Nat}{σ:Sg}:bT [i] σ=σ.set i none:=rfl
theorem bZ3{i j:Nat}{σ:Sg}:bT [i,j] σ=(σ.set i none).set j none:=rfl
theorem cY2{i j:Nat}{σ τ:Sg}:kP [i,j] σ τ=(τ.set i (σ[i]?.getD none)).set j (σ[j]?.getD none):=rfl
def ov(b:Bool)(d:D):Option Sl:=if b=true then some ⟨.val,d⟩else none
theorem bZ4{b:Bool}{d:D}{r:Sg}{s:Sl}{K:Sg->Prop}:Dv.PK 0 (ov b d::r) s K=K (some s::r):=by cases b<;>rfl
theorem bH5{l m:List D}{K:D×D->Prop}:OK1 (bX0 (.lst l) [.lst m]) K=(l.length+m.length<=sizeLine/\K (.lst (l++m),.non)):=by
 unfold bX0
 dsimp only[cL2]
 show OK1 (if _ then _ else none) K=_
 rw[bO]
 rfl
theorem bZ5{b:MS}{Q:Out->Prop}{σ:Sg}:sqM b Q (.nx σ)=b σ Q:=rfl
theorem dI4{d:D}{r:Sg}:lendO (some 0) (some ⟨.own,d⟩::r)=some ⟨.lent,d⟩::r:=rfl
theorem dI5{d:D}{r:Sg}:lendO (some 0) (some ⟨.par,d⟩::r)=some ⟨.lent,d⟩::r:=rfl
theorem dI6{d:D}{r:Sg}:lendO (some 0) (some ⟨.val,d⟩::r)=some ⟨.val,d⟩::r:=rfl
theorem dI7{d:D}{r:Sg}:lendO (some 0) (some ⟨.lent,d⟩::r)=some ⟨.lent,d⟩::r:=rfl
theorem dI8{i:Nat}{o:Option Sl}{r:Sg}:lendO (some (i+1)) (o::r)=o::lendO (some i) r:=by
 show lend (i+1) (o::r)=o::lend i r
 unfold lend
 rw[List.getElem?_cons_succ]
 generalize r[i]? = x
 match x with
 | none=>rfl
 | some none=>rfl
 | some (some ⟨.own,_⟩)=>rfl
 | some (some ⟨.par,_⟩)=>rfl
 | some (some ⟨.val,_⟩)=>rfl
 | some (some ⟨.lent,_⟩)=>rfl
theorem dI9{d e:D}{m:Md}{r0 r:Sg}:rO (some 0) (some ⟨.own,e⟩::r0) (some ⟨m,d⟩::r)=some ⟨.own,d⟩::r:=rfl
theorem dJ0{d e:D}{m:Md}{r0 r:Sg}:rO (some 0) (some ⟨.par,e⟩::r0) (some ⟨m,d⟩::r)=some ⟨.par,d⟩::r:=rfl
theorem dJ1{d e:D}{m:Md}{r0 r:Sg}:rO (some 0) (some ⟨.val,e⟩::r0) (some ⟨m,d⟩::r)=some ⟨m,d⟩::r:=rfl
theorem dJ2{d e:D}{m:Md}{r0 r:Sg}:rO (some 0) (some ⟨.lent,e⟩::r0) (some ⟨m,d⟩::r)=some ⟨m,d⟩::r:=rfl
theorem dJ3{i:Nat}{o o':Option Sl}{r0 r:Sg}:rO (some (i+1)) (o::r0) (o'::r)=o'::rO (some i) r0 r:=by
 show unl (i+1) (o::r0) (o'::r)=o'::unl i r0 r
 unfold unl
 rw[List.getElem?_cons_succ,List.getElem?_cons_succ]
 generalize r0[i]? = x
 generalize r[i]? = y
 match x,y with
 | none,_=>rfl
 | some none,_=>rfl
 | some (some _),none=>rfl
 | some (some _),some none=>rfl
 | some (some ⟨.own,_⟩),some (some _)=>rfl
 | some (some ⟨.par,_⟩),some (some _)=>rfl
 | some (some ⟨.val,_⟩),some (some _)=>rfl
 | some (some ⟨.lent,_⟩),some (some _)=>rfl
theorem dJ4{i:Nat}{σ τ:Sg}:rP (some i) σ (.nx τ)=.nx (rO (some i) σ τ):=rfl
theorem dJ5{i:Nat}{σ τ:Sg}{x:Res}:rP (some i) σ (.rt x τ)=.rt x (rO (some i) σ τ):=rfl
local macro_rules | `(tactic| walk_at "dx")=>`(tactic| simp only[↓bZ5,↓bH5,↓bZ4,↓bY9,↓bY8,↓bZ0,↓bZ1,bZ2,bZ3,cY2,↓bH2,↓zQ,↓dA8,↓wG,↓aD0,↓wH,↓aD1,↓aD2,↓aD3,↓aD4,↓aD5,↓rS,↓aD6,↓aD7,↓aD8,↓aD9,↓aE0,↓aE1,↓aE2,↓aE3,↓pE,↓tF,↓aE4,↓rT,↓mL,↓mM,↓mO,↓aE5,↓aE6,↓bC4,↓aE7,↓aE8,↓bN7,↓aE9,↓aF0,↓aF1,↓aF2,↓aF3,↓aF4,↓tG,↓tH,↓wI,↓aF5,↓aF6,↓aF7,↓aF8,↓tJ,↓aF9,↓tK,↓aG0,↓aG1,↓aG2,↓aG3,↓aG4,↓aO1,↓aG5,↓aG6,↓aG7,↓tL,↓tM,↓aG8,↓aG9,↓aH0,↓aH1,↓aH2,↓aH3,↓aH4,↓aH5,↓aH6,↓aH7,↓bN8,↓tN,↓oH,↓tO,↓aH8,↓aH9,↓tP,↓aJ3,↓aJ4,↓aJ5,↓aJ6,↓aJ7,↓aJ8,↓aJ9,↓aK0,↓aK1,↓qA,↓bO0,↓wJ,↓pF,↓tY,↓oM,↓lR,↓aO0,↓pZ,↓uN,↓uH,↓aK2,↓tZ,↓uA,↓uB,↓aK3,↓aK4,↓aK5,↓aK6,↓aK7,↓bO1,↓bO2,↓bO3,↓bO4,↓aK8,↓aK9,↓aL0,↓uC,↓pH,↓aL1,↓uD,↓aL2,↓aL3,↓uE,↓oJ,↓aL4,↓uF,↓bO5,↓aL5,↓aL6,↓aL7,↓aL8,↓bO6,↓aM0,↓dA9,↓aM1,↓aM2,↓aL9,↓bP,aM7,aM8,aM9,bC6,bO7,Int.reducePow,Int.reduceNeg,Int.reduceLT,Int.reduceLE,Nat.reducePow,Nat.reduceLT,Int.reduceToNat,Nat.reduceLeDiff,↓aM3,↓aM4,↓aM5,↓aM6,aN2,dI4,dI5,dI6,dI7,dI8,dI9,dJ0,dJ1,dJ2,dJ3,dJ4,dJ5,aN0,bO8,aN1,↓aI1,↓aI2,↓aI3,↓aI4,↓aI5,↓aI6,↓aI7,↓aI8,↓aI9,↓tQ,↓tR,↓tS,↓tT,↓aJ0,↓aJ1,↓aJ2,tU,tV,tW,tX,cI9,List.getElem?_cons_succ,List.getElem?_cons_zero,Option.getD_some,List.set_cons_zero,List.set_cons_succ,eA,bB0,List.length_cons,List.length_nil,Nat.reduceAdd,Nat.zero_add,true_and,and_true,and_self,Bool.not_false,Bool.not_true,Bool.false_eq_true,Bool.true_and,Bool.and_true,Bool.or_false,↓reduceIte,decide_eq_true_eq])
theorem xL{α:Type}(f:α->D){l:List α}{i:Int}(h0:0<=i)(h1:i < (l.length:Int)):∃ c,atI (l.map f) i=some (f c)/\c∈l:=by
 obtain⟨c,hc⟩:=aY6 (ys:=l) h0 h1
 exact⟨c,by rw[yE,hc];rfl,bH1 hc⟩
theorem bH6{r:DT}{σ:Sg}{Q Q':Bool->Sg->Prop}(h:RT r σ Q)(w:∀ b τ,Q b τ->Q' b τ):RT r σ Q':=bZ h fun x=>w x.1 x.2
theorem bH7{r:DE}{σ:Sg}{Q Q':Res->Sg->Prop}(h:RE r σ Q)(w:∀ b τ,Q b τ->Q' b τ):RE r σ Q':=bZ h fun x=>w x.1 x.2
theorem gD{α:Type}{g:D->Sg->Option Sg}{ow:List Nat}{t:DT}{e:DE}{K:List D×Sg->Prop}(f:α->D)(u:α->D)(xs:List α){τ0:Sg}(τ:Sg)(e0:τ0=τ)
  (hs:∀ x∈xs,OK1 (g (u x) τ) fun τ1=>RT t τ1 fun b τ2=>b=true/\RE e τ2 fun r τ3=>r=.val (f x)/\bT ow τ3=τ) (k:K (xs.map f,τ)):OK1 (yZ ow g t e (xs.map u) τ0) K:=by
 subst e0
 refine fB _ _ (fun i acc τ'=>acc=(xs.take i).map f/\τ'=τ0) ⟨rfl,rfl⟩ ?_ ?_
 ·rintro i d acc τ' hd ⟨rfl,rfl⟩
  rw[List.getElem?_map]at hd
  obtain⟨x,hx,rfl⟩:=Option.map_eq_some_iff.mp hd
  refine bZ (hs x (List.mem_of_getElem? hx)) fun τ1 h1=>bH6 h1 fun b τ2 h2=>?_
  obtain⟨rfl,h2⟩:=h2
  rw[if_pos rfl]
  refine bH7 h2 fun r τ3 h3=>?_
  exact⟨_,h3.1,by rw[List.take_add_one,hx,List.map_append];rfl,h3.2⟩
 ·rintro acc τ' ⟨rfl,rfl⟩
  rw[List.length_map,List.take_length]
  exact k
theorem fL{α:Type}{g:D->Sg->Option Sg}{ow:List Nat}{t:DT}{e:DE}{K:List D×Sg->Prop}(p:α->Bool)(f:α->D)(u:α->D)(xs:List α){τ0:Sg}(τ:Sg)(e0:τ0=τ)
  (hs:∀ x∈xs,OK1 (g (u x) τ) fun τ1=>RT t τ1 fun b τ2=>b=p x/\bT ow τ2=τ/\RE e τ2 fun r τ3=>r=.val (f x)/\bT ow τ3=τ) (k:K ((xs.filter p).map f,τ)):OK1 (yZ ow g t e (xs.map u) τ0) K:=by
 subst e0
 refine fB _ _ (fun i acc τ'=>acc=((xs.take i).filter p).map f/\τ'=τ0) ⟨rfl,rfl⟩ ?_ ?_
 ·rintro i d acc τ' hd ⟨rfl,rfl⟩
  rw[List.getElem?_map]at hd
  obtain⟨x,hx,rfl⟩:=Option.map_eq_some_iff.mp hd
  refine bZ (hs x (List.mem_of_getElem? hx)) fun τ1 h1=>bH6 h1 fun b τ2 h2=>?_
  obtain⟨rfl,h2,h3⟩:=h2
  have e0:(xs.take (i+1)).filter p=(xs.take i).filter p++(if p x=true then[x]else[]):=by
   rw[List.take_add_one,hx,List.filter_append]
   cases h:p x<;>simp[h]
  by_cases hp:p x=true
  ·rw[if_pos hp]
   refine bH7 h3 fun r τ3 h4=>?_
   exact⟨_,h4.1,by rw[e0,if_pos hp,List.map_append];rfl,h4.2⟩
  ·rw[if_neg hp]
   exact⟨by rw[e0,if_neg hp,List.append_nil],h2⟩
 ·rintro acc τ' ⟨rfl,rfl⟩
  rw[List.length_map,List.take_length]
  exact k
theorem kY{α:Type}{f:α->D}{l:List α}{i:Nat}{d:D}(h:(l.map f)[i]? = some d):∃ y,l[i]? = some y/\d=f y:=by
 rw[List.getElem?_map]at h
 obtain⟨y,e,rfl⟩:=Option.map_eq_some_iff.mp h
 exact⟨y,e,rfl⟩
theorem xM{α:Type}{l:List α}{i:Nat}{y:α}(h:l[i]? = some y):l.take i++[y]=l.take (i+1):=by
 rw[List.take_add_one,h];rfl
theorem dF7{α:Type}(f:α->D)(p:α->Bool)(l:List α){ow:List Nat}{g:DG}{e:DE}{K:List D×Sg->Prop}{τ:Sg}
  (hs:∀ y∈l,OK1 (g (f y) τ) fun τ1=>RE e τ1 fun r τ3=>r=.val (.bl (p y))/\bT ow τ3=τ) (k:K ((l.map p).map D.bl,τ)):OK1 (yZ ow g iU e (l.map f) τ) K:=by
 refine fB _ _ (fun i acc τ'=>acc=((l.take i).map p).map D.bl/\τ'=τ) ⟨rfl,rfl⟩ ?_ ?_
 ·rintro i d acc τ' hd ⟨rfl,rfl⟩
  obtain⟨y,hy,rfl⟩:=kY hd
  refine bZ (hs y (List.mem_of_getElem? hy)) fun τ1 h=>?_
  rw[pE,if_pos rfl]
  refine bZ h fun r hr=>⟨_,hr.1,?_,hr.2⟩
  rw[← xM hy,List.map_append,List.map_append];rfl
 ·rintro acc τ' ⟨rfl,rfl⟩
  rw[List.length_map,List.take_length]
  exact k
theorem cY3{α:Type}(p:α->Bool)(l:List α):(l.map p).all id=l.all p:=by rw[List.all_map];rfl
theorem vA{α:Type}[DecidableEq α](f:α->D)(hf:∀ x y,f x=f y->x=y){x:α}{l:List α}:decide (f x∈l.map f)=decide (x∈l):=by
 rw[Bool.eq_iff_iff,decide_eq_true_eq,decide_eq_true_eq,List.mem_map]
 exact⟨fun⟨y,h1,h2⟩=>hf y x h2 ▸ h1,fun h=>⟨x,h,rfl⟩⟩
theorem zS(x y:Str)(h:D.str x=D.str y):x=y:=by injection h
theorem oks{n:Nat}{zs:List Str}(h:∀ z∈zs,As z):∀ d∈zs.map D.str,Ok n d:=fun d hd=>by
 obtain⟨z,hz,rfl⟩:=List.mem_map.mp hd
 exact .str (h z hz)
theorem cJ1{neg:Bool}{z:Str}{zs:List Str}(hz:As z)(h:∀ z∈zs,As z){K:Res->Prop}(k:K (.val (.bl (if neg=true then !decide (z∈zs)else decide (z∈zs))))):OK1 (inD neg (.str z) (.lst (zs.map D.str))) K:=
 zO (n:=0) (m:=0) (.str hz) (oks h) (by decide) (by decide) (by rw[vA D.str zS];exact k)
theorem bH8{neg:Bool}{z:Str}{zs:List Str}(hz:As z)(h:∀ z∈zs,As z){K:Res->Prop}(k:K (.val (.bl (if neg=true then !decide (z∈zs)else decide (z∈zs))))):OK1 (inD neg (.str z) (.tup (zs.map D.str))) K:=
 cI8 (n:=0) (m:=0) (.str hz) (oks h) (by decide) (by decide) (by rw[vA D.str zS];exact k)
def gX(qs:List (Str×List Str)):List Str:=qs.foldl (fun acc q=>acc++q.2.filter fun c=>!decide (c∈acc)) []
theorem aU0(qs:List (Str×List Str))(q:Str×List Str):gX (qs++[q])=gX qs++q.2.filter fun c=>!decide (c∈gX qs):=by
 unfold gX
 rw[List.foldl_append];rfl
def Qn(qs:List (Str×List Str)):Prop:=qs.length<=100/\∀ q∈qs,Tx q.1/\q.2.length<=100/\∀ z∈q.2,Tx z
theorem xN{qs:List (Str×List Str)}{z:Str}(h:z∈gX qs):∃ q∈qs,z∈q.2:=by
 have key:∀ (l:List (Str×List Str)) (acc:List Str),z∈l.foldl (fun acc q=>acc++q.2.filter fun c=>!decide (c∈acc)) acc->z∈acc\/∃ q∈l,z∈q.2:=by
  intro l
  induction l with
  | nil=>intro acc h;exact .inl h
  | cons q r ih=>
    intro acc h
    rcases ih _ h with h | ⟨q',h1,h2⟩
    ·rcases List.mem_append.mp h with h | h
     ·exact .inl h
     ·exact .inr ⟨q,List.mem_cons_self,(List.mem_filter.mp h).1⟩
    ·exact .inr ⟨q',List.mem_cons_of_mem _ h1,h2⟩
 rcases key qs [] h with h | h
 ·cases h
 ·exact h
theorem xO{qs:List (Str×List Str)}{n:Nat}(h:∀ q∈qs,q.2.length<=n):(gX qs).length<=qs.length*n:=by
 have key:∀ (l:List (Str×List Str)) (acc:List Str),(∀ q∈l,q.2.length<=n)->(l.foldl (fun acc q=>acc++q.2.filter fun c=>!decide (c∈acc)) acc).length<=acc.length+l.length*n:=by
  intro l
  induction l with
  | nil=>intro acc _;simp
  | cons q r ih=>
    intro acc h
    have h1:=ih (acc++q.2.filter fun c=>!decide (c∈acc)) fun x hx=>h x (List.mem_cons_of_mem _ hx)
    have h2:=h q List.mem_cons_self
    have h3:=List.length_filter_le (fun c=>!decide (c∈acc)) q.2
    rw[List.length_append]at h1
    rw[List.foldl_cons,List.length_cons,Nat.succ_mul]
    omega
 have:=key qs [] h
 rw[List.length_nil,Nat.zero_add]at this
 exact this
theorem aU1{α:Type}{l:List α}{i:Nat}{y:α}(h:l[i]? = some y):l.take (i+1)=l.take i++[y]:=(xM h).symm
theorem zT{qs:List (Str×List Str)}(hq:Qn qs){Q:Out->Prop}(k:∀ x2 x3 d2 d3,Q (.nx [some ⟨.val,qD qs⟩,some ⟨.own,.lst ((gX qs).map D.str)⟩,ov x2 d2,ov x3 d3,none])) :
  OK1 (cG3 (nP 2 (dI (dgN 2) (dI (dgN 3) mE))) (jB (vW "list" 1 bX0 (aC (eC [4] (dIt (aG 3)) (dgN 4) (gH (aU (inD true) (aG 4) (aG 1))) (dFz (aG 4))) aM))) (qs.map qP) [some ⟨.val,qD qs⟩,some ⟨.own,.lst []⟩,none,none,none]) Q:=by
 have sl:20000<=sizeLine:=by decide
 have hA:∀ i,∀ z∈gX (qs.take i),As z:=fun i z hz=>by
  obtain⟨q,h1,h2⟩:=xN hz
  exact((hq.2 q (List.mem_of_mem_take h1)).2.2 z h2).2
 have hL:∀ i,(gX (qs.take i)).length<=10000:=fun i=>by
  have h1:=xO (qs:=qs.take i) (n:=100) fun q h=>(hq.2 q (List.mem_of_mem_take h)).2.1
  have h2:=hq.1
  have h3:(qs.take i).length<=100:=by rw[List.length_take];omega
  have h4:=Nat.mul_le_mul_right 100 h3
  omega
 refine kS (fun i τ=>∃ x2 x3 d2 d3,τ=[_,some ⟨.own,.lst ((gX (qs.take i)).map D.str)⟩,ov x2 d2,ov x3 d3,none]) ⟨false,false,.non,.non,rfl⟩ ?_ ?_
 ·rintro i d τ hd ⟨x2,x3,d2,d3,rfl⟩
  obtain⟨q,hqi,rfl⟩:=kY hd
  have hqm:=hq.2 q (List.mem_of_getElem? hqi)
  walk_at "dx"
  refine⟨Nat.le_trans (by rw[List.length_map];exact hqm.2.1) (by decide),fL (fun c=>!decide (c∈gX (qs.take i))) D.str D.str q.2 [_,_,_,_,none] rfl (fun c hc=>?_) ?_⟩
  ·walk_at "dx"
   refine cJ1 (hqm.2.2 c hc).2 (hA i) ?_
   walk_at "dx"
  ·walk_at "dx"
   refine⟨by
    rw[List.length_map,List.length_map]
    have h1:=hL i
    have h2:=List.length_filter_le (fun c=>!decide (c∈gX (qs.take i))) q.2
    have h3:=hqm.2.1
    omega,_,.inl rfl,true,true,.str q.1,.tup (q.2.map D.str),?_⟩
   rw[aU1 hqi,aU0,List.map_append]
   rfl
 ·rintro τ ⟨x2,x3,d2,d3,rfl⟩
  rw[List.length_map,List.take_length]
  exact k x2 x3 d2 d3
theorem aU2{qs:List (Str×List Str)}(hq:Qn qs){K:Res->List Sl->Prop}(k:K (.val (.tup ((gX qs).map D.str))) [⟨.val,qD qs⟩]):CK cN [⟨.val,qD qs⟩] K:=by
 unfold cN
 rw[dJ]
 show RS dN [_,none,none,none,none] _
 unfold dN
 walk_at "dx"
 refine⟨Nat.zero_le _,zT hq fun x2 x3 d2 d3=>?_⟩
 walk_at "dx"
 exact k
theorem bH9{qs:List (Str×List Str)}{z:Str}:z∈gX qs↔∃ q∈qs,z∈q.2:=by
 refine⟨xN,fun⟨q,h1,h2⟩=>?_⟩
 have key:∀ (l:List (Str×List Str)) (acc:List Str),(z∈acc\/∃ q∈l,z∈q.2)->z∈l.foldl (fun acc q=>acc++q.2.filter fun c=>!decide (c∈acc)) acc:=by
  intro l
  induction l with
  | nil=>
    intro acc h
    rcases h with h | ⟨q,h,_⟩
    ·exact h
    ·cases h
  | cons q r ih=>
    intro acc h
    refine ih _ ?_
    by_cases ha:z∈acc
    ·exact .inl (List.mem_append_left _ ha)
    ·rcases h with h | ⟨q',h1,h2⟩
     ·exact absurd h ha
     ·rcases List.mem_cons.mp h1 with rfl | h1
      ·exact .inl (List.mem_append_right _ (List.mem_filter.mpr ⟨h2,by simp[ha]⟩))
      ·exact .inr ⟨q',h1,h2⟩
 exact key qs [] (.inr ⟨q,h1,h2⟩)
theorem cJ2{n:Nat}{k:Int}(h0:0<=k)(h1:k < n):ixN n k=some k.toNat:=by
 unfold ixN
 rw[if_pos h0,if_pos (by omega)]
theorem qM{P:Int->Prop}:∀ {ys:List D},(∀ y∈ys,∃ n,P n/\y=.int n)->∃ l:List Int,ys=l.map D.int/\l.length=ys.length/\∀ n∈l,P n
 | [],_=>⟨[],rfl,rfl,fun _ h=>absurd h List.not_mem_nil⟩
 | y::r,h=>by
   obtain⟨n,hn,rfl⟩:=h y List.mem_cons_self
   obtain⟨l,rfl,hl,hp⟩:=qM fun y hy=>h y (List.mem_cons_of_mem _ hy)
   exact⟨n::l,rfl,by simp,fun x hx=>by
    rcases List.mem_cons.mp hx with rfl | hx
    ·exact hn
    ·exact hp x hx⟩
theorem cJ3{n:Nat}{y:D}(h:y∈oC 0 n):∃ i:Int,(0<=i/\i < n)/\y=.int i:=by
 obtain⟨j,hj⟩:=List.mem_iff_getElem?.mp h
 obtain⟨h1,h2⟩:=fS hj
 exact⟨0+j,by omega,h2⟩
theorem cY4{n:Nat}(h:0 < n):oC 0 n≠[]:=fun z=>by have:=congrArg List.length z;rw[bF]at this;simp at this;omega
theorem okI{n:Nat}{l:List Int}:∀ d∈l.map D.int,Ok n d:=fun d hd=>by
 obtain⟨i,_,rfl⟩:=List.mem_map.mp hd
 exact .int
theorem cY5{a b m:Int}(h1:1<=m)(h6:m<=6){K:Res->List Sl->Prop}(k:∀ (l:List Int) a' b',l≠[]->l.length<=4->(∀ n∈l,0<=n/\n < m)->K (.own (.lst (l.map D.int))) [⟨.par,.lst [.int a',.int b']⟩,⟨.par,.lst (oC 0 m.toNat)⟩]) :
  CK bM [⟨.par,.lst [.int a,.int b]⟩,⟨.par,.lst (oC 0 m.toNat)⟩] K:=by
 refine zP (.inl ⟨rfl,rfl⟩) (cY4 (by omega)) (by rw[bF];omega) fun ys a' b' y0 y4 ym=>?_
 obtain⟨l,rfl,hl,hp⟩:=qM (P:=fun n=>0<=n/\n < m) fun y hy=>by
  obtain⟨i,hi,rfl⟩:=cJ3 (ym y hy)
  exact⟨i,by omega,rfl⟩
 exact k l a' b' (fun z=>y0 (by rw[z];rfl)) (by omega) hp
noncomputable def cJ4:DS:=bL (jB (kM "list" 3 aS1 (aC (dFz (dSl (aG 6) mI (dP (dC (.int 4))))) aM)))
 (jB (vW "list" 4 bX0 (aC (eC [8] (dIt (aU ixD (aG 3) (bJ7 dA4 (dC (.int 1))))) (dgN 8) (gH (aU (inD true) (aG 8) (aG 4))) (dFz (aG 8))) aM)))
abbrev plS(a b m c:Int)(ls:List (List Int))(us:List Int)(s5 s6 s7:Option Sl):Sg:=[some ⟨.par,.lst [.int a,.int b]⟩,some ⟨.val,.int m⟩,some ⟨.val,.int c⟩,some ⟨.own,xC ls⟩,some ⟨.own,.lst (us.map D.int)⟩,s5,s6,s7,none]
structure PlI(m:Int)(ls:List (List Int))(us:List Int):Prop where
 le:∀ l∈ls,l≠[]/\l.length<=4/\∀ n∈l,0<=n/\n < m
 un:us≠[]
 ul:us.length<=4*ls.length
 um:∀ n∈us,0<=n/\n < m
theorem cJ5{α:Type}(l:List α)(x:α):atI (l++[x]) (-1)=some x:=by
 unfold atI ixN
 rw[if_neg (by decide),if_pos (by rw[List.length_append,List.length_singleton];omega)]
 show(l++[x])[(-1+((l++[x]).length:Int)).toNat]? = _
 rw[show(-1+((l++[x]).length:Int)).toNat=l.length by rw[List.length_append,List.length_singleton];omega,List.getElem?_append_right (Nat.le_refl _),Nat.sub_self]
 rfl
theorem cY6{a b m c:Int}{ls:List (List Int)}{us l:List Int}{s5 s7:Option Sl}(hI:PlI m ls us)(h6:ls.length<=6)(hl:l≠[])(hm:∀ n∈l,0<=n/\n < m){Q:Out->Prop}
  (k:∀ us',PlI m (ls++[l.take 4]) us'->Q (.nx (plS a b m c (ls++[l.take 4]) us' s5 (some ⟨.own,.lst (l.map D.int)⟩) s7))):RS cJ4 (plS a b m c ls us s5 (some ⟨.own,.lst (l.map D.int)⟩) s7) Q:=by
 have sl:10000<=sizeLine:=by decide
 have hul:=hI.ul
 have l4:(l.take 4).length<=4:=by rw[List.length_take];omega
 have e1:vD (l.map D.int) none (some 4)=(l.take 4).map D.int:=by rw[kK _ (by decide),List.map_take];rfl
 have e2:ls.map (fun l=>D.lst (l.map D.int))++[D.lst ((l.take 4).map D.int)]=(ls++[l.take 4]).map (fun l=>D.lst (l.map D.int)):=by rw[List.map_append];rfl
 unfold cJ4 plS xC
 walk_at "dx"
 rw[e1]
 refine⟨by rw[List.length_map];omega,?_⟩
 rw[cJ5]
 walk_at "dx"
 refine⟨by rw[List.length_map];omega,fL (fun n=>!decide (n∈us)) D.int D.int (l.take 4) [_,_,_,_,_,_,_,_,none] rfl (fun n hn=>?_) ?_⟩
 ·walk_at "dx"
  refine zO (n:=0) (m:=0) .int okI (by decide) (by decide) ?_
  rw[vA D.int fun x y h=>by injection h]
  walk_at "dx"
 ·walk_at "dx"
  have lf:=List.length_filter_le (fun n=>!decide (n∈us)) (l.take 4)
  refine⟨by rw[List.length_map,List.length_map];omega,?_⟩
  rw[e2,← List.map_append]
  refine k _ ⟨fun x hx=>?_,fun z=>hI.un (List.append_eq_nil_iff.mp z).1,by rw[List.length_append,List.length_append,List.length_singleton];omega,fun n hn=>?_⟩
  ·rcases List.mem_append.mp hx with h | h
   ·exact hI.le x h
   ·rw[List.mem_singleton.mp h]
    refine⟨fun z=>?_,l4,fun n hn=>hm n (List.mem_of_mem_take hn)⟩
    rw[List.take_eq_nil_iff]at z
    rcases z with z | z
    ·omega
    ·exact hl z
  ·rcases List.mem_append.mp hn with h | h
   ·exact hI.um n h
   ·exact hm n (List.mem_of_mem_take (List.mem_filter.mp h).1)
theorem bR7{a b:Int}{K:Res->List Sl->Prop}(k:∀ ls a' b',dB3 ls->K (.own (xC ls)) [⟨.par,.lst [.int a',.int b']⟩]):CK bR [⟨.par,.lst [.int a,.int b]⟩] K:=by
 have sl:10000<=sizeLine:=by decide
 unfold bR
 rw[dJ]
 show RS cL [_,none,none,none,none,none,none,none,none] _
 rw[show cL=bL (bV 1 (aU eN (dC (.int 1)) (aQ 2 aE (aC (aG 0) (aC (dC (.int 6)) aM)))))
  (bL (bV 2 (aU eN (dC (.int 1)) (aQ 2 aE (aC (aG 0) (aC (dC (.int 6)) aM)))))
  (bL (lH (gH (aU (eqD false) (aQ 2 aE (aC (aG 0) (aC (dC (.int 3)) aM))) (dC (.int 0)))) (gP (eC [5] (qS (aC (aG 2) aM)) (dgN 5) iU (dFz (aQ 2 bM (aC (aG 0) (aC (dCB yY (aC (aG 1) aM)) aM)))))) gO)
  (bL (bV 3 (lF (aC (dFz (aQ 2 bM (aC (aG 0) (aC (dCB yY (aC (aG 1) aM)) aM)))) aM)))
  (bL (bV 4 (dCB pB (aC (aU ixD (aG 3) (dC (.int 0))) aM)))
  (bL (qO (qS (aC (aU dA3 (aG 2) (dC (.int 1))) aM)) (dgN 5)
  (bL (bV 6 (aQ 2 bM (aC (aG 0) (aC (aU ixD (aG 3) (aQ 2 aE (aC (aG 0) (aC (dCB jT (aC (aG 3) aM)) aM)))) aM))))
  (bL (bV 7 (eC [8] (qS (aC (aG 1) aM)) (dgN 8) (gH (aU (inD true) (aG 8) (aG 4))) (dFz (aG 8))))
  (bL (bV 6 (aU eN (dSl (aG 6) mI (dP (aQ 2 aE (aC (aG 0) (aC (aU eN (dCB jT (aC (aG 6) aM)) (dC (.int 1))) aM))))) (dSl (aG 7) mI (dP (aQ 2 aE (aC (aG 0) (aC (dC (.int 3)) aM)))))))
  (bL (lH (gH (aU (eqD false) (aG 6) (lF aM))) (bV 6 (dSl (aG 4) mI (dP (dC (.int 1))))) gO) cJ4)))))
  (gP (aG 3)))))))from rfl]
 walk_at "dx"
 refine bD (by decide) (by decide) fun m0 a1 b1 m00 m01=>?_
 walk_at "dx"
 refine bD (by decide) (by decide) fun c0 a2 b2 c00 c01=>?_
 walk_at "dx"
 refine bD (by decide) (by decide) fun w a3 b3 w0 w1=>?_
 walk_at "dx"
 generalize hm:1+m0=m
 generalize hc:1+c0=c
 split
 ·refine⟨by omega,by rw[bF];omega,fB _ _ (fun i acc τ=>∃ (ls:List (List Int)) (a' b':Int),acc=ls.map (fun l=>.lst (l.map D.int))/\ls.length=i/\(∀ l∈ls,(1<=l.length/\l.length<=4)/\∀ n∈l,0<=n/\n < 6)/\τ=[some ⟨.par,.lst [.int a',.int b']⟩,some ⟨.val,.int m⟩,some ⟨.val,.int c⟩,none,none,none,none,none,none]) ⟨[],a3,b3,rfl,rfl,fun _ h=>absurd h List.not_mem_nil,rfl⟩ ?_ ?_⟩
  ·rintro i d acc τ hd ⟨ls,a',b',rfl,hl,hls,rfl⟩
   walk_at "dx"
   refine⟨by omega,cY5 (by omega) (by omega) fun l a4 b4 l0 l4 lm=>?_⟩
   walk_at "dx"
   refine⟨_,rfl,ls++[l],a4,b4,by rw[List.map_append];rfl,by rw[List.length_append,hl];rfl,fun x hx=>?_,rfl⟩
   rcases List.mem_append.mp hx with h | h
   ·exact hls x h
   ·rw[List.mem_singleton.mp h]
    exact⟨⟨List.length_pos_iff.mpr l0,l4⟩,fun n hn=>by have:=lm n hn;omega⟩
  ·rintro acc τ ⟨ls,a',b',rfl,hl,hls,rfl⟩
   rw[bF]at hl
   walk_at "dx"
   exact k ls a' b' ⟨by omega,by omega,hls⟩
 ·refine⟨by omega,cY5 (by omega) (by omega) fun l a4 b4 l0 l4 lm=>?_⟩
  walk_at "dx"
  refine⟨by omega,by omega,kS (fun i τ=>∃ a' b' ls us x5 d5 x6 x7,ls.length=i+1/\PlI m ls us/\τ=plS a' b' m c ls us (ov x5 d5) (fo x6) (fo x7)) ⟨a4,b4,[l],l,false,.non,none,none,rfl,⟨fun x hx=>by rw[List.mem_singleton.mp hx];exact⟨l0,l4,lm⟩,l0,by simpa using l4,lm⟩,rfl⟩ ?_ ?_⟩
  ·rintro i d τ hd ⟨a',b',ls,us,x5,d5,x6,x7,hls,hI,rfl⟩
   obtain⟨hi,rfl⟩:=fS hd
   have lsl:(ls.map fun l=>D.lst (l.map D.int)).length=ls.length:=List.length_map _
   unfold plS xC
   walk_at "dx"
   refine bD (by omega) (by omega) fun j a5 b5 j0 j1=>?_
   obtain⟨l,el,hl⟩:=xL (fun l:List Int=>D.lst (l.map D.int)) (l:=ls) (i:=j) j0 (by omega)
   obtain⟨l0,l4,lm⟩:=hI.le l hl
   walk_at "dx"
   rw[el]
   walk_at "dx"
   refine zP (.inr ⟨rfl,rfl⟩) (fun z=>l0 (List.map_eq_nil_iff.mp z)) (by rw[List.length_map];omega) fun ys a6 b6 y0 y4 ym=>?_
   obtain⟨o,rfl,ho,hom⟩:=qM (P:=fun n=>0<=n/\n < m) (ys:=ys) fun y hy=>by
    obtain⟨n,hn,rfl⟩:=List.mem_map.mp (ym y hy)
    exact⟨n,lm n hn,rfl⟩
   walk_at "dx"
   refine⟨by omega,by rw[bF];omega,fL (fun n:Nat=>!decide ((0+(n:Int))∈us)) (fun n=>.int (0+(n:Int))) (fun n=>.int (0+(n:Int))) (List.range m.toNat) [_,_,_,_,_,_,_,_,none] rfl (fun n hn=>?_) ?_⟩
   ·walk_at "dx"
    refine zO (n:=0) (m:=0) .int okI (by decide) (by decide) ?_
    rw[vA D.int fun x y h=>by injection h]
    walk_at "dx"
   obtain⟨fs,ef,hf1,hf2⟩:∃ fs:List Int,((List.range m.toNat).filter fun n:Nat=>!decide ((0+(n:Int))∈us)).map (fun n:Nat=>D.int (0+(n:Int)))=fs.map D.int/\fs.length<=6/\∀ n∈fs,0<=n/\n < m:=by
    refine⟨((List.range m.toNat).filter fun n:Nat=>!decide ((0+(n:Int))∈us)).map fun n:Nat=>0+(n:Int),by rw[List.map_map];rfl,?_,fun n hn=>?_⟩
    ·rw[List.length_map]
     have:=List.length_filter_le (fun n:Nat=>!decide ((0+(n:Int))∈us)) (List.range m.toNat)
     rw[List.length_range]at this
     omega
    ·obtain⟨x,hx,rfl⟩:=List.mem_map.mp hn
     have:=List.mem_range.mp (List.mem_filter.mp hx).1
     omega
   walk_at "dx"
   rw[ef]
   have lo:(o.map D.int).length<=4:=y4
   refine bD (by omega) (by omega) fun j1 a7 b7 j10 j11=>?_
   walk_at "dx"
   refine bD (by decide) (by decide) fun j2 a8 b8 j20 j21=>?_
   walk_at "dx"
   obtain⟨p,ep,hp1,hp2⟩:∃ p:List Int,vD (o.map D.int) none (some j1)++vD (fs.map D.int) none (some j2)=p.map D.int/\p.length<=10/\∀ n∈p,0<=n/\n < m:=by
    refine⟨o.take j1.toNat++fs.take j2.toNat,by rw[kK _ j10,kK _ j20,List.map_append,List.map_take,List.map_take],?_,fun n hn=>?_⟩
    ·rw[List.length_append,List.length_take,List.length_take];rw[List.length_map]at lo;omega
    ·rcases List.mem_append.mp hn with h | h
     ·exact hom n (List.mem_of_mem_take h)
     ·exact hf2 n (List.mem_of_mem_take h)
   have ep2:=congrArg List.length ep
   rw[List.length_append,List.length_map]at ep2
   rw[ep]
   refine⟨by omega,Nat.zero_le _,cX9 (n:=0) okI (by decide) ?_⟩
   rw[List.isEmpty_map]
   walk_at "dx"
   split
   ·have e1:vD (us.map D.int) none (some 1)=(us.take 1).map D.int:=by rw[kK _ (by decide),List.map_take];rfl
    rw[e1]
    refine cY6 hI (by omega) (fun z=>?_) (fun n hn=>hI.um n (List.mem_of_mem_take hn)) fun us' hI'=>?_
    ·rw[List.take_eq_nil_iff]at z
     rcases z with z | z
     ·omega
     ·exact hI.un z
    ·exact⟨_,.inl rfl,a8,b8,_,us',true,_,some (true,_),some (true,_),by rw[List.length_append,hls];rfl,hI',rfl⟩
   ·rename_i h0
    refine cY6 hI (by omega) (fun z=>h0 (by rw[z];rfl)) hp2 fun us' hI'=>?_
    exact⟨_,.inl rfl,a8,b8,_,us',true,_,some (true,_),some (true,_),by rw[List.length_append,hls];rfl,hI',rfl⟩
  ·rintro τ ⟨a',b',ls,us,x5,d5,x6,x7,hls,hI,rfl⟩
   rw[bF]at hls
   unfold plS
   walk_at "dx"
   exact k ls a' b' ⟨by omega,by omega,fun l hl=>⟨⟨List.length_pos_iff.mpr (hI.le l hl).1,(hI.le l hl).2.1⟩,fun n hn=>by have:=(hI.le l hl).2.2 n hn;omega⟩⟩
theorem bI0{as:List Sl}{K:Res->List Sl->Prop}{o:Out}(h:bJ8 as K o):dH8 as K o:=by
 cases o with
 | nx σ=>exact h
 | rt r σ=>exact kA.mp h
 | bk σ=>exact h
 | ct σ=>exact h
 | ex c f σ=>exact h
noncomputable def cJ6:DS:=bL (bV 5 (lF aM))
 (bL (qO (aS7 (aQ 2 aW (aC (aG 0) (aC (aG 2) aM)))) (nP 2 (dI (dgN 6) (dI (dgN 7) mE)))
 (jB (kM "list" 5 aS1 (aC (aR7 (aC (aU ixD (aG 4) (aG 6)) (aC (dCB qQ (aC (eC [8] (dIt (aQ 2 aW (aC (aG 0) (aC (aG 7) aM)))) (dgN 8) iU (aU ixD (aG 3) (aG 8))) aM)) aM))) aM))))
 (gP (dCB qQ (aC (aG 5) aM))))
noncomputable def cJ7:DS:=bL (bV 3 (aQ 2 aW (aC (aG 0) (aC (aQ 2 cH (aC (aG 0) (aC (dC (.int 6)) aM))) aM))))
 (bL (bV 4 (dFz (aG 3)))
 (bL (lH (gH (aU gtI (aQ 2 aE (aC (aG 0) (aC (dC (.int 4)) aM))) (dC (.int 0)))) (bV 4 (aQ 2 cH (aC (aG 0) (aC (dC (.int 6)) aM)))) gO) cJ6))
structure Qw(qs:List (Str×List Str)):Prop where
 l1:1<=qs.length
 l6:qs.length<=6
 qn:Qn qs
 nd:(qs.map Prod.fst).Nodup
 ne:∀ q∈qs,1<=q.2.length/\q.2.length<=4
theorem aP6{P:List Int->Prop}:∀ {ys:List D},(∀ y∈ys,∃ l,P l/\y=.lst (l.map D.int))->∃ ls:List (List Int),ys=ls.map (fun l=>.lst (l.map D.int))/\ls.length=ys.length/\∀ l∈ls,P l
 | [],_=>⟨[],rfl,rfl,fun _ h=>absurd h List.not_mem_nil⟩
 | y::r,h=>by
   obtain⟨n,hn,rfl⟩:=h y List.mem_cons_self
   obtain⟨l,rfl,hl,hp⟩:=aP6 fun y hy=>h y (List.mem_cons_of_mem _ hy)
   exact⟨n::l,rfl,by simp,fun x hx=>by
    rcases List.mem_cons.mp hx with rfl | hx
    ·exact hn
    ·exact hp x hx⟩
theorem bI1{P:Str->Prop}:∀ {ys:List D},(∀ y∈ys,∃ z,P z/\y=.str z)->∃ l:List Str,ys=l.map D.str/\∀ z∈l,P z
 | [],_=>⟨[],rfl,by simp⟩
 | y::r,h=>by
   obtain⟨z,hz,rfl⟩:=h y List.mem_cons_self
   obtain⟨l,rfl,hl⟩:=bI1 fun y hy=>h y (List.mem_cons_of_mem _ hy)
   exact⟨z::l,rfl,fun x hx=>by
    rcases List.mem_cons.mp hx with rfl | hx
    ·exact hz
    ·exact hl x hx⟩
theorem cY7{a b a0 b0 w:Int}{ls:List (List Int)}{cs ts:List Str}{m:Md}(hm:m=.val\/m=.own)(hs:dB3 ls)(hc:cs.length=6)(hct:∀ z∈cs,Tx z)(ht:ts.length=6)(htt:∀ z∈ts,Tx z)(htn:ts.Nodup){K:Res->List Sl->Prop}
  (k:∀ qs a' b',Qw qs->K (.val (qD qs)) [⟨.par,.lst [.int a',.int b']⟩]) :
  RS cJ6 [some ⟨.par,.lst [.int a,.int b]⟩,some ⟨.val,.int w⟩,some ⟨.own,xC ls⟩,some ⟨.val,.lst (cs.map D.str)⟩,some ⟨m,.lst (ts.map D.str)⟩,none,none,none,none] (bJ8 [⟨.par,.lst [.int a0,.int b0]⟩] K):=by
 have sl:10000<=sizeLine:=by decide
 obtain⟨s1,s6,sm⟩:=hs
 unfold cJ6 xC
 rcases hm with rfl | rfl
 all_goals
  walk_at "dx"
  refine⟨Nat.zero_le _,by decide,qJ (xs:=ls.map fun l=>D.lst (l.map D.int)) (.inl ⟨rfl,rfl⟩) (by rw[List.length_map];omega) fun ys a1 b1 hp=>?_⟩
  obtain⟨ms,rfl,hml,hmm⟩:=aP6 (P:=fun l=>(1<=l.length/\l.length<=4)/\∀ n∈l,0<=n/\n < 6) (ys:=ys) fun y hy=>by
   obtain⟨l,hl,rfl⟩:=List.mem_map.mp (hp.mem_iff.mp hy)
   exact⟨l,sm l hl,rfl⟩
  have hl6:=hp.length_eq
  rw[List.length_map,List.length_map]at hl6
  walk_at "dx"
  refine kS (fun i τ=>i<=6/\∃ a' b' x6 d6 x7 d7,∃ qs:List (Str×List Str),qs.map Prod.fst=ts.take i/\(∀ q∈qs,(1<=q.2.length/\q.2.length<=4)/\∀ z∈q.2,Tx z)/\τ=[some ⟨.par,.lst [.int a',.int b']⟩,_,_,_,_,some ⟨.own,.lst (qs.map qP)⟩,ov x6 d6,ov x7 d7,none]) ⟨by omega,a1,b1,false,.non,false,.non,[],rfl,fun _ h=>absurd h List.not_mem_nil,rfl⟩ ?_ ?_
  ·rintro i d τ hd ⟨hi6,a',b',x6,d6,x7,d7,qs,hqf,hqc,rfl⟩
   obtain⟨y,hy,rfl⟩:=fX hd
   obtain⟨l,hli,rfl⟩:=kY hy
   have him:i < ms.length:=(List.getElem?_eq_some_iff.mp hli).1
   obtain⟨hl6',hln⟩:=hmm l (List.mem_of_getElem? hli)
   have hql:qs.length=i:=by
    have:=congrArg List.length hqf
    rw[List.length_map,List.length_take]at this
    omega
   have eti:ts[i]? = some ts[i]:=List.getElem?_eq_getElem (by omega)
   have eat:atI (ts.map D.str) (((0+i:Nat):Int))=some (.str ts[i]):=by
    unfold atI
    rw[cJ2 (by omega) (by rw[List.length_map];omega)]
    show(ts.map D.str)[((0+i:Nat):Int).toNat]? = _
    rw[Int.toNat_natCast,Nat.zero_add,List.getElem?_map,eti];rfl
   walk_at "dx"
   simp only[Nat.zero_add]at eat ⊢
   rw[eat]
   walk_at "dx"
   refine qJ (xs:=l.map D.int) (.inr (.inl ⟨rfl,rfl⟩)) (by rw[List.length_map];omega) fun zs a2 b2 hp2=>?_
   obtain⟨js,rfl,hjl,hjm⟩:=qM (P:=fun n=>0<=n/\n < 6) (ys:=zs) fun y hy=>by
    obtain⟨n,hn,rfl⟩:=List.mem_map.mp (hp2.mem_iff.mp hy)
    exact⟨n,hln n hn,rfl⟩
   have hj6:=hp2.length_eq
   rw[List.length_map,List.length_map]at hj6
   walk_at "dx"
   refine⟨by rw[List.length_map];omega,fB _ _ (fun j acc τ=>∃ us:List Str,acc=us.map D.str/\us.length=j/\(∀ z∈us,Tx z)/\τ=[some ⟨.par,.lst [.int a2,.int b2]⟩,_,_,_,_,_,_,_,none]) ⟨[],rfl,rfl,fun _ h=>absurd h List.not_mem_nil,rfl⟩ ?_ ?_⟩
   ·rintro j d acc τ hd ⟨us,rfl,hul,hut,rfl⟩
    obtain⟨n,hn,rfl⟩:=kY hd
    have hn6:=hjm n (List.mem_of_getElem? hn)
    obtain⟨c,ec,hcm⟩:=xL D.str (l:=cs) (i:=n) hn6.1 (by omega)
    walk_at "dx"
    rw[ec]
    walk_at "dx"
    refine⟨_,rfl,us++[c],by rw[List.map_append];rfl,by rw[List.length_append,hul];rfl,fun z hz=>?_⟩
    rcases List.mem_append.mp hz with h | h
    ·exact hut z h
    ·rw[List.mem_singleton.mp h];exact hct c hcm
   ·rintro acc τ ⟨us,rfl,hul,hut,rfl⟩
    rw[List.length_map]at hul
    walk_at "dx"
    refine⟨by omega,by rw[List.length_map];omega,_,.inl rfl,by omega,a2,b2,true,_,true,_,qs++[(ts[i],us)],by rw[List.map_append,hqf,List.take_add_one,eti];rfl,fun q hq=>?_,by rw[List.map_append];rfl⟩
    rcases List.mem_append.mp hq with h | h
    ·exact hqc q h
    ·rw[List.mem_singleton.mp h]
     exact⟨by show 1<=us.length/\us.length<=4;omega,hut⟩
  ·rintro τ ⟨_,a',b',x6,d6,x7,d7,qs,hqf,hqc,rfl⟩
   rw[fA,List.length_map]at hqf
   have hql:qs.length=ms.length:=by
    have:=congrArg List.length hqf
    rw[List.length_map,List.length_take]at this
    omega
   walk_at "dx"
   refine k qs a' b' ⟨by omega,by omega,⟨by omega,fun q hq=>⟨htt _ ?_,by have:=(hqc q hq).1;omega,(hqc q hq).2⟩⟩,by rw[hqf];exact htn.sublist (List.take_sublist _ _),fun q hq=>(hqc q hq).1⟩
   have:q.1∈ts.take ms.length:=by rw[← hqf];exact List.mem_map_of_mem hq
   exact List.mem_of_mem_take this
theorem cY8{a b a0 b0 w:Int}{ls:List (List Int)}(hs:dB3 ls){K:Res->List Sl->Prop}(k:∀ qs a' b',Qw qs->K (.val (qD qs)) [⟨.par,.lst [.int a',.int b']⟩]) :
  RS cJ7 [some ⟨.par,.lst [.int a,.int b]⟩,some ⟨.val,.int w⟩,some ⟨.own,xC ls⟩,none,none,none,none,none,none] (bJ8 [⟨.par,.lst [.int a0,.int b0]⟩] K):=by
 unfold cJ7
 walk_at "dx"
 refine aP5 fun zs a1 b1 z6 zn zt=>?_
 walk_at "dx"
 refine qJ (xs:=zs.map D.str) (.inl ⟨rfl,rfl⟩) (by rw[List.length_map];omega) fun ys a2 b2 hp=>?_
 obtain⟨cs,rfl,hct⟩:=bI1 (P:=Tx) (ys:=ys) fun y hy=>by
  obtain⟨z,hz,rfl⟩:=List.mem_map.mp (hp.mem_iff.mp hy)
  exact⟨z,zt z hz,rfl⟩
 have hc6:=hp.length_eq
 rw[List.length_map,List.length_map,z6]at hc6
 have hcn:cs.Nodup:=by
  have:(zs.map D.str).Nodup:=List.Pairwise.map _ (fun a b n z=>n (zS _ _ z)) zn
  have:=hp.nodup_iff.mpr this
  exact List.Pairwise.of_map D.str (fun a b n z=>n (by rw[z])) this
 walk_at "dx"
 refine bD (by decide) (by decide) fun v a3 b3 v0 v1=>?_
 walk_at "dx"
 split
 ·refine aP5 fun ts a4 b4 t6 tn tt=>?_
  walk_at "dx"
  exact cY7 (.inr rfl) hs hc6 hct t6 tt tn k
 ·exact cY7 (.inl rfl) hs hc6 hct hc6 hct hcn k
theorem zU{a b:Int}{K:Res->List Sl->Prop}(k:∀ qs a' b',Qw qs->K (.val (qD qs)) [⟨.par,.lst [.int a',.int b']⟩]):cD [⟨.par,.lst [.int a,.int b]⟩] K:=by
 unfold cD cL6
 refine dU _ _ _ (fun o h=>bI0 h) ?_
 show cM [_,none,none,none,none,none,none,none,none] _
 rw[show cM=bK0 (RS (bV 1 (aQ 2 aE (aC (aG 0) (aC (dC (.int 2)) aM))))) (bK0 (mIf (gH (aU (eqD false) (aG 1) (dC (.int 0)))) (xB 2 1 cRS (aC (aG 0) aM)) (RS (bV 2 (aQ 1 bR (aC (aG 0) aM))))) (RS cJ7))from rfl]
 show RS _ _ (sqM _ _)
 walk_at "dx"
 refine bD (by decide) (by decide) fun w a1 b1 w0 w1=>?_
 walk_at "dx"
 unfold bK0 mIf
 walk_at "dx"
 split
 ·show _/\cRS _ _
  exact⟨⟨rfl,rfl⟩,a1,b1,rfl,fun ls a' b' hs=>cY8 hs k⟩
 ·refine bR7 fun ls a' b' hs=>?_
  walk_at "dx"
  exact cY8 hs k
open Sx
theorem aP7(k:List Int):∀ (l:List (List Int)),(bF4 k l).length<=l.length+1
 | []=>Nat.le_refl 1
 | x::r=>by
   have:=aP7 k r
   unfold bF4
   split
   ·simp
   ·split
    ·simp
    ·simp only[List.length_cons];omega
theorem zV:∀ (l:List (List Int)),(srt l).length<=l.length
 | []=>Nat.le_refl 0
 | k::r=>by
   have h1:=zV r
   have h2:=aP7 k (srt r)
   show(bF4 k (srt r)).length<=r.length+1
   omega
theorem cJ8{ks:List (List Int)}{n:Nat}(h:∀ k∈ks,k.length=n)(h2:2<=(srt ks).length):∀ k∈ks,k≠[]:=by
 rintro k hk rfl
 have n0:n=0:=(h [] hk).symm
 have hr:=uR ks
 match e:srt ks,h2 with
 | a::b::r,_=>
   rw[e]at hr
   have hab:=(List.pairwise_cons.mp hr).1 b List.mem_cons_self
   have ha:=h a ((kU ks a).mp (by rw[e];simp))
   have hb:=h b ((kU ks b).mp (by rw[e];simp))
   rw[List.eq_nil_of_length_eq_zero (ha.trans n0),List.eq_nil_of_length_eq_zero (hb.trans n0)]at hab
   cases hab
theorem cJ9{b:Bool}{K:Bool->Prop}:OK1 (dE0 (.bl b)) K=K b:=rfl
local macro_rules | `(tactic| walk_at "dx")=>`(tactic| simp only[↓dF5,↓cH2,↓cX0,↓cI0,↓cI3,↓cJ9,↓cW4,↓bZ5,↓bH5,↓bZ4,↓bY9,↓bY8,↓bZ0,↓bZ1,bZ2,bZ3,cY2,↓bH2,↓zQ,↓dA8,↓wG,↓aD0,↓wH,↓aD1,↓aD2,↓aD3,↓aD4,↓aD5,↓rS,↓aD6,↓aD7,↓aD8,↓aD9,↓aE0,↓aE1,↓aE2,↓aE3,↓pE,↓tF,↓aE4,↓rT,↓mL,↓mM,↓mO,↓aE5,↓aE6,↓bC4,↓aE7,↓aE8,↓bN7,↓aE9,↓aF0,↓aF1,↓aF2,↓aF3,↓aF4,↓tG,↓tH,↓wI,↓aF5,↓aF6,↓aF7,↓aF8,↓tJ,↓aF9,↓tK,↓aG0,↓aG1,↓aG2,↓aG3,↓aG4,↓aO1,↓aG5,↓aG6,↓aG7,↓tL,↓tM,↓aG8,↓aG9,↓aH0,↓aH1,↓aH2,↓aH3,↓aH4,↓aH5,↓aH6,↓aH7,↓bN8,↓tN,↓oH,↓tO,↓aH8,↓aH9,↓tP,↓aJ3,↓aJ4,↓aJ5,↓aJ6,↓aJ7,↓aJ8,↓aJ9,↓aK0,↓aK1,↓qA,↓bO0,↓wJ,↓pF,↓tY,↓oM,↓lR,↓aO0,↓pZ,↓uN,↓uH,↓aK2,↓tZ,↓uA,↓uB,↓aK3,↓aK4,↓aK5,↓aK6,↓aK7,↓bO1,↓bO2,↓bO3,↓bO4,↓aK8,↓aK9,↓aL0,↓uC,↓pH,↓aL1,↓uD,↓aL2,↓aL3,↓uE,↓oJ,↓aL4,↓uF,↓bO5,↓aL5,↓aL6,↓aL7,↓aL8,↓bO6,↓aM0,↓dA9,↓aM1,↓aM2,↓aL9,↓bP,aM7,aM8,aM9,bC6,bO7,Int.reducePow,Int.reduceNeg,Int.reduceLT,Int.reduceLE,Nat.reducePow,Nat.reduceLT,Int.reduceToNat,Nat.reduceLeDiff,↓aM3,↓aM4,↓aM5,↓aM6,aN2,dI4,dI5,dI6,dI7,dI8,dI9,dJ0,dJ1,dJ2,dJ3,dJ4,dJ5,aN0,bO8,aN1,↓aI1,↓aI2,↓aI3,↓aI4,↓aI5,↓aI6,↓aI7,↓aI8,↓aI9,↓tQ,↓tR,↓tS,↓tT,↓aJ0,↓aJ1,↓aJ2,tU,tV,tW,tX,cI9,List.getElem?_cons_succ,List.getElem?_cons_zero,Option.getD_some,List.set_cons_zero,List.set_cons_succ,eA,bB0,List.length_cons,List.length_nil,Nat.reduceAdd,Nat.zero_add,true_and,and_true,and_self,Bool.not_false,Bool.not_true,Bool.false_eq_true,Bool.true_and,Bool.and_true,Bool.or_false,↓reduceIte,decide_eq_true_eq])
def pk(cs so:List Str)(row:List Int):List Int:=so.map fun z=>row.getD (cs.idxOf z) 0
theorem bZ6{row:List Int}{n:Nat}(h:n < row.length):atI (row.map D.int) (n:Int)=some (.int (row.getD n 0)):=by
 rw[yE]
 unfold atI ixN
 rw[if_pos (by omega),if_pos (by omega)]
 simp[h]
theorem kL{α:Type}{l:List α}(h:l.length<=100):l.length<=sizeLine:=Nat.le_trans h (by decide)
theorem bZ7{cs:List Str}{z:Str}(h:z∈cs):cs.idxOf z < cs.length:=List.idxOf_lt_length_of_mem h
theorem cY9(cs so:List Str)(row:List Int):tI (pk cs so row)=.tup (so.map fun z=>.int (row.getD (cs.idxOf z) 0)):=by
 unfold tI pk
 rw[List.map_map];rfl
theorem zW{ks:List (List Int)}{n:Nat}(hk:ks.length<=60)(hr:∀ y∈ks,y.length=n):ks.length < 4000/\(srt ks).length < 64/\(2<=(srt ks).length->∀ k∈ks,k≠[]):=
 ⟨by omega,Nat.lt_of_le_of_lt (zV _) (by omega),cJ8 hr⟩
theorem bI2{cs so:List Str}{ks:List (List Int)}:∀ y∈ks.map (pk cs so),y.length=so.length:=fun y hy=>by
 obtain⟨x,_,rfl⟩:=List.mem_map.mp hy
 exact List.length_map ..
theorem bI3{cs so:List Str}(hs:∀ z∈so,z∈cs)(hl:so.length<=100){K:Res->List Sl->Prop}(k:K (.own (.lst (so.map fun z=>.int (cs.idxOf z:Nat)))) [⟨.val,.tup (cs.map D.str)⟩,⟨.par,.lst (so.map D.str)⟩]) :
  CK eK [⟨.val,.tup (cs.map D.str)⟩,⟨.par,.lst (so.map D.str)⟩] K:=by
 unfold eK
 rw[dJ]
 show RS fJ [_,_,none] _
 unfold fJ
 walk_at "dx"
 refine⟨kL (by rwa[List.length_map]),gD (fun z=>.int (cs.idxOf z:Nat)) D.str so [_,some ⟨.lent,.lst (so.map D.str)⟩,none] rfl (fun z hz=>?_) ?_⟩
 ·walk_at "dx"
  exact hs z hz
 ·walk_at "dx"
  exact k
theorem cZ0{so:List Str}{ks:List (List Int)}(h:ks.length < 4000/\(srt ks).length < 64/\(2<=(srt ks).length->∀ k∈ks,k≠[]))
  {K:Res->List Sl->Prop} (k:K (.val (.tup [.tup (so.map D.str),.tup ((srt ks).map tI)])) [⟨.par,.lst (so.map D.str)⟩,⟨.par,.lst (ks.map tI)⟩]):CK fK [⟨.par,.lst (so.map D.str)⟩,⟨.par,.lst (ks.map tI)⟩] K:=by
 unfold fK
 rw[dJ]
 show RS gC [_,_] _
 unfold gC
 walk_at "dx"
 exact⟨h,sl2,k⟩
theorem bI4{cs so:List Str}{row:List Int}(hr:row.length=cs.length)(hs:∀ z∈so,z∈cs)(hl:so.length<=100){K:Res->List Sl->Prop}(k:K (.val (tI (pk cs so row))) [⟨.val,tI row⟩,⟨.par,.lst (so.map fun z=>.int (cs.idxOf z:Nat))⟩]) :
  CK iB [⟨.val,tI row⟩,⟨.par,.lst (so.map fun z=>.int (cs.idxOf z:Nat))⟩] K:=by
 unfold iB
 rw[dJ]
 show RS jO [_,_,none] _
 unfold jO
 walk_at "dx"
 refine⟨kL (by rwa[List.length_map]),gD (fun z=>.int (row.getD (cs.idxOf z) 0)) (fun z=>.int (cs.idxOf z:Nat)) so [_,some ⟨.lent,.lst (so.map fun z=>.int (cs.idxOf z:Nat))⟩,none] rfl (fun z hz=>?_) ?_⟩
 ·walk_at "dx"
  rw[bZ6 (by rw[hr];exact bZ7 (hs z hz))]
  rfl
 ·walk_at "dx"
  rw[cY9]at k
  exact k
theorem bZ8{cs so:List Str}{ks:List (List Int)}(hr:∀ y∈ks,y.length=cs.length)(hs:∀ z∈so,z∈cs)(hl:so.length<=100)(hk:ks.length<=60)
  {K:Res->List Sl->Prop} (k:K (.val (.tup [.tup (so.map D.str),.tup ((srt (ks.map (pk cs so))).map tI)])) [⟨.val,.tup [.tup (cs.map D.str),.tup (ks.map tI)]⟩,⟨.par,.lst (so.map D.str)⟩]) :
  CK mR [⟨.val,.tup [.tup (cs.map D.str),.tup (ks.map tI)]⟩,⟨.par,.lst (so.map D.str)⟩] K:=by
 unfold mR
 rw[dJ]
 show RS xD [_,_,none,none] _
 unfold xD
 walk_at "dx"
 refine bI3 hs hl ?_
 walk_at "dx"
 refine⟨kL (by rw[List.length_map];omega),gD (fun y=>tI (pk cs so y)) tI ks [_,_,_,none] rfl (fun y hy=>?_) ?_⟩
 ·walk_at "dx"
  refine bI4 (hr y hy) hs hl ?_
  walk_at "dx"
 ·walk_at "dx"
  rw[show ks.map (fun y=>tI (pk cs so y))=(ks.map (pk cs so)).map tI by rw[List.map_map];rfl]
  refine cZ0 (zW (by rw[List.length_map];exact hk) bI2) ?_
  walk_at "dx"
  exact k
theorem zX{cs so:List Str}{ks:List (List Int)}{m n:Md}{r u:D}(hm:m=.par/\r=.lst (ks.map tI)\/m=.val/\r=.tup (ks.map tI))(hn:n=.par/\u=.lst (so.map D.str)\/n=.val/\u=.tup (so.map D.str))
  (hr:∀ y∈ks,y.length=cs.length) (hs:∀ z∈so,z∈cs) (hl:so.length<=100) (hk:ks.length<=60)
  {K:Res->List Sl->Prop} (k:K (.own (.lst ((srt (ks.map (pk cs so))).map tI))) [⟨.val,.tup (cs.map D.str)⟩,⟨m,r⟩,⟨n,u⟩]):CK cA [⟨.val,.tup (cs.map D.str)⟩,⟨m,r⟩,⟨n,u⟩] K:=by
 unfold cA
 rw[dJ]
 show RS iA [_,_,_,none,none,none,none] _
 unfold iA
 rcases hm with⟨rfl,rfl⟩ | ⟨rfl,rfl⟩<;>rcases hn with⟨rfl,rfl⟩ | ⟨rfl,rfl⟩
 all_goals
  walk_at "dx"
  refine⟨kL (by rwa[List.length_map]),gD (fun z=>.int (cs.idxOf z:Nat)) D.str so [_,_,_,none,none,none,none] rfl (fun z hz=>?_) ?_⟩
  ·walk_at "dx"
   exact hs z hz
  ·walk_at "dx"
   refine⟨kL (by rw[List.length_map];omega),gD (fun y=>tI (pk cs so y)) tI ks [_,_,_,some ⟨.own,.lst (so.map fun z=>.int (cs.idxOf z:Nat))⟩,none,none,none] rfl (fun y hy=>?_) ?_⟩
   ·walk_at "dx"
    refine⟨kL (by rwa[List.length_map]),gD (fun z=>.int (y.getD (cs.idxOf z) 0)) (fun z=>.int (cs.idxOf z:Nat)) so [_,_,_,some ⟨.lent,.lst (so.map fun z=>.int (cs.idxOf z:Nat))⟩,none,some ⟨.val,tI y⟩,none] rfl (fun z hz=>?_) ?_⟩
    ·walk_at "dx"
     rw[bZ6 (by rw[hr y hy];exact bZ7 (hs z hz))]
     rfl
    ·walk_at "dx"
     rw[cY9]
   ·walk_at "dx"
    rw[show ks.map (fun y=>tI (pk cs so y))=(ks.map (pk cs so)).map tI by rw[List.map_map];rfl]
    walk_at "dx"
    exact⟨zW (by rw[List.length_map];exact hk) bI2,k⟩
abbrev rD(rs:List (List Int)):D:=.tup (rs.map tI)
abbrev hD(hs:List (List (List Int))):D:=.tup (hs.map rD)
abbrev tD(t:List Str×List (List Int)):D:=.tup [.tup (t.1.map D.str),rD t.2]
def com(c d:List Str):List Str:=c.filter fun z=>decide (z∈d)
def agB(t u:List Str×List (List Int)):Bool:=decide (srt (t.2.map (pk t.1 (com t.1 u.1)))=srt (u.2.map (pk u.1 (com t.1 u.1))))
structure Tw(t:List Str×List (List Int)):Prop where
 cl:t.1.length<=100
 ct:∀ z∈t.1,Tx z
 rl:t.2.length<=40
 rw:∀ r∈t.2,r.length=t.1.length
theorem cK0{c d:List Str}:∀ z∈com c d,z∈c:=fun z hz=>(List.mem_filter.mp hz).1
theorem cZ1{c d:List Str}:∀ z∈com c d,z∈d:=fun z hz=>by simpa using(List.mem_filter.mp hz).2
theorem bI5{c d:List Str}:(com c d).length<=c.length:=List.length_filter_le _ _
theorem cZ2(x y:List Int)(h:tI x=tI y):x=y:=by
 have h':D.tup (x.map D.int)=D.tup (y.map D.int):=h
 injection h' with h'
 exact List.map_inj_right (fun a b e=>by injection e) |>.mp h'
theorem dF8{n:Nat}{k:List Int}:Ok (n+1) (tI k):=.tup okI
theorem cK1{rs:List (List Int)}:∀ d∈rs.map tI,Ok 1 d:=fun d hd=>by
 obtain⟨k,_,rfl⟩:=List.mem_map.mp hd
 exact dF8
theorem bI6{x y:List (List Int)}:(x.map tI=y.map tI)↔x=y:=List.map_inj_right (fun a b e=>cZ2 a b e)
theorem bI7{t u:List Str×List (List Int)}(ht:Tw t)(hu:Tw u){K:Res->List Sl->Prop}(k:K (.own (.lst ((com t.1 u.1).map D.str))) [⟨.val,tD t⟩,⟨.val,tD u⟩]):CK cI [⟨.val,tD t⟩,⟨.val,tD u⟩] K:=by
 have hl:=ht.cl
 unfold cI
 rw[dJ]
 show RS cO [_,_,none] _
 unfold cO
 walk_at "dx"
 refine⟨kL (by rwa[List.length_map]),fL (fun z=>decide (z∈u.1)) D.str D.str t.1 [_,_,none] rfl (fun z hz=>?_) ?_⟩
 ·walk_at "dx"
  refine bH8 (ht.ct z hz).2 (fun z h=>(hu.ct z h).2) ?_
  walk_at "dx"
 ·walk_at "dx"
  exact k
theorem cK2{t u:List Str×List (List Int)}(ht:Tw t)(hu:Tw u){K:Res->List Sl->Prop}(k:K (.val (.bl (agB t u))) [⟨.val,tD t⟩,⟨.val,tD u⟩]):CK dQ [⟨.val,tD t⟩,⟨.val,tD u⟩] K:=by
 have cl:=bI5 (c:=t.1) (d:=u.1)
 have tl:=ht.cl
 have t40:=ht.rl
 have u40:=hu.rl
 unfold dQ
 rw[dJ]
 show RS eL [_,_,none] _
 unfold eL
 walk_at "dx"
 refine bI7 ht hu ?_
 walk_at "dx"
 refine bZ8 ht.rw cK0 (by omega) (by omega) ?_
 walk_at "dx"
 refine bZ8 hu.rw cZ1 (by omega) (by omega) ?_
 walk_at "dx"
 have ok:∀ rs:List (List Int),Ok 3 (.tup [.tup ((com t.1 u.1).map D.str),.tup (rs.map tI)]):=fun rs=>.tup fun d hd=>by
  simp only[List.mem_cons,List.not_mem_nil,or_false]at hd
  rcases hd with rfl | rfl
  ·exact .tup (oks fun z hz=>(ht.ct z (cK0 z hz)).2)
  ·exact .tup cK1
 refine bG9 (ok _) (ok _) (by decide) (by decide) ?_
 rw[show decide (D.tup [.tup ((com t.1 u.1).map D.str),.tup ((srt (t.2.map (pk t.1 (com t.1 u.1)))).map tI)]=D.tup [.tup ((com t.1 u.1).map D.str),.tup ((srt (u.2.map (pk u.1 (com t.1 u.1)))).map tI)])=agB t u by
  unfold agB
  rw[Bool.eq_iff_iff,decide_eq_true_eq,decide_eq_true_eq,← bI6]
  simp]
 walk_at "dx"
 exact k
def tbs(qs:List (Str×List Str))(hs:List (List (List Int))):List (List Str×List (List Int)):=(qs.zip hs).map fun p=>(p.1.2,p.2)
theorem bI8{qs:List (Str×List Str)}{hs:List (List (List Int))}(h:hs.length=qs.length):(tbs qs hs).length=qs.length:=by
 unfold tbs
 rw[List.length_map,List.length_zip,h,Nat.min_self]
theorem bI9{qs:List (Str×List Str)}{hs:List (List (List Int))}{i:Nat}{q:Str×List Str}{r:List (List Int)}(h1:qs[i]? = some q)(h2:hs[i]? = some r):(tbs qs hs)[i]? = some (q.2,r):=by
 unfold tbs
 rw[List.getElem?_map,(List.getElem?_zip_eq_some (z:=(q,r))).mpr ⟨h1,h2⟩];rfl
theorem cZ3:∀ (qs:List (Str×List Str)) (hs:List (List (List Int))),xU (qs.map qP) (hs.map rD)=(qs.zip hs).map fun p=>.tup [qP p.1,rD p.2]
 | [],_=>by simp[xU]
 | _::_,[]=>by simp[xU]
 | q::qs,r::hs=>by
   show D.tup [qP q,rD r]::xU (qs.map qP) (hs.map rD)=_
   rw[cZ3 qs hs];rfl
theorem bJ0{qs:List (Str×List Str)}{hs:List (List (List Int))}(hl:hs.length=qs.length)(h6:qs.length<=100){K:Res->List Sl->Prop}(k:K (.own (.lst ((tbs qs hs).map tD))) [⟨.val,qD qs⟩,⟨.val,hD hs⟩]) :
  CK eJ [⟨.val,qD qs⟩,⟨.val,hD hs⟩] K:=by
 unfold eJ
 rw[dJ]
 show RS fH [_,_,none,none] _
 unfold fH
 walk_at "dx"
 rw[cZ3]
 refine⟨by rw[List.length_map,List.length_map,hl],kL (by rw[List.length_map,List.length_zip];omega),gD (fun p=>tD (p.1.2,p.2)) (fun p=>.tup [qP p.1,rD p.2]) (qs.zip hs) [_,_,none,none] rfl (fun p hp=>?_) ?_⟩
 ·walk_at "dx"
  exact sl2
 ·walk_at "dx"
  unfold tbs at k
  rw[List.map_map]at k
  exact k
def agK(T:List (List Str×List (List Int)))(k:Nat):Bool:=match T[k]? with
 | some t=>(T.take k).all fun u=>agB t u
 | none=>true
def agA(T:List (List Str×List (List Int))):Bool:=(List.range T.length).all (agK T)
theorem xP{p:Nat->Bool}{n i:Nat}(hi:i < n)(h:p i=false):(List.range n).all p=false:=by
 rw[Bool.eq_false_iff]
 intro z
 rw[List.all_eq_true]at z
 have:=z i (List.mem_range.mpr hi)
 rw[h]at this;cases this
theorem bR8{qs:List (Str×List Str)}{hs:List (List (List Int))}(hl:hs.length=qs.length)(h6:qs.length<=100)(hw:∀ t∈tbs qs hs,Tw t){K:Res->List Sl->Prop}(k:K (.val (.bl (agA (tbs qs hs)))) [⟨.val,qD qs⟩,⟨.val,hD hs⟩]) :
  CK iC [⟨.val,qD qs⟩,⟨.val,hD hs⟩] K:=by
 have tl:=bI8 hl
 unfold iC
 rw[dJ]
 show RS lV [_,_,none,none,none,none] _
 unfold lV
 walk_at "dx"
 refine bJ0 hl h6 ?_
 walk_at "dx"
 generalize hT:tbs qs hs=T at hw k tl
 refine zA (fun i τ=>∃ x3 d3 x4 d4,(∀ j,j < i->agK T j=true)/\τ=[some ⟨.val,qD qs⟩,some ⟨.val,hD hs⟩,some ⟨.lent,.lst (T.map tD)⟩,ov x3 d3,ov x4 d4,none]) ⟨false,.non,false,.non,fun j hj=>absurd hj (Nat.not_lt_zero _),rfl⟩ ?_ ?_
 ·rintro i d τ hd ⟨x3,d3,x4,d4,hok,rfl⟩
  obtain⟨y,hy,rfl⟩:=fX hd
  obtain⟨t,ht,rfl⟩:=kY hy
  have hi:i < T.length:=(List.getElem?_eq_some_iff.mp ht).1
  have htw:=hw t (List.mem_of_getElem? ht)
  have e1:vD (T.map tD) none (some ((0+i:Nat):Int))=(T.take i).map tD:=by rw[kK _ (by omega),List.map_take,Int.toNat_natCast,Nat.zero_add]
  have ek:agK T i=(T.take i).all fun u=>agB t u:=by unfold agK;rw[ht]
  walk_at "dx"
  simp only[Nat.zero_add]at e1 ⊢
  rw[e1]
  refine⟨kL (by rw[List.length_map,List.length_take];omega),dF7 tD (fun u=>agB t u) (T.take i) (fun u hu=>?_) ?_⟩
  ·walk_at "dx"
   refine cK2 htw (hw u (List.mem_of_mem_take hu)) ?_
   walk_at "dx"
   try rfl
  ·walk_at "dx"
   rw[cY3,← ek]
   split
   ·rename_i h0
    have h0':agK T i=false:=by simpa using h0
    rw[show agA T=false from xP hi h0']at k
    exact .inr (.inl ⟨_,_,rfl,k⟩)
   ·rename_i h0
    have h0':agK T i=true:=by simpa using h0
    refine .inl ⟨_,.inl rfl,true,_,true,_,fun j hj=>?_,rfl⟩
    by_cases hji:j=i
    ·rw[hji];exact h0'
    ·exact hok j (by omega)
 ·rintro τ ⟨x3,d3,x4,d4,hok,rfl⟩
  rw[fA,List.length_map]at hok
  walk_at "dx"
  rw[show agA T=true from List.all_eq_true.mpr fun j hj=>hok j (List.mem_range.mp hj)]at k
  exact k
theorem sH{α:Type}(f:α->D){l:List α}{i:Nat}{x:α}(h:l[i]? = some x){j:Int}(hj:j=(i:Int)):atI (l.map f) j=some (f x):=by
 subst hj
 have hi:=(List.getElem?_eq_some_iff.mp h).1
 unfold atI
 rw[cJ2 (by omega) (by rw[List.length_map];omega)]
 show(l.map f)[((i:Nat):Int).toNat]? = _
 rw[Int.toNat_natCast,List.getElem?_map,h];rfl
structure Hw(qs:List (Str×List Str))(hs:List (List (List Int))):Prop where
 len:hs.length=qs.length
 row:∀ (i:Nat) q r,qs[i]? = some q->hs[i]? = some r->r.length<=40/\∀ x∈r,x.length=q.2.length
theorem Hw.tw{qs:List (Str×List Str)}{hs:List (List (List Int))}(h:Hw qs hs)(hq:Qn qs):∀ t∈tbs qs hs,Tw t:=fun t ht=>by
 unfold tbs at ht
 obtain⟨p,hp,rfl⟩:=List.mem_map.mp ht
 obtain⟨i,hi⟩:=List.mem_iff_getElem?.mp hp
 obtain⟨h1,h2⟩:=List.getElem?_zip_eq_some.mp hi
 have g:=hq.2 p.1 (List.mem_of_getElem? h1)
 obtain⟨r1,r2⟩:=h.row i _ _ h1 h2
 exact⟨g.2.1,g.2.2,r1,r2⟩
noncomputable def bJ1:DS:=qO (qS (aC (aG 2) aM)) (dgN 3)
 (bL (cT4 (nP 2 (dI (dgN 4) (dI (dgN 5) mE))) (aR7 (aC (aU ixD (aU ixD (aG 0) (aG 2)) (dC (.int 1))) (aC (aU ixD (aU ixD (aG 0) (aG 3)) (dC (.int 1))) aM))))
 (bL (bV 6 (eC [7] (dIt (aG 4)) (dgN 7) (gH (aU (inD false) (aG 7) (aG 5))) (dFz (aG 7))))
 (lH (gH (aU (eqD true) (aQ 3 cA (aC (aG 4) (aC (aU ixD (aG 1) (aG 2)) (aC (aG 6) aM)))) (aQ 3 cA (aC (aG 5) (aC (aU ixD (aG 1) (aG 3)) (aC (aG 6) aM)))))) (gP (dC (.bl false))) gO)))
abbrev lgS(qs:List (Str×List Str))(hs:List (List (List Int)))(s2:Option Sl)(x3:Bool)(d3:D)(x4:Bool)(d4:D)(x5:Bool)(d5:D)(x6:Option (Bool×D)):Sg:=[some ⟨.val,qD qs⟩,some ⟨.val,hD hs⟩,s2,ov x3 d3,ov x4 d4,ov x5 d5,fo x6,none]
theorem cZ4{t u:List Str×List (List Int)}:decide (D.lst ((srt (t.2.map (pk t.1 (com t.1 u.1)))).map tI)=D.lst ((srt (u.2.map (pk u.1 (com t.1 u.1)))).map tI))=agB t u:=by
 unfold agB
 rw[Bool.eq_iff_iff,decide_eq_true_eq,decide_eq_true_eq,← bI6]
 simp
theorem cZ5{qs:List (Str×List Str)}{hs:List (List (List Int))}{i:Nat}{ii:Int}(hii:ii=(i:Int)){q:Str×List Str}{r:List (List Int)}(hl:hs.length=qs.length)(h6:qs.length<=100)(htw:∀ t∈tbs qs hs,Tw t)(eq1:qs[i]? = some q)(eh1:hs[i]? = some r)
  {x3 x4 x5:Bool} {d3 d4 d5:D} {x6:Option (Bool×D)} {Q:Out->Prop} (k1:∀ x3 d3 x4 d4 x5 d5 x6,agK (tbs qs hs) i=true->Q (.nx (lgS qs hs (some ⟨.val,.int ii⟩) x3 d3 x4 d4 x5 d5 x6))) (k2:∀ x3 d3 x4 d4 x5 d5 x6,agK (tbs qs hs) i=false->Q (.rt (.val (.bl false)) (lgS qs hs (some ⟨.val,.int ii⟩) x3 d3 x4 d4 x5 d5 x6))) :
  RS bJ1 (lgS qs hs (some ⟨.val,.int ii⟩) x3 d3 x4 d4 x5 d5 x6) Q:=by
 have hi':=(List.getElem?_eq_some_iff.mp eq1).1
 have et:=bI9 eq1 eh1
 have tw1:=htw _ (List.mem_of_getElem? et)
 have ek:agK (tbs qs hs) i=((tbs qs hs).take i).all fun u=>agB (q.2,r) u:=by unfold agK;rw[et]
 unfold bJ1 lgS
 walk_at "dx"
 refine⟨by omega,zA (fun j τ=>∃ x3 d3 x4 d4 x5 d5 x6,(∀ j',j' < j->∀ u,(tbs qs hs)[j']? = some u->agB (q.2,r) u=true)/\τ=lgS qs hs (some ⟨.val,.int ii⟩) x3 d3 x4 d4 x5 d5 x6) ⟨x3,d3,x4,d4,x5,d5,x6,fun j hj=>absurd hj (Nat.not_lt_zero _),rfl⟩ ?_ ?_⟩
 ·rintro j d τ hd ⟨x3,d3,x4,d4,x5,d5,x6,hjk,rfl⟩
  obtain⟨hj,rfl⟩:=fS hd
  have hj':j < i:=by omega
  obtain⟨q2,eq2⟩:∃ q2,qs[j]? = some q2:=⟨_,List.getElem?_eq_getElem (by omega)⟩
  obtain⟨r2,eh2⟩:∃ r2,hs[j]? = some r2:=⟨_,List.getElem?_eq_getElem (by omega)⟩
  have et2:=bI9 eq2 eh2
  have tw2:=htw _ (List.mem_of_getElem? et2)
  have a1:=sH qP eq1 hii
  have a2:=sH qP eq2 (j:=0+(j:Int)) (by omega)
  have a3:=sH rD eh1 hii
  have a4:=sH rD eh2 (j:=0+(j:Int)) (by omega)
  have cl:=bI5 (c:=q.2) (d:=q2.2)
  have t1:=tw1.cl
  have t40:=tw1.rl
  have u40:=tw2.rl
  unfold lgS
  walk_at "dx"
  rw[a1]
  walk_at "dx"
  rw[a2]
  walk_at "dx"
  refine⟨sl2,kL (by rw[List.length_map];exact t1),fL (fun z=>decide (z∈q2.2)) D.str D.str q.2 [_,_,_,_,_,_,_,none] rfl (fun z hz=>?_) ?_⟩
  ·walk_at "dx"
   refine bH8 (tw1.ct z hz).2 (fun z h=>(tw2.ct z h).2) ?_
   walk_at "dx"
  walk_at "dx"
  rw[a3]
  walk_at "dx"
  refine zX (so:=com q.2 q2.2) (.inr ⟨rfl,rfl⟩) (.inl ⟨rfl,rfl⟩) tw1.rw cK0 (Nat.le_trans cl t1) (Nat.le_trans t40 (by decide)) ?_
  walk_at "dx"
  rw[a4]
  walk_at "dx"
  refine zX (so:=com q.2 q2.2) (.inr ⟨rfl,rfl⟩) (.inl ⟨rfl,rfl⟩) tw2.rw cZ1 (Nat.le_trans cl t1) (Nat.le_trans u40 (by decide)) ?_
  walk_at "dx"
  refine bG9 (n:=2) (m:=2) (.lst cK1) (.lst cK1) (by decide) (by decide) ?_
  rw[cZ4 (t:=(q.2,r)) (u:=(q2.2,r2))]
  walk_at "dx"
  split
  ·rename_i h0
   have h0':agB (q.2,r) (q2.2,r2)=false:=by simpa using h0
   have hki:agK (tbs qs hs) i=false:=by
    rw[ek,Bool.eq_false_iff]
    intro z
    rw[List.all_eq_true]at z
    have:=z _ (List.mem_of_getElem? (l:=(tbs qs hs).take i) (i:=j) (by rw[List.getElem?_take_of_lt hj'];exact et2))
    rw[h0']at this;cases this
   exact .inr (.inl ⟨_,_,rfl,k2 true _ true _ true _ (some (true,_)) hki⟩)
  ·rename_i h0
   have h0':agB (q.2,r) (q2.2,r2)=true:=by simpa using h0
   refine .inl ⟨_,.inl rfl,true,_,true,_,true,_,some (true,_),fun j' hj2 u hu=>?_,rfl⟩
   by_cases hjj:j'=j
   ·rw[hjj,et2]at hu;cases hu;exact h0'
   ·exact hjk j' (by omega) u hu
 ·rintro τ ⟨x3,d3,x4,d4,x5,d5,x6,hjk,rfl⟩
  rw[bF]at hjk
  refine k1 x3 d3 x4 d4 x5 d5 x6 ?_
  rw[ek,List.all_eq_true]
  intro u hu
  obtain⟨j',hj'⟩:=List.mem_iff_getElem?.mp hu
  have hlt:=(List.getElem?_eq_some_iff.mp hj').1
  rw[List.length_take]at hlt
  rw[List.getElem?_take_of_lt (by omega)]at hj'
  exact hjk j' (by omega) u hj'
theorem dL9{l:List D}{n:Int}(hn:n=(l.length:Int)){K:Res->Prop}:OK1 (jT [.tup l]) K=K (.val (.int n)):=by
 subst hn;exact pH
theorem cK3{l:List D}{n:Int}(hn:n=(l.length:Int)){r:Sg}{K:List D->Option Nat->Sg->Prop}:RI (qS (aC (dCB jT (aC (aG 0) aM)) aM)) (some ⟨.val,.tup l⟩::r) K=((-(2 ^ 62)<=n/\n < 2 ^ 62)/\K (oC 0 n.toNat) none (some ⟨.val,.tup l⟩::r)):=by
 rw[wJ,mL,bC4,mL,wG,wH,rT,mO,rS,mM,dL9 hn,rT,mO,rS,mM,pF]
theorem aU3{qs:List (Str×List Str)}{hs:List (List (List Int))}(n:Int)(hn:n=(qs.length:Int))(hq:Qn qs)(hh:Hw qs hs){K:Res->List Sl->Prop}(k:K (.val (.bl (agA (tbs qs hs)))) [⟨.val,qD qs⟩,⟨.val,hD hs⟩]) :
  CK cT [⟨.val,qD qs⟩,⟨.val,hD hs⟩] K:=by
 have hl:=hh.len
 have tl:=bI8 hl
 have h6:=hq.1
 have lq:(qs.map qP).length=qs.length:=List.length_map _
 unfold cT
 rw[dJ]
 show RS fG [_,_,none,none,none,none,none,none] _
 rw[show fG=bL (qO (qS (aC (dCB jT (aC (aG 0) aM)) aM)) (dgN 2) bJ1) (gP (dC (.bl true)))from rfl]
 simp only[↓wI,↓qA]
 rw[cK3 (hn.trans (congrArg Nat.cast lq.symm))]
 refine⟨by omega,zA (fun i τ=>∃ x2 d2 x3 d3 x4 d4 x5 d5 x6,(∀ j,j < i->agK (tbs qs hs) j=true)/\τ=lgS qs hs (ov x2 d2) x3 d3 x4 d4 x5 d5 x6) ⟨false,.non,false,.non,false,.non,false,.non,none,fun j hj=>absurd hj (Nat.not_lt_zero _),rfl⟩ ?_ ?_⟩
 ·rintro i d τ hd ⟨x2,d2,x3,d3,x4,d4,x5,d5,x6,hok,rfl⟩
  obtain⟨hi,rfl⟩:=fS hd
  obtain⟨ii,hii⟩:∃ ii,0+(i:Int)=ii:=⟨_,rfl⟩
  rw[hii]
  unfold lgS
  walk_at "dx"
  have hi1:i < qs.length:=by omega
  have hi2:i < hs.length:=by omega
  refine cZ5 (i:=i) (ii:=ii) (by omega) (q:=qs[i]) (r:=hs[i]) hl h6 (hh.tw hq) (List.getElem?_eq_getElem hi1) (List.getElem?_eq_getElem hi2) (fun x3 d3 x4 d4 x5 d5 x6 hk=>?_) fun x3 d3 x4 d4 x5 d5 x6 hk=>?_
  ·refine .inl ⟨_,.inl rfl,true,_,x3,d3,x4,d4,x5,d5,x6,fun j hj=>?_,rfl⟩
   by_cases hji:j=i
   ·rw[hji];exact hk
   ·exact hok j (by omega)
  ·rw[show agA (tbs qs hs)=false from xP (by omega) hk]at k
   exact .inr (.inl ⟨_,_,rfl,k⟩)
 ·rintro τ ⟨x2,d2,x3,d3,x4,d4,x5,d5,x6,hok,rfl⟩
  rw[bF]at hok
  walk_at "dx"
  rw[show agA (tbs qs hs)=true from List.all_eq_true.mpr fun j hj=>hok j (by have:=List.mem_range.mp hj;omega)]at k
  exact k
theorem bJ2{qs:List (Str×List Str)}{hs:List (List (List Int))}(hq:Qn qs)(hh:Hw qs hs){K:Res->List Sl->Prop}(k:K (.val (.bl (agA (tbs qs hs)))) [⟨.val,qD qs⟩,⟨.val,hD hs⟩]) :
  CK cT [⟨.val,qD qs⟩,⟨.val,hD hs⟩] K:=by
 with_reducible exact aU3 _ (Eq.refl _) hq hh k
theorem bR9{a b s:Int}(h0:0 < s)(h1:s < 18446744073709551616){K:Res->List Sl->Prop}(k:∀ v a' b',K (.val (.int v)) [⟨.par,.lst [.int a',.int b']⟩,⟨.val,.int s⟩]):CK eI [⟨.par,.lst [.int a,.int b]⟩,⟨.val,.int s⟩] K:=by
 unfold eI
 rw[dJ]
 show RS fD [_,_,none] _
 unfold fD
 walk_at "dx"
 refine bD h0 h1 fun v a1 b1 v0 v1=>?_
 walk_at "dx"
 split
 ·rename_i hs
  obtain⟨c,hc⟩:=uZ (ns:=[0,1,2,10,11,12,21,101,111,112,121,211]) (i:=v) v0 (by show v < 12;omega)
  have hc':atI [D.int 0,.int 1,.int 2,.int 10,.int 11,.int 12,.int 21,.int 101,.int 111,.int 112,.int 121,.int 211] v=some (.int c):=hc
  rw[hc']
  exact⟨by decide,k _ _ _⟩
 ·exact k _ _ _
theorem nM{a b n:Int}(h0:0<=n)(h1:n<=1000){K:Res->List Sl->Prop}(k:∀ (rs:List (List Int)) a' b',rs.length<=40->(∀ r∈rs,r.length=n.toNat)->K (.own (.lst (rs.map tI))) [⟨.par,.lst [.int a',.int b']⟩,⟨.val,.int n⟩]) :
  CK bG [⟨.par,.lst [.int a,.int b]⟩,⟨.val,.int n⟩] K:=by
 have sl:10000<=sizeLine:=by decide
 unfold bG
 rw[dJ]
 show RS cW [_,_,none,none,none,none] _
 unfold cW
 walk_at "dx"
 refine⟨by decide,bD (by decide) (by decide) fun v a1 b1 v0 v1=>?_⟩
 walk_at "dx"
 obtain⟨w,hw,w0,w1⟩:∃ w:Int,atI [D.int 2,.int 3,.int 5,.int 12,.int 1000] v=some (.int w)/\0 < w/\w<=1000:=by
  obtain⟨c,hc,hm⟩:=xL D.int (l:=[2,3,5,12,1000]) (i:=v) v0 (by show v < 5;omega)
  refine⟨c,hc,?_⟩
  simp only[List.mem_cons,List.not_mem_nil,or_false]at hm
  omega
 rw[hw]
 walk_at "dx"
 refine⟨by decide,bD (by decide) (by decide) fun u a2 b2 u0 u1=>?_⟩
 walk_at "dx"
 obtain⟨t,ht,t0,t1⟩:∃ t:Int,atI [D.int 13,.int 41] u=some (.int t)/\0 < t/\t<=41:=by
  obtain⟨c,hc,hm⟩:=xL D.int (l:=[13,41]) (i:=u) u0 (by show u < 2;omega)
  refine⟨c,hc,?_⟩
  simp only[List.mem_cons,List.not_mem_nil,or_false]at hm
  omega
 rw[ht]
 walk_at "dx"
 refine bD (by omega) (by omega) fun c a3 b3 c0 c1=>?_
 walk_at "dx"
 refine⟨by omega,by rw[bF];omega,fB _ _ (fun i acc τ=>∃ (rs:List (List Int)) (a' b':Int),acc=rs.map tI/\rs.length=i/\(∀ r∈rs,r.length=n.toNat)/\τ=[some ⟨.par,.lst [.int a',.int b']⟩,_,_,_,none,none]) ⟨[],a3,b3,rfl,rfl,fun _ h=>absurd h List.not_mem_nil,rfl⟩ ?_ ?_⟩
 ·rintro i d acc τ hd ⟨rs,a',b',rfl,hl,hr,rfl⟩
  obtain⟨hi,rfl⟩:=fS hd
  walk_at "dx"
  refine⟨by omega,by rw[bF];omega,fB _ _ (fun j acc τ=>∃ (us:List Int) (a' b':Int),acc=us.map D.int/\us.length=j/\τ=[some ⟨.par,.lst [.int a',.int b']⟩,_,_,_,_,none]) ⟨[],a',b',rfl,rfl,rfl⟩ ?_ ?_⟩
  ·rintro j d acc τ hd ⟨us,a4,b4,rfl,hul,rfl⟩
   obtain⟨hj,rfl⟩:=fS hd
   walk_at "dx"
   refine bR9 w0 (by omega) fun y a5 b5=>?_
   walk_at "dx"
   exact⟨_,rfl,us++[y],a5,b5,by rw[List.map_append];rfl,by rw[List.length_append,hul];rfl,rfl⟩
  ·rintro acc τ ⟨us,a4,b4,rfl,hul,rfl⟩
   rw[bF]at hul
   walk_at "dx"
   refine⟨_,rfl,rs++[us],a4,b4,by rw[List.map_append];rfl,by rw[List.length_append,hl];rfl,fun r h=>?_,rfl⟩
   rcases List.mem_append.mp h with h | h
   ·exact hr r h
   ·rw[List.mem_singleton.mp h];exact hul
 ·rintro acc τ ⟨rs,a',b',rfl,hl,hr,rfl⟩
  rw[bF]at hl
  walk_at "dx"
  exact k rs a' b' (by omega) hr
theorem Hw.of{qs:List (Str×List Str)}{hs:List (List (List Int))}{i:Nat}(hl:hs.length=i)(h:∀ (j:Nat) q r,qs[j]? = some q->hs[j]? = some r->r.length<=40/\∀ x∈r,x.length=q.2.length){q:Str×List Str}(hq:qs[i]? = some q){t:List (List Int)}(h1:t.length<=40)(h2:∀ x∈t,x.length=q.2.length) :
  ∀ (j:Nat) q r,qs[j]? = some q->(hs++[t])[j]? = some r->r.length<=40/\∀ x∈r,x.length=q.2.length:=fun j q' r e1 e2=>by
 have hj:=(List.getElem?_eq_some_iff.mp e2).1
 rw[List.length_append,List.length_singleton]at hj
 by_cases hji:j < hs.length
 ·rw[List.getElem?_append_left hji]at e2
  exact h j q' r e1 e2
 ·have:j=hs.length:=by omega
  subst this
  subst hl
  rw[List.getElem?_append_right (Nat.le_refl _),Nat.sub_self]at e2
  cases e2
  rw[hq]at e1
  cases e1
  exact⟨h1,h2⟩
noncomputable def cK4:DS:=jB (kM "list" 5 aS1 (aC (dCB qQ (aC (aQ 3 cA (aC (aG 2) (aC (aG 3) (aC (aG 7) aM)))) aM)) aM))
theorem cZ6{s0 s1 s4 s6:Option Sl}{cs so:List Str}{rs:List (List Int)}{hs:List (List (List Int))}(hr:∀ y∈rs,y.length=cs.length)(hc:∀ z∈so,z∈cs)(hl:so.length<=100)(hk:rs.length<=40)(hh:hs.length<=100){Q:Out->Prop}
  (k:∀ t:List (List Int),t.length<=40->(∀ x∈t,x.length=so.length)->Q (.nx [s0,s1,some ⟨.val,.tup (cs.map D.str)⟩,some ⟨.own,.lst (rs.map tI)⟩,s4,some ⟨.own,.lst ((hs++[t]).map rD)⟩,s6,some ⟨.val,.tup (so.map D.str)⟩])) :
  RS cK4 [s0,s1,some ⟨.val,.tup (cs.map D.str)⟩,some ⟨.own,.lst (rs.map tI)⟩,s4,some ⟨.own,.lst (hs.map rD)⟩,s6,some ⟨.val,.tup (so.map D.str)⟩] Q:=by
 have sl:10000<=sizeLine:=by decide
 unfold cK4
 walk_at "dx"
 refine zX (.inl ⟨rfl,rfl⟩) (.inr ⟨rfl,rfl⟩) hr hc hl (by omega) ?_
 walk_at "dx"
 refine⟨by rw[List.length_map];omega,?_⟩
 have kk:=k (srt (rs.map (pk cs so))) (Nat.le_trans (zV _) (by rw[List.length_map];exact hk)) fun x hx=>bI2 x ((kU _ x).mp hx)
 rw[List.map_append]at kk
 exact kk
theorem bS0{a b:Int}{qs:List (Str×List Str)}(hq:Qw qs){K:Res->List Sl->Prop}(k:∀ hs a' b',Hw qs hs->K (.val (hD hs)) [⟨.par,.lst [.int a',.int b']⟩,⟨.val,qD qs⟩]) :
  CK dG [⟨.par,.lst [.int a,.int b]⟩,⟨.val,qD qs⟩] K:=by
 have hl6:=hq.l6
 have cl:=xO (qs:=qs) (n:=4) fun q h=>(hq.ne q h).2
 have cl':(((gX qs).map D.str).length:Int).toNat=(gX qs).length:=by rw[List.length_map,Int.toNat_natCast]
 have cc:((gX qs).map D.str).length=(gX qs).length:=List.length_map _
 unfold dG
 rw[dJ]
 show RS fE [_,_,none,none,none,none,none,none] _
 rw[show fE=bL (bV 2 (aQ 1 cN (aC (aG 1) aM)))
  (bL (bV 3 (aQ 2 bG (aC (aG 0) (aC (dCB jT (aC (aG 2) aM)) aM))))
  (bL (bV 4 (aU (eqD false) (aQ 2 aE (aC (aG 0) (aC (dC (.int 6)) aM))) (dC (.int 0))))
  (bL (bV 5 (lF aM))
  (bL (qO (dIt (aG 1)) (nP 2 (dI (dgN 6) (dI (dgN 7) mE)))
  (bL (lH (cT0 (aG 4)) (bV 3 (aQ 2 bG (aC (aG 0) (aC (dCB jT (aC (aG 2) aM)) aM)))) gO) cK4))
  (gP (dCB qQ (aC (aG 5) aM)))))))from rfl]
 walk_at "dx"
 refine aU2 hq.qn ?_
 walk_at "dx"
 refine nM (by omega) (by omega) fun rs a1 b1 rl rw0=>?_
 walk_at "dx"
 refine bD (by decide) (by decide) fun w a2 b2 w0 w1=>?_
 walk_at "dx"
 rw[cl']at rw0
 refine⟨Nat.zero_le _,kS (fun i τ=>∃ (a' b':Int) (rs:List (List Int)) (hs:List (List (List Int))) (x6:Bool) (d6:D) (x7:Bool) (d7:D),rs.length<=40/\(∀ r∈rs,r.length=(gX qs).length)/\hs.length=i/\(∀ (j:Nat) q r,qs[j]? = some q->hs[j]? = some r->r.length<=40/\∀ x∈r,x.length=q.2.length) /\
  τ=[some ⟨.par,.lst [.int a',.int b']⟩,some ⟨.val,qD qs⟩,some ⟨.val,.tup ((gX qs).map D.str)⟩,some ⟨.own,.lst (rs.map tI)⟩,_,some ⟨.own,.lst (hs.map rD)⟩,ov x6 d6,ov x7 d7]) ⟨a2,b2,rs,[],false,.non,false,.non,rl,rw0,rfl,fun j q r _ h=>by simp at h,rfl⟩ ?_ ?_⟩
 ·rintro i d τ hd ⟨a',b',rs,hs,x6,d6,x7,d7,rl,rw0,hl,hh,rfl⟩
  obtain⟨q,eq,rfl⟩:=kY hd
  have hi:=(List.getElem?_eq_some_iff.mp eq).1
  have hqm:=List.mem_of_getElem? eq
  have hsub:∀ z∈q.2,z∈gX qs:=fun z hz=>bH9.mpr ⟨q,hqm,hz⟩
  walk_at "dx"
  split
  ·refine nM (by omega) (by omega) fun rs a1 b1 rl rw0=>?_
   rw[cl']at rw0
   walk_at "dx"
   refine cZ6 rw0 hsub (Nat.le_trans (hq.ne q hqm).2 (by decide)) rl (by omega) fun t t1 t2=>?_
   exact⟨_,.inl rfl,a1,b1,rs,hs++[t],true,_,true,_,rl,rw0,by rw[List.length_append,hl];rfl,Hw.of hl hh eq t1 t2,rfl⟩
  ·refine cZ6 rw0 hsub (Nat.le_trans (hq.ne q hqm).2 (by decide)) rl (by omega) fun t t1 t2=>?_
   exact⟨_,.inl rfl,a',b',rs,hs++[t],true,_,true,_,rl,rw0,by rw[List.length_append,hl];rfl,Hw.of hl hh eq t1 t2,rfl⟩
 ·rintro τ ⟨a',b',rs,hs,x6,d6,x7,d7,rl,rw0,hl,hh,rfl⟩
  rw[List.length_map]at hl
  walk_at "dx"
  exact k hs a' b' ⟨hl,hh⟩
def Rw(n:Nat)(rs:List (List Int)):Prop:=rs.length<=40/\∀ x∈rs,x.length=n
theorem Hw.set{qs:List (Str×List Str)}{hs:List (List (List Int))}(h:Hw qs hs){i:Nat}{q:Str×List Str}(hq:qs[i]? = some q){t:List (List Int)}(ht:Rw q.2.length t):Hw qs (hs.set i t):=by
 refine⟨by rw[List.length_set];exact h.len,fun j q' r e1 e2=>?_⟩
 by_cases hji:i=j
 ·subst hji
  rw[hq]at e1
  cases e1
  have hj:=(List.getElem?_eq_some_iff.mp e2).1
  rw[List.length_set]at hj
  rw[List.getElem?_set_self hj]at e2
  cases e2
  exact ht
 ·rw[List.getElem?_set_ne hji]at e2
  exact h.row j q' r e1 e2
noncomputable def bS1:DS:=gP (aU eN (aU eN (dSl (aG 2) mI (dP (aG 3))) (aR7 (aC (dCB qQ (aC (aG 4) aM)) aM))) (dSl (aG 2) (dP (aU eN (aG 3) (dC (.int 1)))) mI))
theorem dF9{a b a0 b0 n:Int}{i:Nat}(hn:n=(i:Int)){s5 s6 s7 s8:Option Sl}{qs:List (Str×List Str)}{hs:List (List (List Int))}{t:List (List Int)}(hi:i < hs.length)(hl:hs.length<=100){K:Res->List Sl->Prop}
  (k:K (.val (hD (hs.set i t))) [⟨.par,.lst [.int a,.int b]⟩,⟨.val,qD qs⟩,⟨.val,hD hs⟩]) :
  RS bS1 [some ⟨.par,.lst [.int a,.int b]⟩,some ⟨.val,qD qs⟩,some ⟨.val,hD hs⟩,some ⟨.val,.int n⟩,some ⟨.own,.lst (t.map tI)⟩,s5,s6,s7,s8] (bJ8 [⟨.par,.lst [.int a0,.int b0]⟩,⟨.val,qD qs⟩,⟨.val,hD hs⟩] K):=by
 have sl:10000<=sizeLine:=by decide
 subst hn
 unfold bS1
 walk_at "dx"
 rw[kK _ (by omega),aP2 _ (by omega)]
 have e:(hs.map rD).take ((i:Int)).toNat++[D.tup (t.map tI)]++(hs.map rD).drop ((i:Int)+1).toNat=(hs.set i t).map rD:=by
  rw[List.set_eq_take_append_cons_drop,if_pos hi,List.map_append,List.map_cons,List.map_take,List.map_drop,Int.toNat_natCast,show((i:Int)+1).toNat=i+1 by omega,List.append_assoc];rfl
 refine⟨?_,?_,?_,?_⟩
 ·omega
 ·rw[List.length_take,List.length_map];omega
 ·rw[List.length_append,List.length_take,List.length_drop,List.length_map,List.length_singleton];omega
 ·rw[e];exact k
theorem dM0{rs:List (List Int)}{v:Int}(h0:0<=v)(h1:v < (rs.length:Int)):∃ r,atI (rs.map tI) v=some (tI r)/\r∈rs:=xL tI h0 h1
theorem dG0(rs:List (List Int))(lo hi:Option Int):∃ us:List (List Int),vD (rs.map tI) lo hi=us.map tI/\us.length<=rs.length/\∀ x∈us,x∈rs:=by
 refine⟨(rs.drop _).take _,by unfold vD;rw[List.map_take,List.map_drop],?_,fun x hx=>List.mem_of_mem_drop (List.mem_of_mem_take hx)⟩
 rw[List.length_take,List.length_drop];omega
theorem cK5{r:List Int}{i:Nat}{v:Int}:(r.map D.int).set i (.int v)=(r.set i v).map D.int:=by rw[List.map_set]
theorem Rw.ss{n:Nat}{rs:List (List Int)}(h:Rw n rs){x:List Int}(hx:x.length=n)(h1:1<=n):((rs++[x]).length < 4000/\(srt (rs++[x])).length < 64/\(2<=(srt (rs++[x])).length->∀ k∈rs++[x],k≠[]))/\Rw n ((srt (rs++[x])).take 40):=by
 have hm:∀ y∈rs++[x],y.length=n:=fun y hy=>by
  rcases List.mem_append.mp hy with h' | h'
  ·exact h.2 y h'
  ·rw[List.mem_singleton.mp h'];exact hx
 refine⟨zW (by rw[List.length_append,List.length_singleton];have:=h.1;omega) hm,by rw[List.length_take];omega,fun y hy=>hm y ((kU _ y).mp (List.mem_of_mem_take hy))⟩
theorem sI{a b:Int}{qs:List (Str×List Str)}{hs:List (List (List Int))}(hq:Qw qs)(hh:Hw qs hs){K:Res->List Sl->Prop}(k:∀ hs' a' b',Hw qs hs'->K (.val (hD hs')) [⟨.par,.lst [.int a',.int b']⟩,⟨.val,qD qs⟩,⟨.val,hD hs⟩]) :
  CK bQ [⟨.par,.lst [.int a,.int b]⟩,⟨.val,qD qs⟩,⟨.val,hD hs⟩] K:=by
 have sl:10000<=sizeLine:=by decide
 have hl6:=hq.l6
 have hl1:=hq.l1
 have hlen:=hh.len
 have hm:(hs.map rD).length=hs.length:=List.length_map _
 unfold bQ
 rw[dJ]
 show RS dO [_,_,_,none,none,none,none,none,none] _
 rw[show dO=bL (bV 3 (aQ 2 aE (aC (aG 0) (aC (dCB jT (aC (aG 2) aM)) aM))))
 (bL (bV 4 (dCB pB (aC (aU ixD (aG 2) (aG 3)) aM)))
 (bL (bV 5 (aQ 2 aE (aC (aG 0) (aC (dC (.int 6)) aM))))
 (bL (bV 6 (aQ 2 aE (aC (aG 0) (aC (aU eN (dCB jT (aC (aG 4) aM)) (dC (.int 1))) aM))))
 (bL (lH (gH (aU ltI (aG 5) (dC (.int 2)))) (bV 4 (aU eN (dSl (aG 4) mI (dP (aG 6))) (dSl (aG 4) (dP (aU eN (aG 6) (dC (.int 1)))) mI))) (lH (gH (aU ltI (aG 5) (dC (.int 4)))) (bL (bV 7 (dCB pB (aC (aU ixD (aU eN (aG 4) (lF (aC (dFz (aU cX3 (aR7 (aC (dC (.int 0)) aM)) (dCB jT (aC (aU ixD (aU ixD (aG 1) (aG 3)) (dC (.int 1))) aM)))) aM))) (aG 6)) aM)))
 (bL (bV 8 (aQ 2 aE (aC (aG 0) (aC (dCB jT (aC (aG 7) aM)) aM))))
 (bL (cE6 7 (aG 8) (aU ixD (lF (aC (dFz (aQ 2 aE (aC (aG 0) (aC (dC (.int 3)) aM)))) (aC (dFz (aQ 2 aE (aC (aG 0) (aC (dC (.int 1000)) aM)))) aM))) (aQ 2 aE (aC (aG 0) (aC (dC (.int 2)) aM)))))
 (bV 4 (dSl (dCB iK (aC (aU eN (aG 4) (lF (aC (dCB qQ (aC (aG 7) aM)) aM))) aM)) mI (dP (dC (.int 40)))))))) (lH (gH (aU (eqD false) (aG 5) (dC (.int 4)))) (bV 4 (dSl (aG 4) (dP (aG 6)) (dP (aU eN (aG 6) (dC (.int 1)))))) (bV 4 (lF aM))))) bS1))))from rfl]
 walk_at "dx"
 refine bD (by omega) (by omega) fun n a1 b1 n0 n1=>?_
 obtain⟨i,hi⟩:∃ i:Nat,n=(i:Int):=⟨n.toNat,by omega⟩
 have hih:i < hs.length:=by omega
 have eh:hs[i]? = some hs[i]:=List.getElem?_eq_getElem hih
 have eq:qs[i]? = some (qs[i]'(by omega)):=List.getElem?_eq_getElem (by omega)
 generalize hs[i]=r at eh
 generalize (qs[i]'(by omega))=q at eq
 have hr:Rw q.2.length r:=hh.row i q r eq eh
 have hqn:=hq.ne q (List.mem_of_getElem? eq)
 have fin:∀ {t:List (List Int)} {a' b':Int} {s5 s6 s7 s8:Option Sl},Rw q.2.length t->RS bS1 [some ⟨.par,.lst [.int a',.int b']⟩,some ⟨.val,qD qs⟩,some ⟨.val,hD hs⟩,some ⟨.val,.int n⟩,some ⟨.own,.lst (t.map tI)⟩,s5,s6,s7,s8] (bJ8 [⟨.par,.lst [.int a,.int b]⟩,⟨.val,qD qs⟩,⟨.val,hD hs⟩] K):=
  fun ht=>dF9 hi hih (by omega) (k _ _ _ (hh.set eq ht))
 have aq:=sH qP eq hi
 walk_at "dx"
 rw[sH rD eh hi]
 walk_at "dx"
 refine bD (by decide) (by decide) fun w a2 b2 w0 w1=>?_
 walk_at "dx"
 have hrm:(r.map tI).length=r.length:=List.length_map _
 have hr1:=hr.1
 refine bD (by omega) (by omega) fun v a3 b3 v0 v1=>?_
 walk_at "dx"
 split
 ·rw[kK _ v0,aP2 _ (by omega),← List.map_take,← List.map_drop,← List.map_append]
  refine⟨by rw[List.length_map,List.length_map,List.length_take,List.length_drop];omega,fin ⟨?_,fun x hx=>?_⟩⟩
  ·rw[List.length_append,List.length_take,List.length_drop];omega
  ·rcases List.mem_append.mp hx with h | h
   ·exact hr.2 x (List.mem_of_mem_take h)
   ·exact hr.2 x (List.mem_of_mem_drop h)
 ·split
  ·rw[aq]
   walk_at "dx"
   have qm:(q.2.map D.str).length=q.2.length:=List.length_map _
   have el:r.map tI++[D.tup (List.replicate (((q.2.map D.str).length:Nat):Int).toNat (D.int 0))]=(r++[List.replicate q.2.length 0]).map tI:=by
    rw[List.map_append,qm,Int.toNat_natCast]
    congr 1
    show _=[D.tup ((List.replicate q.2.length 0).map D.int)]
    rw[List.map_replicate]
   rw[el]
   obtain⟨x,ex,xm⟩:=dM0 (rs:=r++[List.replicate q.2.length 0]) (v:=v) v0 (by rw[List.length_append,List.length_singleton];omega)
   have xl:x.length=q.2.length:=by
    rcases List.mem_append.mp xm with h | h
    ·exact hr.2 x h
    ·rw[List.mem_singleton.mp h,List.length_replicate]
   rw[ex,show tI x=D.tup (x.map D.int)from rfl]
   refine⟨by omega,by omega,by omega,by omega,?_⟩
   walk_at "dx"
   have xm:(x.map D.int).length=x.length:=List.length_map _
   refine bD (by omega) (by omega) fun y a4 b4 y0 y1=>?_
   walk_at "dx"
   refine bD (by decide) (by decide) fun e1 a5 b5 _ _=>?_
   walk_at "dx"
   refine bD (by decide) (by decide) fun e2 a6 b6 _ _=>?_
   walk_at "dx"
   refine⟨sl2,bD (by decide) (by decide) fun u a7 b7 u0 u1=>?_⟩
   obtain⟨g,hg⟩:=uZ (ns:=[e1,e2]) (i:=u) u0 (by show u < 2;omega)
   have hg':atI [D.int e1,.int e2] u=some (.int g):=hg
   walk_at "dx"
   rw[hg']
   walk_at "dx"
   rw[cJ2 y0 y1]
   walk_at "dx"
   rw[show r.map tI++[D.tup ((x.map D.int).set y.toNat (D.int g))]=(r++[x.set y.toNat g]).map tI by rw[List.map_append,cK5];rfl]
   obtain⟨f1,f2⟩:=hr.ss (x:=x.set y.toNat g) (by rw[List.length_set];exact xl) hqn.1
   refine⟨by omega,by omega,?_⟩
   walk_at "dx"
   refine⟨f1,?_⟩
   rw[kK _ (by decide),← List.map_take]
   exact fin f2
  ·split
   ·obtain⟨us,eu,ul,um⟩:=dG0 r (some v) (some (v+1))
    rw[eu]
    exact fin ⟨by omega,fun x hx=>hr.2 x (um x hx)⟩
   ·exact⟨Nat.zero_le _,fin (t:=[]) ⟨by decide,fun _ h=>absurd h List.not_mem_nil⟩⟩
theorem bS2{b:Bool}{K:Res->List Sl->Prop}(k:K (.val (.bl true)) [⟨.val,.bl b⟩,⟨.val,.bl b⟩]):CK dH [⟨.val,.bl b⟩,⟨.val,.bl b⟩] K:=by
 unfold dH
 rw[dJ]
 show RS fF [_,_] _
 unfold fF
 walk_at "dx"
 have e:eqD false (.bl b) (.bl b)=some (.val (.bl true)):=by cases b<;>rfl
 rw[if_pos (by decide),e]
 exact k
theorem cK6{i n:Nat}{C:MC}{ra:DA}{σ:Sg}{Q:Out->Prop}:xB i n C ra σ Q=RA ra σ fun rs σ1=>AK σ1 rs fun as=>(as.length=n/\eA rs=true)/\C as fun y as'=>BK rs as' σ1 fun σ2=>PtK i y σ2 fun σ3=>Q (.nx σ3):=by
 unfold xB RA AK BK PtK
 congr 1;funext x;congr 1;funext as
 apply propext
 constructor
 ·rintro⟨h,q⟩
  simp only[bN9 h.2]at q
  exact⟨h,q⟩
 ·rintro⟨h,q⟩
  simp only[← bN9 h.2]at q
  exact⟨h,q⟩
noncomputable def cK7:DS:=bL (qO (dIt (aU eN (aG 3) (dSl (aG 3) mI (dP (dC (.int 1)))))) (dgN 7)
 (lH (cL3 (gH (aQ 2 dH (aC (aQ 2 iC (aC (aG 1) (aC (aG 7) aM))) (aC (aQ 2 cT (aC (aG 1) (aC (aG 7) aM))) aM))))) (gP (dC (.bl false))) gO))
 (gP (dC (.bl true)))
theorem dG1{s0 s2:Option Sl}{qs:List (Str×List Str)}{Ls:List (List (List (List Int)))}{x4 x6:Bool}{d4 d6:D}{x5:Option (Bool×D)}(hq:Qw qs)(hl:Ls.length<=100)(he:∀ hs∈Ls,Hw qs hs){Q:Out->Prop}
  (k:∀ σ,Q (.rt (.val (.bl true)) σ)):RS cK7 [s0,some ⟨.val,qD qs⟩,s2,some ⟨.own,.lst (Ls.map hD)⟩,ov x4 d4,fo x5,ov x6 d6,none] Q:=by
 have sl:10000<=sizeLine:=by decide
 unfold cK7
 walk_at "dx"
 have e1:vD (Ls.map hD) none (some 1)=(Ls.take 1).map hD:=by rw[kK _ (by decide),List.map_take];rfl
 rw[e1,← List.map_append]
 refine⟨by rw[List.length_map,List.length_map,List.length_take];omega,kS (fun i τ=>∃ x7 d7,τ=[_,some ⟨.val,qD qs⟩,_,_,_,_,_,ov x7 d7]) ⟨false,.non,rfl⟩ ?_ ?_⟩
 ·rintro i d τ hd ⟨x7,d7,rfl⟩
  obtain⟨hs,hes,rfl⟩:=kY hd
  have hh:Hw qs hs:=by
   rcases List.mem_append.mp (List.mem_of_getElem? hes)with h | h
   ·exact he hs h
   ·exact he hs (List.mem_of_mem_take h)
  walk_at "dx"
  refine bR8 hh.len hq.qn.1 (hh.tw hq.qn) ?_
  walk_at "dx"
  with_reducible refine bJ2 hq.qn hh ?_
  walk_at "dx"
  refine bS2 ?_
  walk_at "dx"
  exact⟨_,.inl rfl,true,_,rfl⟩
 ·rintro τ ⟨x7,d7,rfl⟩
  walk_at "dx"
  exact k _
theorem bS3(ns:List Int)(hn:ns.length<=63):qG [⟨.val,.lst (ns.map D.int)⟩] fun y _=>y=.val (.bl true):=by
 have sl:10000<=sizeLine:=by decide
 unfold qG cL6
 refine zI _ _ _ (fun o h=>bI0 h) ?_
 show sF [_,none,none,none,none,none,none,none] _
 rw[show sF=bK0 (xB 1 1 cD (aC (aQ 2 cJ (aC (aG 0) (aC (dC (.int 0)) aM))) aM))
  (RS (bL (bV 2 (aQ 2 dG (aC (aQ 2 cJ (aC (aG 0) (aC (dC (.int 1)) aM))) (aC (aG 1) aM))))
  (bL (bV 3 (lF (aC (dFz (aG 2)) aM)))
  (bL (qO (qS (aC (dC (.int 2)) (aC (dCB bB5 (aC (dC (.int 6)) (aC (dCB aS0 (aC (dC (.int 8)) (aC (dCB jT (aC (aG 0) aM)) aM))) aM))) aM))) (dgN 4)
  (bL (bV 5 (aQ 2 cJ (aC (aG 0) (aC (aG 4) aM))))
  (bL (bV 6 (aQ 3 bQ (aC (aG 5) (aC (aG 1) (aC (aG 2) aM)))))
  (bL (lH (gH (aU (eqD false) (aQ 2 aE (aC (aG 5) (aC (dC (.int 3)) aM))) (dC (.int 0)))) (bV 6 (aQ 3 bQ (aC (aG 5) (aC (aG 1) (aC (aG 6) aM))))) gO)
  (jB (kM "list" 3 aS1 (aC (dFz (aG 6)) aM))))))) cK7))))from rfl]
 unfold bK0
 rw[cK6]
 walk_at "dx"
 refine bH0 (by decide) (by decide) fun a b=>?_
 walk_at "dx"
 refine zU fun qs a1 b1 hq=>?_
 walk_at "dx"
 refine bH0 (by decide) (by decide) fun a2 b2=>?_
 walk_at "dx"
 refine bS0 hq fun hs a3 b3 hh=>?_
 walk_at "dx"
 obtain⟨c,ec,c1,c2⟩:∃ c:Int,(if(if(((ns.map D.int).length:Nat):Int) < 8 then(((ns.map D.int).length:Nat):Int)else 8) > 6 then(if(((ns.map D.int).length:Nat):Int) < 8 then(((ns.map D.int).length:Nat):Int)else 8)else 6)=c/\6<=c/\c<=8:=⟨_,rfl,by split<;>omega,by split<;>(try split)<;>omega⟩
 rw[ec]
 refine⟨by omega,by omega,kS (fun i τ=>∃ x4 d4 x5 x6 d6,∃ Ls:List (List (List (List Int))),Ls.length=i+1/\(∀ hs∈Ls,Hw qs hs)/\τ=[some ⟨.val,.lst (ns.map D.int)⟩,some ⟨.val,qD qs⟩,some ⟨.val,hD hs⟩,some ⟨.own,.lst (Ls.map hD)⟩,ov x4 d4,fo x5,ov x6 d6,none]) ⟨false,.non,none,false,.non,[hs],rfl,fun x hx=>?_,rfl⟩ ?_ ?_⟩
 ·rw[List.mem_singleton.mp hx];exact hh
 ·rintro i d τ hd ⟨x4,d4,x5,x6,d6,Ls,hL,hLe,rfl⟩
  obtain⟨hi,rfl⟩:=fS hd
  walk_at "dx"
  refine bH0 (by omega) (by omega) fun a4 b4=>?_
  walk_at "dx"
  refine sI hq hh fun h1 a5 b5 g1=>?_
  walk_at "dx"
  refine bD (by decide) (by decide) fun w a6 b6 w0 w1=>?_
  walk_at "dx"
  have lL:(Ls.map hD).length=Ls.length:=List.length_map _
  have fin:∀ h2,Hw qs h2->∀ hs∈Ls++[h2],Hw qs hs:=fun h2 h hs hes=>by
   rcases List.mem_append.mp hes with h' | h'
   ·exact hLe hs h'
   ·rw[List.mem_singleton.mp h'];exact h
  split
  ·refine sI hq g1 fun h2 a7 b7 g2=>?_
   walk_at "dx"
   exact⟨by omega,_,.inl rfl,true,_,some (true,_),true,_,Ls++[h2],by rw[List.length_append,hL];rfl,fin h2 g2,by rw[List.map_append];rfl⟩
  ·exact⟨by omega,_,.inl rfl,true,_,some (true,_),true,_,Ls++[h1],by rw[List.length_append,hL];rfl,fin h1 g1,by rw[List.map_append];rfl⟩
 ·rintro τ ⟨x4,d4,x5,x6,d6,Ls,hL,hLe,rfl⟩
  rw[bF]at hL
  walk_at "dx"
  exact dG1 hq (by omega) hLe fun σ=>rfl
end Mr
namespace Mr
open PySem L2
def xQ(H0 H:Hp)(es:List V):Prop:=∀ e∈es,∃ (w:Addr) (ns:List Int),e=.ref w/\H w=some (.lst (ns.map V.int))/\(1<=ns.length/\ns.length<=4)/\(∀ n∈ns,0<=n/\n < 6)/\H0 w=none
abbrev i6:List V:=(List.range 6).map fun(i:Nat)=>V.int (i:Int)
def qN:Sps:=fun _ vs H Q _=>∃ p q:Addr,vs=[.ref p,.ref q]/\eW H p/\H q=some (.lst i6) /\
 ∀ (r:Addr) (ns:List Int) H',H r=none->H' r=some (.lst (ns.map V.int))->(1<=ns.length/\ns.length<=4)->(∀ n∈ns,0<=n/\n < 6)->eW H' p->SameBut p H H'->Q (.ref r) H'
def iD:Sps:=fun _ vs H Q _=>∃ p:Addr,vs=[.ref p]/\eW H p /\
 ∀ (r:Addr) (es:List V) H',H r=none->H' r=some (.lst es)->1<=es.length->es.length<=6->xQ H H' es->eW H' p->SameBut p H H'->Q (.ref r) H'
theorem vB{H:Hp}{w s:Addr}{ns:List Int}{es:List V}(h:H w=some (.lst (ns.map V.int)))(h':H s=some (.lst es))(he:V.ref w∈es):w≠s:=fun z=>by
 subst z
 rw[h]at h'
 injection h' with h'
 injection h' with h'
 rw[← h']at he
 obtain⟨n,_,e⟩:=List.mem_map.mp he
 cases e
local macro_rules | `(tactic| walk_at "sx")=>`(tactic| simp only[↓bV2,↓aX7,↓bV3,↓aX9,↓bV4,↓bV5,↓aX8,↓aA7,↓aY0,↓aX2,↓aX3,↓dH1,↓cR0,↓cR1,↓bU7,↓cC1,↓cR2,↓aX4,↓cR3,↓bU8,↓cR4,↓bU9,↓aX5,↓bV0,↓aX6,↓aA6,↓bV1,↓bV6,↓aY1,↓aY2,↓cR5,↓cR6,↓vR,↓aY3,↓aY4,↓aB3,↓bV8,↓bV9,↓bW3,↓cS2,↓bW2,↓aY7,↓bW0,↓aY8,↓aA8,↓aY9,↓aZ0,↓reduceIte,↓vT,↓vU,↓aZ1,↓aZ2,↓aZ3,↓aB4,↓aZ4,↓aB5,↓cS7,dH4,List.set_cons_zero,List.set_cons_succ,Int.reducePow,Int.reduceNeg,Int.reduceLT,Int.reduceLE,Int.reduceAdd])
local macro_rules | `(tactic| walk_at "sy")=>`(tactic| simp only[↓aX7,↓bV3,↓aX9,↓bV4,↓bV5,↓aX8,↓aA7,↓aY0,↓aX2,↓aX3,↓dH1,↓cR0,↓cR1,↓bU7,↓cC1,↓cR2,↓aX4,↓cR3,↓bU8,↓cR4,↓bU9,↓aX5,↓bV0,↓aX6,↓aA6,↓bV1,↓bV6,↓aY1,↓aY2,↓cR5,↓cR6,↓vR,↓aY3,↓aY4,↓aB3,↓bV8,↓bV9,↓bW3,↓cS2,↓bW2,↓aY7,↓bW0,↓aY8,↓aA8,↓aY9,↓aZ0,↓reduceIte,↓vT,↓vU,↓aZ1,↓aZ2,↓aZ3,↓aB4,↓aZ4,↓aB5,↓cS7,dH4,List.set_cons_zero,List.set_cons_succ,Int.reducePow,Int.reduceNeg,Int.reduceLT,Int.reduceLE,Int.reduceAdd])
section
variable{P:Program}{w:World}{K:PySem.W.Frag}{mg:Str->Option Value}{base:Heap}{a:Adr}
theorem lW(T:Txt K mg a)(G_law_take:FnOk P w K mg base CX0 1 a.law_take a.fd_law_take ["_law_box_here","_law_many"] (oW K))(G_law_some:FnOk P w K mg base CX0 3 a.law_some a.fd_law_some ["_law_box_here","_law_things"] (qN K)):FnOk P w K mg base CX0 4 a.law_round_sets a.fd_law_round_sets ["_law_box_here"] (iD K):=by
 refine T.F_law_round_sets.ok hV (fun vs H Q E h=>?_) (fun cdv A outer s H vs Q E hr h=>?_)
 ·obtain⟨p,rfl,_⟩:=h
  rfl
 ·obtain⟨p,rfl,hb,k⟩:=h
  have nd:=hV.nd
  refine⟨_,(fP (vF (i:=1) nd rfl (Or.inr rfl) (aQ2 aB2 eM (aI G_law_take (hr.mono (by decide)) rfl T.m_law_take T.F_law_take.kp (aJ T) .nil aY (bI (pv 0) (bI eM eD)))))
   (fP (jQ (i:=2) nd rfl rfl (csc [4] (by kernel_rfl)) (cU rfl T.n_range (bI (pv 1) eD)) (fun _ _ _ _=>(aX (i:=4) nd rfl (Or.inl rfl) (.inr rfl))) (bC (by decide)) (fun _ _ _ _=>sO) (fun _ _ _ _=>(bT9 (bI (pv 4) (bI (aQ2 iY (aQ2 aB2 (pv 4) eM) (pv 1)) eD)))) rfl)
   (fP (aP9 (iE (aB1 hr.units) (aI G_law_take (hr.mono (by decide)) rfl T.m_law_take T.F_law_take.kp (aJ T) .nil aY (bI (pv 0) (bI eM eD))) eM (cF _)) (fP (vF (i:=1) nd rfl (Or.inr rfl) (bE (oQ rfl) (by rfl) T.n_min (uI) (bI (pv 1) (bI eM eD))))
   (iW (jQ (i:=2) nd rfl rfl (csc [5] (by kernel_rfl)) (cU rfl T.n_range (bI (pv 1) eD)) (fun _ _ _ _=>(aX (i:=5) nd rfl (Or.inr rfl) (.inl rfl))) (bC (by decide)) (fun _ _ _ _=>sO) (fun _ _ _ _=>(cZ (csc [4] (by kernel_rfl)) (cU rfl T.n_range (bI (pv 1) eD)) (fun _ _ _ _=>(aX (i:=4) nd rfl (Or.inl rfl) (.inr rfl))) (bC (by decide)) (fun _ _ _ _=>(aA4 (iE (cS5 hr.units) (pv 4) (pv 5) (cF _)))) (fun _ _ _ _=>(pv 4)))) rfl))) oN)
   (fP (iX PassesOwn.never rfl (aZ7 K rfl (pv 2)) (aX (i:=3) nd rfl (Or.inl rfl))
   (iW (aP9 (PW.pt (aU8 (iE aQ3 (pv 1) eM (cF _)) (aU8 (iE aQ3 (bE bJ (by rfl) T.n_len (bW) (bI (pv 3) eD)) eM (cF _)) (aU7 (iE (aB1 hr.units) (aI G_law_take (hr.mono (by decide)) rfl T.m_law_take T.F_law_take.kp (aJ T) .nil aY (bI (pv 0) (bI eM eD))) eM (cF _)))))) (iW (sJ (iM K rfl PySem.F.plainAttrs_list PySem.F.slot_list_append PySem.F.type_list_append eR (pv 3) (bI (aQ2 aB2 (pv 1) (aI G_law_take (hr.mono (by decide)) rfl T.m_law_take T.F_law_take.kp (aJ T) .nil aY (bI (pv 0) (bI (aQ2 bT7 eM (pv 1)) eD)))) eD)))) oN)))
   (fP (aP9 (PW.pt (aU8 (iE aQ3 (bE bJ (by rfl) T.n_len (bW) (bI (pv 2) eD)) eM (cF _)) (aU7 (iE (aB1 hr.units) (aI G_law_take (hr.mono (by decide)) rfl T.m_law_take T.F_law_take.kp (aJ T) .nil aY (bI (pv 0) (bI eM eD))) eM (cF _))))) (iW (sJ (iM K rfl PySem.F.plainAttrs_list PySem.F.slot_list_append PySem.F.type_list_append eR (pv 2) (bI (aI G_law_some (hr.mono (by decide)) rfl T.m_law_some T.F_law_some.kp (jU T) .nil aY (bI (pv 0) (bI (yF (T:="list") (U:="range") (sT rfl) (by rfl) T.n_list fY (by rfl) T.n_range boot_range (bI eM eD)) eD))) eD)))) oN)
   (fP (aP9 (iE (aB1 hr.units) (aI G_law_take (hr.mono (by decide)) rfl T.m_law_take T.F_law_take.kp (aJ T) .nil aY (bI (pv 0) (bI eM eD))) eM (cF _)) (iW (sJ (cD1 K rfl PySem.F.plainAttrs_list PySem.F.slot_list_pop PySem.F.type_list_pop cQ5 (pv 2)))) oN)
   (iW (bT6 (pv 2))))))))),?_⟩
  rw[show iF ["_law_box_here","_law_many","_law_found","_law_own","_law_k","_law_j"] [.ref p]=([some (.ref p),none,none,none,none,none]:St)from rfl]
  have bxne:∀ {w:Addr},H w=none->w≠p:=fun hw z=>by subst z;obtain⟨i',j',e'⟩:=hb;rw[hw]at e';cases e'
  have mono:∀ {H' H'':Hp} {es:List V},xQ H H' es->(∀ w,H w=none->∀ o,H' w=some o->H'' w=some o)->xQ H H'' es:=fun ho hk e he=>by
   obtain⟨w,ns,e1,e2,e3,e4,e5⟩:=ho e he
   exact⟨w,ns,e1,hk w e5 _ e2,e3,e4,e5⟩
  have byBut:∀ {H' H'':Hp} {es:List V},xQ H H' es->SameBut p H' H''->xQ H H'' es:=fun ho hs=>mono ho fun w hw o e=>hs w o (bxne hw) e
  have byNew:∀ {H':Hp} {es:List V} {l:Addr} {o:HO},xQ H H' es->H' l=none->xQ H (upd H' l o) es:=fun ho hl=>mono ho fun w _ o e=>by rw[aL (aV e hl)];exact e
  try walk_at "sy"
  rw[bV2]
  try walk_at "sy"
  refine cC4 ⟨p,4,rfl,hb,by decide,by decide,fun d1 H1 d10 d11 hb1 hs1=>?_⟩
  try walk_at "sy"
  have m0:3<=3+d1:=by omega
  have m6:3+d1<=6:=by omega
  generalize hmm:(3+d1:Int)=m at m0 m6 ⊢
  clear hmm d10 d11 d1
  refine vV (fun σ' H'=>∃ (s:Addr) (es:List V),σ'=[some (V.ref p),some (V.int m),some (V.ref s),none,none,none]/\H s=none/\H' s=some (.lst es)/\es.length=m.toNat/\xQ H H' es/\eW H' p/\SameBut p H H') ?_ ?_
  ·clear hb1 hs1
   rintro σ' H2 ⟨s,es,rfl,hs0,hse,hel,hol,hb2,hs2⟩
   refine vV (fun σ' H'=>∃ (m':Int) (s':Addr) (es':List V),σ'=[some (V.ref p),some (V.int m'),some (V.ref s'),none,none,none]/\3<=m'/\m'<=6/\H s'=none/\H' s'=some (.lst es')/\es'.length=m'.toNat/\xQ H H' es'/\eW H' p/\SameBut p H H') ?_ ?_
   ·clear hs0 hse hel hol hb2 hs2 m0 m6
    rintro σ' H3 ⟨m,s,es,rfl,m0,m6,hs0,hse,hel,hol,hb3,hs3⟩
    refine vV (fun σ' H'=>∃ o3:Option V,σ'=[some (V.ref p),some (V.int m),some (V.ref s),o3,none,none]/\H' s=some (.lst es)/\xQ H H' es/\eW H' p/\SameBut p H H') ?_ ?_
    ·clear hse hol hb3 hs3
     rintro σ' H4 ⟨o3,rfl,hse,hol,hb4,hs4⟩
     refine vV (fun σ' H'=>∃ es':List V,σ'=[some (V.ref p),some (V.int m),some (V.ref s),o3,none,none]/\H' s=some (.lst es')/\3<=es'.length/\es'.length<=6/\xQ H H' es'/\eW H' p/\SameBut p H H') ?_ ?_
     ·clear hse hol hb4 hs4 hel
      rintro σ' H5 ⟨es,rfl,hse,hl3,hl6,hol,hb5,hs5⟩
      refine vV (fun σ' H'=>∃ es':List V,σ'=[some (V.ref p),some (V.int m),some (V.ref s),o3,none,none]/\H' s=some (.lst es')/\1<=es'.length/\es'.length<=6/\xQ H H' es'/\eW H' p/\SameBut p H H') ?_ ?_
      ·clear hse hl3 hl6 hol hb5 hs5
       rintro σ' H6 ⟨es,rfl,hse,hl1,hl6,hol,hb6,hs6⟩
       try walk_at "sx"
       exact k s es H6 hs0 hse hl1 hl6 hol hb6 hs6
      ·intro C hC
       try walk_at "sx"
       refine cC4 ⟨p,4,rfl,hb5,by decide,by decide,fun d6 H6 d60 d61 hb6 hs6=>?_⟩
       try walk_at "sx"
       have hse6:=hs6 s _ (bxne hs0) hse
       refine bU3 (fun _=>?_) (fun _=>hC _ _ ⟨es,rfl,hse6,by omega,hl6,byBut hol hs6,hb6,hs5.trans hs6⟩)
       refine⟨tyL hse6,s,es,es[es.length-1],rfl,rfl,hse6,List.getElem?_eq_getElem (by omega),?_⟩
       refine hC _ _ ⟨es.dropLast,rfl,aR,by rw[List.length_dropLast];omega,by rw[List.length_dropLast];omega,?_,hb6.put (bxne hs0),(hs5.trans hs6).put hs0⟩
       intro e he
       have he':=List.dropLast_subset _ he
       obtain⟨w',ns',f1,f2,f3,f4,f5⟩:=(byBut hol hs6) e he'
       have hne:w'≠s:=vB f2 hse6 (by rw[← f1];exact he')
       exact⟨w',ns',f1,by rw[aL hne];exact f2,f3,f4,f5⟩
     ·intro C hC
      have skip:∀ H',eW H' p->SameBut p H4 H'->C [some (V.ref p),some (V.int m),some (V.ref s),o3,none,none] H':=fun H' hb' hs'=>
       hC _ _ ⟨es,rfl,hs' s _ (bxne hs0) hse,by omega,by omega,byBut hol hs',hb',hs4.trans hs'⟩
      try walk_at "sx"
      rw[rG (oA hse)]
      try walk_at "sx"
      refine bU3 (fun hl=>?_) (fun _=>?_)
      ·have hl6:(es.length:Int) < 6:=by simpa using hl
       refine cC4 ⟨p,3,rfl,hb4,by decide,by decide,fun d5 H5 d50 d51 hb5 hs5=>?_⟩
       try walk_at "sx"
       refine bU3 (fun _=>?_) (fun _=>skip _ hb5 hs5)
       have hse5:=hs5 s _ (bxne hs0) hse
       refine⟨tyL hse5,6,rfl,by decide,by decide,fun q hq=>?_⟩
       have hsq:SameBut p H5 (upd H5 q (.lst i6)):=SameBut.refl.upd hq
       refine cC4 ⟨p,q,rfl,hb5.upd hq,aR,fun r ns H6 hr e6 n5 nm hb6 hs6=>?_⟩
       have hs56:=hsq.trans hs6
       have hse6:=hs56 s _ (bxne hs0) hse5
       have hs45:=hs4.trans hs5
       refine⟨s,es,_,rfl,rfl,hse6,Nat.lt_of_le_of_lt (by omega:es.length<=6) (by decide),?_⟩
       refine hC _ _ ⟨es++[.ref r],rfl,aR,by simp;omega,by simp;omega,?_,hb6.put (bxne hs0),(hs45.trans hs56).put hs0⟩
       intro e he
       rcases List.mem_append.mp he with h | h
       ·obtain⟨w',ns',f1,f2,f3,f4,f5⟩:=(byBut hol (hs5.trans hs56)) e h
        have hne:w'≠s:=vB f2 hse6 (by rw[← f1];exact h)
        exact⟨w',ns',f1,by rw[aL hne];exact f2,f3,f4,f5⟩
       ·rw[List.mem_singleton.mp h]
        have hrs:r≠s:=(aV (hsq s _ (bxne hs0) hse5) hr).symm
        exact⟨r,ns,rfl,by rw[aL hrs];exact e6,n5,nm,(hs45.trans hsq).none (hb5.upd hq) hr⟩
      ·try refine dD4 ?_
       exact skip _ hb4 SameBut.refl
    ·intro C hC
     try walk_at "sx"
     refine up (bM0 (oA hse)) ?_
     refine cR9 (vS (xs:=es)) (fun i σ H'=>∃ o3:Option V,σ=[some (V.ref p),some (V.int m),some (V.ref s),o3,none,none]/\H' s=some (.lst es)/\xQ H H' es/\eW H' p/\SameBut p H H') ⟨none,rfl,hse,hol,hb3,hs3⟩ ?_ ?_ ?_
     ·rintro i σ H' ⟨o3,_,h2,_⟩
      exact SqL.of h2
     ·rintro i x σ H' hx ⟨o3,rfl,h2,h4,h5,h6⟩
      have hxm:=List.mem_of_getElem? hx
      obtain⟨w,ns,rfl,ww,wl,wn,w0⟩:=h4 x hxm
      have hws:w≠s:=vB ww h2 hxm
      have skip:∀ H'',eW H'' p->SameBut p H' H''->∃ o3:Option V,[some (V.ref p),some (V.int m),some (V.ref s),some (V.ref w),none,none]=[some (V.ref p),some (V.int m),some (V.ref s),o3,none,none]/\H'' s=some (.lst es)/\xQ H H'' es/\eW H'' p/\SameBut p H H'':=fun H'' hb' hs'=>
       ⟨_,rfl,hs' s _ (bxne hs0) h2,byBut h4 hs',hb',h6.trans hs'⟩
      try walk_at "sx"
      refine bU3 (fun hm=>?_) (fun _=>?_)
      ·have hm6:m < 6:=by simpa using hm
       rw[rG (oA ww)]
       try walk_at "sx"
       refine bU3 (fun hl=>?_) (fun _=>?_)
       ·rw[List.length_map]at hl
        have hl4:(ns.length:Int) < 4:=by simpa using hl
        refine cC4 ⟨p,3,rfl,h5,by decide,by decide,fun d7 H7 d70 d71 hb7 hs7=>?_⟩
        try walk_at "sx"
        refine bU3 (fun _=>?_) (fun _=>skip _ hb7 hs7)
        have ww7:=hs7 w _ (bxne w0) ww
        refine⟨tyL ww7,?_⟩
        refine cC4 ⟨p,6-m,rfl,hb7,by omega,by omega,fun d8 H8 d80 d81 hb8 hs8=>?_⟩
        have ww8:=hs8 w _ (bxne w0) ww7
        try walk_at "sx"
        have hs78:=hs7.trans hs8
        refine⟨w,_,_,rfl,rfl,ww8,by rw[List.length_map];exact Nat.lt_of_le_of_lt (by omega:ns.length<=10) (by decide),?_⟩
        refine⟨_,rfl,by rw[aL hws.symm];exact hs78 s _ (bxne hs0) h2,?_,hb8.put (bxne w0),(h6.trans hs78).put w0⟩
        intro e he
        obtain⟨w',ns',e1,e2,e3,e4,e5⟩:=(byBut h4 hs78) e he
        by_cases hww:w'=w
        ·subst hww
         rw[ww8]at e2
         refine⟨w',ns++[m+d8],e1,by rw[aR];simp,by simp;omega,?_,e5⟩
         intro n hn
         rcases List.mem_append.mp hn with h | h
         ·exact wn n h
         ·rw[List.mem_singleton.mp h];omega
        ·exact⟨w',ns',e1,by rw[aL hww];exact e2,e3,e4,e5⟩
       ·try refine dD4 ?_
        exact skip _ h5 SameBut.refl
      ·try refine dD4 ?_
       exact skip _ h5 SameBut.refl
     ·rintro σ H' ⟨o3,rfl,h2,h4,h5,h6⟩
      exact hC _ _ ⟨o3,rfl,h2,h4,h5,h6⟩
   ·intro C hC
    try walk_at "sx"
    refine cC4 ⟨p,2,rfl,hb2,by decide,by decide,fun d3 H3 d30 d31 hb3 hs3=>?_⟩
    try walk_at "sx"
    refine bU3 (fun _=>?_) (fun _=>hC _ _ ⟨m,s,es,rfl,m0,m6,hs0,hs3 s _ (bxne hs0) hse,hel,byBut hol hs3,hb3,hs2.trans hs3⟩)
    obtain⟨m',hm',m0',m5'⟩:∃ m',min m 5=m'/\3<=m'/\m'<=5:=⟨_,rfl,by omega,by omega⟩
    rw[hm']
    have hs3':=hs2.trans hs3
    refine⟨m',rfl,by omega,by omega,?_⟩
    refine yD (P:=fun _=>True) lC (fun i ys H'=>ys.length=i/\xQ H H' ys/\eW H' p/\SameBut p H H') ⟨rfl,(fun e he=>nomatch he),hb3,hs3'⟩ ?_ (by rw[dW];exact Nat.le_trans (by omega:m'.toNat<=6) (by decide)) ?_ ?_
    ·rintro i ys H' ⟨h1,_⟩
     exact⟨trivial,by omega⟩
    ·rintro i x ys H' N hx ⟨h1,h2,h4,h5⟩ hN
     obtain⟨hi,rfl⟩:=lB hx
     try walk_at "sx"
     refine⟨m',rfl,by omega,by omega,?_⟩
     refine yD (P:=fun _=>True) lC (fun j us H''=>j<=5/\∃ ws:List Int,us=ws.map V.int/\ws.length<=j/\(j<=i->ws.length=j)/\(i < j->ws.length+1=j)/\(∀ n∈ws,0<=n/\n < 6)/\H''=H') ⟨by omega,[],rfl,Nat.le_refl _,(fun _=>rfl),(fun h=>absurd h (Nat.not_lt_zero _)),(fun z hz=>nomatch hz),rfl⟩ ?_ (by rw[dW];exact Nat.le_trans (by omega:m'.toNat<=6) (by decide)) ?_ ?_
     ·rintro j us H'' ⟨_,ws,rfl,h,_,_,_,rfl⟩
      exact⟨trivial,by rw[List.length_map];exact h⟩
     ·rintro j y us H'' N2 hy ⟨_,ws,rfl,g1,c1,c2,g2,rfl⟩ hN2
      obtain⟨hj,rfl⟩:=lB hy
      try walk_at "sx"
      refine bU3 (fun hc=>?_) (fun hc=>?_)
      ·have hne:j≠i:=by rintro rfl;simp at hc
       refine hN2 _ _ ⟨by omega,ws++[0+(j:Int)],by simp,by simp;omega,by simp;omega,by simp;omega,?_,rfl⟩
       intro n hn
       rcases List.mem_append.mp hn with h | h
       ·exact g2 n h
       ·rw[List.mem_singleton.mp h];omega
      ·have hc2:((j:Nat):Int)=i:=by simpa using hc
       have heq:j=i:=by omega
       exact hN2 _ _ ⟨by omega,ws,rfl,by omega,by omega,by omega,g2,rfl⟩
     ·rintro us H'' ⟨gj,ws,rfl,g1,c1,c2,g2,rfl⟩ l hl
      rw[dW]at gj g1 c1 c2
      refine hN _ _ ⟨by simp[h1],?_,h4.upd hl,h5.upd hl⟩
      intro e he
      rcases List.mem_append.mp he with h | h
      ·exact(byNew h2 hl) e h
      ·rw[List.mem_singleton.mp h]
       exact⟨l,ws,rfl,aR,by omega,g2,h5.none h4 hl⟩
    ·rintro ys H' ⟨h1,h2,h4,h5⟩ l hl
     try walk_at "sx"
     rw[dW]at h1
     exact hC _ _ ⟨m',l,ys,rfl,m0',by omega,h5.none h4 hl,aR,h1,byNew h2 hl,h4.upd hl,h5.upd hl⟩
  ·intro C hC
   try walk_at "sx"
   refine⟨m,rfl,by omega,by omega,?_⟩
   refine yD (P:=fun _=>True) lC (fun i ys H'=>ys.length=i/\xQ H H' ys/\eW H' p/\SameBut p H H') ⟨rfl,(fun e he=>nomatch he),hb1,hs1⟩ ?_ (by rw[dW];exact Nat.le_trans (by omega:m.toNat<=6) (by decide)) ?_ ?_
   ·rintro i ys H' ⟨h1,_⟩
    exact⟨trivial,by omega⟩
   ·rintro i x ys H' N hx ⟨h1,h2,h4,h5⟩ hN
    obtain⟨hi,rfl⟩:=lB hx
    try walk_at "sx"
    rw[cS1 (by omega)]
    have hmod0:0<=(0+(i:Int)+1) % m:=Int.emod_nonneg _ (by omega)
    have hmod1:(0+(i:Int)+1) % m < m:=Int.emod_lt_of_pos _ (by omega)
    refine⟨by show 2<=sizeLine;decide,fun l hl=>?_⟩
    refine hN _ _ ⟨by simp[h1],?_,h4.upd hl,h5.upd hl⟩
    intro e he
    rcases List.mem_append.mp he with h | h
    ·exact(byNew h2 hl) e h
    ·rw[List.mem_singleton.mp h]
     refine⟨l,[0+(i:Int),(0+(i:Int)+1) % m],rfl,aR,by show 1<=2/\2<=4;decide,?_,h5.none h4 hl⟩
     intro n hn
     simp only[List.mem_cons,List.not_mem_nil,or_false]at hn
     rcases hn with rfl | rfl<;>omega
   ·rintro ys H' ⟨h1,h2,h4,h5⟩ l hl
    try walk_at "sx"
    rw[dW]at h1
    exact hC _ _ ⟨l,ys,rfl,h5.none h4 hl,aR,h1,byNew h2 hl,h4.upd hl,h5.upd hl⟩
end
open Dv
theorem bJ3{K:PySem.W.Frag}(vs:List V)(H:Hp)(Q:L2.VK)(E:XK)(h:oW K vs H Q E):dsp 2 aE vs H Q E:=by
 obtain⟨p,m,rfl,⟨i,j,hp⟩,m0,m1,k⟩:=h
 have r:=bD (a:=i) (b:=j) (m:=m) m0 (by omega) (K:=fun res as'=>∃ d a' b',0<=d/\d < m/\res=.val (.int d)/\as'=[⟨.par,.lst [.int a',.int b']⟩,⟨.val,.int m⟩]) fun d a' b' h1 h2=>⟨d,a',b',h1,h2,rfl,rfl⟩
 obtain⟨⟨res,as'⟩,e,d,a',b',h1,h2,e1,e2⟩:=kA.mp r
 cases e1;cases e2
 refine⟨_,_,_,cI6 hp,rfl,e,fun v H' po nw=>?_⟩
 cases nw
 obtain⟨q1,q2⟩:=bR3 po
 exact k d H' h1 h2 q1 q2
abbrev d6:List D:=(List.range 6).map fun(i:Nat)=>D.int (i:Int)
theorem bJ4{K:PySem.W.Frag}(vs:List V)(H:Hp)(Q:L2.VK)(E:XK)(h:qN K vs H Q E):dsp 2 bM vs H Q E:=by
 obtain⟨p,q,rfl,⟨i,j,hp⟩,hq,k⟩:=h
 have hpq:p≠q:=fun z=>by
  subst z
  rw[hp]at hq
  cases hq
 have e6:∀ {H':Hp} {xs:List V},Rps H' d6 xs->xs=i6:=fun r=>Rps.ints_inv (ns:=(List.range 6).map fun(i:Nat)=>(i:Int)) r
 have r6:Rps H d6 i6:=gG ((List.range 6).map fun(i:Nat)=>(i:Int))
 have r:=zP (a:=i) (b:=j) (xs:=d6) (m:=.par) (t:=.lst d6) (.inl ⟨rfl,rfl⟩) (by decide) (by decide) (K:=fun res as'=>∃ ys a' b',(1<=ys.length/\ys.length<=4)/\(∀ y∈ys,y∈d6)/\res=.own (.lst ys)/\as'=[⟨.par,.lst [.int a',.int b']⟩,⟨.par,.lst d6⟩]) fun ys a' b' h0 h2 h3=>⟨ys,a',b',⟨List.length_pos_iff.mpr h0,h2⟩,h3,rfl,rfl⟩
 obtain⟨⟨res,as'⟩,e,ys,a',b',h1,h2,e1,e2⟩:=kA.mp r
 cases e1;cases e2
 refine⟨[⟨.par,.lst [.int i,.int j]⟩,⟨.par,.lst d6⟩],_,_,⟨rfl,fun n s es=>?_,fun n l s t c hn es et m1 m2 v1 v2=>?_,fun n s es=>?_⟩,rfl,e,fun v H' po nw=>?_⟩
 ·match n,es with
  | 0,es=>cases es;exact⟨_,rfl,p,rfl,_,hp,gG [i,j]⟩
  | 1,es=>cases es;exact⟨_,rfl,q,rfl,_,hq,r6⟩
 ·match n,es,l,et with
  | 0,_,0,_=>exact hn rfl
  | 0,_,1,_=>cases v1;cases v2;exact hpq rfl
  | 1,_,0,_=>cases v1;cases v2;exact hpq rfl
  | 1,_,1,_=>exact hn rfl
 ·match n,es with
  | 0,es=>cases es;exact fun z=>nomatch z
  | 1,es=>cases es;exact fun z=>nomatch z
 ·obtain⟨r,rfl,hr,xs,hx,hrp⟩:=nw
  obtain⟨ns,rfl,hnl,hnm⟩:=qM (P:=fun n=>0<=n/\n < 6) (ys:=ys) fun y hy=>by
   obtain⟨x,hx,rfl⟩:=List.mem_map.mp (h2 y hy)
   have:=List.mem_range.mp hx
   exact⟨x,by omega,rfl⟩
  rw[hrp.ints_inv]at hx
  obtain⟨s0,v0,f1,f2,f3,f4⟩:=po.rel 0 _ rfl rfl
  cases f1;cases f3
  obtain⟨_,g0,xs0,g1,g2⟩:=(cS (s:=⟨.par,.lst [.int a',.int b']⟩) (fun z=>nomatch z)).mp f4
  cases g0
  rw[Rps.ints_inv (ns:=[a',b']) g2]at g1
  obtain⟨s1,v1,u1,u2,u3,u4⟩:=po.rel 1 _ rfl rfl
  cases u1;cases u3
  obtain⟨_,w0,xs1,w1,w2⟩:=(cS (s:=⟨.par,.lst d6⟩) (fun z=>nomatch z)).mp u4
  cases w0
  rw[e6 w2]at w1
  refine k r ns H' hr hx (by omega) hnm ⟨a',b',g1⟩ fun c o hc eo=>?_
  by_cases hcq:c=q
  ·subst hcq
   rw[hq]at eo;cases eo;exact w1
  ·refine po.fr c o eo fun⟨n,s,es,mt,ev⟩=>?_
   match n,es with
   | 0,_=>cases ev;exact hc rfl
   | 1,_=>cases ev;exact hcq rfl
theorem vC{H0:Hp}{r:Addr}{In:Hp->Prop}(hst:∀ H w o u,In H->H0 w=none->w≠r->In (upd H w (.frz o u))){Q:Hp->Prop}:∀ (todo done:List (V×List Int)) (H:Hp),In H ->
  (∀ x∈todo,∃ w,x.1=.ref w/\(H w=some (.lst (x.2.map V.int))\/∃ o,H w=some (.frz o (.lst (x.2.map V.int))))/\H0 w=none/\w≠r) ->
  (∀ x∈done,∃ w o,x.1=.ref w/\H w=some (.frz o (.lst (x.2.map V.int)))) ->
  (∀ H',In H'->(∀ x∈done++todo,∃ w o,x.1=.ref w/\H' w=some (.frz o (.lst (x.2.map V.int))))->Q H')->FQ Q H
 | [],done,H,hi,_,hd,k=>.done (k H hi (by rw[List.append_nil];exact hd))
 | x::todo,done,H,hi,ht,hd,k=>by
   obtain⟨w,ew,hw,w0,wr⟩:=ht x List.mem_cons_self
   have ht':=fun y hy=>ht y (List.mem_cons_of_mem _ hy)
   have k':∀ H',In H'->(∀ y∈(done++[x])++todo,∃ w o,y.1=.ref w/\H' w=some (.frz o (.lst (y.2.map V.int))))->Q H':=fun H' a b=>k H' a (by rw[List.append_assoc]at b;exact b)
   rcases hw with hw | ⟨o,hw⟩
   ·refine .step hw True.intro fun o=>vC hst todo (done++[x]) _ (hst _ _ _ _ hi w0 wr) (fun y hy=>?_) (fun y hy=>?_) k'
    ·obtain⟨u,eu,hu,u0,ur⟩:=ht' y hy
     refine⟨u,eu,?_,u0,ur⟩
     by_cases huw:u=w
     ·subst huw
      rw[aR]
      rcases hu with hu | ⟨o',hu⟩
      ·rw[hw]at hu
       injection hu with hu
       rw[hu]
       exact .inr ⟨o,rfl⟩
      ·rw[hw]at hu;cases hu
     ·rw[aL huw];exact hu
    ·rcases List.mem_append.mp hy with h | h
     ·obtain⟨u,o',eu,hu⟩:=hd y h
      exact⟨u,o',eu,by rw[aL (fun z=>by subst z;rw[hw]at hu;cases hu)];exact hu⟩
     ·rw[List.mem_singleton.mp h]
      exact⟨w,o,ew,aR⟩
   ·refine vC hst todo (done++[x]) H hi ht' (fun y hy=>?_) k'
    rcases List.mem_append.mp hy with h | h
    ·exact hd y h
    ·rw[List.mem_singleton.mp h]
     exact⟨w,o,ew,hw⟩
theorem aP8{H0 H:Hp}{r:Addr}{es:List V}(hr:∀ w (ns:List Int),H w=some (.lst (ns.map V.int))->V.ref w∈es->w≠r):∀ {l:List V},(∀ e∈l,e∈es)->xQ H0 H l->∃ ps:List (V×List Int),ps.map Prod.fst=l/\(∀ x∈ps,(1<=x.2.length/\x.2.length<=4)/\∀ n∈x.2,0<=n/\n < 6) /\
  ∀ x∈ps,∃ w,x.1=.ref w/\(H w=some (.lst (x.2.map V.int))\/∃ o,H w=some (.frz o (.lst (x.2.map V.int))))/\H0 w=none/\w≠r
 | [],_,_=>⟨[],rfl,fun _ h=>absurd h List.not_mem_nil,fun _ h=>absurd h List.not_mem_nil⟩
 | e::l,hm,ho=>by
   obtain⟨ps,h1,h2,h3⟩:=aP8 hr (fun x hx=>hm x (List.mem_cons_of_mem _ hx)) fun x hx=>ho x (List.mem_cons_of_mem _ hx)
   obtain⟨w,ns,e1,e2,e3,e4,e5⟩:=ho e List.mem_cons_self
   refine⟨(e,ns)::ps,by rw[List.map_cons,h1],fun x hx=>?_,fun x hx=>?_⟩
   ·rcases List.mem_cons.mp hx with rfl | hx
    ·exact⟨e3,e4⟩
    ·exact h2 x hx
   ·rcases List.mem_cons.mp hx with rfl | hx
    ·exact⟨w,e1,.inl e2,e5,hr w ns e2 (by rw[← e1];exact hm e List.mem_cons_self)⟩
    ·exact h3 x hx
theorem xR{H:Hp}:∀ {ps:List (V×List Int)},(∀ x∈ps,∃ w o,x.1=.ref w/\H w=some (.frz o (.lst (x.2.map V.int))))->Rps H (ps.map fun x=>.lst (x.2.map D.int)) (ps.map Prod.fst)
 | [],_=>.nil
 | x::r,h=>by
   obtain⟨w,o,e1,e2⟩:=h x List.mem_cons_self
   rw[List.map_cons,List.map_cons,e1]
   exact .cons (.lst e2 (gG _)) (xR fun y hy=>h y (List.mem_cons_of_mem _ hy))
theorem cK8{K:PySem.W.Frag}(vs:List V)(H:Hp)(Q:L2.VK)(E:XK)(h:bA9 1 cRS vs H Q E):spF (iD K) vs H Q E:=by
 obtain⟨as,ao,hl,a,b,rfl,q⟩:=h
 obtain⟨v0,e0,r0⟩:=ao.rel 0 _ rfl
 obtain⟨p,rfl,xs,hp,hr⟩:=(cS (s:=⟨.par,.lst [.int a,.int b]⟩) (fun z=>nomatch z)).mp r0
 rw[Rps.ints_inv (ns:=[a,b]) hr]at hp
 have ev:vs=[.ref p]:=by
  have hl:=ao.len
  match vs,hl with
  | [x],_=>cases e0;rfl
 subst ev
 refine⟨p,rfl,⟨a,b,hp⟩,fun r es H' hr he l1 l6 ho hb hs=>?_⟩
 obtain⟨ps,h1,h2,h3⟩:=aP8 (r:=r) (es:=es) (fun w ns hw hm=>vB hw he hm) (fun e h=>h) ho
 refine vC (H0:=H) (r:=r) (In:=fun H2=>H2 r=some (.lst es)/\eW H2 p/\SameBut p H H2) (fun H2 w o u ⟨g1,g2,g3⟩ w0 wr=>⟨by rw[aL wr.symm];exact g1,g2.put (fun z=>by subst z;rw[hp]at w0;cases w0),g3.put w0⟩) ps [] H' ⟨he,hb,hs⟩ h3 (fun _ h=>absurd h List.not_mem_nil) fun H2 ⟨g1,⟨a',b',g2⟩,g3⟩ g4=>?_
 have hpl:ps.length=es.length:=by rw[← h1,List.length_map]
 have rp:=xR (ps:=ps) g4
 rw[h1]at rp
 refine q (ps.map Prod.snd) a' b' ⟨by rw[List.length_map];omega,by rw[List.length_map];omega,fun l hl=>?_⟩ (.ref r) H2 ⟨fun n s e mt=>?_,fun c o e n=>g3 c o (fun z=>n ⟨0,_,rfl,rfl,by rw[z];rfl⟩) e,fun c e=>?_⟩ ⟨r,rfl,hr,es,g1,by rw[List.map_map];exact rp⟩
 ·obtain⟨x,hx,rfl⟩:=List.mem_map.mp hl
  exact⟨(h2 x hx).1,(h2 x hx).2⟩
 ·match n,e with
  | 0,e=>cases e;exact⟨_,_,rfl,rfl,rfl,p,rfl,_,g2,gG [a',b']⟩
 ·cases e2:H c with
  | none=>rfl
  | some o=>
    by_cases z:c=p
    ·subst z;rw[g2]at e;cases e
    ·rw[g3 c o z e2]at e;cases e
noncomputable def adr:Adr:=⟨72,Hd.cM7,84,Hd.cM9,91,Hd.cN0,101,Hd.bS5,96,Hd.cN1,77,Hd.cM8,106,Hd.bS6,65,Hd.cM6,111,Hd.bS7,133,Hd.bT0,138,Hd.bT1,121,Hd.bS8,145,Hd.bT2,152,Hd.bT3,159,Hd.bT4,126,Hd.bS9,46,Hd.cM3,41,Hd.cM2,26,Hd.cL9,21,Hd.cL8,31,Hd.cM0,36,Hd.cM1,53,Hd.cM4,58,Hd.cM5,166,Hd.zY⟩
theorem nX{K:PySem.W.Frag}{x q:Str}{s:Stmt}{f:Addr}{fd:FuncData}(m:Value)(c:Addr)(e:fd=PySem.W.fnOf x q (yA s) (mB s) (aS s) .none .none .none m none (.ref c) .none)(l:K.lookup f=some ⟨.type "function",none,.func fd,#[]⟩)(d:PySem.W.codeIn K (.ref c) q=true)(k:PySem.W.keepIn K (.ref f)=true):Fun K x q s f fd:=⟨⟨_,_,_,_,_,_,_,_,_,e,l,d⟩,k⟩
theorem txt{P:Params}{h:Heap}{mg:Str->Option Value}(X:(Hd.KF P).In h)(G:h.Ns mainGlobals mg):Txt (Hd.KF P) mg adr:=⟨PySem.W.mg_of X G (by kernel_rfl),
nX (.str "law_mostrows_k50_tables_that_agree" 246) 71 (by kernel_rfl) (by kernel_rfl) (by kernel_rfl) (by kernel_rfl),
PySem.W.mg_of X G (by kernel_rfl),
nX (.str "law_mostrows_k50_tables_that_agree" 246) 83 (by kernel_rfl) (by kernel_rfl) (by kernel_rfl) (by kernel_rfl),
PySem.W.mg_of X G (by kernel_rfl),
nX (.str "law_mostrows_k50_tables_that_agree" 246) 90 (by kernel_rfl) (by kernel_rfl) (by kernel_rfl) (by kernel_rfl),
PySem.W.mg_of X G (by kernel_rfl),
nX (.str "law_mostrows_k50_tables_that_agree" 246) 100 (by kernel_rfl) (by kernel_rfl) (by kernel_rfl) (by kernel_rfl),
PySem.W.mg_of X G (by kernel_rfl),
nX (.str "law_mostrows_k50_tables_that_agree" 246) 95 (by kernel_rfl) (by kernel_rfl) (by kernel_rfl) (by kernel_rfl),
PySem.W.mg_of X G (by kernel_rfl),
nX (.str "law_mostrows_k50_tables_that_agree" 246) 76 (by kernel_rfl) (by kernel_rfl) (by kernel_rfl) (by kernel_rfl),
PySem.W.mg_of X G (by kernel_rfl),
nX (.str "law_mostrows_k50_tables_that_agree" 246) 105 (by kernel_rfl) (by kernel_rfl) (by kernel_rfl) (by kernel_rfl),
PySem.W.mg_of X G (by kernel_rfl),
nX (.str "law_mostrows_k50_tables_that_agree" 246) 64 (by kernel_rfl) (by kernel_rfl) (by kernel_rfl) (by kernel_rfl),
PySem.W.mg_of X G (by kernel_rfl),
nX (.str "law_mostrows_k50_tables_that_agree" 246) 110 (by kernel_rfl) (by kernel_rfl) (by kernel_rfl) (by kernel_rfl),
PySem.W.mg_of X G (by kernel_rfl),
nX (.str "law_mostrows_k50_tables_that_agree" 246) 132 (by kernel_rfl) (by kernel_rfl) (by kernel_rfl) (by kernel_rfl),
PySem.W.mg_of X G (by kernel_rfl),
nX (.str "law_mostrows_k50_tables_that_agree" 246) 137 (by kernel_rfl) (by kernel_rfl) (by kernel_rfl) (by kernel_rfl),
PySem.W.mg_of X G (by kernel_rfl),
nX (.str "law_mostrows_k50_tables_that_agree" 246) 120 (by kernel_rfl) (by kernel_rfl) (by kernel_rfl) (by kernel_rfl),
PySem.W.mg_of X G (by kernel_rfl),
nX (.str "law_mostrows_k50_tables_that_agree" 246) 144 (by kernel_rfl) (by kernel_rfl) (by kernel_rfl) (by kernel_rfl),
PySem.W.mg_of X G (by kernel_rfl),
nX (.str "law_mostrows_k50_tables_that_agree" 246) 151 (by kernel_rfl) (by kernel_rfl) (by kernel_rfl) (by kernel_rfl),
PySem.W.mg_of X G (by kernel_rfl),
nX (.str "law_mostrows_k50_tables_that_agree" 246) 158 (by kernel_rfl) (by kernel_rfl) (by kernel_rfl) (by kernel_rfl),
PySem.W.mg_of X G (by kernel_rfl),
nX (.str "law_mostrows_k50_tables_that_agree" 246) 125 (by kernel_rfl) (by kernel_rfl) (by kernel_rfl) (by kernel_rfl),
PySem.W.mg_of X G (by kernel_rfl),
nX (.str "mostrows.houses" 221) 45 (by kernel_rfl) (by kernel_rfl) (by kernel_rfl) (by kernel_rfl),
PySem.W.mg_of X G (by kernel_rfl),
nX (.str "mostrows.tables" 187) 40 (by kernel_rfl) (by kernel_rfl) (by kernel_rfl) (by kernel_rfl),
PySem.W.mg_of X G (by kernel_rfl),
nX (.str "mostrows.tables" 187) 25 (by kernel_rfl) (by kernel_rfl) (by kernel_rfl) (by kernel_rfl),
PySem.W.mg_of X G (by kernel_rfl),
nX (.str "mostrows.tables" 187) 20 (by kernel_rfl) (by kernel_rfl) (by kernel_rfl) (by kernel_rfl),
PySem.W.mg_of X G (by kernel_rfl),
nX (.str "mostrows.tables" 187) 30 (by kernel_rfl) (by kernel_rfl) (by kernel_rfl) (by kernel_rfl),
PySem.W.mg_of X G (by kernel_rfl),
nX (.str "mostrows.tables" 187) 35 (by kernel_rfl) (by kernel_rfl) (by kernel_rfl) (by kernel_rfl),
PySem.W.mg_of X G (by kernel_rfl),
nX (.str "mostrows.agreeing" 229) 52 (by kernel_rfl) (by kernel_rfl) (by kernel_rfl) (by kernel_rfl),
PySem.W.mg_of X G (by kernel_rfl),
nX (.str "mostrows.agreeing" 229) 57 (by kernel_rfl) (by kernel_rfl) (by kernel_rfl) (by kernel_rfl),
PySem.W.mg_of X G (by kernel_rfl),
nX (.str "law_mostrows_k50_tables_that_agree" 246) 165 (by kernel_rfl) (by kernel_rfl) (by kernel_rfl) (by kernel_rfl),
PySem.W.mg_none_of X G (by kernel_rfl),
PySem.W.mg_none_of X G (by kernel_rfl),
PySem.W.mg_none_of X G (by kernel_rfl),
PySem.W.mg_none_of X G (by kernel_rfl),
PySem.W.mg_none_of X G (by kernel_rfl),
PySem.W.mg_none_of X G (by kernel_rfl),
PySem.W.mg_none_of X G (by kernel_rfl),
PySem.W.mg_none_of X G (by kernel_rfl),
PySem.W.mg_none_of X G (by kernel_rfl),
PySem.W.mg_none_of X G (by kernel_rfl),
PySem.W.mg_none_of X G (by kernel_rfl),
PySem.W.mg_none_of X G (by kernel_rfl),
PySem.W.mg_none_of X G (by kernel_rfl),
PySem.W.mg_none_of X G (by kernel_rfl)⟩
theorem cZ7{P:Program}{w:World}{mg:Str->Option Value}{base:Heap}(T:Txt (Hd.KF w.params) mg adr):FnOk P w (Hd.KF w.params) mg base CX0 6 166 Hd.zY ["_law_script"] (bA9 1 qG):=by
 have G_law_take:=zJ (P:=P) (w:=w) (base:=base) T
 have G_law_shuffled:=qH (P:=P) (w:=w) (base:=base) T G_law_take
 have G_law_some:=zK (P:=P) (w:=w) (base:=base) T G_law_shuffled G_law_take
 have V_law_take:=G_law_take.imp (bJ3 (K:=Hd.KF w.params))
 have V_law_some:=G_law_some.imp (bJ4 (K:=Hd.KF w.params))
 have G_law_round_sets:=(lW (P:=P) (w:=w) (base:=base) T V_law_take V_law_some).fz.imp (cK8 (K:=Hd.KF w.params))
 have G_law_plain_sets:=mS (P:=P) (w:=w) (base:=base) T G_law_take G_law_some
 have G_law_names:=xE (P:=P) (w:=w) (base:=base) T G_law_take
 have G_law_question:=qI (P:=P) (w:=w) (base:=base) T G_law_take G_law_round_sets G_law_plain_sets G_law_shuffled G_law_names
 have G_law_box:=aT8 (P:=P) (w:=w) (base:=base) T
 have G_law_columns:=qZ (P:=P) (w:=w) (base:=base) T
 have G_law_value:=xF (P:=P) (w:=w) (base:=base) T G_law_take
 have G_law_rows_over:=nW (P:=P) (w:=w) (base:=base) T G_law_take G_law_value
 have G_law_cut:=aT9 (P:=P) (w:=w) (base:=base) T
 have G_law_house:=xG (P:=P) (w:=w) (base:=base) T G_law_columns G_law_rows_over G_law_take G_law_cut
 have G_law_changed:=rA (P:=P) (w:=w) (base:=base) T G_law_take
 have G_law_truth:=xH (P:=P) (w:=w) (base:=base) T
 have G_law_agree:=xI (P:=P) (w:=w) (base:=base) T G_law_cut
 have G_tables_of:=xJ (P:=P) (w:=w) (base:=base) T
 have G_common_columns:=mT (P:=P) (w:=w) (base:=base) T
 have G_places_of:=xK (P:=P) (w:=w) (base:=base) T
 have G_table_of:=zL (P:=P) (w:=w) (base:=base) T
 have G_picked:=bG5 (P:=P) (w:=w) (base:=base) T
 have G_cut:=cX7 (P:=P) (w:=w) (base:=base) T G_places_of G_table_of G_picked
 have G_agree_both:=uY (P:=P) (w:=w) (base:=base) T G_common_columns G_cut
 have G_agree:=bR4 (P:=P) (w:=w) (base:=base) T G_tables_of G_agree_both
 have G_law:=cX8 (P:=P) (w:=w) (base:=base) T G_law_question G_law_box G_law_house G_law_changed G_law_take G_law_truth G_law_agree G_agree
 exact G_law
theorem bS4:PySem.W.WalkO Hd.Vw [] (PySem.W.XL Hd.Vw []) (PySem.W.InK Hd.KF) PySem.Challenge.rw_mostrows_k50_tables_that_agree.row.toRowW Hd.dB4 [] (fun f vs=>PySem.call f vs):=by
 refine L2.cB7 (l:=PySem.Challenge.rw_mostrows_k50_tables_that_agree) (K:=Hd.KF) (n:=63) (k:=6) (x:="_law_script") (CX:=fun _=>CX0) (sp:=fun w=>bA9 1 qG) rfl (by decide) (by kernel_rfl) ⟨rfl,by decide,by decide⟩ (fun w h Y=>Y) (fun w mg fa h X G e=>?_) (fun w _ a ns hl hO hS=>aT7 (zH zI) (by kernel_rfl) hO hS (bS3 ns hl)) fun _ _ _ _ _ z=>z
 have T:=txt X G
 have e2:=T.m_law.symm.trans e
 cases e2
 exact⟨Hd.zY,fun s v=>.of_eq (by kernel_rfl),fun base _ _=>cZ7 T⟩
end Mr
open PySem PySem.W PyProof.Rows
theorem PySem.Challenge.cw_mostrows_k50_tables_that_agree_holds : PySem.Challenge.rw_mostrows_k50_tables_that_agree.Holds :=
 Hd.dJ7 Mr.bS4
#print axioms PySem.Challenge.cw_mostrows_k50_tables_that_agree_holds
